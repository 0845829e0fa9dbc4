import PyProof.Rows.All
import Wide.All
import OpenK.AllK
import Wide.FinOn
import Lean
import PyProof.EqAt
import PyProof.EqKinds
import PyProof.TupleCall
import PySem.Challenge.RW_chairclans_k11_a_row_in_its_windows
section
set_option Elab.async false
set_option linter.all false
set_option maxRecDepth 100000
namespace L2
open PySem PySem.Spec PyProof.Rows

noncomputable abbrev Key := Sum Int Str
noncomputable def keyIs : Key → Value → Bool
  | .inl k, v => Value.isInt k v
  | .inr x, v => Value.isStrOf x v
noncomputable def keyH (w : World) : Key → Int
  | .inl k => hashInt k
  | .inr x => hashStr w x
theorem keyIs_shape : ∀ {k : Key} {v : Value}, keyIs k v = true → (∃ i t, k = Sum.inl i ∧ v = Value.int i t) ∨ (∃ x t, k = Sum.inr x ∧ v = Value.str x t)
  | .inl i, v, h => by
    obtain ⟨t, e⟩ := Value.isInt_shape (k := i) (v := v) h
    exact .inl ⟨i, t, rfl, e⟩
  | .inr x, v, h => by
    obtain ⟨t, e⟩ := Value.isStrOf_shape (x := x) (v := v) h
    exact .inr ⟨x, t, rfl, e⟩
theorem key_ll (a b : Int) : decide ((Sum.inl a : Key) = Sum.inl b) = (a == b) := by
  by_cases e : a = b
  · subst e; simp
  · have h : ¬ (Sum.inl a : Key) = Sum.inl b := fun q => e (Sum.inl.inj q)
    rw [decide_eq_false h]
    exact (beq_eq_false_iff_ne.mpr e).symm
theorem key_rr (a b : Str) : decide ((Sum.inr a : Key) = Sum.inr b) = decide (a = b) := by
  by_cases e : a = b
  · subst e; simp
  · have h : ¬ (Sum.inr a : Key) = Sum.inr b := fun q => e (Sum.inr.inj q)
    rw [decide_eq_false h, decide_eq_false e]
theorem key_lr (a : Int) (b : Str) : decide ((Sum.inl a : Key) = Sum.inr b) = false := decide_eq_false (fun q => nomatch q)
theorem key_rl (a : Str) (b : Int) : decide ((Sum.inr a : Key) = Sum.inl b) = false := decide_eq_false (fun q => nomatch q)

noncomputable def mixKind (prog : Program) (w : World) : PySem.KeyKind prog w Key where
  is := keyIs
  hash := keyH w
  inj := fun v a b ha hb => by
    rcases keyIs_shape ha with ⟨i, t, rfl, rfl⟩ | ⟨x, t, rfl, rfl⟩
    · rcases keyIs_shape hb with ⟨j, u, rfl, e⟩ | ⟨y, u, rfl, e⟩
      · injection e with e1 _; rw [e1]
      · exact nomatch e
    · rcases keyIs_shape hb with ⟨j, u, rfl, e⟩ | ⟨y, u, rfl, e⟩
      · exact nomatch e
      · injection e with e1 _; rw [e1]
  byValue := fun k v h => by
    rcases keyIs_shape h with ⟨i, t, rfl, rfl⟩ | ⟨x, t, rfl, rfl⟩ <;> rfl
  pyHash := fun hv h => by
    rcases keyIs_shape hv with ⟨i, t, rfl, rfl⟩ | ⟨x, t, rfl, rfl⟩
    · exact wpAny_pyHash_int h
    · exact wpAny_pyHash_str h
  eqBool := fun hu hv h => by
    rcases keyIs_shape hu with ⟨i, t, rfl, rfl⟩ | ⟨x, t, rfl, rfl⟩
    · rcases keyIs_shape hv with ⟨j, u, rfl, rfl⟩ | ⟨y, u, rfl, rfl⟩
      · rw [key_ll] at h; exact wpAny_eqBool_int h
      · rw [key_lr] at h; exact SeqAt.EqAt.int_str i t y u _ _ _ _ h
    · rcases keyIs_shape hv with ⟨j, u, rfl, rfl⟩ | ⟨y, u, rfl, rfl⟩
      · rw [key_rl] at h; exact SeqAt.EqAt.str_int x t j u _ _ _ _ h
      · rw [key_rr] at h; exact wpAny_eqBool_str h
  «strs» := fun k x t v h => by
    rcases keyIs_shape h with ⟨i, u, rfl, e⟩ | ⟨y, u, rfl, e⟩
    · exact nomatch e
    · injection e with e1 _
      subst e1
      cases v <;> rfl

end L2

namespace L2
open PySem PySem.Spec PyProof.Rows

inductive V where
  | non | bl (b : Bool) | int (i : Int) | str (x : Str) | byt (b : Array UInt8) | flt (b : UInt64) | ref (a : Addr) | ty (n : String)
  deriving DecidableEq

noncomputable def RelV : V → Value → Prop
  | .non, u => u = Value.none
  | .bl b, u => u = Value.bool b
  | .int i, u => ∃ t, u = Value.int i t
  | .str x, u => ∃ t, u = Value.str x t
  | .byt b, u => ∃ t, u = Value.bytes b t
  | .flt b, u => ∃ t, u = Value.float b t
  | .ref a, u => u = Value.ref a
  | .ty n, u => u = Value.type n

noncomputable abbrev Vals : List V → List Value → Prop := Paired RelV
theorem Vals.length {xs : List V} {us : List Value} (r : Vals xs us) : xs.length = us.length := Paired.length r
theorem Vals.get : ∀ {xs : List V} {us : List Value} {i : Nat} {x : V}, Vals xs us → xs[i]? = some x → ∃ u, us[i]? = some u ∧ RelV x u
  | _, _, _, _, .nil, e => by simp at e
  | _, _, 0, _, .cons r _, e => by simp at e; subst e; exact ⟨_, rfl, r⟩
  | _, _, i + 1, x, .cons _ t, e => by
    obtain ⟨u, h1, h2⟩ := Vals.get (i := i) (x := x) t (by simpa using e)
    exact ⟨u, by simpa using h1, h2⟩
theorem Vals.set {x : V} {u : Value} (r : RelV x u) : ∀ {xs : List V} {us : List Value} (i : Nat), Vals xs us → Vals (xs.set i x) (us.set i u)
  | _, _, _, .nil => .nil
  | _, _, 0, .cons _ t => .cons r t
  | _, _, i + 1, .cons q t => .cons q (Vals.set r i t)
theorem Vals.append : ∀ {xs ys : List V} {us ws : List Value}, Vals xs us → Vals ys ws → Vals (xs ++ ys) (us ++ ws)
  | _, _, _, _, .nil, s => s
  | _, _, _, _, .cons r t, s => .cons r (Vals.append t s)
theorem Vals.take : ∀ {xs : List V} {us : List Value} (n : Nat), Vals xs us → Vals (xs.take n) (us.take n)
  | _, _, 0, _ => .nil
  | _, _, _ + 1, .nil => .nil
  | _, _, n + 1, .cons r t => .cons r (Vals.take n t)
theorem Vals.drop : ∀ {xs : List V} {us : List Value} (n : Nat), Vals xs us → Vals (xs.drop n) (us.drop n)
  | _, _, 0, r => r
  | _, _, _ + 1, .nil => .nil
  | _, _, n + 1, .cons _ t => Vals.drop n t
theorem Vals.none_of : ∀ {xs : List V} {us : List Value} {i : Nat}, Vals xs us → xs[i]? = none → us[i]? = none := fun {xs us i} r e => by
  have h1 := r.length
  have h2 : xs.length ≤ i := List.getElem?_eq_none_iff.mp e
  exact List.getElem?_eq_none_iff.mpr (by omega)

noncomputable def RelO : Option V → Option Value → Prop
  | some v, some u => RelV v u
  | none, none => True
  | _, _ => False
noncomputable def KV {κ : Type} : List (κ × V) → List (κ × Value) → Prop := Paired fun (p : κ × V) (q : κ × Value) => p.1 = q.1 ∧ RelV p.2 q.2

noncomputable def kV : Key → V
  | .inl i => .int i
  | .inr x => .str x

inductive HO where
  | lst (xs : List V)
  | tup (xs : List V)
  | dK (kvs : List (Key × V)) | dT (kvs : List (List Key × V))
  | set (S : Int → Bool) (n : Nat)
  | ins (C dx : Addr) (fs : List (Str × V))
  | own (x : Addr)
  | xd (fs : List (Str × V))
  | met (f x : Addr)
  | rng (lo hi : Int)
  | frz (o : Obj) (u : HO)
  | tbl (ps : Array Value)
  | ext (φ : Heap → Prop)

noncomputable abbrev Hp := Addr → Option HO
noncomputable def upd (H : Hp) (a : Addr) (o : HO) : Hp := fun b => if b = a then some o else H b
theorem upd_same {H : Hp} {a : Addr} {o : HO} : upd H a o a = some o := by unfold upd; rw [if_pos rfl]
theorem upd_ne {H : Hp} {a b : Addr} {o : HO} (h : b ≠ a) : upd H a o b = H b := by unfold upd; rw [if_neg h]
theorem ne_of_none {H : Hp} {a b : Addr} {o : HO} (h : H a = some o) (h' : H b = none) : a ≠ b := by
  intro e; subst e; rw [h] at h'; cases h'

section
variable (P : Program) (w : World)
noncomputable def ObjOk (H : Hp) (h : Heap) (a : Addr) : HO → Prop
  | .lst xs => xs.length ≤ sizeLine ∧ ∃ (its : List Value) (n : Nat), Vals xs its ∧ h.get? a = some { cls := .type "list", data := .seq its.toArray n }
  | .tup xs => xs.length ≤ sizeLine ∧ ∃ its : List Value, Vals xs its ∧ IsTup h a its.toArray
  | .dK kvs => kvs.length ≤ sizeLine ∧ (a == sysModules) = false ∧ ∃ vs, KV kvs vs ∧ h.DictOf (mixKind P w) a vs
  | .dT kvs => kvs.length ≤ sizeLine ∧ (a == sysModules) = false ∧ ∃ xs : List (List Key × Addr × Value),
      Paired (fun (p : List Key × V) (q : List Key × Addr × Value) => p.1 = q.1 ∧ H q.2.1 = some (.tup (p.1.map kV)) ∧ RelV p.2 q.2.2) kvs xs ∧
      ∃ o es ep, h.get? a = some o ∧ o.ExactDict ∧ o.data = .dict es ep ∧ es.toList = xs.map (entryOfKey (tupleKind (mixKind P w))) ∧ (xs.map (·.1)).Nodup
  | .set S n => h.SetOf (intKind P w) a S n
  | .ins C dx fs => H dx = some (.own a) ∧ fs.length ≤ 1000 ∧ dx ≠ a ∧ h.get? a = some (PySem.W.instObj C dx) ∧
      ∃ mA, h.Ns1 dx mA ∧ (∀ f, RelO (fs.lookup f) (mA f)) ∧ PySem.Within mA (fs.map (·.1))
  | .own _ => ∃ o, h.get? a = some o
  | .xd fs => ∃ mA, h.Ns1 a mA ∧ ∀ f, RelO (fs.lookup f) (mA f)
  | .rng lo hi => ∃ t u v, h.get? a = some { cls := .type "range", data := .fields #[.int lo t, .int hi u, .int 1 v] }
  | .frz o u => h.get? a = some o ∧ ObjOk H h a u
  | .tbl ps => h.get? a = some { cls := .none, data := .fields ps }
  | .met f x => h.get? a = some (PySem.W.methodObj (.ref f) (.ref x))
  | .ext φ => φ h ∧ (∃ o, h.get? a = some o) ∧ ∀ h1 h2 : Heap, φ h1 → (∀ o, h1.get? a = some o → h2.get? a = some o) → φ h2
noncomputable def HOk (H : Hp) (h : Heap) : Prop := ∀ a o, H a = some o → ObjOk P w H h a o
end

section
variable {P : Program} {w : World} {H H' : Hp} {h h' : Heap} {a : Addr} {o : HO}
theorem ObjOk.lt (x : ObjOk P w H h a o) : a < h.objs.size := by
  cases o with
  | lst xs => obtain ⟨_, _, _, _, e⟩ := x; exact Heap.lt_size e
  | tup xs => obtain ⟨_, _, _, p⟩ := x; exact p.lt
  | dK kvs => obtain ⟨_, _, _, _, o, _, _, e, _⟩ := x; exact Heap.lt_size e
  | dT kvs => obtain ⟨_, _, _, _, o, _, _, e, _⟩ := x; exact Heap.lt_size e
  | set S n => obtain ⟨o, _, _, _, e, _⟩ := x; exact Heap.lt_size e
  | ins C dx fs => obtain ⟨_, _, _, e, _⟩ := x; exact Heap.lt_size e
  | own y => obtain ⟨_, e⟩ := x; exact Heap.lt_size e
  | xd fs => obtain ⟨_, ⟨_, _, _, e, _⟩, _⟩ := x; exact Heap.lt_size e
  | rng lo hi => obtain ⟨_, _, _, e⟩ := x; exact Heap.lt_size e
  | frz ob u => obtain ⟨e, _⟩ := x; exact Heap.lt_size e
  | tbl ps => exact Heap.lt_size (show h.get? a = some _ from x)
  | met f y => exact Heap.lt_size (show h.get? a = some _ from x)
  | ext φ => obtain ⟨_, ⟨_, e⟩, _⟩ := x; exact Heap.lt_size e
theorem Paired.mapP {α β : Type} {F G : α → β → Prop} : ∀ {l₁ : List α} {l₂ : List β}, Paired F l₁ l₂ → (∀ a b, F a b → G a b) → Paired G l₁ l₂
  | _, _, .nil, _ => .nil
  | _, _, .cons r t, f => .cons (f _ _ r) (Paired.mapP t f)
theorem ObjOk.stay (x : ObjOk P w H h a o) (k : ∀ b u, (b = a ∨ H b = some (.own a)) → h.get? b = some u → h'.get? b = some u)
    (ho : ∀ b, H b = some (.own a) → H' b = some (.own a)) (ht : ∀ b xs, H b = some (.tup xs) → H' b = some (.tup xs)) : ObjOk P w H' h' a o := by
  induction o with
  | lst xs => obtain ⟨z, its, n, r, e⟩ := x; exact ⟨z, its, n, r, k _ _ (.inl rfl) e⟩
  | tup xs => obtain ⟨z, its, r, ob, e, c⟩ := x; exact ⟨z, its, r, ob, k _ _ (.inl rfl) e, c⟩
  | dK kvs => obtain ⟨z, y, vs, r, ob, es, ep, e, c⟩ := x; exact ⟨z, y, vs, r, ob, es, ep, k _ _ (.inl rfl) e, c⟩
  | dT kvs =>
    obtain ⟨z, y, xs, r, ob, es, ep, e, c⟩ := x
    exact ⟨z, y, xs, Paired.mapP r fun p q z => ⟨z.1, ht _ _ z.2.1, z.2.2⟩, ob, es, ep, k _ _ (.inl rfl) e, c⟩
  | set S n => obtain ⟨ob, es, ep, t, e, c⟩ := x; exact ⟨ob, es, ep, t, k _ _ (.inl rfl) e, c⟩
  | ins C dx fs =>
    obtain ⟨d, z, ne, e, mA, ⟨od, es, ep, e2, c⟩, r⟩ := x
    exact ⟨ho _ d, z, ne, k _ _ (.inl rfl) e, mA, ⟨od, es, ep, k _ _ (.inr d) e2, c⟩, r⟩
  | own y => obtain ⟨ob, e⟩ := x; exact ⟨ob, k _ _ (.inl rfl) e⟩
  | xd fs => obtain ⟨mA, ⟨od, es, ep, e, c⟩, r⟩ := x; exact ⟨mA, ⟨od, es, ep, k _ _ (.inl rfl) e, c⟩, r⟩
  | rng lo hi => obtain ⟨t, u, v, e⟩ := x; exact ⟨t, u, v, k _ _ (.inl rfl) e⟩
  | frz ob u ih => obtain ⟨e, q⟩ := x; exact ⟨k _ _ (.inl rfl) e, ih q⟩
  | tbl ps =>
    have e : h.get? a = some { cls := .none, data := .fields ps } := x
    show h'.get? a = some { cls := .none, data := .fields ps }
    exact k a _ (.inl rfl) e
  | met f y =>
    have e : h.get? a = some (PySem.W.methodObj (.ref f) (.ref y)) := x
    show h'.get? a = some (PySem.W.methodObj (.ref f) (.ref y))
    exact k a _ (.inl rfl) e
  | ext φ => obtain ⟨p, ⟨o, e⟩, st⟩ := x; exact ⟨st _ _ p fun o q => k _ _ (.inl rfl) q, ⟨o, k _ _ (.inl rfl) e⟩, st⟩
theorem HOk.lt (x : HOk P w H h) (e : H a = some o) : a < h.objs.size := (x a o e).lt
theorem HOk.fresh (x : HOk P w H h) (e : h.objs.size ≤ a) : H a = none := by
  cases q : H a with
  | none => rfl
  | some u => exact absurd (Nat.lt_of_lt_of_le (x.lt q) e) (Nat.lt_irrefl _)
theorem HOk.kept (x : HOk P w H h) (k : ∀ b u, h.get? b = some u → h'.get? b = some u) : HOk P w H h' := fun a o e =>
  (x a o e).stay (fun b u _ q => k b u q) (fun _ q => q) fun _ _ q => q
theorem HOk.laid (x : HOk P w H h) (k : ∀ b u, h.get? b = some u → h'.get? b = some u) (hp : h.objs.size ≤ a) (new : ObjOk P w (upd H a o) h' a o) : HOk P w (upd H a o) h' := fun b u e => by
  have hn := x.fresh hp
  by_cases hb : b = a
  · subst hb; rw [upd_same] at e; cases e; exact new
  · rw [upd_ne hb] at e
    exact (x b u e).stay (fun c v _ q => k c v q) (fun c q => by rw [upd_ne (ne_of_none q hn)]; exact q) fun c xs q => by rw [upd_ne (ne_of_none q hn)]; exact q
end

noncomputable def Rd (H : Hp) (a : Addr) (u : HO) : Prop := H a = some u ∨ ∃ o, H a = some (.frz o u)
theorem Rd.of {H : Hp} {a : Addr} {u : HO} (h : H a = some u) : Rd H a u := .inl h
theorem Rd.ok {P : Program} {w : World} {H : Hp} {h : Heap} {a : Addr} {u : HO} (r : Rd H a u) (x : HOk P w H h) : ObjOk P w H h a u := by
  rcases r with r | ⟨o, r⟩
  · exact x a u r
  · obtain ⟨_, q⟩ := x a _ r
    exact q
noncomputable def Mut : Option HO → Prop
  | some (.lst _) => True
  | some (.dK _) => True
  | some (.dT _) => True
  | some (.set _ _) => True
  | some (.ins _ _ _) => True
  | some (.ext _) => True
  | _ => False
section
variable {P : Program} {w : World} {H : Hp} {h h' : Heap} {x e : Addr} {o' : HO}
theorem HOk.write (ok : HOk P w H h) (mu : Mut (H x)) (he : e = x ∨ H e = some (.own x)) (k : ∀ b u, b ≠ e → h.get? b = some u → h'.get? b = some u) (heo : ∃ u, h'.get? e = some u)
    (new : ObjOk P w (upd H x o') h' x o') : HOk P w (upd H x o') h' := fun b u q => by
  have nown : ∀ c y, H c = some (.own y) → c ≠ x := fun c y r z => by subst z; rw [r] at mu; exact mu
  have ntup : ∀ c xs, H c = some (.tup xs) → c ≠ x := fun c xs r z => by subst z; rw [r] at mu; exact mu
  by_cases hb : b = x
  · subst hb; rw [upd_same] at q; cases q; exact new
  · rw [upd_ne hb] at q
    by_cases hbe : b = e
    · have q' : H b = some (.own x) := by
        rcases he with z | z
        · exact absurd (hbe.trans z) hb
        · rw [hbe]; exact z
      rw [q] at q'; cases q'
      obtain ⟨v, hv⟩ := heo
      exact ⟨v, by rw [hbe]; exact hv⟩
    · refine (ok b u q).stay (fun c v hc r => k c v ?_ r) (fun c r => by rw [upd_ne (nown c b r)]; exact r) fun c xs r => by rw [upd_ne (ntup c xs r)]; exact r
      rcases hc with rfl | hc
      · exact hbe
      · rintro rfl
        rcases he with z | z
        · exact nown c b hc z
        · rw [hc] at z; cases z; exact hb rfl
end

structure Un (fs ex : List Addr) (H H' : Hp) (h h' : Heap) : Prop where
  keep : ∀ b o, h.get? b = some o → H b = none → b ∉ fs → b ∉ ex → h'.get? b = some o
  slot : ∀ b o, h.get? b = some o → H b = none → b ∈ fs → b ∉ ex → ∃ sl, h'.get? b = some { o with slots := sl }
  free : ∀ b o, h.get? b = some o → H b = none → b ∉ ex → H' b = none
  there : ∀ b o, h.get? b = some o → b ∉ ex → ∃ o', h'.get? b = some o'
  tups : ∀ b xs, H b = some (.tup xs) → H' b = some (.tup xs)
  frzs : ∀ b o u, H b = some (.frz o u) → H' b = some (.frz o u)
  tbls : ∀ b ps, H b = some (.tbl ps) → ∃ more, H' b = some (.tbl (ps ++ more))
section
variable {fs fs' ex ex' : List Addr} {H H1 H2 : Hp} {h h1 h2 h' : Heap} {a x e : Addr} {o : HO}
theorem Un.any (u : Un fs ex H H1 h h1) {b : Addr} {ob : Obj} (q : h.get? b = some ob) (n : H b = none) (hx : b ∉ ex) : ∃ sl, h1.get? b = some { ob with slots := sl } := by
  by_cases hb : b ∈ fs
  · exact u.slot b ob q n hb hx
  · exact ⟨ob.slots, u.keep b ob q n hb hx⟩
theorem Un.kept (k : ∀ b u, h.get? b = some u → h'.get? b = some u) : Un fs ex H H h h' :=
  ⟨fun b ob q _ _ _ => k b ob q, fun b ob q _ _ _ => ⟨ob.slots, k b ob q⟩, fun _ _ _ n _ => n, fun b ob q _ => ⟨ob, k b ob q⟩, fun _ _ q => q, fun _ _ _ q => q, fun _ ps q => ⟨#[], by rw [q]; simp⟩⟩
theorem Un.refl : Un fs ex H H h h := Un.kept fun _ _ q => q
theorem Un.laid (k : ∀ b u, h.get? b = some u → h'.get? b = some u) (hp : h.objs.size ≤ a) (hn : H a = none) : Un fs ex H (upd H a o) h h' where
  keep := fun b u q _ _ _ => k b u q
  slot := fun b u q _ _ _ => ⟨u.slots, k b u q⟩
  free := fun b u q n _ => by rw [upd_ne (Nat.ne_of_lt (Nat.lt_of_lt_of_le (Heap.lt_size q) hp))]; exact n
  there := fun b u q _ => ⟨u, k b u q⟩
  tups := fun b xs q => by rw [upd_ne (ne_of_none q hn)]; exact q
  frzs := fun b u xs q => by rw [upd_ne (ne_of_none q hn)]; exact q
  tbls := fun b ps q => ⟨#[], by rw [upd_ne (ne_of_none q hn), q]; simp⟩
theorem Un.write (mu : Mut (H x)) (he : e = x ∨ H e = some (.own x)) (k : ∀ b u, b ≠ e → h.get? b = some u → h'.get? b = some u) (heo : ∃ u, h'.get? e = some u) : Un fs ex H (upd H x o) h h' := by
  have hx : ∀ b, H b = none → b ≠ x := fun b n z => by subst z; rw [n] at mu; exact mu
  have hb : ∀ b, H b = none → b ≠ e := fun b n z => by
    subst z
    rcases he with r | r
    · exact hx b n r
    · rw [n] at r; cases r
  have hm : ∀ b u, H b = some u → ¬ Mut (some u) → b ≠ x := fun b u q nm z => by subst z; rw [q] at mu; exact nm mu
  refine ⟨fun b u q n _ _ => k b u (hb b n) q, fun b u q n _ _ => ⟨u.slots, k b u (hb b n) q⟩, fun b u q n _ => by rw [upd_ne (hx b n)]; exact n, fun b u q _ => ?_,
    fun b xs q => by rw [upd_ne (hm b _ q fun z => z)]; exact q, fun b u xs q => by rw [upd_ne (hm b _ q fun z => z)]; exact q, fun b ps q => ⟨#[], by rw [upd_ne (hm b _ q fun z => z), q]; simp⟩⟩
  by_cases hbe : b = e
  · subst hbe; exact heo
  · exact ⟨u, k b u hbe q⟩
theorem Un.mono (u : Un fs ex H H1 h h1) (hs : ∀ b ∈ fs, b ∈ fs') (hx : ∀ b ∈ ex, b ∈ ex') : Un fs' ex' H H1 h h1 :=
  ⟨fun b ob q n hb he => u.keep b ob q n (fun z => hb (hs b z)) fun z => he (hx b z), fun _ _ q n _ he => u.any q n fun z => he (hx _ z), fun b ob q n he => u.free b ob q n fun z => he (hx b z), fun b ob q he => u.there b ob q fun z => he (hx b z), u.tups, u.frzs, u.tbls⟩
end

noncomputable def trk (h : Heap) (H : Hp) : List Addr := (List.range h.objs.size).filter fun a => (H a).isSome
noncomputable def hidT (h : Heap) (H : Hp) : Heap := PySem.W.hideAll h (trk h H)
theorem hidT_size (h : Heap) (H : Hp) : (hidT h H).objs.size = h.objs.size := PySem.W.hideAll_size _ _
theorem hidT_get {h : Heap} {H : Hp} {b : Addr} {o : Obj} (e : h.get? b = some o) (n : H b = none) : (hidT h H).get? b = some o :=
  PySem.W.hideAll_get _ e fun hm => by
    have q : (H b).isSome = true := (List.mem_filter.mp hm).2
    rw [n] at q; simp at q
theorem of_hidT {h : Heap} {H : Hp} {b : Addr} {o : Obj} (e : (hidT h H).get? b = some o) : h.get? b = some o ∧ H b = none := by
  have e' : h.get? b = some o := PySem.W.of_hideAll (trk h H) e
  refine ⟨e', ?_⟩
  cases q : H b with
  | none => rfl
  | some x =>
    have hm : b ∈ trk h H := List.mem_filter.mpr ⟨List.mem_range.mpr (Heap.lt_size e'), by simp [q]⟩
    have z : (hidT h H).get? b = none := PySem.W.hideAll_none (trk h H) hm
    rw [z] at e; cases e

noncomputable def allNews (g h : Heap) (L : Addr) : List (Addr × Obj) := (List.range h.objs.size).filterMap fun a => if a = L ∨ (g.get? a).isSome = true then none else (h.get? a).map fun o => (a, o)
noncomputable def rest (g h : Heap) (L d : Addr) : List (Addr × Obj) := (allNews g h L).filter fun p => decide (p.1 ≠ d)
end L2

namespace L2
open PySem PySem.Spec PyProof.Rows

structure Mod (K : PySem.W.Frag) (mg : Str → Option Value) (base : Heap) : Prop where
  kin : K.In base
  glob : base.Ns mainGlobals mg
  blt : ∃ mb, base.Ns builtinsNs mb ∧ ∀ x : Str, x ≠ "__name__" → mb x = bootBuiltins x
  nolimit : base.NoLimit

structure Cx where
  prog : Program
  w : World
  K : PySem.W.Frag
  mg : Str → Option Value
  base : Heap
  A : Around
  N : List Str
  s₀ : Shared
  H₀ : Hp
  env : Env
  outer : List Env
  stack : List Env
  ex : List Addr
  fn : Str → Bool
  calm : Bool
  pn : List (Addr × Obj)
  xe : Value → Shared → Prop
noncomputable def frs (l : List Env) : List Addr := l.filterMap (·.frame)
noncomputable abbrev Cx.fs (X : Cx) : List Addr := frs X.outer

noncomputable def Vis (sc : Scope) (x : Str) : Prop := sc.names.lookup x = some .local ∨ sc.names.lookup x = some .cell ∨ sc.names.lookup x = some .free
noncomputable def Loc (sc : Scope) (x : Str) : Prop := sc.names.lookup x = some .local ∨ sc.names.lookup x = some .cell
noncomputable def Look (env : Env) (h : Heap) (m : Str → Option Value) (x : Str) (u : Value) : Prop :=
  (env.kindOf x = some .local ∧ m x = some u) ∨ ((env.kindOf x = some .cell ∨ env.kindOf x = some .free) ∧ ∃ c, env.cells.lookup x = some c ∧ h.IsCell c (some u))

structure Cx.Ok (X : Cx) : Prop where
  mod : Mod X.K X.mg X.base
  kind : X.env.scope.kind = .function
  glob : X.env.globals = mainGlobals
  blt : X.env.builtins = builtinsNs
  above : X.s₀.heap.objs.size ≤ X.env.locals
  inj : ∀ x y c, X.env.cells.lookup x = some c → X.env.cells.lookup y = some c → x = y
  has : ∀ x, (X.env.kindOf x = some .cell ∨ X.env.kindOf x = some .free) → ∃ c, X.env.cells.lookup x = some c
  cab : ∀ x c, X.fn x = true → X.env.cells.lookup x = some c → X.s₀.heap.objs.size ≤ c
  hd : X.calm = true → X.A.handled = none
  frames : X.A.frames = some X.stack
  stk : X.stack = X.outer ∨ (X.stack = X.env :: X.outer ∧ X.env.frame = some X.env.locals)
  exf : ∀ b ∈ X.ex, b ≠ X.env.locals ∧ ∀ x c, X.env.cells.lookup x = some c → c ≠ b
  bs : ∀ b o, X.base.get? b = some o → X.s₀.heap.get? b = some o ∧ X.H₀ b = none
  bsz : X.base.objs.size ≤ X.s₀.heap.objs.size
  noex : ∀ b o, X.base.get? b = some o → b ∉ X.ex
  exfs : ∀ b ∈ X.ex, b ∉ X.fs
  funs : X.s₀.heap.FunFrames X.base X.outer
  frf : ∀ b ∈ X.fs, X.H₀ b = none

structure Inv (X : Cx) (pins : List (Addr × Obj)) (σ : List (Option V)) (H : Hp) (s : Shared) : Prop where
  ok : X.Ok
  os : s.os = X.s₀.os
  bare : AllBare s.gens
  base : Un X.fs X.ex X.H₀ H X.s₀.heap s.heap
  loc : ∃ m, s.heap.Ns X.env.locals m ∧ ∀ (i : Nat) (x : Str) (v : V), X.N[i]? = some x → σ[i]? = some (some v) → Vis X.env.scope x → ∃ u, RelV v u ∧ Look X.env s.heap m x u
  cell : ∀ x c, X.env.cells.lookup x = some c → ∃ v, s.heap.IsCell c v
  free : H X.env.locals = none
  freeC : ∀ x c, X.env.cells.lookup x = some c → H c = none
  pin : ∀ p ∈ X.pn ++ pins, s.heap.get? p.1 = some p.2 ∧ H p.1 = none ∧ p.1 ≠ X.env.locals ∧ p.1 ∉ X.fs ∧ ∀ v, p.2.data ≠ .cell v
  hok : HOk X.prog X.w H s.heap
  len : σ.length = X.N.length

section
variable {X : Cx} {pins : List (Addr × Obj)} {σ : List (Option V)} {H H' : Hp} {s : Shared} {h' : Heap}

theorem Cx.Ok.nofr (ok : X.Ok) {b : Addr} {o : Obj} (e : X.base.get? b = some o) : b ∉ X.fs := fun hb => by
  have := (ok.funs.mem hb).1
  rw [e] at this; cases this
theorem Inv.bs (I : Inv X pins σ H s) : ∀ b o, X.base.get? b = some o → s.heap.get? b = some o ∧ H b = none := fun b o e =>
  ⟨I.base.keep b o (I.ok.bs b o e).1 (I.ok.bs b o e).2 (I.ok.nofr e) (I.ok.noex b o e), I.base.free b o (I.ok.bs b o e).1 (I.ok.bs b o e).2 (I.ok.noex b o e)⟩
theorem Inv.bk (I : Inv X pins σ H s) : ∀ b o, X.base.get? b = some o → s.heap.get? b = some o := fun b o e => (I.bs b o e).1
theorem Inv.mod (I : Inv X pins σ H s) : Mod X.K X.mg X.base := I.ok.mod
theorem Inv.kIn (I : Inv X pins σ H s) : X.K.In s.heap := I.ok.mod.kin.keeps I.bk
theorem Inv.nolimit (I : Inv X pins σ H s) : s.heap.NoLimit := I.ok.mod.nolimit.keeps I.bk
theorem Inv.fr (I : Inv X pins σ H s) : ∃ m, Fr X.base X.env.locals s.heap m :=
  let ⟨m, hn, _⟩ := I.loc
  ⟨m, hn, I.bk, Nat.le_trans I.ok.bsz I.ok.above⟩
theorem Inv.lt (I : Inv X pins σ H s) : X.env.locals < s.heap.objs.size := let ⟨_, hn, _⟩ := I.loc; hn.lt
theorem Inv.sz (I : Inv X pins σ H s) : X.s₀.heap.objs.size ≤ s.heap.objs.size := Nat.le_trans I.ok.above (Nat.le_of_lt I.lt)
theorem Inv.nofs (I : Inv X pins σ H s) {a : Addr} (h : s.heap.objs.size ≤ a) : a ∉ X.fs := fun hb => by
  obtain ⟨_, o, ho, _⟩ := I.ok.funs.mem hb
  exact absurd (Nat.lt_of_lt_of_le (Heap.lt_size ho) (Nat.le_trans I.sz h)) (Nat.lt_irrefl _)
theorem Inv.cne (I : Inv X pins σ H s) : ∀ x c, X.env.cells.lookup x = some c → c ≠ X.env.locals := fun x c e z => by
  obtain ⟨v, o, ho, hd⟩ := I.cell x c e
  obtain ⟨m, ⟨o', es, ep, ho', hd', _⟩, _⟩ := I.loc
  rw [z, ho'] at ho; cases ho; rw [hd'] at hd; cases hd
theorem Inv.funs (I : Inv X pins σ H s) : s.heap.FunFrames X.base X.outer := by
  have all : ∀ (l : List Env), (∀ b ∈ frs l, b ∈ X.fs) → X.s₀.heap.FunFrames X.base l → s.heap.FunFrames X.base l := by
    intro l
    induction l with
    | nil => intro _ _; trivial
    | cons env r ih =>
      intro hs hl
      obtain ⟨hk, ⟨L, o, hf, hn, ho, hd⟩, hr⟩ := hl
      have hL : L ∈ X.fs := hs L (by unfold frs; rw [List.filterMap_cons, hf]; exact List.mem_cons_self)
      obtain ⟨sl, e⟩ := I.base.slot L o ho (I.ok.frf L hL) hL fun z => I.ok.exfs L z hL
      exact ⟨hk, ⟨L, _, hf, hn, e, hd⟩, ih (fun b hb => hs b (by unfold frs; rw [List.filterMap_cons, hf]; exact List.mem_cons_of_mem _ hb)) hr⟩
  exact all X.outer (fun _ hb => hb) I.ok.funs

theorem Inv.stack (I : Inv X pins σ H s) : s.heap.FunFrames X.base X.stack := by
  rcases I.ok.stk with e | ⟨e, hf⟩
  · rw [e]; exact I.funs
  · rw [e]
    obtain ⟨m, hn, _⟩ := I.loc
    refine .cons (by rw [I.ok.kind]; decide) hf hn ?_ I.funs
    exact Heap.get?_none_of_le (Nat.le_trans I.ok.bsz I.ok.above)
theorem Inv.stkSub (I : Inv X pins σ H s) : ∀ b ∈ frs X.stack, b ∈ X.env.locals :: X.fs := fun b hb => by
  rcases I.ok.stk with e | ⟨e, hf⟩
  · rw [e] at hb; exact List.mem_cons_of_mem _ hb
  · rw [e] at hb
    unfold frs at hb
    rw [List.filterMap_cons, hf] at hb
    exact hb
theorem Inv.stkFree (I : Inv X pins σ H s) : ∀ b ∈ frs X.stack, H b = none := fun b hb => by
  rcases List.mem_cons.mp (I.stkSub b hb) with e | hb
  · rw [e]; exact I.free
  · obtain ⟨_, o, ho, _⟩ := I.ok.funs.mem hb
    exact I.base.free b o ho (I.ok.frf b hb) fun z => I.ok.exfs b z hb

theorem Inv.step {g' : Array GenState} {t' : Nat} {d' : Drawn} {ch : List Addr} (I : Inv X pins σ H s)
    (hch : ∀ b ∈ ch, (b ∈ X.ex ∨ X.s₀.heap.objs.size ≤ b) ∧ b ≠ X.env.locals ∧ (∀ x c, X.env.cells.lookup x = some c → c ≠ b) ∧ ∀ p ∈ X.pn ++ pins, p.1 ≠ b)
    (keep : ∀ b o, b ≠ X.env.locals → b ∉ X.fs → b ∉ ch → s.heap.get? b = some o → H b = none → h'.get? b = some o)
    (slot : ∀ b o, b ≠ X.env.locals → b ∈ X.fs → b ∉ ch → s.heap.get? b = some o → H b = none → ∃ sl, h'.get? b = some { o with slots := sl }) (free : ∀ b o, b ∉ ch → s.heap.get? b = some o → H b = none → H' b = none)
    (there : ∀ b o, b ∉ ch → s.heap.get? b = some o → ∃ o', h'.get? b = some o')
    (tups : ∀ b xs, H b = some (.tup xs) → H' b = some (.tup xs)) (frzs : ∀ b o u, H b = some (.frz o u) → H' b = some (.frz o u)) (tbls : ∀ b ps, H b = some (.tbl ps) → ∃ more, H' b = some (.tbl (ps ++ more)))
    (ns : ∀ m, s.heap.Ns X.env.locals m → h'.Ns X.env.locals m) (hok : HOk X.prog X.w H' h') (hg : AllBare g') :
    Inv X pins σ H' { s with heap := h', gens := g', drawn := d', toks := t' } := by
  have neL : ∀ b o, X.s₀.heap.get? b = some o → b ≠ X.env.locals := fun b o e => Nat.ne_of_lt (Nat.lt_of_lt_of_le (Heap.lt_size e) I.ok.above)
  have neC : ∀ b o, X.s₀.heap.get? b = some o → b ∉ X.ex → b ∉ ch := fun b o e hx hb => by
    rcases (hch b hb).1 with z | z
    · exact hx z
    · exact absurd (Nat.lt_of_lt_of_le (Heap.lt_size e) z) (Nat.lt_irrefl _)
  have cellK : ∀ x c, X.env.cells.lookup x = some c → ∀ v, s.heap.IsCell c v → h'.IsCell c v := fun x c e v ⟨o, ho, hd⟩ => by
    have nch : c ∉ ch := fun z => (hch c z).2.2.1 x c e rfl
    by_cases hc : c ∈ X.fs
    · obtain ⟨sl, q⟩ := slot c o (I.cne x c e) hc nch ho (I.freeC x c e)
      exact ⟨_, q, hd⟩
    · exact ⟨o, keep c o (I.cne x c e) hc nch ho (I.freeC x c e), hd⟩
  refine ⟨I.ok, I.os, hg, ⟨fun b o e n hb hx => ?_, fun b o e n hb hx => ?_, fun b o e n hx => ?_, fun b o e hx => ?_, fun b xs e => tups b xs (I.base.tups b xs e), fun b o xs e => frzs b o xs (I.base.frzs b o xs e), fun b ps e => ?_⟩, ?_, fun x c e => ?_, ?_, fun x c e => ?_, fun p hp => ?_, hok, I.len⟩
  · exact keep b o (neL b o e) hb (neC b o e hx) (I.base.keep b o e n hb hx) (I.base.free b o e n hx)
  · obtain ⟨sl, e1⟩ := I.base.slot b o e n hb hx
    obtain ⟨sl', e2⟩ := slot b _ (neL b o e) hb (neC b o e hx) e1 (I.base.free b o e n hx)
    exact ⟨sl', e2⟩
  · obtain ⟨o', e1⟩ := I.base.there b o e hx
    exact free b o' (neC b o e hx) e1 (I.base.free b o e n hx)
  · obtain ⟨o', e1⟩ := I.base.there b o e hx
    exact there b o' (neC b o e hx) e1
  · obtain ⟨m1, e1⟩ := I.base.tbls b ps e
    obtain ⟨m2, e2⟩ := tbls b _ e1
    exact ⟨m1 ++ m2, by rw [e2, Array.append_assoc]⟩
  · obtain ⟨m, hn, hl⟩ := I.loc
    refine ⟨m, ns m hn, fun i x v e1 e2 e3 => ?_⟩
    obtain ⟨u, r, l⟩ := hl i x v e1 e2 e3
    refine ⟨u, r, ?_⟩
    rcases l with l | ⟨k, c, e, z⟩
    · exact .inl l
    · exact .inr ⟨k, c, e, cellK x c e _ z⟩
  · obtain ⟨v, z⟩ := I.cell x c e
    exact ⟨v, cellK x c e v z⟩
  · obtain ⟨m, ⟨o, _, _, ho, _⟩, _⟩ := I.loc
    exact free _ o (fun z => (hch _ z).2.1 rfl) ho I.free
  · obtain ⟨v, o, ho, hd⟩ := I.cell x c e
    exact free c o (fun z => (hch c z).2.2.1 x c e rfl) ho (I.freeC x c e)
  · obtain ⟨e, n, ne, nf, d⟩ := I.pin p hp
    have nch : p.1 ∉ ch := fun z => (hch p.1 z).2.2.2 p hp rfl
    exact ⟨keep p.1 p.2 ne nf nch e n, free p.1 p.2 nch e n, ne, nf, d⟩
theorem Inv.un {t' : Nat} (I : Inv X pins σ H s) (u : Un X.fs [] H H' s.heap h') (hok : HOk X.prog X.w H' h') : Inv X pins σ H' { s with heap := h', toks := t' } := by
  obtain ⟨m, ⟨o, es, ep, ho, r⟩, _⟩ := id I.loc
  obtain ⟨sl, hL⟩ := u.any ho I.free (by simp)
  exact I.step (g' := s.gens) (d' := s.drawn) (ch := []) (fun _ z => nomatch z) (fun b o _ hb _ e n => u.keep b o e n hb (by simp)) (fun b o _ hb _ e n => u.slot b o e n hb (by simp)) (fun b o _ e n => u.free b o e n (by simp)) (fun b o _ e => u.there b o e (by simp)) u.tups u.frzs u.tbls (fun m' hm => by
    obtain ⟨o', es', ep', ho', r'⟩ := hm
    rw [ho] at ho'; cases ho'
    exact ⟨_, es', ep', hL, r'⟩) hok I.bare
theorem Inv.call {g' : Array GenState} {t' : Nat} {d' : Drawn} {ch : List Addr} (I : Inv X pins σ H s) (u : Un (frs X.stack) ch H H' s.heap h') (hok : HOk X.prog X.w H' h') (hg : AllBare g')
    (hch : ∀ b ∈ ch, (b ∈ X.ex ∨ X.s₀.heap.objs.size ≤ b) ∧ b ≠ X.env.locals ∧ (∀ x c, X.env.cells.lookup x = some c → c ≠ b) ∧ ∀ p ∈ X.pn ++ pins, p.1 ≠ b) :
    Inv X pins σ H' { s with heap := h', gens := g', drawn := d', toks := t' } := by
  obtain ⟨m, ⟨o, es, ep, ho, r⟩, _⟩ := id I.loc
  obtain ⟨sl, hL⟩ := u.any ho I.free fun z => (hch _ z).2.1 rfl
  exact I.step (ch := ch) hch (fun b o hL hb hc e n => u.keep b o e n (fun z => (List.mem_cons.mp (I.stkSub b z)).elim hL hb) hc) (fun b o _ _ hc e n => u.any e n hc) (fun b o hc e n => u.free b o e n hc) (fun b o hc e => u.there b o e hc) u.tups u.frzs u.tbls (fun m' hm => by
    obtain ⟨o', es', ep', ho', r'⟩ := hm
    rw [ho] at ho'; cases ho'
    exact ⟨_, es', ep', hL, r'⟩) hok hg
theorem Inv.turned {t' : Nat} {it : Addr} (I : Inv X pins σ H s) (k : ∀ b o, b ≠ it → s.heap.get? b = some o → h'.get? b = some o) (hn : H it = none) (hL : it ≠ X.env.locals)
    (h1 : it ∈ X.ex ∨ X.s₀.heap.objs.size ≤ it) (h2 : ∀ x c, X.env.cells.lookup x = some c → c ≠ it) (h3 : ∀ p ∈ X.pn ++ pins, p.1 ≠ it) : Inv X pins σ H { s with heap := h', toks := t' } := by
  have nit : ∀ b u, H b = some u → b ≠ it := fun b u e z => by rw [z, hn] at e; cases e
  refine I.step (g' := s.gens) (d' := s.drawn) (ch := [it]) (fun b hb => ?_) (fun b o _ _ hc e _ => k b o (fun z => hc (by simp [z])) e) (fun b o _ _ hc e _ => ⟨o.slots, k b o (fun z => hc (by simp [z])) e⟩) (fun _ _ _ _ n => n)
    (fun b o hc e => ⟨o, k b o (fun z => hc (by simp [z])) e⟩) (fun _ _ e => e) (fun _ _ _ e => e) (fun b ps e => ⟨#[], by rw [e]; simp⟩) (fun m hm => ?_) (fun b u e => ?_) I.bare
  · have e : b = it := by simpa using hb
    subst e
    exact ⟨h1, hL, h2, h3⟩
  · obtain ⟨o, es, ep, ho, r⟩ := hm
    exact ⟨o, es, ep, k _ o (Ne.symm hL) ho, r⟩
  · refine (I.hok b u e).stay (fun c v hc q => k c v ?_ q) (fun _ q => q) fun _ _ q => q
    rcases hc with z | z
    · rw [z]; exact nit b u e
    · exact nit c _ z
theorem Inv.tok (I : Inv X pins σ H s) (t : Nat) : Inv X pins σ H { s with toks := t } := I.un (h' := s.heap) (t' := t) Un.refl I.hok
theorem Inv.kept {t' : Nat} (I : Inv X pins σ H s) (k : ∀ b u, s.heap.get? b = some u → h'.get? b = some u) : Inv X pins σ H { s with heap := h', toks := t' } := I.un (Un.kept k) (I.hok.kept k)
theorem Inv.laid {a : Addr} {o : HO} {t' : Nat} (I : Inv X pins σ H s) (k : ∀ b u, s.heap.get? b = some u → h'.get? b = some u) (hp : s.heap.objs.size ≤ a) (new : ObjOk X.prog X.w (upd H a o) h' a o) :
    Inv X pins σ (upd H a o) { s with heap := h', toks := t' } := I.un (Un.laid k hp (I.hok.fresh hp)) (I.hok.laid k hp new)
theorem Inv.write {x e : Addr} {o : HO} {t' : Nat} (I : Inv X pins σ H s) (mu : Mut (H x)) (he : e = x ∨ H e = some (.own x)) (k : ∀ b u, b ≠ e → s.heap.get? b = some u → h'.get? b = some u) (heo : ∃ u, h'.get? e = some u)
    (new : ObjOk X.prog X.w (upd H x o) h' x o) : Inv X pins σ (upd H x o) { s with heap := h', toks := t' } := I.un (Un.write mu he k heo) (I.hok.write mu he k heo new)
theorem Inv.pins_of {pins' : List (Addr × Obj)} (I : Inv X pins σ H s) (h : ∀ p ∈ pins', s.heap.get? p.1 = some p.2 ∧ H p.1 = none ∧ p.1 ≠ X.env.locals ∧ p.1 ∉ X.fs ∧ ∀ v, p.2.data ≠ .cell v) : Inv X pins' σ H s :=
  ⟨I.ok, I.os, I.bare, I.base, I.loc, I.cell, I.free, I.freeC, fun p hp => (List.mem_append.mp hp).elim (fun z => I.pin p (List.mem_append_left _ z)) (h p), I.hok, I.len⟩

theorem nodup_ix {N : List Str} (hN : N.Nodup) {i j : Nat} {x : Str} (a : N[i]? = some x) (b : N[j]? = some x) : i = j := by
  obtain ⟨h1, e1⟩ := List.getElem?_eq_some_iff.mp a
  obtain ⟨h2, e2⟩ := List.getElem?_eq_some_iff.mp b
  exact (List.getElem_inj hN).mp (e1.trans e2.symm)

theorem store_ok2 {M : Model} {A : Around} {E : Value → Shared → Prop} {i : Nat} {x : Str} {v : V} {u : Value} {Q : Unit → Shared → Prop} (I : Inv X pins σ H s) (hN : X.N.Nodup) (hi : X.N[i]? = some x) (hx : Loc X.env.scope x) (r : RelV v u)
    (h : ∀ s', Inv X pins (σ.set i (some v)) H s' → (∃ a, Heap.SameBut a s.heap s'.heap ∧ (a = X.env.locals ∨ X.env.cells.lookup x = some a)) → Q () s') (hf : X.fn x = true ∨ X.env.scope.names.lookup x = some .local := by first | exact .inl rfl | exact .inr rfl | assumption) : wpAny M A (storeName X.env x u) Q E s := by
  obtain ⟨m, hn, hl⟩ := id I.loc
  have hcls : (X.env.scope.kind == .class || (X.env.scope.kind == .module && X.env.locals != X.env.globals)) = false := by rw [I.ok.kind]; rfl
  have hiσ : i < σ.length := by rw [I.len]; exact (List.getElem?_eq_some_iff.mp hi).1
  have cne := I.cne
  have tracked : ∀ {a : Addr} {h' : Heap}, (∃ o, s.heap.get? a = some o ∧ H a = none) → Heap.SameBut a s.heap h' → HOk X.prog X.w H h' := fun {a h'} ha hs b ob e => by
    obtain ⟨_, _, hfree⟩ := ha
    refine (I.hok b ob e).stay (fun c w' hc q => (hs.2 c ?_).trans q) (fun _ q => q) fun _ _ q => q
    rintro rfl
    rcases hc with rfl | hc
    · rw [hfree] at e; cases e
    · rw [hfree] at hc; cases hc
  rcases hx with hk | hk
  · refine wpAny_storeName_local hk hn (fun h' hn' hs => ?_) hcls
    obtain ⟨oL, _, _, hoL, _⟩ := id hn
    refine h _ ⟨I.ok, I.os, I.bare, ⟨fun b o e n hb hx => ?_, fun b o e n hb hx => ?_, I.base.free, fun b o e hx => ?_, I.base.tups, I.base.frzs, I.base.tbls⟩, ⟨_, hn', fun j y v' e1 e2 e3 => ?_⟩, fun y c e => ?_, I.free, I.freeC, fun p hp => ?_, tracked ⟨oL, hoL, I.free⟩ hs, by simpa using I.len⟩ ⟨_, hs, .inl rfl⟩
    · exact (hs.2 b (Nat.ne_of_lt (Nat.lt_of_lt_of_le (Heap.lt_size e) I.ok.above))).trans (I.base.keep b o e n hb hx)
    · obtain ⟨sl, e1⟩ := I.base.slot b o e n hb hx
      exact ⟨sl, (hs.2 b (Nat.ne_of_lt (Nat.lt_of_lt_of_le (Heap.lt_size e) I.ok.above))).trans e1⟩
    · obtain ⟨o', e1⟩ := I.base.there b o e hx
      exact ⟨o', (hs.2 b (Nat.ne_of_lt (Nat.lt_of_lt_of_le (Heap.lt_size e) I.ok.above))).trans e1⟩
    · by_cases hj : j = i
      · subst hj
        rw [hi] at e1; cases e1
        rw [List.getElem?_set_self hiσ] at e2
        cases e2
        exact ⟨u, r, .inl ⟨hk, by simp⟩⟩
      · rw [List.getElem?_set_ne (Ne.symm hj)] at e2
        obtain ⟨u', r', q⟩ := hl j y v' e1 e2 e3
        refine ⟨u', r', ?_⟩
        rcases q with ⟨k, e⟩ | ⟨k, c, e, z⟩
        · refine .inl ⟨k, ?_⟩
          have : y ≠ x := fun e => hj (nodup_ix hN e1 (e ▸ hi))
          simp [this, e]
        · exact .inr ⟨k, c, e, z.sameBut hs (cne y c e)⟩
    · obtain ⟨w', z⟩ := I.cell y c e
      exact ⟨w', z.sameBut hs (cne y c e)⟩
    · obtain ⟨e, n, ne, nf, d⟩ := I.pin p hp
      exact ⟨(hs.2 p.1 ne).trans e, n, ne, nf, d⟩
  · have hfn : X.fn x = true := by
      rcases hf with z | z
      · exact z
      · rw [z] at hk; cases hk
    obtain ⟨c, hc⟩ := I.ok.has x (.inl hk)
    obtain ⟨w', z⟩ := I.cell x c hc
    refine wpAny_storeName_cell I.ok.kind hk hc z (fun h' hc' hs => ?_)
    obtain ⟨oc, hoc, hocd⟩ := id z
    refine h { s with heap := h' } ⟨I.ok, I.os, I.bare, ⟨fun b o e n hb hx => ?_, fun b o e n hb hx => ?_, I.base.free, fun b o e hx => ?_, I.base.tups, I.base.frzs, I.base.tbls⟩, ⟨m, hn.sameBut hs (Ne.symm (cne x c hc)), fun j y v' e1 e2 e3 => ?_⟩, fun y c' e => ?_, I.free, I.freeC, fun p hp => ?_, tracked ⟨oc, hoc, I.freeC x c hc⟩ hs, by simpa using I.len⟩ ⟨c, hs, .inr hc⟩
    · exact (hs.2 b (Nat.ne_of_lt (Nat.lt_of_lt_of_le (Heap.lt_size e) (I.ok.cab x c hfn hc)))).trans (I.base.keep b o e n hb hx)
    · obtain ⟨sl, e1⟩ := I.base.slot b o e n hb hx
      exact ⟨sl, (hs.2 b (Nat.ne_of_lt (Nat.lt_of_lt_of_le (Heap.lt_size e) (I.ok.cab x c hfn hc)))).trans e1⟩
    · obtain ⟨o', e1⟩ := I.base.there b o e hx
      exact ⟨o', (hs.2 b (Nat.ne_of_lt (Nat.lt_of_lt_of_le (Heap.lt_size e) (I.ok.cab x c hfn hc)))).trans e1⟩
    · by_cases hj : j = i
      · subst hj
        rw [hi] at e1; cases e1
        rw [List.getElem?_set_self hiσ] at e2
        cases e2
        exact ⟨u, r, .inr ⟨.inl hk, c, hc, hc'⟩⟩
      · rw [List.getElem?_set_ne (Ne.symm hj)] at e2
        obtain ⟨u', r', q⟩ := hl j y v' e1 e2 e3
        refine ⟨u', r', ?_⟩
        rcases q with q | ⟨k, c', e, z'⟩
        · exact .inl q
        · refine .inr ⟨k, c', e, z'.sameBut hs ?_⟩
          rintro rfl
          exact hj (nodup_ix hN e1 (I.ok.inj _ _ _ e hc ▸ hi))
    · by_cases hcc : c' = c
      · subst hcc; exact ⟨_, hc'⟩
      · obtain ⟨w2, z2⟩ := I.cell y c' e
        exact ⟨w2, z2.sameBut hs hcc⟩
    · obtain ⟨e, n, ne, nf, d⟩ := I.pin p hp
      refine ⟨(hs.2 p.1 ?_).trans e, n, ne, nf, d⟩
      intro q
      rw [q, hoc] at e
      have q' : oc = p.2 := Option.some.inj e
      exact d w' (by rw [← q']; exact hocd)
theorem store_ok {M : Model} {A : Around} {E : Value → Shared → Prop} {i : Nat} {x : Str} {v : V} {u : Value} {Q : Unit → Shared → Prop} (I : Inv X pins σ H s) (hN : X.N.Nodup) (hi : X.N[i]? = some x) (hx : Loc X.env.scope x) (r : RelV v u)
    (h : ∀ s', Inv X pins (σ.set i (some v)) H s' → Q () s') (hf : X.fn x = true ∨ X.env.scope.names.lookup x = some .local := by first | exact .inl rfl | exact .inr rfl | assumption) : wpAny M A (storeName X.env x u) Q E s :=
  store_ok2 I hN hi hx r (fun s' I' _ => h s' I') hf
theorem Inv.call' {s' : Shared} {ch : List Addr} (I : Inv X pins σ H s) (ho : s'.os = s.os) (u : Un (frs X.stack) ch H H' s.heap s'.heap) (hok : HOk X.prog X.w H' s'.heap) (hg : AllBare s'.gens)
    (hch : ∀ b ∈ ch, (b ∈ X.ex ∨ X.s₀.heap.objs.size ≤ b) ∧ b ≠ X.env.locals ∧ (∀ x c, X.env.cells.lookup x = some c → c ≠ b) ∧ ∀ p ∈ X.pn ++ pins, p.1 ≠ b) : Inv X pins σ H' s' := by
  obtain ⟨h', g', d', t', o'⟩ := s'
  have e : o' = s.os := ho
  subst e
  exact I.call (g' := g') (t' := t') (d' := d') u hok hg hch
end

noncomputable abbrev XK := Value → Option Addr → Hp → Prop
noncomputable abbrev St := List (Option V)
noncomputable abbrev VK := V → Hp → Prop
noncomputable abbrev TE := St → Hp → VK → Prop
noncomputable abbrev TT := St → Hp → (Bool → Hp → Prop) → Prop
noncomputable abbrev TA := St → Hp → (List V → Hp → Prop) → Prop
structure Ends where
  nx : St → Hp → Prop
  rt : VK
  bk : St → Hp → Prop := fun _ _ => False
  ct : St → Hp → Prop := fun _ _ => False
noncomputable abbrev TS := Ends → St → Hp → Prop

noncomputable def EP (X : Cx) (pins : List (Addr × Obj)) (σ : St) (Q : VK) (u : Value) (s' : Shared) : Prop := ∃ v H', Inv X pins σ H' s' ∧ RelV v u ∧ Q v H'
noncomputable def TP (X : Cx) (pins : List (Addr × Obj)) (σ : St) (Q : Bool → Hp → Prop) (b : Bool) (s' : Shared) : Prop := ∃ H', Inv X pins σ H' s' ∧ Q b H'
noncomputable def AP (X : Cx) (pins : List (Addr × Obj)) (σ : St) (Q : List V → Hp → Prop) (us : List Value) (s' : Shared) : Prop := ∃ vs H', Inv X pins σ H' s' ∧ Vals vs us ∧ Q vs H'
noncomputable def SP (X : Cx) (pins : List (Addr × Obj)) (D : Ends) (f : Flow) (s' : Shared) : Prop :=
  match f with
  | .next => ∃ σ' H', Inv X pins σ' H' s' ∧ D.nx σ' H'
  | .brk => ∃ σ' H', Inv X pins σ' H' s' ∧ D.bk σ' H'
  | .cont => ∃ σ' H', Inv X pins σ' H' s' ∧ D.ct σ' H'
  | .ret u => ∃ v σ' H', Inv X pins σ' H' s' ∧ RelV v u ∧ D.rt v H'

noncomputable def PE (X : Cx) (e : Expr) (t : TE) : Prop :=
  ∀ (pins : List (Addr × Obj)) (s : Shared) (σ : St) (H : Hp) (Q : VK), Inv X pins σ H s → t σ H Q → wpAny (model X.prog X.w) X.A (eval e X.env) (EP X pins σ Q) X.xe s
noncomputable def PT (X : Cx) (e : Expr) (t : TT) : Prop :=
  ∀ (pins : List (Addr × Obj)) (s : Shared) (σ : St) (H : Hp) (Q : Bool → Hp → Prop), Inv X pins σ H s → t σ H Q → wpAny (model X.prog X.w) X.A (isTrue e X.env (eval e X.env)) (TP X pins σ Q) X.xe s
noncomputable def PW (X : Cx) (e : Expr) (t : TT) : Prop :=
  ∀ (whole : Sem Value) (pins : List (Addr × Obj)) (s : Shared) (σ : St) (H : Hp) (Q : Bool → Hp → Prop), Inv X pins σ H s → t σ H Q → wpAny (model X.prog X.w) X.A (isTrue e X.env whole) (TP X pins σ Q) X.xe s
theorem PW.pt {X : Cx} {e : Expr} {t : TT} (h : PW X e t) : PT X e t := h _
noncomputable def PA (X : Cx) (es : List Expr) (t : TA) : Prop :=
  ∀ (pos : Pos) (pins : List (Addr × Obj)) (s : Shared) (σ : St) (H : Hp) (Q : List V → Hp → Prop), Inv X pins σ H s → t σ H Q → wpAny (model X.prog X.w) X.A (spliced (backTo pos (starEach es X.env))) (AP X pins σ Q) X.xe s
noncomputable def PS (X : Cx) (st : Stmt) (t : TS) : Prop :=
  ∀ (pins : List (Addr × Obj)) (s : Shared) (σ : St) (H : Hp) (D : Ends), Inv X pins σ H s → t D σ H → wpAny (model X.prog X.w) X.A (exec st X.env) (SP X pins D) X.xe s
noncomputable def PSs (X : Cx) (st : List Stmt) (t : TS) : Prop :=
  ∀ (pins : List (Addr × Obj)) (s : Shared) (σ : St) (H : Hp) (D : Ends), Inv X pins σ H s → t D σ H → wpAny (model X.prog X.w) X.A (execs st X.env) (SP X pins D) X.xe s
theorem thn {α : Type} {t : Sem α} {Q Q' : α → Shared → Prop} {M : Model} {A : Around} {E : Value → Shared → Prop} {s : Shared} (h : wpAny M A t Q E s) (hQ : ∀ a s, Q a s → Q' a s) : wpAny M A t Q' E s := wpAny_mono h hQ fun _ _ x => x
end L2

namespace L2
open PySem PySem.Spec PyProof.Rows
section
variable {X : Cx}

noncomputable def tVar (i : Nat) : TE := fun σ H Q => ∃ v, σ[i]? = some (some v) ∧ Q v H
noncomputable def tC (v : V) : TE := fun _ H Q => Q v H
theorem pe_var {i : Nat} {x : Str} {pos : Pos} (hN : X.N[i]? = some x) (hv : Vis X.env.scope x) (hd : (x == ("__debug__" : Str)) = false := by decide) (hcd : (x == ("__classdict__" : Str)) = false := by decide) : PE X (.Name x pos) (tVar i) := by
  intro pins s σ H Q I h
  obtain ⟨v, e, h⟩ := h
  obtain ⟨m, hn, hl⟩ := I.loc
  obtain ⟨u, r, l⟩ := hl i x v hN e hv
  have fin : EP X pins σ Q u s := ⟨v, H, I, r, h⟩
  rcases l with ⟨hk, hm⟩ | ⟨hk, c, hc, hcell⟩
  · exact wpAny_Name (wpAny_loadName_local I.ok.kind hk hn hm fin) hd
  · rcases hk with hk | hk
    · exact wpAny_Name (wpAny_loadName_cell I.ok.kind hk hc hcell fin) hd
    · exact wpAny_Name (wpAny_loadName_free I.ok.kind hk hc hcell fin hcd) hd
theorem pe_int {i j pos} : PE X (.Constant (.int i) j pos) (tC (.int i)) := fun _ _ _ H _ I h => wpAny_Constant_int ⟨.int i, H, I.tok _, ⟨_, rfl⟩, h⟩
theorem pe_bl {b j pos} : PE X (.Constant (.bool b) j pos) (tC (.bl b)) := fun _ _ _ H _ I h => Constant_bool ⟨.bl b, H, I, rfl, h⟩
theorem pe_non {j pos} : PE X (.Constant .none j pos) (tC .non) := fun _ _ _ H _ I h => Constant_none ⟨.non, H, I, rfl, h⟩
theorem pe_str {x j pos} : PE X (.Constant (.str x) j pos) (tC (.str x)) := fun _ _ _ H _ I h => Calls.Constant_str ⟨.str x, H, I.tok _, ⟨_, rfl⟩, h⟩

noncomputable def Gl (X : Cx) (x : Str) : Prop := X.env.kindOf x = some .globalImplicit
theorem ld_glob {E : Value → Shared → Prop} {pins : List (Addr × Obj)} {s : Shared} {σ : St} {H : Hp} {x : Str} {u : Value} {pos : Pos} {Q : Value → Shared → Prop} (I : Inv X pins σ H s) (hg : Gl X x) (hm : X.mg x = some u) (h : Q u s)
    (hd : (x == ("__debug__" : Str)) = false := by decide) : wpAny (model X.prog X.w) X.A (eval (.Name x pos) X.env) Q E s :=
  Calls.Name_function_global I.ok.kind hg (Calls.loadGlobal_global (by rw [I.ok.glob]; exact I.mod.glob.keeps I.bk) hm h) hd
theorem ld_blt {E : Value → Shared → Prop} {pins : List (Addr × Obj)} {s : Shared} {σ : St} {H : Hp} {x : Str} {u : Value} {pos : Pos} {Q : Value → Shared → Prop} (I : Inv X pins σ H s) (hg : Gl X x) (hm : X.mg x = none) (hv : bootBuiltins x = some u) (h : Q u s)
    (hn : x ≠ "__name__" := by decide) (hd : (x == ("__debug__" : Str)) = false := by decide) : wpAny (model X.prog X.w) X.A (eval (.Name x pos) X.env) Q E s := by
  obtain ⟨mb, h1, h2⟩ := I.mod.blt
  exact Calls.Name_function_global I.ok.kind hg (Calls.loadGlobal_builtin (by rw [I.ok.glob]; exact I.mod.glob.keeps I.bk) hm (by rw [I.ok.blt]; exact h1.keeps I.bk) ((h2 x hn).trans hv) h) hd
theorem pe_glob {x : Str} {v : V} {u : Value} {pos : Pos} (hg : Gl X x) (hm : X.mg x = some u) (r : RelV v u) (hd : (x == ("__debug__" : Str)) = false := by decide) : PE X (.Name x pos) (tC v) :=
  fun _ _ _ H _ I h => ld_glob I hg hm ⟨v, H, I, r, h⟩ hd
theorem pe_bltn {x : Str} {v : V} {u : Value} {pos : Pos} (hg : Gl X x) (hm : X.mg x = none) (hv : bootBuiltins x = some u) (r : RelV v u) (hn : x ≠ "__name__" := by decide) (hd : (x == ("__debug__" : Str)) = false := by decide) : PE X (.Name x pos) (tC v) :=
  fun _ _ _ H _ I h => ld_blt I hg hm hv ⟨v, H, I, r, h⟩ hn hd

variable {a b : Expr} {ta tb : TE} {pos : Pos}
noncomputable def tB (t : TE) : TT := fun σ H Q => t σ H fun x H1 => ∃ c, x = .bl c ∧ Q c H1
theorem pt_val {e : Expr} {t : TE} (h : PE X e t) (he : ∀ whole, isTrue e X.env whole = (do let v ← whole; standAt e.pos; holding [v] (truthy v)) := by intro _; rfl) : PT X e (tB t) := by
  intro pins s σ H Q I hw
  refine isTrue_plain (thn (h pins s σ H _ I hw) fun v s1 ⟨x, H1, I1, r1, q1⟩ => ?_) (he _)
  obtain ⟨d, rfl, q⟩ := q1
  cases r1
  exact wpAny_truthy_bool ⟨H1, I1, q⟩

variable {tA tB' : TT} {rest : List Expr}
noncomputable def tAnd (t u : TT) : TT := fun σ H Q => t σ H fun c H1 => if c = true then u σ H1 Q else Q false H1
noncomputable def tOr (t u : TT) : TT := fun σ H Q => t σ H fun c H1 => if c = true then Q true H1 else u σ H1 Q
noncomputable def tNot (t : TT) : TT := fun σ H Q => t σ H fun c H1 => Q (!c) H1
theorem pw_and1 (ha : PT X a tA) : PW X (.BoolOp .And [a] pos) tA := by
  intro wh pins s σ H Q I h
  refine isTrue_and (thn (ha pins s σ H Q I h) fun c s1 e => ?_)
  cases c with
  | true => exact isTrue_and_nil e
  | false => exact e
theorem pw_or1 (ha : PT X a tA) : PW X (.BoolOp .Or [a] pos) tA := by
  intro wh pins s σ H Q I h
  refine isTrue_or (thn (ha pins s σ H Q I h) fun c s1 e => ?_)
  cases c with
  | false => exact isTrue_or_nil e
  | true => exact e
theorem pw_and (ha : PT X a tA) (hb : PW X (.BoolOp .And (b :: rest) pos) tB') : PW X (.BoolOp .And (a :: b :: rest) pos) (tAnd tA tB') := by
  intro wh pins s σ H Q I h
  refine isTrue_and (thn (ha pins s σ H _ I h) fun c s1 ⟨H1, I1, q1⟩ => ?_)
  cases c with
  | true => exact hb wh pins s1 σ H1 Q I1 q1
  | false => exact ⟨H1, I1, q1⟩
theorem pw_or (ha : PT X a tA) (hb : PW X (.BoolOp .Or (b :: rest) pos) tB') : PW X (.BoolOp .Or (a :: b :: rest) pos) (tOr tA tB') := by
  intro wh pins s σ H Q I h
  refine isTrue_or (thn (ha pins s σ H _ I h) fun c s1 ⟨H1, I1, q1⟩ => ?_)
  cases c with
  | true => exact ⟨H1, I1, q1⟩
  | false => exact hb wh pins s1 σ H1 Q I1 q1
theorem pt_not (ha : PT X a tA) : PT X (.UnaryOp .Not a pos) (tNot tA) := by
  intro pins s σ H Q I h
  exact isTrue_not (ha pins s σ H (fun c H1 => Q (!c) H1) I h)
noncomputable def tAndV (ta tb : TE) : TE := fun σ H Q => ta σ H fun x H1 => ∃ c, x = .bl c ∧ if c = true then tb σ H1 Q else Q (.bl false) H1
theorem pe_one {op} {t : TE} (h : PE X a t) : PE X (.BoolOp op [a] pos) t := fun pins s σ H Q I hw => BoolOp_one (h pins s σ H Q I hw)
theorem pe_and (ha : PE X a ta) (hb : PE X (.BoolOp .And (b :: rest) pos) tb) : PE X (.BoolOp .And (a :: b :: rest) pos) (tAndV ta tb) := by
  intro pins s σ H Q I h
  refine BoolOp_and (thn (ha pins s σ H _ I h) fun v s1 ⟨x, H1, I1, r1, q1⟩ => ?_)
  obtain ⟨c, rfl, q1⟩ := q1
  cases r1
  refine wpAny_truthy_bool ?_
  cases c with
  | true => exact hb pins s1 σ H1 Q I1 q1
  | false => exact ⟨.bl false, H1, I1, rfl, q1⟩
end
end L2

namespace L2
open PySem PySem.Spec PyProof.Rows

noncomputable def SqL (K : PySem.W.Frag) (H : Hp) (a : Addr) (xs : List V) : Prop :=
  Rd H a (.lst xs) ∨
    ∃ (o : Obj) (its : Array Value) (n : Nat), K.lookup a = some o ∧ o.cls = .type "list" ∧ o.dict = none ∧ o.data = .seq its n ∧ its.size ≤ sizeLine ∧ Vals xs its.toList
noncomputable def SqT (K : PySem.W.Frag) (H : Hp) (a : Addr) (xs : List V) : Prop :=
  Rd H a (.tup xs) ∨
    ∃ (o : Obj) (its : Array Value) (n : Nat), K.lookup a = some o ∧ o.cls = .type "tuple" ∧ o.data = .seq its n ∧ its.size ≤ sizeLine ∧ Vals xs its.toList
noncomputable def absV : Value → Option V
  | .none => some .non
  | .bool b => some (.bl b)
  | .int i _ => some (.int i)
  | .str x _ => some (.str x)
  | .bytes b _ => some (.byt b)
  | .float b _ => some (.flt b)
  | .ref a => some (.ref a)
  | .type n => some (.ty n)
  | _ => none
theorem RelV.abs {x : V} {u : Value} (r : RelV x u) : absV u = some x := by
  cases x with
  | non => cases r; rfl
  | bl _ => cases r; rfl
  | int _ => obtain ⟨t, rfl⟩ := r; rfl
  | str _ => obtain ⟨t, rfl⟩ := r; rfl
  | byt _ => obtain ⟨t, rfl⟩ := r; rfl
  | flt _ => obtain ⟨t, rfl⟩ := r; rfl
  | ref _ => cases r; rfl
  | ty _ => cases r; rfl
theorem RelV.inj {x y : V} {u : Value} (r : RelV x u) (q : RelV y u) : x = y := Option.some.inj (r.abs.symm.trans q.abs)
theorem Vals.inj : ∀ {xs ys : List V} {us : List Value}, Vals xs us → Vals ys us → xs = ys
  | _, _, _, .nil, .nil => rfl
  | _, _, _, .cons r t, .cons r' t' => by rw [r.inj r', Vals.inj t t']
section
variable {X : Cx} {pins : List (Addr × Obj)} {σ : St} {H : Hp} {s : Shared} {a : Addr} {xs ys : List V}
theorem SqL.of {K : PySem.W.Frag} (h : H a = some (.lst xs)) : SqL K H a xs := .inl (.inl h)
theorem SqT.of {K : PySem.W.Frag} (h : H a = some (.tup xs)) : SqT K H a xs := .inl (.inl h)
theorem Inv.list (I : Inv X pins σ H s) (h : SqL X.K H a xs) : ∃ its : List Value, Vals xs its ∧ PlainL s.heap a its.toArray ∧ xs.length ≤ sizeLine := by
  rcases h with h | ⟨o, its, n, hk, hc, hd, hs, hz, r⟩
  · obtain ⟨z, its, n, r, e⟩ := h.ok I.hok
    exact ⟨its, r, ⟨_, n, e, rfl, rfl, rfl⟩, z⟩
  · refine ⟨its.toList, r, ⟨o, n, I.kIn a o hk, hc, hd, by simpa using hs⟩, ?_⟩
    have e := r.length
    simp only [Array.length_toList] at e
    omega
theorem Inv.tuple (I : Inv X pins σ H s) (h : SqT X.K H a xs) : ∃ its : List Value, Vals xs its ∧ IsTup s.heap a its.toArray ∧ xs.length ≤ sizeLine := by
  rcases h with h | ⟨o, its, n, hk, hc, hs, hz, r⟩
  · obtain ⟨z, its, r, p⟩ := h.ok I.hok
    exact ⟨its, r, p, z⟩
  · refine ⟨its.toList, r, ⟨o, I.kIn a o hk, hc, n, by simpa using hs⟩, ?_⟩
    have e := r.length
    simp only [Array.length_toList] at e
    omega
theorem Inv.list_inj (I : Inv X pins σ H s) (h : SqL X.K H a xs) (h' : SqL X.K H a ys) : xs = ys := by
  obtain ⟨its, r, ⟨o, n, e, _, _, d⟩, _⟩ := I.list h
  obtain ⟨its', r', ⟨o', n', e', _, _, d'⟩, _⟩ := I.list h'
  rw [e] at e'; cases e'
  rw [d] at d'
  injection d' with d1 _
  have : its = its' := by simpa using congrArg Array.toList d1
  subst this
  exact r.inj r'
theorem Inv.tuple_inj (I : Inv X pins σ H s) (h : SqT X.K H a xs) (h' : SqT X.K H a ys) : xs = ys := by
  obtain ⟨its, r, ⟨o, e, _, n, d⟩, _⟩ := I.tuple h
  obtain ⟨its', r', ⟨o', e', _, n', d'⟩, _⟩ := I.tuple h'
  rw [e] at e'; cases e'
  rw [d] at d'
  injection d' with d1 _
  have : its = its' := by simpa using congrArg Array.toList d1
  subst this
  exact r.inj r'
end

noncomputable abbrev Cx.wish (X : Cx) (E : Value → Shared → Prop) : Cx := { X with xe := E }
noncomputable abbrev Cx.nox (X : Cx) : Cx := X.wish fun _ _ => False
theorem Cx.Ok.wish {X : Cx} (ok : X.Ok) (E : Value → Shared → Prop) : (X.wish E).Ok :=
  ⟨ok.mod, ok.kind, ok.glob, ok.blt, ok.above, ok.inj, ok.has, ok.cab, ok.hd, ok.frames, ok.stk, ok.exf, ok.bs, ok.bsz, ok.noex, ok.exfs, ok.funs, ok.frf⟩
theorem Cx.Ok.unwish {X : Cx} {E : Value → Shared → Prop} (ok : (X.wish E).Ok) : X.Ok :=
  ⟨ok.mod, ok.kind, ok.glob, ok.blt, ok.above, ok.inj, ok.has, ok.cab, ok.hd, ok.frames, ok.stk, ok.exf, ok.bs, ok.bsz, ok.noex, ok.exfs, ok.funs, ok.frf⟩
section
variable {X : Cx} {pins : List (Addr × Obj)} {σ : St} {H : Hp} {s : Shared} {E : Value → Shared → Prop}
theorem Inv.wish (I : Inv X pins σ H s) (E : Value → Shared → Prop) : Inv (X.wish E) pins σ H s := ⟨I.ok.wish E, I.os, I.bare, I.base, I.loc, I.cell, I.free, I.freeC, I.pin, I.hok, I.len⟩
theorem Inv.unwish (I : Inv (X.wish E) pins σ H s) : Inv X pins σ H s := ⟨I.ok.unwish, I.os, I.bare, I.base, I.loc, I.cell, I.free, I.freeC, I.pin, I.hok, I.len⟩
theorem SP.unwish {D : Ends} {f : Flow} {s' : Shared} (h : SP (X.wish E) pins D f s') : SP X pins D f s' := by
  cases f with
  | next => obtain ⟨σ', H', I, q⟩ := h; exact ⟨σ', H', I.unwish, q⟩
  | brk => obtain ⟨σ', H', I, q⟩ := h; exact ⟨σ', H', I.unwish, q⟩
  | cont => obtain ⟨σ', H', I, q⟩ := h; exact ⟨σ', H', I.unwish, q⟩
  | ret u => obtain ⟨v, σ', H', I, r, q⟩ := h; exact ⟨v, σ', H', I.unwish, r, q⟩
theorem PE.nox {e : Expr} {t : TE} (h : PE X.nox e t) : PE X e t := fun pins s σ H Q I hw =>
  wpAny_mono (h pins s σ H Q (I.wish _) hw) (fun _ _ ⟨v, H', I', r, q⟩ => ⟨v, H', I'.unwish, r, q⟩) fun _ _ z => False.elim z
theorem PT.nox {e : Expr} {t : TT} (h : PT X.nox e t) : PT X e t := fun pins s σ H Q I hw =>
  wpAny_mono (h pins s σ H Q (I.wish _) hw) (fun _ _ ⟨H', I', q⟩ => ⟨H', I'.unwish, q⟩) fun _ _ z => False.elim z
theorem PSs.nox {st : List Stmt} {t : TS} (h : PSs X.nox st t) : PSs X st t := fun pins s σ H D I hw =>
  wpAny_mono (h pins s σ H D (I.wish _) hw) (fun _ _ q => q.unwish) fun _ _ z => False.elim z
end

section
variable {X : Cx} {st : Stmt} {rest : List Stmt} {t u : TS} {e : Expr} {te : TE} {pos : Pos}
noncomputable def tNext : TS := fun D σ H => D.nx σ H
noncomputable def tSeq (t u : TS) : TS := fun D σ H => t { D with nx := u D } σ H
theorem pss_nil : PSs X [] tNext := fun _ _ σ H _ I h => wpAny_execs_nil ⟨σ, H, I, h⟩
theorem pss_cons (h1 : PS X st t) (h2 : PSs X rest u) : PSs X (st :: rest) (tSeq t u) := by
  intro pins s σ H D I h
  refine wpAny_execs_cons (thn (h1 pins s σ H { D with nx := u D } I h) fun f s1 q => ?_)
  cases f with
  | next =>
    obtain ⟨σ', H', I', q⟩ := q
    exact h2 pins s1 σ' H' D I' q
  | ret v => exact q
  | brk => exact q
  | cont => exact q
theorem pss_one (h1 : PS X st t) : PSs X [st] t := by
  intro pins s σ H D I h
  refine wpAny_execs_cons (thn (h1 pins s σ H D I h) fun f s1 q => ?_)
  cases f with
  | next => exact wpAny_execs_nil q
  | ret v => exact q
  | brk => exact q
  | cont => exact q
theorem Inv.quiet {pins : List (Addr × Obj)} {σ : St} {H : Hp} {s : Shared} (I : Inv X pins σ H s) : interactive X.env = false := by simp [interactive, I.ok.kind]
noncomputable def tDrop (te : TE) : TS := fun D σ H => te σ H fun _ H1 => D.nx σ H1
theorem ps_expr (he : PE X e te) (hs : swapsWith e none pos.line X.env = pure false := by rfl) : PS X (.Expr e pos) (tDrop te) := by
  intro pins s σ H D I h
  exact wpAny_Expr_any (thn (he pins s σ H _ I h) fun v s1 ⟨x, H1, I1, r1, q1⟩ => ⟨σ, H1, I1, q1⟩) I.quiet hs
noncomputable def tRet (te : TE) : TS := fun D σ H => te σ H D.rt
theorem ps_ret (he : PE X e te) : PS X (.Return (some e) pos) (tRet te) := by
  intro pins s σ H D I h
  exact wpAny_Return_some (thn (he pins s σ H _ I h) fun v s1 ⟨x, H1, I1, r1, q1⟩ => ⟨x, σ, H1, I1, r1, q1⟩)
noncomputable def tIfS (c : TT) (t u : TS) : TS := fun D σ H => c σ H fun b H1 => if b = true then t D σ H1 else u D σ H1
theorem ps_if {c : Expr} {a b : List Stmt} {tc : TT} (hc : PT X c tc) (ha : PSs X a t) (hb : PSs X b u) : PS X (.If c a b pos) (tIfS tc t u) := by
  intro pins s σ H D I h
  refine wpAny_If (thn (hc pins s σ H _ I h) fun d s1 ⟨H1, I1, q1⟩ => ?_)
  cases d with
  | true => exact ha pins s1 σ H1 D I1 q1
  | false => exact hb pins s1 σ H1 D I1 q1
end

noncomputable abbrev TG := V → St → Hp → (St → Hp → Prop) → Prop
noncomputable abbrev TGs := List V → St → Hp → (St → Hp → Prop) → Prop
noncomputable def PG (X : Cx) (target : Expr) (t : TG) : Prop :=
  ∀ (pins : List (Addr × Obj)) (s : Shared) (σ : St) (H : Hp) (v : V) (u : Value) (Q : St → Hp → Prop), Inv X pins σ H s → RelV v u → t v σ H Q →
    wpAny (model X.prog X.w) X.A (assign target X.env u) (fun _ s' => ∃ σ' H', Inv X pins σ' H' s' ∧ Q σ' H') X.xe s
noncomputable def PGs (X : Cx) (ts : List Expr) (t : TGs) : Prop :=
  ∀ (pins : List (Addr × Obj)) (s : Shared) (σ : St) (H : Hp) (vs : List V) (us : List Value) (Q : St → Hp → Prop), Inv X pins σ H s → Vals vs us → t vs σ H Q →
    wpAny (model X.prog X.w) X.A (assignInOrder ((assignEach ts X.env).map (·.2)) us) (fun _ s' => ∃ σ' H', Inv X pins σ' H' s' ∧ Q σ' H') X.xe s
noncomputable abbrev TSet := V → V → V → Hp → (Hp → Prop) → Prop
noncomputable def PSet (X : Cx) (t : TSet) : Prop :=
  ∀ (pins : List (Addr × Obj)) (s : Shared) (σ : St) (H : Hp) (o i v : V) (ov iv u : Value) (Q : Hp → Prop), Inv X pins σ H s → RelV o ov → RelV i iv → RelV v u → t o i v H Q →
    wpAny (model X.prog X.w) X.A (setItem ov iv u) (fun _ s' => ∃ H', Inv X pins σ H' s' ∧ Q H') X.xe s
noncomputable abbrev TIp := V → V → Hp → VK → Prop
noncomputable def PIp (X : Cx) (op : Operator) (t : TIp) : Prop :=
  ∀ (pins : List (Addr × Obj)) (s : Shared) (σ : St) (H : Hp) (x y : V) (v u : Value) (Q : VK), Inv X pins σ H s → RelV x v → RelV y u → t x y H Q →
    wpAny (model X.prog X.w) X.A (inplaceOp op v u) (EP X pins σ Q) X.xe s
section
variable {X : Cx} {pos : Pos}
noncomputable def gName (i : Nat) : TG := fun v σ H Q => Q (σ.set i (some v)) H
theorem pg_name {i : Nat} {x : Str} (hN : X.N.Nodup) (hi : X.N[i]? = some x) (hx : Loc X.env.scope x) (hf : X.fn x = true ∨ X.env.scope.names.lookup x = some .local := by first | exact .inl rfl | exact .inr rfl | assumption) : PG X (.Name x pos) (gName i) := by
  intro pins s σ H v u Q I r h
  exact wpAny_assign_Name (store_ok I hN hi hx r (fun s' I' => ⟨_, H, I', h⟩) hf)
noncomputable def gNil : TGs := fun vs σ H Q => vs = [] ∧ Q σ H
noncomputable def gCons (t : TG) (u : TGs) : TGs := fun vs σ H Q => ∃ v r, vs = v :: r ∧ t v σ H fun σ' H' => u r σ' H' Q
theorem pgs_nil : PGs X [] gNil := by
  intro pins s σ H vs us Q I r h
  obtain ⟨e, h⟩ := h
  subst e
  cases r
  exact assignInOrder_nil ⟨σ, H, I, h⟩
theorem pgs_cons {e : Expr} {es : List Expr} {t : TG} {u : TGs} (h1 : PG X e t) (h2 : PGs X es u)
    (hs : (assignEach (e :: es) X.env).map (·.2) = assign e X.env :: (assignEach es X.env).map (·.2) := by rfl) : PGs X (e :: es) (gCons t u) := by
  intro pins s σ H vs us Q I r h
  obtain ⟨v, vr, e1, h⟩ := h
  subst e1
  cases r with
  | cons r rr =>
    rw [hs]
    refine assignInOrder_cons (thn (h1 pins s σ H _ _ _ I r h) fun _ s1 ⟨σ1, H1, I1, q1⟩ => ?_)
    exact h2 pins s1 σ1 H1 _ _ Q I1 rr q1
noncomputable def gTup (K : PySem.W.Frag) (n : Nat) (t : TGs) : TG := fun v σ H Q => ∃ a xs, v = .ref a ∧ SqT K H a xs ∧ xs.length = n ∧ t xs σ H Q
theorem pg_tup {es : List Expr} {k : Nat} {t : TGs} {n : Nat} (hc : X.calm = true) (h : PGs X es t)
    (hn : (assignEach es X.env).length = n := by rfl) (hst : (assignEach es X.env).findIdx? (·.1) = none := by rfl) : PG X (.Tuple es k pos) (gTup X.K n t) := by
  intro pins s σ H v u Q I r hw
  obtain ⟨a, xs, e1, hq, hl, hw⟩ := hw
  subst e1
  cases r
  obtain ⟨its, rv, ht, hz⟩ := I.tuple hq
  refine assign_Tuple_tuple (I.ok.hd hc) ht (by simp [hn, ← hl, rv.length]) hst fun h' hx => ?_
  have I1 : Inv X pins σ H { s with heap := h' } := I.kept (t' := s.toks) fun b o e => hx b o (Nat.ne_of_lt (Heap.lt_size e)) e
  exact h pins _ σ H xs _ Q I1 (by simpa using rv) hw
noncomputable def gSub (to ti : TE) (t : TSet) : TG := fun v σ H Q => to σ H fun o H1 => ti σ H1 fun i H2 => t o i v H2 fun H3 => Q σ H3
theorem pg_sub {o i : Expr} {to ti : TE} {t : TSet} (ho : PE X o to) (hi : PE X i ti) (hs : PSet X t)
    (ha : ∀ v, assign (.Subscript o i pos) X.env v = (do
      let ov ← holding [v] (eval o X.env)
      let iv ← holding [v, ov] (eval i X.env)
      standAt pos
      holding [v, ov, iv] (setItem ov iv v)
      release [v, ov, iv] []) := by intro _; rfl) : PG X (.Subscript o i pos) (gSub to ti t) := by
  intro pins s σ H v u Q I r h
  rw [ha]
  refine wpAny_bind (wpAny_holding (thn (ho pins s σ H _ I h) fun ov s1 ⟨x, H1, I1, r1, q1⟩ => ?_))
  refine wpAny_bind (wpAny_holding (thn (hi pins s1 σ H1 _ I1 q1) fun iv s2 ⟨y, H2, I2, r2, q2⟩ => ?_))
  refine wpAny_bind (wpAny_standAt (wpAny_bind (wpAny_holding (thn (hs pins s2 σ H2 x y v ov iv u _ I2 r1 r2 r q2) fun _ s3 ⟨H3, I3, q3⟩ => ?_))))
  exact wpAny_release ⟨σ, H3, I3, q3⟩
noncomputable def tAsg (te : TE) (g : TG) : TS := fun D σ H => te σ H fun x H1 => g x σ H1 D.nx
theorem ps_asg {tg e : Expr} {te : TE} {g : TG} (he : PE X e te) (hg : PG X tg g) (hs : swapsWithSole [tg] e pos.line X.env = pure false := by rfl) (hw : swappedStores [tg] e X.env = pure none := by rfl)
    (h1 : (assignEach [tg] X.env).map (·.2) = [assign tg X.env] := by rfl) : PS X (.Assign [tg] e pos) (tAsg te g) := by
  intro pins s σ H D I h
  refine wpAny_Assign_stores (thn (he pins s σ H _ I h) fun v s1 ⟨x, H1, I1, r1, q1⟩ => ?_) hs hw
  rw [h1]
  exact thn (hg pins s1 σ H1 x v _ I1 r1 q1) fun _ s2 q => q
theorem ps_set {i : Nat} {x : Str} {e : Expr} {te : TE} {pos' : Pos} (hN : X.N.Nodup) (hi : X.N[i]? = some x) (hx : Loc X.env.scope x) (he : PE X e te) (hs : swapsWith e (some (.Name x pos')) pos.line X.env = pure false := by rfl) (hf : X.fn x = true ∨ X.env.scope.names.lookup x = some .local := by first | exact .inl rfl | exact .inr rfl | assumption) :
    PS X (.Assign [.Name x pos'] e pos) (tAsg te (gName i)) := by
  intro pins s σ H D I h
  refine wpAny_Assign_Name (thn (he pins s σ H _ I h) fun v s1 ⟨y, H1, I1, r1, q1⟩ => ?_) hs
  exact store_ok I1 hN hi hx r1 (fun s2 I2 => ⟨_, H1, I2, q1⟩) hf
noncomputable def tPar (i j : Nat) (ta : TA) : TS := fun D σ H => ta σ H fun vs H1 => ∃ v w, vs = [v, w] ∧ D.nx ((σ.set i (some v)).set j (some w)) H1
theorem ps_par {i j : Nat} {x y : Str} {a b : Expr} {ta : TA} {px py pt : Pos} {kt k2 pt2} (hc : X.calm = true) (hN : X.N.Nodup) (hi : X.N[i]? = some x) (hj : X.N[j]? = some y) (hij : i ≠ j)
    (hx : X.env.scope.names.lookup x = some .local) (hy : X.env.scope.names.lookup y = some .local) (ha : PA X [a, b] ta)
    (hw : swappedStores [.Tuple [.Name x px, .Name y py] kt pt] (.Tuple [a, b] k2 pt2) X.env = pure (some [x, y]))
    (hs : swapsWithSole [.Tuple [.Name x px, .Name y py] kt pt] (.Tuple [a, b] k2 pt2) pos.line X.env = pure false := by rfl) :
    PS X (.Assign [.Tuple [.Name x px, .Name y py] kt pt] (.Tuple [a, b] k2 pt2) pos) (tPar i j ta) := by
  intro pins s σ H D I h
  rw [exec_Assign_arm]
  refine wpAny_bind (wpAny_standAt ?_)
  rw [hs]
  refine wpAny_bind (wpAny_pure ?_)
  rw [if_neg (by decide)]
  refine wpAny_bind (Tuple_ (thn (ha _ pins s σ H _ I h) fun us s1 ⟨vs, H1, I1, r1, q1⟩ => ?_))
  obtain ⟨v, w, e1, q1⟩ := q1
  subst e1
  obtain ⟨u1, u2, rfl, rv, rw'⟩ : ∃ u1 u2, us = [u1, u2] ∧ RelV v u1 ∧ RelV w u2 := by
    cases r1 with
    | cons p q =>
      cases q with
      | cons p' q' =>
        cases q'
        exact ⟨_, _, rfl, p, p'⟩
  refine wpAny_newObj_type ?_ (by show 2 ≤ sizeLine; decide)
  have I2 : Inv X pins σ H1 { s1 with heap := s1.heap.push { cls := .type "tuple", data := .seq [u1, u2].toArray } } := I1.kept (t' := s1.toks) fun b o e => Heap.get?_push_of_some _ e
  rw [hw]
  refine wpAny_bind (wpAny_pure ?_)
  show wpAny (model X.prog X.w) X.A (do rule "assign.swapped-stores"; let items ← unpackItems (.ref s1.heap.objs.size) 2 none; assignInOrder [fun v => bindName X.env y v, fun v => bindName X.env x v] items.reverse; pure Flow.next) _ _ _
  refine wpAny_bind (wpAny_rule (wpAny_bind (unpackItems_tuple (items := #[u1, u2]) (I.ok.hd hc) (IsTup.new s1.heap _) fun h' hx' => ?_)))
  have I3 := I2.kept (h' := h') (t' := s1.toks) fun b o e => hx' b o (Nat.ne_of_lt (Heap.lt_size e)) e
  show wpAny _ _ (assignInOrder [fun v => bindName X.env y v, fun v => bindName X.env x v] [u2, u1] >>= fun _ => pure Flow.next) _ _ _
  refine wpAny_bind (assignInOrder_cons (wpAny_bindName (store_ok I3 hN hj (.inl hy) rw' (fun s2 I4 => ?_) (.inr hy))))
  refine assignInOrder_cons (wpAny_bindName (store_ok I4 hN hi (.inl hx) rv (fun s3 I5 => assignInOrder_nil (wpAny_pure ?_)) (.inr hx)))
  rw [List.set_comm _ _ (Ne.symm hij)] at I5
  exact ⟨_, H1, I5, q1⟩
noncomputable def tAug (i : Nat) (te : TE) (ti : TIp) : TS := fun D σ H => ∃ x, σ[i]? = some (some x) ∧ te σ H fun y H1 => ti x y H1 fun z H2 => D.nx (σ.set i (some z)) H2
theorem ps_aug {i : Nat} {x : Str} {e : Expr} {te : TE} {op : Operator} {ti : TIp} {pos' : Pos} (hN : X.N.Nodup) (hi : X.N[i]? = some x) (hx : Loc X.env.scope x) (he : PE X e te) (ho : PIp X op ti) (hf : X.fn x = true ∨ X.env.scope.names.lookup x = some .local := by first | exact .inl rfl | exact .inr rfl | assumption) :
    PS X (.AugAssign (.Name x pos') op e pos) (tAug i te ti) := by
  intro pins s σ H D I h
  obtain ⟨v, e1, h⟩ := h
  obtain ⟨m, hn, hl⟩ := I.loc
  have vis : Vis X.env.scope x := by rcases hx with k | k; exact .inl k; exact .inr (.inl k)
  obtain ⟨u, r, l⟩ := hl i x v hi e1 vis
  refine wpAny_AugAssign_Name ?_
  have go : wpAny (model X.prog X.w) X.A (eval e X.env) (fun w s₂ => wpAny (model X.prog X.w) X.A (inplaceOp op u w) (fun r s₃ => wpAny (model X.prog X.w) X.A (storeName X.env x r) (fun _ => SP X pins D .next) X.xe s₃) X.xe s₂) X.xe s := by
    refine thn (he pins s σ H _ I h) fun w s1 ⟨y, H1, I1, r1, q1⟩ => ?_
    refine thn (ho pins s1 σ H1 v y u w _ I1 r r1 q1) fun z s2 ⟨zv, H2, I2, r2, q2⟩ => ?_
    exact store_ok I2 hN hi hx r2 (fun s3 I3 => ⟨_, H2, I3, q2⟩) hf
  rcases l with ⟨hk, hm⟩ | ⟨hk, c, hc, hcell⟩
  · exact wpAny_loadName_local I.ok.kind hk hn hm go
  · rcases hk with hk | hk
    · exact wpAny_loadName_cell I.ok.kind hk hc hcell go
    · rcases hx with k | k
      · have : X.env.scope.names.lookup x = some .free := hk
        rw [k] at this; cases this
      · have : X.env.scope.names.lookup x = some .free := hk
        rw [k] at this; cases this
noncomputable def tAugS (to ti te : TE) (tget : V → V → Hp → VK → Prop) (tip : TIp) (tset : TSet) : TS := fun D σ H => to σ H fun o H1 => ti σ H1 fun i H2 => tget o i H2 fun x H3 => te σ H3 fun y H4 => tip x y H4 fun z H5 => tset o i z H5 fun H6 => D.nx σ H6
noncomputable def PGet (X : Cx) (t : V → V → Hp → VK → Prop) : Prop :=
  ∀ (pins : List (Addr × Obj)) (s : Shared) (σ : St) (H : Hp) (o i : V) (ov iv : Value) (Q : VK), Inv X pins σ H s → RelV o ov → RelV i iv → t o i H Q →
    wpAny (model X.prog X.w) X.A (getItem ov iv) (EP X pins σ Q) X.xe s
theorem ps_augS {o i e : Expr} {to ti te : TE} {tget : V → V → Hp → VK → Prop} {tip : TIp} {tset : TSet} {op : Operator} {tpos : Pos} (ho : PE X o to) (hi : PE X i ti) (hg : PGet X tget) (he : PE X e te) (hp : PIp X op tip) (hs : PSet X tset)
    (ha : ∀ ov iv new, augStore i ov iv new = (do holding [new, ov, iv] (setItem ov iv new); release [new, ov, iv] []; pure .next) := by intros; rfl) : PS X (.AugAssign (.Subscript o i tpos) op e pos) (tAugS to ti te tget tip tset) := by
  intro pins s σ H D I h
  refine wpAny_AugAssign_SubscriptAny (thn (ho pins s σ H _ I h) fun ov s1 ⟨x1, H1, I1, r1, q1⟩ => ?_) ha
  refine thn (hi pins s1 σ H1 _ I1 q1) fun iv s2 ⟨x2, H2, I2, r2, q2⟩ => ?_
  refine thn (hg pins s2 σ H2 x1 x2 ov iv _ I2 r1 r2 q2) fun old s3 ⟨x3, H3, I3, r3, q3⟩ => ?_
  refine thn (he pins s3 σ H3 _ I3 q3) fun v s4 ⟨x4, H4, I4, r4, q4⟩ => ?_
  refine thn (hp pins s4 σ H4 x3 x4 old v _ I4 r3 r4 q4) fun new s5 ⟨x5, H5, I5, r5, q5⟩ => ?_
  exact thn (hs pins s5 σ H5 x1 x2 x5 ov iv new _ I5 r1 r2 r5 q5) fun _ s6 ⟨H6, I6, q6⟩ => ⟨σ, H6, I6, q6⟩
noncomputable def ipI (f : Int → Int → Int) : TIp := fun x y H Q => ∃ i j, x = .int i ∧ y = .int j ∧ Q (.int (f i j)) H
theorem ip_add : PIp X .Add (ipI fun i j => i + j) := by
  intro pins s σ H x y v u Q I r1 r2 h
  obtain ⟨i, j, e1, e2, q⟩ := h
  subst e1; subst e2
  obtain ⟨t, rfl⟩ := r1
  obtain ⟨t', rfl⟩ := r2
  exact iadd_int ⟨.int _, H, I.tok _, ⟨_, rfl⟩, q⟩
end

section
variable {X : Cx} {pos : Pos}
noncomputable def tWhile (c : TT) (tb : TS) : TS := fun D σ H => ∃ W : Nat → St → Hp → Prop, (∃ m, W m σ H) ∧ ∀ m σ H, W m σ H →
  c σ H fun b H1 => if b = true then ∃ N : St → Hp → Prop, (∀ σ' H', N σ' H' → ∃ m', m' < m ∧ W m' σ' H') ∧ tb { D with nx := N, ct := N, bk := D.nx } σ H1 else D.nx σ H1
theorem ps_while {c : Expr} {body : List Stmt} {tc : TT} {tb : TS} (hp : PassesOwn (model X.prog X.w) X.A X.env X.xe) (hc : PT X c tc) (hb : PSs X body tb) : PS X (.While c body [] pos) (tWhile tc tb) := by
  intro pins s σ H D I h
  obtain ⟨W, ⟨m0, w0⟩, turn⟩ := h
  refine wpAny_While (codeAny_whileLoop (fun n s' => ∃ σ' H', Inv X pins σ' H' s' ∧ W n σ' H') ?_ m0 ⟨σ, H, I, w0⟩)
  rintro n s1 ⟨σ1, H1, I1, w1⟩
  refine wpAny_passesOwn hp (thn (hc pins s1 σ1 H1 _ I1 (turn n σ1 H1 w1)) fun b s2 ⟨H2, I2, q2⟩ => ?_)
  cases b with
  | true =>
    obtain ⟨N, hN, q2⟩ := q2
    rw [if_pos rfl]
    refine wpAny_passesOwn hp (thn (hb pins s2 σ1 H2 _ I2 q2) fun f s3 q3 => ?_)
    cases f with
    | next =>
      obtain ⟨σ3, H3, I3, n3⟩ := q3
      obtain ⟨m', hm, w3⟩ := hN σ3 H3 n3
      exact ⟨m', hm, σ3, H3, I3, w3⟩
    | cont =>
      obtain ⟨σ3, H3, I3, n3⟩ := q3
      obtain ⟨m', hm, w3⟩ := hN σ3 H3 n3
      exact ⟨m', hm, σ3, H3, I3, w3⟩
    | brk => exact q3
    | ret v => exact q3
  | false =>
    rw [if_neg Bool.false_ne_true]
    exact wpAny_execs_nil ⟨σ1, H2, I2, q2⟩
end

structure It where
  go : Nat → Hp → Prop
  yld : Nat → Hp → V → Hp → Prop
  stop : Nat → Hp → Prop
noncomputable def FpOk (X : Cx) (pins : List (Addr × Obj)) (H : Hp) (b : Addr) : Prop :=
  H b = none ∧ b ≠ X.env.locals ∧ b ∉ X.fs ∧ (b ∈ X.ex ∨ X.s₀.heap.objs.size ≤ b) ∧ (∀ x c, X.env.cells.lookup x = some c → c ≠ b) ∧ ∀ p ∈ X.pn ++ pins, p.1 ≠ b
theorem Inv.fpOk {X : Cx} {pins : List (Addr × Obj)} {σ : St} {H H' : Hp} {s : Shared} {b : Addr} (I : Inv X pins σ H s) (hb : s.heap.objs.size ≤ b) (hn : H' b = none) : FpOk X pins H' b := by
  refine ⟨hn, Nat.ne_of_gt (Nat.lt_of_lt_of_le I.lt hb), I.nofs hb, .inr (Nat.le_trans I.sz hb), fun x c e z => ?_, fun p hp z => ?_⟩
  · obtain ⟨v, q⟩ := I.cell x c e
    exact absurd (Nat.lt_of_lt_of_le q.lt (by rw [z]; exact hb)) (Nat.lt_irrefl _)
  · exact absurd (Nat.lt_of_lt_of_le (Heap.lt_size (I.pin p hp).1) (by rw [z]; exact hb)) (Nat.lt_irrefl _)
structure Turn (P : Program) (w : World) (K : PySem.W.Frag) (tg : Expr) (J : It) (fp : List Addr) (it : Addr) (tn : Nat → Heap → Prop) : Prop where
  mem : it ∈ fp
  obj : ∀ i h, tn i h → ∀ b ∈ fp, ∃ o, h.get? b = some o ∧ ∀ v, o.data ≠ .cell v
  keep : ∀ i h h', tn i h → (∀ b ∈ fp, ∀ o, h.get? b = some o → h'.get? b = some o) → tn i h'
  item : ∀ (X : Cx), X.prog = P → X.w = w → X.K = K → X.calm = true → ∀ (i : Nat) (pins : List (Addr × Obj)) (s : Shared) (σ : St) (H : Hp) (E : Value → Shared → Prop), Inv X pins σ H s → (∀ b ∈ fp, FpOk X pins H b) → tn i s.heap → J.go i H →
    wpAny (model P w) X.A (pyNext (.ref it)) (fun r s1 => ∃ u, r = some u ∧
      wpAny (model P w) X.A (letOwnedTupleGo tg (.ref it) u) (fun _ s2 => ∃ x H', Inv X pins σ H' s2 ∧ RelV x u ∧ J.yld i H x H' ∧ tn (i + 1) s2.heap ∧ ∀ b ∈ fp, H' b = none) E s1) E s
  done : ∀ (X : Cx), X.prog = P → X.w = w → X.K = K → X.calm = true → ∀ (i : Nat) (pins : List (Addr × Obj)) (s : Shared) (σ : St) (H : Hp) (E : Value → Shared → Prop), Inv X pins σ H s → (∀ b ∈ fp, FpOk X pins H b) → tn i s.heap → J.stop i H →
    wpAny (model P w) X.A (pyNext (.ref it)) (fun r s1 => r = none ∧ Inv X pins σ H s1) E s
  self : ∀ (A : Around) (i : Nat) (s : Shared) (Q : Value → Shared → Prop) (E : Value → Shared → Prop), tn i s.heap → Q (.ref it) s → wpAny (model P w) A (pyIter (.ref it)) Q E s
noncomputable abbrev TI := St → Hp → (It → Hp → Prop) → Prop
noncomputable def PIE (X : Cx) (pins : List (Addr × Obj)) (σ : St) (tg : Expr) (R : It → Hp → Prop) (itv : Value) (s2 : Shared) : Prop :=
  ∃ (it : Addr) (fp : List Addr) (tn : Nat → Heap → Prop) (J : It) (H' : Hp), itv = .ref it ∧ Inv X pins σ H' s2 ∧ Turn X.prog X.w X.K tg J fp it tn ∧ tn 0 s2.heap ∧ (∀ b ∈ fp, FpOk X pins H' b) ∧ R J H'
noncomputable def PI (X : Cx) (tg iter : Expr) (wi : TI) : Prop :=
  ∀ (pins : List (Addr × Obj)) (s : Shared) (σ : St) (H : Hp) (R : It → Hp → Prop), Inv X pins σ H s → wi σ H R →
    wpAny (model X.prog X.w) X.A (eval iter X.env) (fun v s1 => wpAny (model X.prog X.w) X.A (pyIter v) (PIE X pins σ tg R) X.xe s1) X.xe s

theorem go_of {M : Model} {A : Around} {E : Value → Shared → Prop} {s : Shared} {tg : Expr} {it : Addr} {u : Value} {o : Obj} {n : String} {vs : Array Value} {Q : Unit → Shared → Prop} (ho : s.heap.get? it = some o) (hc : o.cls = .type n) (hd : o.data = .fields vs)
    (hn : ["enumerate", "zip", "dict_itemiterator", "dict_reverseitemiterator", "odict_iterator", "itertools.zip_longest", "itertools.pairwise"].contains n = false) (hQ : Q () s) : wpAny M A (letOwnedTupleGo tg (.ref it) u) Q E s := by
  unfold letOwnedTupleGo
  cases tg <;> first
    | exact wpAny_pure hQ
    | (cases u <;> first
        | exact wpAny_pure hQ
        | (refine wpAny_bind (wpAny_load ho ?_)
           rw [hc, hd]
           show wpAny M A (if (["enumerate", "zip", "dict_itemiterator", "dict_reverseitemiterator", "odict_iterator", "itertools.zip_longest", "itertools.pairwise"].contains n && vs[0]? == some (rawInt _)) = true then _ else _) Q E s
           rw [if_neg (by intro h; rw [hn, Bool.false_and] at h; cases h)]
           exact wpAny_pure hQ))

noncomputable def Itl (K : PySem.W.Frag) (a : Addr) : It :=
  ⟨fun i H => ∃ xs x, SqL K H a xs ∧ xs[i]? = some x, fun i H x H' => H' = H ∧ ∀ xs, SqL K H a xs → xs[i]? = some x, fun i H => ∃ xs, SqL K H a xs ∧ xs.length ≤ i⟩
noncomputable def Itt (K : PySem.W.Frag) (a : Addr) : It :=
  ⟨fun i H => ∃ xs x, SqT K H a xs ∧ xs[i]? = some x, fun i H x H' => H' = H ∧ ∀ xs, SqT K H a xs → xs[i]? = some x, fun i H => ∃ xs, SqT K H a xs ∧ xs.length ≤ i⟩
noncomputable def Itr (lo : Int) (n : Nat) : It := ⟨fun i _ => i < n, fun i H x H' => H' = H ∧ x = .int (lo + i), fun i _ => n ≤ i⟩
theorem turn_list {P : Program} {w : World} {K : PySem.W.Frag} {tg : Expr} (a it : Addr) : Turn P w K tg (Itl K a) [it] it (fun i h => h.IsListIter it a i) where
  mem := by simp
  obj := fun i h st b hb => by
    have e : b = it := by simpa using hb
    subst e
    obtain ⟨o, e, c, d⟩ := st
    exact ⟨o, e, fun v z => by rw [d] at z; cases z⟩
  keep := fun i h h' st k => st.at fun o e => k it (by simp) o e
  item := by
    intro X hP hw hK hc i pins s σ H E I hf st hg
    subst hP hw hK
    obtain ⟨xs, x, hq, hx⟩ := hg
    obtain ⟨its, rv, p, hz⟩ := I.list hq
    obtain ⟨u, hu, ru⟩ := rv.get hx
    obtain ⟨f0, f1, f2, f3, f4, f5⟩ := hf it (by simp)
    refine wpAny_pyNext_list_item st p.isList (x := u) (by simpa using hu) fun h' st' sb => ?_
    have I1 : Inv X pins σ H { s with heap := h' } := I.turned (t' := s.toks) (fun b o hb e => (sb.2 b hb).trans e) f0 f1 f3 f4 f5
    obtain ⟨o, e, c, d⟩ := id st'
    exact ⟨u, rfl, go_of (s := { s with heap := h' }) e c d (by decide) ⟨x, H, I1, ru, ⟨rfl, fun ys hy => by rw [I.list_inj hy hq]; exact hx⟩, st', fun b hb => (hf b hb).1⟩⟩
  done := by
    intro X hP hw hK hc i pins s σ H E I hf st hg
    subst hP hw hK
    obtain ⟨xs, hq, hx⟩ := hg
    obtain ⟨its, rv, p, hz⟩ := I.list hq
    obtain ⟨f0, f1, f2, f3, f4, f5⟩ := hf it (by simp)
    have hl := rv.length
    exact wpAny_pyNext_list_end (I.ok.hd hc) st p.isList (by simp; omega) fun h' eb => ⟨rfl, I.turned (t' := s.toks) (fun b o hb e => eb b o hb e) f0 f1 f3 f4 f5⟩
  self := fun _ _ _ _ _ st h => wpAny_pyIter_listiter st h
theorem turn_tuple {P : Program} {w : World} {K : PySem.W.Frag} {tg : Expr} (a it : Addr) : Turn P w K tg (Itt K a) [it] it (fun i h => h.IsTupleIter it a i) where
  mem := by simp
  obj := fun i h st b hb => by
    have e : b = it := by simpa using hb
    subst e
    obtain ⟨o, e, c, d⟩ := st
    exact ⟨o, e, fun v z => by rw [d] at z; cases z⟩
  keep := fun i h h' st k => st.at fun o e => k it (by simp) o e
  item := by
    intro X hP hw hK hc i pins s σ H E I hf st hg
    subst hP hw hK
    obtain ⟨xs, x, hq, hx⟩ := hg
    obtain ⟨its, rv, p, hz⟩ := I.tuple hq
    obtain ⟨u, hu, ru⟩ := rv.get hx
    obtain ⟨f0, f1, f2, f3, f4, f5⟩ := hf it (by simp)
    refine wpAny_pyNext_tuple_item st (show s.heap.IsTuple a its.toArray from p) (x := u) (by simpa using hu) fun h' st' sb => ?_
    have I1 : Inv X pins σ H { s with heap := h' } := I.turned (t' := s.toks) (fun b o hb e => (sb.2 b hb).trans e) f0 f1 f3 f4 f5
    obtain ⟨o, e, c, d⟩ := id st'
    exact ⟨u, rfl, go_of (s := { s with heap := h' }) e c d (by decide) ⟨x, H, I1, ru, ⟨rfl, fun ys hy => by rw [I.tuple_inj hy hq]; exact hx⟩, st', fun b hb => (hf b hb).1⟩⟩
  done := by
    intro X hP hw hK hc i pins s σ H E I hf st hg
    subst hP hw hK
    obtain ⟨xs, hq, hx⟩ := hg
    obtain ⟨its, rv, p, hz⟩ := I.tuple hq
    obtain ⟨f0, f1, f2, f3, f4, f5⟩ := hf it (by simp)
    have hl := rv.length
    exact wpAny_pyNext_tuple_end (I.ok.hd hc) st (show s.heap.IsTuple a its.toArray from p) (by simp; omega) fun h' eb => ⟨rfl, I.turned (t' := s.toks) (fun b o hb e => eb b o hb e) f0 f1 f3 f4 f5⟩
  self := fun _ _ _ _ _ st h => wpAny_pyIter_tupleiter st h
theorem turn_range {P : Program} {w : World} {K : PySem.W.Frag} {tg : Expr} (it : Addr) (lo : Int) (n : Nat) : Turn P w K tg (Itr lo n) [it] it (fun i h => IsRangeIter h it (lo + (i : Nat) * 1) ((n : Int) - (i : Nat)) 1) where
  mem := by simp
  obj := fun i h st b hb => by
    have e : b = it := by simpa using hb
    subst e
    exact ⟨_, st, fun v z => by
      have z' : Data.fields _ = Data.cell v := z
      cases z'⟩
  keep := fun i h h' st k => k it (by simp) _ st
  item := by
    intro X hP hw hK hc i pins s σ H E I hf st hg
    subst hP hw hK
    obtain ⟨f0, f1, f2, f3, f4, f5⟩ := hf it (by simp)
    have W := Walks.range (prog := X.prog) (w := X.w) (I.ok.hd hc) it lo 1 n
    refine W.item i s _ _ hg st fun v h' tk hv st' kk => ?_
    obtain ⟨t, rfl⟩ := hv
    have I1 : Inv X pins σ H { s with heap := h', toks := tk } := I.turned (fun b o hb e => kk b o (by simpa using hb) e) f0 f1 f3 f4 f5
    refine ⟨_, rfl, go_of (s := { s with heap := h', toks := tk }) (n := "range_iterator") st' rfl rfl (by decide) ⟨.int (lo + i), H, I1, ⟨t, ?_⟩, ⟨rfl, rfl⟩, st', fun b hb => (hf b hb).1⟩⟩
    rw [Int.mul_one]
  done := by
    intro X hP hw hK hc i pins s σ H E I hf st hg
    subst hP hw hK
    obtain ⟨f0, f1, f2, f3, f4, f5⟩ := hf it (by simp)
    exact wpAny_pyNext_range_end (I.ok.hd hc) st (by have : n ≤ i := hg; omega) fun h' eb => ⟨rfl, I.turned (t' := s.toks) (fun b o hb e => eb b o hb e) f0 f1 f3 f4 f5⟩
  self := fun _ _ _ _ _ st h => wpAny_pyIter_rangeiter st h
end L2

namespace L2
open PySem PySem.Spec PyProof.Rows
section
variable {X : Cx} {tg : Expr}
noncomputable def iList (K : PySem.W.Frag) (tl : TE) : TI := fun σ H R => tl σ H fun x H1 => ∃ a, x = .ref a ∧ (∃ xs, SqL K H1 a xs) ∧ R (Itl K a) H1
noncomputable def iTup (K : PySem.W.Frag) (tl : TE) : TI := fun σ H R => tl σ H fun x H1 => ∃ a, x = .ref a ∧ (∃ xs, SqT K H1 a xs) ∧ R (Itt K a) H1
theorem pi_list {l : Expr} {tl : TE} (hl : PE X l tl) : PI X tg l (iList X.K tl) := by
  intro pins s σ H R I h
  refine thn (hl pins s σ H _ I h) fun v s1 ⟨x, H1, I1, r1, q1⟩ => ?_
  obtain ⟨a, e, ⟨xs, hq⟩, q⟩ := q1
  subst e
  cases r1
  obtain ⟨its, rv, p, hz⟩ := I1.list hq
  refine wpAny_pyIter_list p.isList ?_
  refine ⟨s1.heap.objs.size, [s1.heap.objs.size], _, _, H1, rfl, I1.kept (t' := s1.toks) fun b o e => Heap.get?_push_of_some _ e, turn_list a _, ⟨_, Heap.get?_push_size _ rfl, rfl, rfl⟩, fun b hb => ?_, q⟩
  have e : b = s1.heap.objs.size := by simpa using hb
  subst e
  exact I1.fpOk (Nat.le_refl _) (I1.hok.fresh (Nat.le_refl _))
theorem pi_tup {l : Expr} {tl : TE} (hl : PE X l tl) : PI X tg l (iTup X.K tl) := by
  intro pins s σ H R I h
  refine thn (hl pins s σ H _ I h) fun v s1 ⟨x, H1, I1, r1, q1⟩ => ?_
  obtain ⟨a, e, ⟨xs, hq⟩, q⟩ := q1
  subst e
  cases r1
  obtain ⟨its, rv, p, hz⟩ := I1.tuple hq
  refine wpAny_pyIter_tuple (show s1.heap.IsTuple a its.toArray from p) ?_
  refine ⟨s1.heap.objs.size, [s1.heap.objs.size], _, _, H1, rfl, I1.kept (t' := s1.toks) fun b o e => Heap.get?_push_of_some _ e, turn_tuple a _, ⟨_, Heap.get?_push_size _ rfl, rfl, rfl⟩, fun b hb => ?_, q⟩
  have e : b = s1.heap.objs.size := by simpa using hb
  subst e
  exact I1.fpOk (Nat.le_refl _) (I1.hok.fresh (Nat.le_refl _))
theorem range_it {pins : List (Addr × Obj)} {σ : St} {H : Hp} {s : Shared} {R : It → Hp → Prop} {E : Value → Shared → Prop} {lo hi : Int} {t u v : Tok} {tk : Nat} (I : Inv X pins σ H s) (h1 : -(2 ^ 62) ≤ lo) (h2 : lo < 2 ^ 62) (h3 : -(2 ^ 62) ≤ hi) (h4 : hi < 2 ^ 62)
    (q : R (Itr lo (hi - lo).toNat) H) : wpAny (model X.prog X.w) X.A (pyIter (.ref s.heap.objs.size)) (PIE X pins σ tg R) E { s with heap := s.heap.push { cls := .type "range", data := .fields #[.int lo t, .int hi u, .int 1 v] }, toks := tk } := by
  refine wpAny_pyIter_range (IsRange.new ..) (small_one h1 h2 h3 h4) ?_
  have I1 : Inv X pins σ H { s with heap := s.heap.push { cls := .type "range", data := .fields #[.int lo t, .int hi u, .int 1 v] }, toks := tk } := I.kept fun b o e => Heap.get?_push_of_some _ e
  refine ⟨(s.heap.push { cls := .type "range", data := .fields #[.int lo t, .int hi u, .int 1 v] }).objs.size, [(s.heap.push { cls := .type "range", data := .fields #[.int lo t, .int hi u, .int 1 v] }).objs.size], _, _, H, rfl,
    I1.kept (t' := tk) fun b o e => Heap.get?_push_of_some _ e, turn_range _ lo (hi - lo).toNat, ?_, fun b hb => ?_, q⟩
  · have e1 : lo + ((0 : Nat) : Int) * 1 = lo := by simp
    have e2 : (((hi - lo).toNat : Nat) : Int) - ((0 : Nat) : Int) = Builtin.Range.rangeSize lo hi 1 := by rw [rangeSize_one]; split <;> omega
    show IsRangeIter _ _ (lo + ((0 : Nat) : Int) * 1) ((((hi - lo).toNat : Nat) : Int) - ((0 : Nat) : Int)) 1
    rw [e1, e2]
    exact Heap.get?_push_size _ rfl
  · have e : b = (s.heap.push { cls := .type "range", data := .fields #[.int lo t, .int hi u, .int 1 v] }).objs.size := by simpa using hb
    subst e
    exact I1.fpOk (Nat.le_refl _) (I1.hok.fresh (Nat.le_refl _))
noncomputable def iRng1 (ta : TA) : TI := fun σ H R => ta σ H fun vs H1 => ∃ j : Int, vs = [.int j] ∧ -(2 ^ 62) ≤ j ∧ j < 2 ^ 62 ∧ R (Itr 0 j.toNat) H1
noncomputable def iRng2 (ta : TA) : TI := fun σ H R => ta σ H fun vs H1 => ∃ i j : Int, vs = [.int i, .int j] ∧ (-(2 ^ 62) ≤ i ∧ i < 2 ^ 62 ∧ -(2 ^ 62) ≤ j ∧ j < 2 ^ 62) ∧ R (Itr i (j - i).toNat) H1
theorem pi_range1 {a : Expr} {ta : TA} {p pos : Pos} (hg : Gl X "range") (hm : X.mg "range" = none) (ha : PA X [a] ta) (hs : starEach [a] X.env = [(false, eval a X.env)] := by rfl) : PI X tg (.Call (.Name "range" p) [a] [] pos) (iRng1 ta) := by
  intro pins s σ H R I h
  refine Call_ (ld_blt I hg hm boot_range (PyProof.Rows.callWith_type1 (thn (ha pos pins s σ H _ I h) fun us s1 ⟨vs, H1, I1, r1, q1⟩ => ?_) hs rfl))
  obtain ⟨j, e, q1, q2, q⟩ := q1
  subst e
  cases r1 with
  | cons r rr =>
    cases rr
    obtain ⟨t, rfl⟩ := r
    exact call_range_1 (range_it I1 (by omega) (by omega) q1 q2 (by simpa using q))
theorem pi_range2 {a b : Expr} {ta : TA} {p pos : Pos} (hg : Gl X "range") (hm : X.mg "range" = none) (ha : PA X [a, b] ta) (hs : starEach [a, b] X.env = [(false, eval a X.env), (false, eval b X.env)] := by rfl) (hs2 : starEach [b] X.env = [(false, eval b X.env)] := by rfl) :
    PI X tg (.Call (.Name "range" p) [a, b] [] pos) (iRng2 ta) := by
  intro pins s σ H R I h
  refine Call_ (ld_blt I hg hm boot_range (PyProof.Rows.callWith_type1 (thn (ha pos pins s σ H _ I h) fun us s1 ⟨vs, H1, I1, r1, q1⟩ => ?_) (by rw [hs, hs2]) (by rw [hs2]; rfl)))
  obtain ⟨i, j, e, ⟨q1, q2, q3, q4⟩, q⟩ := q1
  subst e
  cases r1 with
  | cons r rr =>
    cases rr with
    | cons r' rr =>
      cases rr
      obtain ⟨t, rfl⟩ := r
      obtain ⟨t', rfl⟩ := r'
      exact call_range_2 (range_it I1 q1 q2 q3 q4 q)

noncomputable def tFor (wi : TI) (g : TG) (tb : TS) : TS := fun D σ H => wi σ H fun J H1 => ∃ W : Nat → Nat → St → Hp → Prop, (∃ m, W 0 m σ H1) ∧ ∀ i m σ H, W i m σ H →
  (J.stop i H ∧ D.nx σ H) ∨ (J.go i H ∧ ∃ N : St → Hp → Prop, (∀ σ' H', N σ' H' → ∃ m', m' < m ∧ W (i + 1) m' σ' H') ∧ ∀ x H', J.yld i H x H' → g x σ H' fun σ2 H2 => tb { D with nx := N, ct := N, bk := D.nx } σ2 H2)
noncomputable def pinsAt (fp : List Addr) (h : Heap) : List (Addr × Obj) := fp.filterMap fun b => (h.get? b).map fun o => (b, o)
theorem mem_pinsAt {fp : List Addr} {h : Heap} {b : Addr} {o : Obj} (hb : b ∈ fp) (e : h.get? b = some o) : (b, o) ∈ pinsAt fp h := List.mem_filterMap.mpr ⟨b, hb, by rw [e]; rfl⟩
theorem of_pinsAt {fp : List Addr} {h : Heap} {p : Addr × Obj} (hp : p ∈ pinsAt fp h) : p.1 ∈ fp ∧ h.get? p.1 = some p.2 := by
  obtain ⟨b, hb, e⟩ := List.mem_filterMap.mp hp
  cases q : h.get? b with
  | none => rw [q] at e; cases e
  | some o =>
    rw [q] at e
    have e' : (b, o) = p := Option.some.inj e
    subst e'
    exact ⟨hb, q⟩
theorem Inv.pinned {pins : List (Addr × Obj)} {σ : St} {H : Hp} {s : Shared} {fp : List Addr} (I : Inv X pins σ H s) (hf : ∀ b ∈ fp, FpOk X pins H b) (ho : ∀ b ∈ fp, ∃ o, s.heap.get? b = some o ∧ ∀ v, o.data ≠ .cell v) : Inv X (pins ++ pinsAt fp s.heap) σ H s :=
  I.pins_of fun p hp => (List.mem_append.mp hp).elim (fun z => I.pin p (List.mem_append_right _ z)) fun z => by
    obtain ⟨hb, e⟩ := of_pinsAt z
    obtain ⟨f0, f1, f2, _⟩ := hf p.1 hb
    obtain ⟨o, e', d⟩ := ho p.1 hb
    rw [e] at e'; cases e'
    exact ⟨e, f0, f1, f2, d⟩
theorem Inv.unpinned {pins pl : List (Addr × Obj)} {σ : St} {H : Hp} {s : Shared} (I : Inv X (pins ++ pl) σ H s) : Inv X pins σ H s := I.pins_of fun p hp => I.pin p (List.mem_append_right _ (List.mem_append_left _ hp))
theorem ps_for {iter : Expr} {body : List Stmt} {wi : TI} {g : TG} {tb : TS} {pos : Pos} (hp : PassesOwn (model X.prog X.w) X.A X.env X.xe) (hc : X.calm = true) (hi : PI X tg iter wi) (hg : PG X tg g) (hb : PSs X body tb)
    (hs : ∀ x, foldedSetIterable iter X.env x = pure x := by intro _; rfl) : PS X (.For tg iter body [] pos) (tFor wi g tb) := by
  intro pins s σ H D I h
  refine wpAny_For (thn (hi pins s σ H _ I h) fun v s1 h1 => thn h1 fun itv s2 h2 => ?_) hs
  obtain ⟨it, fp, tn, J, H2, e, I2, T, st2, f2, W, ⟨m0, w0⟩, turn⟩ := h2
  subst e
  -- what stays true of the iterator's objects through the loop
  have stat : ∀ {H' : Hp}, (∀ b ∈ fp, H' b = none) → ∀ b ∈ fp, FpOk X pins H' b := fun hn b hb => ⟨hn b hb, (f2 b hb).2⟩
  refine codeAny_forLoop_any (fun n s' => ∃ i σ' H', Inv X pins σ' H' s' ∧ tn i s'.heap ∧ (∀ b ∈ fp, H' b = none) ∧ W i n σ' H') ?_ m0 ⟨0, σ, H2, I2, st2, fun b hb => (f2 b hb).1, w0⟩
  rintro n s3 ⟨i, σ3, H3, I3, st3, fr3, w3⟩
  rcases turn i n σ3 H3 w3 with ⟨stop, qn⟩ | ⟨go, N, hN, step⟩
  · refine wpAny_passesOwn hp (thn (T.done X rfl rfl rfl hc i pins s3 σ3 H3 X.xe I3 (stat fr3) st3 stop) fun r s4 ⟨hr, I4⟩ => ?_)
    subst hr
    exact wpAny_execs_nil ⟨σ3, H3, I4, qn⟩
  · refine wpAny_passesOwn hp (thn (T.item X rfl rfl rfl hc i pins s3 σ3 H3 X.xe I3 (stat fr3) st3 go) fun r s4 ⟨u, hr, h4⟩ => ?_)
    subst hr
    refine wpAny_passesOwn hp (thn h4 fun _ s5 ⟨x, H5, I5, r5, y5, st5, fr5⟩ => ?_)
    have I5' := I5.pinned (stat fr5) (T.obj _ _ st5)
    refine wpAny_passesOwn hp (thn (hg _ s5 σ3 H5 x u _ I5' r5 (step x H5 y5)) fun _ s6 ⟨σ6, H6, I6, q6⟩ => ?_)
    refine wpAny_passesOwn hp (thn (hb _ s6 σ6 H6 _ I6 q6) fun f s7 q7 => ?_)
    have again : ∀ {σ7 : St} {H7 : Hp}, Inv X (pins ++ pinsAt fp s5.heap) σ7 H7 s7 → N σ7 H7 → ∃ m, m < n ∧ ∃ i σ' H', Inv X pins σ' H' s7 ∧ tn i s7.heap ∧ (∀ b ∈ fp, H' b = none) ∧ W i m σ' H' := fun {σ7 H7} I7 n7 => by
      obtain ⟨m', hm, w7⟩ := hN σ7 H7 n7
      refine ⟨m', hm, i + 1, σ7, H7, I7.unpinned, T.keep _ _ _ st5 fun b hb o e => (I7.pin (b, o) (List.mem_append_right _ (List.mem_append_right _ (mem_pinsAt hb e)))).1, fun b hb => ?_, w7⟩
      obtain ⟨o, e, d⟩ := T.obj _ _ st5 b hb
      exact (I7.pin (b, o) (List.mem_append_right _ (List.mem_append_right _ (mem_pinsAt hb e)))).2.1
    cases f with
    | next => obtain ⟨σ7, H7, I7, n7⟩ := q7; exact again I7 n7
    | cont => obtain ⟨σ7, H7, I7, n7⟩ := q7; exact again I7 n7
    | brk => obtain ⟨σ7, H7, I7, q7⟩ := q7; exact ⟨σ7, H7, I7.unpinned, q7⟩
    | ret v => obtain ⟨x7, σ7, H7, I7, r7, q7⟩ := q7; exact ⟨x7, σ7, H7, I7.unpinned, r7, q7⟩
end

theorem for_list {K : PySem.W.Frag} {a : Addr} {xs : List V} {g : TG} {tb : TS} {D : Ends} {σ : St} {H : Hp} (Pv : Nat → St → Hp → Prop) (h0 : Pv 0 σ H) (hl : ∀ i σ H, i ≤ xs.length → Pv i σ H → SqL K H a xs)
    (hs : ∀ i x σ H, xs[i]? = some x → Pv i σ H → g x σ H fun σ2 H2 => tb { D with nx := Pv (i + 1), ct := Pv (i + 1), bk := D.nx } σ2 H2) (hd : ∀ σ H, Pv xs.length σ H → D.nx σ H) :
    ∃ W : Nat → Nat → St → Hp → Prop, (∃ m, W 0 m σ H) ∧ ∀ i m σ H, W i m σ H →
      ((Itl K a).stop i H ∧ D.nx σ H) ∨ ((Itl K a).go i H ∧ ∃ N : St → Hp → Prop, (∀ σ' H', N σ' H' → ∃ m', m' < m ∧ W (i + 1) m' σ' H') ∧ ∀ x H', (Itl K a).yld i H x H' → g x σ H' fun σ2 H2 => tb { D with nx := N, ct := N, bk := D.nx } σ2 H2) := by
  refine ⟨fun i m σ H => m = xs.length - i ∧ i ≤ xs.length ∧ Pv i σ H, ⟨xs.length, by simp, Nat.zero_le _, h0⟩, ?_⟩
  rintro i m σ H ⟨rfl, hi, p⟩
  have q := hl i σ H hi p
  by_cases hlt : i < xs.length
  · refine .inr ⟨⟨xs, xs[i], q, by simp [hlt]⟩, Pv (i + 1), fun σ' H' p' => ⟨xs.length - (i + 1), by omega, rfl, hlt, p'⟩, fun x H' y => ?_⟩
    obtain ⟨e, y⟩ := y
    subst e
    exact hs i x σ _ (y xs q) p
  · have e : i = xs.length := by omega
    subst e
    exact .inl ⟨⟨xs, q, Nat.le_refl _⟩, hd σ H p⟩
theorem while_by {c : TT} {tb : TS} {D : Ends} {σ : St} {H : Hp} (Pv : St → Hp → Prop) (μ : St → Hp → Nat) (h0 : Pv σ H)
    (hs : ∀ σ H, Pv σ H → c σ H fun b H1 => if b = true then tb { D with nx := fun σ' H' => Pv σ' H' ∧ μ σ' H' < μ σ H, ct := fun σ' H' => Pv σ' H' ∧ μ σ' H' < μ σ H, bk := D.nx } σ H1 else D.nx σ H1)
    (mono : ∀ σ H Q Q', (∀ b H1, Q b H1 → Q' b H1) → c σ H Q → c σ H Q') : tWhile c tb D σ H := by
  refine ⟨fun m σ H => m = μ σ H ∧ Pv σ H, ⟨_, rfl, h0⟩, ?_⟩
  rintro m σ H ⟨rfl, p⟩
  refine mono σ H _ _ (fun b H1 q => ?_) (hs σ H p)
  cases b with
  | true => exact ⟨_, fun σ' H' ⟨p', l⟩ => ⟨_, l, rfl, p'⟩, q⟩
  | false => exact q
end L2

namespace L2
open PySem PySem.Spec PyProof.Rows

noncomputable abbrev R2 := V → V → Hp → VK → Prop
noncomputable def OpR (X : Cx) (f : Value → Value → Sem Value) (r : R2) : Prop :=
  ∀ (pins : List (Addr × Obj)) (s : Shared) (σ : St) (H : Hp) (x y : V) (v u : Value) (Q : VK), Inv X pins σ H s → RelV x v → RelV y u → r x y H Q →
    wpAny (model X.prog X.w) X.A (f v u) (EP X pins σ Q) X.xe s
noncomputable def UnR (X : Cx) (f : Value → Sem Value) (r : V → Hp → VK → Prop) : Prop :=
  ∀ (pins : List (Addr × Obj)) (s : Shared) (σ : St) (H : Hp) (x : V) (v : Value) (Q : VK), Inv X pins σ H s → RelV x v → r x H Q →
    wpAny (model X.prog X.w) X.A (f v) (EP X pins σ Q) X.xe s
noncomputable def CallR (X : Cx) (f : Value) (r : List V → Hp → VK → Prop) : Prop :=
  ∀ (pins : List (Addr × Obj)) (s : Shared) (σ : St) (H : Hp) (xs : List V) (us : List Value) (Q : VK), Inv X pins σ H s → Vals xs us → r xs H Q →
    wpAny (model X.prog X.w) X.A (call f us) (EP X pins σ Q) X.xe s
noncomputable def tOp (r : R2) (ta tb : TE) : TE := fun σ H Q => ta σ H fun x H1 => tb σ H1 fun y H2 => r x y H2 Q
noncomputable def tUn (r : V → Hp → VK → Prop) (ta : TE) : TE := fun σ H Q => ta σ H fun x H1 => r x H1 Q
noncomputable def rI (C : Int → Int → Prop) (g : Int → Int → V) : R2 := fun x y H Q => ∃ i j, x = .int i ∧ y = .int j ∧ C i j ∧ Q (g i j) H
noncomputable def rI0 (g : Int → Int → V) : R2 := fun x y H Q => ∃ i j, x = .int i ∧ y = .int j ∧ Q (g i j) H
noncomputable def rU (g : Int → V) : V → Hp → VK → Prop := fun x H Q => ∃ i, x = .int i ∧ Q (g i) H

section
variable {X : Cx} {a b c : Expr} {ta tb tc : TE} {pos : Pos}

theorem binT (ha : PE X a ta) (hb : PE X b tb) {pins : List (Addr × Obj)} {s : Shared} {σ : St} {H : Hp} {R : V → V → Hp → Prop} (I : Inv X pins σ H s)
    (h : ta σ H fun x H1 => tb σ H1 fun y H2 => R x y H2) {Q : Value → Shared → Prop} {f : Value → Value → Sem Value}
    (hf : ∀ v u s2 x y H2, Inv X pins σ H2 s2 → RelV x v → RelV y u → R x y H2 → wpAny (model X.prog X.w) X.A (f v u) Q X.xe s2) :
    wpAny (model X.prog X.w) X.A (eval a X.env) (fun v s₁ => wpAny (model X.prog X.w) X.A (eval b X.env) (fun u s₂ => wpAny (model X.prog X.w) X.A (f v u) Q X.xe s₂) X.xe s₁) X.xe s := by
  refine thn (ha pins s σ H _ I h) fun v s1 ⟨x, H1, I1, r1, q1⟩ => ?_
  refine thn (hb pins s1 σ H1 _ I1 q1) fun u s2 ⟨y, H2, I2, r2, q2⟩ => ?_
  exact hf v u s2 x y H2 I2 r1 r2 q2

theorem pe_op {op : Operator} {r : R2} (ho : OpR X (binaryOp op) r) (ha : PE X a ta) (hb : PE X b tb) : PE X (.BinOp a op b pos) (tOp r ta tb) := by
  intro pins s σ H Q I h
  exact wpAny_BinOp (binT ha hb I h fun v u s2 x y H2 I2 rx ry q => ho pins s2 σ H2 x y v u Q I2 rx ry q)
theorem pe_un {op : UnaryOp} {r : V → Hp → VK → Prop} (ho : UnR X (unaryOp op) r) (ha : PE X a ta) : PE X (.UnaryOp op a pos) (tUn r ta) := by
  intro pins s σ H Q I h
  exact UnaryOp_ (thn (ha pins s σ H _ I h) fun v s1 ⟨x, H1, I1, r1, q1⟩ => ho pins s1 σ H1 x v Q I1 r1 q1)
theorem opI {f : Value → Value → Sem Value} {C : Int → Int → Prop} {g : Int → Int → Int}
    (rule : ∀ (i j : Int) (t u : Tok) (s : Shared) (Q : Value → Shared → Prop) (E : Value → Shared → Prop), C i j → Q (.int (g i j) s.toks) { s with toks := s.toks + 1 } → wpAny (model X.prog X.w) X.A (f (.int i t) (.int j u)) Q E s) :
    OpR X f (rI C fun i j => .int (g i j)) := by
  intro pins s σ H x y v u Q I rx ry h
  obtain ⟨i, j, rfl, rfl, hc, q⟩ := h
  obtain ⟨t, rfl⟩ := rx
  obtain ⟨t', rfl⟩ := ry
  exact rule i j t t' s _ _ hc ⟨.int (g i j), H, I.tok _, ⟨_, rfl⟩, q⟩
theorem opI0 {f : Value → Value → Sem Value} {g : Int → Int → Int}
    (rule : ∀ (i j : Int) (t u : Tok) (s : Shared) (Q : Value → Shared → Prop) (E : Value → Shared → Prop), Q (.int (g i j) s.toks) { s with toks := s.toks + 1 } → wpAny (model X.prog X.w) X.A (f (.int i t) (.int j u)) Q E s) :
    OpR X f (rI0 fun i j => .int (g i j)) := by
  intro pins s σ H x y v u Q I rx ry h
  obtain ⟨i, j, rfl, rfl, q⟩ := h
  obtain ⟨t, rfl⟩ := rx
  obtain ⟨t', rfl⟩ := ry
  exact rule i j t t' s _ _ ⟨.int (g i j), H, I.tok _, ⟨_, rfl⟩, q⟩
theorem opB0 {f : Value → Value → Sem Value} {g : Int → Int → Bool}
    (rule : ∀ (i j : Int) (t u : Tok) (s : Shared) (Q : Value → Shared → Prop) (E : Value → Shared → Prop), Q (.bool (g i j)) s → wpAny (model X.prog X.w) X.A (f (.int i t) (.int j u)) Q E s) :
    OpR X f (rI0 fun i j => .bl (g i j)) := by
  intro pins s σ H x y v u Q I rx ry h
  obtain ⟨i, j, rfl, rfl, q⟩ := h
  obtain ⟨t, rfl⟩ := rx
  obtain ⟨t', rfl⟩ := ry
  exact rule i j t t' s _ _ ⟨.bl (g i j), H, I, rfl, q⟩

noncomputable def CMul (i j : Int) : Prop := (-(2 ^ 64) < i ∧ i < 2 ^ 64) ∨ (-(2 ^ 64) < j ∧ j < 2 ^ 64)
theorem CMul.ok {i j : Int} (h : CMul i j) : IntMulOk i j := by
  rcases h with ⟨h1, h2⟩ | ⟨h1, h2⟩
  · exact .of_left (intBits_le_64 h1 h2)
  · exact .of_right (intBits_le_64 h1 h2)
theorem op_add : OpR X (binaryOp .Add) (rI0 fun i j => .int (i + j)) := opI0 fun _ _ _ _ _ _ _ q => add_int q
theorem op_sub : OpR X (binaryOp .Sub) (rI0 fun i j => .int (i - j)) := opI0 fun _ _ _ _ _ _ _ q => sub_int q
theorem op_mod : OpR X (binaryOp .Mod) (rI (fun _ j => 0 < j) fun i j => .int (i % j)) := opI fun i j _ _ _ _ _ hc q => by
  have h1 : (0 : Int) < j := hc
  exact mod_int' (by omega) (by rw [Int.fmod_eq_emod_of_nonneg i (by omega)]; exact q)
theorem unI {f : Value → Sem Value} {g : Int → Int}
    (rule : ∀ (i : Int) (t : Tok) (s : Shared) (Q : Value → Shared → Prop) (E : Value → Shared → Prop), Q (.int (g i) s.toks) { s with toks := s.toks + 1 } → wpAny (model X.prog X.w) X.A (f (.int i t)) Q E s) :
    UnR X f (rU fun i => .int (g i)) := by
  intro pins s σ H x v Q I rx h
  obtain ⟨i, rfl, q⟩ := h
  obtain ⟨t, rfl⟩ := rx
  exact rule i t s _ _ ⟨.int (g i), H, I.tok _, ⟨_, rfl⟩, q⟩
theorem un_neg : UnR X (unaryOp .USub) (rU fun i => .int (-i)) := unI fun _ _ _ _ _ q => neg_int q
end

noncomputable def scal : V → V → Bool
  | .non, .non => true | .non, .int _ => true | .int _, .non => true | .non, .bl _ => true | .bl _, .non => true | .non, .str _ => true | .str _, .non => true
  | .int _, .int _ => true | .bl _, .bl _ => true | .str _, .str _ => true | .byt _, .byt _ => true
  | .int _, .str _ => true | .str _, .int _ => true | .bl _, .str _ => true | .str _, .bl _ => true
  | _, _ => false
noncomputable def rEq : R2 := fun x y H Q => scal x y = true ∧ Q (.bl (decide (x = y))) H
noncomputable def rNe : R2 := fun x y H Q => scal x y = true ∧ Q (.bl (!decide (x = y))) H

theorem dec_int {i j : Int} : decide (V.int i = V.int j) = (i == j) := by
  rw [Bool.eq_iff_iff]
  simp
theorem dec_bl {i j : Bool} : decide (V.bl i = V.bl j) = (i == j) := by
  rw [Bool.eq_iff_iff]
  simp
theorem dec_str {i j : Str} : decide (V.str i = V.str j) = (i == j) := by
  rw [Bool.eq_iff_iff]
  simp
theorem dec_byt {i j : Array UInt8} : decide (V.byt i = V.byt j) = (i.toList == j.toList) := by
  rw [Bool.eq_iff_iff]
  cases i
  cases j
  simp

section
variable {X : Cx} {a b c : Expr} {ta tb tc : TE} {pos : Pos}
theorem fin_bl {pins : List (Addr × Obj)} {σ : St} {H : Hp} {s : Shared} {Q : VK} {k k' : Bool} (I : Inv X pins σ H s) (q : Q (.bl k) H) (e : k = k') : EP X pins σ Q (.bool k') s := by
  subst e
  exact ⟨.bl k, H, I, rfl, q⟩
theorem op_eq : OpR X (compareOp .Eq) rEq := by
  intro pins s σ H x y v u Q I rx ry h
  obtain ⟨hs, q⟩ := h
  cases x with
  | non =>
    cases rx
    cases y with
    | non => cases ry; exact PySem.EqNone.eq_none_none (fin_bl I q (by simp))
    | bl j => cases ry; exact PySem.EqNone.eq_none_bool (fin_bl I q (by simp))
    | int j => obtain ⟨t', rfl⟩ := ry; exact PySem.EqNone.eq_none_int (fin_bl I q (by simp))
    | str j => obtain ⟨t', rfl⟩ := ry; exact PySem.EqNone.eq_none_str (fin_bl I q (by simp))
    | _ => exact absurd (show false = true from hs) Bool.false_ne_true
  | bl i =>
    cases rx
    cases y with
    | non => cases ry; exact PySem.EqNone.eq_bool_none (fin_bl I q (by simp))
    | bl j => cases ry; exact eq_bool (fin_bl I q dec_bl)
    | str j => obtain ⟨t', rfl⟩ := ry; exact PySem.EqMixed.eq_bool_str (fin_bl I q (by simp))
    | _ => exact absurd (show false = true from hs) Bool.false_ne_true
  | int i =>
    obtain ⟨t, rfl⟩ := rx
    cases y with
    | non => cases ry; exact PySem.EqNone.eq_int_none (fin_bl I q (by simp))
    | int j => obtain ⟨t', rfl⟩ := ry; exact eq_int (fin_bl I q dec_int)
    | str j => obtain ⟨t', rfl⟩ := ry; exact PySem.EqMixed.eq_int_str (fin_bl I q (by simp))
    | _ => exact absurd (show false = true from hs) Bool.false_ne_true
  | str i =>
    obtain ⟨t, rfl⟩ := rx
    cases y with
    | non => cases ry; exact PySem.EqNone.eq_str_none (fin_bl I q (by simp))
    | bl j => cases ry; exact PySem.EqMixed.eq_str_bool (fin_bl I q (by simp))
    | int j => obtain ⟨t', rfl⟩ := ry; exact PySem.EqMixed.eq_str_int (fin_bl I q (by simp))
    | str j => obtain ⟨t', rfl⟩ := ry; exact eq_str (fin_bl I q dec_str)
    | _ => exact absurd (show false = true from hs) Bool.false_ne_true
  | byt i =>
    obtain ⟨t, rfl⟩ := rx
    cases y with
    | byt j => obtain ⟨t', rfl⟩ := ry; exact PySem.W.eq_bytes (fin_bl I q dec_byt)
    | _ => exact absurd (show false = true from hs) Bool.false_ne_true
  | _ => cases y <;> exact absurd (show false = true from hs) Bool.false_ne_true
theorem op_ne : OpR X (compareOp .NotEq) rNe := by
  intro pins s σ H x y v u Q I rx ry h
  obtain ⟨hs, q⟩ := h
  cases x with
  | non =>
    cases rx
    cases y with
    | non => cases ry; exact PySem.EqNone.ne_none_none (fin_bl I q (by simp))
    | bl j => cases ry; exact PySem.EqNone.ne_none_bool (fin_bl I q (by simp))
    | int j => obtain ⟨t', rfl⟩ := ry; exact PySem.EqNone.ne_none_int (fin_bl I q (by simp))
    | str j => obtain ⟨t', rfl⟩ := ry; exact PySem.EqNone.ne_none_str (fin_bl I q (by simp))
    | _ => exact absurd (show false = true from hs) Bool.false_ne_true
  | bl i =>
    cases rx
    cases y with
    | non => cases ry; exact PySem.EqNone.ne_bool_none (fin_bl I q (by simp))
    | bl j => cases ry; exact ne_bool (fin_bl I q (congrArg not dec_bl))
    | str j => obtain ⟨t', rfl⟩ := ry; exact PySem.EqMixed.ne_bool_str (fin_bl I q (by simp))
    | _ => exact absurd (show false = true from hs) Bool.false_ne_true
  | int i =>
    obtain ⟨t, rfl⟩ := rx
    cases y with
    | non => cases ry; exact PySem.EqNone.ne_int_none (fin_bl I q (by simp))
    | int j => obtain ⟨t', rfl⟩ := ry; exact ne_int (fin_bl I q (congrArg not dec_int))
    | str j => obtain ⟨t', rfl⟩ := ry; exact PySem.EqMixed.ne_int_str (fin_bl I q (by simp))
    | _ => exact absurd (show false = true from hs) Bool.false_ne_true
  | str i =>
    obtain ⟨t, rfl⟩ := rx
    cases y with
    | non => cases ry; exact PySem.EqNone.ne_str_none (fin_bl I q (by simp))
    | bl j => cases ry; exact PySem.EqMixed.ne_str_bool (fin_bl I q (by simp))
    | int j => obtain ⟨t', rfl⟩ := ry; exact PySem.EqMixed.ne_str_int (fin_bl I q (by simp))
    | str j => obtain ⟨t', rfl⟩ := ry; exact ne_str (fin_bl I q (congrArg not dec_str))
    | _ => exact absurd (show false = true from hs) Bool.false_ne_true
  | byt i =>
    obtain ⟨t, rfl⟩ := rx
    cases y with
    | byt j => obtain ⟨t', rfl⟩ := ry; exact PySem.W.ne_bytes (fin_bl I q (congrArg not dec_byt))
    | _ => exact absurd (show false = true from hs) Bool.false_ne_true
  | _ => cases y <;> exact absurd (show false = true from hs) Bool.false_ne_true

theorem op_lt : OpR X (compareOp .Lt) (rI0 fun i j => .bl (decide (i < j))) := opB0 fun _ _ _ _ _ _ _ q => lt_int q
theorem op_le : OpR X (compareOp .LtE) (rI0 fun i j => .bl (decide (i ≤ j))) := opB0 fun _ _ _ _ _ _ _ q => le_int q
theorem op_gt : OpR X (compareOp .Gt) (rI0 fun i j => .bl (decide (j < i))) := opB0 fun _ _ _ _ _ _ _ q => gt_int q
theorem op_ge : OpR X (compareOp .GtE) (rI0 fun i j => .bl (decide (j ≤ i))) := opB0 fun _ _ _ _ _ _ _ q => ge_int q
theorem op_notN : OpR X (compareOp .IsNot) (fun x y H Q => y = .non ∧ Q (.bl (!decide (x = .non))) H) := by
  intro pins s σ H x y v u Q I rx ry h
  obtain ⟨rfl, q⟩ := h
  cases ry
  refine isnot_none_gen (fin_bl I q ?_)
  cases x <;> first
    | (cases rx; rfl)
    | (obtain ⟨t, rfl⟩ := rx; rfl)

theorem OpR.or {f : Value → Value → Sem Value} {r r' : R2} (h : OpR X f r) (h' : OpR X f r') : OpR X f (fun x y H Q => r x y H Q ∨ r' x y H Q) := by
  intro pins s σ H x y v u Q I rx ry q
  rcases q with q | q
  · exact h pins s σ H x y v u Q I rx ry q
  · exact h' pins s σ H x y v u Q I rx ry q

theorem nomark (b : Expr) {op : CmpOp} (h : op ≠ .In := by decide) (h2 : op ≠ .NotIn := by decide) : behindInMarks op b = false := by
  have e1 : (op == CmpOp.In) = false := by cases op <;> first | rfl | exact absurd rfl h
  have e2 : (op == CmpOp.NotIn) = false := by cases op <;> first | rfl | exact absurd rfl h2
  cases b <;> simp [behindInMarks, e1, e2]
theorem pe_cmpR {op : CmpOp} {r : R2} (ho : OpR X (compareOp op) r) (ha : PE X a ta) (hb : PE X b tb) (hm : behindInMarks op b = false) : PE X (.Compare a [op] [b] pos) (tOp r ta tb) := by
  intro pins s σ H Q I h
  exact wpAny_Compare1 (binT ha hb I h fun v u s2 x y H2 I2 rx ry q => ho pins s2 σ H2 x y v u Q I2 rx ry q) hm
noncomputable def tTest (t : TE) : TT := fun σ H Q => t σ H fun x H' => ∃ k, x = .bl k ∧ Q k H'
theorem pt_cmpR {op : CmpOp} {r : R2} (ho : OpR X (compareOp op) r) (ha : PE X a ta) (hb : PE X b tb) (hm : behindInMarks op b = false) : PT X (.Compare a [op] [b] pos) (tTest (tOp r ta tb)) := by
  intro pins s σ H Q I h
  refine wpAny_isTrue_Compare1 (thn (ha pins s σ H _ I h) fun v s1 ⟨x, H1, I1, r1, q1⟩ => thn (hb pins s1 σ H1 _ I1 q1) fun u s2 ⟨y, H2, I2, r2, q2⟩ =>
    thn (ho pins s2 σ H2 x y v u _ I2 r1 r2 q2) fun c s3 ⟨z, H3, I3, r3, k, e, q3⟩ => ?_) hm
  subst e
  cases r3
  exact wpAny_truthy_bool ⟨H3, I3, q3⟩
noncomputable def tChain (r r' : R2) (ta tb tc : TE) : TE := fun σ H Q => ta σ H fun x H1 => tb σ H1 fun y H2 => r x y H2 fun z H3 => ∃ k, z = .bl k ∧
  (if k = true then tc σ H3 fun w' H4 => r' y w' H4 Q else Q (.bl false) H3)
theorem pt_chain {op op' : CmpOp} {r r' : R2} (ho : OpR X (compareOp op) r) (ho' : OpR X (compareOp op') r') (ha : PE X a ta) (hb : PE X b tb) (hc : PE X c tc)
    (hm : lastMarks [op, op'] [b, c] = false := by with_unfolding_all rfl) : PT X (.Compare a [op, op'] [b, c] pos) (tTest (tChain r r' ta tb tc)) := by
  intro pins s σ H Q I h
  refine isTrue_chain (thn (ha pins s σ H _ I h) fun v s1 ⟨x, H1, I1, r1, q1⟩ => test_link (thn (hb pins s1 σ H1 _ I1 q1) fun u s2 ⟨y, H2, I2, r2, q2⟩ =>
    thn (ho pins s2 σ H2 x y v u _ I2 r1 r2 q2) fun d s3 ⟨z, H3, I3, r3, k, e, q3⟩ => ?_)) hm
  subst e
  cases r3
  refine wpAny_truthy_bool ?_
  cases k with
  | false =>
    obtain ⟨k', e', q'⟩ := q3
    cases e'
    exact ite_ff ⟨H3, I3, q'⟩
  | true =>
    refine ite_tt (test_last (thn (hc pins s3 σ H3 _ I3 q3) fun w' s4 ⟨z', H4, I4, r4, q4⟩ => thn (ho' pins s4 σ H4 y z' u w' _ I4 r2 r4 q4) fun d' s5 ⟨z2, H5, I5, r5, k2, e2, q5⟩ => ?_))
    subst e2
    cases r5
    exact wpAny_truthy_bool ⟨H5, I5, q5⟩

theorem line63 : (sizeLine : Nat) < 2 ^ 63 := by rw [sizeLine_eq]; decide
theorem op_add_str : OpR X (binaryOp .Add) (fun x y H Q => ∃ i j, x = .str i ∧ y = .str j ∧ i.length + j.length ≤ sizeLine ∧ Q (.str (i ++ j)) H) := by
  intro pins s σ H x y v u Q I rx ry h
  obtain ⟨i, j, rfl, rfl, hz, q⟩ := h
  obtain ⟨t, rfl⟩ := rx
  obtain ⟨t', rfl⟩ := ry
  exact add_str (fun t' tk => ⟨.str (i ++ j), H, I.tok _, ⟨_, rfl⟩, q⟩) hz
theorem vals1 {x : V} {us : List Value} (r : Vals [x] us) : ∃ u, us = [u] ∧ RelV x u := by
  cases r with
  | cons r1 r2 => cases r2; exact ⟨_, rfl, r1⟩
theorem vals2 {x y : V} {us : List Value} (r : Vals [x, y] us) : ∃ u w', us = [u, w'] ∧ RelV x u ∧ RelV y w' := by
  cases r with
  | cons r1 r2 =>
    cases r2 with
    | cons r3 r4 => cases r4; exact ⟨_, _, rfl, r1, r3⟩
theorem call_abs : CallR X (.builtin "abs") (fun xs H Q => ∃ i, xs = [.int i] ∧ Q (.int (if i < 0 then -i else i)) H) := by
  intro pins s σ H xs us Q I r h
  obtain ⟨i, rfl, q⟩ := h
  obtain ⟨u, rfl, t, rfl⟩ := vals1 r
  exact call_abs_int fun u tk => ⟨.int (if i < 0 then -i else i), H, I.tok _, ⟨_, rfl⟩, q⟩
theorem call_max2 (hc : X.calm = true) : CallR X (.builtin "max") (fun xs H Q => ∃ i j, xs = [.int i, .int j] ∧ Q (.int (if j > i then j else i)) H) := by
  intro pins s σ H xs us Q I r h
  obtain ⟨i, j, rfl, q⟩ := h
  obtain ⟨u, w', rfl, ⟨t, rfl⟩, ⟨t', rfl⟩⟩ := vals2 r
  refine max_two_ints (I.ok.hd hc) fun h' tk k => ⟨_, H, I.kept k, ?_, q⟩
  by_cases hj : j > i
  · rw [if_pos hj, if_pos hj]; exact ⟨_, rfl⟩
  · rw [if_neg hj, if_neg hj]; exact ⟨_, rfl⟩
theorem call_min2 (hc : X.calm = true) : CallR X (.builtin "min") (fun xs H Q => ∃ i j, xs = [.int i, .int j] ∧ Q (.int (if j < i then j else i)) H) := by
  intro pins s σ H xs us Q I r h
  obtain ⟨i, j, rfl, q⟩ := h
  obtain ⟨u, w', rfl, ⟨t, rfl⟩, ⟨t', rfl⟩⟩ := vals2 r
  refine min_two_ints (I.ok.hd hc) fun h' tk k => ⟨_, H, I.kept k, ?_, q⟩
  by_cases hj : j < i
  · rw [if_pos hj, if_pos hj]; exact ⟨_, rfl⟩
  · rw [if_neg hj, if_neg hj]; exact ⟨_, rfl⟩
end
end L2

namespace L2
open PySem PySem.Spec PyProof.Rows

structure ObjM (h : Heap) (x dx C : Addr) (mA : Str → Option Value) : Prop where
  obj : h.get? x = some (PySem.W.instObj C dx)
  ns : h.Ns1 dx mA
  ne : dx ≠ x

theorem lookIn_ns {h : Heap} {dx : Addr} {mA : Str → Option Value} (n : h.Ns1 dx mA) : ∃ od, h.get? dx = some od ∧ ∀ name, PySem.W.lookIn name od = some (mA name) := by
  obtain ⟨o, es, ep, ho, hd, hk, _, hm⟩ := n
  refine ⟨o, ho, fun name => ?_⟩
  have e := hm name
  unfold nsFind findBy at e
  rw [← Array.find?_toList] at e
  unfold PySem.W.lookIn
  rw [hd]
  dsimp only
  split
  · rename_i y q
    rw [q] at e
    exact congrArg some e
  · rename_i q
    rw [q] at e
    have a : es.toList.any (·.refKey) = false := by
      rw [List.any_eq_false]
      intro y hy
      obtain ⟨z, t, hkey⟩ := hk y (Array.mem_toList_iff.mp hy)
      simp [DictEntry.refKey, hkey]
    have a' : ¬ es.toList.any (·.refKey) = true := by rw [a]; exact Bool.false_ne_true
    rw [if_neg a']
    exact congrArg some e

theorem ObjM.look {h : Heap} {x dx C : Addr} {mA : Str → Option Value} (I : ObjM h x dx C mA) : ∃ od, PySem.W.InstAt h x (PySem.W.instObj C dx) C (some od) ∧ ∀ name, PySem.W.lookIn name od = some (mA name) :=
  let ⟨od, ho, hl⟩ := lookIn_ns I.ns
  ⟨od, ⟨I.obj, rfl, rfl, ho⟩, hl⟩

section
variable {prog : Program} {w : World} {A : Around} {E : Value → Shared → Prop} {s : Shared} {K : PySem.W.Frag} {x dx C f : Addr} {mA : Str → Option Value} {name : Str} {v : Value}

end

theorem RelO.none_of {o : Option Value} (r : RelO none o) : o = none := by
  cases o with
  | none => rfl
  | some u => exact (show False from r).elim
section
variable {P : Program} {w : World} {H H' : Hp} {h h' : Heap} {a C dx : Addr} {fs fs' : List (Str × V)}
end

section
variable {X : Cx} {pins : List (Addr × Obj)} {σ : St} {H : Hp} {s : Shared} {a C dx : Addr} {fs : List (Str × V)} {f : Str} {v : V} {A : Around} {E : Value → Shared → Prop}

theorem Inv.made (I : Inv X pins σ H s) : Inv X pins σ (upd (upd H s.heap.objs.size (.own (s.heap.objs.size + 1))) (s.heap.objs.size + 1) (.ins C s.heap.objs.size []))
    { s with heap := (s.heap.push PySem.W.emptyDict).push (PySem.W.instObj C s.heap.objs.size) } := by
  have e1 : (s.heap.push PySem.W.emptyDict).get? s.heap.objs.size = some PySem.W.emptyDict := Heap.get?_push_size s.heap rfl
  have e2 : ((s.heap.push PySem.W.emptyDict).push (PySem.W.instObj C s.heap.objs.size)).get? (s.heap.objs.size + 1) = some (PySem.W.instObj C s.heap.objs.size) := by
    have := Heap.get?_push_size (s.heap.push PySem.W.emptyDict) (o := PySem.W.instObj C s.heap.objs.size) rfl
    rwa [Heap.size_push] at this
  have e3 : (s.heap.push PySem.W.emptyDict).Ns s.heap.objs.size (fun _ => none) := ⟨PySem.W.emptyDict, #[], _, e1, rfl, (fun e he => absurd he (by simp)), fun _ => rfl⟩
  have I1 := I.laid (a := s.heap.objs.size) (o := .own (s.heap.objs.size + 1)) (h' := s.heap.push PySem.W.emptyDict) (t' := s.toks) (fun b u q => Heap.get?_push_of_some _ q) (Nat.le_refl _) ⟨_, e1⟩
  refine I1.laid (a := s.heap.objs.size + 1) (o := .ins C s.heap.objs.size []) (t' := s.toks) (fun b u q => Heap.get?_push_of_some _ q) (Nat.le_of_eq (Heap.size_push _ _)) ?_
  have ne : s.heap.objs.size ≠ s.heap.objs.size + 1 := Nat.ne_of_lt (Nat.lt_succ_self _)
  refine ⟨by rw [upd_ne ne, upd_same], Nat.zero_le _, ne, e2, fun _ => none, (Heap.Ns1.of_empty e3).at fun o q => Heap.get?_push_of_some _ q, fun _ => True.intro, fun y hy => absurd rfl hy⟩

end

section
variable {X : Cx} {o e value : Expr} {f : Str} {pos pos' tpos : Pos} {ta tv : TE}
end

section
variable {X : Cx} {pins : List (Addr × Obj)} {σ : St} {H : Hp} {s : Shared} {A : Around} {E : Value → Shared → Prop} {Q : Value → Shared → Prop} {c : Value} {b : Bool}
end
end L2

namespace L2
open PySem PySem.Spec PyProof.Rows

structure Room (k : Nat) (A : Around) : Prop where
  hd : A.handled = none
  dp : A.depth + 3 * k + 5 < recursionLimit
  un : A.units + 16 * k + 200 < cLine
theorem Room.mono {j k : Nat} {A : Around} (r : Room k A) (h : j ≤ k) : Room j A := ⟨r.hd, by have := r.dp; omega, by have := r.un; omega⟩
theorem Room.deeper {k : Nat} {A : Around} (r : Room (k + 1) A) (env : Env) : Room k (A.deeper env) :=
  ⟨r.hd, by have := r.dp; show A.depth + 1 + 3 * k + 5 < _; omega, by have := r.un; show A.units + 3 + 16 * k + 200 < _; omega⟩
theorem Room.in1 {k : Nat} {A : Around} (r : Room (k + 1) A) : Room k A.in1 :=
  ⟨r.hd, by have := r.dp; show A.depth + 3 * k + 5 < _; omega, by have := r.un; show A.units + 1 + 16 * k + 200 < _; omega⟩
theorem make_depth {A : Around} {C : Addr} {us : List Value} {kw : List (Str × Value)} : (A.under (.builtin "type.__call__" ⟨.ref C :: us, kw⟩)).depth = A.depth + 1 := by
  first | rfl | simp [Around.under, Code.weight, Code.isCreation, Code.isGuard, Code.isCaller, Code.frames, Code.isFrame, guardIds]
theorem make_units {A : Around} {C : Addr} {us : List Value} {kw : List (Str × Value)} : (A.under (.builtin "type.__call__" ⟨.ref C :: us, kw⟩)).units = A.units + 1 := by
  first | rfl | simp [Around.under, Code.cUnits, Code.frames, Code.isFrame]
theorem Room.make {k : Nat} {A : Around} (r : Room (k + 1) A) (C : Addr) (us : List Value) (kw : List (Str × Value)) : Room k (A.under (.builtin "type.__call__" ⟨.ref C :: us, kw⟩)) :=
  ⟨r.hd, by have := r.dp; rw [make_depth]; omega, by have := r.un; rw [make_units]; omega⟩
theorem Room.depth {k : Nat} {A : Around} (r : Room k A) : A.depth < recursionLimit := by have := r.dp; omega
theorem Room.units {k : Nat} {A : Around} (r : Room k A) : A.units + 64 < cLine := by have := r.un; omega
noncomputable def tNil : TA := fun _ H Q => Q [] H
noncomputable def tCons (ta : TE) (tr : TA) : TA := fun σ H Q => ta σ H fun x H1 => tr σ H1 fun xs H2 => Q (x :: xs) H2
section
variable {X : Cx} {e : Expr} {es : List Expr} {te : TE} {t : TA} {pos : Pos}
theorem pa_nil : PA X [] tNil := fun _ _ _ _ H Q I h => Calls.spliced_nil ⟨[], H, I, .nil, h⟩
theorem pa_cons (ha : PE X e te) (hr : PA X es t) (hs : starEach (e :: es) X.env = (false, eval e X.env) :: starEach es X.env := by rfl) : PA X (e :: es) (tCons te t) := by
  intro pos pins s σ H Q I h
  rw [hs]
  show wpAny _ _ (spliced ((false, eval e X.env) :: backTo pos (starEach es X.env))) _ _ s
  refine Calls.spliced_cons (thn (ha pins s σ H _ I h) fun u s1 ⟨x, H1, I1, r1, q1⟩ => ?_)
  exact thn (hr pos pins s1 σ H1 _ I1 q1) fun us s2 ⟨xs, H2, I2, r2, q2⟩ => ⟨x :: xs, H2, I2, .cons r1 r2, q2⟩

noncomputable def tTup (t : TA) : TE := fun σ H Q => t σ H fun xs H1 => xs.length ≤ sizeLine ∧ ∀ p, H1 p = none → Q (.ref p) (upd H1 p (.tup xs))
noncomputable def tLst (t : TA) : TE := fun σ H Q => t σ H fun xs H1 => xs.length ≤ sizeLine ∧ ∀ p, H1 p = none → Q (.ref p) (upd H1 p (.lst xs))
theorem pe_tup {x1} (h : PA X es t) : PE X (.Tuple es x1 pos) (tTup t) := by
  intro pins s σ H Q I hq
  refine wpAny_Tuple_spliced (thn (h pos pins s σ H _ I hq) fun us s1 ⟨xs, H1, I1, r, z, q⟩ => ⟨by rw [← r.length]; exact z, ?_⟩)
  have hf : H1 s1.heap.objs.size = none := I1.hok.fresh (Nat.le_refl _)
  refine ⟨.ref s1.heap.objs.size, upd H1 s1.heap.objs.size (.tup xs), I1.laid (t' := s1.toks) (fun b u e => Heap.get?_push_of_some _ e) (Nat.le_refl _) ?_, rfl, q _ hf⟩
  exact ⟨z, us, r, ⟨_, Heap.get?_push_size _ rfl, rfl, _, rfl⟩⟩
theorem pe_lst (h : PA X es t) : PE X (.List es pos) (tLst t) := by
  intro pins s σ H Q I hq
  refine wpAny_List_spliced (thn (h pos pins s σ H _ I hq) fun us s1 ⟨xs, H1, I1, r, z, q⟩ => ⟨by rw [← r.length]; exact z, ?_⟩)
  have hf : H1 s1.heap.objs.size = none := I1.hok.fresh (Nat.le_refl _)
  refine ⟨.ref s1.heap.objs.size, upd H1 s1.heap.objs.size (.lst xs), I1.laid (t' := s1.toks) (fun b u e => Heap.get?_push_of_some _ e) (Nat.le_refl _) ?_, rfl, q _ hf⟩
  exact ⟨z, us, 0, r, Heap.get?_push_size _ rfl⟩
end

noncomputable abbrev Sp := List V → Hp → VK → XK → Prop
noncomputable abbrev CXT := List Env → Hp → Shared → XK → Value → Shared → Prop

structure Env0 (P : Program) (w : World) (K : PySem.W.Frag) (mg : Str → Option Value) (base : Heap) (A : Around) (outer : List Env) (s : Shared) (H : Hp) : Prop where
  frames : A.frames = some outer
  mod : Mod K mg base
  bs : ∀ b o, base.get? b = some o → s.heap.get? b = some o ∧ H b = none
  bsz : base.objs.size ≤ s.heap.objs.size
  funs : s.heap.FunFrames base outer
  frf : ∀ b ∈ frs outer, H b = none
  hok : HOk P w H s.heap
  bare : AllBare s.gens
noncomputable def CE (outer : List Env) (P : Program) (w : World) (H : Hp) (s : Shared) (Q : VK) (u : Value) (s' : Shared) : Prop :=
  ∃ v H', s'.os = s.os ∧ AllBare s'.gens ∧ Un (frs outer) [] H H' s.heap s'.heap ∧ HOk P w H' s'.heap ∧ RelV v u ∧ Q v H'
noncomputable def CR (CX : CXT) (outer : List Env) (P : Program) (w : World) (H : Hp) (s : Shared) (Q : VK) (E : XK) (r : Result) (s' : Shared) : Prop :=
  match r with
  | .ok (.ret u) => CE outer P w H s Q u s'
  | .ok _ => False
  | .error e => CX outer H s E e s'
structure FnOk (P : Program) (w : World) (K : PySem.W.Frag) (mg : Str → Option Value) (base : Heap) (CX : CXT) (k : Nat) (f : Addr) (fd : FuncData) (ps : List Str) (sp : Sp) : Prop where
  len : ∀ vs H Q E, sp vs H Q E → vs.length = ps.length
  run : ∀ (A : Around) (outer : List Env) (s : Shared) (H : Hp) (args : Args) (us : List Value) (vs : List V) (Q : VK) (E : XK), Room k A → Env0 P w K mg base A outer s H → BindsTo s fd args (ps.zip us) → Vals vs us → sp vs H Q E →
    codeAny (model P w) A (.call (.ref f) args) (CR CX outer P w H s Q E) s
theorem FnOk.mono {P : Program} {w : World} {K : PySem.W.Frag} {mg : Str → Option Value} {base : Heap} {CX : CXT} {j k : Nat} {f : Addr} {fd : FuncData} {ps : List Str} {sp : Sp} (F : FnOk P w K mg base CX j f fd ps sp) (h : j ≤ k) :
    FnOk P w K mg base CX k f fd ps sp := ⟨F.len, fun A outer s H args us vs Q E hr => F.run A outer s H args us vs Q E (hr.mono h)⟩
theorem FnOk.imp {P : Program} {w : World} {K : PySem.W.Frag} {mg : Str → Option Value} {base : Heap} {CX : CXT} {k : Nat} {f : Addr} {fd : FuncData} {ps : List Str} {sp sp' : Sp} (F : FnOk P w K mg base CX k f fd ps sp)
    (h : ∀ vs H Q E, sp' vs H Q E → sp vs H Q E) : FnOk P w K mg base CX k f fd ps sp' :=
  ⟨fun vs H Q E q => F.len vs H Q E (h _ _ _ _ q), fun A outer s H args us vs Q E hr he hb hv hs => F.run A outer s H args us vs Q E hr he hb hv (h _ _ _ _ hs)⟩

theorem Env0.make {P : Program} {w : World} {K : PySem.W.Frag} {mg : Str → Option Value} {base : Heap} {A : Around} {outer : List Env} {s : Shared} {H : Hp} (e : Env0 P w K mg base A outer s H) (C : Addr) (us : List Value) (kw : List (Str × Value)) :
    Env0 P w K mg base (A.under (.builtin "type.__call__" ⟨.ref C :: us, kw⟩)) outer s H := ⟨by first | exact e.frames | (simpa [Around.under, Code.envs, Code.isFrame, pushEnvs] using e.frames), e.mod, e.bs, e.bsz, e.funs, e.frf, e.hok, e.bare⟩
theorem Env0.in1 {P : Program} {w : World} {K : PySem.W.Frag} {mg : Str → Option Value} {base : Heap} {A : Around} {outer : List Env} {s : Shared} {H : Hp} (e : Env0 P w K mg base A outer s H) :
    Env0 P w K mg base A.in1 outer s H := ⟨e.frames, e.mod, e.bs, e.bsz, e.funs, e.frf, e.hok, e.bare⟩

section
variable {X : Cx} {pins : List (Addr × Obj)} {σ : St} {H : Hp} {s s' : Shared}
theorem Inv.env0 (I : Inv X pins σ H s) : Env0 X.prog X.w X.K X.mg X.base X.A X.stack s H :=
  ⟨I.ok.frames, I.ok.mod, I.bs, Nat.le_trans I.ok.bsz I.sz, I.stack, I.stkFree, I.hok, I.bare⟩
theorem Inv.after {Q : VK} {u : Value} (I : Inv X pins σ H s) (h : CE X.stack X.prog X.w H s Q u s') : EP X pins σ Q u s' := by
  obtain ⟨v, H', os, bare, un, hok, r, q⟩ := h
  obtain ⟨hh, g, d, t, os'⟩ := s'
  obtain rfl : os' = s.os := os
  exact ⟨v, H', I.call (h' := hh) (g' := g) (d' := d) (t' := t) (ch := []) un hok bare (fun b z => absurd z (by simp)), r, q⟩
end

noncomputable def tCall (sp : Sp) (dvs : List V) (E : XK) (t : TA) : TE := fun σ H Q => t σ H fun vs H1 => sp (vs ++ dvs) H1 Q E
noncomputable def Binds (K : PySem.W.Frag) (fd : FuncData) (ps : List Str) (ds : List Value) : Prop :=
  ∀ (s : Shared) (us : List Value), K.In s.heap → (us ++ ds).length = ps.length → BindsTo s fd ⟨us, []⟩ (ps.zip (us ++ ds))
theorem Binds.all {K : PySem.W.Frag} {fd : FuncData} {ps : List Str} (h : ∀ us : List Value, us.length = ps.length → bindArgs fd ⟨us, []⟩ = pure (ps.zip us)) : Binds K fd ps [] := fun s us _ hl => by
  rw [List.append_nil] at hl ⊢
  exact .of_eq (h us hl)

noncomputable def Passes (CX : CXT) (X : Cx) (E : XK) : Prop := ∀ (pins : List (Addr × Obj)) (σ : St) (H : Hp) (s : Shared) (e : Value) (s' : Shared), Inv X pins σ H s → CX X.stack H s E e s' → X.xe e s'

section
variable {X : Cx} {CX : CXT} {k : Nat} {f C : Addr} {fd : FuncData} {ps : List Str} {sp : Sp} {dvs : List V} {ds : List Value} {E : XK} {x m : Str} {p pos apos : Pos} {e o : Expr} {es : List Expr} {ta : TE} {t : TA}

theorem run_fn {pins : List (Addr × Obj)} {σ : St} {H : Hp} {s : Shared} {Q : VK} {us : List Value} {vs : List V} (F : FnOk X.prog X.w X.K X.mg X.base CX k f fd ps sp) (hr : Room k X.A) (hb : Binds X.K fd ps ds) (hd : Vals dvs ds) (hx : Passes CX X E)
    (I : Inv X pins σ H s) (r : Vals vs us) (h : sp (vs ++ dvs) H Q E) : wpAny (model X.prog X.w) X.A (call (.ref f) us) (EP X pins σ Q) X.xe s := by
  have r2 : Vals (vs ++ dvs) (us ++ ds) := r.append hd
  have hl : (us ++ ds).length = ps.length := by rw [← r2.length]; exact F.len _ _ _ _ h
  refine wpAny_call (codeAny_mono (F.run X.A X.stack s H ⟨us, []⟩ (us ++ ds) (vs ++ dvs) Q E hr I.env0 (hb s us I.kIn hl) r2 h) fun r s' hq => ?_)
  cases r with
  | error e => exact hx pins σ H s e s' I hq
  | ok fl =>
    cases fl with
    | ret u => exact I.after hq
    | next => exact False.elim hq
    | brk => exact False.elim hq
    | cont => exact False.elim hq

theorem pe_call (F : FnOk X.prog X.w X.K X.mg X.base CX k f fd ps sp) (hr : Room k X.A) (hg : Gl X x) (hm : X.mg x = some (.ref f)) (hk : PySem.W.keepIn X.K (.ref f) = true) (hb : Binds X.K fd ps ds) (hd : Vals dvs ds) (hx : Passes CX X E)
    (ha : PA X (e :: es) t) (hdb : (x == ("__debug__" : Str)) = false := by decide) (he : starEach (e :: es) X.env = (false, eval e X.env) :: starEach es X.env := by rfl) (hpl : (backTo pos (starEach es X.env)).any (·.1) = false := by rfl) :
    PE X (.Call (.Name x p) (e :: es) [] pos) (tCall sp dvs E t) := by
  intro pins s σ H Q I h
  refine wpAny_Call_Name_kw (ld_glob I hg hm ?_ hdb)
  refine PySem.W.callWith_K (h₀ := X.base) I.ok.mod.kin hk (thn (ha pos pins s σ H _ I h) fun us s1 ⟨vs, H1, I1, r, q⟩ => ⟨I1.kIn, ?_⟩) he hpl
  exact run_fn F hr hb hd hx I1 r q
end

section
variable {X : Cx} {CX : CXT} {k : Nat} {f C : Addr} {fd : FuncData} {ps ks : List Str} {sp : Sp} {E : XK} {x m : Str} {p pos apos kpos : Pos} {e o : Expr} {es : List Expr} {kws : List Keyword} {te ta : TE} {t tk : TA} {nm : Option Str}
variable {g : List Value → List Value → List Value} {gV : List V → List V → List V}
end

structure FnScope (N P : List Str) (sc : Scope) : Prop where
  kind : sc.kind = .function
  co : sc.isCoroutine = false
  gen : sc.isGenerator = false
  nd : N.Nodup
  pre : N.take P.length = P
  par : ∀ x ∈ P, sc.names.lookup x = some .local ∨ sc.names.lookup x = some .cell
  nofree : ∀ y ∈ sc.names, y.2 ≠ .free

theorem bindL_out {kindOf : Str → Option NameKind} {x : Str} : ∀ {binds : List (Str × Value)} {m : Str → Option Value}, (∀ v, (x, v) ∉ binds) → bindL kindOf binds m x = m x
  | [], _, _ => rfl
  | (n, v) :: r, m, h => by
    unfold bindL
    rw [bindL_out fun w hw => h w (List.mem_cons_of_mem _ hw)]
    split
    · have : x ≠ n := by rintro rfl; exact h v List.mem_cons_self
      simp [this]
    · rfl
theorem bindC_out {kindOf : Str → Option NameKind} {x : Str} : ∀ {binds : List (Str × Value)} {m : Str → Option Value}, (∀ v, (x, v) ∉ binds) → bindC kindOf binds m x = m x
  | [], _, _ => rfl
  | (n, v) :: r, m, h => by
    unfold bindC
    rw [bindC_out fun w hw => h w (List.mem_cons_of_mem _ hw)]
    split
    · rfl
    · have : x ≠ n := by rintro rfl; exact h v List.mem_cons_self
      simp [this]
theorem bindL_get {kindOf : Str → Option NameKind} {x : Str} {v : Value} : ∀ {P : List Str} {vs : List Value} {i : Nat} {m : Str → Option Value}, P.Nodup → P[i]? = some x → vs[i]? = some v → kindOf x = some .local →
    bindL kindOf (P.zip vs) m x = some v
  | [], _, _, _, _, h, _, _ => by simp at h
  | _ :: _, [], _, _, _, _, h, _ => by simp at h
  | p :: P, w :: vs, 0, m, nd, h1, h2, hk => by
    simp at h1 h2; subst h1; subst h2
    show bindL kindOf ((p, w) :: P.zip vs) m p = _
    unfold bindL
    rw [bindL_out fun v hv => (List.nodup_cons.mp nd).1 (List.of_mem_zip hv).1, if_pos hk]
    simp
  | p :: P, w :: vs, i + 1, m, nd, h1, h2, hk => by
    show bindL kindOf ((p, w) :: P.zip vs) m x = _
    unfold bindL
    exact bindL_get (i := i) (List.nodup_cons.mp nd).2 (by simpa using h1) (by simpa using h2) hk
theorem bindC_get {kindOf : Str → Option NameKind} {x : Str} {v : Value} : ∀ {P : List Str} {vs : List Value} {i : Nat} {m : Str → Option Value}, P.Nodup → P[i]? = some x → vs[i]? = some v → kindOf x ≠ some .local →
    bindC kindOf (P.zip vs) m x = some v
  | [], _, _, _, _, h, _, _ => by simp at h
  | _ :: _, [], _, _, _, _, h, _ => by simp at h
  | p :: P, w :: vs, 0, m, nd, h1, h2, hk => by
    simp at h1 h2; subst h1; subst h2
    show bindC kindOf ((p, w) :: P.zip vs) m p = _
    unfold bindC
    rw [bindC_out fun v hv => (List.nodup_cons.mp nd).1 (List.of_mem_zip hv).1, if_neg hk]
    simp
  | p :: P, w :: vs, i + 1, m, nd, h1, h2, hk => by
    show bindC kindOf ((p, w) :: P.zip vs) m x = _
    unfold bindC
    exact bindC_get (i := i) (List.nodup_cons.mp nd).2 (by simpa using h1) (by simpa using h2) hk

noncomputable def start (N : List Str) (vs : List V) : St := vs.map some ++ List.replicate (N.length - vs.length) none

noncomputable def cxOf (CX : CXT) (P : Program) (w : World) (K : PySem.W.Frag) (mg : Str → Option Value) (base : Heap) (N : List Str) (qual : Str) (scope : Scope) (f : Addr) (cd : Value) (A : Around) (outer : List Env) (s : Shared) (H : Hp) (E : XK) : Cx where
  prog := P
  w := w
  K := K
  mg := mg
  base := base
  A := A.deeper (envOfC qual scope s.heap.objs.size f cd)
  N := N
  s₀ := s
  H₀ := H
  env := envOfC qual scope s.heap.objs.size f cd
  outer := outer
  stack := envOfC qual scope s.heap.objs.size f cd :: outer
  ex := []
  calm := true
  fn := fun _ => true
  pn := []
  xe := fun e s' => wpAny (model P w) (A.deeper (envOfC qual scope s.heap.objs.size f cd)) (leaving (envOfC qual scope s.heap.objs.size f cd) e) (fun _ s'' => CX outer H s E e s'') (fun e' s'' => CX outer H s E e' s'') s'

theorem cell_has {sc : Scope} {n : Nat} {x : Str} (h : sc.names.lookup x = some .cell) : ∃ c, (cellsFrom n sc.names []).lookup x = some c := by
  have q := PySem.W.cellsFrom_some sc.names n [] (.inl h)
  exact Option.isSome_iff_exists.mp q

theorem inv_start {CX : CXT} {P : Program} {w : World} {K : PySem.W.Frag} {mg : Str → Option Value} {base : Heap} {N ps : List Str} {qual : Str} {scope : Scope} {f : Addr} {cd : Value} {A : Around} {outer : List Env} {s s1 : Shared} {H : Hp} {E : XK} {us : List Value} {vs : List V}
    (S : FnScope N ps scope) (hd : A.handled = none) (e0 : Env0 P w K mg base A outer s H) (hl : vs.length = ps.length) (r : Vals vs us)
    (x : InCallC s s.heap.objs.size (bindL (envOfC qual scope s.heap.objs.size f cd).kindOf (ps.zip us) fun _ => none) (cellsFrom (s.heap.objs.size + 1) scope.names []) (bindC (envOfC qual scope s.heap.objs.size f cd).kindOf (ps.zip us) fun _ => none) s1) :
    Inv (cxOf CX P w K mg base N qual scope f cd A outer s H E) [] (start N vs) H s1 := by
  have hpl : ps.length ≤ N.length := by have := congrArg List.length S.pre; rw [List.length_take] at this; omega
  obtain ⟨h1, tk, rfl, hk⟩ := x.done
  have noA : ∀ b : Addr, b ∉ (cxOf CX P w K mg base N qual scope f cd A outer s H E).ex := fun b z => absurd (show b ∈ ([] : List Addr) from z) (by simp)
  refine ⟨⟨e0.mod, S.kind, rfl, rfl, Nat.le_refl _, fun y z c h1 h2 => ?_, fun y hy => ?_, fun y c _ h => ?_, fun _ => hd, Around.frames_deeper e0.frames, .inr ⟨rfl, rfl⟩, fun b z => absurd z (noA b), e0.bs, e0.bsz, fun b _ _ => noA b, fun b z => absurd z (noA b), e0.funs, e0.frf⟩,
    rfl, e0.bare, Un.kept hk, ⟨_, x.toInCall.ns, fun i y v h1 h2 h3 => ?_⟩, fun y c h => ⟨_, x.cell y c h⟩, e0.hok.fresh (Nat.le_refl _), fun y c h => ?_, fun p hp => absurd (show p ∈ ([] : List (Addr × Obj)) from hp) (by simp), e0.hok.kept hk, ?_⟩
  · exact name_of_addr x.apart (PySem.mem_of_lookup h1) (PySem.mem_of_lookup h2)
  · have hy : scope.names.lookup y = some .cell ∨ scope.names.lookup y = some .free := hy
    rcases hy with hy | hy
    · exact cell_has hy
    · exact absurd rfl (S.nofree _ (PySem.mem_of_lookup hy))
  · exact Nat.le_of_lt (x.above y c (PySem.mem_of_lookup h))
  · have hi : i < vs.length := by
      unfold start at h2
      by_cases hi : i < vs.length
      · exact hi
      · rw [List.getElem?_append_right (by simpa using hi)] at h2
        rw [List.getElem?_replicate] at h2
        split at h2 <;> cases h2
    have ha : vs[i]? = some v := by
      unfold start at h2
      rw [List.getElem?_append_left (by simpa using hi), List.getElem?_map] at h2
      cases e : vs[i]? with
      | none => rw [e] at h2; cases h2
      | some a => rw [e] at h2; cases h2; rfl
    obtain ⟨u, hu, rv⟩ := r.get ha
    have hp : ps[i]? = some y := by
      rw [← S.pre, List.getElem?_take_of_lt (by omega)]; exact h1
    have ndP : ps.Nodup := by rw [← S.pre]; exact S.nd.sublist (List.take_sublist _ _)
    refine ⟨u, rv, ?_⟩
    rcases S.par y (List.mem_of_getElem? hp) with k | k
    · exact .inl ⟨k, bindL_get ndP hp hu k⟩
    · obtain ⟨c, e⟩ := cell_has (n := s.heap.objs.size + 1) k
      refine .inr ⟨.inl k, c, e, ?_⟩
      have q := x.cell y c e
      rw [bindC_get ndP hp hu (by show scope.names.lookup y ≠ _; rw [k]; decide)] at q
      exact q
  · exact e0.hok.fresh (Nat.le_of_lt (x.above y c (PySem.mem_of_lookup h)))
  · unfold start
    show _ = N.length
    rw [List.length_append, List.length_map, List.length_replicate]
    omega

theorem fn_of {CX : CXT} {P : Program} {w : World} {K : PySem.W.Frag} {mg : Str → Option Value} {base : Heap} {k : Nat} {f : Addr} {name qual : Str} {params : Arguments} {body : List Stmt} {scope : Scope} {dV kV doc pm cdv ct oc : Value} {an od : Option Addr}
    {osl : Array (Option Value)} {N ps : List Str} {sp : Sp} (lk : K.lookup f = some ⟨oc, od, .func (PySem.W.fnOf name qual params body scope dV kV doc pm an cdv ct), osl⟩) (hcd : PySem.W.codeIn K cdv qual = true) (S : FnScope N ps scope)
    (len : ∀ vs H Q E, sp vs H Q E → vs.length = ps.length)
    (hbody : ∀ (A : Around) (outer : List Env) (s : Shared) (H : Hp) (vs : List V) (Q : VK) (E : XK), Room k (A.deeper (envOfC qual scope s.heap.objs.size f cdv)) → sp vs H Q E →
      ∃ t, PSs (cxOf CX P w K mg base N qual scope f cdv A outer s H E) body t ∧ t { nx := fun _ H' => Q .non H', rt := Q } (start N vs) H) :
    FnOk P w K mg base CX (k + 1) f (PySem.W.fnOf name qual params body scope dV kV doc pm an cdv ct) ps sp := by
  refine ⟨len, fun A outer s H args us vs Q E hr e0 hb r hsp => ?_⟩
  have hl := len _ _ _ _ hsp
  have KX : K.In s.heap := e0.mod.kin.keeps fun b o e => (e0.bs b o e).1
  have lim : s.heap.NoLimit := e0.mod.nolimit.keeps fun b o e => (e0.bs b o e).1
  have hkind : ∀ y ∈ ps.zip us, scope.names.lookup y.1 = some .local ∨ (scope.names.lookup y.1 = some .cell ∧ ((cellsFrom (s.heap.objs.size + 1) scope.names []).lookup y.1).isSome = true) := fun ⟨n, v⟩ hy => by
    rcases S.par n (List.of_mem_zip hy).1 with q | q
    · exact .inl q
    · exact .inr ⟨q, PySem.W.cellsFrom_some _ _ _ (.inl q)⟩
  refine codeAny_call_function hr.depth (KX _ _ lk) rfl S.co S.gen rfl (PySem.W.codeRec_of KX hcd) (hb _ _ _ _ ?_)
  refine wpAny_newFunctionEnv_cells S.kind hkind fun env he s1 x => ?_
  subst he
  refine ⟨lim.keeps x.toInCall.keep, codeAny_func ?_⟩
  obtain ⟨t, ht, hq⟩ := hbody A outer s H vs Q E (hr.deeper _) hsp
  have I : Inv (cxOf CX P w K mg base N qual scope f cdv A outer s H E) [] (start N vs) H s1 := inv_start S hr.hd e0 hl r x
  refine wpAny_mono (ht [] s1 (start N vs) H _ I hq) (fun fl s' hs => ?_) fun e s' hs => hs
  have fin : ∀ {σ' : St} {H' : Hp} {v : V} {u : Value}, Inv (cxOf CX P w K mg base N qual scope f cdv A outer s H E) [] σ' H' s' → RelV v u → Q v H' → CE outer P w H s Q u s' :=
    fun {σ' H' v u} J rv q => ⟨v, H', J.os, J.bare, J.base, J.hok, rv, q⟩
  cases fl with
  | ret u =>
    obtain ⟨v, σ', H', J, rv, q⟩ := hs
    exact fin J rv q
  | next =>
    obtain ⟨σ', H', J, q⟩ := hs
    exact fin (v := V.non) (u := Value.none) J rfl q
  | brk =>
    obtain ⟨_, _, _, q⟩ := hs
    exact False.elim q
  | cont =>
    obtain ⟨_, _, _, q⟩ := hs
    exact False.elim q
end L2

namespace L2
open PySem PySem.Spec PyProof.Rows
section
variable {X : Cx} {x : Str} {p pos : Pos} {e : Expr} {es : List Expr} {t : TA} {id T : String} {r : List V → Hp → VK → Prop}

noncomputable def tCB (r : List V → Hp → VK → Prop) (t : TA) : TE := fun σ H Q => t σ H fun vs H1 => r vs H1 Q
theorem pe_callB (hc : CallR X (.builtin id) r) (hg : Gl X x) (hm : X.mg x = none) (hv : bootBuiltins x = some (.builtin id)) (ha : PA X (e :: es) t) (hn : x ≠ "__name__" := by decide) (hdb : (x == ("__debug__" : Str)) = false := by decide)
    (he : starEach (e :: es) X.env = (false, eval e X.env) :: starEach es X.env := by rfl) (hpl : (backTo pos (starEach es X.env)).any (·.1) = false := by rfl) : PE X (.Call (.Name x p) (e :: es) [] pos) (tCB r t) := by
  intro pins s σ H Q I h
  refine wpAny_Call_Name_kw (ld_blt I hg hm hv ?_ hn hdb)
  exact PyProof.Rows.callWith_builtin1 (thn (ha pos pins s σ H _ I h) fun us s1 ⟨vs, H1, I1, r1, q1⟩ => hc pins s1 σ H1 vs us Q I1 r1 q1) he hpl
theorem pe_callTy (hc : CallR X (.type T) r) (hg : Gl X x) (hm : X.mg x = none) (hv : bootBuiltins x = some (.type T)) (ha : PA X (e :: es) t) (hn : x ≠ "__name__" := by decide) (hdb : (x == ("__debug__" : Str)) = false := by decide)
    (he : starEach (e :: es) X.env = (false, eval e X.env) :: starEach es X.env := by rfl) (hpl : (backTo pos (starEach es X.env)).any (·.1) = false := by rfl) : PE X (.Call (.Name x p) (e :: es) [] pos) (tCB r t) := by
  intro pins s σ H Q I h
  refine wpAny_Call_Name_kw (ld_blt I hg hm hv ?_ hn hdb)
  exact PyProof.Rows.callWith_type1 (thn (ha pos pins s σ H _ I h) fun us s1 ⟨vs, H1, I1, r1, q1⟩ => hc pins s1 σ H1 vs us Q I1 r1 q1) he hpl
end
end L2

namespace HT
open PySem PyProof.Rows

section
open PySem.SeqAt
open PySem.AutoSeq1 (wpAny_loadPart')
open PySem.MeetsSeq PySem.MeetsSeq2 PySem.MeetsSeq3

end

section
variable {prog : Program} {w : World} {A : Around} {E : Value → Shared → Prop} {s : Shared}

noncomputable def sIx (n d : Nat) : Option Int → Nat
  | none => d
  | some v => if v < 0 then (v + (n : Int)).toNat else min v.toNat n
theorem sIx_none (n d : Nat) : sIx n d none = d := rfl
theorem sIx_nat (n d k : Nat) : sIx n d (some (k : Int)) = min k n := by
  show (if (k : Int) < 0 then ((k : Int) + (n : Int)).toNat else min (k : Int).toNat n) = min k n
  rw [if_neg (by omega), Int.toNat_natCast]
end
end HT

namespace L2
open PySem PySem.Spec PyProof.Rows

noncomputable abbrev TO := St → Hp → (Option Int → Hp → Prop) → Prop
noncomputable def PO (X : Cx) (e : Option Expr) (t : TO) : Prop :=
  ∀ (pins : List (Addr × Obj)) (s : Shared) (σ : St) (H : Hp) (Q : Option Int → Hp → Prop), Inv X pins σ H s → t σ H Q →
    wpAny (model X.prog X.w) X.A (evalPart e X.env) (fun u s' => ∃ o H', Inv X pins σ H' s' ∧ IsPart u o ∧ Q o H') X.xe s
noncomputable def tNoPart : TO := fun _ H Q => Q none H
noncomputable def tPart (t : TE) : TO := fun σ H Q => t σ H fun x H1 => ∃ i, x = .int i ∧ Q (some i) H1

theorem intsAre_of {ns : List Int} : ∀ {us : List Value}, Vals (ns.map V.int) us → IntsAre us ns := by
  induction ns with
  | nil => intro us r; rw [List.map_nil] at r; cases r; exact .nil
  | cons n ns ih =>
    intro us r
    rw [List.map_cons] at r
    cases r with
    | cons r1 r2 =>
      obtain ⟨t, e⟩ := r1
      subst e
      exact .cons n t (ih r2)

section
variable {X : Cx} {e : Expr} {te : TE} {lo hi : Option Expr} {tl th : TO} {pos p2 : Pos}

theorem po_none : PO X none tNoPart := by
  intro pins s σ H Q I h
  rw [evalPart_none]
  exact wpAny_pure ⟨none, H, I, .none, h⟩
theorem po_some (h : PE X e te) : PO X (some e) (tPart te) := by
  intro pins s σ H Q I hw
  rw [evalPart_some]
  refine thn (h pins s σ H _ I hw) fun u s1 ⟨x, H1, I1, r1, q1⟩ => ?_
  obtain ⟨i, rfl, q⟩ := q1
  obtain ⟨t, rfl⟩ := r1
  exact ⟨some i, H1, I1, .int i t, q⟩

noncomputable def SlR (X : Cx) (r : V → Option Int → Option Int → Hp → VK → Prop) : Prop :=
  ∀ (pins : List (Addr × Obj)) (s : Shared) (σ : St) (H : Hp) (x : V) (v vl vu : Value) (lo hi : Option Int) (sl : Addr) (Q : VK), Inv X pins σ H s → RelV x v → s.heap.IsSliceOf sl vl vu .none → IsPart vl lo → IsPart vu hi → r x lo hi H Q →
    ∃ T id, typeLookup (.type T) "__getitem__" = pure (some (.builtin id)) ∧ s.TypeIs v T ∧ wpAny (model X.prog X.w) X.A (getItem v (.ref sl)) (EP X pins σ Q) X.xe s
theorem SlR.or {r r' : V → Option Int → Option Int → Hp → VK → Prop} (h : SlR X r) (h' : SlR X r') : SlR X (fun x lo hi H Q => r x lo hi H Q ∨ r' x lo hi H Q) := by
  intro pins s σ H x v vl vu lo hi sl Q I rx hs pl pu q
  rcases q with q | q
  · exact h pins s σ H x v vl vu lo hi sl Q I rx hs pl pu q
  · exact h' pins s σ H x v vl vu lo hi sl Q I rx hs pl pu q
noncomputable def tSl (r : V → Option Int → Option Int → Hp → VK → Prop) (te : TE) (tl th : TO) : TE := fun σ H Q => te σ H fun x H1 => tl σ H1 fun l H2 => th σ H2 fun u H3 => r x l u H3 Q
theorem pe_slice {r : V → Option Int → Option Int → Hp → VK → Prop} (hr : SlR X r) (he : PE X e te) (hl : PO X lo tl) (hu : PO X hi th) : PE X (.Subscript e (.Slice lo hi none p2) pos) (tSl r te tl th) := by
  intro pins s σ H Q I h
  refine Subscript_ (thn (he pins s σ H _ I h) fun v s1 ⟨x, H1, I1, r1, q1⟩ => ?_)
  refine wpAny_Slice (thn (hl pins s1 σ H1 _ I1 q1) fun vl s2 ⟨l, H2, I2, pl, q2⟩ => thn (hu pins s2 σ H2 _ I2 q2) fun vu s3 ⟨u, H3, I3, pu, q3⟩ => ?_)
  rw [evalPart_none]
  refine wpAny_pure ?_
  have I4 : Inv X pins σ H3 { s3 with heap := s3.heap.push { cls := .type "slice", data := .fields #[vl, vu, .none] } } := I3.kept (t' := s3.toks) fun b ob q => Heap.get?_push_of_some _ q
  obtain ⟨T, id, hT, ht, hg⟩ := hr pins { s3 with heap := s3.heap.push { cls := .type "slice", data := .fields #[vl, vu, .none] } } σ H3 x v vl vu l u s3.heap.objs.size Q I4 r1 (Heap.IsSliceOf.new ..) pl pu q3
  show wpAny (model X.prog X.w) X.A (subscriptTail e (.Slice lo hi none p2) v (.ref s3.heap.objs.size)) (EP X pins σ Q) X.xe { s3 with heap := s3.heap.push { cls := .type "slice", data := .fields #[vl, vu, .none] } }
  exact tail_any (ops := [.ref s3.heap.objs.size, v]) ht hT hg (by with_unfolding_all rfl)

noncomputable def cutV (xs : List V) (lo hi : Option Int) : List V := (xs.drop (HT.sIx xs.length 0 lo)).take (HT.sIx xs.length xs.length hi - HT.sIx xs.length 0 lo)
theorem cutV_length (xs : List V) (lo hi : Option Int) : (cutV xs lo hi).length ≤ xs.length := by
  unfold cutV
  rw [List.length_take, List.length_drop]
  omega
end
end L2

namespace L2
open PySem PySem.Spec PyProof.Rows

noncomputable def ixN (n : Nat) (i : Int) : Option Nat := if 0 ≤ i then (if i < n then some i.toNat else none) else if -(n : Int) ≤ i then some (i + n).toNat else none
noncomputable def atI {α : Type} (xs : List α) (i : Int) : Option α := (ixN xs.length i).bind fun j => xs[j]?
theorem ixN_seq {n : Nat} {i : Int} {j : Nat} (h : ixN n i = some j) : seqIndex? i n = some j ∧ j < n ∧ -(n : Int) ≤ i ∧ i < n := by
  unfold ixN at h
  by_cases h0 : 0 ≤ i
  · rw [if_pos h0] at h
    by_cases h1 : i < n
    · rw [if_pos h1] at h
      have e : i.toNat = j := Option.some.inj h
      exact ⟨by rw [seqIndex_of h0 h1, e], by omega, by omega, h1⟩
    · rw [if_neg h1] at h; cases h
  · rw [if_neg h0] at h
    by_cases h1 : -(n : Int) ≤ i
    · rw [if_pos h1] at h
      have e : (i + n).toNat = j := Option.some.inj h
      exact ⟨by rw [seqIndex_neg (by omega) h1, e], by omega, h1, by omega⟩
    · rw [if_neg h1] at h; cases h
theorem atI_get {α : Type} {xs : List α} {i : Int} {v : α} (h : atI xs i = some v) : ∃ j, seqIndex? i xs.length = some j ∧ xs[j]? = some v ∧ j < xs.length ∧ -(xs.length : Int) ≤ i ∧ i < xs.length := by
  unfold atI at h
  cases e : ixN xs.length i with
  | none => rw [e] at h; cases h
  | some j =>
    rw [e] at h
    obtain ⟨h1, h2, h3, h4⟩ := ixN_seq e
    exact ⟨j, h1, h, h2, h3, h4⟩
theorem atI_nat {α : Type} {xs : List α} {j : Nat} {v : α} (h : xs[j]? = some v) : atI xs (j : Int) = some v := by
  have hj : j < xs.length := (List.getElem?_eq_some_iff.mp h).1
  have e : ixN xs.length (j : Int) = some j := by
    unfold ixN
    rw [if_pos (by omega), if_pos (by omega)]; simp
  unfold atI; rw [e]; exact h
theorem atI_last {α : Type} (xs : List α) (v : α) : atI (xs ++ [v]) (-1) = some v := by
  have hl : (xs ++ [v]).length = xs.length + 1 := by simp
  have e : ixN (xs ++ [v]).length (-1) = some xs.length := by
    unfold ixN
    rw [hl, if_neg (by decide), if_pos (by omega)]
    congr 1
    omega
  unfold atI
  rw [e]
  show (xs ++ [v])[xs.length]? = some v
  simp

noncomputable def PlainIx (b : Expr) : Prop := ∀ o i, subscripted b false o i = operate [o, i] (getItem o i)
noncomputable def IxR (X : Cx) (r : R2) : Prop :=
  ∀ (value slice : Expr) (pins : List (Addr × Obj)) (s : Shared) (σ : St) (H : Hp) (x y : V) (v u : Value) (Q : VK), Inv X pins σ H s → RelV x v → RelV y u → r x y H Q →
    subscripted slice false v u = operate [v, u] (getItem v u) → wpAny (model X.prog X.w) X.A (subscriptTail value slice v u) (EP X pins σ Q) X.xe s
noncomputable def MtR (X : Cx) (id : String) (r : V → List V → Hp → VK → Prop) : Prop :=
  ∀ (pins : List (Addr × Obj)) (s : Shared) (σ : St) (H : Hp) (x : V) (xs : List V) (v : Value) (us : List Value) (Q : VK), Inv X pins σ H s → RelV x v → Vals xs us → r x xs H Q →
    wpAny (model X.prog X.w) X.A (call (.builtin id) (v :: us)) (EP X pins σ Q) X.xe s
section
variable {X : Cx} {a b : Expr} {ta tb : TE} {pos : Pos}
theorem IxR.or {r r' : R2} (h : IxR X r) (h' : IxR X r') : IxR X (fun x y H Q => r x y H Q ∨ r' x y H Q) := by
  intro value slice pins s σ H x y v u Q I rx ry q hs
  rcases q with q | q
  · exact h value slice pins s σ H x y v u Q I rx ry q hs
  · exact h' value slice pins s σ H x y v u Q I rx ry q hs
theorem MtR.or {id : String} {r r' : V → List V → Hp → VK → Prop} (h : MtR X id r) (h' : MtR X id r') : MtR X id (fun x xs H Q => r x xs H Q ∨ r' x xs H Q) := by
  intro pins s σ H x xs v us Q I rx rs q
  rcases q with q | q
  · exact h pins s σ H x xs v us Q I rx rs q
  · exact h' pins s σ H x xs v us Q I rx rs q
theorem pe_ix {r : R2} (hr : IxR X r) (ha : PE X a ta) (hb : PE X b tb) (hs : PlainIx b) : PE X (.Subscript a b pos) (tOp r ta tb) := by
  intro pins s σ H Q I h
  exact Subscript_ (binT ha hb I h fun v u s2 x y H2 I2 rx ry q => hr a b pins s2 σ H2 x y v u Q I2 rx ry q (hs _ _))

noncomputable def rIxL (K : PySem.W.Frag) : R2 := fun x y H Q => ∃ p xs i v, x = .ref p ∧ y = .int i ∧ SqL K H p xs ∧ atI xs i = some v ∧ Q v H
noncomputable def rIxT (K : PySem.W.Frag) : R2 := fun x y H Q => ∃ p xs i v, x = .ref p ∧ y = .int i ∧ SqT K H p xs ∧ atI xs i = some v ∧ Q v H
noncomputable def rIxS : R2 := fun x y H Q => ∃ z i c, x = .str z ∧ y = .int i ∧ z.length ≤ sizeLine ∧ atI z.cps.toList i = some c ∧ Q (.str ⟨#[c]⟩) H
theorem ix_list : IxR X (rIxL X.K) := by
  intro value slice pins s σ H x y v u Q I rx ry h hs
  obtain ⟨p, xs, i, z, rfl, rfl, hq, he, q⟩ := h
  cases rx
  obtain ⟨t, rfl⟩ := ry
  obtain ⟨its, r, pl, hz⟩ := I.list hq
  obtain ⟨j, h1, h2, h3, h4, h5⟩ := atI_get he
  obtain ⟨w, ew, rw'⟩ := r.get h2
  have hl := r.length
  have hn := line63
  have fin : EP X pins σ Q w s := ⟨z, H, I, rw', q⟩
  by_cases h0 : 0 ≤ i
  · have hj : i.toNat = j := by
      rw [seqIndex_of h0 h5] at h1
      exact Option.some.inj h1
    exact item_listR pl.isList h0 (by omega) (by rw [hj]; simpa using ew) fin hs
  · have hj : (i + (its.toArray.size : Int)).toNat = j := by
      rw [seqIndex_neg (by omega) h4] at h1
      rw [List.size_toArray, ← hl]
      exact Option.some.inj h1
    exact subscriptTail_builtinR (x := w) pl.isList.typeIs slot_list_getitem.lookup
      (wpAny_getItem_list_neg (Q := fun r s' => r = w ∧ EP X pins σ Q r s') pl.isList (by omega) (by rw [List.size_toArray] <;> omega) (by omega) (by rw [hj]; simpa using ew) ⟨rfl, fin⟩) hs
theorem ix_tup : IxR X (rIxT X.K) := by
  intro value slice pins s σ H x y v u Q I rx ry h hs
  obtain ⟨p, xs, i, z, rfl, rfl, hq, he, q⟩ := h
  cases rx
  obtain ⟨t, rfl⟩ := ry
  obtain ⟨its, r, pl, hz⟩ := I.tuple hq
  obtain ⟨j, h1, h2, h3, h4, h5⟩ := atI_get he
  obtain ⟨w, ew, rw'⟩ := r.get h2
  have hl := r.length
  have hn := line63
  have fin : EP X pins σ Q w s := ⟨z, H, I, rw', q⟩
  exact subscriptTail_builtinR (x := w) pl.typeIs slot_tuple_getitem.lookup
    (getItem_tuple (j := j) (Q := fun r s' => r = w ∧ EP X pins σ Q r s') pl (by omega) (by omega) (by rw [List.size_toArray, ← hl]; exact h1) (by simpa using ew) ⟨rfl, fin⟩) hs
theorem ix_str : IxR X rIxS := by
  intro value slice pins s σ H x y v u Q I rx ry h hs
  obtain ⟨z, i, c, rfl, rfl, hz, he, q⟩ := h
  obtain ⟨t, rfl⟩ := rx
  obtain ⟨t', rfl⟩ := ry
  obtain ⟨j, h1, h2, h3, h4, h5⟩ := atI_get he
  have hl : z.cps.toList.length = z.length := by simp [Str.length]
  rw [hl] at h1 h4 h5
  have hn := line63
  exact tail_any (typeIs_str s z t) slot_str_getitem.lookup (getItem_str (c := c) (by
    have e1 : decide (i < -(2 ^ 63 : Int)) = false := decide_eq_false (by omega)
    have e2 : decide (i ≥ 2 ^ 63) = false := decide_eq_false (by omega)
    rw [e1, e2, Bool.or_false]) (by rw [h1]; simpa using h2) ⟨.str ⟨#[c]⟩, H, I.tok _, ⟨_, rfl⟩, q⟩) hs
noncomputable def rIx (K : PySem.W.Frag) : R2 := fun x y H Q => rIxL K x y H Q ∨ rIxT K x y H Q ∨ rIxS x y H Q
theorem ix_seq : IxR X (rIx X.K) := ix_list.or (ix_tup.or ix_str)

theorem mapSeq_set (its : List Value) (n j : Nat) (u : Value) : Obj.mapSeq (·.setIfInBounds j u) { cls := .type "list", data := .seq its.toArray n } = { cls := .type "list", data := .seq (its.set j u).toArray n } := by
  simp [Obj.mapSeq]
theorem Inv.lst {pins : List (Addr × Obj)} {σ : St} {H : Hp} {s : Shared} {p : Addr} {xs : List V} (I : Inv X pins σ H s) (h : H p = some (.lst xs)) :
    ∃ (its : List Value) (n : Nat), Vals xs its ∧ s.heap.get? p = some { cls := .type "list", data := .seq its.toArray n } ∧ xs.length ≤ sizeLine := by
  obtain ⟨z, its, n, r, e⟩ := I.hok p _ h
  exact ⟨its, n, r, e, z⟩
theorem Inv.lstUpd {pins : List (Addr × Obj)} {σ : St} {H : Hp} {s : Shared} {p : Addr} {xs ys : List V} {its its' : List Value} {n n' : Nat} {f : Obj → Obj} (I : Inv X pins σ H s) (h : H p = some (.lst xs))
    (ho : s.heap.get? p = some { cls := .type "list", data := .seq its.toArray n }) (hf : f { cls := .type "list", data := .seq its.toArray n } = { cls := .type "list", data := .seq its'.toArray n' }) (r : Vals ys its') (hz : ys.length ≤ sizeLine) (t : Nat) :
    Inv X pins σ (upd H p (.lst ys)) { s with heap := s.heap.update p f, toks := t } := by
  have e : (s.heap.update p f).get? p = some { cls := .type "list", data := .seq its'.toArray n' } := by
    rw [Heap.get?_update_self f ho (by rw [hf] <;> rfl), hf]
  refine I.write (x := p) (e := p) (by rw [h]; trivial) (.inl rfl) (fun b u hb q => (Heap.get?_update_other _ _ (Ne.symm hb)).trans q) ⟨_, e⟩ ?_
  exact ⟨hz, its', n', r, e⟩
noncomputable def rSetL : V → V → V → Hp → (Hp → Prop) → Prop := fun o i v H Q => ∃ p xs k j, o = .ref p ∧ i = .int k ∧ H p = some (.lst xs) ∧ ixN xs.length k = some j ∧ Q (upd H p (.lst (xs.set j v)))
theorem set_list : PSet X rSetL := by
  intro pins s σ H o i v ov iv u Q I ro ri rv h
  obtain ⟨p, xs, k, j, rfl, rfl, hp, hj, q⟩ := h
  cases ro
  obtain ⟨t, rfl⟩ := ri
  obtain ⟨its, n, r, ho, hz⟩ := I.lst hp
  obtain ⟨h1, h2, h3, h4⟩ := ixN_seq hj
  have hl := r.length
  have hn := line63
  have I' : Inv X pins σ (upd H p (.lst (xs.set j v))) { s with heap := s.heap.update p (Obj.mapSeq (·.setIfInBounds j u)) } :=
    I.lstUpd hp ho (mapSeq_set its n j u) (r.set rv j) (by rw [List.length_set]; exact hz) s.toks
  by_cases h0 : 0 ≤ k
  · have hk : k.toNat = j := by
      rw [seqIndex_of h0 h4] at h1
      exact Option.some.inj h1
    exact PySem.W.ki_setAt ho h0 (by omega) (by rw [List.size_toArray, ← hl]; exact h4) (by rw [hk]; exact ⟨_, I', q⟩)
  · have hk : (k + (its.toArray.size : Int)).toNat = j := by
      rw [seqIndex_neg (by omega) h3] at h1
      rw [List.size_toArray, ← hl]
      exact Option.some.inj h1
    exact PySem.W.ki_setBack ho (by omega) (by rw [List.size_toArray, ← hl]; exact h3) (by omega) (by rw [hk]; exact ⟨_, I', q⟩)

theorem slice_bounds (lo hi : Option Int) (n : Nat) : (sliceBounds lo hi none n).1 = ((HT.sIx n 0 lo : Nat) : Int) ∧ (sliceBounds lo hi none n).2.1 = ((HT.sIx n n hi : Nat) : Int) ∧ (sliceBounds lo hi none n).2.2 = 1 := by
  refine ⟨?_, ?_, rfl⟩
  · cases lo with
    | none => simp [sliceBounds, HT.sIx]
    | some i =>
      simp only [sliceBounds, HT.sIx, Option.getD_none, show (1 : Int) > 0 by decide, if_true]
      by_cases h : i < 0
      · simp only [h, if_true] <;> omega
      · simp only [h, if_false] <;> omega
  · cases hi with
    | none => simp [sliceBounds, HT.sIx]
    | some i =>
      simp only [sliceBounds, HT.sIx, Option.getD_none, show (1 : Int) > 0 by decide, if_true]
      by_cases h : i < 0
      · simp only [h, if_true] <;> omega
      · simp only [h, if_false] <;> omega
theorem slicePick_cut (its : List Value) (lo hi : Option Int) : slicePick its.toArray lo hi none = ((its.drop (HT.sIx its.length 0 lo)).take (HT.sIx its.length its.length hi - HT.sIx its.length 0 lo)).toArray := by
  obtain ⟨h1, h2, h3⟩ := slice_bounds lo hi its.toArray.size
  unfold slicePick
  rw [h1, h2, h3]
  simp only [sliceRange_one, pick_run, List.size_toArray] <;> rfl
noncomputable def rSlL (K : PySem.W.Frag) : V → Option Int → Option Int → Hp → VK → Prop := fun x lo hi H Q => ∃ a xs, x = .ref a ∧ SqL K H a xs ∧ ∀ p, H p = none → Q (.ref p) (upd H p (.lst (cutV xs lo hi)))
theorem sl_list : SlR X (rSlL X.K) := by
  intro pins s σ H x v vl vu lo hi sl Q I rx hs pl pu h
  obtain ⟨a, xs, rfl, hx, q⟩ := h
  cases rx
  obtain ⟨its, r, ht, hz⟩ := I.list hx
  have hlen := r.length
  refine ⟨"list", _, slot_list_getitem.lookup, ht.isList.typeIs, ?_⟩
  refine wpAny_getItem_list_slice ht.isList hs pl pu .none (by simp) ?_ (by rw [List.size_toArray] <;> omega)
  rw [slicePick_cut, ← hlen]
  refine ⟨.ref s.heap.objs.size, _, I.laid (t' := s.toks) (o := .lst (cutV xs lo hi)) (fun b ob q => Heap.get?_push_of_some _ q) (Nat.le_refl _) ?_, rfl, q _ (I.hok.fresh (Nat.le_refl _))⟩
  exact ⟨Nat.le_trans (cutV_length xs lo hi) hz, _, 0, (r.drop (HT.sIx xs.length 0 lo)).take (HT.sIx xs.length xs.length hi - HT.sIx xs.length 0 lo), Heap.get?_push_size _ rfl⟩

theorem call_len_seq : CallR X (.builtin "len") (fun xs H Q => ∃ p ys, xs = [.ref p] ∧ (SqL X.K H p ys ∨ SqT X.K H p ys) ∧ Q (.int ys.length) H) := by
  intro pins s σ H xs us Q I r h
  obtain ⟨p, ys, rfl, hq, q⟩ := h
  obtain ⟨u, rfl, rx⟩ := vals1 r
  cases rx
  have hn := line63
  rcases hq with hq | hq
  · obtain ⟨its, r', pl, hz⟩ := I.list hq
    have hlen := r'.length
    exact Calls.call_len_list pl.isList (by simp only [List.size_toArray] <;> omega) ⟨.int ys.length, H, I.tok _, ⟨s.toks + 1, by rw [List.size_toArray, hlen]⟩, q⟩
  · obtain ⟨its, r', pl, hz⟩ := I.tuple hq
    have hlen := r'.length
    exact len_tuple pl (by simp only [List.size_toArray] <;> omega) ⟨.int ys.length, H, I.tok _, ⟨s.toks + 1, by rw [List.size_toArray, hlen]⟩, q⟩
theorem call_len_str : CallR X (.builtin "len") (fun xs H Q => ∃ z, xs = [.str z] ∧ z.length ≤ sizeLine ∧ Q (.int z.length) H) := by
  intro pins s σ H xs us Q I r h
  obtain ⟨z, rfl, hz, q⟩ := h
  obtain ⟨u, rfl, t, rfl⟩ := vals1 r
  have hn := line63
  exact len_str (by omega) ⟨.int z.length, H, I.tok _, ⟨_, rfl⟩, q⟩
theorem CallR.or {f : Value} {r r' : List V → Hp → VK → Prop} (h : CallR X f r) (h' : CallR X f r') : CallR X f (fun xs H Q => r xs H Q ∨ r' xs H Q) := by
  intro pins s σ H xs us Q I rs q
  rcases q with q | q
  · exact h pins s σ H xs us Q I rs q
  · exact h' pins s σ H xs us Q I rs q
theorem call_list_of : CallR X (.type "list") (fun xs H Q => ∃ p ys, xs = [.ref p] ∧ (SqL X.K H p ys ∨ SqT X.K H p ys) ∧ ∀ l, H l = none → Q (.ref l) (upd H l (.lst ys))) := by
  intro pins s σ H xs us Q I r h
  obtain ⟨p, ys, rfl, hq, q⟩ := h
  obtain ⟨u, rfl, rx⟩ := vals1 r
  cases rx
  have fin : ∀ (its : List Value), Vals ys its → ys.length ≤ sizeLine → ∀ (h' : Heap) (c' : Nat), (∀ b o', s.heap.get? b = some o' → h'.get? b = some o') →
      h'.get? s.heap.objs.size = some { cls := .type "list", dict := none, data := .seq its.toArray c', slots := #[] } → EP X pins σ Q (.ref s.heap.objs.size) { s with heap := h' } := fun its r' hz h' c' kp e =>
    ⟨.ref s.heap.objs.size, _, I.laid (t' := s.toks) kp (Nat.le_refl _) (show ObjOk X.prog X.w _ h' _ (.lst ys) from ⟨hz, its, c', r', e⟩), rfl, q _ (I.hok.fresh (Nat.le_refl _))⟩
  rcases hq with hq | hq
  · obtain ⟨its, r', pl, hz⟩ := I.list hq
    have hlen := r'.length
    obtain ⟨o, ho, hc, n, hd⟩ := pl.isList
    exact call_list_seq p (.inl rfl) ho hc hd (fun h' c' kp e => fin its r' hz h' c' kp e) (by simp only [List.size_toArray] <;> omega)
  · obtain ⟨its, r', pl, hz⟩ := I.tuple hq
    have hlen := r'.length
    obtain ⟨o, ho, hc, n, hd⟩ := pl
    exact call_list_seq p (.inr rfl) ho hc hd (fun h' c' kp e => fin its r' hz h' c' kp e) (by simp only [List.size_toArray] <;> omega)
noncomputable def tyV (K : PySem.W.Frag) (T : String) (x : V) (H : Hp) : Prop := match x with
  | .str _ => T = "str"
  | .int _ => T = "int"
  | .ref p => (T = "list" ∧ ∃ xs, SqL K H p xs) ∨ (T = "tuple" ∧ ∃ o, K.lookup p = some o ∧ o.cls = .type "tuple" ∧ o.dict = none) ∨
      (T = "dict" ∧ ((∃ kvs, H p = some (.dK kvs)) ∨ ∃ kvs, H p = some (.dT kvs))) ∨ (T = "set" ∧ ∃ S n, H p = some (.set S n))
  | _ => False
theorem tyV_is {pins : List (Addr × Obj)} {σ : St} {H : Hp} {s : Shared} {T : String} {x : V} {v : Value} (I : Inv X pins σ H s) (r : RelV x v) (ty : tyV X.K T x H) :
    s.TypeIs v T ∧ ∀ a, v = .ref a → ∃ ob, s.heap.get? a = some ob ∧ ob.dict = none := by
  cases x with
  | str z =>
    obtain ⟨t, rfl⟩ := r
    cases (show T = "str" from ty)
    exact ⟨typeIs_str s z t, fun _ e => nomatch e⟩
  | int i =>
    obtain ⟨t, rfl⟩ := r
    cases (show T = "int" from ty)
    exact ⟨typeIs_int s i t, fun _ e => nomatch e⟩
  | ref p =>
    cases r
    rcases ty with ⟨rfl, xs, hq⟩ | ⟨rfl, o, hk, hc, hd⟩ | ⟨rfl, hk⟩ | ⟨rfl, S, n, hk⟩
    · obtain ⟨its, _, pl, _⟩ := I.list hq
      refine ⟨pl.isList.typeIs, fun a e => ?_⟩
      cases e
      obtain ⟨o, n, e, c, hd, _⟩ := pl
      exact ⟨o, e, hd⟩
    · refine ⟨⟨o, I.kIn p o hk, hc⟩, fun a e => ?_⟩
      cases e
      exact ⟨o, I.kIn _ o hk, hd⟩
    · have z : ∃ o, s.heap.get? p = some o ∧ o.ExactDict := by
        rcases hk with ⟨kvs, hk⟩ | ⟨kvs, hk⟩
        · obtain ⟨_, _, _, _, o, _, _, e, ex, _⟩ := I.hok p _ hk
          exact ⟨o, e, ex⟩
        · obtain ⟨_, _, _, _, o, _, _, e, ex, _⟩ := I.hok p _ hk
          exact ⟨o, e, ex⟩
      obtain ⟨o, e, ex⟩ := z
      refine ⟨⟨o, e, ex.1⟩, fun a e2 => ?_⟩
      cases e2
      exact ⟨o, e, ex.2.1⟩
    · obtain ⟨o, _, _, _, e, ex, _⟩ := I.hok p _ hk
      refine ⟨⟨o, e, ex.1⟩, fun a e2 => ?_⟩
      cases e2
      exact ⟨o, e, ex.2.1⟩
  | _ => exact False.elim ty
noncomputable def tBM (K : PySem.W.Frag) (T : String) (r : V → List V → Hp → VK → Prop) (to : TE) (t : TA) : TE := fun σ H Q => to σ H fun x H1 => tyV K T x H1 ∧ t σ H1 fun xs H2 => r x xs H2 Q
variable {o e : Expr} {es : List Expr} {to : TE} {t : TA} {name : Str} {apos cpos : Pos} {T id : String} {r : V → List V → Hp → VK → Prop}
theorem pe_bm (pa : PlainAttrs T) (slot : Slot T name id) (hty : typeOf (.builtin id) = pure (.type "method_descriptor")) (hm : MtR X id r) (ho : PE X o to) (ha : PA X (e :: es) t)
    (hbase : attributeBase o name X.env (eval o X.env) = eval o X.env := by rfl)
    (hfew : ((backTo cpos (starEach (e :: es) X.env)).all (fun x => !x.1) && (backToKw cpos (keywordEach [] X.env)).all (fun x => x.1.isSome)
      && decide ((e :: es).length + ([] : List Keyword).length + (if ([] : List Keyword).isEmpty then 0 else 1) < 30)) = true := by rfl)
    (hline : (apos.endLine == cpos.line) = true := by rfl) (hs : starEach (e :: es) X.env = (false, eval e X.env) :: starEach es X.env := by rfl) (hplain : (backTo cpos (starEach es X.env)).any (·.1) = false := by rfl) :
    PE X (.Call (.Attribute o name apos) (e :: es) [] cpos) (tBM X.K T r to t) := by
  intro pins s σ H Q I h
  refine wpAny_Call_method_late hbase hfew hline rfl (thn (ho pins s σ H _ I h) fun v s1 ⟨x, H1, I1, r1, ty, q1⟩ => ?_)
  obtain ⟨h1, h2⟩ := tyV_is I1 r1 ty
  refine ⟨T, id, pa, slot, hty, h1, h2, ?_⟩
  have hA := ha cpos pins s1 σ H1 _ I1 q1
  rw [hs] at hA ⊢
  refine Calls.callWith_builtin (by show (false || (backTo cpos (starEach es X.env)).any (·.1)) = false; rw [hplain] <;> rfl) (Calls.evalArgs_plain ?_)
  exact thn hA fun us s2 ⟨vs, H2, I2, r2, q2⟩ => hm pins s2 σ H2 x vs v us Q I2 r1 r2 q2
end
end L2

namespace L2
open PySem PySem.Spec PyProof.Rows

noncomputable def MtM (X : Cx) (id : String) (r : V → List V → Hp → VK → Prop) : Prop :=
  ∀ (pins : List (Addr × Obj)) (s : Shared) (σ : St) (H : Hp) (x : V) (xs : List V) (v : Value) (us : List Value) (Q : VK), Inv X pins σ H s → RelV x v → Vals xs us → r x xs H Q →
    wpAny (model X.prog X.w) X.A (call (.builtin id) (v :: us)) (EP X pins σ Q) X.xe s

theorem Vals.one : ∀ {x : V} {us : List Value}, Vals [x] us → ∃ u, us = [u] ∧ RelV x u
  | _, _, .cons r .nil => ⟨_, rfl, r⟩
theorem Vals.zero : ∀ {us : List Value}, Vals [] us → us = []
  | _, .nil => rfl
theorem Vals.eraseIdx : ∀ {xs : List V} {us : List Value} (i : Nat), Vals xs us → Vals (xs.eraseIdx i) (us.eraseIdx i)
  | _, _, _, .nil => .nil
  | _, _, 0, .cons _ t => t
  | _, _, i + 1, .cons r t => .cons r (Vals.eraseIdx i t)
theorem Vals.rep {xs : List V} {us : List Value} (h : Vals xs us) : ∀ k : Nat, Vals (List.replicate k xs).flatten (List.replicate k us).flatten
  | 0 => .nil
  | k + 1 => by
    rw [List.replicate_succ, List.replicate_succ, List.flatten_cons, List.flatten_cons]
    exact Vals.append h (Vals.rep h k)
section
variable {X : Cx} {pins : List (Addr × Obj)} {σ : St} {H : Hp} {s : Shared} {l b : Addr} {xs ys zs : List V}

theorem Inv.lset {its its' : List Value} {n : Nat} {f : Array Value → Array Value} {t' : Nat} (I : Inv X pins σ H s) (hH : H l = some (.lst xs))
    (e : s.heap.get? l = some { cls := .type "list", data := .seq its.toArray n }) (hf : f its.toArray = its'.toArray) (hv : Vals ys its') (hz : ys.length ≤ sizeLine) :
    Inv X pins σ (upd H l (.lst ys)) { s with heap := s.heap.update l (Obj.mapSeq f), toks := t' } := by
  have q := PySem.IsL.update e f
  rw [hf] at q
  refine I.write (x := l) (e := l) (by rw [hH]; exact trivial) (.inl rfl) (fun b' u hb hu => (Heap.get?_update_other s.heap (Obj.mapSeq f) (Ne.symm hb)).trans hu) ⟨_, q⟩ ?_
  exact ⟨hz, its', _, hv, q⟩
theorem Inv.lnew {its : List Value} {t' : Nat} (I : Inv X pins σ H s) (hv : Vals ys its) (hz : ys.length ≤ sizeLine) :
    Inv X pins σ (upd H s.heap.objs.size (.lst ys)) { s with heap := s.heap.push { cls := .type "list", data := .seq its.toArray }, toks := t' } :=
  I.laid (fun _ _ q => Heap.get?_push_of_some _ q) (Nat.le_refl _) ⟨hz, its, 0, hv, Heap.get?_push_size _ rfl⟩
theorem Inv.fresh (I : Inv X pins σ H s) : H s.heap.objs.size = none := I.hok.fresh (Nat.le_refl _)
theorem Inv.lstM (I : Inv X pins σ H s) (hH : H l = some (.lst xs)) : xs.length ≤ sizeLine ∧ ∃ (its : List Value) (n : Nat), Vals xs its ∧ xs.length = its.length ∧ s.heap.get? l = some { cls := .type "list", data := .seq its.toArray n } := by
  obtain ⟨z, its, n, r, e⟩ := I.hok l _ hH
  exact ⟨z, its, n, r, r.length, e⟩

theorem notLongL {n : Nat} (h : n ≤ sizeLine) : Builtin.List.listTooLong n = false := by
  unfold Builtin.List.listTooLong
  exact decide_eq_false (by omega)
end

section
variable {X : Cx}

noncomputable def rAppend : V → List V → Hp → VK → Prop := fun x vs H Q => ∃ l xs y, x = .ref l ∧ vs = [y] ∧ H l = some (.lst xs) ∧ xs.length < sizeLine ∧ Q .non (upd H l (.lst (xs ++ [y])))
theorem mt_append : MtM X "list.append" rAppend := by
  intro pins s σ H x vs v us Q I rx rv h
  obtain ⟨l, xs, y, rfl, rfl, hH, hz, q⟩ := h
  cases rx
  obtain ⟨u, rfl, ru⟩ := rv.one
  obtain ⟨z, its, n, r, hl, e⟩ := I.lstM hH
  refine call_meets F.slot_list_append ⟨_, e, rfl⟩ F.entry_list_append (F.args_list_append_2 _ _) (PySem.list_append l its.toArray n u (by rw [List.size_toArray]; omega)) ⟨e, ?_⟩
  refine ⟨.non, _, I.lset (its' := its ++ [u]) hH e (by simp) (r.append (.cons ru .nil)) ?_, rfl, q⟩
  rw [List.length_append, List.length_singleton]
  omega

noncomputable def rExtend : V → List V → Hp → VK → Prop := fun x vs H Q => ∃ l b xs zs, x = .ref l ∧ vs = [.ref b] ∧ H l = some (.lst xs) ∧ H b = some (.lst zs) ∧ xs.length + zs.length ≤ sizeLine ∧ Q .non (upd H l (.lst (xs ++ zs)))
theorem mt_extend : MtM X "list.extend" rExtend := by
  intro pins s σ H x vs v us Q I rx rv h
  obtain ⟨l, b, xs, zs, rfl, rfl, hH, hB, hz, q⟩ := h
  cases rx
  obtain ⟨u, rfl, ru⟩ := rv.one
  cases ru
  obtain ⟨z, its, n, r, hl, e⟩ := I.lstM hH
  obtain ⟨z2, its2, n2, r2, hl2, e2⟩ := I.lstM hB
  have hsz : its.toArray.size + its2.toArray.size ≤ sizeLine := by rw [List.size_toArray, List.size_toArray]; omega
  have hlong : ¬ (!its.toArray.isEmpty && Builtin.List.listTooLong (its.toArray.size + its2.toArray.size)) = true := by
    rw [notLongL hsz, Bool.and_false]
    exact Bool.false_ne_true
  refine call_meets F.slot_list_extend ⟨_, e, rfl⟩ F.entry_list_extend (F.args_list_extend_2 _ _)
    (AutoSeq1.list_extend_list_list_0 l its.toArray n b its2.toArray n2 hlong (by rw [List.size_toArray]; omega) (by omega)) ⟨e, e2, ?_⟩
  refine ⟨.non, _, I.lset (its' := its ++ its2) hH e (by simp) (r.append r2) ?_, rfl, q⟩
  rw [List.length_append]
  omega

end

section
variable {prog : Program} {w : World} {A : Around} {E : Value → Shared → Prop} {s : Shared}
end

section
variable {X : Cx}
end
end L2

namespace Att
open PySem PySem.W PySem.Calls PyProof.Rows

theorem ints_of_wellAll {P : Params} {h : Heap} : ∀ (ns : List Int) (vs : List Value), WellAll P h vs (ns.map WData.int) → IntsAre vs ns := by
  intro ns
  induction ns with
  | nil =>
    intro vs w
    rw [List.map_nil] at w
    cases w
    exact .nil
  | cons n ns ih =>
    intro vs w
    rw [List.map_cons] at w
    cases w with
    | cons a b =>
      cases a
      exact .cons _ _ (ih _ b)

theorem script_of {l : OpenLaw} {n : Nat} (hn : l.most = some n) {P : Params} {h : Heap} {args : List WData} {vals : List Value}
    (hpre : l.row.toRowW.claim.pre args = true) (hwl : WellAll P h vals args) :
    ∃ a vs ns, vals = [Value.ref a] ∧ args = [WData.list (ns.map WData.int)] ∧ h.get? a = some { cls := .type "list", data := .seq vs.toArray } ∧ IntsAre vs ns ∧ ns.length ≤ n := by
  have hsh : WShape.hasAll [] args [.list .int] = true := (pre_splitW hpre).1
  have hc : l.pre.holds [] { args := args } = true := (pre_splitW hpre).2
  obtain ⟨d, r, rfl, h1, h2⟩ := hasAllW_cons hsh
  obtain rfl := hasAllW_nil h2
  obtain ⟨xs, rfl, h3⟩ := hasW_list h1
  obtain ⟨ns, rfl⟩ := items_int h3
  have hlen : ns.length ≤ n := by
    unfold OpenLaw.pre at hc
    have h4 : (WTm.not (.lt (.lit (.int (n : Int))) (.len (.arg 0)))).holds [] { args := [.list (ns.map .int)] } = true := by
      have h4 := (holds_andW hc).1
      rw [hn] at h4
      exact h4
    have h5 := condW_of h4 (w_not (w_lt w_lit (w_len_list (w_arg rfl))))
    rw [List.length_map] at h5
    refine Nat.le_of_not_lt fun q => ?_
    have q' : (n : Int) < ((ns.length : Nat) : Int) := by omega
    first
      | (rw [decide_eq_true q'] at h5; exact absurd h5 (by decide))
      | (simp at h5; omega)
  cases hwl with
  | cons w1 w2 =>
    cases w2
    cases w1 with
    | list ho hall => exact ⟨_, _, ns, rfl, rfl, ho, ints_of_wellAll ns _ hall, hlen⟩

theorem post_true (l : OpenLaw) (args : List WData) : l.row.toRowW.claim.post args (.bool true) args = true :=
  postW_of (r := l.row.toRowW) (X := (true == true))
    (show WShape.has [] (.bool true) .bool = true by first | rfl | decide | simp [WShape.has, WShape.arms, WShape.armsAll])
    (show (WTm.eq .res (.lit (.bool true))).value [] { args := args, res := some (.bool true), after := args } = some (.bool (true == true)) from w_eq_bool (w_res rfl) w_lit) rfl

theorem attach_call {l : OpenLaw} {n : Nat} {q : Program} {loose : List Str} {XP : (Str → Option Value) → Heap → Prop} {YP : World → Heap → Prop} {d : DefRec}
    (hn : l.most = some n) (hdf : d.params.defaults = [])
    (call : ∀ (w : World) (s₀ s₁ : Shared) (mg mb : Str → Option Value) (fa : Addr) (o : Obj) (pm cd doc : Value) (a : Addr) (vs : List Value) (ns : List Int),
      Ground q loose [] XP w s₀ mg mb s₁.heap → YP w s₁.heap →
      s₁.heap.get? fa = some o → o.data = .func (docDef d.name d.params d.body d.scope pm cd doc) → s₁.heap.CodeRec cd d.name → mg d.name = some (.ref fa) →
      s₁.heap.get? a = some { cls := .type "list", data := .seq vs.toArray } → IntsAre vs ns → ns.length ≤ n → s₁.gens = #[] →
      codeAny (model l.prog w) callerA (.call (.ref fa) ⟨[.ref a], []⟩) (fun r s' => r = .ok (.ret (.bool true)) ∧ OldK s₁.heap s'.heap ∧ s'.os = s₁.os ∧ AllBare s'.gens) s₁) :
    WalkO q loose XP YP l.row.toRowW d [] (fun f vs => PySem.call f vs) := by
  intro w s₀ s₁ mg mb G Y fa o pm cd doc dV kV ho hd hcd hD hmg hg args vals as hpre hlay hrd hwl hlo
  obtain rfl : dV = .none := Dflts.none hD hdf
  obtain rfl : kV = .none := Dflts.noKw hD
  obtain ⟨a, vs, ns, rfl, rfl, hobj, hints, hlen⟩ := script_of hn hpre hwl
  refine enter_call (codeAny_mono (call w s₀ s₁ mg mb fa o pm cd doc a vs ns G Y ho (fd_plain hd) hcd hmg hobj hints hlen hg) fun r s' hq => ?_)
  obtain ⟨rfl, h2, h3, h4⟩ := hq
  exact ⟨.inl ⟨.bool true, .bool true, [], rfl, fun _ => rfl, .bool true, post_true l _, fun _ => ⟨List.Pairwise.nil, fun _ hm => (nomatch hm)⟩⟩, h2, h3, h4⟩

section
variable {prog : Program} {w : World} {A : Around} {E : Value → Shared → Prop} {s : Shared} {K : Frag}

end
end Att

namespace L2
open PySem PySem.Spec PyProof.Rows

theorem vals_ints : ∀ {vs : List Value} {ns : List Int}, IntsAre vs ns → Vals (ns.map V.int) vs
  | _, _, .nil => .nil
  | _, _, .cons n t h => .cons ⟨t, rfl⟩ (vals_ints h)

noncomputable def Only (H : Hp) : Prop := ∀ b, H b = none ∨ ∃ o xs, H b = some (.frz o (.lst xs))

theorem law_call {P : Program} {w : World} {K : PySem.W.Frag} {mg mb : Str → Option Value} {CX : CXT} {k : Nat} {fa a : Addr} {fd : FuncData} {x : Str} {sp : Sp} {s₁ : Shared} {vs : List Value} {ns : List Int}
    (KX : K.In s₁.heap) (hns : s₁.heap.Ns mainGlobals mg) (hb : s₁.heap.Ns builtinsNs mb) (hbb : ∀ x : Str, x ≠ "__name__" → mb x = bootBuiltins x) (hlim : s₁.heap.NoLimit) (hg : s₁.gens = #[])
    (ha : s₁.heap.get? a = some { cls := .type "list", data := .seq vs.toArray }) (hi : IntsAre vs ns) (hl : ns.length ≤ sizeLine) (hr : Room k callerA)
    (F : ∀ base : Heap, K.In base → base.Ns mainGlobals mg → FnOk P w K mg base CX k fa fd [x] sp) (hbind : ∀ (s : Shared) (u : Value), BindsTo s fd ⟨[u], []⟩ [(x, u)])
    (hsp : ∀ H : Hp, Only H → SqL K H a (ns.map V.int) → sp [.ref a] H (fun v _ => v = .bl true) fun _ _ _ => False)
    (hCX : ∀ H e s', CX [] H s₁ (fun _ _ _ => False) e s' → False) :
    codeAny (model P w) callerA (.call (.ref fa) ⟨[.ref a], []⟩) (fun r s' => r = .ok (.ret (.bool true)) ∧ OldK s₁.heap s'.heap ∧ s'.os = s₁.os ∧ AllBare s'.gens) s₁ := by
  have rv := vals_ints hi
  have lenV := hi.length
  -- from an abstract heap in which nothing but the script may be tracked
  have core : ∀ H : Hp, Only H → SqL K H a (ns.map V.int) → HOk P w H s₁.heap → (∀ b, H b ≠ none → b = a) → (H a ≠ none → K.lookup a = none) →
      codeAny (model P w) callerA (.call (.ref fa) ⟨[.ref a], []⟩) (fun r s' => r = .ok (.ret (.bool true)) ∧ OldK s₁.heap s'.heap ∧ s'.os = s₁.os ∧ AllBare s'.gens) s₁ := by
    intro H hO hS hok hA hK
    have base_of : ∀ {b : Addr} {o : Obj}, s₁.heap.get? b = some o → H b = none → (hidT s₁.heap H).get? b = some o := fun e n => hidT_get e n
    have noA : ∀ {b : Addr} {o : Obj} {es : Array DictEntry} {ep : Nat}, s₁.heap.get? b = some o → o.data = .dict es ep → H b = none := fun {b o es ep} e d => by
      cases q : H b with
      | none => rfl
      | some u =>
        have e' : b = a := hA b (by rw [q]; simp)
        subst e'
        rw [ha] at e; cases e
        have d' : Data.seq vs.toArray _ = Data.dict es ep := d
        cases d'
    have nsK : ∀ {b : Addr} {m : Str → Option Value}, s₁.heap.Ns b m → (hidT s₁.heap H).Ns b m := fun {b m} ⟨o, es, ep, e, d, r⟩ => ⟨o, es, ep, base_of e (noA e d), d, r⟩
    have hKb : K.In (hidT s₁.heap H) := fun b o e => base_of (KX b o e) (by
      cases q : H b with
      | none => rfl
      | some u =>
        have e' : b = a := hA b (by rw [q]; simp)
        subst e'
        rw [hK (by rw [q]; simp)] at e; cases e)
    have hM : Mod K mg (hidT s₁.heap H) := ⟨hKb, nsK hns, ⟨mb, nsK hb, hbb⟩, let ⟨mc, h1, h2⟩ := hlim; ⟨mc, nsK h1, h2⟩⟩
    have e0 : Env0 P w K mg (hidT s₁.heap H) callerA [] s₁ H := ⟨rfl, hM, fun b o e => of_hidT e, Nat.le_of_eq (hidT_size _ _), trivial, fun b hb => absurd (show b ∈ ([] : List Addr) from hb) (by simp), hok, .of_eq hg⟩
    refine codeAny_mono ((F _ hKb (nsK hns)).run callerA [] s₁ H ⟨[.ref a], []⟩ [.ref a] [.ref a] _ _ hr e0 (hbind s₁ (.ref a)) (.cons rfl .nil) (hsp H hO hS)) fun r s' h => ?_
    cases r with
    | error e => exact (hCX H e s' h).elim
    | ok fl =>
      cases fl with
      | next => exact False.elim h
      | brk => exact False.elim h
      | cont => exact False.elim h
      | ret u =>
        obtain ⟨v, H', os, bare, un, hok', r', q⟩ := h
        have q' : v = .bl true := q
        subst q'
        obtain rfl : u = Value.bool true := r'
        refine ⟨rfl, OldK.of_keep fun b o e => ?_, os, bare⟩
        cases q : H b with
        | none => exact un.keep b o e q (by intro z; exact absurd (show b ∈ ([] : List Addr) from z) (by simp)) (by simp)
        | some u =>
          rcases hO b with z | ⟨ob, xs, z⟩
          · rw [q] at z; cases z
          · have z2 := un.frzs b ob _ z
            obtain ⟨e1, _⟩ := hok b _ z
            obtain ⟨e2, _⟩ := hok' b _ z2
            rw [e] at e1; cases e1
            exact e2
  cases hk : K.lookup a with
  | some o =>
    -- the script is one of the module's own objects
    have e := KX a o hk
    rw [ha] at e
    cases e
    refine core (fun _ => none) (fun _ => .inl rfl) (.inr ⟨_, vs.toArray, _, hk, rfl, rfl, rfl, by rw [List.size_toArray, lenV]; exact hl, by simpa using rv⟩) (fun b u z => by have z' : (none : Option HO) = some u := z; cases z') (fun b z => absurd rfl z) fun z => absurd rfl z
  | none =>
    refine core (fun b => if b = a then some (.frz { cls := .type "list", data := .seq vs.toArray } (.lst (ns.map V.int))) else none) (fun b => ?_) (.inl (.inr ⟨{ cls := .type "list", data := .seq vs.toArray }, if_pos rfl⟩)) (fun b u z => ?_) (fun b z => ?_) fun _ => hk
    · by_cases hb : b = a
      · exact .inr ⟨_, _, if_pos hb⟩
      · exact .inl (if_neg hb)
    · by_cases hb : b = a
      · have z' := (if_pos hb).symm.trans z
        cases z'
        subst hb
        exact ⟨ha, by rw [List.length_map]; exact hl, vs, _, rv, ha⟩
      · have z' := (if_neg hb).symm.trans z
        cases z'
    · by_cases hb : b = a
      · exact hb
      · exact absurd (if_neg hb) z
end L2

namespace L2
open PySem PySem.Spec PyProof.Rows

theorem walk_of {l : PySem.W.OpenLaw} {n k : Nat} {q : Program} {loose : List Str} {XP : (Str → Option Value) → Heap → Prop} {YP : World → Heap → Prop} {d : DefRec} {K : Params → PySem.W.Frag} {CX : World → CXT} {sp : World → Sp} {x : Str}
    (hn : l.most = some n) (hn2 : n ≤ sizeLine) (hdf : d.params.defaults = []) (hr : Room k callerA)
    (hY : ∀ (w : World) (h : Heap), YP w h → (K w.params).In h)
    (F : ∀ (w : World) (mg : Str → Option Value) (fa : Addr) (h : Heap), (K w.params).In h → h.Ns mainGlobals mg → mg d.name = some (.ref fa) →
      ∃ fd : FuncData, (∀ (s : Shared) (u : Value), BindsTo s fd ⟨[u], []⟩ [(x, u)]) ∧
        ∀ base : Heap, (K w.params).In base → base.Ns mainGlobals mg → FnOk l.prog w (K w.params) mg base (CX w) k fa fd [x] (sp w))
    (hsp : ∀ (w : World) (H : Hp) (a : Addr) (ns : List Int), ns.length ≤ n → Only H → SqL (K w.params) H a (ns.map V.int) → sp w [.ref a] H (fun v _ => v = .bl true) fun _ _ _ => False)
    (hCX : ∀ (w : World) (H : Hp) (s : Shared) (e : Value) (s' : Shared), CX w [] H s (fun _ _ _ => False) e s' → False) :
    PySem.W.WalkO q loose XP YP l.row.toRowW d [] (fun f vs => PySem.call f vs) := by
  refine Att.attach_call hn hdf fun w s₀ s₁ mg mb fa o pm cd doc a vs ns G Y ho hd hcd hmg hobj hints hlen hg => ?_
  have KX := hY w _ Y
  obtain ⟨fd, hb, hF⟩ := F w mg fa _ KX G.T.g hmg
  exact law_call KX G.T.g G.T.b G.T.builtins G.T.nolimit hg hobj hints (Nat.le_trans hlen hn2) hr hF hb (fun H hO hS => hsp w H a ns hlen hO hS) fun H e s' => hCX w H s₁ e s'
end L2


namespace L2
open PySem PySem.Spec PyProof.Rows

noncomputable def defArgs (s : Stmt) : Arguments := match s with
  | .FunctionDef _ a _ _ _ _ _ _ _ _ => a
  | _ => { posonlyargs := [], args := [], vararg := none, kwonlyargs := [], kw_defaults := [], kwarg := none, defaults := [] }
noncomputable def defBody (s : Stmt) : List Stmt := match s with
  | .FunctionDef _ _ b _ _ _ _ _ _ _ => b
  | _ => []
noncomputable def defScope (s : Stmt) : Scope := match s with
  | .FunctionDef _ _ _ _ _ _ sc _ _ _ => sc
  | _ => { kind := .function, names := [], isGenerator := false, isCoroutine := false }

noncomputable abbrev CX0 : CXT := fun _ _ _ _ _ _ => False
structure Fun (K : PySem.W.Frag) (x qual : Str) (st : Stmt) (f : Addr) (fd : FuncData) : Prop where
  ex : ∃ (oc : Value) (od : Option Addr) (kV doc pm : Value) (an : Option Addr) (cdv ct : Value) (osl : Array (Option Value)),
    fd = PySem.W.fnOf x qual (defArgs st) (defBody st) (defScope st) .none kV doc pm an cdv ct ∧ K.lookup f = some ⟨oc, od, .func fd, osl⟩ ∧ PySem.W.codeIn K cdv qual = true
  kp : PySem.W.keepIn K (.ref f) = true
section
variable {P : Program} {w : World} {K : PySem.W.Frag} {mg : Str → Option Value} {base : Heap}
theorem Fun.ok {x qual : Str} {st : Stmt} {f : Addr} {fd : FuncData} {N ps : List Str} {k : Nat} {sp : Sp} (F : Fun K x qual st f fd) (S : FnScope N ps (defScope st)) (len : ∀ vs H Q E, sp vs H Q E → vs.length = ps.length)
    (hbody : ∀ (cdv : Value) (A : Around) (outer : List Env) (s : Shared) (H : Hp) (vs : List V) (Q : VK) (E : XK), Room k (A.deeper (envOfC qual (defScope st) s.heap.objs.size f cdv)) → sp vs H Q E →
      ∃ t, PSs (cxOf CX0 P w K mg base N qual (defScope st) f cdv A outer s H E).nox (defBody st) t ∧ t { nx := fun _ H' => Q .non H', rt := Q } (start N vs) H) : FnOk P w K mg base CX0 (k + 1) f fd ps sp := by
  obtain ⟨oc, od, kV, doc, pm, an, cdv, ct, osl, rfl, lk, hcd⟩ := F.ex
  refine fn_of lk hcd S len fun A outer s H vs Q E hr hsp => ?_
  obtain ⟨t, h, q⟩ := hbody cdv A outer s H vs Q E hr hsp
  exact ⟨t, h.nox, q⟩
theorem Fun.binds {x qual : Str} {st : Stmt} {f : Addr} {fd : FuncData} {ps : List Str} (F : Fun K x qual st f fd)
    (h : ∀ (kV doc pm : Value) (an : Option Addr) (cdv ct : Value) (us : List Value), us.length = ps.length → bindArgs (PySem.W.fnOf x qual (defArgs st) (defBody st) (defScope st) .none kV doc pm an cdv ct) ⟨us, []⟩ = pure (ps.zip us)) : Binds K fd ps [] := by
  obtain ⟨oc, od, kV, doc, pm, an, cdv, ct, osl, rfl, lk, hcd⟩ := F.ex
  exact .all (h kV doc pm an cdv ct)
theorem fun_mk {x qual : Str} {st : Stmt} {f : Addr} {oc : Value} {od an : Option Addr} {osl : Array (Option Value)} {kV doc pm cdv ct : Value} (l : K.lookup f = some ⟨oc, od, .func (PySem.W.fnOf x qual (defArgs st) (defBody st) (defScope st) .none kV doc pm an cdv ct), osl⟩)
    (c : PySem.W.codeIn K cdv qual = true) (k : PySem.W.keepIn K (.ref f) = true) : Fun K x qual st f (PySem.W.fnOf x qual (defArgs st) (defBody st) (defScope st) .none kV doc pm an cdv ct) := ⟨⟨oc, od, kV, doc, pm, an, cdv, ct, osl, rfl, l, c⟩, k⟩
end
section
variable {X : Cx}
end

theorem ite2 {c A B : Prop} [Decidable c] (h1 : c → A) (h2 : ¬ c → B) : if c then A else B := by
  by_cases h : c
  · rw [if_pos h]
    exact h1 h
  · rw [if_neg h]
    exact h2 h
noncomputable def Same (H H' : Hp) : Prop := ∀ b o, H b = some o → H' b = some o
theorem Same.refl (H : Hp) : Same H H := fun _ _ h => h
theorem Same.trans {H H1 H2 : Hp} (a : Same H H1) (b : Same H1 H2) : Same H H2 := fun c o h => b c o (a c o h)
theorem Same.free {H H' : Hp} (e : Same H H') {l : Addr} (h : H' l = Option.none) : H l = Option.none := by
  cases q : H l with
  | none => rfl
  | some o =>
    rw [e l o q] at h
    cases h
theorem Same.seq {K : PySem.W.Frag} {H H' : Hp} {a : Addr} {xs : List V} (e : Same H H') (h : SqL K H a xs) : SqL K H' a xs := by
  rcases h with (h | ⟨o, h⟩) | h
  · exact .inl (.inl (e _ _ h))
  · exact .inl (.inr ⟨o, e _ _ h⟩)
  · exact .inr h

end L2

end
set_option Elab.async false
set_option linter.all false
set_option maxRecDepth 100000
namespace L2
open PySem PySem.Spec PyProof.Rows
noncomputable def Bits (k : Nat) (x : Int) : Prop := x.natAbs < 2 ^ k
theorem Bits.mono {j k : Nat} {x : Int} (h : Bits j x) (hk : j ≤ k) : Bits k x := Nat.lt_of_lt_of_le h (Nat.pow_le_pow_right (by decide) hk)
theorem Bits.mul {j k : Nat} {x y : Int} (h : Bits j x) (h' : Bits k y) : Bits (j + k) (x * y) := by
  unfold Bits at *
  rw [Int.natAbs_mul, Nat.pow_add]
  exact Nat.mul_lt_mul'' h h'
theorem Bits.neg {k : Nat} {x : Int} (h : Bits k x) : Bits k (-x) := by unfold Bits at *; rw [Int.natAbs_neg]; exact h
theorem Bits.add {k : Nat} {x y : Int} (h : Bits k x) (h' : Bits k y) : Bits (k + 1) (x + y) := by
  unfold Bits at *
  have := Int.natAbs_add_le x y
  rw [Nat.pow_succ]; omega
theorem Bits.sub {k : Nat} {x y : Int} (h : Bits k x) (h' : Bits k y) : Bits (k + 1) (x - y) := by
  have := h.add h'.neg
  rwa [← Int.sub_eq_add_neg] at this
theorem Bits.le {k : Nat} {x y : Int} (h : Bits k x) (hy : y.natAbs ≤ x.natAbs) : Bits k y := Nat.lt_of_le_of_lt hy h
theorem Bits.log2 {k : Nat} {x : Int} (h : Bits k x) (hk : 0 < k) : x.natAbs.log2 < k := by
  rcases Nat.eq_zero_or_pos x.natAbs with h0 | hp
  · rw [h0]; exact hk
  · exact (Nat.log2_lt (Nat.ne_of_gt hp)).mpr h
theorem Bits.bits {k : Nat} {x : Int} (h : Bits k x) : Builtin.Int.intBits x ≤ k := by
  unfold Builtin.Int.intBits
  split
  · exact Nat.zero_le _
  · rename_i hx
    have hx' : x.natAbs ≠ 0 := by
      intro e; apply hx
      rw [Int.natAbs_eq_zero.mp e]; rfl
    exact (Nat.log2_lt hx').mpr h
theorem Bits.mulOk {j k : Nat} {x y : Int} (h : Bits j x) (h' : Bits k y) (hk : j + k ≤ 134217728) : IntMulOk x y := by
  unfold IntMulOk
  have e1 := h.bits
  have e2 := h'.bits
  have e : Builtin.Int.intTooBig ((Builtin.Int.intBits x : Int) + (Builtin.Int.intBits y : Int)) = false := by
    unfold Builtin.Int.intTooBig
    refine decide_eq_false ?_
    have : (bitsLine : Nat) = 134217728 := by unfold bitsLine; decide
    omega
  intro z
  rw [Bool.and_eq_true] at z
  have z2 := z.2
  rw [e] at z2
  cases z2
section
variable {X : Cx}
theorem op_mulB : OpR X (binaryOp .Mult) (rI IntMulOk fun i j => .int (i * j)) := opI fun _ _ _ _ _ _ _ hc q => mul_int q hc
noncomputable def CPowB (i j : Int) : Prop := 0 ≤ j ∧ (Builtin.Int.intBits i : Int) * j ≤ 134217728
theorem op_powB : OpR X (binaryOp .Pow) (rI CPowB fun i j => .int (i ^ j.toNat)) := opI fun i j _ _ _ _ _ hc q => by
  refine pow_int hc.1 ?_ q
  have e : ((2 : Int) ^ 27) = 134217728 := by decide
  rw [e]; exact hc.2
end
end L2
namespace L2
open PySem PySem.Spec PyProof.Rows

theorem ObjOk.got {P : Program} {w : World} {H : Hp} {h : Heap} {a : Addr} {o : HO} (x : ObjOk P w H h a o) : ∃ ob, h.get? a = some ob := by
  cases o with
  | lst xs => obtain ⟨_, _, _, _, e⟩ := x; exact ⟨_, e⟩
  | tup xs => obtain ⟨_, _, _, ob, e, _⟩ := x; exact ⟨_, e⟩
  | dK kvs => obtain ⟨_, _, _, _, o, _, _, e, _⟩ := x; exact ⟨_, e⟩
  | dT kvs => obtain ⟨_, _, _, _, o, _, _, e, _⟩ := x; exact ⟨_, e⟩
  | set S n => obtain ⟨o, _, _, _, e, _⟩ := x; exact ⟨_, e⟩
  | ins C dx fs => obtain ⟨_, _, _, e, _⟩ := x; exact ⟨_, e⟩
  | own y => obtain ⟨_, e⟩ := x; exact ⟨_, e⟩
  | xd fs => obtain ⟨_, ⟨_, _, _, e, _⟩, _⟩ := x; exact ⟨_, e⟩
  | rng lo hi => obtain ⟨_, _, _, e⟩ := x; exact ⟨_, e⟩
  | frz ob u => obtain ⟨e, _⟩ := x; exact ⟨_, e⟩
  | tbl ps => exact ⟨_, (show h.get? a = some _ from x)⟩
  | met f y => exact ⟨_, (show h.get? a = some _ from x)⟩
  | ext φ => obtain ⟨_, ⟨_, e⟩, _⟩ := x; exact ⟨_, e⟩
theorem HOk.through {P : Program} {w : World} {H : Hp} {B h h' : Heap} (x : HOk P w H h) (k : B.StaysIn h) (k' : B.StaysIn h') (t : ∀ b o, H b = some o → ∃ o', B.get? b = some o') : HOk P w H h' := fun a o e =>
  (x a o e).stay (fun b u hb q => by
    have hB : ∃ ob, B.get? b = some ob := by
      rcases hb with z | z
      · exact t b o (z ▸ e)
      · exact t b _ z
    obtain ⟨ob, hob⟩ := hB
    have e1 := k b ob hob
    rw [q] at e1
    cases e1
    exact k' b _ hob) (fun _ q => q) fun _ _ q => q
theorem Un.through {fs : List Addr} {H H' : Hp} {B h h1 h2 : Heap} (un : Un fs [] H H' h h1) (cov : ∀ b o, h.get? b = some o → b ∉ fs → ∃ o', B.get? b = some o') (k : B.StaysIn h1) (k' : B.StaysIn h2)
    (fr : ∀ b ∈ fs, ∀ o, h1.get? b = some o → ∃ sl, h2.get? b = some { o with slots := sl }) : Un fs [] H H' h h2 where
  keep := fun b o q n hb hx => by
    obtain ⟨o', ho⟩ := cov b o q hb
    have e := un.keep b o q n hb hx
    have e1 := k b o' ho
    rw [e] at e1
    cases e1
    exact k' b _ ho
  slot := fun b o q n hb hx => by
    obtain ⟨sl, e⟩ := un.slot b o q n hb hx
    obtain ⟨sl', e'⟩ := fr b hb _ e
    exact ⟨sl', e'⟩
  free := un.free
  there := fun b o q hx => by
    by_cases hb : b ∈ fs
    · obtain ⟨o', e⟩ := un.there b o q hx
      obtain ⟨sl, e'⟩ := fr b hb _ e
      exact ⟨_, e'⟩
    · obtain ⟨o', ho⟩ := cov b o q hb
      exact ⟨o', k' b _ ho⟩
  tups := un.tups
  frzs := un.frzs
  tbls := un.tbls
structure Fly (P : Program) (w : World) (stack : List Env) (H : Hp) (s : Shared) (ea C : Addr) (H' : Hp) (s' : Shared) : Prop where
  os : s'.os = s.os
  bare : AllBare s'.gens
  un : Un (frs stack) [] H H' s.heap s'.heap
  hok : HOk P w H' s'.heap
  fly : ∃ B a0, Heap.FlyingW B stack ea (.ref C) a0 s'.heap ∧ (∀ b o, s.heap.get? b = some o → b ∉ frs stack → ∃ o', B.get? b = some o') ∧ (∀ b o, H' b = some o → ∃ o', B.get? b = some o')
noncomputable def CXR (P : Program) (w : World) : CXT := fun outer H s E e s' => ∃ ea C H', e = .ref ea ∧ Fly P w outer H s ea C H' s' ∧ E (.ref C) none H'
theorem frs_slots {B h h' : Heap} {l : List Env} (fr : h.FunFrames B l) (sm : h.UpToSlots h') : ∀ b ∈ frs l, ∀ o, h.get? b = some o → ∃ sl, h'.get? b = some { o with slots := sl } := fun b hb o ho => by
  obtain ⟨_, o2, ho2, hd⟩ := fr.mem hb
  rw [ho] at ho2
  cases ho2
  exact sm b o ho hd
section
variable {P : Program} {w : World} {K : PySem.W.Frag} {mg : Str → Option Value} {base : Heap} {N : List Str} {qual : Str} {scope : Scope} {f : Addr} {cd : Value} {A : Around} {outer : List Env} {s₀ : Shared} {H₀ : Hp} {E : XK} {CX : CXT}
theorem entry_off {pins : List (Addr × Obj)} {σ : St} {H : Hp} {s : Shared} (I : Inv (cxOf CX P w K mg base N qual scope f cd A outer s₀ H₀ E) pins σ H s) {b : Addr} {o : Obj} (q : s₀.heap.get? b = some o) (hb : b ∉ frs outer) :
    b ∉ frs (cxOf CX P w K mg base N qual scope f cd A outer s₀ H₀ E).stack := fun z => by
  rcases List.mem_cons.mp (I.stkSub b z) with e | e
  · have h1 := Heap.lt_size q
    rw [show b = s₀.heap.objs.size from e] at h1
    exact Nat.lt_irrefl _ h1
  · exact hb e
theorem entry_in {pins : List (Addr × Obj)} {σ : St} {H : Hp} {s : Shared} (I : Inv (cxOf CX P w K mg base N qual scope f cd A outer s₀ H₀ E) pins σ H s) {b : Addr} {o : Obj} (q : s₀.heap.get? b = some o) : ∃ o', s.heap.get? b = some o' :=
  I.base.there b o q (fun z => absurd (show b ∈ ([] : List Addr) from z) (by simp))
theorem passR : Passes (CXR P w) (cxOf (CXR P w) P w K mg base N qual scope f cd A outer s₀ H₀ E) E := by
  intro pins σ H s e s' I h
  obtain ⟨ea, C, H', rfl, F, q⟩ := h
  obtain ⟨B, a0, fl, cov, trk⟩ := F.fly
  have J := I.call' (ch := []) F.os F.un F.hok F.bare (fun b z => absurd z (by simp))
  have cov' : ∀ b o, s₀.heap.get? b = some o → b ∉ frs outer → ∃ o', B.get? b = some o' := fun b o z hb => by
    obtain ⟨o1, h1⟩ := entry_in I z
    exact cov b o1 h1 (entry_off I z hb)
  refine wpAny_leaves_onW (base := B) (outer := outer) (L := s₀.heap.objs.size) I.ok.frames rfl fl fun h' fl' sm => ?_
  have fr := frs_slots (fl.2.2.1).2.2 sm
  exact ⟨ea, C, H', rfl, ⟨J.os, F.bare, J.base.through cov' fl.1 fl'.1 fr, F.hok.through fl.1 fl'.1 trk, B, a0, fl', cov', trk⟩, q⟩
noncomputable def Flies (X : Cx) (E : XK) : Prop := ∀ (pins : List (Addr × Obj)) (σ : St) (H : Hp) (s : Shared) (e C : Addr) (vs : List Value) (h1 : Heap), Inv X pins σ H s → Heap.MadeExcOf s.heap h1 e (.ref C) vs → E (.ref C) none H → X.xe (.ref e) { s with heap := h1 }
theorem fliesR : Flies (cxOf (CXR P w) P w K mg base N qual scope f cd A outer s₀ H₀ E) E := by
  intro pins σ H s e C vs h1 I M q
  have kB : (PySem.W.hideAll s.heap (frs (cxOf (CXR P w) P w K mg base N qual scope f cd A outer s₀ H₀ E).stack)).StaysIn s.heap := fun b o z => PySem.W.of_hideAll _ z
  have trk : ∀ b o, H b = some o → ∃ o', (PySem.W.hideAll s.heap (frs (cxOf (CXR P w) P w K mg base N qual scope f cd A outer s₀ H₀ E).stack)).get? b = some o' := fun b o z => by
    obtain ⟨ob, hob⟩ := (I.hok b o z).got
    exact ⟨ob, PySem.W.hideAll_get _ hob fun hm => by rw [I.stkFree b hm] at z; cases z⟩
  have cov : ∀ b o, s₀.heap.get? b = some o → b ∉ frs outer → ∃ o', (PySem.W.hideAll s.heap (frs (cxOf (CXR P w) P w K mg base N qual scope f cd A outer s₀ H₀ E).stack)).get? b = some o' := fun b o z hb => by
    obtain ⟨o1, h1⟩ := entry_in I z
    exact ⟨o1, PySem.W.hideAll_get _ h1 (entry_off I z hb)⟩
  refine wpAny_leaves_madeW (base := PySem.W.hideAll s.heap (frs (cxOf (CXR P w) P w K mg base N qual scope f cd A outer s₀ H₀ E).stack)) (h := s.heap) (outer := outer) (L := s₀.heap.objs.size) I.ok.frames rfl kB
    (PySem.W.funFrames_hide I.stack fun env he b hb => List.mem_filterMap.mpr ⟨env, he, hb⟩) M fun h' t fl tu bt sm => ?_
  have fr : ∀ b ∈ frs outer, ∀ o, s.heap.get? b = some o → ∃ sl, h'.get? b = some { o with slots := sl } := fun b hb o ho => by
    obtain ⟨_, o2, ho2, hd⟩ := I.funs.mem hb
    rw [ho] at ho2
    cases ho2
    exact sm b o (M.keeps b o ho) hd
  exact ⟨e, C, H, rfl, ⟨I.os, I.bare, I.base.through cov kB fl.1 fr, I.hok.through kB fl.1 trk, _, _, fl, cov, trk⟩, q⟩
end

noncomputable def bmVE : List Value := [.type "ValueError", .type "Exception", .type "BaseException", .type "object"]
theorem exc_obj {K : PySem.W.Frag} {h : Heap} {C : Addr} (X : K.In h) (q : PySem.W.excIn K C bmVE "ValueError.__new__" = true) :
    ∃ bm N nm qn bs hdct sn sub ab col dd k0 k1 k2 k3 k5 mN, h.get? C = some (excClassObj nm qn C N bs bm hdct sn sub ab col dd k0 k1 k2 k3 k5 "ValueError.__new__") ∧ h.Ns N mN ∧ mN "__init__" = none ∧ OwnTail h bmVE bm := by
  unfold PySem.W.excIn at q
  split at q
  · rename_i dd cdx sl ho
    split at q
    · rename_i C' bm k0 k1 k2 k3 n k5 hm hs
      rw [Bool.and_eq_true, Bool.and_eq_true, Bool.and_eq_true, Bool.and_eq_true, Bool.and_eq_true] at q
      obtain ⟨⟨⟨⟨⟨q1, q2⟩, q3⟩, q4⟩, q5⟩, q6⟩ := q
      have e1 : C' = C := beq_iff_eq.mp q1
      have e2 : n = "ValueError.__new__" := beq_iff_eq.mp q2
      have e6 := beq_iff_eq.mp q6
      obtain ⟨nm, bs, mro, ns, qn, hd, sn, sub, ab, col, del⟩ := cdx
      obtain ⟨l⟩ := sl
      dsimp only at hm q3 q5 e6 hs
      have e3 : del = false := by simpa using q3
      subst e1 e2 e3 hm hs
      exact ⟨bm, ns, nm, qn, bs, hd, sn, sub, ab, col, dd, k0, k1, k2, k3, k5, _, X _ _ ho, .of_isNs (PySem.W.isNs_of_in X q5), PySem.W.nsMap_none_of_in X q5 e6, PySem.W.tail_of_in X q4⟩
    · cases q
  · cases q

noncomputable def tRaise (C : Addr) (E : XK) (t : TA) : TS := fun _ σ H => t σ H fun vs H1 => vs.length ≤ sizeLine ∧ E (.ref C) none H1
theorem ps_raise {X : Cx} {x : Str} {C : Addr} {e0 : Expr} {t : TA} {E : XK} {np cpos pos : Pos} (hf : Flies X E) (hc : X.calm = true) (hg : Gl X x) (hm : X.mg x = some (.ref C)) (hx : PySem.W.excIn X.K C bmVE "ValueError.__new__" = true) (ha : PA X [e0] t)
    (hdb : (x == ("__debug__" : Str)) = false := by decide) (hs : starEach [e0] X.env = [(false, eval e0 X.env)] := by rfl) : PS X (.Raise (some (.Call (.Name x np) [e0] [] cpos)) none pos) (tRaise C E t) := by
  intro pins s σ H D I h
  obtain ⟨bm, Nn, nm, q, bs, hdct, sn, sub, ab, col, dd, k0, k1, k2, k3, k5, mN, hC, hN, hni, T⟩ := exc_obj I.ok.mod.kin hx
  refine wpAny_Raise_call_subT (C := C) (nm := nm) (q := q) (N := Nn) (bs := bs) (bm := bm) (hdct := hdct) (sn := sn) (sub := sub) (ab := ab) (col := col) (dd := dd) (k0 := k0) (k1 := k1) (k2 := k2) (k3 := k3) (k5 := k5)
    PySem.F.excBase_ValueError (mN := mN) (T.hasType rfl) (I.ok.hd hc) (by rw [hs]; rfl) hni (ld_glob I hg hm ⟨rfl, ?_⟩ hdb)
  have h1 := ha cpos pins s σ H _ I h
  rw [hs] at h1 ⊢
  refine Calls.evalArgs_plain (wpAny_mono h1 (fun us s2 z => ?_) fun _ _ z => z)
  obtain ⟨vs, H1, I1, r, z, qE⟩ := z
  exact ⟨rfl, by show us.length ≤ sizeLine; rw [← r.length]; exact z, I1.bk _ _ hC, hN.keeps I1.bk, T.keeps I1.bk, fun h' e M => hf pins σ H1 s2 e C us h' I1 M qE⟩

theorem Fun.okR {P : Program} {w : World} {K : PySem.W.Frag} {mg : Str → Option Value} {base : Heap} {x qual : Str} {st : Stmt} {f : Addr} {fd : FuncData} {N ps : List Str} {k : Nat} {sp : Sp} (F : Fun K x qual st f fd) (S : FnScope N ps (defScope st)) (len : ∀ vs H Q E, sp vs H Q E → vs.length = ps.length)
    (hbody : ∀ (cdv : Value) (A : Around) (outer : List Env) (s : Shared) (H : Hp) (vs : List V) (Q : VK) (E : XK), Room k (A.deeper (envOfC qual (defScope st) s.heap.objs.size f cdv)) → sp vs H Q E →
      ∃ t, PSs (cxOf (CXR P w) P w K mg base N qual (defScope st) f cdv A outer s H E) (defBody st) t ∧ t { nx := fun _ H' => Q .non H', rt := Q } (start N vs) H) : FnOk P w K mg base (CXR P w) (k + 1) f fd ps sp := by
  obtain ⟨oc, od, kV, doc, pm, an, cdv, ct, osl, rfl, lk, hcd⟩ := F.ex
  exact fn_of lk hcd S len fun A outer s H vs Q E hr hsp => hbody cdv A outer s H vs Q E hr hsp

noncomputable abbrev TX := Ends → (Addr → Hp → Prop) → St → Hp → Prop
noncomputable def XE (X : Cx) (pins : List (Addr × Obj)) (σ : St) (E : Addr → Hp → Prop) (e : Value) (s' : Shared) : Prop :=
  ∃ ea C H1 s1 H', e = .ref ea ∧ Inv X pins σ H1 s1 ∧ Fly X.prog X.w X.stack H1 s1 ea C H' s' ∧ E C H'
noncomputable def PX (X : Cx) (st : List Stmt) (t : TX) : Prop :=
  ∀ (pins : List (Addr × Obj)) (s : Shared) (σ : St) (H : Hp) (D : Ends) (E : Addr → Hp → Prop), Inv X pins σ H s → t D E σ H → wpAny (model X.prog X.w) X.A (execs st X.env) (SP X pins D) (XE X pins σ E) s
theorem PA.nox {X : Cx} {es : List Expr} {t : TA} (h : PA X.nox es t) (pos : Pos) {pins : List (Addr × Obj)} {s : Shared} {σ : St} {H : Hp} {Q : List V → Hp → Prop} {E : Value → Shared → Prop} (I : Inv X pins σ H s) (q : t σ H Q) :
    wpAny (model X.prog X.w) X.A (spliced (backTo pos (starEach es X.env))) (AP X pins σ Q) E s :=
  wpAny_mono (h pos pins s σ H Q (I.wish _) q) (fun us s1 ⟨vs, H1, I1, r, q1⟩ => ⟨vs, H1, I1.unwish, r, q1⟩) fun _ _ z => z.elim
noncomputable def excO (ea C : Addr) : HO := .ext fun h => ∃ o vs, h.get? ea = some o ∧ o.cls = .ref C ∧ o.data = .fields vs
noncomputable abbrev Cx.inExc (X : Cx) (ea : Addr) : Cx := { X with A := X.A.mark (some (.ref ea)), calm := false, xe := fun _ _ => False }
section
variable {X : Cx} {pins : List (Addr × Obj)} {σ : St} {H : Hp} {s : Shared}
theorem Inv.exc (I : Inv X pins σ H s) (ea : Addr) : Inv (X.inExc ea) pins σ H s :=
  ⟨⟨I.ok.mod, I.ok.kind, I.ok.glob, I.ok.blt, I.ok.above, I.ok.inj, I.ok.has, I.ok.cab, (fun z => absurd z Bool.false_ne_true), I.ok.frames, I.ok.stk, I.ok.exf, I.ok.bs, I.ok.bsz, I.ok.noex, I.ok.exfs, I.ok.funs, I.ok.frf⟩,
    I.os, I.bare, I.base, I.loc, I.cell, I.free, I.freeC, I.pin, I.hok, I.len⟩
end
theorem HOk.track {P : Program} {w : World} {H : Hp} {h : Heap} {a : Addr} {o : HO} (x : HOk P w H h) (hn : H a = none) (new : ObjOk P w (upd H a o) h a o) : HOk P w (upd H a o) h := fun b u e => by
  by_cases hb : b = a
  · subst hb; rw [upd_same] at e; cases e; exact new
  · rw [upd_ne hb] at e
    exact (x b u e).stay (fun c v _ q => q) (fun c q => by rw [upd_ne (ne_of_none q hn)]; exact q) fun c xs q => by rw [upd_ne (ne_of_none q hn)]; exact q
end L2
namespace L2
open PySem PySem.Spec PyProof.Rows
theorem bo_bool : bootBuiltins "bool" = some (.type "bool") := by decide +kernel
theorem bo_list : bootBuiltins "list" = some (.type "list") := by decide +kernel
theorem bo_zip : bootBuiltins "zip" = some (.type "zip") := by decide +kernel
theorem bo_isinstance : bootBuiltins "isinstance" = some (.builtin "isinstance") := by decide +kernel
theorem bo_len : bootBuiltins "len" = some (.builtin "len") := by decide +kernel
theorem bo_abs : bootBuiltins "abs" = some (.builtin "abs") := by decide +kernel
theorem bo_max : bootBuiltins "max" = some (.builtin "max") := by decide +kernel
theorem bo_min : bootBuiltins "min" = some (.builtin "min") := by decide +kernel
theorem bo_sum : bootBuiltins "sum" = some (.builtin "sum") := by decide +kernel
section
variable {prog : Program} {w : World} {A : Around} {E : Value → Shared → Prop} {s : Shared} {K : PySem.W.Frag} {ea C : Addr}
end
section
variable {X : Cx}
noncomputable def isB (t n : String) : Option Bool :=
  if t = "int" ∧ n = "int" then some true else if t = "int" ∧ n = "bool" then some false else if t = "tuple" ∧ n = "tuple" then some true else if t = "list" ∧ n = "list" then some true
  else if t = "str" ∧ n = "str" then some true else if t = "bool" ∧ n = "bool" then some true else none
theorem kit_of_isB {K : PySem.W.Frag} {t n : String} {b : Bool} (h : isB t n = some b) : PySem.W.kitOne K (.type t) (.type n) = some b := by
  unfold isB at h
  split at h
  · rename_i e; obtain ⟨rfl, rfl⟩ := e; cases h; rfl
  split at h
  · rename_i e; obtain ⟨rfl, rfl⟩ := e; cases h; rfl
  split at h
  · rename_i e; obtain ⟨rfl, rfl⟩ := e; cases h; rfl
  split at h
  · rename_i e; obtain ⟨rfl, rfl⟩ := e; cases h; rfl
  split at h
  · rename_i e; obtain ⟨rfl, rfl⟩ := e; cases h; rfl
  split at h
  · rename_i e; obtain ⟨rfl, rfl⟩ := e; cases h; rfl
  cases h
end
end L2
namespace L2
open PySem PySem.Spec PyProof.Rows
mutual
inductive RdV (K : PySem.W.Frag) (H : Hp) : V → PyData → Prop
  | non : RdV K H .non .none
  | bl (b) : RdV K H (.bl b) (.bool b)
  | int (i) : RdV K H (.int i) (.int i)
  | str (x) : RdV K H (.str x) (.str x)
  | lst {a xs ds} : SqL K H a xs → RdVs K H xs ds → RdV K H (.ref a) (.list ds)
  | tup {a xs ds} : SqT K H a xs → RdVs K H xs ds → RdV K H (.ref a) (.tuple ds)
inductive RdVs (K : PySem.W.Frag) (H : Hp) : List V → List PyData → Prop
  | nil : RdVs K H [] []
  | cons {x xs d ds} : RdV K H x d → RdVs K H xs ds → RdVs K H (x :: xs) (d :: ds)
end
section
variable {X : Cx} {pins : List (Addr × Obj)} {σ : St} {H : Hp} {s : Shared}
mutual
theorem RdV.reads (I : Inv X pins σ H s) : ∀ {x : V} {d : PyData} {u : Value}, RdV X.K H x d → RelV x u → ∃ as, Reads s.heap u d as
  | _, _, _, .non, r => by cases r; exact ⟨_, .none⟩
  | _, _, _, .bl b, r => by cases r; exact ⟨_, .bool b⟩
  | _, _, _, .int i, r => by obtain ⟨t, rfl⟩ := r; exact ⟨_, .int i t⟩
  | _, _, _, .str x, r => by obtain ⟨t, rfl⟩ := r; exact ⟨_, .str x t⟩
  | _, _, _, .lst hq hs, r => by
    cases r
    obtain ⟨its, rv, ⟨o, n, ho, hc, _, hd⟩, _⟩ := I.list hq
    obtain ⟨as, q⟩ := RdVs.reads I hs rv
    exact ⟨_, .list ho hc hd q⟩
  | _, _, _, .tup hq hs, r => by
    cases r
    obtain ⟨its, rv, ⟨o, ho, hc, n, hd⟩, _⟩ := I.tuple hq
    obtain ⟨as, q⟩ := RdVs.reads I hs rv
    exact ⟨_, .tuple ho hc hd q⟩
theorem RdVs.reads (I : Inv X pins σ H s) : ∀ {xs : List V} {ds : List PyData} {us : List Value}, RdVs X.K H xs ds → Vals xs us → ∃ as, ReadsAll s.heap us ds as
  | _, _, _, .nil, .nil => ⟨_, .nil⟩
  | _, _, _, .cons h hs, .cons r t => by
    obtain ⟨as, q⟩ := RdV.reads I h r
    obtain ⟨bs, p⟩ := RdVs.reads I hs t
    exact ⟨_, .cons q p⟩
end
end
section
variable {X : Cx}
noncomputable def rEqD (K : PySem.W.Frag) : R2 := fun x y H Q => ∃ d e, RdV K H x d ∧ RdV K H y e ∧ SeqAt.shaped d = true ∧ SeqAt.shaped e = true ∧ Q (.bl (PyData.eqv d e)) H
noncomputable def rNeD (K : PySem.W.Frag) : R2 := fun x y H Q => ∃ d e, RdV K H x d ∧ RdV K H y e ∧ SeqAt.shaped d = true ∧ SeqAt.shaped e = true ∧ Q (.bl (!PyData.eqv d e)) H
theorem op_eqD (hu : X.A.units + 64 < cLine) : OpR X (compareOp .Eq) (rEqD X.K) := by
  intro pins s σ H x y v u Q I rx ry h
  obtain ⟨d, e, h1, h2, s1, s2, q⟩ := h
  obtain ⟨as, r1⟩ := h1.reads I rx
  obtain ⟨bs, r2⟩ := h2.reads I ry
  exact eq_dataH r1 r2 s1 s2 hu ⟨.bl _, H, I, rfl, q⟩
theorem op_neD (hu : X.A.units + 64 < cLine) : OpR X (compareOp .NotEq) (rNeD X.K) := by
  intro pins s σ H x y v u Q I rx ry h
  obtain ⟨d, e, h1, h2, s1, s2, q⟩ := h
  obtain ⟨as, r1⟩ := h1.reads I rx
  obtain ⟨bs, r2⟩ := h2.reads I ry
  exact ne_dataH r1 r2 s1 s2 hu ⟨.bl _, H, I, rfl, q⟩
noncomputable def CDivP (_ j : Int) : Prop := 0 < j ∧ Bits 9000 j
theorem op_fdivP : OpR X (binaryOp .FloorDiv) (rI CDivP fun i j => .int (i / j)) := opI fun i j _ _ _ _ _ hc q =>
  floordiv_int (by have := hc.1; omega) (by rw [Int.fdiv_eq_ediv_of_nonneg i (by have := hc.1; omega)]; exact q) (.inl (PyProof.noPylong_of_log2 (hc.2.log2 (by decide))))
end

noncomputable def Df (P : Program) (w : World) (K : PySem.W.Frag) (mg : Str → Option Value) (base : Heap) (k : Nat) (x : Str) (ps : List Str) (sp : Sp) : Prop :=
  ∃ f fd, FnOk P w K mg base (CXR P w) k f fd ps sp ∧ Binds K fd ps [] ∧ PySem.W.keepIn K (.ref f) = true ∧ mg x = some (.ref f)
section
variable {X : Cx} {k : Nat} {ps : List Str} {sp : Sp} {x : Str} {p pos pos' : Pos} {e : Expr} {es : List Expr} {t : TA} {E : XK}
theorem pe_df (G : Df X.prog X.w X.K X.mg X.base k x ps sp) (hr : Room k X.A) (hg : Gl X x) (hx : Passes (CXR X.prog X.w) X E) (ha : PA X (e :: es) t) (hdb : (x == ("__debug__" : Str)) = false := by decide)
    (he : starEach (e :: es) X.env = (false, eval e X.env) :: starEach es X.env := by rfl) (hpl : (backTo pos (starEach es X.env)).any (·.1) = false := by rfl) : PE X (.Call (.Name x p) (e :: es) [] pos) (tCall sp [] E t) := by
  obtain ⟨f, fd, F, hb, hk, hm⟩ := G
  exact pe_call F hr hg hm hk hb .nil hx ha hdb he hpl
end
end L2
namespace L2
open PySem PySem.Spec PyProof.Rows
section
variable {X : Cx} {o e : Expr} {to : TE} {t : TA} {apos pos : Pos}
theorem pe_append (ho : PE X o to) (ha : PA X [e] t) (hb : attributeBase o "append" X.env (eval o X.env) = eval o X.env := by rfl)
    (hf : ((backTo pos (starEach [e] X.env)).all (fun x => !x.1) && (backToKw pos (keywordEach [] X.env)).all (fun x => x.1.isSome) && decide ([e].length + ([] : List Keyword).length + (if ([] : List Keyword).isEmpty then 0 else 1) < 30)) = true := by rfl)
    (hl : (apos.endLine == pos.line) = true := by rfl) (hs : starEach [e] X.env = (false, eval e X.env) :: starEach [] X.env := by rfl) (hp : (backTo pos (starEach [] X.env)).any (·.1) = false := by rfl) :
    PE X (.Call (.Attribute o "append" apos) [e] [] pos) (tBM X.K "list" rAppend to t) :=
  pe_bm PySem.F.plainAttrs_list PySem.F.slot_list_append PySem.F.type_list_append mt_append ho ha hb hf hl hs hp
theorem tyV_lst {K : PySem.W.Frag} {H : Hp} {p : Addr} {xs : List V} (h : H p = some (.lst xs)) : tyV K "list" (.ref p) H := .inl ⟨rfl, _, SqL.of h⟩
end
end L2
namespace L2
open PySem PySem.Spec PyProof.Rows
section
variable {ta : TA} {tl : TE} {g : TG} {tb : TS} {D : Ends} {σ : St} {H : Hp} {K : PySem.W.Frag}
end
theorem same_new {H : Hp} {p : Addr} (h : H p = none) (o : HO) : Same H (upd H p o) := fun b u q => by rw [upd_ne (ne_of_none q h)]; exact q
theorem Same.tup {K : PySem.W.Frag} {H H' : Hp} {a : Addr} {xs : List V} (e : Same H H') (h : SqT K H a xs) : SqT K H' a xs := by
  rcases h with (h | ⟨o, h⟩) | h
  · exact .inl (.inl (e _ _ h))
  · exact .inl (.inr ⟨o, e _ _ h⟩)
  · exact .inr h
end L2
namespace L2
open PySem PySem.Spec PyProof.Rows
section
variable {X : Cx}
end
theorem atI0 {α : Type} {x : α} {xs : List α} : atI (x :: xs) 0 = some x := atI_nat (j := 0) rfl
theorem atI1 {α : Type} {x y : α} {xs : List α} : atI (x :: y :: xs) 1 = some y := atI_nat (j := 1) rfl
end L2
section
open PySem PySem.Spec PyProof.Rows L2
namespace L2
end L2
namespace L2
theorem Bits.emod {k : Nat} {m : Int} (hm : Bits k m) (h0 : 0 < m) (x : Int) : Bits k (x % m) := hm.le (by
  have h1 := Int.emod_nonneg x (by omega : m ≠ 0)
  have h2 := Int.emod_lt_of_pos x h0
  omega)
theorem Bits.lit {x : Int} (k : Nat) (h : x.natAbs < 2 ^ 64 := by decide) (hk : 64 ≤ k := by decide) : Bits k x := Bits.mono (j := 64) h hk
theorem divP {i j : Int} (h0 : 0 < j := by decide) (h : j.natAbs < 2 ^ 64 := by decide) : CDivP i j := ⟨h0, Bits.lit _ h (by decide)⟩
theorem powB {i j : Int} {k : Nat} (h : Bits k i) (h0 : 0 ≤ j) (hk : k * j.toNat ≤ 134217728) : CPowB i j := ⟨h0, by
  have e1 := h.bits
  have e2 : (Builtin.Int.intBits i : Int) * j ≤ (k : Int) * j := Int.mul_le_mul_of_nonneg_right (by omega) h0
  have e3 : (k : Int) * j = ((k * j.toNat : Nat) : Int) := by rw [Int.natCast_mul]; congr 1; omega
  omega⟩
end L2

end
namespace L2
open PySem PySem.Spec PyProof.Rows

noncomputable def compChk (osc scope : Scope) (tn fn : List Str) : Bool :=
  decide (scope.kind = .function) && scope.names.all (fun x => !decide (x.2 = .local) || decide (scope.names.lookup x.1 = some .local)) &&
  scope.names.all (fun x => !decide (x.2 = .cell) || decide (scope.names.lookup x.1 = some .cell)) &&
  scope.names.all (fun x => !decide (x.2 = .free) || decide (osc.names.lookup x.1 = some .cell) || decide (osc.names.lookup x.1 = some .free)) &&
  tn.all (fun x => decide (scope.names.lookup x = some .local) || decide (scope.names.lookup x = some .cell)) &&
  fn.all (fun x => decide (scope.names.lookup x = some .free)) && decide ((tn ++ fn).Nodup)
structure CompSc (osc scope : Scope) (tn fn : List Str) : Prop where
  kind : scope.kind = .function
  loc : ∀ x ∈ scope.names, x.2 = .local → scope.names.lookup x.1 = some .local
  cell : ∀ x ∈ scope.names, x.2 = .cell → scope.names.lookup x.1 = some .cell
  free : ∀ x ∈ scope.names, x.2 = .free → osc.names.lookup x.1 = some .cell ∨ osc.names.lookup x.1 = some .free
  frees : ∀ x ∈ fn, scope.names.lookup x = some .free
  nd : (tn ++ fn).Nodup
theorem compSc {osc scope : Scope} {tn fn : List Str} (h : compChk osc scope tn fn = true) : CompSc osc scope tn fn := by
  unfold compChk at h
  simp only [Bool.and_eq_true, decide_eq_true_eq, List.all_eq_true, Bool.or_eq_true, Bool.not_eq_true', decide_eq_false_iff_not] at h
  obtain ⟨⟨⟨⟨⟨⟨h1, h2⟩, h3⟩, h4⟩, h5⟩, h6⟩, h7⟩ := h
  refine ⟨h1, fun x hx e => (h2 x hx).resolve_left (fun n => n e), fun x hx e => (h3 x hx).resolve_left (fun n => n e), fun x hx e => ?_, h6, h7⟩
  rcases h4 x hx with (n | q) | q
  · exact absurd e n
  · exact .inl q
  · exact .inr q
theorem relabel_lookup (env : Env) : ∀ (names : List (Str × NameKind)) (x : Str),
    (names.map fun (n, k) => if (k == NameKind.free && env.scope.kind == .function && env.kindOf n == some .cell) then (n, NameKind.cell) else (n, k)).lookup x =
      (names.lookup x).map fun k => if (k == NameKind.free && env.scope.kind == .function && env.kindOf x == some .cell) then NameKind.cell else k
  | [], x => rfl
  | (n, k) :: r, x => by
    have ih := relabel_lookup env r x
    rw [List.map_cons]
    by_cases hx : x = n
    · subst hx
      show List.lookup x ((if (k == NameKind.free && env.scope.kind == .function && env.kindOf x == some .cell) = true then (x, NameKind.cell) else (x, k)) :: _) = _
      split
      · rename_i hc; rw [List.lookup_cons, List.lookup_cons]; simp only [beq_self_eq_true, Option.map_some, if_pos hc]
      · rename_i hc; rw [List.lookup_cons, List.lookup_cons]; simp only [beq_self_eq_true, Option.map_some, if_neg hc]
    · have hb : (x == n) = false := beq_eq_false_iff_ne.mpr hx
      show List.lookup x ((if (k == NameKind.free && env.scope.kind == .function && env.kindOf n == some .cell) = true then (n, NameKind.cell) else (n, k)) :: _) = _
      split
      · simp only [List.lookup_cons, hb]; exact ih
      · simp only [List.lookup_cons, hb]; exact ih
theorem relabel_kind {scope : Scope} {env : Env} {x : Str} {k : NameKind} (h : (relabel scope env).names.lookup x = some k) : ∃ k', scope.names.lookup x = some k' ∧ (k' = k ∨ (k' = .free ∧ k = .cell)) := by
  have e := relabel_lookup env scope.names x
  have h' : (scope.names.map fun (n, k) => if (k == NameKind.free && env.scope.kind == .function && env.kindOf n == some .cell) then (n, NameKind.cell) else (n, k)).lookup x = some k := h
  rw [h'] at e
  cases q : scope.names.lookup x with
  | none => rw [q] at e; cases e
  | some k' =>
    rw [q] at e
    have e' := Option.some.inj e
    refine ⟨k', rfl, ?_⟩
    dsimp only at e'
    split at e'
    · rename_i hc
      simp only [Bool.and_eq_true, beq_iff_eq] at hc
      exact .inr ⟨hc.1.1, e'⟩
    · exact .inl e'.symm
theorem relabel_free {scope : Scope} {env : Env} {x : Str} (h : scope.names.lookup x = some .free) : (relabel scope env).names.lookup x = some .cell ∨ (relabel scope env).names.lookup x = some .free := by
  have e := relabel_lookup env scope.names x
  rw [h] at e
  have e' : (relabel scope env).names.lookup x = some _ := e
  rw [e']
  by_cases c : (NameKind.free == NameKind.free && env.scope.kind == .function && env.kindOf x == some .cell) = true
  · left; simp only [Option.some.injEq]; rw [if_pos c]
  · right; simp only [Option.some.injEq]; rw [if_neg c]
theorem cellsFrom_app : ∀ (names : List (Str × NameKind)) (n : Nat) (acc : List (Str × Addr)), cellsFrom n names acc = cellsFrom n names [] ++ acc
  | [], _, acc => rfl
  | (x, k) :: r, n, acc => by
    unfold cellsFrom
    split
    · rw [cellsFrom_app r (n + 1) ((x, n) :: acc), cellsFrom_app r (n + 1) [(x, n)], List.append_assoc]; rfl
    · exact cellsFrom_app r n acc
theorem cellsFrom_mem : ∀ (names : List (Str × NameKind)) (n : Nat) (x : Str) (c : Addr), (x, c) ∈ cellsFrom n names [] → (x, NameKind.cell) ∈ names
  | [], _, _, _, h => by cases h
  | (y, k) :: r, n, x, c, h => by
    unfold cellsFrom at h
    split at h
    · rename_i hk
      rw [cellsFrom_app] at h
      rcases List.mem_append.mp h with q | q
      · exact List.mem_cons_of_mem _ (cellsFrom_mem r _ x c q)
      · cases List.mem_singleton.mp q
        have : k = .cell := by simpa using hk
        subst this
        exact List.mem_cons_self
    · exact List.mem_cons_of_mem _ (cellsFrom_mem r _ x c h)
theorem clos_ok {env : Env} {scope : Scope} (h : ∀ x ∈ scope.names, x.2 = .free → ∃ c, env.cells.lookup x.1 = some c) :
    ∃ cl, closureFor scope env = pure cl ∧ (∀ x c, cl.lookup x = some c → env.cells.lookup x = some c) ∧ ∀ x, (x, NameKind.free) ∈ scope.names → ∃ c, cl.lookup x = some c := by
  have key : ∀ (f : Str × NameKind → List (Str × Addr) → Sem (ForInStep (List (Str × Addr)))), (∀ n k cs, f (n, k) cs = if k == .free then (do let a ← cellOf env n; pure (ForInStep.yield ((n, a) :: cs))) else pure (ForInStep.yield cs)) →
      ∀ (names : List (Str × NameKind)) (acc : List (Str × Addr)), (∀ x ∈ names, x.2 = .free → ∃ c, env.cells.lookup x.1 = some c) → (∀ x c, acc.lookup x = some c → env.cells.lookup x = some c) →
      ∃ cl, (forIn names acc f : Sem (List (Str × Addr))) = pure cl ∧ (∀ x c, cl.lookup x = some c → env.cells.lookup x = some c) ∧
        (∀ x, (x, NameKind.free) ∈ names → ∃ c, cl.lookup x = some c) ∧ ∀ x, (∃ c, acc.lookup x = some c) → ∃ c, cl.lookup x = some c := by
    intro f hf names
    induction names with
    | nil => intro acc _ ha; exact ⟨acc, rfl, ha, fun x hx => (by cases hx), fun x q => q⟩
    | cons y r ih =>
      intro acc hn ha
      obtain ⟨n, k⟩ := y
      by_cases hk : k = .free
      · subst hk
        obtain ⟨c, hc⟩ := hn (n, .free) List.mem_cons_self rfl
        have hc' : env.cells.lookup n = some c := hc
        obtain ⟨cl, e1, e2, e3, e4⟩ := ih ((n, c) :: acc) (fun x hx => hn x (List.mem_cons_of_mem _ hx)) (fun x c' q => by
          rw [List.lookup_cons] at q
          by_cases hx : x = n
          · subst hx; simp at q; subst q; exact hc'
          · rw [beq_eq_false_iff_ne.mpr hx] at q; exact ha x c' q)
        refine ⟨cl, ?_, e2, fun x hx => ?_, fun x q => e4 x ?_⟩
        · rw [List.forIn_cons, hf]
          have ec : cellOf env n = pure c := by unfold cellOf; rw [hc']
          simp only [beq_self_eq_true, if_true, ec]
          exact e1
        · rcases List.mem_cons.mp hx with e | e
          · cases e; exact e4 n ⟨c, by simp [List.lookup_cons]⟩
          · exact e3 x e
        · obtain ⟨c', q⟩ := q
          by_cases hx : x = n
          · subst hx; exact ⟨c, by simp [List.lookup_cons]⟩
          · exact ⟨c', by rw [List.lookup_cons, beq_eq_false_iff_ne.mpr hx]; exact q⟩
      · obtain ⟨cl, e1, e2, e3, e4⟩ := ih acc (fun x hx => hn x (List.mem_cons_of_mem _ hx)) ha
        refine ⟨cl, ?_, e2, fun x hx => ?_, e4⟩
        · rw [List.forIn_cons, hf]
          have : (k == NameKind.free) = false := by simpa using hk
          simp only [this, Bool.false_eq_true, if_false]
          exact e1
        · rcases List.mem_cons.mp hx with e | e
          · cases e; exact absurd rfl hk
          · exact e3 x e
  unfold closureFor
  obtain ⟨cl, e1, e2, e3, _⟩ := key (fun x r => match x with | (name, kind) => if kind == .free then (do let a ← cellOf env name; pure (ForInStep.yield ((name, a) :: r))) else pure (ForInStep.yield r)) (fun _ _ _ => rfl) scope.names [] h (fun x c q => by cases q)
  refine ⟨cl, ?_, e2, e3⟩
  have e : ∀ (x : Sem (List (Str × Addr))), x = pure cl → (x >>= fun r => pure r) = pure cl := fun x q => by rw [q]; rfl
  exact e _ e1

noncomputable def compEnvN (scope : Scope) (C : Addr) (cells : List (Str × Addr)) (env : Env) : Env :=
  { scope := relabel scope env, locals := C, globals := env.globals, cells := cells, qual := env.qual, func := none, code := env.code, frame := env.frame, builtins := env.builtins }
noncomputable def Cx.comp (X : Cx) (scope : Scope) (N : List Str) (s : Shared) (H : Hp) (fp : List Addr) (cl : List (Str × Addr)) : Cx where
  prog := X.prog
  w := X.w
  K := X.K
  mg := X.mg
  base := X.base
  A := X.A
  N := N
  s₀ := s
  H₀ := H
  env := compEnvN scope s.heap.objs.size (cellsFrom (s.heap.objs.size + 1) scope.names cl) X.env
  outer := X.stack
  stack := X.stack
  ex := fp
  fn := fun x => decide (scope.names.lookup x = some .cell)
  calm := X.calm
  pn := []
  xe := fun _ _ => False
noncomputable def cst (n : Nat) (js : List Nat) (σ : St) : St := List.replicate n none ++ js.map fun j => (σ[j]?).join
theorem comp_start {X : Cx} {pins : List (Addr × Obj)} {σ : St} {H : Hp} {s : Shared} {scope : Scope} {tn fn : List Str} {js : List Nat} {fp : List Addr} {cl : List (Str × Addr)} (I : Inv X pins σ H s) (S : CompSc X.env.scope scope tn fn)
    (hj : js.map (fun j => X.N[j]?) = fn.map some) (hfp : ∀ b ∈ fp, FpOk X pins H b) (hlt : ∀ b ∈ fp, b < s.heap.objs.size)
    (hcl : ∀ x c, cl.lookup x = some c → X.env.cells.lookup x = some c) (hcl2 : ∀ x, (x, NameKind.free) ∈ scope.names → ∃ c, cl.lookup x = some c) :
    Inv (X.comp scope (tn ++ fn) s H fp cl) [] (cst tn.length js σ) H { s with heap := pushCells (s.heap.push { cls := .type "dict", data := .dict #[] }) scope.names } := by
  have hC := cellsFrom_ok scope.names (s.heap.push { cls := .type "dict", data := .dict #[] }) (s.heap.objs.size + 1) [] ⟨fun _ _ hm => (nomatch hm), List.Pairwise.nil⟩ (by rw [Heap.size_push]; exact Nat.le_refl _)
  rw [Heap.size_push] at hC
  have keep : ∀ b o, s.heap.get? b = some o → (pushCells (s.heap.push { cls := .type "dict", data := .dict #[] }) scope.names).get? b = some o := fun b o e => pushCells_keeps _ _ b o (Heap.get?_push_of_some _ e)
  have look : ∀ x c, (cellsFrom (s.heap.objs.size + 1) scope.names cl).lookup x = some c → ((x, c) ∈ cellsFrom (s.heap.objs.size + 1) scope.names []) ∨ X.env.cells.lookup x = some c := fun x c e => by
    rw [cellsFrom_app, List.lookup_append] at e
    cases q : (cellsFrom (s.heap.objs.size + 1) scope.names []).lookup x with
    | some c' => rw [q] at e; cases e; exact .inl (PySem.mem_of_lookup q)
    | none => rw [q] at e; exact .inr (hcl x c e)
  have outerLt : ∀ x c, X.env.cells.lookup x = some c → c < s.heap.objs.size := fun x c e => by
    obtain ⟨v, q⟩ := I.cell x c e
    exact q.lt
  have ownGe : ∀ x c, (x, c) ∈ cellsFrom (s.heap.objs.size + 1) scope.names [] → s.heap.objs.size + 1 ≤ c := fun x c e => (hC.empty x c e).2
  refine ⟨⟨I.ok.mod, S.kind, I.ok.glob, I.ok.blt, Nat.le_refl _, fun x y c h1 h2 => ?_, fun x hx => ?_, fun x c h1 h2 => ?_, I.ok.hd, I.ok.frames, .inl rfl, fun b hb => ⟨Nat.ne_of_lt (hlt b hb), fun x c e => ?_⟩, fun b o e => I.bs b o e, Nat.le_trans I.ok.bsz I.sz, fun b o e hb => ?_, fun b hb hz => ?_, I.stack, I.stkFree⟩,
    rfl, I.bare, Un.kept keep, ⟨fun _ => none, ?_, fun i x v h1 h2 h3 => ?_⟩, fun x c e => ?_, I.hok.fresh (Nat.le_refl _), fun x c e => ?_, fun p hp => ?_, I.hok.kept keep, ?_⟩
  · rcases look x c h1 with q | q <;> rcases look y c h2 with r | r
    · exact name_of_addr hC.apart q r
    · exact absurd (Nat.lt_trans (outerLt y c r) (ownGe x c q)) (Nat.lt_irrefl _)
    · exact absurd (Nat.lt_trans (outerLt x c q) (ownGe y c r)) (Nat.lt_irrefl _)
    · exact I.ok.inj x y c q r
  · have own : ∀ k, scope.names.lookup x = some k → k = .cell ∨ k = .free → ∃ c, (cellsFrom (s.heap.objs.size + 1) scope.names cl).lookup x = some c := fun k hk hkk => by
      refine Option.isSome_iff_exists.mp (PySem.W.cellsFrom_some _ _ _ ?_)
      rcases hkk with rfl | rfl
      · exact .inl hk
      · obtain ⟨c, q⟩ := hcl2 x (PySem.mem_of_lookup hk)
        exact .inr (by rw [q]; rfl)
    rcases hx with hx | hx
    · obtain ⟨k', e, q | q⟩ := relabel_kind (scope := scope) (env := X.env) hx
      · subst q; exact own _ e (.inl rfl)
      · exact own _ e (.inr q.1)
    · obtain ⟨k', e, q | q⟩ := relabel_kind (scope := scope) (env := X.env) hx
      · subst q; exact own _ e (.inr rfl)
      · cases q.2
  · have hc : scope.names.lookup x = some .cell := of_decide_eq_true h1
    rcases look x c h2 with q | q
    · exact Nat.le_of_lt (ownGe x c q)
    · exfalso
      have h2' : (cellsFrom (s.heap.objs.size + 1) scope.names cl).lookup x = some c := h2
      rw [cellsFrom_app, List.lookup_append] at h2'
      obtain ⟨c', q'⟩ := Option.isSome_iff_exists.mp (PySem.W.cellsFrom_some scope.names (s.heap.objs.size + 1) [] (.inl hc))
      rw [q'] at h2'
      cases h2'
      exact absurd (Nat.lt_trans (outerLt x c q) (ownGe x c (PySem.mem_of_lookup q'))) (Nat.lt_irrefl _)
  · rcases look x c e with q | q
    · intro z; subst z
      exact absurd (Nat.lt_trans (hlt c hb) (ownGe x c q)) (Nat.lt_irrefl _)
    · exact (hfp b hb).2.2.2.2.1 x c q
  · rcases (hfp b hb).2.2.2.1 with z | z
    · exact I.ok.noex b o e z
    · exact absurd (Nat.lt_of_lt_of_le (Heap.lt_size (I.ok.bs b o e).1) z) (Nat.lt_irrefl _)
  · rcases List.mem_cons.mp (I.stkSub b hz) with z | z
    · exact (hfp b hb).2.1 z
    · exact (hfp b hb).2.2.1 z
  · exact (Heap.Ns.new s.heap (.type "dict")).keeps (pushCells_keeps _ _)
  · unfold cst at h2
    by_cases hi : i < tn.length
    · rw [List.getElem?_append_left (by simpa using hi), List.getElem?_replicate, if_pos hi] at h2
      cases h2
    · rw [List.getElem?_append_right (by simpa using hi), List.length_replicate, List.getElem?_map] at h2
      cases ej : js[i - tn.length]? with
      | none => rw [ej] at h2; cases h2
      | some j =>
        rw [ej] at h2
        have h2' : (σ[j]?).join = some v := Option.some.inj h2
        have hσ : σ[j]? = some (some v) := by
          cases q : σ[j]? with
          | none => rw [q] at h2'; cases h2'
          | some o => rw [q] at h2'; cases o with
            | none => cases h2'
            | some v' => cases h2'; rfl
        have h1' : (tn ++ fn)[i]? = some x := h1
        rw [List.getElem?_append_right (by omega)] at h1'
        have hN : X.N[j]? = some x := by
          have e := congrArg (fun l => l[i - tn.length]?) hj
          simp only [List.getElem?_map, ej, h1', Option.map_some] at e
          exact Option.some.inj e
        have hfx : scope.names.lookup x = some .free := S.frees x (List.mem_of_getElem? h1')
        obtain ⟨m, hn, hl⟩ := I.loc
        have ok : X.env.scope.names.lookup x = some .cell ∨ X.env.scope.names.lookup x = some .free := S.free (x, .free) (PySem.mem_of_lookup hfx) rfl
        obtain ⟨u, r, l⟩ := hl j x v hN hσ (by rcases ok with z | z; exact .inr (.inl z); exact .inr (.inr z))
        refine ⟨u, r, .inr ⟨relabel_free hfx, ?_⟩⟩
        rcases l with ⟨k, _⟩ | ⟨_, c, ec, q⟩
        · have k' : X.env.scope.names.lookup x = some .local := k
          rcases ok with z | z <;> rw [z] at k' <;> cases k'
        · refine ⟨c, ?_, q.keeps keep⟩
          show (cellsFrom (s.heap.objs.size + 1) scope.names cl).lookup x = some c
          rw [cellsFrom_app, List.lookup_append]
          have e1 : (cellsFrom (s.heap.objs.size + 1) scope.names []).lookup x = none := by
            cases q1 : (cellsFrom (s.heap.objs.size + 1) scope.names []).lookup x with
            | none => rfl
            | some c1 =>
              have e2 := S.cell (x, .cell) (cellsFrom_mem _ _ _ _ (PySem.mem_of_lookup q1)) rfl
              have e2' : scope.names.lookup x = some .cell := e2
              rw [hfx] at e2'; cases e2'
          obtain ⟨c2, q2⟩ := hcl2 x (PySem.mem_of_lookup hfx)
          have := hcl x c2 q2
          rw [ec] at this
          cases this
          rw [e1, q2]; rfl
  · rcases look x c e with q | q
    · exact ⟨_, (hC.empty x c q).1⟩
    · obtain ⟨v, z⟩ := I.cell x c q
      exact ⟨v, z.keeps keep⟩
  · rcases look x c e with q | q
    · exact I.hok.fresh (Nat.le_of_lt (ownGe x c q))
    · exact I.freeC x c q
  · exact absurd (show p ∈ ([] : List (Addr × Obj)) from hp) (by simp)
  · unfold cst
    show _ = (tn ++ fn).length
    have : js.length = fn.length := by have := congrArg List.length hj; simpa using this
    rw [List.length_append, List.length_replicate, List.length_map, List.length_append, this]

section
variable {X : Cx} {pins : List (Addr × Obj)} {σ : L2.St} {H : Hp} {s : Shared} {h' : Heap}
theorem Inv.turnedL {t' : Nat} {ch : List Addr} (I : Inv X pins σ H s) (k : ∀ b o, b ∉ ch → s.heap.get? b = some o → h'.get? b = some o) (hf : ∀ b ∈ ch, FpOk X pins H b) : Inv X pins σ H { s with heap := h', toks := t' } := by
  have nit : ∀ b u, H b = some u → b ∉ ch := fun b u e z => by have := (hf b z).1; rw [e] at this; cases this
  refine I.step (g' := s.gens) (d' := s.drawn) (ch := ch) (fun b hb => ⟨(hf b hb).2.2.2.1, (hf b hb).2.1, (hf b hb).2.2.2.2.1, (hf b hb).2.2.2.2.2⟩) (fun b o _ _ hc e _ => k b o hc e) (fun b o _ _ hc e _ => ⟨o.slots, k b o hc e⟩) (fun _ _ _ _ n => n)
    (fun b o hc e => ⟨o, k b o hc e⟩) (fun _ _ e => e) (fun _ _ _ e => e) (fun b ps e => ⟨#[], by rw [e]; simp⟩) (fun m hm => ?_) (fun b u e => ?_) I.bare
  · obtain ⟨o, es, ep, ho, r⟩ := hm
    exact ⟨o, es, ep, k _ o (fun z => (hf _ z).2.1 rfl) ho, r⟩
  · refine (I.hok b u e).stay (fun c v hc q => k c v ?_ q) (fun _ q => q) fun _ _ q => q
    rcases hc with z | z
    · rw [z]; exact nit b u e
    · exact nit c _ z
theorem Inv.track {a : Addr} {o : HO} (I : Inv X pins σ H s) (hn : H a = none) (h0 : X.s₀.heap.objs.size ≤ a) (hL : a ≠ X.env.locals) (hc : ∀ x c, X.env.cells.lookup x = some c → c ≠ a) (hp : ∀ p ∈ X.pn ++ pins, p.1 ≠ a) (new : ObjOk X.prog X.w (upd H a o) s.heap a o) : Inv X pins σ (upd H a o) s := by
  have no0 : ∀ b ob, X.s₀.heap.get? b = some ob → b ≠ a := fun b ob e => Nat.ne_of_lt (Nat.lt_of_lt_of_le (Heap.lt_size e) h0)
  refine ⟨I.ok, I.os, I.bare, ⟨I.base.keep, I.base.slot, fun b ob q n hx => ?_, I.base.there, fun b xs q => ?_, fun b ob u q => ?_, fun b ps q => ?_⟩, I.loc, I.cell, ?_, fun x c e => ?_, fun p h => ?_, I.hok.track hn new, I.len⟩
  · rw [upd_ne (no0 b ob q)]; exact I.base.free b ob q n hx
  · have e := I.base.tups b xs q; rw [upd_ne (ne_of_none e hn)]; exact e
  · have e := I.base.frzs b ob u q; rw [upd_ne (ne_of_none e hn)]; exact e
  · obtain ⟨m, e⟩ := I.base.tbls b ps q; exact ⟨m, by rw [upd_ne (ne_of_none e hn)]; exact e⟩
  · rw [upd_ne (Ne.symm hL)]; exact I.free
  · rw [upd_ne (hc x c e)]; exact I.freeC x c e
  · obtain ⟨q1, q2, q3⟩ := I.pin p h
    exact ⟨q1, by rw [upd_ne (hp p h)]; exact q2, q3⟩
end
noncomputable def tTrue : TT := fun _ H Q => Q true H
noncomputable def tComp (wi : TI) (g : TG) (tt : TT) (te : TE) (n : Nat) (js : List Nat) : TE := fun σ H Q => wi σ H fun J H1 => ∀ D, H1 D = none → ∃ W : Nat → Nat → List V → St → Hp → Prop, (∃ m, W 0 m [] (cst n js σ) (upd H1 D (.lst []))) ∧ ∀ i m ys σ1 H2, W i m ys σ1 H2 →
  (J.stop i H2 ∧ Q (.ref D) H2) ∨ (J.go i H2 ∧ ∀ x H3, J.yld i H2 x H3 → g x σ1 H3 fun σ4 H4 => tt σ4 H4 fun b H5 => if b = true then te σ4 H5 fun y H6 => H6 D = some (.lst ys) ∧ ys.length < sizeLine ∧ ∃ m', m' < m ∧ W (i + 1) m' (ys ++ [y]) σ4 (upd H6 D (.lst (ys ++ [y]))) else ∃ m', m' < m ∧ W (i + 1) m' ys σ4 H5)
noncomputable def PTs (X : Cx) (ifs : List Expr) (t : TT) : Prop :=
  ∀ (pins : List (Addr × Obj)) (s : Shared) (σ : St) (H : Hp) (Q : Bool → Hp → Prop), Inv X pins σ H s → t σ H Q →
    wpAny (model X.prog X.w) X.A (forIn ifs true fun c r => if r = true then do let ok ← isTrue c X.env (eval c X.env); pure (ForInStep.yield ok) else pure (ForInStep.yield r)) (TP X pins σ Q) X.xe s
theorem pts_nil {X : Cx} : PTs X [] tTrue := fun _ _ _ H _ I h => wpAny_tests_nil ⟨H, I, h⟩
theorem comp_core {X : Cx} {elt tg iter : Expr} {ifs : List Expr} {scope : Scope} {pos pos' : Pos} {wi : TI} {g : TG} {tt : TT} {te : TE} {use : Option (Value → Sem Unit)} {Qc : Value → Shared → Prop} (tn fn : List Str) (js : List Nat) (hcalm : X.calm = true) (S : CompSc X.env.scope scope tn fn) (hj : js.map (fun j => X.N[j]?) = fn.map some) (hi : PI X tg iter wi)
    (hb : ∀ s H fp cl, PG (X.comp scope (tn ++ fn) s H fp cl) tg g ∧ PTs (X.comp scope (tn ++ fn) s H fp cl) ifs tt ∧ PE (X.comp scope (tn ++ fn) s H fp cl) elt te)
    (hs : ∀ x, foldedSetIterable iter X.env x = pure x) {pins : List (Addr × Obj)} {s : Shared} {σ : L2.St} {H : Hp} {Q : VK} (I : Inv X pins σ H s) (h : tComp wi g tt te tn.length js σ H Q)
    (fin : ∀ (D C : Addr) (s6 : Shared) (H5 : Hp) (m6 : Str → Option Value), s6.heap.Ns C m6 → FpOk X pins H5 C → Inv X pins σ H5 s6 → Q (.ref D) H5 → compPost (model X.prog X.w) X.A X.xe use Qc (.ref D) C (.ok .next) s6) :
    wpAny (model X.prog X.w) X.A (comprehension (.ListComp elt [⟨tg, iter, ifs, 0⟩] scope pos) scope X.env pos' (newList []) false (eval iter X.env) use) Qc X.xe s := by
  obtain ⟨cl, hclos, hcl, hcl2⟩ := clos_ok (env := X.env) (scope := scope) (fun x hx e => I.ok.has x.1 (S.free x hx e))
  refine wpAny_comprehension_free (use := use) rfl hs hclos S.kind S.loc (thn (hi pins s σ H _ I h) fun v s1 h1 => thn h1 fun itv s2 h2 => ?_)
  obtain ⟨it, fp, tn', J, H2, e, I2, T, st2, f2, k⟩ := h2
  subst e
  have hD : H2 s2.heap.objs.size = none := I2.fresh
  obtain ⟨W, ⟨m0, w0⟩, turn⟩ := k _ hD
  refine wpAny_newObj_type ?_
  have I3 : Inv X pins σ (upd H2 s2.heap.objs.size (.lst [])) { s2 with heap := s2.heap.push { cls := .type "list", data := .seq ([] : List Value).toArray } } := I2.lnew (t' := s2.toks) (ys := []) (its := []) .nil (Nat.zero_le _)
  generalize hs3 : ({ s2 with heap := s2.heap.push { cls := .type "list", data := .seq ([] : List Value).toArray } } : Shared) = s3 at I3
  have hs3' : s3.heap.objs.size = s2.heap.objs.size + 1 := by rw [← hs3]; exact Heap.size_push ..
  have up3 : ∀ b o, s2.heap.get? b = some o → s3.heap.get? b = some o := fun b o e => by rw [← hs3]; exact Heap.get?_push_of_some _ e
  have flt : ∀ b ∈ fp, b < s2.heap.objs.size := fun b hb => by
    obtain ⟨o, e, _⟩ := T.obj _ _ st2 b hb
    exact Heap.lt_size e
  generalize hDn : s2.heap.objs.size = D at *
  have f3 : ∀ b ∈ fp, FpOk X pins (upd H2 D (.lst [])) b := fun b hb => ⟨by rw [upd_ne (Nat.ne_of_lt (flt b hb))]; exact (f2 b hb).1, (f2 b hb).2⟩
  have flt3 : ∀ b ∈ fp, b < s3.heap.objs.size := fun b hb => by rw [hs3']; exact Nat.lt_succ_of_lt (flt b hb)
  have I4 := comp_start I3 S hj f3 flt3 hcl hcl2
  have st4 : tn' 0 (pushCells (s3.heap.push { cls := .type "dict", data := .dict #[] }) scope.names) := T.keep _ _ _ st2 fun b _ o e => pushCells_keeps _ _ b o (Heap.get?_push_of_some _ (up3 b o e))
  obtain ⟨pg, pt, pe⟩ := hb s3 (upd H2 D (.lst [])) fp cl
  generalize hX : X.comp scope (tn ++ fn) s3 (upd H2 D (.lst [])) fp cl = Y at I4 pg pt pe
  have Yp : Y.prog = X.prog := by rw [← hX]; rfl
  have Yw : Y.w = X.w := by rw [← hX]; rfl
  have YK : Y.K = X.K := by rw [← hX]; rfl
  have YA : Y.A = X.A := by rw [← hX]; rfl
  have Yc : Y.calm = true := by rw [← hX]; exact hcalm
  have Yxe : Y.xe = fun _ _ => False := by rw [← hX]; rfl
  have Yex : Y.ex = fp := by rw [← hX]; rfl
  have Yfs : Y.fs = frs X.stack := by rw [← hX]; rfl
  have Ypn : Y.pn = [] := by rw [← hX]; rfl
  have Ys : Y.s₀ = s3 := by rw [← hX]; rfl
  have YH : Y.H₀ = upd H2 D (.lst []) := by rw [← hX]; rfl
  have YC : Y.env.locals = s3.heap.objs.size := by rw [← hX]; rfl
  have Yenv : ({ scope := relabel scope X.env, locals := s3.heap.objs.size, globals := X.env.globals, cells := cellsFrom (s3.heap.objs.size + 1) scope.names cl, qual := X.env.qual, func := none, code := X.env.code, frame := X.env.frame, builtins := X.env.builtins } : Env) = Y.env := by rw [← hX]; rfl
  have stat : ∀ {H' : Hp}, (∀ b ∈ fp, H' b = none) → ∀ b ∈ fp, FpOk Y [] H' b := fun hn b hb => by
    refine ⟨hn b hb, ?_, ?_, .inl (by rw [Yex]; exact hb), fun x c e => (I4.ok.exf b (by rw [Yex]; exact hb)).2 x c e, fun p hp => ?_⟩
    · rw [YC]; exact Nat.ne_of_lt (flt3 b hb)
    · exact I4.ok.exfs b (by rw [Yex]; exact hb)
    · rw [Ypn] at hp; exact absurd (show p ∈ ([] : List (Addr × Obj)) from hp) (by simp)
  have loop : codeAny (model X.prog X.w) X.A (.compLoop (.ListComp elt [⟨tg, iter, ifs, 0⟩] scope pos) 0 (.ref it) (.ref D) Y.env) (compPost (model X.prog X.w) X.A X.xe use Qc (.ref D) s3.heap.objs.size)
      { s3 with heap := pushCells (s3.heap.push { cls := .type "dict", data := .dict #[] }) scope.names } := by
    refine codeAny_loop rfl (fun n s' => ∃ i ys σ' H', Inv Y [] σ' H' s' ∧ tn' i s'.heap ∧ (∀ b ∈ fp, H' b = none) ∧ W i n ys σ' H') (fun n s5 hI => ?_) m0 ⟨0, [], _, _, I4, st4, fun b hb => (f3 b hb).1, w0⟩
    obtain ⟨i, ys, σ5, H5, I5, st5, fr5, w5⟩ := hI
    show wpAny _ X.A ((compTurn (.ListComp elt [⟨tg, iter, ifs, 0⟩] scope pos) 0 (.ref it) (.ref D) Y.env).onRaise (fun x => do noteFrame x Y.env; theTreesLotGoes x)) _ _ s5
    refine wpAny_noted ?_
    rw [compTurn_list]
    refine wpAny_bind (wpAny_standAt (wpAny_bind ?_))
    rcases turn i n ys σ5 H5 w5 with ⟨stop, qn⟩ | ⟨go, step⟩
    · have d := T.done Y Yp Yw YK Yc i [] s5 σ5 H5 (fun _ _ => False) I5 (stat fr5) st5 stop
      rw [YA] at d
      refine wpAny_mono d (fun r s6 ⟨hr, I6⟩ => ?_) fun _ _ z => z.elim
      subst hr
      refine wpAny_pure ?_
      obtain ⟨m6, ns6, _⟩ := I6.loc
      rw [YC] at ns6
      have hC : H5 s3.heap.objs.size = none := by have := I6.free; rwa [YC] at this
      have u6 := I6.base
      rw [Yfs, Yex, YH, Ys] at u6
      have os6 := I6.os
      rw [Ys] at os6
      have hok6 := I6.hok
      rw [Yp, Yw] at hok6
      have IX : Inv X pins σ H5 s6 := I3.call' (s' := s6) os6 u6 hok6 I6.bare (fun b hb => ⟨(f3 b hb).2.2.2.1, (f3 b hb).2.1, (f3 b hb).2.2.2.2.1, (f3 b hb).2.2.2.2.2⟩)
      exact fin D s3.heap.objs.size s6 H5 m6 ns6 (I3.fpOk (H' := H5) (Nat.le_refl _) hC) IX qn
    · have d := T.item Y Yp Yw YK Yc i [] s5 σ5 H5 (fun _ _ => False) I5 (stat fr5) st5 go
      rw [YA] at d
      refine wpAny_mono d (fun r s6 ⟨u, hr, h6⟩ => ?_) fun _ _ z => z.elim
      subst hr
      refine wpAny_bind (wpAny_mono h6 (fun _ s7 ⟨x, H7, I7, r7, y7, st7, fr7⟩ => ?_) fun _ _ z => z.elim)
      have I7' := I7.pinned (stat fr7) (T.obj _ _ st7)
      have a8 := pg _ s7 σ5 H7 x u _ I7' r7 (step x H7 y7)
      rw [YA, Yp, Yw, Yxe] at a8
      refine wpAny_bind (wpAny_mono a8 (fun _ s8 ⟨σ8, H8, I8, q8⟩ => ?_) fun _ _ z => z.elim)
      have a9 := pt _ s8 σ8 H8 _ I8 q8
      rw [YA, Yp, Yw, Yxe] at a9
      have again : ∀ {H' : Hp} {s' : Shared} {ys' : List V} {m' : Nat}, m' < n → Inv Y ([] ++ pinsAt fp s7.heap) σ8 H' s' → W (i + 1) m' ys' σ8 H' → ∃ m, m < n ∧ ∃ i ys σ' H', Inv Y [] σ' H' s' ∧ tn' i s'.heap ∧ (∀ b ∈ fp, H' b = none) ∧ W i m ys σ' H' := fun {H' s' ys' m'} hm I' w' => by
        refine ⟨m', hm, i + 1, ys', σ8, H', I'.unpinned, T.keep _ _ _ st7 fun b hb o e => (I'.pin (b, o) (List.mem_append_right _ (List.mem_append_right _ (mem_pinsAt hb e)))).1, fun b hb => ?_, w'⟩
        obtain ⟨o, e, d⟩ := T.obj _ _ st7 b hb
        exact (I'.pin (b, o) (List.mem_append_right _ (List.mem_append_right _ (mem_pinsAt hb e)))).2.1
      refine wpAny_bind (wpAny_mono a9 (fun ok s9 ⟨H9, I9, q9⟩ => ?_) fun _ _ z => z.elim)
      cases ok with
      | false =>
        obtain ⟨m', hm, w9⟩ := q9
        exact wpAny_pure ⟨rfl, again hm I9 w9⟩
      | true =>
        have a10 := pe _ s9 σ8 H9 _ I9 q9
        rw [YA, Yp, Yw, Yxe] at a10
        refine wpAny_bind (wpAny_bind (wpAny_mono a10 (fun y10 s10 ⟨y, H10, I10, r10, e10, hz, m', hm, w10⟩ => ?_) fun _ _ z => z.elim))
        have a11 := mt_append (X := Y) _ s10 σ8 H10 (.ref D) [y] (.ref D) [y10] (fun _ H' => H' = upd H10 D (.lst (ys ++ [y]))) I10 rfl (.cons r10 .nil) ⟨D, ys, y, rfl, rfl, e10, hz, rfl⟩
        rw [YA, Yp, Yw, Yxe] at a11
        refine wpAny_bind (wpAny_mono a11 (fun _ s11 ⟨_, H11, I11, _, e11⟩ => ?_) fun _ _ z => z.elim)
        subst e11
        exact wpAny_pure (wpAny_pure ⟨rfl, again hm I11 w10⟩)
  -- the block's names
  have env4 : wpAny (model X.prog X.w) X.A (newFunctionEnv scope X.env.globals cl [] X.env.qual none .none (some X.env)) (fun cenv s₄ =>
      codeAny (model X.prog X.w) X.A (.compStart (.ListComp elt [⟨tg, iter, ifs, 0⟩] scope pos) 0 (.ref it) (.ref D) { cenv with scope := relabel scope X.env }) (compPost (model X.prog X.w) X.A X.xe use Qc (.ref D) cenv.locals) s₄) X.xe s3 := by
    simp only [newFunctionEnv, Option.isSome_some, if_true]
    refine wpAny_bind (wpAny_alloc ?_)
    refine wpAny_bind (wpAny_layCells _ (fun name kind cells => by cases hkc : kind == NameKind.cell <;> simp [hkc]) _ _ _ _ ?_)
    rw [List.forIn_nil]
    refine wpAny_bind (wpAny_pure (wpAny_pure ?_))
    rw [show ({ s3 with heap := s3.heap.push { cls := .type "dict", data := .dict #[] } } : Shared).heap.objs.size = s3.heap.objs.size + 1 from Heap.size_push ..]
    dsimp only
    rw [Yenv]
    exact codeAny_compStart_list loop (T.self _ 0 _ _ _ st4 loop)
  exact env4
theorem pe_comp {X : Cx} {elt tg iter : Expr} {ifs : List Expr} {scope : Scope} {pos : Pos} {wi : TI} {g : TG} {tt : TT} {te : TE} (tn fn : List Str) (js : List Nat) (hcalm : X.calm = true) (S : CompSc X.env.scope scope tn fn) (hj : js.map (fun j => X.N[j]?) = fn.map some) (hi : PI X tg iter wi)
    (hb : ∀ s H fp cl, PG (X.comp scope (tn ++ fn) s H fp cl) tg g ∧ PTs (X.comp scope (tn ++ fn) s H fp cl) ifs tt ∧ PE (X.comp scope (tn ++ fn) s H fp cl) elt te)
    (hs : ∀ x, foldedSetIterable iter X.env x = pure x := by intro _; rfl) :
    PE X (.ListComp elt [⟨tg, iter, ifs, 0⟩] scope pos) (tComp wi g tt te tn.length js) := by
  intro pins s σ H Q I h
  rw [eval_ListComp]
  refine comp_core (use := none) tn fn js hcalm S hj hi hb hs I h fun D C s6 H5 m6 ns6 hC I6 q => ⟨m6, ns6, fun h' sb => ⟨.ref D, H5, ?_, rfl, q⟩⟩
  exact I6.turnedL (t' := s6.toks) (ch := [C]) (fun b o hb e => sb.extBut b o (by simpa using hb) e) fun b hb => by
    have e : b = C := by simpa using hb
    subst e; exact hC
theorem ps_setComp {X : Cx} {elt tg iter : Expr} {ifs : List Expr} {scope : Scope} {pos spos pos' : Pos} {wi : TI} {g : TG} {tt : TT} {te : TE} {i : Nat} {x : Str} (hN : X.N.Nodup) (hix : X.N[i]? = some x) (hx : Loc X.env.scope x) (tn fn : List Str) (js : List Nat) (hcalm : X.calm = true) (S : CompSc X.env.scope scope tn fn) (hj : js.map (fun j => X.N[j]?) = fn.map some) (hi : PI X tg iter wi)
    (hb : ∀ s H fp cl, PG (X.comp scope (tn ++ fn) s H fp cl) tg g ∧ PTs (X.comp scope (tn ++ fn) s H fp cl) ifs tt ∧ PE (X.comp scope (tn ++ fn) s H fp cl) elt te)
    (hs : ∀ x, foldedSetIterable iter X.env x = pure x := by intro _; rfl)
    (hsw : swapsWith (.ListComp elt [⟨tg, iter, ifs, 0⟩] scope pos) (some (.Name x pos')) spos.line X.env = pure true := by rfl) (hf : X.fn x = true ∨ X.env.scope.names.lookup x = some .local := by first | exact .inl rfl | exact .inr rfl | assumption) :
    PS X (.Assign [.Name x pos'] (.ListComp elt [⟨tg, iter, ifs, 0⟩] scope pos) spos) (tAsg (tComp wi g tt te tn.length js) (gName i)) := by
  intro pins s σ H D I h
  rw [exec_Assign_Name_used _ _ _ _ hsw]
  refine wpAny_bind (wpAny_standAt (wpAny_bind ?_))
  show wpAny _ X.A (do let _ ← comprehension (.ListComp elt [⟨tg, iter, ifs, 0⟩] scope pos) scope X.env _ (newList []) false (eval iter X.env) (some (assign (.Name x pos') X.env))) _ _ s
  refine wpAny_bind (wpAny_mono (comp_core (use := some (assign (.Name x pos') X.env)) (Qc := fun _ s' => SP X pins D .next s') tn fn js hcalm S hj hi hb hs I h fun L C s6 H5 m6 ns6 hC I6 q => ?_) (fun _ s' hq => wpAny_pure (wpAny_pure hq)) fun _ _ e => e)
  show wpAny _ X.A (assign (.Name x pos') X.env (.ref L)) _ _ s6
  refine wpAny_assign_Name (store_ok2 I6 hN hix hx (v := .ref L) rfl (fun s7 I7 k7 => ?_) hf)
  have kC : ∃ m7, s7.heap.Ns C m7 := by
    obtain ⟨a, sb, ha⟩ := k7
    refine ⟨m6, ns6.sameBut sb fun z => ?_⟩
    rcases ha with e | e
    · exact hC.2.1 (z.trans e)
    · exact hC.2.2.2.2.1 x a e z.symm
  obtain ⟨m7, ns7⟩ := kC
  refine ⟨m7, ns7, fun h' sb => ⟨_, H5, I7.turnedL (t' := s7.toks) (ch := [C]) (fun b o hb e => sb.extBut b o (by simpa using hb) e) fun b hb => ?_, q⟩⟩
  have e : b = C := by simpa using hb
  subst e; exact hC
end L2
namespace L2
open PySem PySem.Spec PyProof.Rows
theorem RdVs.length {K : PySem.W.Frag} {H : Hp} {xs : List V} {ds : List PyData} (h : RdVs K H xs ds) : xs.length = ds.length := by
  induction xs generalizing ds with
  | nil => cases h; rfl
  | cons x xs ih => cases h with | cons a b => rw [List.length_cons, List.length_cons, ih b]
theorem RdVs.get {K : PySem.W.Frag} {H : Hp} {xs : List V} {ds : List PyData} {i : Nat} {d : PyData} (h : RdVs K H xs ds) (e : ds[i]? = some d) : ∃ x, xs[i]? = some x ∧ RdV K H x d := by
  induction xs generalizing ds i with
  | nil => cases h; simp at e
  | cons x xs ih =>
    cases h with
    | cons a b =>
      cases i with
      | zero => cases e; exact ⟨_, rfl, a⟩
      | succ i =>
        obtain ⟨x, h1, h2⟩ := ih b (i := i) (by simpa using e)
        exact ⟨x, by simpa using h1, h2⟩
theorem RdVs.append {K : PySem.W.Frag} {H : Hp} {xs ys : List V} {ds es : List PyData} (h : RdVs K H xs ds) (h' : RdVs K H ys es) : RdVs K H (xs ++ ys) (ds ++ es) := by
  induction xs generalizing ds with
  | nil => cases h; exact h'
  | cons x xs ih => cases h with | cons a b => exact .cons a (ih b)
theorem RdVs.set {K : PySem.W.Frag} {H : Hp} {x : V} {d : PyData} (h : RdV K H x d) {xs : List V} {ds : List PyData} (i : Nat) (r : RdVs K H xs ds) : RdVs K H (xs.set i x) (ds.set i d) := by
  induction xs generalizing ds i with
  | nil => cases r; exact .nil
  | cons y xs ih =>
    cases r with
    | cons a b =>
      cases i with
      | zero => exact .cons h b
      | succ i => exact .cons a (ih i b)
theorem RdVs.take {K : PySem.W.Frag} {H : Hp} {xs : List V} {ds : List PyData} (i : Nat) (r : RdVs K H xs ds) : RdVs K H (xs.take i) (ds.take i) := by
  induction xs generalizing ds i with
  | nil => cases r; rw [List.take_nil, List.take_nil]; exact .nil
  | cons y xs ih =>
    cases r with
    | cons a b =>
      cases i with
      | zero => exact .nil
      | succ i => exact .cons a (ih i b)
theorem RdVs.drop {K : PySem.W.Frag} {H : Hp} {xs : List V} {ds : List PyData} (i : Nat) (r : RdVs K H xs ds) : RdVs K H (xs.drop i) (ds.drop i) := by
  induction xs generalizing ds i with
  | nil => cases r; rw [List.drop_nil, List.drop_nil]; exact .nil
  | cons y xs ih =>
    cases r with
    | cons a b =>
      cases i with
      | zero => exact .cons a b
      | succ i => exact ih i b
theorem RdVs.eraseIdx {K : PySem.W.Frag} {H : Hp} {xs : List V} {ds : List PyData} (i : Nat) (r : RdVs K H xs ds) : RdVs K H (xs.eraseIdx i) (ds.eraseIdx i) := by
  induction xs generalizing ds i with
  | nil => cases r; exact .nil
  | cons y xs ih =>
    cases r with
    | cons a b =>
      cases i with
      | zero => exact b
      | succ i => exact .cons a (ih i b)
end L2
namespace L3
open PySem PySem.Spec PyProof.Rows L2
noncomputable abbrev D := PyData
inductive Cl where
  | sh (f : Bool) (d : D)
  | ow (f : Bool) (ds : List D)
  | tr (ps : List Addr) (ms : List (List D))
  | dt (ds : List (List Key × D))
  | ex (C : Addr)
noncomputable def Cl.d : Cl → D
  | .sh _ d => d
  | .ow _ ds => .list ds
  | .tr _ _ => .none
  | .dt _ => .none
  | .ex _ => .none
noncomputable def Cl.f : Cl → Bool
  | .sh f _ => f
  | .ow f _ => f
  | .tr _ _ => false
  | .dt _ => false
  | .ex _ => false
noncomputable def scal3 : D → Bool
  | .int _ => true | .bool _ => true | .str _ => true | .none => true | _ => false
noncomputable abbrev Env3 := List (Option Cl)
structure Gr (G H G' H' : Hp) : Prop where
  g : Same G G'
  h : Same H H'
  sub : Same G' H'
  new : ∀ b o, G' b = some o → G b = some o ∨ H b = none
theorem Gr.refl {G H : Hp} (s : Same G H) : Gr G H G H := ⟨Same.refl _, Same.refl _, s, fun _ _ e => .inl e⟩
theorem Gr.trans {G H G1 H1 G2 H2 : Hp} (a : Gr G H G1 H1) (b : Gr G1 H1 G2 H2) : Gr G H G2 H2 :=
  ⟨a.g.trans b.g, a.h.trans b.h, b.sub, fun c o e => by
    rcases b.new c o e with q | q
    · exact a.new c o q
    · exact .inr (a.h.free q)⟩
theorem Gr.put {G H : Hp} {p : Addr} {o : HO} (s : Same G H) (hp : H p = none) : Gr G H (upd G p o) (upd H p o) :=
  ⟨same_new (s.free hp) o, same_new hp o, fun b u e => by
    by_cases hb : b = p
    · subst hb; rw [upd_same] at e ⊢; exact e
    · rw [upd_ne hb] at e ⊢; exact s b u e, fun b u e => by
    by_cases hb : b = p
    · subst hb; exact .inr hp
    · rw [upd_ne hb] at e; exact .inl e⟩
theorem Gr.apart {G H : Hp} {p : Addr} {o : HO} (s : Same G H) (hp : H p = none) : Gr G H G (upd H p o) :=
  ⟨Same.refl _, same_new hp o, s.trans (same_new hp o), fun _ _ e => .inl e⟩
mutual
theorem rdv_same {K : PySem.W.Frag} {H H' : Hp} (e : Same H H') : ∀ {x : V} {d : D}, RdV K H x d → RdV K H' x d
  | _, _, .non => .non
  | _, _, .bl b => .bl b
  | _, _, .int i => .int i
  | _, _, .str x => .str x
  | _, _, .lst q r => .lst (e.seq q) (rdvs_same e r)
  | _, _, .tup q r => .tup (e.tup q) (rdvs_same e r)
theorem rdvs_same {K : PySem.W.Frag} {H H' : Hp} (e : Same H H') : ∀ {xs : List V} {ds : List D}, RdVs K H xs ds → RdVs K H' xs ds
  | _, _, .nil => .nil
  | _, _, .cons a b => .cons (rdv_same e a) (rdvs_same e b)
end
mutual
inductive RdN (K : PySem.W.Frag) (H0 G : Hp) : V → D → Prop
  | non : RdN K H0 G .non .none
  | bl (b) : RdN K H0 G (.bl b) (.bool b)
  | int (i) : RdN K H0 G (.int i) (.int i)
  | str (x) : RdN K H0 G (.str x) (.str x)
  | lst {a xs ds} : G a = some (.lst xs) → H0 a = none → RdNs K H0 G xs ds → RdN K H0 G (.ref a) (.list ds)
  | tup {a xs ds} : SqT K G a xs → RdNs K H0 G xs ds → RdN K H0 G (.ref a) (.tuple ds)
inductive RdNs (K : PySem.W.Frag) (H0 G : Hp) : List V → List D → Prop
  | nil : RdNs K H0 G [] []
  | cons {x xs d ds} : RdN K H0 G x d → RdNs K H0 G xs ds → RdNs K H0 G (x :: xs) (d :: ds)
end
mutual
theorem rdn_rd {K : PySem.W.Frag} {H0 G : Hp} : ∀ {x : V} {d : D}, RdN K H0 G x d → RdV K G x d
  | _, _, .non => .non
  | _, _, .bl b => .bl b
  | _, _, .int i => .int i
  | _, _, .str x => .str x
  | _, _, .lst q _ r => .lst (SqL.of q) (rdns_rd r)
  | _, _, .tup q r => .tup q (rdns_rd r)
theorem rdns_rd {K : PySem.W.Frag} {H0 G : Hp} : ∀ {xs : List V} {ds : List D}, RdNs K H0 G xs ds → RdVs K G xs ds
  | _, _, .nil => .nil
  | _, _, .cons a b => .cons (rdn_rd a) (rdns_rd b)
end
mutual
theorem rdn_mono {K : PySem.W.Frag} {H0 H1 G G' : Hp} (e : Same G G') (h : ∀ a o, G a = some o → H0 a = none → H1 a = none) : ∀ {x : V} {d : D}, RdN K H0 G x d → RdN K H1 G' x d
  | _, _, .non => .non
  | _, _, .bl b => .bl b
  | _, _, .int i => .int i
  | _, _, .str x => .str x
  | _, _, .lst q n r => .lst (e _ _ q) (h _ _ q n) (rdns_mono e h r)
  | _, _, .tup q r => .tup (e.tup q) (rdns_mono e h r)
theorem rdns_mono {K : PySem.W.Frag} {H0 H1 G G' : Hp} (e : Same G G') (h : ∀ a o, G a = some o → H0 a = none → H1 a = none) : ∀ {xs : List V} {ds : List D}, RdNs K H0 G xs ds → RdNs K H1 G' xs ds
  | _, _, .nil => .nil
  | _, _, .cons a b => .cons (rdn_mono e h a) (rdns_mono e h b)
end
theorem rdn_scal {K : PySem.W.Frag} {H0 G : Hp} {v : V} {d : D} (h : scal3 d = true) (r : RdV K G v d) : RdN K H0 G v d := by
  cases r with
  | non => exact .non
  | bl b => exact .bl b
  | int i => exact .int i
  | str s => exact .str s
  | lst _ _ => cases h
  | tup _ _ => cases h
structure Rf (K : PySem.W.Frag) (H0 G : Hp) (f : Bool) (v : V) (d : D) : Prop where
  rd : RdV K G v d
  nw : f = true → RdN K H0 G v d
structure Rfs (K : PySem.W.Frag) (H0 G : Hp) (f : Bool) (v : List V) (d : List D) : Prop where
  rd : RdVs K G v d
  nw : f = true → RdNs K H0 G v d
theorem Rf.same {K : PySem.W.Frag} {H0 G G' : Hp} {f : Bool} {v : V} {d : D} (r : Rf K H0 G f v d) (e : Same G G') : Rf K H0 G' f v d := ⟨rdv_same e r.rd, fun h => rdn_mono e (fun _ _ _ n => n) (r.nw h)⟩
theorem Rfs.same {K : PySem.W.Frag} {H0 G G' : Hp} {f : Bool} {v : List V} {d : List D} (r : Rfs K H0 G f v d) (e : Same G G') : Rfs K H0 G' f v d := ⟨rdvs_same e r.rd, fun h => rdns_mono e (fun _ _ _ n => n) (r.nw h)⟩
theorem Rf.sc {K : PySem.W.Frag} {H0 G : Hp} {f : Bool} {v : V} {d : D} (h : scal3 d = true) (r : RdV K G v d) : Rf K H0 G f v d := ⟨r, fun _ => rdn_scal h r⟩
theorem Rf.no {K : PySem.W.Frag} {H0 G : Hp} {v : V} {d : D} (r : RdV K G v d) : Rf K H0 G false v d := ⟨r, fun h => by cases h⟩
theorem Rf.or {K : PySem.W.Frag} {H0 G : Hp} {f : Bool} {v : V} {d : D} (r : Rf K H0 G f v d) : Rf K H0 G (f || scal3 d) v d := ⟨r.rd, fun h => by
  cases f with
  | true => exact r.nw rfl
  | false => exact rdn_scal (by simpa using h) r.rd⟩
theorem Rfs.nil {K : PySem.W.Frag} {H0 G : Hp} {f : Bool} : Rfs K H0 G f [] [] := ⟨.nil, fun _ => .nil⟩
theorem Rfs.cons {K : PySem.W.Frag} {H0 G : Hp} {f g : Bool} {v : V} {d : D} {vs : List V} {ds : List D} (r : Rf K H0 G f v d) (rs : Rfs K H0 G g vs ds) : Rfs K H0 G (f && g) (v :: vs) (d :: ds) := ⟨.cons r.rd rs.rd, fun h => by
  rw [Bool.and_eq_true] at h
  exact .cons (r.nw h.1) (rs.nw h.2)⟩
theorem rdns_get {K : PySem.W.Frag} {H0 H : Hp} {xs : List V} {ds : List D} {i : Nat} {x : V} {d : D} (r : RdNs K H0 H xs ds) (e : xs[i]? = some x) (e' : ds[i]? = some d) : RdN K H0 H x d := by
  induction xs generalizing ds i with
  | nil => simp at e
  | cons y xs ih =>
    cases r with
    | cons a b =>
      cases i with
      | zero => cases e; cases e'; exact a
      | succ i => exact ih b (i := i) (by simpa using e) (by simpa using e')
theorem Rfs.get {K : PySem.W.Frag} {H0 G : Hp} {f : Bool} {vs : List V} {ds : List D} {i : Nat} {d : D} (r : Rfs K H0 G f vs ds) (h : ds[i]? = some d) : ∃ v, vs[i]? = some v ∧ Rf K H0 G f v d := by
  obtain ⟨v, h1, h2⟩ := r.rd.get h
  exact ⟨v, h1, h2, fun hf => rdns_get (r.nw hf) h1 h⟩
theorem rdns_scal {K : PySem.W.Frag} {H0 G : Hp} {vs : List V} {ds : List D} (h : ds.all scal3 = true) (r : RdVs K G vs ds) : RdNs K H0 G vs ds := by
  induction vs generalizing ds with
  | nil => cases r; exact .nil
  | cons v vs ih =>
    cases r with
    | cons a b =>
      rw [List.all_cons, Bool.and_eq_true] at h
      exact .cons (rdn_scal h.1 a) (ih h.2 b)
theorem Rfs.or {K : PySem.W.Frag} {H0 G : Hp} {f : Bool} {vs : List V} {ds : List D} (r : Rfs K H0 G f vs ds) : Rfs K H0 G (f || ds.all scal3) vs ds := ⟨r.rd, fun h => by
  cases f with
  | true => exact r.nw rfl
  | false => exact rdns_scal (by simpa using h) r.rd⟩
theorem allIn (ws : List Int) : (ws.map PyData.int).all scal3 = true := by
  rw [List.all_map]
  exact List.all_eq_true.mpr fun _ _ => rfl
theorem Rfs.length {K : PySem.W.Frag} {H0 G : Hp} {f : Bool} {vs : List V} {ds : List D} (r : Rfs K H0 G f vs ds) : vs.length = ds.length := r.rd.length
theorem rdns_append {K : PySem.W.Frag} {H0 H : Hp} {xs ys : List V} {ds es : List D} (h : RdNs K H0 H xs ds) (h' : RdNs K H0 H ys es) : RdNs K H0 H (xs ++ ys) (ds ++ es) := by
  induction xs generalizing ds with
  | nil => cases h; exact h'
  | cons x xs ih => cases h with | cons a b => exact .cons a (ih b)
theorem rdns_set {K : PySem.W.Frag} {H0 H : Hp} {x : V} {d : D} (h : RdN K H0 H x d) {xs : List V} {ds : List D} (i : Nat) (r : RdNs K H0 H xs ds) : RdNs K H0 H (xs.set i x) (ds.set i d) := by
  induction xs generalizing ds i with
  | nil => cases r; exact .nil
  | cons y xs ih =>
    cases r with
    | cons a b =>
      cases i with
      | zero => exact .cons h b
      | succ i => exact .cons a (ih i b)
theorem rdns_take {K : PySem.W.Frag} {H0 H : Hp} {xs : List V} {ds : List D} (i : Nat) (r : RdNs K H0 H xs ds) : RdNs K H0 H (xs.take i) (ds.take i) := by
  induction xs generalizing ds i with
  | nil => cases r; rw [List.take_nil, List.take_nil]; exact .nil
  | cons y xs ih =>
    cases r with
    | cons a b =>
      cases i with
      | zero => exact .nil
      | succ i => exact .cons a (ih i b)
theorem rdns_drop {K : PySem.W.Frag} {H0 H : Hp} {xs : List V} {ds : List D} (i : Nat) (r : RdNs K H0 H xs ds) : RdNs K H0 H (xs.drop i) (ds.drop i) := by
  induction xs generalizing ds i with
  | nil => cases r; rw [List.drop_nil, List.drop_nil]; exact .nil
  | cons y xs ih =>
    cases r with
    | cons a b =>
      cases i with
      | zero => exact .cons a b
      | succ i => exact ih i b
theorem rdns_erase {K : PySem.W.Frag} {H0 H : Hp} {xs : List V} {ds : List D} (i : Nat) (r : RdNs K H0 H xs ds) : RdNs K H0 H (xs.eraseIdx i) (ds.eraseIdx i) := by
  induction xs generalizing ds i with
  | nil => cases r; exact .nil
  | cons y xs ih =>
    cases r with
    | cons a b =>
      cases i with
      | zero => exact b
      | succ i => exact .cons a (ih i b)
theorem Rfs.snoc {K : PySem.W.Frag} {H0 G : Hp} {f g : Bool} {v : V} {d : D} {vs : List V} {ds : List D} (rs : Rfs K H0 G g vs ds) (r : Rf K H0 G f v d) : Rfs K H0 G (g && f) (vs ++ [v]) (ds ++ [d]) := ⟨rs.rd.append (.cons r.rd .nil), fun h => by
  rw [Bool.and_eq_true] at h
  exact rdns_append (rs.nw h.1) (.cons (r.nw h.2) .nil)⟩
theorem Rfs.append {K : PySem.W.Frag} {H0 G : Hp} {f g : Bool} {us : List V} {es : List D} {vs : List V} {ds : List D} (rs : Rfs K H0 G g vs ds) (r : Rfs K H0 G f us es) : Rfs K H0 G (g && f) (vs ++ us) (ds ++ es) := ⟨rs.rd.append r.rd, fun h => by
  rw [Bool.and_eq_true] at h
  exact rdns_append (rs.nw h.1) (r.nw h.2)⟩
theorem Rfs.set {K : PySem.W.Frag} {H0 G : Hp} {f g : Bool} {v : V} {d : D} {vs : List V} {ds : List D} (rs : Rfs K H0 G g vs ds) (r : Rf K H0 G f v d) (i : Nat) : Rfs K H0 G (g && f) (vs.set i v) (ds.set i d) := ⟨rs.rd.set r.rd i, fun h => by
  rw [Bool.and_eq_true] at h
  exact rdns_set (r.nw h.2) i (rs.nw h.1)⟩
theorem Rfs.take {K : PySem.W.Frag} {H0 G : Hp} {g : Bool} {vs : List V} {ds : List D} (rs : Rfs K H0 G g vs ds) (i : Nat) : Rfs K H0 G g (vs.take i) (ds.take i) := ⟨rs.rd.take i, fun h => rdns_take i (rs.nw h)⟩
theorem Rfs.drop {K : PySem.W.Frag} {H0 G : Hp} {g : Bool} {vs : List V} {ds : List D} (rs : Rfs K H0 G g vs ds) (i : Nat) : Rfs K H0 G g (vs.drop i) (ds.drop i) := ⟨rs.rd.drop i, fun h => rdns_drop i (rs.nw h)⟩
theorem Rfs.eraseIdx {K : PySem.W.Frag} {H0 G : Hp} {g : Bool} {vs : List V} {ds : List D} (rs : Rfs K H0 G g vs ds) (i : Nat) : Rfs K H0 G g (vs.eraseIdx i) (ds.eraseIdx i) := ⟨rs.rd.eraseIdx i, fun h => rdns_erase i (rs.nw h)⟩
structure Tr (K : PySem.W.Frag) (H0 G H : Hp) (l : Addr) (ps : List Addr) (ms : List (List D)) : Prop where
  top : H l = some (.lst (ps.map V.ref))
  topG : G l = none
  nd : (l :: ps).Nodup
  len : ps.length = ms.length
  item : ∀ (k : Nat) (p : Addr) (m : List D), ps[k]? = some p → ms[k]? = some m → ∃ vs, H p = some (.lst vs) ∧ G p = none ∧ Rfs K H0 G true vs m
inductive Dr (K : PySem.W.Frag) (H0 G : Hp) : List (List Key × V) → List (List Key × D) → Prop
  | nil : Dr K H0 G [] []
  | cons {k v d kvs ds} : Rf K H0 G true v d → Dr K H0 G kvs ds → Dr K H0 G ((k, v) :: kvs) ((k, d) :: ds)
theorem Dr.same {K : PySem.W.Frag} {H0 G G' : Hp} {kvs : List (List Key × V)} {ds : List (List Key × D)} (r : Dr K H0 G kvs ds) (e : Same G G') : Dr K H0 G' kvs ds := by
  induction r with
  | nil => exact .nil
  | cons a b ih => exact .cons (a.same e) ih
inductive Vw (K : PySem.W.Frag) (H0 G H : Hp) : V → Cl → Prop
  | sh {v f d} : Rf K H0 G f v d → Vw K H0 G H v (.sh f d)
  | ow {l vs f ds} : H l = some (.lst vs) → Rfs K H0 G f vs ds → G l = none → Vw K H0 G H (.ref l) (.ow f ds)
  | tr {l ps ms} : Tr K H0 G H l ps ms → Vw K H0 G H (.ref l) (.tr ps ms)
  | dt {l kvs ds} : H l = some (.dT kvs) → Dr K H0 G kvs ds → G l = none → Vw K H0 G H (.ref l) (.dt ds)
  | ex {l C} : H l = some (excO l C) → Vw K H0 G H (.ref l) (.ex C)
noncomputable def Cl.dat : Cl → Bool
  | .ex _ => false
  | .tr _ _ => false
  | .dt _ => false
  | _ => true
noncomputable def Has : Cl → V → Addr → Prop
  | .ow _ _, v, a => v = .ref a
  | .tr ps _, v, a => v = .ref a ∨ a ∈ ps
  | .dt _, v, a => v = .ref a
  | _, _, _ => False
theorem Tr.at {K : PySem.W.Frag} {H0 G H : Hp} {l : Addr} {ps : List Addr} {ms : List (List D)} (t : Tr K H0 G H l ps ms) {p : Addr} (h : p ∈ ps) : ∃ m vs, H p = some (.lst vs) ∧ G p = none ∧ Rfs K H0 G true vs m := by
  obtain ⟨k, hk, e⟩ := List.getElem_of_mem h
  have hk' : k < ms.length := by rw [← t.len]; exact hk
  obtain ⟨vs, h1⟩ := t.item k p ms[k] (by rw [← e]; exact List.getElem?_eq_getElem hk) (List.getElem?_eq_getElem hk')
  exact ⟨_, vs, h1⟩
theorem Vw.has {K : PySem.W.Frag} {H0 G H : Hp} {v : V} {c : Cl} {a : Addr} (w : Vw K H0 G H v c) (h : Has c v a) : (∃ o, H a = some o ∧ ∀ C, o ≠ excO a C) ∧ G a = none := by
  cases w with
  | sh r => exact False.elim h
  | ex e => exact False.elim h
  | ow e r n => cases h; exact ⟨⟨_, e, fun C z => by cases z⟩, n⟩
  | dt e r n => cases h; exact ⟨⟨_, e, fun C z => by cases z⟩, n⟩
  | tr t =>
    rcases h with h | h
    · cases h; exact ⟨⟨_, t.top, fun C z => by cases z⟩, t.topG⟩
    · obtain ⟨m, vs, h1, h2, _⟩ := t.at h
      exact ⟨⟨_, h1, fun C z => by cases z⟩, h2⟩
theorem Vw.turn {K : PySem.W.Frag} {H0 G H G' H' : Hp} {v : V} {c : Cl} (w : Vw K H0 G H v c) (g : Same G G') (hx : ∀ a C, H a = some (excO a C) → H' a = some (excO a C)) (hh : ∀ a, Has c v a → H' a = H a ∧ G' a = G a) : Vw K H0 G' H' v c := by
  cases w with
  | sh r => exact .sh (r.same g)
  | ex h => exact .ex (hx _ _ h)
  | ow h r n =>
    obtain ⟨h1, h2⟩ := hh _ rfl
    exact .ow (h1.trans h) (r.same g) (h2.trans n)
  | dt h r n =>
    obtain ⟨h1, h2⟩ := hh _ rfl
    exact .dt (h1.trans h) (r.same g) (h2.trans n)
  | tr t =>
    obtain ⟨h1, h2⟩ := hh _ (.inl rfl)
    refine .tr ⟨h1.trans t.top, h2.trans t.topG, t.nd, t.len, fun k p m hp hm => ?_⟩
    obtain ⟨vs, q1, q2, q3⟩ := t.item k p m hp hm
    obtain ⟨h3, h4⟩ := hh p (.inr (List.mem_of_getElem? hp))
    exact ⟨vs, h3.trans q1, h4.trans q2, q3.same g⟩
theorem Gr.hid {G H G' H' : Hp} (g : Gr G H G' H') {l : Addr} {o : HO} (h : H l = some o) (n : G l = none) : G' l = none := by
  cases e : G' l with
  | none => rfl
  | some o =>
    rcases g.new _ _ e with q | q
    · rw [n] at q; cases q
    · rw [h] at q; cases q
theorem Vw.gr {K : PySem.W.Frag} {H0 G H G' H' : Hp} {v : V} {c : Cl} (w : Vw K H0 G H v c) (g : Gr G H G' H') : Vw K H0 G' H' v c :=
  w.turn g.g (fun a C e => g.h _ _ e) fun a h => by
    obtain ⟨⟨o, e, _⟩, n⟩ := w.has h
    exact ⟨(g.h _ _ e).trans e.symm, (g.hid e n).trans n.symm⟩
theorem Vw.rd {K : PySem.W.Frag} {H0 G H : Hp} {v : V} {c : Cl} (w : Vw K H0 G H v c) (s : Same G H) (hc : c.dat = true) : RdV K H v c.d := by
  cases w with
  | sh r => exact rdv_same s r.rd
  | ow h r n => exact .lst (SqL.of h) (rdvs_same s r.rd)
  | tr t => cases hc
  | dt _ _ _ => cases hc
  | ex h => cases hc
inductive Vws (K : PySem.W.Frag) (H0 G H : Hp) : List V → List Cl → Prop
  | nil : Vws K H0 G H [] []
  | cons {v c vs cs} : Vw K H0 G H v c → Vws K H0 G H vs cs → Vws K H0 G H (v :: vs) (c :: cs)
noncomputable def shs : List Cl → Option (Bool × List D)
  | [] => some (true, [])
  | .sh f d :: r => (shs r).map fun p => ((f && p.1), d :: p.2)
  | .ow _ _ :: _ => none
  | .tr _ _ :: _ => none
  | .dt _ :: _ => none
  | .ex _ :: _ => none
theorem Vws.shs {K : PySem.W.Frag} {H0 G H : Hp} {vs : List V} {cs : List Cl} {p : Bool × List D} (h : Vws K H0 G H vs cs) (e : shs cs = some p) : Rfs K H0 G p.1 vs p.2 := by
  induction h generalizing p with
  | nil => cases e; exact .nil
  | cons a b ih =>
    cases a with
    | sh r =>
      unfold L3.shs at e
      rename_i cs' f d
      cases q : L3.shs cs' with
      | none => rw [q] at e; cases e
      | some ds => rw [q] at e; cases e; exact .cons r (ih q)
    | ow _ _ _ => cases e
    | tr _ => cases e
    | dt _ _ _ => cases e
    | ex _ => cases e
theorem Vws.rds {K : PySem.W.Frag} {H0 G H : Hp} (s : Same G H) {vs : List V} {cs : List Cl} (h : Vws K H0 G H vs cs) (hd : cs.all Cl.dat = true) : RdVs K H vs (cs.map Cl.d) := by
  induction h with
  | nil => exact .nil
  | cons a b ih =>
    rw [List.all_cons, Bool.and_eq_true] at hd
    exact .cons (a.rd s hd.1) (ih hd.2)
structure Fr3 (K : PySem.W.Frag) (H0 G0 : Hp) (ρ : Env3) (σ : L2.St) (G H : Hp) : Prop where
  keep : Same H0 H
  sub : Same G H
  old : ∀ b o, G b = some o → G0 b = some o ∨ H0 b = none
  g0 : Same G0 G
  slot : ∀ (i : Nat) (c : Cl), ρ[i]? = some (some c) → ∃ v, σ[i]? = some (some v) ∧ Vw K H0 G H v c
  mine : ∀ (i : Nat) (c : Cl) (v : V) (a : Addr), ρ[i]? = some (some c) → σ[i]? = some (some v) → Has c v a → H0 a = none
  apart : ∀ (i j : Nat) (c c' : Cl) (v v' : V) (a : Addr), ρ[i]? = some (some c) → ρ[j]? = some (some c') → σ[i]? = some (some v) → σ[j]? = some (some v') → Has c v a → Has c' v' a → i = j
  len : ρ.length = σ.length
section
variable {K : PySem.W.Frag} {H0 G0 : Hp} {ρ : Env3} {σ : L2.St} {G H G' H' : Hp}
theorem Fr3.gr (F : Fr3 K H0 G0 ρ σ G H) (g : Gr G H G' H') : Fr3 K H0 G0 ρ σ G' H' where
  keep := F.keep.trans g.h
  sub := g.sub
  old := fun b o e => by
    rcases g.new b o e with q | q
    · exact F.old b o q
    · exact .inr (F.keep.free q)
  g0 := F.g0.trans g.g
  slot := fun i c e => by
    obtain ⟨v, h1, h2⟩ := F.slot i c e
    exact ⟨v, h1, h2.gr g⟩
  mine := F.mine
  apart := F.apart
  len := F.len
theorem get_set {α : Type} {l : List α} {i j : Nat} {x y : α} (h : (l.set i x)[j]? = some y) : (i = j ∧ y = x ∧ i < l.length) ∨ (i ≠ j ∧ l[j]? = some y) := by
  by_cases e : i = j
  · subst e
    rw [List.getElem?_set_self'] at h
    cases q : l[i]? with
    | none => rw [q] at h; cases h
    | some z =>
      rw [q] at h
      cases h
      exact .inl ⟨rfl, rfl, (List.getElem?_eq_some_iff.mp q).1⟩
  · rw [List.getElem?_set_ne e] at h
    exact .inr ⟨e, h⟩
theorem Fr3.vw (F : Fr3 K H0 G0 ρ σ G H) {i : Nat} {c : Cl} {v : V} (h : ρ[i]? = some (some c)) (h' : σ[i]? = some (some v)) : Vw K H0 G H v c := by
  obtain ⟨u, h1, h2⟩ := F.slot i c h
  rw [h'] at h1; cases h1
  exact h2
theorem Fr3.put (F : Fr3 K H0 G0 ρ σ G H) {i : Nat} {v : V} {c : Cl} (s : Same H H') (w : Vw K H0 G H' v c) (hn : ∀ a, Has c v a → H a = none) : Fr3 K H0 G0 (ρ.set i (some c)) (σ.set i (some v)) G H' := by
  have F' := F.gr (G' := G) (H' := H') ⟨Same.refl _, s, F.sub.trans s, fun _ _ e => .inl e⟩
  have ne : ∀ (j : Nat) (c' : Cl) (v' : V) (a : Addr), ρ[j]? = some (some c') → σ[j]? = some (some v') → Has c' v' a → Has c v a → False := fun j c' v' a e e' h h' => by
    obtain ⟨⟨o, q, _⟩, _⟩ := (F.vw e e').has h
    rw [hn a h'] at q; cases q
  exact {
    keep := F'.keep
    sub := F'.sub
    old := F'.old
    g0 := F'.g0
    slot := fun j c' e => by
      rcases get_set e with ⟨rfl, q, hl⟩ | ⟨n, q⟩
      · cases q
        exact ⟨v, by rw [List.getElem?_set_self (by rw [← F.len]; exact hl)], w⟩
      · obtain ⟨v', h1, h2⟩ := F'.slot j c' q
        exact ⟨v', by rw [List.getElem?_set_ne n]; exact h1, h2⟩
    mine := fun j c' v' a e e' h => by
      rcases get_set e with ⟨rfl, q, hl⟩ | ⟨n, q⟩
      · cases q
        rw [List.getElem?_set_self (by rw [← F.len]; exact hl)] at e'
        cases e'
        exact F.keep.free (hn a h)
      · rw [List.getElem?_set_ne n] at e'
        exact F.mine j c' v' a q e' h
    apart := fun j k c1 c2 v1 v2 a e1 e2 e3 e4 h1 h2 => by
      rcases get_set e1 with ⟨rfl, q, hl⟩ | ⟨n, q⟩
      · rcases get_set e2 with ⟨rfl, q', hl'⟩ | ⟨n', q'⟩
        · rfl
        · cases q
          rw [List.getElem?_set_self (by rw [← F.len]; exact hl)] at e3
          cases e3
          rw [List.getElem?_set_ne n'] at e4
          exact (ne k c2 v2 a q' e4 h2 h1).elim
      · rcases get_set e2 with ⟨rfl, q', hl'⟩ | ⟨n', q'⟩
        · cases q'
          rw [List.getElem?_set_self (by rw [← F.len]; exact hl')] at e4
          cases e4
          rw [List.getElem?_set_ne n] at e3
          exact (ne j c1 v1 a q e3 h1 h2).elim
        · rw [List.getElem?_set_ne n] at e3
          rw [List.getElem?_set_ne n'] at e4
          exact F.apart j k c1 c2 v1 v2 a q q' e3 e4 h1 h2
    len := by rw [List.length_set, List.length_set]; exact F.len }
theorem Fr3.set (F : Fr3 K H0 G0 ρ σ G H) {i : Nat} {v : V} {f : Bool} {d : D} (r : Rf K H0 G f v d) : Fr3 K H0 G0 (ρ.set i (some (.sh f d))) (σ.set i (some v)) G H := F.put (Same.refl _) (.sh r) fun _ h => False.elim h
theorem Fr3.own (F : Fr3 K H0 G0 ρ σ G H) {i : Nat} {l : Addr} {vs : List V} {f : Bool} {ds : List D} (r : Rfs K H0 G f vs ds) (hl : H l = none) : Fr3 K H0 G0 (ρ.set i (some (.ow f ds))) (σ.set i (some (.ref l))) G (upd H l (.lst vs)) :=
  F.put (same_new hl _) (.ow upd_same r (F.sub.free hl)) fun a h => by cases h; exact hl
theorem Fr3.chg (F : Fr3 K H0 G0 ρ σ G H) {i : Nat} {l : Addr} {o : HO} {c c' : Cl} {v : V} (hi : ρ[i]? = some (some c)) (hv : σ[i]? = some (some v)) (hl : Has c v l) (hc : ∀ a, Has c' v a → Has c v a) (w : Vw K H0 G (upd H l o) v c') : Fr3 K H0 G0 (ρ.set i (some c')) σ G (upd H l o) := by
  have h0 : H0 l = none := F.mine i c v l hi hv hl
  obtain ⟨⟨us, hu, hux⟩, gl⟩ := (F.vw hi hv).has hl
  refine ⟨fun b o e => by rw [upd_ne (ne_of_none e h0)]; exact F.keep b o e, fun b o e => by rw [upd_ne (ne_of_none e gl)]; exact F.sub b o e, F.old, F.g0, fun j c2 e => ?_, fun j c2 v2 a e e' h => ?_, fun j k c1 c2 v1 v2 a e1 e2 e3 e4 h1 h2 => ?_, by rw [List.length_set]; exact F.len⟩
  · rcases get_set e with ⟨rfl, q, _⟩ | ⟨n, q⟩
    · cases q
      exact ⟨v, hv, w⟩
    · obtain ⟨v', h1, h2⟩ := F.slot j c2 q
      refine ⟨v', h1, h2.turn (Same.refl _) (fun a C e => ?_) fun a h => ⟨?_, rfl⟩⟩
      · rw [upd_ne (fun z => by subst z; rw [hu] at e; exact hux C (Option.some.inj e))]; exact e
      · rw [upd_ne (fun z => by subst z; exact n (F.apart i j c c2 v v' a hi q hv h1 hl h))]
  · rcases get_set e with ⟨rfl, q, _⟩ | ⟨n, q⟩
    · cases q
      rw [hv] at e'; cases e'
      exact F.mine i c v a hi hv (hc a h)
    · exact F.mine j c2 v2 a q e' h
  · rcases get_set e1 with ⟨rfl, q, _⟩ | ⟨n, q⟩
    · rcases get_set e2 with ⟨rfl, q', _⟩ | ⟨n', q'⟩
      · rfl
      · cases q
        rw [hv] at e3; cases e3
        exact F.apart i k c c2 v v2 a hi q' hv e4 (hc a h1) h2
    · rcases get_set e2 with ⟨rfl, q', _⟩ | ⟨n', q'⟩
      · cases q'
        rw [hv] at e4; cases e4
        exact F.apart j i c1 c v1 v a q hi e3 hv h1 (hc a h2)
      · exact F.apart j k c1 c2 v1 v2 a q q' e3 e4 h1 h2
theorem Fr3.change (F : Fr3 K H0 G0 ρ σ G H) {i : Nat} {l : Addr} {vs : List V} {f f' : Bool} {ds es : List D} (hi : ρ[i]? = some (some (.ow f ds))) (hl : σ[i]? = some (some (.ref l))) (r : Rfs K H0 G f' vs es) : Fr3 K H0 G0 (ρ.set i (some (.ow f' es))) σ G (upd H l (.lst vs)) :=
  F.chg hi hl rfl (fun _ h => h) (.ow upd_same r ((F.vw hi hl).has rfl).2)
theorem Fr3.still (F : Fr3 K H0 G0 ρ σ G H) {i : Nat} {c : Cl} {v : V} {f : Bool} {d : D} (hi : ρ[i]? = some (some c)) (hv : σ[i]? = some (some v)) (r : ∀ G', Same G G' → (∀ a, Has c v a → G' a = H a ∧ H0 a = none) → Rf K H0 G' f v d) : ∃ G', Same G G' ∧ Fr3 K H0 G0 (ρ.set i (some (.sh f d))) σ G' H := by
  have hd : ∀ b, Decidable (Has c v b) := fun b => Classical.propDecidable _
  have w := F.vw hi hv
  have e1 : ∀ b, Has c v b → (fun b => if Has c v b then H b else G b) b = H b := fun b h => if_pos h
  have e2 : ∀ b, ¬ Has c v b → (fun b => if Has c v b then H b else G b) b = G b := fun b h => if_neg h
  generalize (fun b => if Has c v b then H b else G b) = G' at e1 e2
  have gg : Same G G' := fun b o e => by
    rw [e2 b (fun h => by rw [(w.has h).2] at e; cases e)]; exact e
  refine ⟨G', gg, F.keep, fun b o e => ?_, fun b o e => ?_, F.g0.trans gg, fun j c2 e => ?_, fun j c2 v2 a e e' h => ?_, fun j k c1 c2 v1 v2 a q1 q2 q3 q4 h1 h2 => ?_, by rw [List.length_set]; exact F.len⟩
  · by_cases h : Has c v b
    · rw [e1 b h] at e; exact e
    · rw [e2 b h] at e; exact F.sub b o e
  · by_cases h : Has c v b
    · exact .inr (F.mine i c v b hi hv h)
    · rw [e2 b h] at e; exact F.old b o e
  · rcases get_set e with ⟨rfl, q, _⟩ | ⟨n, q⟩
    · cases q
      exact ⟨v, hv, .sh (r G' gg fun a h => ⟨e1 a h, F.mine i c v a hi hv h⟩)⟩
    · obtain ⟨v', h1, h2⟩ := F.slot j c2 q
      exact ⟨v', h1, h2.turn gg (fun _ _ e => e) fun a h => ⟨rfl, e2 a fun h' => n (F.apart i j c c2 v v' a hi q hv h1 h' h)⟩⟩
  · rcases get_set e with ⟨rfl, q, _⟩ | ⟨n, q⟩
    · cases q; exact False.elim h
    · exact F.mine j c2 v2 a q e' h
  · rcases get_set q1 with ⟨rfl, q, _⟩ | ⟨n, q⟩
    · cases q; exact False.elim h1
    · rcases get_set q2 with ⟨rfl, q', _⟩ | ⟨n', q'⟩
      · cases q'; exact False.elim h2
      · exact F.apart j k c1 c2 v1 v2 a q q' q3 q4 h1 h2
theorem Fr3.freeze (F : Fr3 K H0 G0 ρ σ G H) {i : Nat} {f : Bool} {ds : List D} (hi : ρ[i]? = some (some (.ow f ds))) : ∃ G', Same G G' ∧ Fr3 K H0 G0 (ρ.set i (some (.sh f (.list ds)))) σ G' H := by
  obtain ⟨v, hv, w⟩ := F.slot i _ hi
  refine F.still hi hv fun G' gg q => ?_
  cases w with
  | ow h r n =>
    obtain ⟨q1, q2⟩ := q _ rfl
    rw [h] at q1
    exact ⟨.lst (SqL.of q1) (rdvs_same gg r.rd), fun hf => .lst q1 q2 (rdns_mono gg (fun _ _ _ z => z) (r.nw hf))⟩
theorem rdns_refs {ps : List Addr} {ms : List (List D)} (hl : ps.length = ms.length) (h : ∀ (k : Nat) (p : Addr) (m : List D), ps[k]? = some p → ms[k]? = some m → RdN K H0 G (.ref p) (.list m)) : RdNs K H0 G (ps.map V.ref) (ms.map PyData.list) := by
  induction ps generalizing ms with
  | nil => cases ms with
    | nil => exact .nil
    | cons m ms => cases hl
  | cons p ps ih => cases ms with
    | nil => cases hl
    | cons m ms => exact .cons (h 0 p m rfl rfl) (ih (Nat.succ.inj hl) fun k q n h1 h2 => h (k + 1) q n (by simpa using h1) (by simpa using h2))
theorem Fr3.freezeT (F : Fr3 K H0 G0 ρ σ G H) {i : Nat} {ps : List Addr} {ms : List (List D)} (hi : ρ[i]? = some (some (.tr ps ms))) : ∃ G', Same G G' ∧ Fr3 K H0 G0 (ρ.set i (some (.sh true (.list (ms.map PyData.list))))) σ G' H := by
  obtain ⟨v, hv, w⟩ := F.slot i _ hi
  refine F.still hi hv fun G' gg q => ?_
  cases w with
  | tr t =>
    obtain ⟨q1, q2⟩ := q _ (.inl rfl)
    have n : RdN K H0 G' (.ref _) (.list (ms.map PyData.list)) := .lst (q1.trans t.top) q2 (rdns_refs t.len fun k p m h1 h2 => by
      obtain ⟨vs, a, b, c⟩ := t.item k p m h1 h2
      obtain ⟨q3, q4⟩ := q p (.inr (List.mem_of_getElem? h1))
      exact .lst (q3.trans a) q4 (rdns_mono gg (fun _ _ _ z => z) (c.nw rfl)))
    exact ⟨rdn_rd n, fun _ => n⟩
theorem Fr3.rebase (F : Fr3 K H0 G0 ρ σ G H) : Fr3 K H0 G ρ σ G H := ⟨F.keep, F.sub, fun _ _ e => .inl e, Same.refl _, F.slot, F.mine, F.apart, F.len⟩
theorem Fr3.back {ρ1 : Env3} {σ1 : L2.St} {G1 H1 : Hp} (F : Fr3 K H0 G1 ρ σ G H) (B : Fr3 K H0 G0 ρ1 σ1 G1 H1) : Fr3 K H0 G0 ρ σ G H :=
  ⟨F.keep, F.sub, fun b o e => (F.old b o e).elim (fun q => B.old b o q) .inr, B.g0.trans F.g0, F.slot, F.mine, F.apart, F.len⟩
theorem Fr3.gr0 (F : Fr3 K H0 G0 ρ σ G H) : Gr G0 H0 G H := ⟨F.g0, F.keep, F.sub, F.old⟩
theorem Gr.back {ρ1 : Env3} {σ1 : L2.St} {G1 H1 : Hp} (g : Gr G1 H0 G H) (B : Fr3 K H0 G0 ρ1 σ1 G1 H1) : Gr G0 H0 G H :=
  ⟨B.g0.trans g.g, g.h, g.sub, fun b o e => (g.new b o e).elim (fun q => B.old b o q) .inr⟩
end
end L3
namespace L3
open PySem PySem.Spec PyProof.Rows L2
theorem el5 {α β γ : Type} {P R : α → β → γ → Prop} {C : Prop} (f : ∀ a b c, P a b c → R a b c → C) (h : ∃ a b c, P a b c ∧ R a b c) : C := by
  obtain ⟨a, b, c, x, y⟩ := h; exact f a b c x y
theorem el7 {α β γ δ : Type} {P R S : α → β → γ → δ → Prop} {C : Prop} (f : ∀ a b c d, P a b c d → R a b c d → S a b c d → C) (h : ∃ a b c d, P a b c d ∧ R a b c d ∧ S a b c d) : C := by
  obtain ⟨a, b, c, d, x, y, z⟩ := h; exact f a b c d x y z
theorem el2 {α β : Type} {P R S : α → β → Prop} {C : Prop} (f : ∀ a b, P a b → R a b → S a b → C) (h : ∃ a b, P a b ∧ R a b ∧ S a b) : C := by
  obtain ⟨a, b, x, y, z⟩ := h; exact f a b x y z
theorem el3 {α β γ : Type} {P R S T : α → β → γ → Prop} {C : Prop} (f : ∀ a b c, P a b c → R a b c → S a b c → T a b c → C) (h : ∃ a b c, P a b c ∧ R a b c ∧ S a b c ∧ T a b c) : C := by
  obtain ⟨a, b, c, x, y, z, w⟩ := h; exact f a b c x y z w
noncomputable abbrev TE3 := Env3 → (Cl → Prop) → Prop
noncomputable abbrev TT3 := Env3 → (Bool → Prop) → Prop
noncomputable abbrev TA3 := Env3 → (List Cl → Prop) → Prop
noncomputable abbrev TN3 := Env3 → (Bool → List D → Prop) → Prop
structure Ends3 where
  nx : Env3 → Prop
  rt : Bool → D → Prop
  bk : Env3 → Prop := fun _ => False
  ct : Env3 → Prop := fun _ => False
noncomputable abbrev TS3 := Ends3 → Env3 → Prop
noncomputable def liftE (K : PySem.W.Frag) (H0 : Hp) (t : TE3) : TE := fun σ H Q => ∃ G0 ρ G, Fr3 K H0 G0 ρ σ G H ∧ t ρ fun c => ∀ v G' H', Gr G H G' H' → Vw K H0 G' H' v c → Q v H'
noncomputable def liftN (K : PySem.W.Frag) (H0 : Hp) (t : TN3) : TE := fun σ H Q => ∃ G0 ρ G, Fr3 K H0 G0 ρ σ G H ∧ t ρ fun f ds => ∀ l vs G' H', Gr G H G' H' → H' l = none → Rfs K H0 G' f vs ds → Q (.ref l) (upd H' l (.lst vs))
noncomputable def liftT (K : PySem.W.Frag) (H0 : Hp) (t : TT3) : TT := fun σ H Q => ∃ G0 ρ G, Fr3 K H0 G0 ρ σ G H ∧ t ρ fun b => ∀ G' H', Gr G H G' H' → Q b H'
noncomputable def liftA (K : PySem.W.Frag) (H0 : Hp) (t : TA3) : TA := fun σ H Q => ∃ G0 ρ G, Fr3 K H0 G0 ρ σ G H ∧ t ρ fun cs => ∀ vs G' H', Gr G H G' H' → Vws K H0 G' H' vs cs → Q vs H'
structure LD (K : PySem.W.Frag) (H0 G0 : Hp) (A : Ends3) (B : Ends) : Prop where
  nx : ∀ ρ σ G H, Fr3 K H0 G0 ρ σ G H → A.nx ρ → B.nx σ H
  rt : ∀ f d v G H, Gr G0 H0 G H → Rf K H0 G f v d → A.rt f d → B.rt v H
  bk : ∀ ρ σ G H, Fr3 K H0 G0 ρ σ G H → A.bk ρ → B.bk σ H
  ct : ∀ ρ σ G H, Fr3 K H0 G0 ρ σ G H → A.ct ρ → B.ct σ H
noncomputable def liftS (K : PySem.W.Frag) (H0 : Hp) (t : TS3) : TS := fun B σ H => ∃ G0 A ρ G, Fr3 K H0 G0 ρ σ G H ∧ t A ρ ∧ LD K H0 G0 A B
structure PE3 (X : Cx) (H0 : Hp) (e : Expr) (t : TE3) : Prop where
  mono : ∀ ρ (Q Q' : Cl → Prop), (∀ c, Q c → Q' c) → t ρ Q → t ρ Q'
  ok : PE X e (liftE X.K H0 t)
structure PN3 (X : Cx) (H0 : Hp) (e : Expr) (t : TN3) : Prop where
  mono : ∀ ρ (Q Q' : Bool → List D → Prop), (∀ f c, Q f c → Q' f c) → t ρ Q → t ρ Q'
  ok : PE X e (liftN X.K H0 t)
structure PT3 (X : Cx) (H0 : Hp) (e : Expr) (t : TT3) : Prop where
  mono : ∀ ρ (Q Q' : Bool → Prop), (∀ c, Q c → Q' c) → t ρ Q → t ρ Q'
  ok : PT X e (liftT X.K H0 t)
structure PW3 (X : Cx) (H0 : Hp) (e : Expr) (t : TT3) : Prop where
  mono : ∀ ρ (Q Q' : Bool → Prop), (∀ c, Q c → Q' c) → t ρ Q → t ρ Q'
  ok : PW X e (liftT X.K H0 t)
structure PA3 (X : Cx) (H0 : Hp) (es : List Expr) (t : TA3) : Prop where
  mono : ∀ ρ (Q Q' : List Cl → Prop), (∀ c, Q c → Q' c) → t ρ Q → t ρ Q'
  ok : PA X es (liftA X.K H0 t)
noncomputable def PS3 (X : Cx) (H0 : Hp) (st : Stmt) (t : TS3) : Prop := PS X st (liftS X.K H0 t)
noncomputable def PSs3 (X : Cx) (H0 : Hp) (st : List Stmt) (t : TS3) : Prop := PSs X st (liftS X.K H0 t)
theorem PE.imp {X : Cx} {e : Expr} {t t' : TE} (h : PE X e t) (i : ∀ σ H Q, t' σ H Q → t σ H Q) : PE X e t' := fun pins s σ H Q I q => h pins s σ H Q I (i _ _ _ q)
theorem PT.imp {X : Cx} {e : Expr} {t t' : TT} (h : PT X e t) (i : ∀ σ H Q, t' σ H Q → t σ H Q) : PT X e t' := fun pins s σ H Q I q => h pins s σ H Q I (i _ _ _ q)
theorem PW.imp {X : Cx} {e : Expr} {t t' : TT} (h : PW X e t) (i : ∀ σ H Q, t' σ H Q → t σ H Q) : PW X e t' := fun wh pins s σ H Q I q => h wh pins s σ H Q I (i _ _ _ q)
theorem PA.imp {X : Cx} {e : List Expr} {t t' : TA} (h : PA X e t) (i : ∀ σ H Q, t' σ H Q → t σ H Q) : PA X e t' := fun pos pins s σ H Q I q => h pos pins s σ H Q I (i _ _ _ q)
theorem PS.imp {X : Cx} {e : Stmt} {t t' : TS} (h : PS X e t) (i : ∀ B σ H, t' B σ H → t B σ H) : PS X e t' := fun pins s σ H B I q => h pins s σ H B I (i _ _ _ q)
theorem PSs.imp {X : Cx} {e : List Stmt} {t t' : TS} (h : PSs X e t) (i : ∀ B σ H, t' B σ H → t B σ H) : PSs X e t' := fun pins s σ H B I q => h pins s σ H B I (i _ _ _ q)
section
variable {X : Cx} {H0 : Hp} {e a b c : Expr} {pos : Pos}
noncomputable def atV (o : Option (Option Cl)) (P : Cl → Prop) : Prop := match o with
  | some (some c) => P c
  | _ => False
theorem atV_of {o : Option (Option Cl)} {P : Cl → Prop} (h : atV o P) : ∃ c, o = some (some c) ∧ P c := by
  cases o with
  | none => exact False.elim h
  | some x => cases x with
    | none => exact False.elim h
    | some c => exact ⟨c, rfl, h⟩
noncomputable def asS (c : Cl) (P : Bool → D → Prop) : Prop := match c with
  | .sh f d => P f d
  | _ => False
theorem asS_of {c : Cl} {P : Bool → D → Prop} (h : asS c P) : ∃ f d, c = .sh f d ∧ P f d := by
  cases c with
  | sh f d => exact ⟨f, d, rfl, h⟩
  | _ => exact False.elim h
noncomputable def asD (d : D) (P : Bool → Prop) : Prop := match d with
  | .bool k => P k
  | _ => False
noncomputable def asB (c : Cl) (P : Bool → Prop) : Prop := match c with
  | .sh true d => asD d P
  | _ => False
theorem asB_of {c : Cl} {P : Bool → Prop} (h : asB c P) : ∃ k, c = .sh true (.bool k) ∧ P k := by
  cases c with
  | sh f d => cases f with
    | true => cases d with
      | bool k => exact ⟨k, rfl, h⟩
      | _ => exact False.elim h
    | false => exact False.elim h
  | _ => exact False.elim h
noncomputable def optP {α : Type} (o : Option α) (P : α → Prop) : Prop := match o with
  | some a => P a
  | none => False
theorem optP_of {α : Type} {o : Option α} {P : α → Prop} (h : optP o P) : ∃ a, o = some a ∧ P a := by
  cases o with
  | none => exact False.elim h
  | some a => exact ⟨a, rfl, h⟩
noncomputable def asT (d : D) (P : List D → Prop) : Prop := match d with
  | .tuple ds => P ds
  | _ => False
theorem asT_of {d : D} {P : List D → Prop} (h : asT d P) : ∃ ds, d = .tuple ds ∧ P ds := by
  cases d with
  | tuple ds => exact ⟨ds, rfl, h⟩
  | _ => exact False.elim h
noncomputable def asLd (d : D) (P : List D → Prop) : Prop := match d with
  | .list ds => P ds
  | _ => False
noncomputable def asL (c : Cl) (P : Bool → List D → Prop) : Prop := match c with
  | .sh f d => asLd d (P f)
  | _ => False
theorem asL_of {c : Cl} {P : Bool → List D → Prop} (h : asL c P) : ∃ f ds, c = .sh f (.list ds) ∧ P f ds := by
  cases c with
  | sh f d => cases d with
    | list ds => exact ⟨f, ds, rfl, h⟩
    | _ => exact False.elim h
  | _ => exact False.elim h
noncomputable def atO (o : Option (Option Cl)) (P : Bool → List D → Prop) : Prop := match o with
  | some (some (.ow f ds)) => P f ds
  | _ => False
theorem atO_of {o : Option (Option Cl)} {P : Bool → List D → Prop} (h : atO o P) : ∃ f ds, o = some (some (.ow f ds)) ∧ P f ds := by
  cases o with
  | none => exact False.elim h
  | some x => cases x with
    | none => exact False.elim h
    | some c => cases c with
      | ow f ds => exact ⟨f, ds, rfl, h⟩
      | _ => exact False.elim h
noncomputable def consP {α : Type} (l : List α) (P : α → List α → Prop) : Prop := match l with
  | d :: r => P d r
  | [] => False
theorem consP_of {α : Type} {l : List α} {P : α → List α → Prop} (h : consP l P) : ∃ d r, l = d :: r ∧ P d r := by
  cases l with
  | nil => exact False.elim h
  | cons d r => exact ⟨d, r, rfl, h⟩
noncomputable def nilP {α : Type} (l : List α) (P : Prop) : Prop := match l with
  | [] => P
  | _ :: _ => False
theorem nilP_of {α : Type} {l : List α} {P : Prop} (h : nilP l P) : l = [] ∧ P := by
  cases l with
  | nil => exact ⟨rfl, h⟩
  | cons d r => exact False.elim h
noncomputable def asId (d : D) (P : Int → Prop) : Prop := match d with
  | .int i => P i
  | _ => False
noncomputable def asI (c : Cl) (P : Int → Prop) : Prop := match c with
  | .sh true d => asId d P
  | _ => False
theorem asI_of {c : Cl} {P : Int → Prop} (h : asI c P) : ∃ k, c = .sh true (.int k) ∧ P k := by
  cases c with
  | sh f d => cases f with
    | true => cases d with
      | int k => exact ⟨k, rfl, h⟩
      | _ => exact False.elim h
    | false => exact False.elim h
  | _ => exact False.elim h
noncomputable def v3 (i : Nat) : TE3 := fun ρ Q => atV ρ[i]? Q
noncomputable def k3 (d : D) : TE3 := fun _ Q => Q (.sh true d)
theorem n3 (i : Nat) {x : Str} (hN : X.N[i]? = some x := by rfl) (hv : Vis X.env.scope x := by first | exact Or.inl rfl | exact Or.inr (Or.inl rfl) | exact Or.inr (Or.inr rfl)) (hd : (x == ("__debug__" : Str)) = false := by decide) (hcd : (x == ("__classdict__" : Str)) = false := by decide) :
    PE3 X H0 (.Name x pos) (v3 i) := by
  refine ⟨fun ρ Q Q' h q => ?_, PE.imp (pe_var hN hv hd hcd) fun σ H Q => el5 fun G0 ρ G F q => ?_⟩
  · obtain ⟨c, e, q⟩ := atV_of q
    show atV ρ[i]? Q'
    rw [e]; exact h c q
  obtain ⟨c, e, q⟩ := atV_of q
  obtain ⟨v, h1, h2⟩ := F.slot i c e
  exact ⟨v, h1, q v G H (Gr.refl F.sub) h2⟩
theorem const3 {v : V} {d : D} (h : PE X e (tC v)) (r : ∀ G, RdV X.K G v d) (hs : scal3 d = true) : PE3 X H0 e (k3 d) :=
  ⟨fun ρ Q Q' h q => h _ q, PE.imp h fun σ H Q => el5 fun G0 ρ G F q => q v G H (Gr.refl F.sub) (.sh (.sc hs (r G)))⟩
theorem i3 {i j pos} : PE3 X H0 (.Constant (.int i) j pos) (k3 (.int i)) := const3 pe_int (fun _ => .int i) rfl
theorem b3 {i j pos} : PE3 X H0 (.Constant (.bool i) j pos) (k3 (.bool i)) := const3 pe_bl (fun _ => .bl i) rfl
theorem non3 {j pos} : PE3 X H0 (.Constant .none j pos) (k3 .none) := const3 pe_non (fun _ => .non) rfl
theorem s3 {i j pos} : PE3 X H0 (.Constant (.str i) j pos) (k3 (.str i)) := const3 pe_str (fun _ => .str i) rfl
theorem g3 {x : Str} {v : V} {u : Value} {d : D} (hg : Gl X x) (hm : X.mg x = some u) (r : RelV v u) (rd : ∀ G, RdV X.K G v d) (hs : scal3 d = true) (hd : (x == ("__debug__" : Str)) = false := by decide) : PE3 X H0 (.Name x pos) (k3 d) := const3 (pe_glob hg hm r hd) rd hs
noncomputable def nw3 (t : TN3) : TE3 := fun ρ Q => t ρ fun f ds => Q (.sh f (.list ds))
theorem new3 {t : TN3} (h : PN3 X H0 e t) : PE3 X H0 e (nw3 t) :=
  ⟨fun ρ Q Q' hq q => h.mono ρ _ _ (fun f ds => hq _) q, PE.imp h.ok fun σ H Q => el5 fun G0 ρ G F q => ⟨G0, ρ, G, F, h.mono ρ _ _ (fun f ds k l vs G' H' g hl r =>
    k (.ref l) (upd G' l (.lst vs)) (upd H' l (.lst vs)) (g.trans (Gr.put g.sub hl)) (.sh ⟨.lst (SqL.of upd_same) (rdvs_same (same_new (g.sub.free hl) _) r.rd), fun hf => .lst upd_same ((F.keep.trans g.h).free hl) (rdns_mono (same_new (g.sub.free hl) _) (fun _ _ _ z => z) (r.nw hf))⟩)) q⟩⟩
noncomputable abbrev R3 := Cl → Cl → (Bool → D → Prop) → Prop
noncomputable def liftR (K : PySem.W.Frag) (H0 : Hp) (r : R3) : R2 := fun x y H Q => ∃ G a b, Same G H ∧ Vw K H0 G H x a ∧ Vw K H0 G H y b ∧ r a b fun f d => ∀ v G' H', Gr G H G' H' → Rf K H0 G' f v d → Q v H'
structure OpOk (X : Cx) (f : Value → Value → Sem Value) (r : R3) : Prop where
  mono : ∀ a b (Q Q' : Bool → D → Prop), (∀ f c, Q f c → Q' f c) → r a b Q → r a b Q'
  ok : ∀ H0, OpR X f (liftR X.K H0 r)
theorem OpR.imp {f : Value → Value → Sem Value} {r r' : R2} (h : OpR X f r) (i : ∀ x y H Q, r' x y H Q → r x y H Q) : OpR X f r' := fun pins s σ H x y v u Q I rx ry q => h pins s σ H x y v u Q I rx ry (i _ _ _ _ q)
noncomputable def o3 (r : R3) (ta tb : TE3) : TE3 := fun ρ Q => ta ρ fun a => tb ρ fun b => r a b fun f d => Q (.sh f d)
theorem o3_mono {r : R3} {ta tb : TE3} (hr : ∀ a b (Q Q' : Bool → D → Prop), (∀ f c, Q f c → Q' f c) → r a b Q → r a b Q') (ha : ∀ ρ (Q Q' : Cl → Prop), (∀ c, Q c → Q' c) → ta ρ Q → ta ρ Q') (hb : ∀ ρ (Q Q' : Cl → Prop), (∀ c, Q c → Q' c) → tb ρ Q → tb ρ Q') :
    ∀ ρ (Q Q' : Cl → Prop), (∀ c, Q c → Q' c) → o3 r ta tb ρ Q → o3 r ta tb ρ Q' := fun ρ Q Q' h q => ha ρ _ _ (fun a => hb ρ _ _ fun b => hr a b _ _ fun f d => h _) q
theorem o3_lift {r : R3} {ta tb : TE3} (hr : ∀ a b (Q Q' : Bool → D → Prop), (∀ f c, Q f c → Q' f c) → r a b Q → r a b Q') (ha : ∀ ρ (Q Q' : Cl → Prop), (∀ c, Q c → Q' c) → ta ρ Q → ta ρ Q') (hb : ∀ ρ (Q Q' : Cl → Prop), (∀ c, Q c → Q' c) → tb ρ Q → tb ρ Q') {K : PySem.W.Frag} :
    ∀ σ H Q, liftE K H0 (o3 r ta tb) σ H Q → tOp (liftR K H0 r) (liftE K H0 ta) (liftE K H0 tb) σ H Q := fun σ H Q => el5 fun G0 ρ G F q =>
  ⟨G0, ρ, G, F, ha ρ _ _ (fun a qa v1 G1 H1 g1 w1 => ⟨G0, ρ, G1, F.gr g1, hb ρ _ _ (fun b qb v2 G2 H2 g2 w2 => ⟨G2, a, b, g2.sub, w1.gr g2, w2, hr a b _ _ (fun f d k v G' H' g r => k v G' H' ((g1.trans g2).trans g) (.sh r)) qb⟩) qa⟩) q⟩
theorem op3 {op : Operator} {r : R3} {ta tb : TE3} (ho : OpOk X (binaryOp op) r) (ha : PE3 X H0 a ta) (hb : PE3 X H0 b tb) : PE3 X H0 (.BinOp a op b pos) (o3 r ta tb) :=
  ⟨o3_mono ho.mono ha.mono hb.mono, PE.imp (pe_op (ho.ok H0) ha.ok hb.ok) (o3_lift ho.mono ha.mono hb.mono)⟩
theorem cmp3 {op : CmpOp} {r : R3} {ta tb : TE3} (ho : OpOk X (compareOp op) r) (ha : PE3 X H0 a ta) (hb : PE3 X H0 b tb) (hm : behindInMarks op b = false) : PE3 X H0 (.Compare a [op] [b] pos) (o3 r ta tb) :=
  ⟨o3_mono ho.mono ha.mono hb.mono, PE.imp (pe_cmpR (ho.ok H0) ha.ok hb.ok hm) (o3_lift ho.mono ha.mono hb.mono)⟩
noncomputable def tt3 (t : TE3) : TT3 := fun ρ Q => t ρ fun c => asB c Q
theorem vw_bool {K : PySem.W.Frag} {H0 G H : Hp} {v : V} {f k : Bool} (w : Vw K H0 G H v (.sh f (.bool k))) : v = .bl k := by
  cases w with
  | sh r => cases r.rd; rfl
theorem tt3_lift {t : TE3} {K : PySem.W.Frag} (ht : ∀ ρ (Q Q' : Cl → Prop), (∀ c, Q c → Q' c) → t ρ Q → t ρ Q') : ∀ σ H Q, liftT K H0 (tt3 t) σ H Q → tTest (liftE K H0 t) σ H Q := fun σ H Q => el5 fun G0 ρ G F q =>
  ⟨G0, ρ, G, F, ht ρ _ _ (fun c q v G' H' g w => by obtain ⟨k, e, q⟩ := asB_of q; subst e; exact ⟨k, vw_bool w, q G' H' g⟩) q⟩
theorem tt3_mono {t : TE3} (ht : ∀ ρ (Q Q' : Cl → Prop), (∀ c, Q c → Q' c) → t ρ Q → t ρ Q') : ∀ ρ (Q Q' : Bool → Prop), (∀ c, Q c → Q' c) → tt3 t ρ Q → tt3 t ρ Q' := fun ρ Q Q' h q => ht ρ _ _ (fun c q => by obtain ⟨k, e, q⟩ := asB_of q; subst e; exact h k q) q
theorem tTest_imp {t t' : TE} (h : ∀ σ H Q, t' σ H Q → t σ H Q) : ∀ σ H Q, tTest t' σ H Q → tTest t σ H Q := fun σ H Q q => h _ _ _ q
theorem tcmp3 {op : CmpOp} {r : R3} {ta tb : TE3} (ho : OpOk X (compareOp op) r) (ha : PE3 X H0 a ta) (hb : PE3 X H0 b tb) (hm : behindInMarks op b = false) : PT3 X H0 (.Compare a [op] [b] pos) (tt3 (o3 r ta tb)) :=
  ⟨tt3_mono (o3_mono ho.mono ha.mono hb.mono), PT.imp (pt_cmpR (ho.ok H0) ha.ok hb.ok hm) fun σ H Q q => tTest_imp (o3_lift ho.mono ha.mono hb.mono) σ H Q (tt3_lift (o3_mono ho.mono ha.mono hb.mono) σ H Q q)⟩
noncomputable def ch3 (r r' : R3) (ta tb tc : TE3) : TE3 := fun ρ Q => ta ρ fun x => tb ρ fun y => r x y fun _ z => ∃ k, z = .bool k ∧ if k = true then tc ρ fun w => r' y w fun f d => Q (.sh f d) else Q (.sh true (.bool false))
theorem rdv_bool {K : PySem.W.Frag} {G : Hp} {v : V} {k : Bool} (w : RdV K G v (.bool k)) : v = .bl k := by cases w; rfl
theorem ch3_mono {r r' : R3} {ta tb tc : TE3} (hr : ∀ a b (Q Q' : Bool → D → Prop), (∀ f c, Q f c → Q' f c) → r a b Q → r a b Q') (hr' : ∀ a b (Q Q' : Bool → D → Prop), (∀ f c, Q f c → Q' f c) → r' a b Q → r' a b Q') (ha : ∀ ρ (Q Q' : Cl → Prop), (∀ c, Q c → Q' c) → ta ρ Q → ta ρ Q') (hb : ∀ ρ (Q Q' : Cl → Prop), (∀ c, Q c → Q' c) → tb ρ Q → tb ρ Q')
    (hc : ∀ ρ (Q Q' : Cl → Prop), (∀ c, Q c → Q' c) → tc ρ Q → tc ρ Q') : ∀ ρ (Q Q' : Cl → Prop), (∀ c, Q c → Q' c) → ch3 r r' ta tb tc ρ Q → ch3 r r' ta tb tc ρ Q' := fun ρ Q Q' h q => ha ρ _ _ (fun x => hb ρ _ _ fun y => hr x y _ _ fun _ z ⟨k, e, q⟩ => ⟨k, e, by
    cases k with
    | true => exact hc ρ _ _ (fun w => hr' y w _ _ fun f d => h _) q
    | false => exact h _ q⟩) q
theorem ch3_lift {r r' : R3} {ta tb tc : TE3} (hr : ∀ a b (Q Q' : Bool → D → Prop), (∀ f c, Q f c → Q' f c) → r a b Q → r a b Q') (hr' : ∀ a b (Q Q' : Bool → D → Prop), (∀ f c, Q f c → Q' f c) → r' a b Q → r' a b Q') (ha : ∀ ρ (Q Q' : Cl → Prop), (∀ c, Q c → Q' c) → ta ρ Q → ta ρ Q') (hb : ∀ ρ (Q Q' : Cl → Prop), (∀ c, Q c → Q' c) → tb ρ Q → tb ρ Q')
    (hc : ∀ ρ (Q Q' : Cl → Prop), (∀ c, Q c → Q' c) → tc ρ Q → tc ρ Q') {K : PySem.W.Frag} : ∀ σ H Q, liftE K H0 (ch3 r r' ta tb tc) σ H Q → tChain (liftR K H0 r) (liftR K H0 r') (liftE K H0 ta) (liftE K H0 tb) (liftE K H0 tc) σ H Q := fun σ H Q => el5 fun G0 ρ G F q =>
  ⟨G0, ρ, G, F, ha ρ _ _ (fun x qx v1 G1 H1 g1 w1 => ⟨G0, ρ, G1, F.gr g1, hb ρ _ _ (fun y qy v2 G2 H2 g2 w2 => ⟨G2, x, y, g2.sub, w1.gr g2, w2, hr x y _ _ (fun _ z hyp v3 G3 H3 g3 r3 => by
    obtain ⟨k, e, q⟩ := hyp
    subst e
    refine ⟨k, rdv_bool r3.rd, ?_⟩
    cases k with
    | false => exact q _ G3 H3 ((g1.trans g2).trans g3) (.sh (.sc rfl (.bl false)))
    | true => exact ⟨G0, ρ, G3, F.gr ((g1.trans g2).trans g3), hc ρ _ _ (fun w qw v4 G4 H4 g4 w4 => ⟨G4, y, w, g4.sub, (w2.gr g3).gr g4, w4, hr' y w _ _ (fun f d k v G' H' g r => k v G' H' ((((g1.trans g2).trans g3).trans g4).trans g) (.sh r)) qw⟩) q⟩) qy⟩) qx⟩) q⟩
theorem tchain3 {op op' : CmpOp} {r r' : R3} {ta tb tc : TE3} (ho : OpOk X (compareOp op) r) (ho' : OpOk X (compareOp op') r') (ha : PE3 X H0 a ta) (hb : PE3 X H0 b tb) (hc : PE3 X H0 c tc) (hm : lastMarks [op, op'] [b, c] = false := by with_unfolding_all rfl) :
    PT3 X H0 (.Compare a [op, op'] [b, c] pos) (tt3 (ch3 r r' ta tb tc)) :=
  ⟨tt3_mono (ch3_mono ho.mono ho'.mono ha.mono hb.mono hc.mono), PT.imp (pt_chain (ho.ok H0) (ho'.ok H0) ha.ok hb.ok hc.ok hm) fun σ H Q q => tTest_imp (ch3_lift ho.mono ho'.mono ha.mono hb.mono hc.mono) σ H Q (tt3_lift (ch3_mono ho.mono ho'.mono ha.mono hb.mono hc.mono) σ H Q q)⟩
noncomputable abbrev U3 := Cl → (Bool → D → Prop) → Prop
noncomputable def liftU (K : PySem.W.Frag) (H0 : Hp) (r : U3) : V → Hp → VK → Prop := fun x H Q => ∃ G a, Same G H ∧ Vw K H0 G H x a ∧ r a fun f d => ∀ v G' H', Gr G H G' H' → Rf K H0 G' f v d → Q v H'
structure UnOk (X : Cx) (f : Value → Sem Value) (r : U3) : Prop where
  mono : ∀ a (Q Q' : Bool → D → Prop), (∀ f c, Q f c → Q' f c) → r a Q → r a Q'
  ok : ∀ H0, UnR X f (liftU X.K H0 r)
noncomputable def u3 (r : U3) (ta : TE3) : TE3 := fun ρ Q => ta ρ fun a => r a fun f d => Q (.sh f d)
theorem un3 {op : UnaryOp} {r : U3} {ta : TE3} (ho : UnOk X (unaryOp op) r) (ha : PE3 X H0 a ta) : PE3 X H0 (.UnaryOp op a pos) (u3 r ta) :=
  ⟨fun ρ Q Q' h q => ha.mono ρ _ _ (fun a => ho.mono a _ _ fun f d => h _) q, PE.imp (pe_un (ho.ok H0) ha.ok) fun σ H Q => el5 fun G0 ρ G F q =>
    ⟨G0, ρ, G, F, ha.mono ρ _ _ (fun a qa v1 G1 H1 g1 w1 => ⟨G1, a, g1.sub, w1, ho.mono a _ _ (fun f d k v G' H' g r => k v G' H' (g1.trans g) (.sh r)) qa⟩) q⟩⟩
theorem val3 {t : TE3} (h : PE3 X H0 e t) (he : ∀ whole, isTrue e X.env whole = (do let v ← whole; standAt e.pos; holding [v] (truthy v)) := by intro _; rfl) : PT3 X H0 e (tt3 t) :=
  ⟨tt3_mono h.mono, PT.imp (pt_val h.ok he) (tt3_lift h.mono)⟩
noncomputable def and3 (t u : TT3) : TT3 := fun ρ Q => t ρ fun k => if k = true then u ρ Q else Q false
noncomputable def or3 (t u : TT3) : TT3 := fun ρ Q => t ρ fun k => if k = true then Q true else u ρ Q
noncomputable def not3 (t : TT3) : TT3 := fun ρ Q => t ρ fun k => Q (!k)
theorem not3_ok {t : TT3} (h : PT3 X H0 a t) : PT3 X H0 (.UnaryOp .Not a pos) (not3 t) :=
  ⟨fun ρ Q Q' hq q => h.mono ρ _ _ (fun k => hq _) q, PT.imp (pt_not h.ok) fun σ H Q => el5 fun G0 ρ G F q => ⟨G0, ρ, G, F, q⟩⟩
theorem and1_3 {t : TT3} (h : PT3 X H0 a t) : PW3 X H0 (.BoolOp .And [a] pos) t := ⟨h.mono, pw_and1 h.ok⟩
theorem or1_3 {t : TT3} (h : PT3 X H0 a t) : PW3 X H0 (.BoolOp .Or [a] pos) t := ⟨h.mono, pw_or1 h.ok⟩
theorem and3_ok {rest : List Expr} {t u : TT3} (h : PT3 X H0 a t) (h' : PW3 X H0 (.BoolOp .And (b :: rest) pos) u) : PW3 X H0 (.BoolOp .And (a :: b :: rest) pos) (and3 t u) :=
  ⟨fun ρ Q Q' hq q => h.mono ρ _ _ (fun k => by cases k; exact hq _; exact h'.mono ρ _ _ hq) q, PW.imp (pw_and h.ok h'.ok) fun σ H Q => el5 fun G0 ρ G F q => ⟨G0, ρ, G, F, h.mono ρ _ _ (fun k qk G1 H1 g1 => by
    cases k with
    | false => exact qk G1 H1 g1
    | true => exact ⟨G0, ρ, G1, F.gr g1, h'.mono ρ _ _ (fun k q G2 H2 g2 => q G2 H2 (g1.trans g2)) qk⟩) q⟩⟩
theorem or3_ok {rest : List Expr} {t u : TT3} (h : PT3 X H0 a t) (h' : PW3 X H0 (.BoolOp .Or (b :: rest) pos) u) : PW3 X H0 (.BoolOp .Or (a :: b :: rest) pos) (or3 t u) :=
  ⟨fun ρ Q Q' hq q => h.mono ρ _ _ (fun k => by cases k; exact h'.mono ρ _ _ hq; exact hq _) q, PW.imp (pw_or h.ok h'.ok) fun σ H Q => el5 fun G0 ρ G F q => ⟨G0, ρ, G, F, h.mono ρ _ _ (fun k qk G1 H1 g1 => by
    cases k with
    | true => exact qk G1 H1 g1
    | false => exact ⟨G0, ρ, G1, F.gr g1, h'.mono ρ _ _ (fun k q G2 H2 g2 => q G2 H2 (g1.trans g2)) qk⟩) q⟩⟩
theorem pw3 {t : TT3} (h : PW3 X H0 e t) : PT3 X H0 e t := ⟨h.mono, h.ok.pt⟩
noncomputable def andV3 (ta tb : TE3) : TE3 := fun ρ Q => ta ρ fun c => ∃ k, c = .sh true (.bool k) ∧ if k = true then tb ρ Q else Q (.sh true (.bool false))
theorem one3 {op} {t : TE3} (h : PE3 X H0 a t) : PE3 X H0 (.BoolOp op [a] pos) t := ⟨h.mono, pe_one h.ok⟩
theorem andV3_ok {rest : List Expr} {ta tb : TE3} (h : PE3 X H0 a ta) (h' : PE3 X H0 (.BoolOp .And (b :: rest) pos) tb) : PE3 X H0 (.BoolOp .And (a :: b :: rest) pos) (andV3 ta tb) :=
  ⟨fun ρ Q Q' hq q => h.mono ρ _ _ (fun c ⟨k, e, q⟩ => ⟨k, e, by cases k; exact hq _ q; exact h'.mono ρ _ _ hq q⟩) q, PE.imp (pe_and h.ok h'.ok) fun σ H Q => el5 fun G0 ρ G F q => ⟨G0, ρ, G, F, h.mono ρ _ _ (fun c hyp v G1 H1 g1 w => by
    obtain ⟨k, e, qk⟩ := hyp
    subst e
    refine ⟨k, vw_bool w, ?_⟩
    cases k with
    | false => exact qk _ G1 H1 g1 (.sh (.sc rfl (.bl false)))
    | true => exact ⟨G0, ρ, G1, F.gr g1, h'.mono ρ _ _ (fun k q v G2 H2 g2 => q v G2 H2 (g1.trans g2)) qk⟩) q⟩⟩
noncomputable def nil3 : TA3 := fun _ Q => Q []
noncomputable def cons3 (ta : TE3) (tr : TA3) : TA3 := fun ρ Q => ta ρ fun c => tr ρ fun cs => Q (c :: cs)
theorem a_nil : PA3 X H0 [] nil3 := ⟨fun ρ Q Q' h q => h _ q, PA.imp pa_nil fun σ H Q => el5 fun G0 ρ G F q => q [] G H (Gr.refl F.sub) .nil⟩
theorem a_cons {es : List Expr} {ta : TE3} {tr : TA3} (ha : PE3 X H0 e ta) (hr : PA3 X H0 es tr) (hs : starEach (e :: es) X.env = (false, eval e X.env) :: starEach es X.env := by rfl) : PA3 X H0 (e :: es) (cons3 ta tr) :=
  ⟨fun ρ Q Q' h q => ha.mono ρ _ _ (fun c => hr.mono ρ _ _ fun cs => h _) q, PA.imp (pa_cons ha.ok hr.ok hs) fun σ H Q => el5 fun G0 ρ G F q =>
    ⟨G0, ρ, G, F, ha.mono ρ _ _ (fun c qc v G1 H1 g1 w1 => ⟨G0, ρ, G1, F.gr g1, hr.mono ρ _ _ (fun cs k vs G2 H2 g2 w2 => k (v :: vs) G2 H2 (g1.trans g2) (.cons (w1.gr g2) w2)) qc⟩) q⟩⟩
noncomputable def tup3 (t : TA3) : TE3 := fun ρ Q => t ρ fun cs => optP (shs cs) fun p => p.2.length ≤ sizeLine ∧ Q (.sh p.1 (.tuple p.2))
theorem tup3_ok {es : List Expr} {t : TA3} {x1} (h : PA3 X H0 es t) : PE3 X H0 (.Tuple es x1 pos) (tup3 t) :=
  ⟨fun ρ Q Q' hq q => h.mono ρ _ _ (fun cs q => by obtain ⟨ds, e, z, q⟩ := optP_of q; rw [e]; exact ⟨z, hq _ q⟩) q, PE.imp (pe_tup h.ok) fun σ H Q => el5 fun G0 ρ G F q => ⟨G0, ρ, G, F, h.mono ρ _ _ (fun cs hyp vs G1 H1 g1 w => by
    obtain ⟨ds, e, z, k⟩ := optP_of hyp
    have r := w.shs e
    refine ⟨by rw [r.length]; exact z, fun p hp => k (.ref p) (upd G1 p (.tup vs)) (upd H1 p (.tup vs)) (g1.trans (Gr.put g1.sub hp)) (.sh ⟨.tup (SqT.of upd_same) (rdvs_same (same_new (g1.sub.free hp) _) r.rd), fun hf => .tup (SqT.of upd_same) (rdns_mono (same_new (g1.sub.free hp) _) (fun _ _ _ z => z) (r.nw hf))⟩)⟩) q⟩⟩
noncomputable def lst3 (t : TA3) : TN3 := fun ρ Q => t ρ fun cs => optP (shs cs) fun p => p.2.length ≤ sizeLine ∧ Q p.1 p.2
theorem lst3_ok {es : List Expr} {t : TA3} (h : PA3 X H0 es t) : PN3 X H0 (.List es pos) (lst3 t) :=
  ⟨fun ρ Q Q' hq q => h.mono ρ _ _ (fun cs q => by obtain ⟨ds, e, z, q⟩ := optP_of q; rw [e]; exact ⟨z, hq _ _ q⟩) q, PE.imp (pe_lst h.ok) fun σ H Q => el5 fun G0 ρ G F q => ⟨G0, ρ, G, F, h.mono ρ _ _ (fun cs hyp vs G1 H1 g1 w => by
    obtain ⟨ds, e, z, k⟩ := optP_of hyp
    have r := w.shs e
    exact ⟨by rw [r.length]; exact z, fun p hp => k p vs G1 H1 g1 hp r⟩) q⟩⟩
noncomputable abbrev C3 := List Cl → (Bool → D → Prop) → Prop
noncomputable def liftC (K : PySem.W.Frag) (H0 : Hp) (r : C3) : List V → Hp → VK → Prop := fun xs H Q => ∃ G cs, Same G H ∧ Vws K H0 G H xs cs ∧ r cs fun f d => ∀ v G' H', Gr G H G' H' → Rf K H0 G' f v d → Q v H'
structure CallOk (X : Cx) (f : Value) (r : C3) : Prop where
  mono : ∀ cs (Q Q' : Bool → D → Prop), (∀ f c, Q f c → Q' f c) → r cs Q → r cs Q'
  ok : ∀ H0, CallR X f (liftC X.K H0 r)
theorem CallR.imp {f : Value} {r r' : List V → Hp → VK → Prop} (h : CallR X f r) (i : ∀ xs H Q, r' xs H Q → r xs H Q) : CallR X f r' := fun pins s σ H xs us Q I rv q => h pins s σ H xs us Q I rv (i _ _ _ q)
noncomputable def cb3 (r : C3) (t : TA3) : TE3 := fun ρ Q => t ρ fun cs => r cs fun f d => Q (.sh f d)
variable {x : Str} {p : Pos} {es : List Expr} {id T : String}
theorem callB3 {r : C3} {t : TA3} (hc : CallOk X (.builtin id) r) (hg : Gl X x) (hm : X.mg x = none) (hv : bootBuiltins x = some (.builtin id)) (ha : PA3 X H0 (e :: es) t) (hn : x ≠ "__name__" := by decide) (hdb : (x == ("__debug__" : Str)) = false := by decide)
    (he : starEach (e :: es) X.env = (false, eval e X.env) :: starEach es X.env := by rfl) (hpl : (backTo pos (starEach es X.env)).any (·.1) = false := by rfl) : PE3 X H0 (.Call (.Name x p) (e :: es) [] pos) (cb3 r t) :=
  ⟨fun ρ Q Q' h q => ha.mono ρ _ _ (fun cs => hc.mono cs _ _ fun f d => h _) q, PE.imp (pe_callB (hc.ok H0) hg hm hv ha.ok hn hdb he hpl) fun σ H Q => el5 fun G0 ρ G F q => ⟨G0, ρ, G, F, ha.mono ρ _ _ (fun cs qc vs G1 H1 g1 w => ⟨G1, cs, g1.sub, w, hc.mono cs _ _ (fun f d k v G' H' g r => k v G' H' (g1.trans g) (.sh r)) qc⟩) q⟩⟩
noncomputable abbrev Sp3 := List D → (Bool → D → Prop) → (Addr → Prop) → Prop
noncomputable def spL (K : PySem.W.Frag) (sp : Sp3) : Sp := fun vs H Q E => ∃ G ds, Same G H ∧ RdVs K G vs ds ∧ sp ds (fun f d => ∀ v G' H', Gr G H G' H' → Rf K H G' f v d → Q v H') fun C => ∀ H', Same H H' → E (.ref C) none H'
theorem scal3_any {K : PySem.W.Frag} {G G' : Hp} {v : V} {d : D} (h : scal3 d = true) (r : RdV K G v d) : RdV K G' v d := by
  cases r with
  | non => exact .non
  | bl b => exact .bl b
  | int i => exact .int i
  | str s => exact .str s
  | lst _ _ => cases h
  | tup _ _ => cases h
structure Df3 (P : Program) (w : World) (K : PySem.W.Frag) (mg : Str → Option Value) (base : Heap) (k : Nat) (x : Str) (ps : List Str) (sp : Sp3) : Prop where
  mono : ∀ ds (Q Q' : Bool → D → Prop) (E E' : Addr → Prop), (∀ f d, Q f d → Q' f d) → (∀ d, E d → E' d) → sp ds Q E → sp ds Q' E'
  ok : Df P w K mg base k x ps (spL K sp)
noncomputable def call3 (sp : Sp3) (E : Addr → Prop) (t : TA3) : TE3 := fun ρ Q => t ρ fun cs => cs.all Cl.dat = true ∧ sp (cs.map Cl.d) (fun f d => ((shs cs).isSome = true ∨ scal3 d = true) ∧ Q (.sh f d)) E
theorem shs_d : ∀ {cs : List Cl} {p : Bool × List D}, shs cs = some p → cs.map Cl.d = p.2
  | [], _, e => by cases e; rfl
  | .sh _ d :: r, ds, e => by
    unfold shs at e
    cases q : shs r with
    | none => rw [q] at e; cases e
    | some es => rw [q] at e; cases e; rw [List.map_cons, shs_d q]; rfl
  | .ow _ _ :: r, _, e => by cases e
  | .tr _ _ :: r, _, e => by cases e
  | .dt _ :: r, _, e => by cases e
  | .ex _ :: r, _, e => by cases e
theorem df3 {k : Nat} {ps : List Str} {sp : Sp3} {E : XK} {E3 : Addr → Prop} {t : TA3} (hE : ∀ C H', E3 C → Same H0 H' → E (.ref C) none H') (Gd : Df3 X.prog X.w X.K X.mg X.base k x ps sp) (hr : Room k X.A) (hg : Gl X x) (hx : Passes (CXR X.prog X.w) X E) (ha : PA3 X H0 (e :: es) t) (hdb : (x == ("__debug__" : Str)) = false := by decide)
    (he : starEach (e :: es) X.env = (false, eval e X.env) :: starEach es X.env := by rfl) (hpl : (backTo pos (starEach es X.env)).any (·.1) = false := by rfl) : PE3 X H0 (.Call (.Name x p) (e :: es) [] pos) (call3 sp E3 t) := by
  refine ⟨fun ρ Q Q' h q => ha.mono ρ _ _ (fun cs ⟨hd, q⟩ => ⟨hd, Gd.mono _ _ _ _ _ (fun f d ⟨a, b⟩ => ⟨a, h _ b⟩) (fun _ z => z) q⟩) q, PE.imp (pe_df Gd.ok hr hg hx ha.ok hdb he hpl) fun σ H Q => el5 fun G0 ρ G F q => ⟨G0, ρ, G, F, ha.mono ρ _ _ (fun cs ⟨hd, qc⟩ vs G1 H1 g1 w => ?_) q⟩⟩
  show spL X.K sp (vs ++ []) H1 Q E
  rw [List.append_nil]
  have kE : ∀ C, E3 C → ∀ H', Same H1 H' → E (.ref C) none H' := fun C c H' s => hE C H' c ((F.gr g1).keep.trans s)
  cases hs : shs cs with
  | some ds =>
    refine ⟨G1, cs.map Cl.d, g1.sub, by rw [shs_d hs]; exact (w.shs hs).rd, Gd.mono _ _ _ _ _ (fun f d ⟨_, k⟩ v G' H' g r => k v G' H' (g1.trans g) (.sh ⟨r.rd, fun hf => rdn_mono (Same.refl _) (fun _ _ _ z => (F.gr g1).keep.free z) (r.nw hf)⟩)) kE qc⟩
  | none =>
    refine ⟨H1, cs.map Cl.d, Same.refl _, w.rds g1.sub hd, Gd.mono _ _ _ _ _ (fun f d ⟨s, k⟩ v G' H' g r => ?_) kE qc⟩
    have sc : scal3 d = true := s.resolve_left (by rw [hs]; simp)
    exact k v G1 H' (g1.trans ⟨Same.refl _, g.h, g1.sub.trans g.h, fun _ _ e => .inl e⟩) (.sh (.sc sc (scal3_any sc r.rd)))
end
end L3
namespace L3
open PySem PySem.Spec PyProof.Rows L2
theorem cons_inv {K : PySem.W.Frag} {G : Hp} {vs : List V} {d : D} {ds : List D} (r : RdVs K G vs (d :: ds)) : ∃ v us, vs = v :: us ∧ RdV K G v d ∧ RdVs K G us ds := by
  cases r with
  | cons a b => exact ⟨_, _, rfl, a, b⟩
theorem tup_inv {K : PySem.W.Frag} {G : Hp} {v : V} {ds : List D} (r : RdV K G v (.tuple ds)) : ∃ a xs, v = .ref a ∧ SqT K G a xs ∧ RdVs K G xs ds := by
  cases r with
  | tup a b => exact ⟨_, _, rfl, a, b⟩
theorem lst_inv {K : PySem.W.Frag} {G : Hp} {v : V} {ds : List D} (r : RdV K G v (.list ds)) : ∃ a xs, v = .ref a ∧ SqL K G a xs ∧ RdVs K G xs ds := by
  cases r with
  | lst a b => exact ⟨_, _, rfl, a, b⟩
theorem sh_inv {K : PySem.W.Frag} {H0 G H : Hp} {v : V} {f : Bool} {d : D} (w : Vw K H0 G H v (.sh f d)) : Rf K H0 G f v d := by
  cases w with
  | sh r => exact r
theorem rfs_inv {K : PySem.W.Frag} {H0 G : Hp} {f : Bool} {vs : List V} {d : D} {ds : List D} (r : Rfs K H0 G f vs (d :: ds)) : ∃ v us, vs = v :: us ∧ Rf K H0 G f v d ∧ Rfs K H0 G f us ds := by
  obtain ⟨v, us, rfl, a, b⟩ := cons_inv r.rd
  exact ⟨v, us, rfl, ⟨a, fun h => by cases r.nw h with | cons x y => exact x⟩, ⟨b, fun h => by cases r.nw h with | cons x y => exact y⟩⟩
theorem rftup_inv {K : PySem.W.Frag} {H0 G : Hp} {f : Bool} {v : V} {ds : List D} (r : Rf K H0 G f v (.tuple ds)) : ∃ a xs, v = .ref a ∧ SqT K G a xs ∧ Rfs K H0 G f xs ds := by
  cases f with
  | false =>
    obtain ⟨a, xs, rfl, h, rs⟩ := tup_inv r.rd
    exact ⟨a, xs, rfl, h, rs, fun h => by cases h⟩
  | true =>
    have n := r.nw rfl
    cases n with
    | tup h rs => exact ⟨_, _, rfl, h, rdns_rd rs, fun _ => rs⟩
theorem rflst_inv {K : PySem.W.Frag} {H0 G : Hp} {f : Bool} {v : V} {ds : List D} (r : Rf K H0 G f v (.list ds)) : ∃ a xs, v = .ref a ∧ SqL K G a xs ∧ Rfs K H0 G f xs ds := by
  cases f with
  | false =>
    obtain ⟨a, xs, rfl, h, rs⟩ := lst_inv r.rd
    exact ⟨a, xs, rfl, h, rs, fun h => by cases h⟩
  | true =>
    have n := r.nw rfl
    cases n with
    | lst h _ rs => exact ⟨_, _, rfl, SqL.of h, rdns_rd rs, fun _ => rs⟩
section
variable {X : Cx} {H0 : Hp} {e a b c : Expr} {pos : Pos} {st : Stmt} {rest : List Stmt}
noncomputable def next3 : TS3 := fun A ρ => A.nx ρ
noncomputable def seq3 (t u : TS3) : TS3 := fun A ρ => t { A with nx := u A } ρ
theorem ss_nil : PSs3 X H0 [] next3 := PSs.imp pss_nil fun B σ H => el7 fun G0 A ρ G F q L => L.nx ρ σ G H F q
theorem ss_cons {t u : TS3} (h1 : PS3 X H0 st t) (h2 : PSs3 X H0 rest u) : PSs3 X H0 (st :: rest) (seq3 t u) := PSs.imp (pss_cons h1 h2) fun B σ H => el7 fun G0 A ρ G F q L =>
  ⟨G0, { A with nx := u A }, ρ, G, F, q, ⟨fun ρ' σ' G' H' F' q' => ⟨G0, A, ρ', G', F', q', L⟩, L.rt, L.bk, L.ct⟩⟩
theorem ss_one {t : TS3} (h1 : PS3 X H0 st t) : PSs3 X H0 [st] t := pss_one h1
noncomputable def drop3 (te : TE3) : TS3 := fun A ρ => te ρ fun _ => A.nx ρ
theorem s_expr {te : TE3} (he : PE3 X H0 e te) (hs : swapsWith e none pos.line X.env = pure false := by rfl) : PS3 X H0 (.Expr e pos) (drop3 te) := PS.imp (ps_expr he.ok hs) fun B σ H => el7 fun G0 A ρ G F q L =>
  ⟨G0, ρ, G, F, he.mono ρ _ _ (fun c q v G' H' g w => L.nx ρ σ G' H' (F.gr g) q) q⟩
noncomputable def ret3 (te : TE3) : TS3 := fun A ρ => te ρ fun c => asS c A.rt
theorem s_ret {te : TE3} (he : PE3 X H0 e te) : PS3 X H0 (.Return (some e) pos) (ret3 te) := PS.imp (ps_ret he.ok) fun B σ H => el7 fun G0 A ρ G F q L =>
  ⟨G0, ρ, G, F, he.mono ρ _ _ (fun c hyp v G' H' g w => by
    obtain ⟨f, d, hc, q⟩ := asS_of hyp
    subst hc
    exact L.rt f d v G' H' (F.gr g).gr0 (sh_inv w) q) q⟩
noncomputable def ifS3 (t : TT3) (u v : TS3) : TS3 := fun A ρ => t ρ fun k => if k = true then u A ρ else v A ρ
theorem s_if {xs ys : List Stmt} {t : TT3} {u v : TS3} (hc : PT3 X H0 c t) (ha : PSs3 X H0 xs u) (hb : PSs3 X H0 ys v) : PS3 X H0 (.If c xs ys pos) (ifS3 t u v) := PS.imp (ps_if hc.ok ha hb) fun B σ H => el7 fun G0 A ρ G F q L =>
  ⟨G0, ρ, G, F, hc.mono ρ _ _ (fun k q G' H' g => by
    cases k with
    | true => exact ⟨G0, A, ρ, G', F.gr g, q, L⟩
    | false => exact ⟨G0, A, ρ, G', F.gr g, q, L⟩) q⟩
noncomputable def set3 (i : Nat) (te : TE3) : TS3 := fun A ρ => te ρ fun c => asS c fun f d => A.nx (ρ.set i (some (.sh f d)))
theorem s_set {i : Nat} {x : Str} {te : TE3} {pos' : Pos} (hN : X.N.Nodup) (hi : X.N[i]? = some x) (hx : Loc X.env.scope x) (he : PE3 X H0 e te) (hs : swapsWith e (some (.Name x pos')) pos.line X.env = pure false := by rfl)
    (hf : X.fn x = true ∨ X.env.scope.names.lookup x = some .local := by first | exact .inl rfl | exact .inr rfl | assumption) : PS3 X H0 (.Assign [.Name x pos'] e pos) (set3 i te) := PS.imp (ps_set hN hi hx he.ok hs hf) fun B σ H => el7 fun G0 A ρ G F q L =>
  ⟨G0, ρ, G, F, he.mono ρ _ _ (fun c hyp v G' H' g w => by
    obtain ⟨f, d, hc, q⟩ := asS_of hyp
    subst hc
    exact L.nx _ _ G' H' ((F.gr g).set (sh_inv w)) q) q⟩
noncomputable def own3 (i : Nat) (tn : TN3) : TS3 := fun A ρ => tn ρ fun f ds => A.nx (ρ.set i (some (.ow f ds)))
theorem s_own {i : Nat} {x : Str} {tn : TN3} {pos' : Pos} (hN : X.N.Nodup) (hi : X.N[i]? = some x) (hx : Loc X.env.scope x) (he : PN3 X H0 e tn) (hs : swapsWith e (some (.Name x pos')) pos.line X.env = pure false := by rfl)
    (hf : X.fn x = true ∨ X.env.scope.names.lookup x = some .local := by first | exact .inl rfl | exact .inr rfl | assumption) : PS3 X H0 (.Assign [.Name x pos'] e pos) (own3 i tn) := PS.imp (ps_set hN hi hx he.ok hs hf) fun B σ H => el7 fun G0 A ρ G F q L =>
  ⟨G0, ρ, G, F, he.mono ρ _ _ (fun f ds q l vs G' H' g hl r => L.nx _ _ G' _ ((F.gr g).own r hl) q) q⟩
noncomputable abbrev TG3 := Bool → D → Env3 → (Env3 → Prop) → Prop
noncomputable abbrev TGs3 := Bool → List D → Env3 → (Env3 → Prop) → Prop
noncomputable def liftG (K : PySem.W.Frag) (H0 : Hp) (g : TG3) : TG := fun v σ H Q => ∃ G0 ρ G f d, Fr3 K H0 G0 ρ σ G H ∧ Rf K H0 G f v d ∧ g f d ρ fun ρ' => ∀ σ' G' H', Fr3 K H0 G0 ρ' σ' G' H' → Same G G' → Gr G H G' H' → Q σ' H'
noncomputable def liftGs (K : PySem.W.Frag) (H0 : Hp) (g : TGs3) : TGs := fun vs σ H Q => ∃ G0 ρ G f ds, Fr3 K H0 G0 ρ σ G H ∧ Rfs K H0 G f vs ds ∧ g f ds ρ fun ρ' => ∀ σ' G' H', Fr3 K H0 G0 ρ' σ' G' H' → Same G G' → Gr G H G' H' → Q σ' H'
structure PG3 (X : Cx) (H0 : Hp) (tg : Expr) (g : TG3) : Prop where
  mono : ∀ f d ρ (Q Q' : Env3 → Prop), (∀ c, Q c → Q' c) → g f d ρ Q → g f d ρ Q'
  ok : PG X tg (liftG X.K H0 g)
structure PGs3 (X : Cx) (H0 : Hp) (tg : List Expr) (g : TGs3) : Prop where
  mono : ∀ f d ρ (Q Q' : Env3 → Prop), (∀ c, Q c → Q' c) → g f d ρ Q → g f d ρ Q'
  ok : PGs X tg (liftGs X.K H0 g)
theorem PG.imp {tg : Expr} {t t' : TG} (h : PG X tg t) (i : ∀ v σ H Q, t' v σ H Q → t v σ H Q) : PG X tg t' := fun pins s σ H v u Q I r q => h pins s σ H v u Q I r (i _ _ _ _ q)
theorem PGs.imp {tg : List Expr} {t t' : TGs} (h : PGs X tg t) (i : ∀ v σ H Q, t' v σ H Q → t v σ H Q) : PGs X tg t' := fun pins s σ H v u Q I r q => h pins s σ H v u Q I r (i _ _ _ _ q)
noncomputable def gn3 (i : Nat) : TG3 := fun f d ρ Q => Q (ρ.set i (some (.sh (f || scal3 d) d)))
theorem t_name {i : Nat} {x : Str} (hN : X.N.Nodup) (hi : X.N[i]? = some x) (hx : Loc X.env.scope x) (hf : X.fn x = true ∨ X.env.scope.names.lookup x = some .local := by first | exact .inl rfl | exact .inr rfl | assumption) : PG3 X H0 (.Name x pos) (gn3 i) :=
  ⟨fun f d ρ Q Q' h q => h _ q, PG.imp (pg_name hN hi hx hf) fun v σ H Q ⟨G0, ρ, G, f, d, F, r, q⟩ => q _ G H (F.set r.or) (Same.refl _) (Gr.refl F.sub)⟩
noncomputable def gnil3 : TGs3 := fun _ ds ρ Q => nilP ds (Q ρ)
noncomputable def gcons3 (t : TG3) (u : TGs3) : TGs3 := fun f ds ρ Q => consP ds fun d r => t f d ρ fun ρ' => u f r ρ' Q
theorem ts_nil : PGs3 X H0 [] gnil3 :=
  ⟨fun f d ρ Q Q' h q => by obtain ⟨e, q⟩ := nilP_of q; subst e; exact h _ q, PGs.imp pgs_nil fun vs σ H Q hyp => by
    obtain ⟨G0, ρ, G, f, ds, F, r, q⟩ := hyp
    obtain ⟨e, q⟩ := nilP_of q
    subst e
    cases r.rd
    exact ⟨rfl, q σ G H F (Same.refl _) (Gr.refl F.sub)⟩⟩
theorem ts_cons {es : List Expr} {t : TG3} {u : TGs3} (h1 : PG3 X H0 e t) (h2 : PGs3 X H0 es u) (hs : (assignEach (e :: es) X.env).map (·.2) = assign e X.env :: (assignEach es X.env).map (·.2) := by rfl) : PGs3 X H0 (e :: es) (gcons3 t u) :=
  ⟨fun f d ρ Q Q' h q => by obtain ⟨x, r, e, q⟩ := consP_of q; subst e; exact h1.mono f x ρ _ _ (fun ρ' => h2.mono f r ρ' _ _ h) q, PGs.imp (pgs_cons h1.ok h2.ok hs) fun vs σ H Q hyp => by
    obtain ⟨G0, ρ, G, f, ds, F, r, q⟩ := hyp
    obtain ⟨x, y, e, q⟩ := consP_of q
    subst e
    obtain ⟨v, us, rfl, r1, r2⟩ := rfs_inv r
    exact ⟨v, us, rfl, G0, ρ, G, f, x, F, r1, h1.mono f x ρ _ _ (fun ρ' q σ1 G1 H1 F1 s1 g1 => ⟨G0, ρ', G1, f, y, F1, r2.same s1, h2.mono f y ρ' _ _ (fun ρ2 q σ2 G2 H2 F2 s2 g2 => q σ2 G2 H2 F2 (s1.trans s2) (g1.trans g2)) q⟩) q⟩⟩
noncomputable def gtup3 (n : Nat) (t : TGs3) : TG3 := fun f d ρ Q => asT d fun ds => ds.length = n ∧ t f ds ρ Q
theorem t_tup {es : List Expr} {k : Nat} {t : TGs3} {n : Nat} (hc : X.calm = true) (h : PGs3 X H0 es t) (hn : (assignEach es X.env).length = n := by rfl) (hst : (assignEach es X.env).findIdx? (·.1) = none := by rfl) : PG3 X H0 (.Tuple es k pos) (gtup3 n t) :=
  ⟨fun f d ρ Q Q' hq q => by obtain ⟨ds, e, l, q'⟩ := asT_of q; subst e; exact ⟨l, h.mono f ds ρ _ _ hq q'⟩, PG.imp (pg_tup hc h.ok hn hst) fun v σ H Q hyp => by
    obtain ⟨G0, ρ, G, f, d, F, r, q⟩ := hyp
    obtain ⟨ds, e, l, q'⟩ := asT_of q
    subst e
    obtain ⟨a, xs, rfl, hq, rs⟩ := rftup_inv r
    exact ⟨a, xs, rfl, F.sub.tup hq, by rw [rs.length]; exact l, G0, ρ, G, f, ds, F, rs, q'⟩⟩
noncomputable def asg3 (te : TE3) (g : TG3) : TS3 := fun A ρ => te ρ fun c => asS c fun f d => g f d ρ A.nx
theorem s_asg {tg : Expr} {te : TE3} {g : TG3} (he : PE3 X H0 e te) (hg : PG3 X H0 tg g) (hs : swapsWithSole [tg] e pos.line X.env = pure false := by rfl) (hw : swappedStores [tg] e X.env = pure none := by rfl)
    (h1 : (assignEach [tg] X.env).map (·.2) = [assign tg X.env] := by rfl) : PS3 X H0 (.Assign [tg] e pos) (asg3 te g) := PS.imp (ps_asg he.ok hg.ok hs hw h1) fun B σ H => el7 fun G0 A ρ G F q L =>
  ⟨G0, ρ, G, F, he.mono ρ _ _ (fun c hyp v G' H' g' w => by
    obtain ⟨f, d, hc, q⟩ := asS_of hyp
    subst hc
    exact ⟨G0, ρ, G', f, d, F.gr g', sh_inv w, hg.mono f d ρ _ _ (fun ρ2 q σ2 G2 H2 F2 _ _ => L.nx ρ2 σ2 G2 H2 F2 q) q⟩) q⟩
theorem own_at {K : PySem.W.Frag} {G0 : Hp} {ρ : Env3} {σ : L2.St} {G H : Hp} {i : Nat} {f : Bool} {ds : List D} (F : Fr3 K H0 G0 ρ σ G H) (h : ρ[i]? = some (some (.ow f ds))) : ∃ l vs, σ[i]? = some (some (.ref l)) ∧ H l = some (.lst vs) ∧ Rfs K H0 G f vs ds := by
  obtain ⟨v, h1, h2⟩ := F.slot i _ h
  cases h2 with
  | ow hh r n => exact ⟨_, _, h1, hh, r⟩
noncomputable def app3 (i : Nat) (te : TE3) : TS3 := fun A ρ => atO ρ[i]? fun f ds => te ρ fun c => asS c fun g d => ds.length < sizeLine ∧ A.nx (ρ.set i (some (.ow (f && g) (ds ++ [d]))))
theorem s_append {i : Nat} {te : TE3} {x : Str} {np apos cpos : Pos} (hN : X.N[i]? = some x) (hv : Vis X.env.scope x) (he : PE3 X H0 e te) (hd : (x == ("__debug__" : Str)) = false := by decide) (hcd : (x == ("__classdict__" : Str)) = false := by decide)
    (hb : attributeBase (.Name x np) "append" X.env (eval (.Name x np) X.env) = eval (.Name x np) X.env := by rfl)
    (hf : ((backTo cpos (starEach [e] X.env)).all (fun x => !x.1) && (backToKw cpos (keywordEach [] X.env)).all (fun x => x.1.isSome) && decide ([e].length + ([] : List Keyword).length + (if ([] : List Keyword).isEmpty then 0 else 1) < 30)) = true := by rfl)
    (hl : (apos.endLine == cpos.line) = true := by rfl) (hs : starEach [e] X.env = (false, eval e X.env) :: starEach [] X.env := by rfl) (hp : (backTo cpos (starEach [] X.env)).any (·.1) = false := by rfl)
    (hw : swapsWith (.Call (.Attribute (.Name x np) "append" apos) [e] [] cpos) none pos.line X.env = pure false := by rfl) : PS3 X H0 (.Expr (.Call (.Attribute (.Name x np) "append" apos) [e] [] cpos) pos) (app3 i te) := by
  refine PS.imp (ps_expr (pe_append (pe_var hN hv hd hcd) (pa_cons he.ok pa_nil hs) hb hf hl hs hp) hw) fun B σ H hyp => ?_
  obtain ⟨G0, A, ρ, G, F, q, L⟩ := hyp
  obtain ⟨f, ds, hi, q⟩ := atO_of q
  obtain ⟨l, vs, h1, h2, r⟩ := own_at F hi
  refine ⟨.ref l, h1, tyV_lst h2, G0, ρ, G, F, he.mono ρ _ _ (fun c q v G' H' g w => ?_) q⟩
  obtain ⟨f', d, hc, hz, q'⟩ := asS_of q
  subst hc
  exact ⟨l, vs, v, rfl, rfl, g.h _ _ h2, by rw [r.length]; exact hz, L.nx _ _ _ _ ((F.gr g).change hi h1 ((r.same g.g).snoc (sh_inv w))) q'⟩
noncomputable def put3 (i : Nat) (tk te : TE3) : TS3 := fun A ρ => atO ρ[i]? fun f ds => te ρ fun c => tk ρ fun k => asS c fun g d => asI k fun n => ∃ j, ixN ds.length n = some j ∧ A.nx (ρ.set i (some (.ow (f && g) (ds.set j d))))
theorem s_put {i : Nat} {tk te : TE3} {x : Str} {np spos : Pos} {k : Expr} (hN : X.N[i]? = some x) (hv : Vis X.env.scope x) (hk : PE3 X H0 k tk) (he : PE3 X H0 e te) (hd : (x == ("__debug__" : Str)) = false := by decide) (hcd : (x == ("__classdict__" : Str)) = false := by decide)
    (hs : swapsWithSole [.Subscript (.Name x np) k spos] e pos.line X.env = pure false := by rfl) (hw : swappedStores [.Subscript (.Name x np) k spos] e X.env = pure none := by rfl)
    (h1 : (assignEach [.Subscript (.Name x np) k spos] X.env).map (·.2) = [assign (.Subscript (.Name x np) k spos) X.env] := by rfl)
    (ha : ∀ v, assign (.Subscript (.Name x np) k spos) X.env v = (do
      let ov ← holding [v] (eval (.Name x np) X.env)
      let iv ← holding [v, ov] (eval k X.env)
      standAt spos
      holding [v, ov, iv] (setItem ov iv v)
      release [v, ov, iv] []) := by intro _; rfl) : PS3 X H0 (.Assign [.Subscript (.Name x np) k spos] e pos) (put3 i tk te) := by
  refine PS.imp (ps_asg he.ok (pg_sub (pe_var hN hv hd hcd) hk.ok set_list ha) hs hw h1) fun B σ H hyp => ?_
  obtain ⟨G0, A, ρ, G, F, q, L⟩ := hyp
  obtain ⟨f, ds, hi, q⟩ := atO_of q
  refine ⟨G0, ρ, G, F, he.mono ρ _ _ (fun c qc v G1 H1 g1 w1 => ?_) q⟩
  obtain ⟨l, vs, h1, h2, r⟩ := own_at F hi
  refine ⟨.ref l, h1, G0, ρ, G1, F.gr g1, hk.mono ρ _ _ (fun kc q kv G2 H2 g2 w2 => ?_) qc⟩
  obtain ⟨f', d, hc, q1⟩ := asS_of q
  obtain ⟨n, hn, j, hj, q'⟩ := asI_of q1
  subst hc hn
  have rk := (sh_inv w2).rd
  cases rk
  refine ⟨l, vs, n, j, rfl, rfl, g2.h _ _ (g1.h _ _ h2), by rw [r.length]; exact hj, L.nx _ _ _ _ (((F.gr g1).gr g2).change hi h1 ((r.same (g1.g.trans g2.g)).set ((sh_inv w1).same g2.g) j)) q'⟩
noncomputable def frz1 (i : Nat) (ρ : Env3) : Env3 := match ρ[i]? with
  | some (some (.ow f ds)) => ρ.set i (some (.sh f (.list ds)))
  | some (some (.tr _ ms)) => ρ.set i (some (.sh true (.list (ms.map PyData.list))))
  | _ => ρ
noncomputable def frz : List Nat → Env3 → Env3
  | [], ρ => ρ
  | i :: r, ρ => frz r (frz1 i ρ)
theorem Fr3.frz1 {K : PySem.W.Frag} {G0 : Hp} {ρ : Env3} {σ : L2.St} {G H : Hp} (F : Fr3 K H0 G0 ρ σ G H) (i : Nat) : ∃ G', Same G G' ∧ Fr3 K H0 G0 (L3.frz1 i ρ) σ G' H := by
  unfold L3.frz1
  split
  · rename_i f ds h; exact F.freeze h
  · rename_i ps ms h; exact F.freezeT h
  · exact ⟨G, Same.refl _, F⟩
theorem Fr3.frz {K : PySem.W.Frag} {G0 : Hp} {σ : L2.St} {H : Hp} : ∀ (is : List Nat) {ρ : Env3} {G : Hp}, Fr3 K H0 G0 ρ σ G H → ∃ G', Same G G' ∧ Fr3 K H0 G0 (L3.frz is ρ) σ G' H
  | [], ρ, G, F => ⟨G, Same.refl _, F⟩
  | i :: r, ρ, G, F => by
    obtain ⟨G1, s1, F1⟩ := F.frz1 i
    obtain ⟨G2, s2, F2⟩ := Fr3.frz r F1
    exact ⟨G2, s1.trans s2, F2⟩
noncomputable def frzS (is : List Nat) (t : TS3) : TS3 := fun A ρ => t A (frz is ρ)
theorem s_frz (is : List Nat) {t : TS3} (h : PS3 X H0 st t) : PS3 X H0 st (frzS is t) := PS.imp h fun B σ H => el7 fun G0 A ρ G F q L => by
  obtain ⟨G', s', F'⟩ := F.frz is
  exact ⟨G0, A, frz is ρ, G', F', q, L⟩
noncomputable def whN (c : TT3) (tb : TS3) (A : Ends3) : Nat → Env3 → Prop
  | 0, _ => False
  | n + 1, ρ => c ρ fun k => if k = true then tb { A with nx := whN c tb A n, ct := whN c tb A n, bk := A.nx } ρ else A.nx ρ
noncomputable def while3 (c : TT3) (tb : TS3) : TS3 := fun A ρ => ∃ n, whN c tb A n ρ
theorem s_while {body : List Stmt} {tc : TT3} {tb : TS3} (hp : PassesOwn (model X.prog X.w) X.A X.env X.xe) (hc : PT3 X H0 c tc) (hb : PSs3 X H0 body tb) : PS3 X H0 (.While c body [] pos) (while3 tc tb) := PS.imp (ps_while hp hc.ok hb) fun B σ H hyp => by
  obtain ⟨G0, A, ρ, G, F, ⟨n, q⟩, L⟩ := hyp
  refine ⟨fun m σ' H' => ∃ ρ' G', Fr3 X.K H0 G0 ρ' σ' G' H' ∧ whN tc tb A m ρ', ⟨n, ρ, G, F, q⟩, ?_⟩
  rintro m σ' H' ⟨ρ', G', F', q'⟩
  cases m with
  | zero => exact q'.elim
  | succ m =>
    refine ⟨G0, ρ', G', F', hc.mono ρ' _ _ (fun k q G2 H2 g => ?_) q'⟩
    cases k with
    | false => exact L.nx ρ' σ' G2 H2 (F'.gr g) q
    | true =>
      exact ⟨fun σ3 H3 => ∃ ρ3 G3, Fr3 X.K H0 G0 ρ3 σ3 G3 H3 ∧ whN tc tb A m ρ3, fun σ3 H3 h3 => ⟨m, Nat.lt_succ_self _, h3⟩,
        G0, _, ρ', G2, F'.gr g, q, ⟨fun ρ4 σ4 G4 H4 F4 q4 => ⟨ρ4, G4, F4, q4⟩, L.rt, L.nx, fun ρ4 σ4 G4 H4 F4 q4 => ⟨ρ4, G4, F4, q4⟩⟩⟩
structure ItOk (K : PySem.W.Frag) (H0 : Hp) (J : It) (fl : Bool) (ds : List D) (Gs : Hp) : Prop where
  go : ∀ (i : Nat) d G H, ds[i]? = some d → Same Gs G → Same G H → J.go i H ∧ ∀ x H', J.yld i H x H' → ∃ G', Gr G H G' H' ∧ Rf K H0 G' fl x d
  stop : ∀ (i : Nat) G H, i = ds.length → Same Gs G → Same G H → J.stop i H
noncomputable abbrev TI3 := Env3 → (Bool → List D → Prop) → Prop
noncomputable def liftI (K : PySem.W.Frag) (H0 : Hp) (t : TI3) : TI := fun σ H R => ∃ G0 ρ G, Fr3 K H0 G0 ρ σ G H ∧ t ρ fun f ds => ∀ J G' H', Gr G H G' H' → ItOk K H0 J f ds G' → R J H'
structure PI3 (X : Cx) (H0 : Hp) (tg iter : Expr) (t : TI3) : Prop where
  mono : ∀ ρ (Q Q' : Bool → List D → Prop), (∀ f c, Q f c → Q' f c) → t ρ Q → t ρ Q'
  ok : PI X tg iter (liftI X.K H0 t)
noncomputable def forL (g : TG3) (tb : TS3) (A : Ends3) (f : Bool) : List D → Env3 → Prop
  | [], ρ => A.nx ρ
  | d :: ds, ρ => g f d ρ fun ρ' => tb { A with nx := forL g tb A f ds, ct := forL g tb A f ds, bk := A.nx } ρ'
noncomputable def for3 (ti : TI3) (g : TG3) (tb : TS3) : TS3 := fun A ρ => ti ρ fun f ds => forL g tb A f ds ρ
theorem s_for {tg iter : Expr} {body : List Stmt} {ti : TI3} {g : TG3} {tb : TS3} (hp : PassesOwn (model X.prog X.w) X.A X.env X.xe) (hc : X.calm = true) (hi : PI3 X H0 tg iter ti) (hg : PG3 X H0 tg g) (hb : PSs3 X H0 body tb)
    (hs : ∀ x, foldedSetIterable iter X.env x = pure x := by intro _; rfl) : PS3 X H0 (.For tg iter body [] pos) (for3 ti g tb) := PS.imp (ps_for hp hc hi.ok hg.ok hb hs) fun B σ H => el7 fun G0 A ρ G F q L => by
  refine ⟨G0, ρ, G, F, hi.mono ρ _ _ (fun f ds k J G1 H1 g1 ok => ?_) q⟩
  have B1 : Fr3 X.K H0 G0 ρ σ G1 H1 := F.gr g1
  refine ⟨fun i m σ' H' => i ≤ ds.length ∧ m = ds.length - i ∧ ∃ ρ' G', Fr3 X.K H0 G1 ρ' σ' G' H' ∧ forL g tb A f (ds.drop i) ρ', ⟨ds.length, Nat.zero_le _, rfl, ρ, G1, B1.rebase, k⟩, ?_⟩
  rintro i m σ' H' ⟨hil, rfl, ρ', G', F', k'⟩
  by_cases hlt : i < ds.length
  · right
    have hd : ds[i]? = some ds[i] := List.getElem?_eq_getElem hlt
    obtain ⟨hgo, hy⟩ := ok.go i _ G' H' hd F'.g0 F'.sub
    rw [List.drop_eq_getElem_cons hlt] at k'
    refine ⟨hgo, fun σ2 H2 => ∃ ρ2 G2, Fr3 X.K H0 G1 ρ2 σ2 G2 H2 ∧ forL g tb A f (ds.drop (i + 1)) ρ2, fun σ2 H2 h2 => ⟨_, Nat.sub_lt_sub_left hlt (Nat.lt_succ_self _), Nat.succ_le_of_lt hlt, rfl, h2⟩, fun x H2 y => ?_⟩
    obtain ⟨G2, g2, r2⟩ := hy x H2 y
    refine ⟨G1, ρ', G2, f, _, F'.gr g2, r2, hg.mono f _ ρ' _ _ (fun ρ3 q3 σ3 G3 H3 F3 _ _ => ⟨G1, _, ρ3, G3, F3, q3, ?_⟩) k'⟩
    exact ⟨fun ρ4 σ4 G4 H4 F4 q4 => ⟨ρ4, G4, F4, q4⟩, fun f d v G4 H4 g4 r4 q4 => L.rt f d v G4 H4 (g4.back B1) r4 q4, fun ρ4 σ4 G4 H4 F4 q4 => L.nx ρ4 σ4 G4 H4 (F4.back B1) q4, fun ρ4 σ4 G4 H4 F4 q4 => ⟨ρ4, G4, F4, q4⟩⟩
  · left
    have e : i = ds.length := Nat.le_antisymm hil (Nat.not_lt.mp hlt)
    rw [e, List.drop_length] at k'
    exact ⟨ok.stop i G' H' e F'.g0 F'.sub, L.nx ρ' σ' G' H' (F'.back B1) k'⟩
theorem PI.imp {tg iter : Expr} {t t' : TI} (h : PI X tg iter t) (i : ∀ σ H R, t' σ H R → t σ H R) : PI X tg iter t' := fun pins s σ H R I q => h pins s σ H R I (i _ _ _ q)
noncomputable def itL (te : TE3) : TI3 := fun ρ Q => te ρ fun c => asL c Q
noncomputable def itT (te : TE3) : TI3 := fun ρ Q => te ρ fun c => ∃ f ds, c = .sh f (.tuple ds) ∧ Q f ds
theorem itl_ok {K : PySem.W.Frag} {H0 G : Hp} {a : Addr} {xs : List V} {f : Bool} {ds : List D} (hq : SqL K G a xs) (r : Rfs K H0 G f xs ds) : ItOk K H0 (Itl K a) f ds G where
  go := fun i d G' H hd s1 s2 => by
    obtain ⟨x, hx, rx⟩ := r.get hd
    refine ⟨⟨xs, x, (s1.trans s2).seq hq, hx⟩, fun y H' ⟨e, hy⟩ => ?_⟩
    subst e
    have := hy xs ((s1.trans s2).seq hq)
    rw [hx] at this; cases this
    exact ⟨G', Gr.refl s2, rx.same s1⟩
  stop := fun i G' H hl s1 s2 => ⟨xs, (s1.trans s2).seq hq, by rw [r.length, hl]; exact Nat.le_refl _⟩
theorem itt_ok {K : PySem.W.Frag} {H0 G : Hp} {a : Addr} {xs : List V} {f : Bool} {ds : List D} (hq : SqT K G a xs) (r : Rfs K H0 G f xs ds) : ItOk K H0 (Itt K a) f ds G where
  go := fun i d G' H hd s1 s2 => by
    obtain ⟨x, hx, rx⟩ := r.get hd
    refine ⟨⟨xs, x, (s1.trans s2).tup hq, hx⟩, fun y H' ⟨e, hy⟩ => ?_⟩
    subst e
    have := hy xs ((s1.trans s2).tup hq)
    rw [hx] at this; cases this
    exact ⟨G', Gr.refl s2, rx.same s1⟩
  stop := fun i G' H hl s1 s2 => ⟨xs, (s1.trans s2).tup hq, by rw [r.length, hl]; exact Nat.le_refl _⟩
theorem it_list {tg iter : Expr} {te : TE3} (h : PE3 X H0 iter te) : PI3 X H0 tg iter (itL te) :=
  ⟨fun ρ Q Q' hq q => h.mono ρ _ _ (fun c q => by obtain ⟨f, ds, e, q⟩ := asL_of q; subst e; exact hq _ _ q) q, PI.imp (pi_list h.ok) fun σ H R => el5 fun G0 ρ G F q => ⟨G0, ρ, G, F, h.mono ρ _ _ (fun c hyp v G' H' g w => by
    obtain ⟨f, ds, e, k⟩ := asL_of hyp
    subst e
    obtain ⟨a, xs, rfl, hq, rs⟩ := rflst_inv (sh_inv w)
    exact ⟨a, rfl, ⟨xs, g.sub.seq hq⟩, k _ G' H' g (itl_ok hq rs)⟩) q⟩⟩
theorem it_tup {tg iter : Expr} {te : TE3} (h : PE3 X H0 iter te) : PI3 X H0 tg iter (itT te) :=
  ⟨fun ρ Q Q' hq q => h.mono ρ _ _ (fun c ⟨f, ds, e, q⟩ => ⟨f, ds, e, hq _ _ q⟩) q, PI.imp (pi_tup h.ok) fun σ H R => el5 fun G0 ρ G F q => ⟨G0, ρ, G, F, h.mono ρ _ _ (fun c hyp v G' H' g w => by
    obtain ⟨f, ds, e, k⟩ := hyp
    subst e
    obtain ⟨a, xs, rfl, hq, rs⟩ := rftup_inv (sh_inv w)
    exact ⟨a, rfl, ⟨xs, g.sub.tup hq⟩, k _ G' H' g (itt_ok hq rs)⟩) q⟩⟩
noncomputable def nums (lo : Int) (n : Nat) : List D := (List.range n).map fun i => .int (lo + (i : Nat))
theorem itr_ok {K : PySem.W.Frag} {H0 G : Hp} {lo : Int} {n : Nat} : ItOk K H0 (Itr lo n) true (nums lo n) G where
  go := fun i d G' H hd s1 s2 => by
    unfold nums at hd
    rw [List.getElem?_map] at hd
    by_cases hi : i < n
    · rw [List.getElem?_range hi] at hd
      cases hd
      exact ⟨hi, fun x H' ⟨e1, e2⟩ => by subst e1 e2; exact ⟨G', Gr.refl s2, .sc rfl (.int _)⟩⟩
    · rw [List.getElem?_eq_none (by simpa using hi)] at hd; cases hd
  stop := fun i G' H hl s1 s2 => by unfold nums at hl; show n ≤ i; simp at hl; omega
theorem int_inv {K : PySem.W.Frag} {G : Hp} {v : V} {i : Int} (r : RdV K G v (.int i)) : v = .int i := by cases r; rfl
theorem vws1 {K : PySem.W.Frag} {H0 G H : Hp} {vs : List V} {c : Cl} (w : Vws K H0 G H vs [c]) : ∃ v, vs = [v] ∧ Vw K H0 G H v c := by
  cases w with
  | cons a b => cases b; exact ⟨_, rfl, a⟩
theorem vws2 {K : PySem.W.Frag} {H0 G H : Hp} {vs : List V} {c d : Cl} (w : Vws K H0 G H vs [c, d]) : ∃ v u, vs = [v, u] ∧ Vw K H0 G H v c ∧ Vw K H0 G H u d := by
  cases w with
  | cons a b => obtain ⟨u, rfl, h⟩ := vws1 b; exact ⟨_, _, rfl, a, h⟩
noncomputable def rg1 (t : TA3) : TI3 := fun ρ Q => t ρ fun cs => ∃ j, cs = [.sh true (.int j)] ∧ (-(2 ^ 62) ≤ j ∧ j < 2 ^ 62) ∧ Q true (nums 0 j.toNat)
noncomputable def rg2 (t : TA3) : TI3 := fun ρ Q => t ρ fun cs => ∃ i j, cs = [.sh true (.int i), .sh true (.int j)] ∧ (-(2 ^ 62) ≤ i ∧ i < 2 ^ 62 ∧ -(2 ^ 62) ≤ j ∧ j < 2 ^ 62) ∧ Q true (nums i (j - i).toNat)
theorem it_range1 {tg a : Expr} {t : TA3} {p : Pos} (hg : Gl X "range") (hm : X.mg "range" = none) (ha : PA3 X H0 [a] t) (hs : starEach [a] X.env = [(false, eval a X.env)] := by rfl) : PI3 X H0 tg (.Call (.Name "range" p) [a] [] pos) (rg1 t) :=
  ⟨fun ρ Q Q' hq q => ha.mono ρ _ _ (fun c ⟨j, e, b, q⟩ => ⟨j, e, b, hq _ _ q⟩) q, PI.imp (pi_range1 hg hm ha.ok hs) fun σ H R => el5 fun G0 ρ G F q => ⟨G0, ρ, G, F, ha.mono ρ _ _ (fun c hyp vs G' H' g w => by
    obtain ⟨j, e, b, k⟩ := hyp
    subst e
    obtain ⟨v, rfl, w1⟩ := vws1 w
    cases int_inv (sh_inv w1).rd
    exact ⟨j, rfl, b.1, b.2, k _ G' H' g itr_ok⟩) q⟩⟩
theorem it_range2 {tg a b : Expr} {t : TA3} {p : Pos} (hg : Gl X "range") (hm : X.mg "range" = none) (ha : PA3 X H0 [a, b] t) (hs : starEach [a, b] X.env = [(false, eval a X.env), (false, eval b X.env)] := by rfl) (hs2 : starEach [b] X.env = [(false, eval b X.env)] := by rfl) : PI3 X H0 tg (.Call (.Name "range" p) [a, b] [] pos) (rg2 t) :=
  ⟨fun ρ Q Q' hq q => ha.mono ρ _ _ (fun c ⟨i, j, e, b, q⟩ => ⟨i, j, e, b, hq _ _ q⟩) q, PI.imp (pi_range2 hg hm ha.ok hs hs2) fun σ H R => el5 fun G0 ρ G F q => ⟨G0, ρ, G, F, ha.mono ρ _ _ (fun c hyp vs G' H' g w => by
    obtain ⟨i, j, e, b, k⟩ := hyp
    subst e
    obtain ⟨v, u, rfl, w1, w2⟩ := vws2 w
    cases int_inv (sh_inv w1).rd
    cases int_inv (sh_inv w2).rd
    exact ⟨i, j, rfl, b, k _ G' H' g itr_ok⟩) q⟩⟩
end
end L3
namespace L3
open PySem PySem.Spec PyProof.Rows L2
noncomputable def cst3 (n : Nat) (js : List Nat) (ρ : Env3) : Env3 := List.replicate n none ++ js.map fun j => (ρ[j]?).join
noncomputable def er (D : Addr) (H : Hp) : Hp := fun b => if b = D then none else H b
theorem er_same {D : Addr} {H : Hp} : er D H D = none := by unfold er; rw [if_pos rfl]
theorem er_ne {D b : Addr} {H : Hp} (h : b ≠ D) : er D H b = H b := by unfold er; rw [if_neg h]
theorem er_some {D b : Addr} {H : Hp} {o : HO} (h : er D H b = some o) : b ≠ D ∧ H b = some o := by
  by_cases e : b = D
  · subst e; rw [er_same] at h; cases h
  · rw [er_ne e] at h; exact ⟨e, h⟩
theorem er_upd {D : Addr} {H : Hp} {o : HO} (h : H D = some o) : upd (er D H) D o = H := by
  funext b
  by_cases e : b = D
  · subst e; rw [upd_same, h]
  · rw [upd_ne e, er_ne e]
theorem Gr.er {D : Addr} {G H G' H' : Hp} (g : Gr G H G' H') (hD : G' D = none) : Gr G (er D H) G' (er D H') where
  g := g.g
  h := fun b o e => by
    obtain ⟨n, e⟩ := er_some e
    rw [er_ne n]; exact g.h b o e
  sub := fun b o e => by
    rw [er_ne (ne_of_none e hD)]; exact g.sub b o e
  new := fun b o e => by
    rcases g.new b o e with q | q
    · exact .inl q
    · by_cases hb : b = D
      · subst hb; exact .inr er_same
      · exact .inr (by rw [er_ne hb]; exact q)
theorem mem_cst {α : Type} {n i : Nat} {js : List Nat} {l : List (Option α)} {x : α} (h : (List.replicate n none ++ js.map fun j => (l[j]?).join)[i]? = some (some x)) : ∃ j, n ≤ i ∧ js[i - n]? = some j ∧ l[j]? = some (some x) := by
  by_cases hi : i < n
  · rw [List.getElem?_append_left (by simpa using hi), List.getElem?_replicate, if_pos hi] at h
    cases h
  · rw [List.getElem?_append_right (by simpa using hi), List.length_replicate, List.getElem?_map] at h
    cases ej : js[i - n]? with
    | none => rw [ej] at h; cases h
    | some j =>
      rw [ej] at h
      have h' : (l[j]?).join = some x := Option.some.inj h
      refine ⟨j, Nat.not_lt.mp hi, rfl, ?_⟩
      cases q : l[j]? with
      | none => rw [q] at h'; cases h'
      | some o => rw [q] at h'; cases o with
        | none => cases h'
        | some v => cases h'; rfl
theorem cst_at {α : Type} {n i j : Nat} {js : List Nat} {l : List (Option α)} {x : α} (hi : n ≤ i) (hj : js[i - n]? = some j) (h : l[j]? = some (some x)) : (List.replicate n none ++ js.map fun j => (l[j]?).join)[i]? = some (some x) := by
  rw [List.getElem?_append_right (by simpa using hi), List.length_replicate, List.getElem?_map, hj]
  simp [h]
theorem Rf.asideU {K : PySem.W.Frag} {H0 G : Hp} {A : Addr} {ys : List V} {f : Bool} {v : V} {d : D} (r : Rf K H0 G f v d) (hA : G A = none) : Rf K (upd H0 A (.lst ys)) G f v d := ⟨r.rd, fun h => rdn_mono (Same.refl _) (fun a o e n => by rw [upd_ne (ne_of_none e hA)]; exact n) (r.nw h)⟩
theorem Rf.asideD {K : PySem.W.Frag} {H0 G : Hp} {A : Addr} {ys : List V} {f : Bool} {v : V} {d : D} (r : Rf K (upd H0 A (.lst ys)) G f v d) : Rf K H0 G f v d := ⟨r.rd, fun h => rdn_mono (Same.refl _) (fun a o e n => by
  have ha : a ≠ A := fun z => by subst z; rw [upd_same] at n; cases n
  rw [upd_ne ha] at n; exact n) (r.nw h)⟩
theorem Rf.aside {K : PySem.W.Frag} {H0 G : Hp} {A : Addr} {ys zs : List V} {f : Bool} {v : V} {d : D} (r : Rf K (upd H0 A (.lst ys)) G f v d) (hA : G A = none) : Rf K (upd H0 A (.lst zs)) G f v d := r.asideD.asideU hA
theorem Rfs.asideU {K : PySem.W.Frag} {H0 G : Hp} {A : Addr} {ys : List V} {f : Bool} {v : List V} {d : List D} (r : Rfs K H0 G f v d) (hA : G A = none) : Rfs K (upd H0 A (.lst ys)) G f v d := ⟨r.rd, fun h => rdns_mono (Same.refl _) (fun a o e n => by rw [upd_ne (ne_of_none e hA)]; exact n) (r.nw h)⟩
theorem Rfs.aside {K : PySem.W.Frag} {H0 G : Hp} {A : Addr} {ys zs : List V} {f : Bool} {v : List V} {d : List D} (r : Rfs K (upd H0 A (.lst ys)) G f v d) (hA : G A = none) : Rfs K (upd H0 A (.lst zs)) G f v d := ⟨r.rd, fun h => rdns_mono (Same.refl _) (fun a o e n => by
  rw [upd_ne (ne_of_none e hA)] at n ⊢; exact n) (r.nw h)⟩
theorem Dr.asideU {K : PySem.W.Frag} {H0 G : Hp} {A : Addr} {ys : List V} {kvs : List (List Key × V)} {ds : List (List Key × PyData)} (r : Dr K H0 G kvs ds) (hA : G A = none) : Dr K (upd H0 A (.lst ys)) G kvs ds := by
  induction r with
  | nil => exact .nil
  | cons a b ih => exact .cons (a.asideU hA) ih
theorem Dr.aside {K : PySem.W.Frag} {H0 G : Hp} {A : Addr} {ys zs : List V} {kvs : List (List Key × V)} {ds : List (List Key × PyData)} (r : Dr K (upd H0 A (.lst ys)) G kvs ds) (hA : G A = none) : Dr K (upd H0 A (.lst zs)) G kvs ds := by
  induction r with
  | nil => exact .nil
  | cons a b ih => exact .cons (a.aside hA) ih
theorem Vw.rebase {K : PySem.W.Frag} {H0 G H : Hp} {A : Addr} {v : V} {c : Cl} (w : Vw K H0 G (upd H A (.lst [])) v c) (s : Same G H) (hA : H A = none) : Vw K (upd H0 A (.lst [])) G (upd H A (.lst [])) v c := by
  have gA : G A = none := s.free hA
  cases w with
  | sh r => exact .sh (r.asideU gA)
  | ow h r n => exact .ow h (r.asideU gA) n
  | tr t =>
    refine .tr ⟨t.top, t.topG, t.nd, t.len, fun k p m h1 h2 => ?_⟩
    obtain ⟨vs, a, b, c⟩ := t.item k p m h1 h2
    exact ⟨vs, a, b, c.asideU gA⟩
  | dt h r n => exact .dt h (r.asideU gA) n
  | ex h => exact .ex h
section
variable {K : PySem.W.Frag} {H0 G0 : Hp} {ρ : Env3} {σ : L2.St} {G H : Hp} {D : Addr}
theorem Fr3.comp (F : Fr3 K H0 G0 ρ σ G H) (n : Nat) {js : List Nat} (hj : js.Nodup) (hD : H D = none) : Fr3 K (upd H0 D (.lst [])) G (cst3 n js ρ) (cst n js σ) G (upd H D (.lst [])) where
  keep := fun b o e => by
    by_cases hb : b = D
    · subst hb; rw [upd_same] at e ⊢; exact e
    · rw [upd_ne hb] at e ⊢; exact F.keep b o e
  sub := F.sub.trans (same_new hD _)
  old := fun b o e => .inl e
  g0 := Same.refl _
  slot := fun i c e => by
    obtain ⟨j, h1, h2, h3⟩ := mem_cst e
    obtain ⟨v, h4, h5⟩ := F.slot j c h3
    exact ⟨v, cst_at h1 h2 h4, (h5.gr (Gr.apart F.sub hD)).rebase F.sub hD⟩
  mine := fun i c v a e e' h => by
    obtain ⟨j, h1, h2, h3⟩ := mem_cst e
    obtain ⟨j', h1', h2', h3'⟩ := mem_cst e'
    rw [h2] at h2'; cases h2'
    obtain ⟨⟨o, q, _⟩, _⟩ := (F.vw h3 h3').has h
    rw [upd_ne (ne_of_none q hD)]; exact F.mine j c v a h3 h3' h
  apart := fun i k c1 c2 v1 v2 a e1 e2 e3 e4 q1 q2 => by
    obtain ⟨j, h1, h2, h3⟩ := mem_cst e1
    obtain ⟨j', h1', h2', h3'⟩ := mem_cst e2
    obtain ⟨j2, h4, h5, h6⟩ := mem_cst e3
    obtain ⟨j3, h7, h8, h9⟩ := mem_cst e4
    rw [h2] at h5; cases h5
    rw [h2'] at h8; cases h8
    have e := F.apart j j' c1 c2 v1 v2 a h3 h3' h6 h9 q1 q2
    subst e
    have ei : i - n = k - n := by
      obtain ⟨a1, b1⟩ := List.getElem?_eq_some_iff.mp h2
      obtain ⟨a2, b2⟩ := List.getElem?_eq_some_iff.mp h2'
      exact (List.getElem_inj hj).mp (b1.trans b2.symm)
    omega
  len := by unfold cst3 cst; simp
theorem Fr3.aside {ys zs : List V} (F : Fr3 K (upd H0 D (.lst ys)) G0 ρ σ G H) (hG0 : G0 D = none) : Fr3 K (upd H0 D (.lst zs)) G0 ρ σ G (upd H D (.lst zs)) := by
  have hD : H D = some (.lst ys) := F.keep D _ upd_same
  have hG : G D = none := by
    cases e : G D with
    | none => rfl
    | some o =>
      rcases F.old D o e with q | q
      · rw [hG0] at q; cases q
      · rw [upd_same] at q; cases q
  refine ⟨fun b o e => ?_, fun b o e => by rw [upd_ne (ne_of_none e hG)]; exact F.sub b o e, fun b o e => ?_, F.g0, fun i c e => ?_, fun i c v a e e' h => ?_, F.apart, F.len⟩
  · by_cases hb : b = D
    · subst hb; rw [upd_same] at e ⊢; exact e
    · rw [upd_ne hb] at e ⊢
      exact F.keep b o (by rw [upd_ne hb]; exact e)
  · rcases F.old b o e with q | q
    · exact .inl q
    · by_cases hb : b = D
      · subst hb; rw [upd_same] at q; cases q
      · rw [upd_ne hb] at q; exact .inr (by rw [upd_ne hb]; exact q)
  · obtain ⟨v, h1, h2⟩ := F.slot i c e
    refine ⟨v, h1, ?_⟩
    cases h2 with
    | sh r => exact .sh (r.aside hG)
    | ow h r n =>
      rename_i l vs f ds
      have hl : l ≠ D := fun z => by
        subst z
        have := F.mine i _ _ l e h1 rfl
        rw [upd_same] at this; cases this
      exact .ow (by rw [upd_ne hl]; exact h) (r.aside hG) n
    | dt h r n =>
      rename_i l kvs ds
      have hl : l ≠ D := fun z => by
        subst z
        have := F.mine i _ _ l e h1 rfl
        rw [upd_same] at this; cases this
      exact .dt (by rw [upd_ne hl]; exact h) (r.aside hG) n
    | tr t =>
      rename_i l ps ms
      have hl : ∀ a, Has (.tr ps ms) (.ref l) a → a ≠ D := fun a ha z => by
        subst z
        have := F.mine i _ _ a e h1 ha
        rw [upd_same] at this; cases this
      refine .tr ⟨by rw [upd_ne (hl l (.inl rfl))]; exact t.top, t.topG, t.nd, t.len, fun k p m h1 h2 => ?_⟩
      obtain ⟨vs, a, b, c⟩ := t.item k p m h1 h2
      exact ⟨vs, by rw [upd_ne (hl p (.inr (List.mem_of_getElem? h1)))]; exact a, b, c.aside hG⟩
    | ex h =>
      rename_i l C
      have hl : l ≠ D := fun z => by subst z; rw [hD] at h; cases h
      exact .ex (by rw [upd_ne hl]; exact h)
  · have q := F.mine i c v a e e' h
    have hl : a ≠ D := fun z => by subst z; rw [upd_same] at q; cases q
    rw [upd_ne hl] at q ⊢; exact q
theorem Fr3.atD {ys : List V} (F : Fr3 K (upd H0 D (.lst ys)) G0 ρ σ G H) (hG0 : G0 D = none) : G D = none ∧ H D = some (.lst ys) := by
  refine ⟨?_, F.keep D _ upd_same⟩
  cases e : G D with
  | none => rfl
  | some o =>
    rcases F.old D o e with q | q
    · rw [hG0] at q; cases q
    · rw [upd_same] at q; cases q
end
section
variable {X : Cx} {H0 : Hp} {pos : Pos}
structure PTs3 (X : Cx) (H0 : Hp) (es : List Expr) (t : TT3) : Prop where
  mono : ∀ ρ (Q Q' : Bool → Prop), (∀ c, Q c → Q' c) → t ρ Q → t ρ Q'
  ok : PTs X es (liftT X.K H0 t)
noncomputable def true3 : TT3 := fun _ Q => Q true
theorem pt_nil : PTs3 X H0 [] true3 := ⟨fun ρ Q Q' h q => h _ q, fun pins s σ H Q I => el5 fun G0 ρ G F q => pts_nil pins s σ H Q I (q G H (Gr.refl F.sub))⟩
noncomputable def compL (g : TG3) (tt : TT3) (te : TE3) (f : Bool) : List D → Bool → List D → Env3 → (Bool → List D → Prop) → Prop
  | [], fa, acc, _, Q => Q fa acc
  | d :: ds, fa, acc, ρ, Q => g f d ρ fun ρ' => tt ρ' fun k => if k = true then te ρ' fun c => asS c fun fy y => compL g tt te f ds (fa && fy) (acc ++ [y]) ρ' Q else compL g tt te f ds fa acc ρ' Q
noncomputable def comp3 (ti : TI3) (g : TG3) (tt : TT3) (te : TE3) (n : Nat) (js : List Nat) : TN3 := fun ρ Q => ti ρ fun f ds => ds.length ≤ sizeLine ∧ compL g tt te f ds true [] (cst3 n js ρ) Q
theorem compL_mono {g : TG3} {tt : TT3} {te : TE3} (hg : ∀ f d ρ (Q Q' : Env3 → Prop), (∀ c, Q c → Q' c) → g f d ρ Q → g f d ρ Q') (ht : ∀ ρ (Q Q' : Bool → Prop), (∀ c, Q c → Q' c) → tt ρ Q → tt ρ Q') (he : ∀ ρ (Q Q' : Cl → Prop), (∀ c, Q c → Q' c) → te ρ Q → te ρ Q')
    {f : Bool} {Q Q' : Bool → List D → Prop} (h : ∀ f c, Q f c → Q' f c) : ∀ ds fa acc ρ, compL g tt te f ds fa acc ρ Q → compL g tt te f ds fa acc ρ Q'
  | [], fa, acc, ρ, q => h _ _ q
  | d :: ds, fa, acc, ρ, q => hg f d ρ _ _ (fun ρ' => ht ρ' _ _ fun k => by
    cases k with
    | true => exact he ρ' _ _ fun c q => by obtain ⟨fy, y, e, q⟩ := asS_of q; subst e; exact compL_mono hg ht he h ds _ _ ρ' q
    | false => exact compL_mono hg ht he h ds fa acc ρ') q
theorem js_nodup {tn fn N : List Str} {js : List Nat} (nd : (tn ++ fn).Nodup) (hj : js.map (fun j => N[j]?) = fn.map some) : js.Nodup := by
  have h1 : (fn.map some).Nodup := by
    have := (List.nodup_append.mp nd).2.1
    exact List.Pairwise.map some (fun a b h e => h (Option.some.inj e)) this
  rw [← hj] at h1
  exact List.Pairwise.of_map _ (fun a b h e => h (by rw [e])) h1
theorem comp_parts {elt tg : Expr} {ifs : List Expr} {scope : Scope} {N : List Str} {g : TG3} {tt : TT3} {te : TE3}
    (hb : ∀ H0 s H fp cl, PG3 (X.comp scope N s H fp cl) H0 tg g ∧ PTs3 (X.comp scope N s H fp cl) H0 ifs tt ∧ PE3 (X.comp scope N s H fp cl) H0 elt te) : ∀ s H fp cl, PG (X.comp scope N s H fp cl) tg (fun v σ H Q => ∃ H0, liftG X.K H0 g v σ H Q) ∧ PTs (X.comp scope N s H fp cl) ifs (fun σ H Q => ∃ H0, liftT X.K H0 tt σ H Q) ∧ PE (X.comp scope N s H fp cl) elt (fun σ H Q => ∃ H0, liftE X.K H0 te σ H Q) := fun s H fp cl =>
  ⟨fun pins s' σ H' v u Q I r ⟨h0, q⟩ => (hb h0 s H fp cl).1.ok pins s' σ H' v u Q I r q, fun pins s' σ H' Q I ⟨h0, q⟩ => (hb h0 s H fp cl).2.1.ok pins s' σ H' Q I q, fun pins s' σ H' Q I ⟨h0, q⟩ => (hb h0 s H fp cl).2.2.ok pins s' σ H' Q I q⟩
theorem comp_lift {Y Y' Y'' : Cx} {h1 h2 h3 : Hp} {elt tg iter : Expr} {ifs : List Expr} {ti : TI3} {g : TG3} {tt : TT3} {te : TE3} {n : Nat} {js : List Nat} (hjn : js.Nodup) (hi : PI3 X H0 tg iter ti) (m1 : PG3 Y h1 tg g) (m2 : PTs3 Y' h2 ifs tt) (m3 : PE3 Y'' h3 elt te) :
    ∀ σ H Q, liftN X.K H0 (comp3 ti g tt te n js) σ H Q → tComp (liftI X.K H0 ti) (fun v σ H Q => ∃ H0, liftG X.K H0 g v σ H Q) (fun σ H Q => ∃ H0, liftT X.K H0 tt σ H Q) (fun σ H Q => ∃ H0, liftE X.K H0 te σ H Q) n js σ H Q := by
  rintro σ H Q ⟨G0, ρ, G, F, q⟩
  refine ⟨G0, ρ, G, F, hi.mono ρ _ _ (fun fl ds ⟨hz, k⟩ J G1 H1 g1 ok A hA => ?_) q⟩
  have F1 := F.gr g1
  have gA : G1 A = none := g1.sub.free hA
  have h0A : H0 A = none := F1.keep.free hA
  refine ⟨fun i m ys σ2 H2 => i ≤ ds.length ∧ m = ds.length - i ∧ ys.length ≤ i ∧ ∃ ρ2 G2 fe es, Fr3 X.K (upd H0 A (.lst ys)) G1 ρ2 σ2 G2 H2 ∧ Rfs X.K H0 G2 fe ys es ∧ Gr G1 H1 G2 (er A H2) ∧ compL g tt te fl (ds.drop i) fe es ρ2 (fun f ds => ∀ l vs G' H', Gr G H G' H' → H' l = none → Rfs X.K H0 G' f vs ds → Q (.ref l) (upd H' l (.lst vs))),
    ⟨ds.length, Nat.zero_le _, rfl, Nat.le_refl _, cst3 n js ρ, G1, true, [], F1.comp n hjn hA, .nil, ?_, k⟩, ?_⟩
  · have e : er A (upd H1 A (.lst [])) = H1 := by
      funext b
      by_cases hb : b = A
      · subst hb; rw [er_same, hA]
      · rw [er_ne hb, upd_ne hb]
    rw [e]; exact Gr.refl g1.sub
  rintro i m ys σ2 H2 ⟨hil, rfl, hyl, ρ2, G2, fe, es, F2, r2, g2, k2⟩
  obtain ⟨hG2, hH2⟩ := F2.atD gA
  by_cases hlt : i < ds.length
  · right
    have hd : ds[i]? = some ds[i] := List.getElem?_eq_getElem hlt
    obtain ⟨hgo, hy⟩ := ok.go i _ G2 H2 hd F2.g0 F2.sub
    rw [List.drop_eq_getElem_cons hlt] at k2
    refine ⟨hgo, fun x H3 y => ?_⟩
    obtain ⟨G3, g3, r3⟩ := hy x H3 y
    have F3 := F2.gr g3
    refine ⟨upd H0 A (.lst ys), G1, ρ2, G3, fl, _, F3, r3.asideU (F3.atD gA).1, m1.mono fl _ ρ2 _ _ (fun ρ4 q4 σ4 G4 H4 F4 s4 g4 => ?_) k2⟩
    refine ⟨upd H0 A (.lst ys), G1, ρ4, G4, F4, m2.mono ρ4 _ _ (fun b q5 G5 H5 g5 => ?_) q4⟩
    have F5 := F4.gr g5
    have gg5 := (g3.trans g4).trans g5
    cases b with
    | true =>
      refine ⟨upd H0 A (.lst ys), G1, ρ4, G5, F5, m3.mono ρ4 _ _ (fun c q6 v G6 H6 g6 w6 => ?_) q5⟩
      obtain ⟨fy, y, hc, q6⟩ := asS_of q6
      subst hc
      have F6 := F5.gr g6
      obtain ⟨hG6, hH6⟩ := F6.atD gA
      have gg6 := gg5.trans g6
      refine ⟨hH6, Nat.lt_of_lt_of_le (Nat.lt_of_le_of_lt hyl hlt) hz, ds.length - (i + 1), Nat.sub_lt_sub_left hlt (Nat.lt_succ_self _), Nat.succ_le_of_lt hlt, rfl, by rw [List.length_append, List.length_singleton]; omega, ρ4, G6, _, es ++ [y], F6.aside gA, (r2.same gg6.g).snoc ((sh_inv w6).asideD), ?_, q6⟩
      have e : er A (upd H6 A (.lst (ys ++ [v]))) = er A H6 := by
        funext b
        by_cases hb : b = A
        · subst hb; rw [er_same, er_same]
        · rw [er_ne hb, er_ne hb, upd_ne hb]
      rw [e]
      exact g2.trans (gg6.er hG6)
    | false =>
      obtain ⟨hG5, hH5⟩ := F5.atD gA
      exact ⟨ds.length - (i + 1), Nat.sub_lt_sub_left hlt (Nat.lt_succ_self _), Nat.succ_le_of_lt hlt, rfl, Nat.le_succ_of_le hyl, ρ4, G5, fe, es, F5, r2.same gg5.g, g2.trans (gg5.er hG5), q5⟩
  · left
    have e : i = ds.length := Nat.le_antisymm hil (Nat.not_lt.mp hlt)
    rw [e, List.drop_length] at k2
    refine ⟨ok.stop i G2 H2 e F2.g0 F2.sub, ?_⟩
    have k3 := k2 A ys G2 (er A H2) (g1.trans g2) er_same r2
    rw [er_upd hH2] at k3
    exact k3
theorem comp_ok {elt tg iter : Expr} {ifs : List Expr} {scope : Scope} {ti : TI3} {g : TG3} {tt : TT3} {te : TE3} (tn fn : List Str) (js : List Nat) (hcalm : X.calm = true) (S : CompSc X.env.scope scope tn fn) (hj : js.map (fun j => X.N[j]?) = fn.map some) (hi : PI3 X H0 tg iter ti)
    (hb : ∀ H0 s H fp cl, PG3 (X.comp scope (tn ++ fn) s H fp cl) H0 tg g ∧ PTs3 (X.comp scope (tn ++ fn) s H fp cl) H0 ifs tt ∧ PE3 (X.comp scope (tn ++ fn) s H fp cl) H0 elt te)
    (hs : ∀ x, foldedSetIterable iter X.env x = pure x := by intro _; rfl) : PN3 X H0 (.ListComp elt [⟨tg, iter, ifs, 0⟩] scope pos) (comp3 ti g tt te tn.length js) := by
  obtain ⟨m1, m2, m3⟩ := hb H0 X.s₀ X.H₀ [] []
  have hjn := js_nodup S.nd hj
  refine ⟨fun ρ Q Q' h q => hi.mono ρ _ _ (fun f ds ⟨z, q⟩ => ⟨z, compL_mono m1.mono m2.mono m3.mono h ds _ _ _ q⟩) q, ?_⟩
  exact PE.imp (pe_comp (wi := liftI X.K H0 ti) (g := fun v σ H Q => ∃ H0, liftG X.K H0 g v σ H Q) (tt := fun σ H Q => ∃ H0, liftT X.K H0 tt σ H Q) (te := fun σ H Q => ∃ H0, liftE X.K H0 te σ H Q) tn fn js hcalm S hj hi.ok (comp_parts hb) hs) (comp_lift hjn hi m1 m2 m3)
theorem comp_own {elt tg iter : Expr} {ifs : List Expr} {scope : Scope} {spos pos' : Pos} {i : Nat} {x : Str} {ti : TI3} {g : TG3} {tt : TT3} {te : TE3} (hN : X.N.Nodup) (hix : X.N[i]? = some x) (hx : Loc X.env.scope x) (tn fn : List Str) (js : List Nat) (hcalm : X.calm = true) (S : CompSc X.env.scope scope tn fn) (hj : js.map (fun j => X.N[j]?) = fn.map some) (hi : PI3 X H0 tg iter ti)
    (hb : ∀ H0 s H fp cl, PG3 (X.comp scope (tn ++ fn) s H fp cl) H0 tg g ∧ PTs3 (X.comp scope (tn ++ fn) s H fp cl) H0 ifs tt ∧ PE3 (X.comp scope (tn ++ fn) s H fp cl) H0 elt te)
    (hs : ∀ x, foldedSetIterable iter X.env x = pure x := by intro _; rfl)
    (hsw : swapsWith (.ListComp elt [⟨tg, iter, ifs, 0⟩] scope pos) (some (.Name x pos')) spos.line X.env = pure true := by rfl) (hf : X.fn x = true ∨ X.env.scope.names.lookup x = some .local := by first | exact .inl rfl | exact .inr rfl | assumption) :
    PS3 X H0 (.Assign [.Name x pos'] (.ListComp elt [⟨tg, iter, ifs, 0⟩] scope pos) spos) (own3 i (comp3 ti g tt te tn.length js)) := by
  obtain ⟨m1, m2, m3⟩ := hb H0 X.s₀ X.H₀ [] []
  have hjn := js_nodup S.nd hj
  have pn := comp_ok (pos := pos) tn fn js hcalm S hj hi hb hs
  refine PS.imp (ps_setComp hN hix hx (wi := liftI X.K H0 ti) (g := fun v σ H Q => ∃ H0, liftG X.K H0 g v σ H Q) (tt := fun σ H Q => ∃ H0, liftT X.K H0 tt σ H Q) (te := fun σ H Q => ∃ H0, liftE X.K H0 te σ H Q) tn fn js hcalm S hj hi.ok (comp_parts hb) hs hsw hf) fun B σ H => el7 fun G0 A ρ G F q L => ?_
  exact comp_lift hjn hi m1 m2 m3 σ H _ ⟨G0, ρ, G, F, pn.mono ρ _ _ (fun f ds q l vs G' H' g hl r => L.nx _ _ G' _ ((F.gr g).own r hl) q) q⟩
theorem comp_set {elt tg iter : Expr} {ifs : List Expr} {scope : Scope} {spos pos' : Pos} {i : Nat} {x : Str} {ti : TI3} {g : TG3} {tt : TT3} {te : TE3} (hN : X.N.Nodup) (hix : X.N[i]? = some x) (hx : Loc X.env.scope x) (tn fn : List Str) (js : List Nat) (hcalm : X.calm = true) (S : CompSc X.env.scope scope tn fn) (hj : js.map (fun j => X.N[j]?) = fn.map some) (hi : PI3 X H0 tg iter ti)
    (hb : ∀ H0 s H fp cl, PG3 (X.comp scope (tn ++ fn) s H fp cl) H0 tg g ∧ PTs3 (X.comp scope (tn ++ fn) s H fp cl) H0 ifs tt ∧ PE3 (X.comp scope (tn ++ fn) s H fp cl) H0 elt te)
    (hs : ∀ x, foldedSetIterable iter X.env x = pure x := by intro _; rfl)
    (hsw : swapsWith (.ListComp elt [⟨tg, iter, ifs, 0⟩] scope pos) (some (.Name x pos')) spos.line X.env = pure true := by rfl) (hf : X.fn x = true ∨ X.env.scope.names.lookup x = some .local := by first | exact .inl rfl | exact .inr rfl | assumption) :
    PS3 X H0 (.Assign [.Name x pos'] (.ListComp elt [⟨tg, iter, ifs, 0⟩] scope pos) spos) (set3 i (nw3 (comp3 ti g tt te tn.length js))) := by
  obtain ⟨m1, m2, m3⟩ := hb H0 X.s₀ X.H₀ [] []
  have hjn := js_nodup S.nd hj
  have pn := comp_ok (pos := pos) tn fn js hcalm S hj hi hb hs
  refine PS.imp (ps_setComp hN hix hx (wi := liftI X.K H0 ti) (g := fun v σ H Q => ∃ H0, liftG X.K H0 g v σ H Q) (tt := fun σ H Q => ∃ H0, liftT X.K H0 tt σ H Q) (te := fun σ H Q => ∃ H0, liftE X.K H0 te σ H Q) tn fn js hcalm S hj hi.ok (comp_parts hb) hs hsw hf) fun B σ H => el7 fun G0 A ρ G F q L => ?_
  refine comp_lift hjn hi m1 m2 m3 σ H _ ⟨G0, ρ, G, F, pn.mono ρ _ _ (fun f ds q l vs G' H' g hl r => ?_) q⟩
  refine L.nx _ _ (upd G' l (.lst vs)) _ ((F.gr (g.trans (Gr.put g.sub hl))).set ?_) q
  exact ⟨.lst (SqL.of upd_same) (rdvs_same (same_new (g.sub.free hl) _) r.rd), fun hf => .lst upd_same ((F.keep.trans g.h).free hl) (rdns_mono (same_new (g.sub.free hl) _) (fun _ _ _ z => z) (r.nw hf))⟩
end
noncomputable def start3 (N : List Str) (ds : List D) : Env3 := ds.map (fun d => some (.sh (scal3 d) d)) ++ List.replicate (N.length - ds.length) none
theorem fr3_start {K : PySem.W.Frag} {G H : Hp} {N : List Str} {vs : List V} {ds : List D} (s : Same G H) (r : RdVs K G vs ds) : Fr3 K H G (start3 N ds) (start N vs) G H := by
  have at3 : ∀ (i : Nat) c, (start3 N ds)[i]? = some (some c) → ∃ d, ds[i]? = some d ∧ c = .sh (scal3 d) d := fun i c e => by
    unfold start3 at e
    by_cases hi : i < ds.length
    · rw [List.getElem?_append_left (by simpa using hi), List.getElem?_map] at e
      cases q : ds[i]? with
      | none => rw [q] at e; cases e
      | some d => rw [q] at e; cases e; exact ⟨d, rfl, rfl⟩
    · rw [List.getElem?_append_right (by simpa using hi), List.getElem?_replicate] at e
      split at e <;> cases e
  refine ⟨Same.refl _, s, fun b o e => .inl e, Same.refl _, fun i c e => ?_, fun i c v a e _ h => ?_, fun i j c c' v v' a e _ _ _ h _ => ?_, ?_⟩
  · obtain ⟨d, hd, rfl⟩ := at3 i c e
    obtain ⟨x, hx, rx⟩ := r.get hd
    refine ⟨x, ?_, .sh ⟨rx, fun h => rdn_scal h rx⟩⟩
    unfold L2.start
    have hi : i < vs.length := (List.getElem?_eq_some_iff.mp hx).1
    rw [List.getElem?_append_left (by simpa using hi), List.getElem?_map, hx]; rfl
  · obtain ⟨d, hd, z⟩ := at3 i _ e; subst z; exact False.elim h
  · obtain ⟨d, hd, z⟩ := at3 i _ e; subst z; exact False.elim h
  · unfold start3 L2.start; simp [r.length]
theorem fn3 {P : Program} {w : World} {K : PySem.W.Frag} {mg : Str → Option Value} {base : Heap} {x qual : Str} {st : Stmt} {f : Addr} {fd : FuncData} {N ps : List Str} {k : Nat} {sp : Sp3} (F : Fun K x qual st f fd) (S : FnScope N ps (defScope st)) (len : ∀ ds Q E, sp ds Q E → ds.length = ps.length)
    (hbody : ∀ (cdv : Value) (A : Around) (outer : List Env) (s : Shared) (H : Hp) (E : XK) (E3 : Addr → Prop), (∀ C H', E3 C → Same H H' → E (.ref C) none H') → Room k (A.deeper (envOfC qual (defScope st) s.heap.objs.size f cdv)) →
      ∃ t, PSs3 (cxOf (CXR P w) P w K mg base N qual (defScope st) f cdv A outer s H E) H (defBody st) t ∧ ∀ ds Q, sp ds Q E3 → t { nx := fun _ => Q true .none, rt := Q } (start3 N ds)) : FnOk P w K mg base (CXR P w) (k + 1) f fd ps (spL K sp) := by
  refine F.okR S (fun vs H Q E h => ?_) (fun cdv A outer s H vs Q E hr h => ?_)
  · obtain ⟨G, ds, _, r, h⟩ := h
    rw [r.length]; exact len _ _ _ h
  · obtain ⟨G, ds, sG, r, h⟩ := h
    obtain ⟨t, ht, hq⟩ := hbody cdv A outer s H E (fun C => ∀ H', Same H H' → E (.ref C) none H') (fun C H' e z => e H' z) hr
    refine ⟨_, ht, G, _, start3 N ds, G, fr3_start sG r, hq ds _ h, ⟨fun ρ σ G' H' F' q => q .non G' H' F'.gr0 (.sc rfl .non), fun f d v G' H' g rd q => q v G' H' g rd, fun _ _ _ _ _ q => q.elim, fun _ _ _ _ _ q => q.elim⟩⟩
noncomputable def raise3 (C : Addr) (E : Addr → Prop) (t : TA3) : TS3 := fun _ ρ => t ρ fun cs => cs.length ≤ sizeLine ∧ E C
theorem vws_len {K : PySem.W.Frag} {H0 G H : Hp} {vs : List V} {cs : List Cl} (h : Vws K H0 G H vs cs) : vs.length = cs.length := by
  induction h with
  | nil => rfl
  | cons _ _ ih => rw [List.length_cons, List.length_cons, ih]
theorem s_raise {X : Cx} {H0 : Hp} {x : Str} {C : Addr} {e0 : Expr} {t : TA3} {E : XK} {E3 : Addr → Prop} {np cpos pos : Pos} (hE : ∀ C H', E3 C → Same H0 H' → E (.ref C) none H') (hf : Flies X E) (hc : X.calm = true) (hg : Gl X x) (hm : X.mg x = some (.ref C)) (hx : PySem.W.excIn X.K C bmVE "ValueError.__new__" = true) (ha : PA3 X H0 [e0] t)
    (hdb : (x == ("__debug__" : Str)) = false := by decide) (hs : starEach [e0] X.env = [(false, eval e0 X.env)] := by rfl) : PS3 X H0 (.Raise (some (.Call (.Name x np) [e0] [] cpos)) none pos) (raise3 C E3 t) :=
  PS.imp (ps_raise hf hc hg hm hx ha.ok hdb hs) fun B σ H => el7 fun G0 A ρ G F q L => ⟨G0, ρ, G, F, ha.mono ρ _ _ (fun cs ⟨z, e⟩ vs G' H' g w => ⟨by rw [vws_len w]; exact z, hE C H' e (F.gr g).keep⟩) q⟩
end L3
namespace L3
open PySem PySem.Spec PyProof.Rows L2
theorem str_inv {K : PySem.W.Frag} {G : Hp} {v : V} {i : Str} (r : RdV K G v (.str i)) : v = .str i := by cases r; rfl
theorem non_inv {K : PySem.W.Frag} {G : Hp} {v : V} (r : RdV K G v .none) : v = .non := by cases r; rfl
section
variable {X : Cx}
noncomputable def add3 : R3 := fun a b Q => match a, b with
  | .sh _ (.int i), .sh _ (.int j) => Q true (.int (i + j))
  | .sh _ (.str x), .sh _ (.str y) => x.length + y.length ≤ sizeLine ∧ Q true (.str (x ++ y))
  | _, _ => False
noncomputable def int3 (C : Int → Int → Prop) (g : Int → Int → D) : R3 := fun a b Q => match a, b with
  | .sh _ (.int i), .sh _ (.int j) => C i j ∧ Q true (g i j)
  | _, _ => False
noncomputable def int0 (g : Int → Int → D) : R3 := fun a b Q => match a, b with
  | .sh _ (.int i), .sh _ (.int j) => Q true (g i j)
  | _, _ => False
theorem add3_ok : OpOk X (binaryOp .Add) add3 := by
  refine ⟨fun a b Q Q' h q => ?_, fun H0 => OpR.imp (op_add.or op_add_str) fun x y H Q => el3 fun G a b s wa wb q => ?_⟩
  · unfold add3 at *; split at q
    · exact h _ _ q
    · exact ⟨q.1, h _ _ q.2⟩
    · exact q
  · unfold add3 at q; split at q
    · cases int_inv (sh_inv wa).rd; cases int_inv (sh_inv wb).rd
      exact .inl ⟨_, _, rfl, rfl, q _ G H (Gr.refl s) (.sc rfl (.int _))⟩
    · cases str_inv (sh_inv wa).rd; cases str_inv (sh_inv wb).rd
      exact .inr ⟨_, _, rfl, rfl, q.1, q.2 _ G H (Gr.refl s) (.sc rfl (.str _))⟩
    · exact q.elim
theorem opI3 {f : Value → Value → Sem Value} {C : Int → Int → Prop} {g : Int → Int → Int} (h : OpR X f (rI C fun i j => .int (g i j))) : OpOk X f (int3 C fun i j => .int (g i j)) := by
  refine ⟨fun a b Q Q' h q => ?_, fun H0 => OpR.imp h fun x y H Q => el3 fun G a b s wa wb q => ?_⟩
  · unfold int3 at *; split at q
    · exact ⟨q.1, h _ _ q.2⟩
    · exact q
  · unfold int3 at q; split at q
    · cases int_inv (sh_inv wa).rd; cases int_inv (sh_inv wb).rd
      exact ⟨_, _, rfl, rfl, q.1, q.2 _ G H (Gr.refl s) (.sc rfl (.int _))⟩
    · exact q.elim
theorem opI03 {f : Value → Value → Sem Value} {g : Int → Int → Int} (h : OpR X f (rI0 fun i j => .int (g i j))) : OpOk X f (int0 fun i j => .int (g i j)) := by
  refine ⟨fun a b Q Q' h q => ?_, fun H0 => OpR.imp h fun x y H Q => el3 fun G a b s wa wb q => ?_⟩
  · unfold int0 at *; split at q
    · exact h _ _ q
    · exact q
  · unfold int0 at q; split at q
    · cases int_inv (sh_inv wa).rd; cases int_inv (sh_inv wb).rd
      exact ⟨_, _, rfl, rfl, q _ G H (Gr.refl s) (.sc rfl (.int _))⟩
    · exact q.elim
theorem opB03 {f : Value → Value → Sem Value} {g : Int → Int → Bool} (h : OpR X f (rI0 fun i j => .bl (g i j))) : OpOk X f (int0 fun i j => .bool (g i j)) := by
  refine ⟨fun a b Q Q' h q => ?_, fun H0 => OpR.imp h fun x y H Q => el3 fun G a b s wa wb q => ?_⟩
  · unfold int0 at *; split at q
    · exact h _ _ q
    · exact q
  · unfold int0 at q; split at q
    · cases int_inv (sh_inv wa).rd; cases int_inv (sh_inv wb).rd
      exact ⟨_, _, rfl, rfl, q _ G H (Gr.refl s) (.sc rfl (.bl _))⟩
    · exact q.elim
theorem sub_ok : OpOk X (binaryOp .Sub) (int0 fun i j => .int (i - j)) := opI03 op_sub
theorem mul_ok : OpOk X (binaryOp .Mult) (int3 IntMulOk fun i j => .int (i * j)) := opI3 op_mulB
theorem fdiv_ok : OpOk X (binaryOp .FloorDiv) (int3 CDivP fun i j => .int (i / j)) := opI3 op_fdivP
theorem mod_ok : OpOk X (binaryOp .Mod) (int3 (fun _ j => 0 < j) fun i j => .int (i % j)) := opI3 op_mod
theorem pow_ok : OpOk X (binaryOp .Pow) (int3 CPowB fun i j => .int (i ^ j.toNat)) := opI3 op_powB
theorem lt_ok : OpOk X (compareOp .Lt) (int0 fun i j => .bool (decide (i < j))) := opB03 op_lt
theorem le_ok : OpOk X (compareOp .LtE) (int0 fun i j => .bool (decide (i ≤ j))) := opB03 op_le
theorem gt_ok : OpOk X (compareOp .Gt) (int0 fun i j => .bool (decide (j < i))) := opB03 op_gt
theorem ge_ok : OpOk X (compareOp .GtE) (int0 fun i j => .bool (decide (j ≤ i))) := opB03 op_ge
noncomputable def neg3 : U3 := fun a Q => match a with
  | .sh _ (.int i) => Q true (.int (-i))
  | _ => False
theorem UnR.imp {f : Value → Sem Value} {r r' : V → Hp → VK → Prop} (h : UnR X f r) (i : ∀ x H Q, r' x H Q → r x H Q) : UnR X f r' := fun pins s σ H x v Q I rx q => h pins s σ H x v Q I rx (i _ _ _ q)
theorem neg_ok : UnOk X (unaryOp .USub) neg3 := by
  refine ⟨fun a Q Q' h q => ?_, fun H0 => UnR.imp un_neg fun x H Q ⟨G, a, s, wa, q⟩ => ?_⟩
  · unfold neg3 at *; split at q
    · exact h _ _ q
    · exact q
  · unfold neg3 at q; split at q
    · cases int_inv (sh_inv wa).rd
      exact ⟨_, rfl, q _ G H (Gr.refl s) (.sc rfl (.int _))⟩
    · exact q.elim
noncomputable def eqOk : D → D → Prop
  | .str _, .str _ => True
  | .int _, .int _ => True
  | d, e => SeqAt.shaped d = true ∧ SeqAt.shaped e = true
noncomputable def eqv3 : D → D → Bool
  | .str x, .str y => decide (x = y)
  | .int x, .int y => decide (x = y)
  | d, e => PyData.eqv d e
noncomputable def eq3 : R3 := fun a b Q => a.dat = true ∧ b.dat = true ∧ eqOk a.d b.d ∧ Q true (.bool (eqv3 a.d b.d))
noncomputable def ne3 : R3 := fun a b Q => a.dat = true ∧ b.dat = true ∧ eqOk a.d b.d ∧ Q true (.bool (!eqv3 a.d b.d))
theorem eq_scal {d e : D} : (∃ x y, d = .str x ∧ e = .str y ∧ eqv3 d e = decide (V.str x = V.str y)) ∨ (∃ x y, d = .int x ∧ e = .int y ∧ eqv3 d e = decide (V.int x = V.int y)) ∨ (eqv3 d e = PyData.eqv d e ∧ (eqOk d e → SeqAt.shaped d = true ∧ SeqAt.shaped e = true)) := by
  cases d <;> cases e <;> first
    | exact .inr (.inr ⟨rfl, fun h => h⟩)
    | exact .inl ⟨_, _, rfl, rfl, by simp [eqv3]⟩
    | exact .inr (.inl ⟨_, _, rfl, rfl, by simp [eqv3]⟩)
theorem eq_ok (hu : X.A.units + 64 < cLine) : OpOk X (compareOp .Eq) eq3 := by
  refine ⟨fun a b Q Q' h ⟨x, y, z, q⟩ => ⟨x, y, z, h _ _ q⟩, fun H0 => OpR.imp (op_eq.or (op_eqD hu)) fun x y H Q ⟨G, a, b, s, wa, wb, ha, hb, ho, q⟩ => ?_⟩
  have ra := wa.rd s ha
  have rb := wb.rd s hb
  rcases eq_scal (d := a.d) (e := b.d) with ⟨i, j, e1, e2, e3⟩ | ⟨i, j, e1, e2, e3⟩ | ⟨e3, hs⟩
  · rw [e1] at ra; rw [e2] at rb
    cases str_inv ra; cases str_inv rb
    exact .inl ⟨rfl, by rw [← e3]; exact q _ G H (Gr.refl s) (.sc rfl (.bl _))⟩
  · rw [e1] at ra; rw [e2] at rb
    cases int_inv ra; cases int_inv rb
    exact .inl ⟨rfl, by rw [← e3]; exact q _ G H (Gr.refl s) (.sc rfl (.bl _))⟩
  · exact .inr ⟨_, _, ra, rb, (hs ho).1, (hs ho).2, by rw [← e3]; exact q _ G H (Gr.refl s) (.sc rfl (.bl _))⟩
theorem ne_ok (hu : X.A.units + 64 < cLine) : OpOk X (compareOp .NotEq) ne3 := by
  refine ⟨fun a b Q Q' h ⟨x, y, z, q⟩ => ⟨x, y, z, h _ _ q⟩, fun H0 => OpR.imp (op_ne.or (op_neD hu)) fun x y H Q ⟨G, a, b, s, wa, wb, ha, hb, ho, q⟩ => ?_⟩
  have ra := wa.rd s ha
  have rb := wb.rd s hb
  rcases eq_scal (d := a.d) (e := b.d) with ⟨i, j, e1, e2, e3⟩ | ⟨i, j, e1, e2, e3⟩ | ⟨e3, hs⟩
  · rw [e1] at ra; rw [e2] at rb
    cases str_inv ra; cases str_inv rb
    exact .inl ⟨rfl, by rw [← e3]; exact q _ G H (Gr.refl s) (.sc rfl (.bl _))⟩
  · rw [e1] at ra; rw [e2] at rb
    cases int_inv ra; cases int_inv rb
    exact .inl ⟨rfl, by rw [← e3]; exact q _ G H (Gr.refl s) (.sc rfl (.bl _))⟩
  · exact .inr ⟨_, _, ra, rb, (hs ho).1, (hs ho).2, by rw [← e3]; exact q _ G H (Gr.refl s) (.sc rfl (.bl _))⟩
noncomputable def isNone : Cl → Bool
  | .sh _ .none => true
  | _ => false
theorem isNone_iff {K : PySem.W.Frag} {H0 G H : Hp} {v : V} {c : Cl} (w : Vw K H0 G H v c) : decide (v = .non) = isNone c := by
  cases w with
  | sh r => cases r.rd <;> simp [isNone]
  | ow _ _ _ => simp [isNone]
  | tr _ => simp [isNone]
  | dt _ _ _ => simp [isNone]
  | ex _ => simp [isNone]
noncomputable def notN3 : R3 := fun a b Q => b = .sh true .none ∧ Q true (.bool (!isNone a))
theorem notN_ok : OpOk X (compareOp .IsNot) notN3 := ⟨fun a b Q Q' h ⟨e, q⟩ => ⟨e, h _ _ q⟩, fun H0 => OpR.imp op_notN fun x y H Q hyp => by
  obtain ⟨G, a, b, s, wa, wb, e, q⟩ := hyp
  subst e
  exact ⟨non_inv (sh_inv wb).rd, by rw [isNone_iff wa]; exact q _ G H (Gr.refl s) (.sc rfl (.bl _))⟩⟩
noncomputable def ixD : D → Int → Option D
  | .list ds, i => atI ds i
  | .tuple ds, i => atI ds i
  | .str z, i => if z.length ≤ sizeLine then (atI z.cps.toList i).map fun c => .str ⟨#[c]⟩ else none
  | _, _ => none
noncomputable def ix3 : R3 := fun a b Q => match b with
  | .sh _ (.int i) => a.dat = true ∧ ∃ d, ixD a.d i = some d ∧ Q (a.f || scal3 d) d
  | _ => False
theorem atI_rd {K : PySem.W.Frag} {H0 G : Hp} {f : Bool} {vs : List V} {ds : List D} {i : Int} {d : D} (r : Rfs K H0 G f vs ds) (h : atI ds i = some d) : ∃ v, atI vs i = some v ∧ Rf K H0 G f v d := by
  unfold atI at *
  rw [r.length]
  cases e : ixN ds.length i with
  | none => rw [e] at h; cases h
  | some j =>
    rw [e] at h
    obtain ⟨x, hx, rx⟩ := r.get (i := j) (show ds[j]? = some d from h)
    exact ⟨x, hx, rx⟩
theorem IxR.imp {r r' : R2} (h : IxR X r) (i : ∀ x y H Q, r' x y H Q → r x y H Q) : IxR X r' := fun e f pins s σ H x y v u Q I rx ry q z => h e f pins s σ H x y v u Q I rx ry (i _ _ _ _ q) z
theorem ix_lift (H0 : Hp) : IxR X (liftR X.K H0 ix3) := IxR.imp ix_seq fun x y H Q => el3 fun G a b s wa wb q => by
  unfold ix3 at q; split at q
  · obtain ⟨ha, d, hd, q⟩ := q
    rename_i i
    cases int_inv (sh_inv wb).rd
    cases wa with
    | @sh v0 f d0 r =>
      cases d0 with
      | list ds =>
        obtain ⟨a, xs, rfl, hq, rs⟩ := rflst_inv r
        obtain ⟨v, hv, rv⟩ := atI_rd rs (show atI ds i = some d from hd)
        exact .inl ⟨_, _, _, v, rfl, rfl, s.seq hq, hv, q v G H (Gr.refl s) rv.or⟩
      | tuple ds =>
        obtain ⟨a, xs, rfl, hq, rs⟩ := rftup_inv r
        obtain ⟨v, hv, rv⟩ := atI_rd rs (show atI ds i = some d from hd)
        exact .inr (.inl ⟨_, _, _, v, rfl, rfl, s.tup hq, hv, q v G H (Gr.refl s) rv.or⟩)
      | str z =>
        cases str_inv r.rd
        have hd' : (if z.length ≤ sizeLine then (atI z.cps.toList i).map fun c => PyData.str ⟨#[c]⟩ else none) = some d := hd
        split at hd'
        · rename_i hz
          cases e : atI z.cps.toList i with
          | none => rw [e] at hd'; cases hd'
          | some c =>
            rw [e] at hd'; cases hd'
            exact .inr (.inr ⟨z, i, c, rfl, rfl, hz, e, q _ G H (Gr.refl s) (.sc rfl (.str _))⟩)
        · cases hd'
      | _ => cases hd
    | ow h rs n =>
      obtain ⟨v, hv, rv⟩ := atI_rd rs (show atI _ i = some d from hd)
      exact .inl ⟨_, _, _, v, rfl, rfl, SqL.of h, hv, q v G H (Gr.refl s) rv.or⟩
    | tr h => cases ha
    | dt _ _ _ => cases ha
    | ex h => cases ha
  · exact q.elim
theorem ix3_mono : ∀ a b (Q Q' : Bool → D → Prop), (∀ f c, Q f c → Q' f c) → ix3 a b Q → ix3 a b Q' := fun a b Q Q' h q => by
  unfold ix3 at *; split at q
  · obtain ⟨x, d, e, q⟩ := q; exact ⟨x, d, e, h _ _ q⟩
  · exact q
theorem at3 {H0 : Hp} {a b : Expr} {pos : Pos} {ta tb : TE3} (ha : PE3 X H0 a ta) (hb : PE3 X H0 b tb) (hs : PlainIx b) : PE3 X H0 (.Subscript a b pos) (o3 ix3 ta tb) :=
  ⟨o3_mono ix3_mono ha.mono hb.mono, PE.imp (pe_ix (ix_lift H0) ha.ok hb.ok hs) (o3_lift ix3_mono ha.mono hb.mono)⟩
noncomputable abbrev TO3 := Env3 → (Option Int → Prop) → Prop
noncomputable def liftO (K : PySem.W.Frag) (H0 : Hp) (t : TO3) : TO := fun σ H Q => ∃ G0 ρ G, Fr3 K H0 G0 ρ σ G H ∧ t ρ fun o => ∀ G' H', Gr G H G' H' → Q o H'
structure PO3 (X : Cx) (H0 : Hp) (e : Option Expr) (t : TO3) : Prop where
  mono : ∀ ρ (Q Q' : Option Int → Prop), (∀ c, Q c → Q' c) → t ρ Q → t ρ Q'
  ok : PO X e (liftO X.K H0 t)
theorem PO.imp {e : Option Expr} {t t' : TO} (h : PO X e t) (i : ∀ σ H Q, t' σ H Q → t σ H Q) : PO X e t' := fun pins s σ H Q I q => h pins s σ H Q I (i _ _ _ q)
noncomputable def no3 : TO3 := fun _ Q => Q none
noncomputable def part3 (t : TE3) : TO3 := fun ρ Q => t ρ fun c => ∃ i, c = .sh true (.int i) ∧ Q (some i)
variable {H0 : Hp} {pos p2 : Pos}
theorem o_none : PO3 X H0 none no3 := ⟨fun ρ Q Q' h q => h _ q, PO.imp po_none fun σ H Q => el5 fun G0 ρ G F q => q G H (Gr.refl F.sub)⟩
theorem o_some {e : Expr} {t : TE3} (h : PE3 X H0 e t) : PO3 X H0 (some e) (part3 t) := ⟨fun ρ Q Q' hq q => h.mono ρ _ _ (fun c ⟨i, e, q⟩ => ⟨i, e, hq _ q⟩) q, PO.imp (po_some h.ok) fun σ H Q => el5 fun G0 ρ G F q => ⟨G0, ρ, G, F, h.mono ρ _ _ (fun c hyp v G' H' g w => by
  obtain ⟨i, e, q⟩ := hyp
  subst e
  exact ⟨i, int_inv (sh_inv w).rd, q G' H' g⟩) q⟩⟩
noncomputable def cut {α : Type} (xs : List α) (lo hi : Option Int) : List α := (xs.drop (HT.sIx xs.length 0 lo)).take (HT.sIx xs.length xs.length hi - HT.sIx xs.length 0 lo)
noncomputable def slL3 (te : TE3) (tl th : TO3) : TN3 := fun ρ Q => te ρ fun c => tl ρ fun l => th ρ fun u => match c with
  | .sh f (.list ds) => Q (f || ds.all scal3) (cut ds l u)
  | .ow f ds => Q (f || ds.all scal3) (cut ds l u)
  | _ => False
theorem SlR.imp {r r' : V → Option Int → Option Int → Hp → VK → Prop} (h : SlR X r) (i : ∀ x lo hi H Q, r' x lo hi H Q → r x lo hi H Q) : SlR X r' := by
  unfold SlR at *
  intros
  apply h <;> first | assumption | skip
  apply i; assumption
theorem cut_rd {K : PySem.W.Frag} {H0 G : Hp} {f : Bool} {vs : List V} {ds : List D} (r : Rfs K H0 G f vs ds) (lo hi : Option Int) : Rfs K H0 G f (cutV vs lo hi) (cut ds lo hi) := by
  unfold cutV cut
  rw [r.length]
  exact (r.drop _).take _
theorem slice3 {e : Expr} {lo hi : Option Expr} {te : TE3} {tl th : TO3} (he : PE3 X H0 e te) (hl : PO3 X H0 lo tl) (hh : PO3 X H0 hi th) : PN3 X H0 (.Subscript e (.Slice lo hi none p2) pos) (slL3 te tl th) := by
  refine ⟨fun ρ Q Q' h q => he.mono ρ _ _ (fun c => hl.mono ρ _ _ fun l => hh.mono ρ _ _ fun u q => ?_) q, PE.imp (pe_slice sl_list he.ok hl.ok hh.ok) fun σ H Q => el5 fun G0 ρ G F q => ?_⟩
  · split at q
    · exact h _ _ q
    · exact h _ _ q
    · exact q
  · refine ⟨G0, ρ, G, F, he.mono ρ _ _ (fun c qc v G1 H1 g1 w1 => ⟨G0, ρ, G1, F.gr g1, hl.mono ρ _ _ (fun l ql G2 H2 g2 => ⟨G0, ρ, G2, F.gr (g1.trans g2), hh.mono ρ _ _ (fun u qu G3 H3 g3 => ?_) ql⟩) qc⟩) q⟩
    have w3 := (w1.gr g2).gr g3
    have gg := (g1.trans g2).trans g3
    split at qu
    · obtain ⟨a, xs, rfl, hq, rs⟩ := rflst_inv (sh_inv w3)
      exact ⟨a, xs, rfl, g3.sub.seq hq, fun p hp => qu p _ G3 H3 gg hp (cut_rd rs.or _ _)⟩
    · cases w3 with
      | ow h rs n => exact ⟨_, _, rfl, SqL.of h, fun p hp => qu p _ G3 H3 gg hp (cut_rd rs.or _ _)⟩
    · exact qu.elim
noncomputable def lenD : D → Option Nat
  | .list ds => some ds.length
  | .tuple ds => some ds.length
  | .str z => if z.length ≤ sizeLine then some z.length else none
  | _ => none
noncomputable def len3 : C3 := fun cs Q => match cs with
  | [c] => c.dat = true ∧ ∃ n, lenD c.d = some n ∧ Q true (.int n)
  | _ => False
theorem len_ok : CallOk X (.builtin "len") len3 := by
  refine ⟨fun cs Q Q' h q => ?_, fun H0 => CallR.imp (CallR.or call_len_seq call_len_str) fun xs H Q => el2 fun G cs s w q => ?_⟩
  · unfold len3 at *; split at q
    · obtain ⟨a, n, e, q⟩ := q; exact ⟨a, n, e, h _ _ q⟩
    · exact q
  · unfold len3 at q; split at q
    · obtain ⟨v, rfl, w1⟩ := vws1 w
      obtain ⟨ha, n, hn, q⟩ := q
      have r := w1.rd s ha
      generalize e : Cl.d _ = d at r hn
      cases r with
      | lst hq rs => cases hn; exact .inl ⟨_, _, rfl, .inl hq, by rw [rs.length]; exact q _ G H (Gr.refl s) (.sc rfl (.int _))⟩
      | tup hq rs => cases hn; exact .inl ⟨_, _, rfl, .inr hq, by rw [rs.length]; exact q _ G H (Gr.refl s) (.sc rfl (.int _))⟩
      | str z =>
        have hn' : (if z.length ≤ sizeLine then some z.length else none) = some n := hn
        split at hn'
        · rename_i hz; cases hn'; exact .inr ⟨z, rfl, hz, q _ G H (Gr.refl s) (.sc rfl (.int _))⟩
        · cases hn'
      | _ => cases hn
    · exact q.elim
noncomputable def abs3 : C3 := fun cs Q => match cs with
  | [.sh _ (.int i)] => Q true (.int (if i < 0 then -i else i))
  | _ => False
theorem abs_ok : CallOk X (.builtin "abs") abs3 := by
  refine ⟨fun cs Q Q' h q => ?_, fun H0 => CallR.imp call_abs fun xs H Q => el2 fun G cs s w q => ?_⟩
  · unfold abs3 at *; split at q
    · exact h _ _ q
    · exact q
  · unfold abs3 at q; split at q
    · obtain ⟨v, rfl, w1⟩ := vws1 w
      cases int_inv (sh_inv w1).rd
      exact ⟨_, rfl, q _ G H (Gr.refl s) (.sc rfl (.int _))⟩
    · exact q.elim
noncomputable def max23 : C3 := fun cs Q => match cs with
  | [.sh _ (.int i), .sh _ (.int j)] => Q true (.int (if j > i then j else i))
  | _ => False
theorem max2_ok (hc : X.calm = true) : CallOk X (.builtin "max") max23 := by
  refine ⟨fun cs Q Q' h q => ?_, fun H0 => CallR.imp (call_max2 hc) fun xs H Q => el2 fun G cs s w q => ?_⟩
  · unfold max23 at *; split at q
    · exact h _ _ q
    · exact q
  · unfold max23 at q; split at q
    · obtain ⟨v, u, rfl, w1, w2⟩ := vws2 w
      cases int_inv (sh_inv w1).rd; cases int_inv (sh_inv w2).rd
      exact ⟨_, _, rfl, q _ G H (Gr.refl s) (.sc rfl (.int _))⟩
    · exact q.elim
noncomputable def min23 : C3 := fun cs Q => match cs with
  | [.sh _ (.int i), .sh _ (.int j)] => Q true (.int (if j < i then j else i))
  | _ => False
theorem min2_ok (hc : X.calm = true) : CallOk X (.builtin "min") min23 := by
  refine ⟨fun cs Q Q' h q => ?_, fun H0 => CallR.imp (call_min2 hc) fun xs H Q => el2 fun G cs s w q => ?_⟩
  · unfold min23 at *; split at q
    · exact h _ _ q
    · exact q
  · unfold min23 at q; split at q
    · obtain ⟨v, u, rfl, w1, w2⟩ := vws2 w
      cases int_inv (sh_inv w1).rd; cases int_inv (sh_inv w2).rd
      exact ⟨_, _, rfl, q _ G H (Gr.refl s) (.sc rfl (.int _))⟩
    · exact q.elim
end
end L3
namespace L2
open PySem PySem.Spec PyProof.Rows
noncomputable def Itz (K : PySem.W.Frag) (a b : Addr) : It :=
  ⟨fun i H => ∃ xs ys x y, SqL K H a xs ∧ SqL K H b ys ∧ xs[i]? = some x ∧ ys[i]? = some y,
   fun i H v H' => ∃ p x y, H p = none ∧ v = .ref p ∧ H' = upd H p (.tup [x, y]) ∧ ∀ xs ys, SqL K H a xs → SqL K H b ys → xs[i]? = some x ∧ ys[i]? = some y,
   fun i H => ∃ xs ys, SqL K H a xs ∧ SqL K H b ys ∧ i = min xs.length ys.length⟩
theorem turn_zip {P : Program} {w : World} {K : PySem.W.Frag} {elts : List Expr} {k : Nat} {pos : Pos} {z TI TO i1 i2 l1 l2 : Addr} (D : ZipApart z TI TO i1 i2 l1 l2) :
    Turn P w K (.Tuple elts k pos) (Itz K l1 l2) [z, TI, TO, i1, i2] z (fun i h => IsZip h z TI TO .none ∧ IsPair h TI (.ref i1) (.ref i2) ∧ (∃ a b, IsPair h TO a b) ∧ h.IsListIter i1 l1 i ∧ h.IsListIter i2 l2 i) where
  mem := by simp
  obj := fun i h hyp c hc => by
    obtain ⟨hz, hTI, ⟨a, b, hTO⟩, ⟨o1, e1, c1, d1⟩, ⟨o2, e2, c2, d2⟩⟩ := hyp
    have hc' : c = z ∨ c = TI ∨ c = TO ∨ c = i1 ∨ c = i2 := by simpa using hc
    rcases hc' with rfl | rfl | rfl | rfl | rfl
    · exact ⟨_, hz, fun v z => by cases (show Data.fields _ = Data.cell v from z)⟩
    · exact ⟨_, hTI, fun v z => by cases (show Data.seq _ _ = Data.cell v from z)⟩
    · exact ⟨_, hTO, fun v z => by cases (show Data.seq _ _ = Data.cell v from z)⟩
    · exact ⟨o1, e1, fun v z => by rw [d1] at z; cases z⟩
    · exact ⟨o2, e2, fun v z => by rw [d2] at z; cases z⟩
  keep := fun i h h' ⟨hz, hTI, ⟨a, b, hTO⟩, h1, h2⟩ kk =>
    ⟨kk z (by simp) _ hz, kk TI (by simp) _ hTI, ⟨a, b, kk TO (by simp) _ hTO⟩, h1.at fun o e => kk i1 (by simp) o e, h2.at fun o e => kk i2 (by simp) o e⟩
  item := by
    intro X hP hw hK hc i pins s σ H E I hf st hg
    subst hP hw hK
    obtain ⟨xs, ys, x, y, q1, q2, hx, hy⟩ := hg
    obtain ⟨its1, r1, p1, _⟩ := I.list q1
    obtain ⟨its2, r2, p2, _⟩ := I.list q2
    obtain ⟨u, hu, ru⟩ := r1.get hx
    obtain ⟨v, hv, rv⟩ := r2.get hy
    have W := WalksT.zip2 (prog := X.prog) (w := X.w) (I.ok.hd hc) z TI TO i1 i2 l1 l2 D its1.toArray its2.toArray
    have hi : i < min its1.toArray.size its2.toArray.size := by
      have a1 := (List.getElem?_eq_some_iff.mp hu).1
      have a2 := (List.getElem?_eq_some_iff.mp hv).1
      simp only [List.size_toArray]; omega
    obtain ⟨hz, hTI, hTO, h1, h2⟩ := st
    have olt : ∀ b ∈ [z, TI, TO, i1, i2], b < s.heap.objs.size := fun b hb => by
      obtain ⟨a, b', hTO'⟩ := hTO
      have hc' : b = z ∨ b = TI ∨ b = TO ∨ b = i1 ∨ b = i2 := by simpa using hb
      rcases hc' with rfl | rfl | rfl | rfl | rfl
      · exact Heap.lt_size hz
      · exact Heap.lt_size hTI
      · exact Heap.lt_size hTO'
      · obtain ⟨_, e, _⟩ := h1; exact Heap.lt_size e
      · obtain ⟨_, e, _⟩ := h2; exact Heap.lt_size e
    refine W.item i s _ _ hi ⟨hz, hTI, hTO, h1, h2, p1.isList, p2.isList⟩ fun T vals h1' tk hv' hT hTup mid kp => ?_
    obtain ⟨u', v', hu', hv'', e⟩ := hv'
    subst e
    have eu : u' = u := by
      have : its1[i]? = some u' := by simpa using hu'
      rw [hu] at this; cases this; rfl
    have ev : v' = v := by
      have : its2[i]? = some v' := by simpa using hv''
      rw [hv] at this; cases this; rfl
    subst eu ev
    refine ⟨_, rfl, W.go elts k pos i T _ _ _ mid fun h2' st2 kp2 => ?_⟩
    have sub : ∀ b ∈ [z, TO, i1, i2], b ∈ [z, TI, TO, i1, i2] := fun b hb => by
      have hc' : b = z ∨ b = TO ∨ b = i1 ∨ b = i2 := by simpa using hb
      rcases hc' with rfl | rfl | rfl | rfl <;> simp
    have I1 : Inv X pins σ H { s with heap := h2', toks := tk } := I.turnedL (ch := [z, TO, i1, i2]) (fun b o hb e => kp2 b o hb (kp b o hb e)) fun b hb => hf b (sub b hb)
    have hTn : H T = none := I.hok.fresh hT
    obtain ⟨o, ho, oc, on, od⟩ := hTup
    have ho2 := kp2 T o (W.apart i T _ mid) ho
    have I2 : Inv X pins σ (upd H T (.tup [x, y])) { s with heap := h2', toks := tk } := I1.track hTn (Nat.le_trans I.sz hT) (Nat.ne_of_gt (Nat.lt_of_lt_of_le I.lt hT)) (fun n c e z => by
        obtain ⟨vv, q⟩ := I.cell n c e
        exact absurd (Nat.lt_of_lt_of_le q.lt (by rw [z]; exact hT)) (Nat.lt_irrefl _)) (fun p hp z => absurd (Nat.lt_of_lt_of_le (Heap.lt_size (I.pin p hp).1) (by rw [z]; exact hT)) (Nat.lt_irrefl _))
      ⟨by show 2 ≤ sizeLine; decide, [u', v'], .cons ru (.cons rv .nil), o, ho2, oc, on, od⟩
    refine ⟨.ref T, _, I2, rfl, ⟨T, x, y, hTn, rfl, rfl, fun xs' ys' z1 z2 => ?_⟩, ⟨st2.1, st2.2.1, st2.2.2.1, st2.2.2.2.1, st2.2.2.2.2.1⟩, fun b hb => ?_⟩
    · rw [I.list_inj z1 q1, I.list_inj z2 q2]; exact ⟨hx, hy⟩
    · rw [upd_ne (Nat.ne_of_lt (Nat.lt_of_lt_of_le (olt b hb) hT))]; exact (hf b hb).1
  done := by
    intro X hP hw hK hc i pins s σ H E I hf st hg
    subst hP hw hK
    obtain ⟨xs, ys, q1, q2, hi⟩ := hg
    obtain ⟨its1, r1, p1, _⟩ := I.list q1
    obtain ⟨its2, r2, p2, _⟩ := I.list q2
    have W := WalksT.zip2 (prog := X.prog) (w := X.w) (I.ok.hd hc) z TI TO i1 i2 l1 l2 D its1.toArray its2.toArray
    obtain ⟨hz, hTI, hTO, h1, h2⟩ := st
    have ei : i = min its1.toArray.size its2.toArray.size := by simp only [List.size_toArray]; rw [← r1.length, ← r2.length]; exact hi
    subst ei
    refine W.done s _ _ ⟨hz, hTI, hTO, h1, h2, p1.isList, p2.isList⟩ fun h' tk kp => ⟨rfl, ?_⟩
    exact I.turnedL (ch := [z, TO, i1, i2]) kp fun b hb => hf b (by
      have hc' : b = z ∨ b = TO ∨ b = i1 ∨ b = i2 := by simpa using hb
      rcases hc' with rfl | rfl | rfl | rfl <;> simp)
  self := fun _ _ _ _ _ st h => wpAny_pyIter_zip st.1 h
noncomputable def iZip (K : PySem.W.Frag) (ta : TA) : TI := fun σ H R => ta σ H fun vs H1 => ∃ a b, vs = [.ref a, .ref b] ∧ (∃ xs, SqL K H1 a xs) ∧ (∃ ys, SqL K H1 b ys) ∧ R (Itz K a b) H1
theorem pi_zip {X : Cx} {elts : List Expr} {k : Nat} {tpos : Pos} {a b : Expr} {ta : TA} {p pos : Pos} (hg : Gl X "zip") (hm : X.mg "zip" = none) (ha : PA X [a, b] ta) (hs : starEach [a, b] X.env = [(false, eval a X.env), (false, eval b X.env)] := by rfl)
    (hs2 : starEach [b] X.env = [(false, eval b X.env)] := by rfl) : PI X (.Tuple elts k tpos) (.Call (.Name "zip" p) [a, b] [] pos) (iZip X.K ta) := by
  intro pins s σ H R I h
  refine Call_ (ld_blt I hg hm bo_zip (PyProof.Rows.callWith_type1 (thn (ha pos pins s σ H _ I h) fun us s1 ⟨vs, H1, I1, r1, q1⟩ => ?_) (by rw [hs, hs2]) (by rw [hs2]; rfl)))
  obtain ⟨l1, l2, e, ⟨xs, hx⟩, ⟨ys, hy⟩, q⟩ := q1
  subst e
  obtain ⟨u, v, rfl, ru, rv⟩ := vals2 r1
  cases (show u = Value.ref l1 from ru)
  cases (show v = Value.ref l2 from rv)
  obtain ⟨its1, _, p1, _⟩ := I1.list hx
  obtain ⟨its2, _, p2, _⟩ := I1.list hy
  have lt1 : l1 < s1.heap.objs.size := by obtain ⟨o, e, _⟩ := p1.isList; exact Heap.lt_size e
  have lt2 : l2 < s1.heap.objs.size := by obtain ⟨o, e, _⟩ := p2.isList; exact Heap.lt_size e
  refine call_zip_2 p1.isList p2.isList fun h' hz hTI hTO hi1 hi2 hsz kp => wpAny_pyIter_zip hz ?_
  have I2 : Inv X pins σ H1 { s1 with heap := h' } := I1.kept (t' := s1.toks) kp
  have D : ZipApart (s1.heap.objs.size + 4) (s1.heap.objs.size + 2) (s1.heap.objs.size + 3) s1.heap.objs.size (s1.heap.objs.size + 1) l1 l2 := PySem.W.ktu_apart _ _ _ lt1 lt2
  refine ⟨_, [s1.heap.objs.size + 4, s1.heap.objs.size + 2, s1.heap.objs.size + 3, s1.heap.objs.size, s1.heap.objs.size + 1], _, Itz X.K l1 l2, H1, rfl, I2, turn_zip D, ⟨hz, hTI, ⟨_, _, hTO⟩, hi1, hi2⟩, fun b hb => ?_, q⟩
  have hb' : s1.heap.objs.size ≤ b := by
    have hc' : b = s1.heap.objs.size + 4 ∨ b = s1.heap.objs.size + 2 ∨ b = s1.heap.objs.size + 3 ∨ b = s1.heap.objs.size ∨ b = s1.heap.objs.size + 1 := by simpa using hb
    rcases hc' with rfl | rfl | rfl | rfl | rfl <;> first | exact Nat.le_refl _ | exact Nat.le_add_right _ _
  have f := I1.fpOk (H' := H1) hb' (I1.hok.fresh hb')
  exact ⟨f.1, f.2.1, f.2.2.1, f.2.2.2.1, f.2.2.2.2.1, f.2.2.2.2.2⟩
section
variable {X : Cx}
theorem ints_items {us : List Value} {ns : List Int} (h : IntsAre us ns) : ∃ xs : Array (Int × Tok), us.toArray = intItems xs ∧ xs.toList.map (·.1) = ns := by
  obtain ⟨xs, e⟩ := h.allInts.items
  refine ⟨xs, e, ?_⟩
  have e1 := h.numsOf
  have e2 : us = xs.toList.map fun p => Value.int p.1 p.2 := by
    have := congrArg Array.toList e
    simpa [intItems] using this
  rw [e2, numsOf_map] at e1
  exact e1
theorem call_sumL (hc : X.calm = true) : CallR X (.builtin "sum") (fun xs H Q => ∃ (p : Addr) (ns : List Int), xs = [.ref p] ∧ SqL X.K H p (ns.map V.int) ∧ Q (.int ns.sum) H) := by
  intro pins s σ H xs us Q I r h
  obtain ⟨p, ns, rfl, hq, q⟩ := h
  obtain ⟨u, rfl, ru⟩ := vals1 r
  cases (show u = Value.ref p from ru)
  obtain ⟨its, rv, pl, _⟩ := I.list hq
  obtain ⟨ys, e1, e2⟩ := ints_items (intsAre_of rv)
  have hl := pl.isList
  rw [e1] at hl
  refine sum_intListG (I.ok.hd hc) hl fun h' tk t' kp => ⟨.int ns.sum, H, I.kept (t' := tk) kp, ⟨t', ?_⟩, q⟩
  rw [preSum_eq, List.take_of_length_le (by simp), e2]
noncomputable def maxL : List Int → Int
  | [] => 0
  | x :: xs => xs.foldl (fun a b => if b > a then b else a) x
theorem foldl_snoc {α β : Type} (f : β → α → β) (b : β) (l : List α) (a : α) : (l ++ [a]).foldl f b = f (l.foldl f b) a := by rw [List.foldl_append]; rfl
theorem best_max (ns : List Int) : ∀ n, n < ns.length → ns.getD (argBest (fun i j => decide (ns.getD i 0 > ns.getD j 0)) n) 0 = maxL (ns.take (n + 1))
  | 0, h => by
    cases ns with
    | nil => simp at h
    | cons x xs => simp [argBest, maxL]
  | n + 1, h => by
    have ih := best_max ns n (by omega)
    have et : ns.take (n + 1 + 1) = ns.take (n + 1) ++ [ns.getD (n + 1) 0] := by
      rw [List.take_succ_eq_append_getElem h, List.getD_eq_getElem?_getD, List.getElem?_eq_getElem h]; rfl
    rw [et]
    cases q : ns.take (n + 1) with
    | nil =>
      have := congrArg List.length q
      rw [List.length_take, List.length_nil] at this; omega
    | cons x xs =>
      rw [q] at ih
      have e1 : maxL (x :: xs ++ [ns.getD (n + 1) 0]) = if ns.getD (n + 1) 0 > maxL (x :: xs) then ns.getD (n + 1) 0 else maxL (x :: xs) := by
        show (xs ++ [ns.getD (n + 1) 0]).foldl _ x = _
        rw [foldl_snoc]; rfl
      rw [e1, ← ih]
      show ns.getD (if decide (ns.getD (n + 1) 0 > ns.getD (argBest (fun i j => decide (ns.getD i 0 > ns.getD j 0)) n) 0) = true then n + 1 else argBest (fun i j => decide (ns.getD i 0 > ns.getD j 0)) n) 0 = _
      by_cases hc : ns.getD (n + 1) 0 > ns.getD (argBest (fun i j => decide (ns.getD i 0 > ns.getD j 0)) n) 0
      · rw [if_pos (decide_eq_true hc), if_pos hc]
      · rw [if_neg (by simpa using hc), if_neg hc]
theorem numAt_of {xs : Array (Int × Tok)} {ns : List Int} (e : xs.toList.map (·.1) = ns) : numAt xs = fun i => ns.getD i 0 := by
  funext i
  subst e
  unfold numAt
  rw [List.getD_eq_getElem?_getD, List.getElem?_map, Array.getElem?_toList]
theorem call_maxL (hc : X.calm = true) : CallR X (.builtin "max") (fun xs H Q => ∃ (p : Addr) (ns : List Int), xs = [.ref p] ∧ ns ≠ [] ∧ SqL X.K H p (ns.map V.int) ∧ Q (.int (maxL ns)) H) := by
  intro pins s σ H xs us Q I r h
  obtain ⟨p, ns, rfl, hn, hq, q⟩ := h
  obtain ⟨u, rfl, ru⟩ := vals1 r
  cases (show u = Value.ref p from ru)
  obtain ⟨its, rv, pl, _⟩ := I.list hq
  obtain ⟨ys, e1, e2⟩ := ints_items (intsAre_of rv)
  have hl := pl.isList
  rw [e1] at hl
  have hs : ys.size = ns.length := by rw [← e2, List.length_map]; simp
  have hp : 0 < ns.length := List.length_pos_iff.mpr hn
  refine max_intList (I.ok.hd hc) hl (by omega) fun v h' tk hv kp => ?_
  rw [numAt_of e2, hs] at hv
  have hb := best_max ns (ns.length - 1) (by omega)
  rw [show ns.length - 1 + 1 = ns.length by omega, List.take_length] at hb
  generalize argBest (fun i j => decide (ns.getD i 0 > ns.getD j 0)) (ns.length - 1) = k at hv hb
  have hv' : ∃ a t, v = .int a t ∧ ns.getD k 0 = a := by
    unfold intItems at hv
    rw [Array.getElem?_map] at hv
    cases ek : ys[k]? with
    | none => rw [ek] at hv; cases hv
    | some pr =>
      rw [ek] at hv
      cases hv
      refine ⟨_, _, rfl, ?_⟩
      have := congrFun (numAt_of e2) k
      rw [← this]; unfold numAt; rw [ek]; rfl
  obtain ⟨a, t, rfl, ea⟩ := hv'
  exact ⟨.int (maxL ns), H, I.kept (t' := tk) kp, ⟨t, by rw [← hb, ea]⟩, q⟩
noncomputable def isD : PyData → String → Option Bool
  | .int _, n => if n = "int" then some true else if n = "bool" then some false else none
  | .tuple _, n => if n = "tuple" then some true else none
  | .list _, n => if n = "list" then some true else none
  | .str _, n => if n = "str" then some true else none
  | .bool _, n => if n = "bool" then some true else none
  | _, _ => none
noncomputable def tyD : PyData → String
  | .int _ => "int"
  | .tuple _ => "tuple"
  | .list _ => "list"
  | .str _ => "str"
  | .bool _ => "bool"
  | _ => "NoneType"
theorem isD_isB {d : PyData} {n : String} {b : Bool} (h : isD d n = some b) : isB (tyD d) n = some b := by
  unfold isD at h
  split at h
  · split at h
    · rename_i e; subst e; cases h; rfl
    · split at h
      · rename_i e; subst e; cases h; rfl
      · cases h
  all_goals first
    | (split at h
       · rename_i e; subst e; cases h; rfl
       · cases h)
    | cases h
theorem call_isD : CallR X (.builtin "isinstance") (fun xs H Q => ∃ x n d b, xs = [x, .ty n] ∧ RdV X.K H x d ∧ isD d n = some b ∧ Q (.bl b) H) := by
  intro pins s σ H xs us Q I r h
  obtain ⟨x, n, d, b, rfl, rd, hb, q⟩ := h
  obtain ⟨u, c, rfl, rx, rc⟩ := vals2 r
  cases (show c = Value.type n from rc)
  have e := kit_of_isB (K := X.K) (isD_isB hb)
  have fin : ∀ tk, EP X pins σ Q (.bool b) { s with toks := tk } := fun tk => ⟨.bl b, H, I.tok tk, rfl, q⟩
  cases rd with
  | non => cases hb
  | bl y => cases (show u = Value.bool y from rx); exact PySem.W.kia_one PySem.W.kitx_bool I.kIn True.intro e (fun z => nomatch z) fin
  | int i => obtain ⟨t, q⟩ := (show ∃ t, u = Value.int i t from rx); cases q; exact PySem.W.kia_one PySem.W.kitx_int I.kIn True.intro e (fun z => nomatch z) fin
  | str y => obtain ⟨t, q⟩ := (show ∃ t, u = Value.str y t from rx); cases q; exact PySem.W.kia_one PySem.W.kitx_str I.kIn True.intro e (fun z => nomatch z) fin
  | lst hq rs =>
    cases rx
    obtain ⟨its, rv, ⟨o, n, ho, hc, _, hd⟩, _⟩ := I.list hq
    exact PySem.W.kia_one PySem.W.kitx_list I.kIn ⟨o, ho, hc⟩ e (fun z => nomatch z) fin
  | tup hq rs =>
    cases rx
    obtain ⟨its, rv, ⟨o, ho, hc, n, hd⟩, _⟩ := I.tuple hq
    exact PySem.W.kia_one PySem.W.kitx_tuple I.kIn ⟨o, ho, hc⟩ e (fun z => nomatch z) fin
end
end L2
namespace L2
open PySem PySem.Spec PyProof.Rows
section
variable {X : Cx}
end
end L2
namespace L3
open PySem PySem.Spec PyProof.Rows L2
section
variable {X : Cx} {H0 : Hp} {pos p : Pos} {e : Expr}
noncomputable def unInts : List D → Option (List Int)
  | [] => some []
  | .int i :: r => (unInts r).map (i :: ·)
  | _ :: _ => none
theorem unInts_map (ns : List Int) : unInts (ns.map .int) = some ns := by
  induction ns with
  | nil => rfl
  | cons a r ih => simp [unInts, ih]
theorem unInts_rd {K : PySem.W.Frag} {G : Hp} {vs : List V} {ds : List D} {ns : List Int} (r : RdVs K G vs ds) (e : unInts ds = some ns) : vs = ns.map V.int := by
  induction vs generalizing ds ns with
  | nil => cases r; cases e; rfl
  | cons v vs ih =>
    cases r with
    | @cons _ _ d ds a b =>
      cases d with
      | int i =>
        have e' : (unInts ds).map (i :: ·) = some ns := e
        cases q : unInts ds with
        | none => rw [q] at e'; cases e'
        | some ms =>
          rw [q] at e'; cases e'
          rw [List.map_cons, ih b q, int_inv a]
      | _ => cases e
theorem seq_of {K : PySem.W.Frag} {H0 G H : Hp} {v : V} {c : Cl} {ds : List D} (w : Vw K H0 G H v c) (s : Same G H) (hd : c.dat = true) (h : c.d = .list ds) : ∃ a vs, v = .ref a ∧ SqL K H a vs ∧ Rfs K H0 G c.f vs ds := by
  cases w with
  | sh r =>
    have h' : _ = PyData.list ds := h
    subst h'
    obtain ⟨a, xs, rfl, hq, rs⟩ := rflst_inv r
    exact ⟨a, xs, rfl, s.seq hq, rs⟩
  | ow hh r n => cases h; exact ⟨_, _, rfl, SqL.of hh, r⟩
  | tr hh => cases hd
  | dt _ _ _ => cases hd
  | ex hh => cases hd
noncomputable def sum3 : C3 := fun cs Q => match cs with
  | [c] => c.dat = true ∧ ∃ ds ns, c.d = .list ds ∧ unInts ds = some ns ∧ Q true (.int ns.sum)
  | _ => False
theorem sum_ok (hc : X.calm = true) : CallOk X (.builtin "sum") sum3 := by
  refine ⟨fun cs Q Q' h q => ?_, fun H0 => CallR.imp (call_sumL hc) fun xs H Q => el2 fun G cs s w q => ?_⟩
  · unfold sum3 at *; split at q
    · obtain ⟨a, ds, ns, h1, h2, q⟩ := q; exact ⟨a, ds, ns, h1, h2, h _ _ q⟩
    · exact q
  · unfold sum3 at q; split at q
    · obtain ⟨v, rfl, w1⟩ := vws1 w
      obtain ⟨a, ds, ns, h1, h2, q⟩ := q
      obtain ⟨l, vs, rfl, hq, rs⟩ := seq_of w1 s a h1
      cases unInts_rd rs.rd h2
      exact ⟨l, ns, rfl, hq, q _ G H (Gr.refl s) (.sc rfl (.int _))⟩
    · exact q.elim
noncomputable def max3 : C3 := fun cs Q => match cs with
  | [c] => c.dat = true ∧ ∃ ds ns, c.d = .list ds ∧ unInts ds = some ns ∧ ns ≠ [] ∧ Q true (.int (maxL ns))
  | _ => False
theorem max_ok (hc : X.calm = true) : CallOk X (.builtin "max") max3 := by
  refine ⟨fun cs Q Q' h q => ?_, fun H0 => CallR.imp (call_maxL hc) fun xs H Q => el2 fun G cs s w q => ?_⟩
  · unfold max3 at *; split at q
    · obtain ⟨a, ds, ns, h1, h2, h3, q⟩ := q; exact ⟨a, ds, ns, h1, h2, h3, h _ _ q⟩
    · exact q
  · unfold max3 at q; split at q
    · obtain ⟨v, rfl, w1⟩ := vws1 w
      obtain ⟨a, ds, ns, h1, h2, h3, q⟩ := q
      obtain ⟨l, vs, rfl, hq, rs⟩ := seq_of w1 s a h1
      cases unInts_rd rs.rd h2
      exact ⟨l, ns, rfl, h3, hq, q _ G H (Gr.refl s) (.sc rfl (.int _))⟩
    · exact q.elim
noncomputable def listN (t : TA3) : TN3 := fun ρ Q => t ρ fun cs => ∃ c ds, cs = [c] ∧ c.dat = true ∧ (c.d = .list ds ∨ c.d = .tuple ds) ∧ Q (c.f || ds.all scal3) ds
theorem list3 {x : Str} {es : List Expr} {t : TA3} (hg : Gl X x) (hm : X.mg x = none) (hv : bootBuiltins x = some (.type "list")) (ha : PA3 X H0 (e :: es) t) (hn : x ≠ "__name__" := by decide) (hdb : (x == ("__debug__" : Str)) = false := by decide)
    (he : starEach (e :: es) X.env = (false, eval e X.env) :: starEach es X.env := by rfl) (hpl : (backTo pos (starEach es X.env)).any (·.1) = false := by rfl) : PN3 X H0 (.Call (.Name x p) (e :: es) [] pos) (listN t) :=
  ⟨fun ρ Q Q' h q => ha.mono ρ _ _ (fun cs ⟨c, ds, a, b, d, q⟩ => ⟨c, ds, a, b, d, h _ _ q⟩) q, PE.imp (pe_callTy call_list_of hg hm hv ha.ok hn hdb he hpl) fun σ H Q => el5 fun G0 ρ G F q => ⟨G0, ρ, G, F, ha.mono ρ _ _ (fun cs hyp vs G1 H1 g1 w => by
    obtain ⟨c, ds, a, b, d, k⟩ := hyp
    subst a
    obtain ⟨v, rfl, w1⟩ := vws1 w
    rcases d with d | d
    · obtain ⟨l, us, rfl, hq, rs⟩ := seq_of w1 g1.sub b d
      exact ⟨l, us, rfl, .inl hq, fun l' hl => k l' us G1 H1 g1 hl rs.or⟩
    · cases w1 with
      | sh r =>
        have d' : _ = PyData.tuple ds := d
        subst d'
        obtain ⟨l, us, rfl, hq, rs⟩ := rftup_inv r
        exact ⟨l, us, rfl, .inr (g1.sub.tup hq), fun l' hl => k l' us G1 H1 g1 hl rs.or⟩
      | ow _ _ _ => cases d
      | tr _ => cases d
      | dt _ _ _ => cases d
      | ex _ => cases b) q⟩⟩
noncomputable def catN (ta tb : TE3) : TN3 := fun ρ Q => ta ρ fun a => tb ρ fun b => ∃ ds es, a.dat = true ∧ b.dat = true ∧ a.d = .list ds ∧ b.d = .list es ∧ ds.length + es.length ≤ sizeLine ∧ Q ((a.f || ds.all scal3) && (b.f || es.all scal3)) (ds ++ es)
theorem op_catS : OpR X (binaryOp .Add) (fun x y H Q => ∃ l b xs zs, x = .ref l ∧ y = .ref b ∧ SqL X.K H l xs ∧ SqL X.K H b zs ∧ xs.length + zs.length ≤ sizeLine ∧ ∀ p, H p = none → Q (.ref p) (upd H p (.lst (xs ++ zs)))) := by
  intro pins s σ H x y v u Q I rx ry h
  obtain ⟨l, b, xs, zs, rfl, rfl, hl, hb, hz, k⟩ := h
  cases rx
  cases ry
  obtain ⟨its, rv, pl, _⟩ := I.list hl
  obtain ⟨its', rv', pl', _⟩ := I.list hb
  obtain ⟨⟨cls, dd, data, sl⟩, ho, hc, n, hd⟩ := pl.isList
  obtain ⟨⟨cls2, dd2, data2, sl2⟩, ho2, hc2, n2, hd2⟩ := pl'.isList
  simp only at hc hd hc2 hd2
  subst hc hd hc2 hd2
  have e : its.toArray ++ its'.toArray = (its ++ its').toArray := by simp
  refine concat_meets ⟨_, ho, rfl⟩ ⟨_, ho2, rfl⟩ noFill_list_add seq_list_add PySem.F.slot_list_add PySem.F.entry_list_add (PySem.F.args_list_add_2 _ _) (list_addW l b its.toArray its'.toArray n n2 dd dd2 sl sl2 (by rw [List.size_toArray, List.size_toArray, ← rv.length, ← rv'.length]; exact hz)) ⟨ho, ho2, ?_⟩
  rw [e]
  exact ⟨.ref _, _, I.lnew (t' := s.toks) (rv.append rv') (by rw [List.length_append]; exact hz), rfl, k _ I.fresh⟩
theorem cat3 {a b : Expr} {ta tb : TE3} (ha : PE3 X H0 a ta) (hb : PE3 X H0 b tb) : PN3 X H0 (.BinOp a .Add b pos) (catN ta tb) :=
  ⟨fun ρ Q Q' h q => ha.mono ρ _ _ (fun a => hb.mono ρ _ _ fun b ⟨ds, es, h1, h2, h3, h4, h5, q⟩ => ⟨ds, es, h1, h2, h3, h4, h5, h _ _ q⟩) q, PE.imp (pe_op op_catS ha.ok hb.ok) fun σ H Q => el5 fun G0 ρ G F q => ⟨G0, ρ, G, F, ha.mono ρ _ _ (fun a qa v1 G1 H1 g1 w1 => ⟨G0, ρ, G1, F.gr g1, hb.mono ρ _ _ (fun b hyp v2 G2 H2 g2 w2 => by
    obtain ⟨ds, es, h1, h2, h3, h4, h5, k⟩ := hyp
    obtain ⟨l, us, rfl, hq, rs⟩ := seq_of (w1.gr g2) g2.sub h1 h3
    obtain ⟨m, us', rfl, hq', rs'⟩ := seq_of w2 g2.sub h2 h4
    exact ⟨l, m, us, us', rfl, rfl, hq, hq', by rw [rs.length, rs'.length]; exact h5, fun p hp => k p _ G2 H2 (g1.trans g2) hp (rs.or.append rs'.or)⟩) qa⟩) q⟩⟩
noncomputable def isi3' (n : String) (te : TE3) : TE3 := fun ρ Q => te ρ fun c => ∃ b, c.dat = true ∧ L2.isD c.d n = some b ∧ Q (.sh true (.bool b))
theorem isinst3 {nf : Str} {n : String} {x : Str} {p2 : Pos} {te : TE3} (hg : Gl X nf) (hm : X.mg nf = none) (hnf : nf = "isinstance") (hg2 : Gl X x) (hm2 : X.mg x = none) (hv : bootBuiltins x = some (.type n)) (he : PE3 X H0 e te) (hn : x ≠ "__name__" := by decide)
    (h1 : starEach [e, .Name x p2] X.env = (false, eval e X.env) :: starEach [.Name x p2] X.env := by rfl) (h2 : starEach [.Name x p2] X.env = (false, eval (.Name x p2) X.env) :: starEach [] X.env := by rfl)
    (hpl : (backTo pos (starEach [.Name x p2] X.env)).any (·.1) = false := by rfl) (hdx : (x == ("__debug__" : Str)) = false := by decide) : PE3 X H0 (.Call (.Name nf p) [e, .Name x p2] [] pos) (isi3' n te) := by
  subst hnf
  exact ⟨fun ρ Q Q' h q => he.mono ρ _ _ (fun c ⟨b, a, d, q⟩ => ⟨b, a, d, h _ q⟩) q, PE.imp (pe_callB (x := "isinstance") call_isD hg hm bo_isinstance (pa_cons he.ok (pa_cons (pe_bltn (v := .ty n) hg2 hm2 hv rfl hn hdx) pa_nil h2) h1) (by decide) (by decide) h1 hpl) fun σ H Q => el5 fun G0 ρ G F q => ⟨G0, ρ, G, F, he.mono ρ _ _ (fun c ⟨b, hd, hb, k⟩ v G1 H1 g1 w =>
    ⟨v, n, c.d, b, rfl, w.rd g1.sub hd, hb, k _ G1 H1 g1 (.sh (.sc rfl (.bl b)))⟩) q⟩⟩
noncomputable def zipD : List D → List D → List D
  | a :: as, b :: bs => .tuple [a, b] :: zipD as bs
  | _, _ => []
theorem zipD_length : ∀ as bs, (zipD as bs).length = min as.length bs.length
  | [], _ => by simp [zipD]
  | _ :: _, [] => by simp [zipD]
  | a :: as, b :: bs => by simp [zipD, zipD_length as bs, Nat.succ_min_succ]
theorem zipD_get : ∀ {as bs : List D} {i : Nat} {d : D}, (zipD as bs)[i]? = some d → ∃ a b, d = .tuple [a, b] ∧ as[i]? = some a ∧ bs[i]? = some b
  | [], _, i, d, h => by simp [zipD] at h
  | _ :: _, [], i, d, h => by simp [zipD] at h
  | a :: as, b :: bs, 0, d, h => by cases h; exact ⟨a, b, rfl, rfl, rfl⟩
  | a :: as, b :: bs, i + 1, d, h => by
    obtain ⟨x, y, h1, h2, h3⟩ := zipD_get (i := i) (show (zipD as bs)[i]? = some d from h)
    exact ⟨x, y, h1, h2, h3⟩
noncomputable def itZ (t : TA3) : TI3 := fun ρ Q => t ρ fun cs => ∃ f g as bs, cs = [.sh f (.list as), .sh g (.list bs)] ∧ Q (f && g) (zipD as bs)
theorem itz_ok {K : PySem.W.Frag} {H0 G : Hp} {a b : Addr} {xs ys : List V} {f g : Bool} {as bs : List D} (h1 : SqL K G a xs) (r1 : Rfs K H0 G f xs as) (h2 : SqL K G b ys) (r2 : Rfs K H0 G g ys bs) : ItOk K H0 (Itz K a b) (f && g) (zipD as bs) G where
  go := fun i d G' H hd s1 s2 => by
    obtain ⟨p, q, rfl, hp, hq⟩ := zipD_get hd
    obtain ⟨x, hx, rx⟩ := r1.get hp
    obtain ⟨y, hy, ry⟩ := r2.get hq
    have ss := s1.trans s2
    refine ⟨⟨xs, ys, x, y, ss.seq h1, ss.seq h2, hx, hy⟩, fun v H' ⟨l, x', y', hl, e1, e2, hh⟩ => ?_⟩
    subst e1 e2
    obtain ⟨z1, z2⟩ := hh xs ys (ss.seq h1) (ss.seq h2)
    rw [hx] at z1; rw [hy] at z2
    cases z1; cases z2
    have gl := same_new (s2.free hl) (.tup [x, y])
    exact ⟨upd G' l (.tup [x, y]), Gr.put s2 hl, ⟨.tup (SqT.of upd_same) (.cons (rdv_same (s1.trans gl) rx.rd) (.cons (rdv_same (s1.trans gl) ry.rd) .nil)), fun hf => by
      rw [Bool.and_eq_true] at hf
      exact .tup (SqT.of upd_same) (.cons (rdn_mono (s1.trans gl) (fun _ _ _ z => z) (rx.nw hf.1)) (.cons (rdn_mono (s1.trans gl) (fun _ _ _ z => z) (ry.nw hf.2)) .nil))⟩⟩
  stop := fun i G' H hl s1 s2 => ⟨xs, ys, (s1.trans s2).seq h1, (s1.trans s2).seq h2, by rw [hl, zipD_length, r1.length, r2.length]⟩
theorem it_zip {elts : List Expr} {k : Nat} {tpos : Pos} {a b : Expr} {t : TA3} (hg : Gl X "zip") (hm : X.mg "zip" = none) (ha : PA3 X H0 [a, b] t) (hs : starEach [a, b] X.env = [(false, eval a X.env), (false, eval b X.env)] := by rfl)
    (hs2 : starEach [b] X.env = [(false, eval b X.env)] := by rfl) : PI3 X H0 (.Tuple elts k tpos) (.Call (.Name "zip" p) [a, b] [] pos) (itZ t) :=
  ⟨fun ρ Q Q' h q => ha.mono ρ _ _ (fun cs ⟨f, g, as, bs, e, q⟩ => ⟨f, g, as, bs, e, h _ _ q⟩) q, PI.imp (pi_zip hg hm ha.ok hs hs2) fun σ H R => el5 fun G0 ρ G F q => ⟨G0, ρ, G, F, ha.mono ρ _ _ (fun cs hyp vs G' H' g w => by
    obtain ⟨fl, fm, as, bs, e, k⟩ := hyp
    subst e
    obtain ⟨v, u, rfl, w1, w2⟩ := vws2 w
    obtain ⟨x, xs, rfl, hx, rx⟩ := rflst_inv (sh_inv w1)
    obtain ⟨y, ys, rfl, hy, ry⟩ := rflst_inv (sh_inv w2)
    exact ⟨x, y, rfl, ⟨xs, g.sub.seq hx⟩, ⟨ys, g.sub.seq hy⟩, k _ G' H' g (itz_ok hx rx hy ry)⟩) q⟩⟩
end
end L3
namespace L3
open PySem PySem.Spec PyProof.Rows L2
section
variable {K : PySem.W.Frag} {H0 G0 : Hp} {ρ : Env3} {σ : L2.St} {G H : Hp}
theorem Fr3.exc (F : Fr3 K H0 G0 ρ σ G H) {i : Nat} {a C : Addr} (h : H a = some (excO a C)) : Fr3 K H0 G0 (ρ.set i (some (.ex C))) (σ.set i (some (.ref a))) G H := F.put (Same.refl _) (.ex h) fun _ h => False.elim h
end
theorem PX.imp {X : Cx} {e : List Stmt} {t t' : TX} (h : PX X e t) (i : ∀ B E σ H, t' B E σ H → t B E σ H) : PX X e t' := fun pins s σ H B E I q => h pins s σ H B E I (i _ _ _ _ q)
section
variable {X : Cx} {H0 : Hp} {pos pos' p : Pos} {e : Expr} {es : List Expr} {x : Str}
end
end L3
namespace L3
open PySem PySem.Spec PyProof.Rows L2
theorem pass_no {P : Program} {w : World} {X : Cx} : Passes (CXR P w) X (fun _ _ _ => False) := fun _ _ _ _ _ _ _ ⟨_, _, _, _, _, h⟩ => h.elim
section
variable {X : Cx} {H0 : Hp} {pos : Pos} {x : Str}
theorem g3i {i : Int} (hg : Gl X x) (hm : ∃ t, X.mg x = some (.int i t)) (hd : (x == ("__debug__" : Str)) = false := by decide) : PE3 X H0 (.Name x pos) (k3 (.int i)) := by
  obtain ⟨t, hm⟩ := hm
  exact g3 (v := .int i) hg hm ⟨t, rfl⟩ (fun _ => .int i) rfl hd
end
theorem sz {n : Nat} (h : n ≤ 1000000) : n ≤ sizeLine := Nat.le_trans h (by decide)
theorem sz0 : (0 ≤ sizeLine) = True := eq_true (by decide)
theorem sz1 : (1 ≤ sizeLine) = True := eq_true (by decide)
theorem sz2 : (2 ≤ sizeLine) = True := eq_true (by decide)
theorem sz4 : (4 ≤ sizeLine) = True := eq_true (by decide)
theorem sz5 : (5 ≤ sizeLine) = True := eq_true (by decide)
theorem ints_rd {K : PySem.W.Frag} {H : Hp} : ∀ ns : List Int, RdVs K H (ns.map V.int) (ns.map PyData.int)
  | [] => .nil
  | a :: r => .cons (.int a) (ints_rd r)
theorem for_by {g : TG3} {tb : TS3} {A : Ends3} {f : Bool} (P : List D → Env3 → Prop) (s : ∀ d ds ρ, P (d :: ds) ρ → ∀ W : Env3 → Prop, (∀ ρ', P ds ρ' → W ρ') → g f d ρ fun ρ' => tb { A with nx := W, ct := W, bk := A.nx } ρ') (e : ∀ ρ, P [] ρ → A.nx ρ) : ∀ ds ρ, P ds ρ → forL g tb A f ds ρ
  | [], ρ, h => e ρ h
  | d :: ds, ρ, h => s d ds ρ h _ fun ρ' p => for_by P s e ds ρ' p
theorem seq_step {a b : TS3} {A : Ends3} {ρ : Env3} (h : ∀ N : Env3 → Prop, (∀ ρ', b A ρ' → N ρ') → a { A with nx := N } ρ) : seq3 a b A ρ := h (b A) fun _ z => z
theorem seq_mid {a b : TS3} {A : Ends3} {ρ : Env3} (M : Env3 → Prop) (h1 : ∀ N : Env3 → Prop, (∀ ρ', M ρ' → N ρ') → a { A with nx := N } ρ) (h2 : ∀ ρ', M ρ' → b A ρ') : seq3 a b A ρ := h1 (b A) h2
theorem if_step {c : TT3} {t u : TS3} {A : Ends3} {ρ : Env3} (h : ∀ Y N : Prop, (t A ρ → Y) → (u A ρ → N) → c ρ fun k => if k = true then Y else N) : ifS3 c t u A ρ := h (t A ρ) (u A ρ) id id
theorem while_by {c : TT3} {tb : TS3} {A : Ends3} (P : Nat → Env3 → Prop) (h : ∀ n ρ, P n ρ → ∀ W : Env3 → Prop, (∀ m ρ', m < n → P m ρ' → W ρ') → c ρ fun k => if k = true then tb { A with nx := W, ct := W, bk := A.nx } ρ else A.nx ρ) : ∀ n ρ, P n ρ → whN c tb A (n + 1) ρ
  | n, ρ, p => by
    have key : ∀ k m ρ, m ≤ k → P m ρ → whN c tb A (k + 1) ρ := by
      intro k
      induction k with
      | zero => intro m ρ hm p; exact h m ρ p _ (fun m' ρ' hlt _ => absurd hlt (by omega))
      | succ k ih => intro m ρ hm p; exact h m ρ p _ (fun m' ρ' hlt p' => ih m' ρ' (by omega) p')
    exact key n n ρ (Nat.le_refl _) p
end L3
namespace L3
open PySem PySem.Spec PyProof.Rows L2
theorem comp_map {α : Type} {g : TG3} {tt : TT3} {te : TE3} {f : Bool} (enc out : α → D) (R : Env3 → Prop) : ∀ (xs : List α), (∀ x ∈ xs, ∀ ρ fa acc (K : Bool → List D → Env3 → Prop), R ρ → (∀ ρ', R ρ' → K fa (acc ++ [out x]) ρ') →
    g f (enc x) ρ fun ρ' => tt ρ' fun k => if k = true then te ρ' fun c => asS c fun fy y => K (fa && fy) (acc ++ [y]) ρ' else K fa acc ρ') → ∀ fa acc ρ (Q : Bool → List D → Prop), R ρ → Q fa (acc ++ xs.map out) → compL g tt te f (xs.map enc) fa acc ρ Q
  | [], _, fa, acc, ρ, Q, _, q => by show Q fa acc; simpa using q
  | x :: xs, s, fa, acc, ρ, Q, hR, q => s x List.mem_cons_self ρ fa acc (fun fa acc ρ' => compL g tt te f (xs.map enc) fa acc ρ' Q) hR fun ρ' hR' =>
      comp_map enc out R xs (fun y hy => s y (List.mem_cons_of_mem _ hy)) fa (acc ++ [out x]) ρ' Q hR' (by rw [List.append_assoc]; exact q)
theorem zipD_map {α β : Type} (e1 : α → D) (e2 : β → D) : ∀ (xs : List α) (ys : List β), zipD (xs.map e1) (ys.map e2) = (xs.zip ys).map fun p => .tuple [e1 p.1, e2 p.2]
  | [], _ => by simp [zipD]
  | _ :: _, [] => by simp [zipD]
  | x :: xs, y :: ys => by simp [zipD, zipD_map e1 e2 xs ys]
theorem atI_map {α β : Type} (e : α → β) (xs : List α) (i : Int) : atI (xs.map e) i = (atI xs i).map e := by
  unfold atI
  rw [List.length_map]
  cases ixN xs.length i with
  | none => rfl
  | some j => simp
end L3
namespace L3
theorem nums_succ (lo : Int) (n : Nat) : nums lo (n + 1) = .int lo :: nums (lo + 1) n := by
  unfold nums
  rw [List.range_succ_eq_map, List.map_cons, List.map_map]
  congr 1
  · simp
  · apply List.map_congr_left
    intro i _
    simp only [Function.comp]
    congr 1
    omega
theorem for_nums {g : TG3} {tb : TS3} {A : Ends3} {f : Bool} {lo : Int} {n : Nat} (P : Nat → Env3 → Prop) (s : ∀ k ρ, k < n → P k ρ → ∀ W : Env3 → Prop, (∀ ρ', P (k + 1) ρ' → W ρ') → g f (.int (lo + k)) ρ fun ρ' => tb { A with nx := W, ct := W, bk := A.nx } ρ') (e : ∀ ρ, P n ρ → A.nx ρ) {ρ : Env3} (h : P 0 ρ) : forL g tb A f (nums lo n) ρ := by
  have key : ∀ m k ρ, k + m = n → P k ρ → forL g tb A f (nums (lo + k) m) ρ := by
    intro m
    induction m with
    | zero => intro k ρ hk p; have : k = n := by omega
              subst this; exact e ρ p
    | succ m ih =>
      intro k ρ hk p
      rw [nums_succ]
      refine s k ρ (by omega) p _ fun ρ' p' => ?_
      have := ih (k + 1) ρ' (by omega) p'
      rw [show lo + ((k + 1 : Nat) : Int) = lo + k + 1 by omega] at this
      exact this
  have := key n 0 ρ (by omega) h
  simpa using this
theorem for_list {α : Type} {g : TG3} {tb : TS3} {A : Ends3} {f : Bool} (enc : α → D) (l : List α) (P : List α → Env3 → Prop) (s : ∀ done x rest ρ, l = done ++ x :: rest → P done ρ → ∀ W : Env3 → Prop, (∀ ρ', P (done ++ [x]) ρ' → W ρ') → g f (enc x) ρ fun ρ' => tb { A with nx := W, ct := W, bk := A.nx } ρ') (e : ∀ ρ, P l ρ → A.nx ρ) {ρ : Env3} (h : P [] ρ) : forL g tb A f (l.map enc) ρ := by
  have key : ∀ rest done ρ, l = done ++ rest → P done ρ → forL g tb A f (rest.map enc) ρ := by
    intro rest
    induction rest with
    | nil => intro done ρ hl p; rw [List.append_nil] at hl; subst hl; exact e ρ p
    | cons x rest ih =>
      intro done ρ hl p
      exact s done x rest ρ hl p _ fun ρ' p' => ih (done ++ [x]) ρ' (by rw [hl, List.append_assoc]; rfl) p'
  exact key l [] ρ rfl h
end L3
namespace L3
open PySem L2
mutual
theorem eqv_refl : ∀ {d : D}, PyData.canLay0 d = true → PyData.eqv d d = true
  | .none, _ => by simp [PyData.eqv]
  | .bool b, _ => by simp [PyData.eqv]
  | .int i, _ => by simp [PyData.eqv]
  | .str x, _ => by simp [PyData.eqv]
  | .list xs, h => by
    have h' : PyData.canLayAll0 xs = true := by simpa [PyData.canLay0] using h
    simpa [PyData.eqv] using eqvAll_refl h'
  | .tuple xs, h => by
    have h' : PyData.canLayAll0 xs = true := by simpa [PyData.canLay0] using h
    simpa [PyData.eqv] using eqvAll_refl h'
  | .dict _, h => by simp [PyData.canLay0] at h
theorem eqvAll_refl : ∀ {ds : List D}, PyData.canLayAll0 ds = true → PyData.eqvAll ds ds = true
  | [], _ => by simp [PyData.eqvAll]
  | d :: ds, h => by
    have h' : PyData.canLay0 d = true ∧ PyData.canLayAll0 ds = true := by simpa [PyData.canLayAll0] using h
    simp [PyData.eqvAll, eqv_refl h'.1, eqvAll_refl h'.2]
end
noncomputable def Plain (n : Nat) (d : D) : Prop := PyData.canLay0 d = true ∧ PyData.depth d ≤ n
theorem Plain.shaped {n : Nat} {d : D} (h : Plain n d) (hn : n ≤ 64) : SeqAt.shaped d = true := by
  unfold SeqAt.shaped
  rw [h.1, Bool.true_and]
  exact decide_eq_true (Nat.le_trans h.2 hn)
theorem Plain.int (i : Int) : Plain 0 (.int i) := ⟨by simp [PyData.canLay0], by simp [PyData.depth]⟩
theorem Plain.bool (i : Bool) : Plain 0 (.bool i) := ⟨by simp [PyData.canLay0], by simp [PyData.depth]⟩
theorem Plain.none : Plain 0 .none := ⟨by simp [PyData.canLay0], by simp [PyData.depth]⟩
theorem plain_all {n : Nat} : ∀ {ds : List D}, (∀ d ∈ ds, Plain n d) → PyData.canLayAll0 ds = true ∧ PyData.depthAll ds ≤ n
  | [], _ => by simp [PyData.canLayAll0, PyData.depthAll]
  | d :: ds, h => by
    obtain ⟨h1, h2⟩ := h d List.mem_cons_self
    obtain ⟨h3, h4⟩ := plain_all (ds := ds) fun x hx => h x (List.mem_cons_of_mem _ hx)
    simp [PyData.canLayAll0, PyData.depthAll, h1, h3]
    omega
theorem Plain.list {n : Nat} {ds : List D} (h : ∀ d ∈ ds, Plain n d) : Plain (n + 1) (.list ds) := by
  obtain ⟨h1, h2⟩ := plain_all h
  exact ⟨by simp [PyData.canLay0, h1], by simp [PyData.depth, h2]⟩
theorem Plain.tuple {n : Nat} {ds : List D} (h : ∀ d ∈ ds, Plain n d) : Plain (n + 1) (.tuple ds) := by
  obtain ⟨h1, h2⟩ := plain_all h
  exact ⟨by simp [PyData.canLay0, h1], by simp [PyData.depth, h2]⟩
theorem Plain.mono {m n : Nat} {d : D} (h : Plain m d) (hn : m ≤ n) : Plain n d := ⟨h.1, Nat.le_trans h.2 hn⟩
theorem atI_lt {α : Type} {xs : List α} {i : Int} (h0 : 0 ≤ i) (h : i < xs.length) : ∃ x, atI xs i = some x ∧ x ∈ xs ∧ xs[i.toNat]? = some x := by
  have hk : i.toNat < xs.length := by omega
  refine ⟨xs[i.toNat], ?_, List.getElem_mem hk, List.getElem?_eq_getElem hk⟩
  have := atI_nat (xs := xs) (j := i.toNat) (List.getElem?_eq_getElem hk)
  rwa [show ((i.toNat : Nat) : Int) = i by omega] at this
theorem ixN_lt {n : Nat} {i : Int} (h0 : 0 ≤ i) (h : i < n) : ixN n i = some i.toNat := by
  unfold ixN
  rw [if_pos h0, if_pos h]
end L3
namespace L3
open PySem PySem.Spec PyProof.Rows L2
section
variable {K : PySem.W.Frag} {H0 G0 : Hp} {ρ : Env3} {σ : L2.St} {G H G' H' : Hp}
end
section
variable {X : Cx} {H0 : Hp} {e : Expr} {es : List Expr} {pos p : Pos} {x : Str}
end

section
variable {X : Cx}
end
end L3
namespace L2
open PySem PySem.Spec PyProof.Rows
section
variable {X : Cx}
noncomputable def rGetL (K : PySem.W.Frag) : V → V → Hp → VK → Prop := fun x y H Q => ∃ p xs i v, x = .ref p ∧ y = .int i ∧ 0 ≤ i ∧ SqL K H p xs ∧ atI xs i = some v ∧ Q v H
theorem get_list : PGet X (rGetL X.K) := by
  intro pins s σ H x y v u Q I rx ry h
  obtain ⟨p, xs, i, z, rfl, rfl, h0, hq, he, q⟩ := h
  cases rx
  obtain ⟨t, rfl⟩ := ry
  obtain ⟨its, r, pl, hz⟩ := I.list hq
  obtain ⟨j, h1, h2, h3, h4, h5⟩ := atI_get he
  obtain ⟨w, ew, rw'⟩ := r.get h2
  have hl := r.length
  have hn := line63
  have hj : i.toNat = j := by
    rw [seqIndex_of h0 h5] at h1
    exact Option.some.inj h1
  exact wpAny_getItem_list pl.isList h0 (by omega) (by rw [hj]; simpa using ew) ⟨z, H, I, rw', q⟩
noncomputable def rIndex (K : PySem.W.Frag) : V → List V → Hp → VK → Prop := fun x vs H Q => ∃ (p : Addr) (ns : List Int) (n : Int), x = .ref p ∧ vs = [.int n] ∧ SqL K H p (ns.map V.int) ∧ n ∈ ns ∧ Q (.int (ns.idxOf n : Nat)) H
theorem mt_index : MtM X "list.index" (rIndex X.K) := by
  intro pins s σ H x vs v us Q I rx rv h
  obtain ⟨p, ns, n, rfl, rfl, hq, hk, q⟩ := h
  cases rx
  obtain ⟨u, rfl, t, rfl⟩ := rv.one
  obtain ⟨its, r, pl, hz⟩ := I.list hq
  have hi := intsAre_of r
  obtain ⟨⟨cls, dd, data, sl⟩, ho, hc, n', hd⟩ := pl.isList
  simp only at hc hd
  subst hc hd
  have hlen := hi.length
  have hj : ns.idxOf n < ns.length := List.idxOf_lt_length_iff.mpr hk
  have hn := line63
  rw [List.length_map] at hz
  refine call_meets PySem.F.slot_list_index ⟨_, ho, rfl⟩ PySem.F.entry_list_index (PySem.F.args_list_index_2 _ _)
    (SeqAt.list_indexAt p its.toArray n' dd sl (.int n t) (isInt n) (ns.idxOf n) (by simpa [hlen] using hj) (by omega) ?_ ?_) ⟨ho, fun y hy => (eq_isInt n t hi y (by simpa using hy)).at _ _, ⟨.int _, H, I.tok _, ⟨_, rfl⟩, q⟩⟩
  · show isInt n its[ns.idxOf n] = true
    rw [isInt_at n hi _ (by omega) hj]
    simpa using List.getElem_idxOf hj
  · intro j hjs hlt
    show isInt n its[j] = false
    rw [isInt_at n hi j (by simpa using hjs) (by omega)]
    exact ne_of_lt_idxOf hlt _
end
end L2
namespace L3
open PySem PySem.Spec PyProof.Rows L2
section
variable {X : Cx} {H0 : Hp} {e : Expr} {pos : Pos}
theorem rds_scal {K : PySem.W.Frag} {H0 G G' : Hp} : ∀ {vs : List V} {ds : List D}, ds.all scal3 = true → RdVs K G vs ds → Rfs K H0 G' true vs ds
  | _, _, _, .nil => ⟨.nil, fun _ => .nil⟩
  | _, _, h, .cons a b => by
    rw [List.all_cons, Bool.and_eq_true] at h
    have r := rds_scal (H0 := H0) (G' := G') h.2 b
    have ra := scal3_any (G' := G') h.1 a
    exact ⟨.cons ra r.rd, fun hf => .cons (rdn_scal h.1 ra) (r.nw hf)⟩
noncomputable def thawN (is : List Nat) (t : TN3) : TN3 := fun ρ Q => t (frz is ρ) fun _ ds => ds.all scal3 = true ∧ Q true ds
theorem thaw_new (is : List Nat) {t : TN3} (h : PN3 X H0 e t) : PN3 X H0 e (thawN is t) :=
  ⟨fun ρ Q Q' hq q => h.mono _ _ _ (fun f ds ⟨a, b⟩ => ⟨a, hq _ _ b⟩) q, PE.imp h.ok fun σ H Q => el5 fun G0 ρ G F q => by
    obtain ⟨G', s', F'⟩ := F.frz is
    exact ⟨G0, frz is ρ, G', F', h.mono _ _ _ (fun f ds ⟨hs, k⟩ l vs G1 H1 g1 hl r => k l vs G H1 ⟨Same.refl _, g1.h, F.sub.trans g1.h, fun _ _ e => .inl e⟩ hl (rds_scal hs r.rd)) q⟩⟩
noncomputable def aug3 (i : Nat) (te : TE3) : TS3 := fun A ρ => ∃ f n, ρ[i]? = some (some (.sh f (.int n))) ∧ te ρ fun c => ∃ g m, c = .sh g (.int m) ∧ A.nx (ρ.set i (some (.sh true (.int (n + m)))))
theorem s_aug {i : Nat} {x : Str} {te : TE3} {pos' : Pos} (hN : X.N.Nodup) (hi : X.N[i]? = some x) (hx : Loc X.env.scope x) (he : PE3 X H0 e te)
    (hf : X.fn x = true ∨ X.env.scope.names.lookup x = some .local := by first | exact .inl rfl | exact .inr rfl | assumption) : PS3 X H0 (.AugAssign (.Name x pos') .Add e pos) (aug3 i te) :=
  PS.imp (ps_aug hN hi hx he.ok ip_add hf) fun B σ H hyp => by
    obtain ⟨G0, A, ρ, G, F, ⟨f, n, h, q⟩, L⟩ := hyp
    obtain ⟨v, h1, h2⟩ := F.slot i _ h
    have r := int_inv (sh_inv h2).rd
    subst r
    refine ⟨_, h1, G0, ρ, G, F, he.mono ρ _ _ (fun c ⟨g, m, hc, q⟩ v G1 H1 g1 w => ?_) q⟩
    subst hc
    have r := int_inv (sh_inv w).rd
    subst r
    exact ⟨n, m, rfl, rfl, L.nx _ _ _ _ ((F.gr g1).set (.sc rfl (.int _))) q⟩
noncomputable def augput3 (i : Nat) (tk te : TE3) : TS3 := fun A ρ => ∃ f ds, ρ[i]? = some (some (.ow f ds)) ∧ tk ρ fun k => ∃ h n m, k = .sh h (.int n) ∧ 0 ≤ n ∧ ds[n.toNat]? = some (.int m) ∧ te ρ fun c => ∃ g a, c = .sh g (.int a) ∧ A.nx (ρ.set i (some (.ow f (ds.set n.toNat (.int (m + a))))))
theorem s_augput {i : Nat} {tk te : TE3} {x : Str} {np spos : Pos} {k : Expr} (hN : X.N[i]? = some x) (hv : Vis X.env.scope x) (hk : PE3 X H0 k tk) (he : PE3 X H0 e te) (hd : (x == ("__debug__" : Str)) = false := by decide) (hcd : (x == ("__classdict__" : Str)) = false := by decide)
    (ha : ∀ ov iv new, augStore k ov iv new = (do holding [new, ov, iv] (setItem ov iv new); release [new, ov, iv] []; pure .next) := by intros; rfl) : PS3 X H0 (.AugAssign (.Subscript (.Name x np) k spos) .Add e pos) (augput3 i tk te) := by
  refine PS.imp (ps_augS (pe_var hN hv hd hcd) hk.ok get_list he.ok ip_add set_list ha) fun B σ H hyp => ?_
  obtain ⟨G0, A, ρ, G, F, ⟨f, ds, hi, q⟩, L⟩ := hyp
  obtain ⟨l, vs, h1, h2, r⟩ := own_at F hi
  refine ⟨.ref l, h1, G0, ρ, G, F, hk.mono ρ _ _ (fun kc ⟨h, n, m, hc, h0, hm, q⟩ kv G1 H1 g1 w1 => ?_) q⟩
  subst hc
  have rk := int_inv (sh_inv w1).rd
  subst rk
  obtain ⟨xv, hx1, hx2⟩ := RdVs.get r.rd hm
  have hx3 := int_inv hx2
  subst hx3
  have hlt : n.toNat < vs.length := (List.getElem?_eq_some_iff.mp hx1).1
  refine ⟨l, vs, n, .int m, rfl, rfl, h0, SqL.of (g1.h _ _ h2), ?_, G0, ρ, G1, F.gr g1, he.mono ρ _ _ (fun c ⟨g, a, hc, q⟩ v G2 H2 g2 w2 => ?_) q⟩
  · unfold atI
    rw [ixN_lt h0 (by omega)]
    exact hx1
  subst hc
  have rv := int_inv (sh_inv w2).rd
  subst rv
  refine ⟨m, a, rfl, rfl, l, vs, n, n.toNat, rfl, rfl, g2.h _ _ (g1.h _ _ h2), ixN_lt h0 (by omega), ?_⟩
  have := ((F.gr g1).gr g2).change hi h1 ((r.same (g1.g.trans g2.g)).set (Rf.sc (f := true) rfl (RdV.int (m + a))) n.toNat)
  rw [Bool.and_true] at this
  exact L.nx _ _ _ _ this q
noncomputable def par3 (i j : Nat) (t : TA3) : TS3 := fun A ρ => t ρ fun cs => ∃ f a g b, cs = [.sh f a, .sh g b] ∧ A.nx ((ρ.set i (some (.sh f a))).set j (some (.sh g b)))
theorem s_par {i j : Nat} {x y : Str} {a b : Expr} {ta : TA3} {px py pt : Pos} {kt k2 pt2} (hc : X.calm = true) (hN : X.N.Nodup) (hi : X.N[i]? = some x) (hj : X.N[j]? = some y) (hij : i ≠ j)
    (hx : X.env.scope.names.lookup x = some .local) (hy : X.env.scope.names.lookup y = some .local) (ha : PA3 X H0 [a, b] ta)
    (hw : swappedStores [.Tuple [.Name x px, .Name y py] kt pt] (.Tuple [a, b] k2 pt2) X.env = pure (some [x, y]) := by rfl)
    (hs : swapsWithSole [.Tuple [.Name x px, .Name y py] kt pt] (.Tuple [a, b] k2 pt2) pos.line X.env = pure false := by rfl) :
    PS3 X H0 (.Assign [.Tuple [.Name x px, .Name y py] kt pt] (.Tuple [a, b] k2 pt2) pos) (par3 i j ta) :=
  PS.imp (ps_par hc hN hi hj hij hx hy ha.ok hw hs) fun B σ H => el7 fun G0 A ρ G F q L => ⟨G0, ρ, G, F, ha.mono ρ _ _ (fun cs hyp vs G1 H1 g1 w => by
    obtain ⟨f, a, g, b, hcs, q⟩ := hyp
    subst hcs
    obtain ⟨v, u, rfl, w1, w2⟩ := vws2 w
    exact ⟨v, u, rfl, L.nx _ _ _ _ (((F.gr g1).set (sh_inv w1)).set (sh_inv w2)) q⟩) q⟩
noncomputable def idx3 (to te : TE3) : TE3 := fun ρ Q => to ρ fun c => ∃ ds ns, c.dat = true ∧ c.d = .list ds ∧ unInts ds = some ns ∧ te ρ fun c2 => ∃ g n, c2 = .sh g (.int n) ∧ n ∈ ns ∧ Q (.sh true (.int (ns.idxOf n : Nat)))
theorem index3 {o : Expr} {apos : Pos} {to te : TE3} (ho : PE3 X H0 o to) (he : PE3 X H0 e te) (hb : attributeBase o "index" X.env (eval o X.env) = eval o X.env := by rfl)
    (hf : ((backTo pos (starEach [e] X.env)).all (fun x => !x.1) && (backToKw pos (keywordEach [] X.env)).all (fun x => x.1.isSome) && decide ([e].length + ([] : List Keyword).length + (if ([] : List Keyword).isEmpty then 0 else 1) < 30)) = true := by rfl)
    (hl : (apos.endLine == pos.line) = true := by rfl) (hs : starEach [e] X.env = (false, eval e X.env) :: starEach [] X.env := by rfl) (hp : (backTo pos (starEach [] X.env)).any (·.1) = false := by rfl) :
    PE3 X H0 (.Call (.Attribute o "index" apos) [e] [] pos) (idx3 to te) := by
  refine ⟨fun ρ Q Q' h q => ho.mono ρ _ _ (fun c ⟨ds, ns, a, b, d, q⟩ => ⟨ds, ns, a, b, d, he.mono ρ _ _ (fun c2 ⟨g, n, x, y, q⟩ => ⟨g, n, x, y, h _ q⟩) q⟩) q, PE.imp (pe_bm PySem.F.plainAttrs_list PySem.F.slot_list_index PySem.F.type_list_index mt_index ho.ok (pa_cons he.ok pa_nil hs) hb hf hl hs hp) fun σ H Q => el5 fun G0 ρ G F q => ⟨G0, ρ, G, F, ho.mono ρ _ _ (fun c hc0 v G1 H1 g1 w => ?_) q⟩⟩
  obtain ⟨ds, ns, hd, hc, hu, q⟩ := hc0
  obtain ⟨a, vs, rfl, hq, rs⟩ := seq_of w g1.sub hd hc
  refine ⟨.inl ⟨rfl, _, hq⟩, G0, ρ, G1, F.gr g1, he.mono ρ _ _ (fun c2 hc1 v2 G2 H2 g2 w2 => ?_) q⟩
  obtain ⟨g, n, rfl, hn, q⟩ := hc1
  have r := int_inv (sh_inv w2).rd
  subst r
  have hvs := unInts_rd rs.rd hu
  subst hvs
  exact ⟨a, ns, n, rfl, rfl, g2.h.seq hq, hn, q _ G2 H2 (g1.trans g2) (.sh (.sc rfl (.int _)))⟩
noncomputable def ext3 (i : Nat) (te : TE3) : TS3 := fun A ρ => ∃ f ds, ρ[i]? = some (some (.ow f ds)) ∧ te ρ fun c => ∃ es, c = .sh true (.list es) ∧ ds.length + es.length ≤ sizeLine ∧ A.nx (ρ.set i (some (.ow f (ds ++ es))))
theorem s_extend {i : Nat} {te : TE3} {x : Str} {np apos cpos : Pos} (hN : X.N[i]? = some x) (hv : Vis X.env.scope x) (he : PE3 X H0 e te) (hd : (x == ("__debug__" : Str)) = false := by decide) (hcd : (x == ("__classdict__" : Str)) = false := by decide)
    (hb : attributeBase (.Name x np) "extend" X.env (eval (.Name x np) X.env) = eval (.Name x np) X.env := by rfl)
    (hf : ((backTo cpos (starEach [e] X.env)).all (fun x => !x.1) && (backToKw cpos (keywordEach [] X.env)).all (fun x => x.1.isSome) && decide ([e].length + ([] : List Keyword).length + (if ([] : List Keyword).isEmpty then 0 else 1) < 30)) = true := by rfl)
    (hl : (apos.endLine == cpos.line) = true := by rfl) (hs : starEach [e] X.env = (false, eval e X.env) :: starEach [] X.env := by rfl) (hp : (backTo cpos (starEach [] X.env)).any (·.1) = false := by rfl)
    (hw : swapsWith (.Call (.Attribute (.Name x np) "extend" apos) [e] [] cpos) none pos.line X.env = pure false := by rfl) : PS3 X H0 (.Expr (.Call (.Attribute (.Name x np) "extend" apos) [e] [] cpos) pos) (ext3 i te) := by
  refine PS.imp (ps_expr (pe_bm PySem.F.plainAttrs_list PySem.F.slot_list_extend PySem.F.type_list_extend mt_extend (pe_var hN hv hd hcd) (pa_cons he.ok pa_nil hs) hb hf hl hs hp) hw) fun B σ H hyp => ?_
  obtain ⟨G0, A, ρ, G, F, ⟨f, ds, hi, q⟩, L⟩ := hyp
  obtain ⟨l, vs, h1, h2, r⟩ := own_at F hi
  refine ⟨.ref l, h1, tyV_lst h2, G0, ρ, G, F, he.mono ρ _ _ (fun c ⟨es, hc, hz, q⟩ v G' H' g w => ?_) q⟩
  subst hc
  have rw' := sh_inv w
  have rn := rw'.nw rfl
  cases rn with
  | lst hG hn rs =>
    rename_i b xs
    have ra : Rfs X.K H0 G' f (vs ++ xs) (ds ++ es) := ⟨((r.same g.g).rd).append (rdns_rd rs), fun hf => rdns_append ((r.same g.g).nw hf) rs⟩
    exact ⟨l, b, vs, xs, rfl, rfl, g.h _ _ h2, g.sub _ _ hG, by rw [r.length, (rdns_rd rs).length]; exact hz, L.nx _ _ _ _ ((F.gr g).change hi h1 ra) q⟩
end
end L3
namespace L2
open PySem PySem.Spec PyProof.Rows
theorem bo_enumerate : bootBuiltins "enumerate" = some (.type "enumerate") := by with_unfolding_all rfl
noncomputable def Ite (K : PySem.W.Frag) (a : Addr) : It :=
  ⟨fun i H => ∃ xs x, SqL K H a xs ∧ xs[i]? = some x,
   fun i H v H' => ∃ p x, H p = none ∧ v = .ref p ∧ H' = upd H p (.tup [.int i, x]) ∧ ∀ xs, SqL K H a xs → xs[i]? = some x,
   fun i H => ∃ xs, SqL K H a xs ∧ i = xs.length⟩
theorem turn_enum {P : Program} {w : World} {K : PySem.W.Frag} {elts : List Expr} {k : Nat} {pos : Pos} {e it l : Addr} (hei : e ≠ it) (hle : l ≠ e) (hli : l ≠ it) :
    Turn P w K (.Tuple elts k pos) (Ite K l) [e, it] e (fun i h => (∃ old, IsEnum h e it i old) ∧ h.IsListIter it l i) where
  mem := by simp
  obj := fun i h hyp c hc => by
    obtain ⟨⟨old, he⟩, ⟨o1, e1, c1, d1⟩⟩ := hyp
    have hc' : c = e ∨ c = it := by simpa using hc
    rcases hc' with rfl | rfl
    · exact ⟨_, he, fun v z => by cases (show Data.fields _ = Data.cell v from z)⟩
    · exact ⟨o1, e1, fun v z => by rw [d1] at z; cases z⟩
  keep := fun i h h' ⟨⟨old, he⟩, h1⟩ kk => ⟨⟨old, kk e (by simp) _ he⟩, h1.at fun o e => kk it (by simp) o e⟩
  item := by
    intro X hP hw hK hc i pins s σ H E I hf st hg
    subst hP hw hK
    obtain ⟨xs, x, q1, hx⟩ := hg
    obtain ⟨its1, r1, p1, _⟩ := I.list q1
    obtain ⟨u, hu, ru⟩ := r1.get hx
    have W := WalksT.enumerate (prog := X.prog) (w := X.w) (A := X.A) (I.ok.hd hc) e it l hei hle hli its1.toArray
    have hi : i < its1.toArray.size := by
      have a1 := (List.getElem?_eq_some_iff.mp hu).1
      simp only [List.size_toArray]; omega
    obtain ⟨he, h1⟩ := st
    have olt : ∀ b ∈ [e, it], b < s.heap.objs.size := fun b hb => by
      obtain ⟨old, he'⟩ := he
      have hc' : b = e ∨ b = it := by simpa using hb
      rcases hc' with rfl | rfl
      · exact Heap.lt_size he'
      · obtain ⟨_, e, _⟩ := h1; exact Heap.lt_size e
    refine W.item i s _ _ hi ⟨he, h1, p1.isList⟩ fun T vals h1' tk hv' hT hTup mid kp => ?_
    obtain ⟨t', u', hu', e'⟩ := hv'
    subst e'
    have eu : u' = u := by
      have : its1[i]? = some u' := by simpa using hu'
      rw [hu] at this; cases this; rfl
    subst eu
    refine ⟨_, rfl, W.go elts k pos i T _ _ _ mid fun h2' st2 kp2 => ?_⟩
    have I1 : Inv X pins σ H { s with heap := h2', toks := tk } := I.turnedL (ch := [e, it]) (fun b o hb e => kp2 b o hb (kp b o hb e)) fun b hb => hf b hb
    have hTn : H T = none := I.hok.fresh hT
    obtain ⟨o, ho, oc, on, od⟩ := hTup
    have ho2 := kp2 T o (W.apart i T _ mid) ho
    have I2 : Inv X pins σ (upd H T (.tup [.int i, x])) { s with heap := h2', toks := tk } := I1.track hTn (Nat.le_trans I.sz hT) (Nat.ne_of_gt (Nat.lt_of_lt_of_le I.lt hT)) (fun n c e z => by
        obtain ⟨vv, q⟩ := I.cell n c e
        exact absurd (Nat.lt_of_lt_of_le q.lt (by rw [z]; exact hT)) (Nat.lt_irrefl _)) (fun p hp z => absurd (Nat.lt_of_lt_of_le (Heap.lt_size (I.pin p hp).1) (by rw [z]; exact hT)) (Nat.lt_irrefl _))
      ⟨by show 2 ≤ sizeLine; decide, [.int i t', u'], .cons ⟨t', rfl⟩ (.cons ru .nil), o, ho2, oc, on, od⟩
    refine ⟨.ref T, _, I2, rfl, ⟨T, x, hTn, rfl, rfl, fun xs' z1 => ?_⟩, ⟨st2.1, st2.2.1⟩, fun b hb => ?_⟩
    · rw [I.list_inj z1 q1]; exact hx
    · rw [upd_ne (Nat.ne_of_lt (Nat.lt_of_lt_of_le (olt b hb) hT))]; exact (hf b hb).1
  done := by
    intro X hP hw hK hc i pins s σ H E I hf st hg
    subst hP hw hK
    obtain ⟨xs, q1, hi⟩ := hg
    obtain ⟨its1, r1, p1, _⟩ := I.list q1
    have W := WalksT.enumerate (prog := X.prog) (w := X.w) (A := X.A) (I.ok.hd hc) e it l hei hle hli its1.toArray
    obtain ⟨he, h1⟩ := st
    have ei : i = its1.toArray.size := by simp only [List.size_toArray]; rw [← r1.length]; exact hi
    subst ei
    refine W.done s _ _ ⟨he, h1, p1.isList⟩ fun h' tk kp => ⟨rfl, ?_⟩
    exact I.turnedL (ch := [e, it]) kp fun b hb => hf b hb
  self := fun _ _ _ _ _ st h => by obtain ⟨⟨old, he⟩, _⟩ := st; exact wpAny_pyIter_enum he h
noncomputable def iEnum (K : PySem.W.Frag) (ta : TA) : TI := fun σ H R => ta σ H fun vs H1 => ∃ a, vs = [.ref a] ∧ (∃ xs, SqL K H1 a xs) ∧ R (Ite K a) H1
theorem pi_enum {X : Cx} {elts : List Expr} {k : Nat} {tpos : Pos} {a : Expr} {ta : TA} {p pos : Pos} (hg : Gl X "enumerate") (hm : X.mg "enumerate" = none) (ha : PA X [a] ta) (hs : starEach [a] X.env = [(false, eval a X.env)] := by rfl) : PI X (.Tuple elts k tpos) (.Call (.Name "enumerate" p) [a] [] pos) (iEnum X.K ta) := by
  intro pins s σ H R I h
  refine Call_ (ld_blt I hg hm bo_enumerate (PyProof.Rows.callWith_type1 (thn (ha pos pins s σ H _ I h) fun us s1 ⟨vs, H1, I1, r1, q1⟩ => ?_) (by rw [hs]; rfl) rfl))
  obtain ⟨l1, e, ⟨xs, hx⟩, q⟩ := q1
  subst e
  obtain ⟨u, rfl, ru⟩ := vals1 r1
  cases (show u = Value.ref l1 from ru)
  obtain ⟨its1, _, p1, _⟩ := I1.list hx
  have lt1 : l1 < s1.heap.objs.size := by obtain ⟨o, e, _⟩ := p1.isList; exact Heap.lt_size e
  refine call_enumerate_list p1.isList fun h' he hi1 hsz kp => wpAny_pyIter_enum he ?_
  have I2 : Inv X pins σ H1 { s1 with heap := h' } := I1.kept (t' := s1.toks) kp
  refine ⟨_, [s1.heap.objs.size + 1, s1.heap.objs.size], _, Ite X.K l1, H1, rfl, I2, turn_enum (Nat.succ_ne_self _) (Nat.ne_of_lt (Nat.lt_succ_of_lt lt1)) (Nat.ne_of_lt lt1), ⟨⟨_, he⟩, hi1⟩, fun b hb => ?_, q⟩
  have hb' : s1.heap.objs.size ≤ b := by
    have hc' : b = s1.heap.objs.size + 1 ∨ b = s1.heap.objs.size := by simpa using hb
    rcases hc' with rfl | rfl <;> omega
  have f := I1.fpOk (H' := H1) hb' (I1.hok.fresh hb')
  exact ⟨f.1, f.2.1, f.2.2.1, f.2.2.2.1, f.2.2.2.2.1, f.2.2.2.2.2⟩
end L2
namespace L3
open PySem PySem.Spec PyProof.Rows L2
section
variable {X : Cx} {H0 : Hp} {pos p : Pos}
noncomputable def enumD (ds : List D) : List D := (List.range ds.length).map fun i => .tuple [.int (i : Nat), ds.getD i .none]
theorem enumD_length (ds : List D) : (enumD ds).length = ds.length := by unfold enumD; simp
theorem enumD_get {ds : List D} {i : Nat} {d : D} (h : (enumD ds)[i]? = some d) : ∃ a, d = .tuple [.int (i : Nat), a] ∧ ds[i]? = some a := by
  unfold enumD at h
  rw [List.getElem?_map] at h
  by_cases hi : i < ds.length
  · rw [List.getElem?_range hi] at h
    cases h
    exact ⟨ds[i], by simp [hi], List.getElem?_eq_getElem hi⟩
  · rw [List.getElem?_eq_none (by simp; omega)] at h; cases h
noncomputable def itE (t : TA3) : TI3 := fun ρ Q => t ρ fun cs => ∃ f as, cs = [.sh f (.list as)] ∧ Q f (enumD as)
theorem ite_ok {K : PySem.W.Frag} {H0 G : Hp} {a : Addr} {xs : List V} {f : Bool} {as : List D} (h1 : SqL K G a xs) (r1 : Rfs K H0 G f xs as) : ItOk K H0 (Ite K a) f (enumD as) G where
  go := fun i d G' H hd s1 s2 => by
    obtain ⟨q, rfl, hq⟩ := enumD_get hd
    obtain ⟨x, hx, rx⟩ := r1.get hq
    have ss := s1.trans s2
    refine ⟨⟨xs, x, ss.seq h1, hx⟩, fun v H' ⟨l, x', hl, e1, e2, hh⟩ => ?_⟩
    subst e1 e2
    have z1 := hh xs (ss.seq h1)
    rw [hx] at z1
    cases z1
    have gl := same_new (s2.free hl) (.tup [.int i, x])
    exact ⟨upd G' l (.tup [.int i, x]), Gr.put s2 hl, ⟨.tup (SqT.of upd_same) (.cons (.int _) (.cons (rdv_same (s1.trans gl) rx.rd) .nil)), fun hf =>
      .tup (SqT.of upd_same) (.cons (.int _) (.cons (rdn_mono (s1.trans gl) (fun _ _ _ z => z) (rx.nw hf)) .nil))⟩⟩
  stop := fun i G' H hl s1 s2 => ⟨xs, (s1.trans s2).seq h1, by rw [hl, enumD_length, r1.length]⟩
theorem it_enumerate {elts : List Expr} {k : Nat} {tpos : Pos} {a : Expr} {t : TA3} (hg : Gl X "enumerate") (hm : X.mg "enumerate" = none) (ha : PA3 X H0 [a] t) (hs : starEach [a] X.env = [(false, eval a X.env)] := by rfl) : PI3 X H0 (.Tuple elts k tpos) (.Call (.Name "enumerate" p) [a] [] pos) (itE t) :=
  ⟨fun ρ Q Q' h q => ha.mono ρ _ _ (fun cs ⟨f, as, e, q⟩ => ⟨f, as, e, h _ _ q⟩) q, PI.imp (pi_enum hg hm ha.ok hs) fun σ H R => el5 fun G0 ρ G F q => ⟨G0, ρ, G, F, ha.mono ρ _ _ (fun cs hyp vs G1 H1 g1 w => by
    obtain ⟨f, as, e, k⟩ := hyp
    subst e
    obtain ⟨v, rfl, w1⟩ := vws1 w
    obtain ⟨a, xs, rfl, hq, rs⟩ := rflst_inv (sh_inv w1)
    exact ⟨a, rfl, ⟨xs, g1.sub.seq hq⟩, k _ G1 H1 g1 (ite_ok hq rs)⟩) q⟩⟩
end
end L3
namespace L3
open PySem PySem.Spec PyProof.Rows L2
noncomputable def TupI (K : PySem.W.Frag) (a : Addr) (ns : List Int) : Prop := ∃ (o : Obj) (its : Array Value) (n : Nat), K.lookup a = some o ∧ o.cls = .type "tuple" ∧ o.data = .seq its n ∧ its.size ≤ sizeLine ∧ Vals (ns.map V.int) its.toList
theorem ints_rdn {K : PySem.W.Frag} {H0 H : Hp} : ∀ ns : List Int, RdNs K H0 H (ns.map V.int) (ns.map PyData.int)
  | [] => .nil
  | a :: r => .cons (.int a) (ints_rdn r)
section
variable {X : Cx} {H0 : Hp} {e : Expr} {pos : Pos} {x : Str}
theorem g3t {ns : List Int} (hg : Gl X x) (hm : ∃ a, X.mg x = some (.ref a) ∧ TupI X.K a ns) (hd : (x == ("__debug__" : Str)) = false := by decide) : PE3 X H0 (.Name x pos) (k3 (.tuple (ns.map .int))) := by
  obtain ⟨a, hm, ht⟩ := hm
  exact ⟨fun ρ Q Q' h q => h _ q, PE.imp (pe_glob (v := .ref a) hg hm rfl hd) fun σ H Q => el5 fun G0 ρ G F q => q (.ref a) G H (Gr.refl F.sub) (.sh ⟨.tup (.inr ht) (ints_rd ns), fun _ => .tup (.inr ht) (ints_rdn ns)⟩)⟩
end
end L3
namespace L3
open PySem PySem.Spec PyProof.Rows L2
section
variable {K : PySem.W.Frag} {H0 G0 : Hp} {ρ : Env3} {σ : L2.St} {G H : Hp}
theorem tr_at (F : Fr3 K H0 G0 ρ σ G H) {i : Nat} {ps : List Addr} {ms : List (List D)} (h : ρ[i]? = some (some (.tr ps ms))) : ∃ l, σ[i]? = some (some (.ref l)) ∧ Tr K H0 G H l ps ms := by
  obtain ⟨v, h1, h2⟩ := F.slot i _ h
  cases h2 with
  | tr t => exact ⟨_, h1, t⟩
theorem Tr.ix {l : Addr} {ps : List Addr} {ms : List (List D)} (t : Tr K H0 G H l ps ms) {n : Int} {m : List D} (h : atI ms n = some m) : ∃ a p vs, ixN ms.length n = some a ∧ ms[a]? = some m ∧ ps[a]? = some p ∧ atI (ps.map V.ref) n = some (.ref p) ∧ H p = some (.lst vs) ∧ G p = none ∧ Rfs K H0 G true vs m := by
  unfold atI at *
  rw [List.length_map, t.len]
  cases e : ixN ms.length n with
  | none => rw [e] at h; cases h
  | some a =>
    rw [e] at h
    have h' : ms[a]? = some m := h
    have ha : a < ps.length := by rw [t.len]; exact (List.getElem?_eq_some_iff.mp h').1
    have hp : ps[a]? = some ps[a] := List.getElem?_eq_getElem ha
    obtain ⟨vs, h1, h2, h3⟩ := t.item a _ m hp h'
    exact ⟨a, ps[a], vs, rfl, h', hp, by rw [Option.bind_some, List.getElem?_map, hp]; rfl, h1, h2, h3⟩
theorem Tr.change {l : Addr} {ps : List Addr} {ms : List (List D)} (t : Tr K H0 G H l ps ms) {a : Nat} {p : Addr} {vs : List V} {m : List D} (hp : ps[a]? = some p) (r : Rfs K H0 G true vs m) : Tr K H0 G (upd H p (.lst vs)) l ps (ms.set a m) := by
  have hpm : p ∈ ps := List.mem_of_getElem? hp
  have hn := List.nodup_cons.mp t.nd
  have hlp : l ≠ p := fun z => by subst z; exact hn.1 hpm
  refine ⟨by rw [upd_ne hlp]; exact t.top, t.topG, t.nd, by rw [List.length_set]; exact t.len, fun k q m' h1 h2 => ?_⟩
  rcases get_set h2 with ⟨rfl, e, _⟩ | ⟨n, e⟩
  · rw [hp] at h1; cases h1
    rw [e]
    exact ⟨vs, upd_same, ((t.at hpm).choose_spec.choose_spec).2.1, r⟩
  · obtain ⟨us, a1, a2, a3⟩ := t.item k q m' h1 e
    have hq : q ≠ p := fun z => by
      subst z
      obtain ⟨b1, c1⟩ := List.getElem?_eq_some_iff.mp h1
      obtain ⟨b2, c2⟩ := List.getElem?_eq_some_iff.mp hp
      exact n ((List.getElem_inj hn.2).mp (c2.trans c1.symm))
    exact ⟨us, by rw [upd_ne hq]; exact a1, a2, a3⟩
theorem Fr3.chgT (F : Fr3 K H0 G0 ρ σ G H) {i : Nat} {l : Addr} {ps : List Addr} {ms : List (List D)} {a : Nat} {p : Addr} {vs : List V} {m : List D} (hi : ρ[i]? = some (some (.tr ps ms))) (hl : σ[i]? = some (some (.ref l))) (hp : ps[a]? = some p) (r : Rfs K H0 G true vs m) : Fr3 K H0 G0 (ρ.set i (some (.tr ps (ms.set a m)))) σ G (upd H p (.lst vs)) := by
  obtain ⟨l', hl', t⟩ := tr_at F hi
  rw [hl] at hl'; cases hl'
  exact F.chg hi hl (.inr (List.mem_of_getElem? hp)) (fun _ h => h) (.tr (t.change hp r))
end
section
variable {X : Cx} {H0 : Hp} {e k j : Expr} {pos : Pos} {x : Str} {i : Nat}
noncomputable def ix2 (i : Nat) (tk tj : TE3) : TE3 := fun ρ Q => ∃ ps ms, ρ[i]? = some (some (.tr ps ms)) ∧ tk ρ fun kc => ∃ n m, kc = .sh true (.int n) ∧ atI ms n = some m ∧ tj ρ fun jc => ∃ b d, jc = .sh true (.int b) ∧ atI m b = some d ∧ Q (.sh true d)
theorem at2 {np kp : Pos} {tk tj : TE3} (hN : X.N[i]? = some x) (hv : Vis X.env.scope x) (hk : PE3 X H0 k tk) (hj : PE3 X H0 j tj) (hsk : PlainIx k) (hsj : PlainIx j) (hd : (x == ("__debug__" : Str)) = false := by decide) (hcd : (x == ("__classdict__" : Str)) = false := by decide) :
    PE3 X H0 (.Subscript (.Subscript (.Name x np) k kp) j pos) (ix2 i tk tj) := by
  refine ⟨fun ρ Q Q' h q => ?_, PE.imp (pe_ix ix_list (pe_ix ix_list (pe_var hN hv hd hcd) hk.ok hsk) hj.ok hsj) fun σ H Q => el5 fun G0 ρ G F q => ?_⟩
  · obtain ⟨ps, ms, hi, q⟩ := q
    refine ⟨ps, ms, hi, hk.mono ρ _ _ (fun kc q => ?_) q⟩
    obtain ⟨n, m, e1, e2, q⟩ := q
    refine ⟨n, m, e1, e2, hj.mono ρ _ _ (fun jc q => ?_) q⟩
    obtain ⟨b, d, e3, e4, q⟩ := q
    exact ⟨b, d, e3, e4, h _ q⟩
  · obtain ⟨ps, ms, hi, q⟩ := q
    obtain ⟨l, hl, t⟩ := tr_at F hi
    refine ⟨.ref l, hl, G0, ρ, G, F, hk.mono ρ _ _ (fun kc q v1 G1 H1 g1 w1 => ?_) q⟩
    obtain ⟨n, m, e1, e2, q⟩ := q
    subst e1
    cases int_inv (sh_inv w1).rd
    have F1 := F.gr g1
    obtain ⟨l', hl', t1⟩ := tr_at F1 hi
    rw [hl] at hl'; cases hl'
    obtain ⟨a, p, vs, h1, h2, h3, h4, h5, h6, h7⟩ := t1.ix e2
    refine ⟨l, _, n, .ref p, rfl, rfl, SqL.of t1.top, h4, G0, ρ, G1, F1, hj.mono ρ _ _ (fun jc q v2 G2 H2 g2 w2 => ?_) q⟩
    obtain ⟨b, d, e3, e4, q⟩ := q
    subst e3
    cases int_inv (sh_inv w2).rd
    obtain ⟨v, hv, rv⟩ := atI_rd (h7.same g2.g) e4
    exact ⟨p, vs, b, v, rfl, rfl, SqL.of (g2.h _ _ h5), hv, q v G2 H2 (g1.trans g2) (.sh rv)⟩
noncomputable def put2 (i : Nat) (tk tj te : TE3) : TS3 := fun A ρ => ∃ ps ms, ρ[i]? = some (some (.tr ps ms)) ∧ te ρ fun c => tk ρ fun kc => ∃ n m, kc = .sh true (.int n) ∧ atI ms n = some m ∧ tj ρ fun jc => ∃ b d a q, jc = .sh true (.int b) ∧ c = .sh true d ∧ ixN ms.length n = some a ∧ ixN m.length b = some q ∧ A.nx (ρ.set i (some (.tr ps (ms.set a (m.set q d)))))
theorem s_put2 {tk tj te : TE3} {np kp spos : Pos} (hN : X.N[i]? = some x) (hv : Vis X.env.scope x) (hk : PE3 X H0 k tk) (hj : PE3 X H0 j tj) (he : PE3 X H0 e te) (hsk : PlainIx k) (hd : (x == ("__debug__" : Str)) = false := by decide) (hcd : (x == ("__classdict__" : Str)) = false := by decide)
    (hs : swapsWithSole [.Subscript (.Subscript (.Name x np) k kp) j spos] e pos.line X.env = pure false := by rfl) (hw : swappedStores [.Subscript (.Subscript (.Name x np) k kp) j spos] e X.env = pure none := by rfl)
    (h1 : (assignEach [.Subscript (.Subscript (.Name x np) k kp) j spos] X.env).map (·.2) = [assign (.Subscript (.Subscript (.Name x np) k kp) j spos) X.env] := by rfl)
    (ha : ∀ v, assign (.Subscript (.Subscript (.Name x np) k kp) j spos) X.env v = (do
      let ov ← holding [v] (eval (.Subscript (.Name x np) k kp) X.env)
      let iv ← holding [v, ov] (eval j X.env)
      standAt spos
      holding [v, ov, iv] (setItem ov iv v)
      release [v, ov, iv] []) := by intro _; rfl) : PS3 X H0 (.Assign [.Subscript (.Subscript (.Name x np) k kp) j spos] e pos) (put2 i tk tj te) := by
  refine PS.imp (ps_asg he.ok (pg_sub (pe_ix ix_list (pe_var hN hv hd hcd) hk.ok hsk) hj.ok set_list ha) hs hw h1) fun B σ H hyp => ?_
  obtain ⟨G0, A, ρ, G, F, ⟨ps, ms, hi, q⟩, L⟩ := hyp
  obtain ⟨l, hl, t⟩ := tr_at F hi
  refine ⟨G0, ρ, G, F, he.mono ρ _ _ (fun c q v G1 H1 g1 w1 => ?_) q⟩
  have F1 := F.gr g1
  refine ⟨.ref l, hl, G0, ρ, G1, F1, hk.mono ρ _ _ (fun kc q v2 G2 H2 g2 w2 => ?_) q⟩
  obtain ⟨n, m, e1, e2, q⟩ := q
  subst e1
  cases int_inv (sh_inv w2).rd
  have F2 := F1.gr g2
  obtain ⟨l', hl', t2⟩ := tr_at F2 hi
  rw [hl] at hl'; cases hl'
  obtain ⟨a, p, vs, k1, k2, k3, k4, k5, k6, k7⟩ := t2.ix e2
  refine ⟨l, _, n, .ref p, rfl, rfl, SqL.of t2.top, k4, G0, ρ, G2, F2, hj.mono ρ _ _ (fun jc q v3 G3 H3 g3 w3 => ?_) q⟩
  obtain ⟨b, d, a', z, e3, e4, e5, e6, q⟩ := q
  subst e3 e4
  cases int_inv (sh_inv w3).rd
  rw [k1] at e5; cases e5
  refine ⟨p, vs, b, z, rfl, rfl, g3.h _ _ k5, by rw [k7.length]; exact e6, L.nx _ _ _ _ ((F2.gr g3).chgT hi hl k3 ((k7.same g3.g).set ((sh_inv w1).same (g2.g.trans g3.g)) z)) q⟩
noncomputable def app2 (i : Nat) (tk te : TE3) : TS3 := fun A ρ => ∃ ps ms, ρ[i]? = some (some (.tr ps ms)) ∧ tk ρ fun kc => ∃ n m a, kc = .sh true (.int n) ∧ atI ms n = some m ∧ ixN ms.length n = some a ∧ m.length < sizeLine ∧ te ρ fun c => ∃ d, c = .sh true d ∧ A.nx (ρ.set i (some (.tr ps (ms.set a (m ++ [d])))))
theorem s_append2 {tk te : TE3} {np kp apos cpos : Pos} (hN : X.N[i]? = some x) (hv : Vis X.env.scope x) (hk : PE3 X H0 k tk) (he : PE3 X H0 e te) (hsk : PlainIx k) (hd : (x == ("__debug__" : Str)) = false := by decide) (hcd : (x == ("__classdict__" : Str)) = false := by decide)
    (hb : attributeBase (.Subscript (.Name x np) k kp) "append" X.env (eval (.Subscript (.Name x np) k kp) X.env) = eval (.Subscript (.Name x np) k kp) X.env := by rfl)
    (hf : ((backTo cpos (starEach [e] X.env)).all (fun x => !x.1) && (backToKw cpos (keywordEach [] X.env)).all (fun x => x.1.isSome) && decide ([e].length + ([] : List Keyword).length + (if ([] : List Keyword).isEmpty then 0 else 1) < 30)) = true := by rfl)
    (hl : (apos.endLine == cpos.line) = true := by rfl) (hs : starEach [e] X.env = (false, eval e X.env) :: starEach [] X.env := by rfl) (hp : (backTo cpos (starEach [] X.env)).any (·.1) = false := by rfl)
    (hw : swapsWith (.Call (.Attribute (.Subscript (.Name x np) k kp) "append" apos) [e] [] cpos) none pos.line X.env = pure false := by rfl) : PS3 X H0 (.Expr (.Call (.Attribute (.Subscript (.Name x np) k kp) "append" apos) [e] [] cpos) pos) (app2 i tk te) := by
  refine PS.imp (ps_expr (pe_append (pe_ix ix_list (pe_var hN hv hd hcd) hk.ok hsk) (pa_cons he.ok pa_nil hs) hb hf hl hs hp) hw) fun B σ H hyp => ?_
  obtain ⟨G0, A, ρ, G, F, ⟨ps, ms, hi, q⟩, L⟩ := hyp
  obtain ⟨l, hl, t⟩ := tr_at F hi
  refine ⟨.ref l, hl, G0, ρ, G, F, hk.mono ρ _ _ (fun kc q v2 G2 H2 g2 w2 => ?_) q⟩
  obtain ⟨n, m, a', e1, e2, e5, e6, q⟩ := q
  subst e1
  cases int_inv (sh_inv w2).rd
  have F2 := F.gr g2
  obtain ⟨l', hl', t2⟩ := tr_at F2 hi
  rw [hl] at hl'; cases hl'
  obtain ⟨a, p, vs, k1, k2, k3, k4, k5, k6, k7⟩ := t2.ix e2
  rw [k1] at e5; cases e5
  refine ⟨l, _, n, .ref p, rfl, rfl, SqL.of t2.top, k4, tyV_lst k5, G0, ρ, G2, F2, he.mono ρ _ _ (fun c q v G3 H3 g3 w3 => ?_) q⟩
  obtain ⟨d, e3, q⟩ := q
  subst e3
  exact ⟨p, vs, v, rfl, rfl, g3.h _ _ k5, by rw [k7.length]; exact e6, L.nx _ _ _ _ ((F2.gr g3).chgT hi hl k3 ((k7.same g3.g).snoc (sh_inv w3))) q⟩
noncomputable def tree3 (i : Nat) (t : TA3) (m : List D) : TS3 := fun A ρ => t ρ fun cs => ∃ n : Nat, cs = [.sh true (.int n)] ∧ n ≤ 1000 ∧ ∀ ps : List Addr, ps.length = n → A.nx (ρ.set i (some (.tr ps (List.replicate n m))))
theorem nums_len (lo : Int) (n : Nat) : (nums lo n).length = n := by unfold nums; rw [List.length_map, List.length_range]
theorem comp_tree {es : List Expr} {kn : Str} {kp lp cp p : Pos} {a : Expr} {scope : Scope} {spos pos' : Pos} {t : TA3} {te : TE} {vs : List V} {m : List D} (hN : X.N.Nodup) (hix : X.N[i]? = some x) (hx : Loc X.env.scope x) (tn fn : List Str) (js : List Nat) (hcalm : X.calm = true) (S : CompSc X.env.scope scope tn fn) (hj : js.map (fun j => X.N[j]?) = fn.map some)
    (hg : Gl X "range") (hm : X.mg "range" = none) (ha : PA3 X H0 [a] t)
    (hb : ∀ s H fp cl, PG (X.comp scope (tn ++ fn) s H fp cl) (.Name kn kp) (gName 0) ∧ PE (X.comp scope (tn ++ fn) s H fp cl) (.List es lp) te)
    (ht : ∀ σ H Q, (∀ p, H p = none → Q (.ref p) (upd H p (.lst vs))) → te σ H Q) (hr : ∀ G, RdVs X.K G vs m) (hsc : m.all scal3 = true)
    (hsa : starEach [a] X.env = [(false, eval a X.env)] := by rfl)
    (hs : ∀ x, foldedSetIterable (.Call (.Name "range" p) [a] [] cp) X.env x = pure x := by intro _; rfl)
    (hsw : swapsWith (.ListComp (.List es lp) [⟨.Name kn kp, .Call (.Name "range" p) [a] [] cp, [], 0⟩] scope pos) (some (.Name x pos')) spos.line X.env = pure true := by rfl) (hf : X.fn x = true ∨ X.env.scope.names.lookup x = some .local := by first | exact .inl rfl | exact .inr rfl | assumption) :
    PS3 X H0 (.Assign [.Name x pos'] (.ListComp (.List es lp) [⟨.Name kn kp, .Call (.Name "range" p) [a] [] cp, [], 0⟩] scope pos) spos) (tree3 i t m) := by
  have hi := it_range1 (tg := .Name kn kp) (pos := cp) (p := p) hg hm ha hsa
  refine PS.imp (ps_setComp hN hix hx tn fn js hcalm S hj hi.ok (fun s H fp cl => ⟨(hb s H fp cl).1, pts_nil, (hb s H fp cl).2⟩) hs hsw hf) fun B σ H hyp => ?_
  obtain ⟨G0, A, ρ, G, F, q, L⟩ := hyp
  refine ⟨G0, ρ, G, F, ha.mono ρ _ _ (fun cs q => ?_) q⟩
  obtain ⟨n, e1, e2, q⟩ := q
  refine ⟨n, e1, ⟨by omega, by omega⟩, fun J G1 H1 g1 ok D hD => ?_⟩
  rw [show ((n : Int)).toNat = n from Int.toNat_natCast n] at ok
  have F1 := F.gr g1
  have gD : G1 D = none := g1.sub.free hD
  refine ⟨fun c r ys σ2 H2 => c ≤ n ∧ r = n - c ∧ Same H1 H2 ∧ ∃ ps : List Addr, ys = ps.map V.ref ∧ ps.length = c ∧ H2 D = some (.lst ys) ∧ (D :: ps).Nodup ∧ ∀ p ∈ ps, H1 p = none ∧ H2 p = some (.lst vs),
    ⟨n, Nat.zero_le _, rfl, same_new hD _, [], rfl, rfl, upd_same, by simp, fun p hp => by cases hp⟩, ?_⟩
  rintro c r ys σ2 H2 ⟨hcn, rfl, s2, ps, rfl, hpl, hHD, hnd, hps⟩
  have sG : Same G1 H2 := g1.sub.trans s2
  by_cases hlt : c < n
  · right
    have hc' : c < (nums 0 n).length := by rw [nums_len]; exact hlt
    have hd : (nums 0 n)[c]? = some (nums 0 n)[c] := List.getElem?_eq_getElem hc'
    obtain ⟨hgo, hy⟩ := ok.go c _ G1 H2 hd (Same.refl _) sG
    refine ⟨hgo, fun x3 H3 y3 => ?_⟩
    obtain ⟨G3, g3, _⟩ := hy x3 H3 y3
    show te _ H3 _
    refine ht _ _ _ fun p hp => ?_
    have h3D : H3 D = some (.lst (ps.map V.ref)) := g3.h _ _ hHD
    have pD : p ≠ D := fun z => by subst z; rw [hp] at h3D; cases h3D
    have p1 : H1 p = none := (s2.trans g3.h).free hp
    refine ⟨by rw [upd_ne (Ne.symm pD)]; exact h3D, ?_, n - (c + 1), by omega, by omega, rfl, ?_, ps ++ [p], by rw [List.map_append]; rfl, by rw [List.length_append, hpl]; rfl, upd_same, ?_, ?_⟩
    · rw [List.length_map, hpl]
      exact Nat.lt_of_lt_of_le (show c < 1001 by omega) (by decide)
    · intro b o eb
      have hb1 : b ≠ D := fun z => by subst z; rw [hD] at eb; cases eb
      have hb2 : b ≠ p := fun z => by subst z; rw [p1] at eb; cases eb
      rw [upd_ne hb1, upd_ne hb2]
      exact g3.h _ _ (s2 _ _ eb)
    · rw [← List.cons_append]
      refine List.nodup_append.mpr ⟨hnd, by simp, fun a ha b hb => ?_⟩
      cases List.mem_singleton.mp hb
      intro z
      subst z
      rcases List.mem_cons.mp ha with h | h
      · exact pD h
      · have := g3.h _ _ (hps a h).2
        rw [hp] at this; cases this
    · intro b hb
      rcases List.mem_append.mp hb with h | h
      · have hbD : b ≠ D := fun z => by subst z; exact (List.nodup_cons.mp hnd).1 h
        have hbp : b ≠ p := fun z => by
          subst z
          have := g3.h _ _ (hps b h).2
          rw [hp] at this; cases this
        exact ⟨(hps b h).1, by rw [upd_ne hbD, upd_ne hbp]; exact g3.h _ _ (hps b h).2⟩
      · cases List.mem_singleton.mp h
        exact ⟨p1, by rw [upd_ne pD]; exact upd_same⟩
  · left
    have ec : c = n := Nat.le_antisymm hcn (Nat.not_lt.mp hlt)
    subst ec
    refine ⟨ok.stop c G1 H2 (by rw [nums_len]) (Same.refl _) sG, ?_⟩
    refine L.nx _ _ G1 H2 (F1.put s2 (.tr ⟨hHD, gD, hnd, by rw [hpl, List.length_replicate], fun k p m' h1 h2 => ?_⟩) fun a h => ?_) (q ps hpl)
    · have hm' : m' = m := by
        have := List.mem_of_getElem? h2
        exact List.eq_of_mem_replicate this
      subst hm'
      have hp := List.mem_of_getElem? h1
      exact ⟨vs, (hps p hp).2, g1.sub.free (hps p hp).1, hr _, fun _ => rdns_scal hsc (hr _)⟩
    · rcases h with h | h
      · cases h; exact hD
      · exact (hps a h).1
end
end L3
open PySem PySem.Spec PyProof.Rows L2
namespace Law
open PySem L2 L3
theorem arity1 {α : Type} {us : List α} (h : us.length = 1) : ∃ a0, us = [a0] := match us, h with | [a0], _ => ⟨a0, rfl⟩
theorem arity2 {α : Type} {us : List α} (h : us.length = 2) : ∃ a0 a1, us = [a0, a1] := match us, h with | [a0, a1], _ => ⟨a0, a1, rfl⟩
theorem arity3 {α : Type} {us : List α} (h : us.length = 3) : ∃ a0 a1 a2, us = [a0, a1, a2] := match us, h with | [a0, a1, a2], _ => ⟨a0, a1, a2, rfl⟩
theorem arity4 {α : Type} {us : List α} (h : us.length = 4) : ∃ a0 a1 a2 a3, us = [a0, a1, a2, a3] := match us, h with | [a0, a1, a2, a3], _ => ⟨a0, a1, a2, a3, rfl⟩
noncomputable def top (i : Nat) : Stmt := PySem.Challenge.pw_chairclans_k11_a_row_in_its_windows.main.body.getD i (.Pass ⟨0, 0, 0, 0⟩)
noncomputable abbrev s_law_cell_at : Stmt := top 36
noncomputable abbrev s_law_mixed : Stmt := top 37
noncomputable abbrev s_law_wide : Stmt := top 38
noncomputable abbrev s_law_spells : Stmt := top 39
noncomputable abbrev s_law_long : Stmt := top 40
noncomputable abbrev s_law_quotas : Stmt := top 41
noncomputable abbrev s_law_row : Stmt := top 44
noncomputable abbrev s_law_apart : Stmt := top 46
noncomputable abbrev s_law_ratio : Stmt := top 42
noncomputable abbrev s_law_bounds : Stmt := top 45
noncomputable abbrev s_law_due : Stmt := top 48
noncomputable abbrev s_check_weights : Stmt := top 18
noncomputable abbrev s_all_turns : Stmt := top 19
noncomputable abbrev s_check_spells : Stmt := top 20
noncomputable abbrev s_common_divisor : Stmt := top 6
noncomputable abbrev s_divisor_of_all : Stmt := top 21
noncomputable abbrev s_least_bottom : Stmt := top 22
noncomputable abbrev s_shares_over : Stmt := top 23
noncomputable abbrev s_quotas : Stmt := top 24
noncomputable abbrev s_first_turn : Stmt := top 26
noncomputable abbrev s_window_of : Stmt := top 27
noncomputable abbrev s_windows_of_clan : Stmt := top 28
noncomputable abbrev s_windows_within : Stmt := top 29
noncomputable abbrev s_less : Stmt := top 7
noncomputable abbrev s_check_bounds : Stmt := top 11
noncomputable abbrev s_room_at_most : Stmt := top 12
noncomputable abbrev s_rooms_of : Stmt := top 13
noncomputable abbrev s_windows : Stmt := top 30
noncomputable abbrev s_check_row : Stmt := top 32
noncomputable abbrev s_leads : Stmt := top 33
noncomputable abbrev s_keeps : Stmt := top 34
noncomputable abbrev s_law_near : Stmt := top 47
noncomputable abbrev s_law_in_windows : Stmt := top 49
noncomputable abbrev s_law : Stmt := top 50
structure Cl where
  ClanError : Addr
  NoSpell : Addr
  NoRow : Addr
  NoBounds : Addr
structure Txt (c : Law.Cl) (K : PySem.W.Frag) (mg : Str → Option Value) : Prop where
  d_law_cell_at : ∃ f fd, Fun K "_law_cell_at" "_law_cell_at" s_law_cell_at f fd ∧ mg "_law_cell_at" = some (.ref f)
  d_law_mixed : ∃ f fd, Fun K "_law_mixed" "_law_mixed" s_law_mixed f fd ∧ mg "_law_mixed" = some (.ref f)
  d_law_wide : ∃ f fd, Fun K "_law_wide" "_law_wide" s_law_wide f fd ∧ mg "_law_wide" = some (.ref f)
  d_law_spells : ∃ f fd, Fun K "_law_spells" "_law_spells" s_law_spells f fd ∧ mg "_law_spells" = some (.ref f)
  d_law_long : ∃ f fd, Fun K "_law_long" "_law_long" s_law_long f fd ∧ mg "_law_long" = some (.ref f)
  d_law_quotas : ∃ f fd, Fun K "_law_quotas" "_law_quotas" s_law_quotas f fd ∧ mg "_law_quotas" = some (.ref f)
  d_law_row : ∃ f fd, Fun K "_law_row" "_law_row" s_law_row f fd ∧ mg "_law_row" = some (.ref f)
  d_law_apart : ∃ f fd, Fun K "_law_apart" "_law_apart" s_law_apart f fd ∧ mg "_law_apart" = some (.ref f)
  d_law_ratio : ∃ f fd, Fun K "_law_ratio" "_law_ratio" s_law_ratio f fd ∧ mg "_law_ratio" = some (.ref f)
  d_law_bounds : ∃ f fd, Fun K "_law_bounds" "_law_bounds" s_law_bounds f fd ∧ mg "_law_bounds" = some (.ref f)
  d_law_due : ∃ f fd, Fun K "_law_due" "_law_due" s_law_due f fd ∧ mg "_law_due" = some (.ref f)
  d_check_weights : ∃ f fd, Fun K "check_weights" "check_weights" s_check_weights f fd ∧ mg "check_weights" = some (.ref f)
  d_all_turns : ∃ f fd, Fun K "all_turns" "all_turns" s_all_turns f fd ∧ mg "all_turns" = some (.ref f)
  d_check_spells : ∃ f fd, Fun K "check_spells" "check_spells" s_check_spells f fd ∧ mg "check_spells" = some (.ref f)
  d_common_divisor : ∃ f fd, Fun K "common_divisor" "common_divisor" s_common_divisor f fd ∧ mg "common_divisor" = some (.ref f)
  d_divisor_of_all : ∃ f fd, Fun K "divisor_of_all" "divisor_of_all" s_divisor_of_all f fd ∧ mg "divisor_of_all" = some (.ref f)
  d_least_bottom : ∃ f fd, Fun K "least_bottom" "least_bottom" s_least_bottom f fd ∧ mg "least_bottom" = some (.ref f)
  d_shares_over : ∃ f fd, Fun K "shares_over" "shares_over" s_shares_over f fd ∧ mg "shares_over" = some (.ref f)
  d_quotas : ∃ f fd, Fun K "quotas" "quotas" s_quotas f fd ∧ mg "quotas" = some (.ref f)
  d_first_turn : ∃ f fd, Fun K "first_turn" "first_turn" s_first_turn f fd ∧ mg "first_turn" = some (.ref f)
  d_window_of : ∃ f fd, Fun K "window_of" "window_of" s_window_of f fd ∧ mg "window_of" = some (.ref f)
  d_windows_of_clan : ∃ f fd, Fun K "windows_of_clan" "windows_of_clan" s_windows_of_clan f fd ∧ mg "windows_of_clan" = some (.ref f)
  d_windows_within : ∃ f fd, Fun K "windows_within" "windows_within" s_windows_within f fd ∧ mg "windows_within" = some (.ref f)
  d_less : ∃ f fd, Fun K "less" "less" s_less f fd ∧ mg "less" = some (.ref f)
  d_check_bounds : ∃ f fd, Fun K "check_bounds" "check_bounds" s_check_bounds f fd ∧ mg "check_bounds" = some (.ref f)
  d_room_at_most : ∃ f fd, Fun K "room_at_most" "room_at_most" s_room_at_most f fd ∧ mg "room_at_most" = some (.ref f)
  d_rooms_of : ∃ f fd, Fun K "rooms_of" "rooms_of" s_rooms_of f fd ∧ mg "rooms_of" = some (.ref f)
  d_windows : ∃ f fd, Fun K "windows" "windows" s_windows f fd ∧ mg "windows" = some (.ref f)
  d_check_row : ∃ f fd, Fun K "check_row" "check_row" s_check_row f fd ∧ mg "check_row" = some (.ref f)
  d_leads : ∃ f fd, Fun K "leads" "leads" s_leads f fd ∧ mg "leads" = some (.ref f)
  d_keeps : ∃ f fd, Fun K "keeps" "keeps" s_keeps f fd ∧ mg "keeps" = some (.ref f)
  d_law_near : ∃ f fd, Fun K "_law_near" "_law_near" s_law_near f fd ∧ mg "_law_near" = some (.ref f)
  d_law_in_windows : ∃ f fd, Fun K "_law_in_windows" "_law_in_windows" s_law_in_windows f fd ∧ mg "_law_in_windows" = some (.ref f)
  d_law : ∃ f fd, Fun K "law" "law" s_law f fd ∧ mg "law" = some (.ref f)
  m_ClanError : mg "ClanError" = some (.ref c.ClanError)
  m_NoSpell : mg "NoSpell" = some (.ref c.NoSpell)
  m_NoRow : mg "NoRow" = some (.ref c.NoRow)
  m_NoBounds : mg "NoBounds" = some (.ref c.NoBounds)
  e_NoSpell : PySem.W.excIn K c.NoSpell bmVE "ValueError.__new__" = true
  e_NoBounds : PySem.W.excIn K c.NoBounds bmVE "ValueError.__new__" = true
  e_NoRow : PySem.W.excIn K c.NoRow bmVE "ValueError.__new__" = true
  n_abs : mg "abs" = none
  n_bool : mg "bool" = none
  n_enumerate : mg "enumerate" = none
  n_isinstance : mg "isinstance" = none
  n_len : mg "len" = none
  n_list : mg "list" = none
  n_max : mg "max" = none
  n_min : mg "min" = none
  n_range : mg "range" = none
  n_sum : mg "sum" = none
  n_zip : mg "zip" = none
  m_LEAST_BOUND : ∃ a, mg "LEAST_BOUND" = some (.ref a) ∧ TupI K a [0, 1]
  m_MOST_BOUND : ∃ a, mg "MOST_BOUND" = some (.ref a) ∧ TupI K a [10, 1]
  m_MOST_SPELLS : ∃ t, mg "MOST_SPELLS" = some (.int 8 t)
  m_MOST_CLANS : ∃ t, mg "MOST_CLANS" = some (.int 8 t)
  m_MOST_TURNS : ∃ t, mg "MOST_TURNS" = some (.int 60 t)

theorem gcd_step {g l : Int} (hg : 0 ≤ g) (hl : 0 < l) : Int.gcd l (g % l) = Int.gcd g l := by
  obtain ⟨m, rfl⟩ := Int.eq_ofNat_of_zero_le hg
  obtain ⟨n, rfl⟩ := Int.eq_ofNat_of_zero_le (Int.le_of_lt hl)
  rw [← Int.natCast_emod, Int.gcd_natCast_natCast, Int.gcd_natCast_natCast, Nat.gcd_comm n, ← Nat.gcd_rec, Nat.gcd_comm]
theorem gcd_end {g : Int} (hg : 0 ≤ g) : (Int.gcd g 0 : Int) = g := by
  rw [Int.gcd_zero_right]; omega
theorem gcd_abs (a b : Int) : Int.gcd (if a < 0 then -a else a) (if b < 0 then -b else b) = Int.gcd a b := by
  split <;> split <;> simp

noncomputable def dR (a b : Int) : D := .tuple [.int (a / (Int.gcd a b : Int)), .int (b / (Int.gcd a b : Int))]
theorem gcdR_pos {a b : Int} (h : 0 < b) : 0 < (Int.gcd a b : Int) := by
  have : 0 < Int.gcd a b := Int.gcd_pos_of_ne_zero_right _ (by omega)
  omega
theorem gcdR_bits {a b : Int} {k : Nat} (h : 0 < b) (hb : Bits k b) : Bits k (Int.gcd a b : Int) := by
  refine hb.le ?_
  have := Int.gcd_le_right a (show 0 < b from h)
  omega
theorem gcdR_div {x a b : Int} (h : 0 < b) (hb : Bits 9000 b) : CDivP x (Int.gcd a b : Int) := ⟨gcdR_pos h, gcdR_bits h hb⟩

noncomputable abbrev Spell := Int × List Int
noncomputable def dI (ns : List Int) : D := .list (ns.map .int)
noncomputable def dS (s : Spell) : D := .tuple [.int s.1, dI s.2]
noncomputable def dSs (l : List Spell) : D := .list (l.map dS)
noncomputable def okW (ws : List Int) : Prop := (1 ≤ ws.length ∧ ws.length ≤ 8) ∧ (∀ w ∈ ws, 0 ≤ w ∧ w < 10 ^ 30) ∧ ws.sum ≠ 0
noncomputable def tot (l : List Spell) : Int := (l.map (·.1)).sum
noncomputable def many (l : List Spell) : Nat := (l.headD (0, [])).2.length
noncomputable def okS (l : List Spell) : Prop := (1 ≤ l.length ∧ l.length ≤ 8) ∧ (∀ s ∈ l, 1 ≤ s.1 ∧ okW s.2 ∧ s.2.length = many l) ∧ tot l ≤ 60
theorem p30 : CPowB 10 30 := powB (k := 4) (by unfold Bits; decide) (by decide) (by decide)
theorem sum_nn : ∀ {ws : List Int}, (∀ w ∈ ws, 0 ≤ w) → 0 ≤ ws.sum
  | [], _ => by simp
  | w :: ws, h => by
    rw [List.sum_cons]
    have := sum_nn (ws := ws) fun x hx => h x (List.mem_cons_of_mem _ hx)
    have := h w List.mem_cons_self
    omega
theorem sum_le {B : Int} : ∀ {ws : List Int}, (∀ w ∈ ws, w < B) → ws.sum ≤ ws.length * B
  | [], _ => by simp
  | w :: ws, h => by
    rw [List.sum_cons, List.length_cons]
    have := sum_le (ws := ws) fun x hx => h x (List.mem_cons_of_mem _ hx)
    have := h w List.mem_cons_self
    have e : ((ws.length + 1 : Nat) : Int) * B = ws.length * B + B := by rw [Int.natCast_add, Int.add_mul]; simp
    omega
theorem okW_pos {ws : List Int} (h : okW ws) : 0 < ws.sum := by
  have := sum_nn fun w hw => (h.2.1 w hw).1
  have := h.2.2
  omega
theorem okW_lt {ws : List Int} (h : okW ws) : ws.sum ≤ 8 * 10 ^ 30 := by
  have h1 := sum_le (B := 10 ^ 30) fun w hw => (h.2.1 w hw).2
  have h2 : (ws.length : Int) * 10 ^ 30 ≤ 8 * 10 ^ 30 := Int.mul_le_mul_of_nonneg_right (by have := h.1.2; omega) (by decide)
  omega
theorem bits_of {x B : Int} {k : Nat} (h0 : 0 ≤ x) (h : x ≤ B) (hB : B.natAbs < 2 ^ k) : Bits k x := by
  unfold Bits
  omega
theorem okW_bits {ws : List Int} (h : okW ws) : Bits 103 ws.sum := bits_of (Int.le_of_lt (okW_pos h)) (okW_lt h) (by decide)
theorem w_bits {ws : List Int} (h : okW ws) {w : Int} (hw : w ∈ ws) : Bits 100 w := bits_of (h.2.1 w hw).1 (Int.le_of_lt (h.2.1 w hw).2) (by decide)
noncomputable def gcdL (ws : List Int) : Int := ws.foldl (fun a b => (Int.gcd a b : Int)) 0
noncomputable def parts (ws : List Int) : Int := ws.sum / gcdL ws
noncomputable def bot1 (b : Int) (s : Spell) : Int := b * parts s.2 / (Int.gcd b (parts s.2) : Int)
noncomputable def bot (l : List Spell) : Int := l.foldl bot1 1
theorem foldl_gcd : ∀ (ws : List Int) (a : Int), 0 ≤ a → 0 ≤ ws.foldl (fun a b => (Int.gcd a b : Int)) a ∧ ws.foldl (fun a b => (Int.gcd a b : Int)) a ∣ a ∧ ∀ w ∈ ws, ws.foldl (fun a b => (Int.gcd a b : Int)) a ∣ w
  | [], a, h => ⟨h, Int.dvd_refl _, fun w hw => by cases hw⟩
  | w :: ws, a, h => by
    obtain ⟨h1, h2, h3⟩ := foldl_gcd ws (Int.gcd a w : Int) (by omega)
    refine ⟨h1, Int.dvd_trans h2 (Int.gcd_dvd_left a w), fun x hx => ?_⟩
    rcases List.mem_cons.mp hx with rfl | hx
    · exact Int.dvd_trans h2 (Int.gcd_dvd_right a x)
    · exact h3 x hx
theorem gcdL_nn (ws : List Int) : 0 ≤ gcdL ws := (foldl_gcd ws 0 (by decide)).1
theorem gcdL_dvd {ws : List Int} {w : Int} (h : w ∈ ws) : gcdL ws ∣ w := (foldl_gcd ws 0 (by decide)).2.2 w h
theorem dvd_sum {d : Int} : ∀ {ws : List Int}, (∀ w ∈ ws, d ∣ w) → d ∣ ws.sum
  | [], _ => by simp
  | w :: ws, h => by
    rw [List.sum_cons]
    exact Int.dvd_add (h w List.mem_cons_self) (dvd_sum fun x hx => h x (List.mem_cons_of_mem _ hx))
theorem gcdL_sum (ws : List Int) : gcdL ws ∣ ws.sum := dvd_sum fun w hw => gcdL_dvd hw
theorem gcdL_pos {ws : List Int} (h : okW ws) : 0 < gcdL ws := by
  have h1 := gcdL_nn ws
  have h2 := okW_pos h
  have h3 := gcdL_sum ws
  by_cases e : gcdL ws = 0
  · rw [e] at h3
    have := Int.zero_dvd.mp h3
    omega
  · omega
theorem gcdL_le {ws : List Int} (h : okW ws) : gcdL ws ≤ ws.sum := Int.le_of_dvd (okW_pos h) (gcdL_sum ws)
theorem parts_mul {ws : List Int} : parts ws * gcdL ws = ws.sum := Int.ediv_mul_cancel (gcdL_sum ws)
theorem parts_pos {ws : List Int} (h : okW ws) : 0 < parts ws := by
  have h1 := gcdL_pos h
  have h2 := okW_pos h
  have h3 := parts_mul (ws := ws)
  by_cases e : 0 < parts ws
  · exact e
  · have : parts ws * gcdL ws ≤ 0 := Int.mul_nonpos_of_nonpos_of_nonneg (by omega) (by omega)
    omega
theorem parts_le {ws : List Int} (h : okW ws) : parts ws ≤ ws.sum := Int.ediv_le_self _ (Int.le_of_lt (okW_pos h))
theorem parts_bits {ws : List Int} (h : okW ws) : Bits 103 (parts ws) := (okW_bits h).le (by have := parts_pos h; have := parts_le h; omega)
theorem gcd_pos_r {b p : Int} (h : 0 < p) : (0 : Int) < (Int.gcd b p : Int) := by
  have := Int.gcd_pos_of_ne_zero_right b (show p ≠ 0 by omega)
  omega
theorem gcd_le_r {b p : Int} (h : 0 < p) : (Int.gcd b p : Int) ≤ p := Int.le_of_dvd h (Int.gcd_dvd_right b p)
theorem bot1_pos {b : Int} {s : Spell} (hb : 0 < b) (h : okW s.2) : 0 < bot1 b s := by
  have h1 := parts_pos h
  have h2 := gcd_pos_r (b := b) h1
  have h3 : (Int.gcd b (parts s.2) : Int) ∣ b * parts s.2 := Int.dvd_trans (Int.gcd_dvd_left _ _) (Int.dvd_mul_right _ _)
  have h4 := Int.ediv_mul_cancel h3
  have h5 : 0 < b * parts s.2 := Int.mul_pos hb h1
  unfold bot1
  by_cases e : 0 < b * parts s.2 / (Int.gcd b (parts s.2) : Int)
  · exact e
  · have : b * parts s.2 / (Int.gcd b (parts s.2) : Int) * (Int.gcd b (parts s.2) : Int) ≤ 0 := Int.mul_nonpos_of_nonpos_of_nonneg (by omega) (by omega)
    omega
theorem bot1_bits {b : Int} {s : Spell} {k : Nat} (hb : 0 < b) (hk : Bits k b) (h : okW s.2) : Bits (k + 103) (bot1 b s) := (hk.mul (parts_bits h)).le (by
  have h5 : 0 < b * parts s.2 := Int.mul_pos hb (parts_pos h)
  have h6 := bot1_pos hb h
  have h7 : bot1 b s ≤ b * parts s.2 := Int.ediv_le_self _ (Int.le_of_lt h5)
  omega)
theorem bot_ok : ∀ (l : List Spell) (b : Int) (k : Nat), (∀ s ∈ l, okW s.2) → 0 < b → Bits k b → 0 < l.foldl bot1 b ∧ Bits (k + 103 * l.length) (l.foldl bot1 b)
  | [], b, k, _, h, h' => ⟨h, by simpa using h'⟩
  | s :: l, b, k, hs, h, h' => by
    have hw := hs s List.mem_cons_self
    have := bot_ok l (bot1 b s) (k + 103) (fun x hx => hs x (List.mem_cons_of_mem _ hx)) (bot1_pos h hw) (bot1_bits h h' hw)
    refine ⟨this.1, this.2.mono ?_⟩
    rw [List.length_cons]; omega
theorem bot_pos {l : List Spell} (h : okS l) : 0 < bot l := (bot_ok l 1 1 (fun s hs => (h.2.1 s hs).2.1) (by decide) (by unfold Bits; decide)).1
theorem bot_bits {l : List Spell} (h : okS l) : Bits 900 (bot l) := (bot_ok l 1 1 (fun s hs => (h.2.1 s hs).2.1) (by decide) (by unfold Bits; decide)).2.mono (by have := h.1.2; omega)
noncomputable def shares (b : Int) (ws : List Int) : List Int := ws.map fun w => w * b / ws.sum
noncomputable def addL (xs ys : List Int) : List Int := (xs.zip ys).map fun p => p.1 + p.2
noncomputable def stepT (sh : List Int) (p : List Int × List (List Int)) : List Int × List (List Int) := (addL p.1 sh, p.2 ++ [addL p.1 sh])
noncomputable def rep {α : Type} (f : α → α) : Nat → α → α
  | 0, x => x
  | n + 1, x => rep f n (f x)
noncomputable def runQ (b : Int) (l : List Spell) (p : List Int × List (List Int)) : List Int × List (List Int) := l.foldl (fun p s => rep (stepT (shares b s.2)) s.1.toNat p) p
noncomputable def zeros (l : List Spell) : List Int := List.replicate (many l) 0
noncomputable def quo (l : List Spell) : List (List Int) := (runQ (bot l) l (zeros l, [zeros l])).2
theorem rep_len (sh : List Int) : ∀ n p, (rep (stepT sh) n p).2.length = p.2.length + n
  | 0, p => rfl
  | n + 1, p => by rw [rep, rep_len sh n]; simp [stepT]; omega
theorem tot_nn {l : List Spell} (h : ∀ s ∈ l, 1 ≤ s.1) : 0 ≤ tot l := sum_nn fun w hw => by
  obtain ⟨s, hs, rfl⟩ := List.mem_map.mp hw
  have := h s hs; omega
theorem le_tot {l : List Spell} (h : ∀ s ∈ l, 1 ≤ s.1) {s : Spell} (hs : s ∈ l) : s.1 ≤ tot l := by
  unfold tot
  induction l with
  | nil => cases hs
  | cons a l ih =>
    rw [List.map_cons, List.sum_cons]
    have h1 : 0 ≤ (l.map (·.1)).sum := tot_nn fun x hx => h x (List.mem_cons_of_mem _ hx)
    have h2 := h a List.mem_cons_self
    rcases List.mem_cons.mp hs with rfl | hs
    · omega
    · have := ih (fun x hx => h x (List.mem_cons_of_mem _ hx)) hs
      omega
theorem quo_len {l : List Spell} (h : okS l) : ((quo l).length : Int) = tot l + 1 := by
  have key : ∀ (l : List Spell) (b : Int) (p : List Int × List (List Int)), (∀ s ∈ l, 1 ≤ s.1) → ((runQ b l p).2.length : Int) = p.2.length + tot l := by
    intro l
    induction l with
    | nil => intro b p _; simp [runQ, tot]
    | cons s l ih =>
      intro b p hs
      have h1 := hs s List.mem_cons_self
      have := ih b (rep (stepT (shares b s.2)) s.1.toNat p) fun x hx => hs x (List.mem_cons_of_mem _ hx)
      show ((runQ b l (rep (stepT (shares b s.2)) s.1.toNat p)).2.length : Int) = _
      rw [this, rep_len]
      unfold tot
      rw [List.map_cons, List.sum_cons]
      omega
  have := key l (bot l) (zeros l, [zeros l]) fun s hs => (h.2.1 s hs).1
  unfold quo
  rw [this]; simp; omega
theorem cut_map {α β : Type} (e : α → β) (xs : List α) (lo hi : Option Int) : cut (xs.map e) lo hi = (cut xs lo hi).map e := by
  unfold cut
  rw [List.length_map, List.map_take, List.map_drop]
theorem cut_hi {α : Type} (xs : List α) {i : Int} (h : 0 ≤ i) (h' : i ≤ xs.length) : cut xs (some i) none = xs.drop i.toNat := by
  unfold cut
  have e : HT.sIx xs.length 0 (some i) = i.toNat := by
    have := HT.sIx_nat xs.length 0 i.toNat
    rw [show ((i.toNat : Nat) : Int) = i by omega] at this
    rw [this]; omega
  rw [e, HT.sIx_none]
  apply List.take_of_length_le
  rw [List.length_drop]; omega
theorem maxL_spec : ∀ (xs : List Int) (x : Int), (xs.foldl (fun a b => if b > a then b else a) x ∈ x :: xs) ∧ x ≤ xs.foldl (fun a b => if b > a then b else a) x ∧ ∀ w ∈ xs, w ≤ xs.foldl (fun a b => if b > a then b else a) x
  | [], x => ⟨by simp, Int.le_refl _, fun w h => by cases h⟩
  | y :: ys, x => by
    rw [List.foldl_cons]
    by_cases h : y > x
    · rw [if_pos h]
      obtain ⟨h1, h2, h3⟩ := maxL_spec ys y
      exact ⟨List.mem_cons_of_mem _ h1, by omega, fun w hw => by
        rcases List.mem_cons.mp hw with rfl | hw
        · exact h2
        · exact h3 w hw⟩
    · rw [if_neg h]
      obtain ⟨h1, h2, h3⟩ := maxL_spec ys x
      refine ⟨?_, h2, fun w hw => ?_⟩
      · rcases List.mem_cons.mp h1 with z | z
        · rw [z]; exact List.mem_cons_self
        · exact List.mem_cons_of_mem _ (List.mem_cons_of_mem _ z)
      · rcases List.mem_cons.mp hw with rfl | hw
        · omega
        · exact h3 w hw
theorem maxL_mem {ws : List Int} (h : ws ≠ []) : maxL ws ∈ ws := by
  cases ws with
  | nil => exact absurd rfl h
  | cons x xs => exact (maxL_spec xs x).1
theorem parts_dvd_bot1 {b : Int} {s : Spell} (h : okW s.2) : parts s.2 ∣ bot1 b s := by
  unfold bot1
  rw [Int.mul_comm, Int.mul_ediv_assoc _ (Int.gcd_dvd_left b (parts s.2))]
  exact Int.dvd_mul_right _ _
theorem dvd_bot1 {b : Int} {s : Spell} : b ∣ bot1 b s := by
  unfold bot1
  rw [Int.mul_ediv_assoc _ (Int.gcd_dvd_right b (parts s.2))]
  exact Int.dvd_mul_right _ _
theorem addL_len {a b : List Int} (h : a.length = b.length) : (addL a b).length = a.length := by unfold addL; rw [List.length_map, List.length_zip]; omega
theorem shares_len (b : Int) (ws : List Int) : (shares b ws).length = ws.length := List.length_map ..
theorem foldl_bot_dvd : ∀ (l : List Spell) (b : Int), b ∣ l.foldl bot1 b
  | [], b => Int.dvd_refl b
  | s :: l, b => Int.dvd_trans dvd_bot1 (foldl_bot_dvd l (bot1 b s))
theorem parts_dvd_bot : ∀ (l : List Spell) (b : Int), (∀ s ∈ l, okW s.2) → ∀ s ∈ l, parts s.2 ∣ l.foldl bot1 b
  | [], b, _, s, h => by cases h
  | a :: l, b, hok, s, h => by
    rcases List.mem_cons.mp h with rfl | h
    · exact Int.dvd_trans (parts_dvd_bot1 (hok s List.mem_cons_self)) (foldl_bot_dvd l _)
    · exact parts_dvd_bot l _ (fun x hx => hok x (List.mem_cons_of_mem _ hx)) s h
theorem share_exact {b w : Int} {ws : List Int} (h : okW ws) (hd : parts ws ∣ b) (hw : w ∈ ws) : w * b / ws.sum * ws.sum = w * b := by
  apply Int.ediv_mul_cancel
  obtain ⟨k, rfl⟩ := hd
  obtain ⟨j, hj⟩ := gcdL_dvd hw
  have hp := parts_mul (ws := ws)
  refine ⟨j * k, ?_⟩
  rw [← hp, hj]
  simp only [Int.mul_assoc, Int.mul_comm, Int.mul_left_comm]
theorem shares_prop {b b' : Int} {ws : List Int} (h : okW ws) (hd : parts ws ∣ b) (hd' : parts ws ∣ b') : (shares b ws).map (· * b') = (shares b' ws).map (· * b) := by
  unfold shares
  rw [List.map_map, List.map_map]
  apply List.map_congr_left
  intro w hw
  simp only [Function.comp]
  have h1 := share_exact h hd hw
  have h2 := share_exact h hd' hw
  have hs := okW_pos h
  apply Int.eq_of_mul_eq_mul_right (show ws.sum ≠ 0 by omega)
  generalize w * b / ws.sum = x at h1
  generalize w * b' / ws.sum = y at h2
  have e1 : x * b' * ws.sum = x * ws.sum * b' := by simp only [Int.mul_assoc, Int.mul_comm, Int.mul_left_comm]
  have e2 : y * b * ws.sum = y * ws.sum * b := by simp only [Int.mul_assoc, Int.mul_comm, Int.mul_left_comm]
  rw [e1, e2, h1, h2]
  simp only [Int.mul_assoc, Int.mul_comm, Int.mul_left_comm]
noncomputable def PropP (b b' : Int) (p p' : List Int × List (List Int)) : Prop := p.1.map (· * b') = p'.1.map (· * b) ∧ p.2.map (List.map (· * b')) = p'.2.map (List.map (· * b))
theorem addL_map (c : Int) (a d : List Int) : (addL a d).map (· * c) = addL (a.map (· * c)) (d.map (· * c)) := by
  unfold addL
  rw [List.zip_map, List.map_map, List.map_map]
  apply List.map_congr_left
  intro p _
  simp only [Function.comp, Prod.map, Int.add_mul]
theorem prop_step {b b' : Int} {sh sh' : List Int} (hs : sh.map (· * b') = sh'.map (· * b)) {p p' : List Int × List (List Int)} (h : PropP b b' p p') : PropP b b' (stepT sh p) (stepT sh' p') := by
  have e : (addL p.1 sh).map (· * b') = (addL p'.1 sh').map (· * b) := by rw [addL_map, addL_map, h.1, hs]
  refine ⟨e, ?_⟩
  show (p.2 ++ [addL p.1 sh]).map _ = (p'.2 ++ [addL p'.1 sh']).map _
  rw [List.map_append, List.map_append, h.2, List.map_cons, List.map_cons, e]; rfl
theorem prop_rep {b b' : Int} {sh sh' : List Int} (hs : sh.map (· * b') = sh'.map (· * b)) : ∀ (n : Nat) {p p' : List Int × List (List Int)}, PropP b b' p p' → PropP b b' (rep (stepT sh) n p) (rep (stepT sh') n p')
  | 0, _, _, h => h
  | n + 1, _, _, h => prop_rep hs n (prop_step hs h)
theorem prop_run {b b' : Int} : ∀ (l : List Spell), (∀ s ∈ l, okW s.2 ∧ parts s.2 ∣ b ∧ parts s.2 ∣ b') → ∀ {p p' : List Int × List (List Int)}, PropP b b' p p' → PropP b b' (runQ b l p) (runQ b' l p')
  | [], _, _, _, h => h
  | s :: l, hs, p, p', h => by
    obtain ⟨h1, h2, h3⟩ := hs s List.mem_cons_self
    exact prop_run l (fun x hx => hs x (List.mem_cons_of_mem _ hx)) (prop_rep (shares_prop h1 h2 h3) s.1.toNat h)

noncomputable def prodS (l : List Spell) : Int := l.foldl (fun b s => b * s.2.sum) 1
noncomputable def quoB (b : Int) (l : List Spell) : List (List Int) := (runQ b l (zeros l, [zeros l])).2
theorem prodS_dvd : ∀ (l : List Spell) (b : Int), b ∣ l.foldl (fun b s => b * s.2.sum) b
  | [], b => Int.dvd_refl b
  | s :: l, b => Int.dvd_trans (Int.dvd_mul_right b s.2.sum) (prodS_dvd l _)
theorem sum_dvd_prodS {l : List Spell} {s : Spell} (h : s ∈ l) : s.2.sum ∣ prodS l := by
  have : ∀ (l : List Spell) (b : Int), s ∈ l → s.2.sum ∣ l.foldl (fun b s => b * s.2.sum) b := by
    intro l
    induction l with
    | nil => intro b h; cases h
    | cons a l ih =>
      intro b h
      rcases List.mem_cons.mp h with rfl | h
      · exact Int.dvd_trans (Int.dvd_mul_left b s.2.sum) (prodS_dvd l _)
      · exact ih _ h
  exact this l 1 h
theorem prodS_ok : ∀ (l : List Spell) (b : Int) (k : Nat), (∀ s ∈ l, okW s.2) → 0 < b → Bits k b → 0 < l.foldl (fun b s => b * s.2.sum) b ∧ Bits (k + 103 * l.length) (l.foldl (fun b s => b * s.2.sum) b)
  | [], b, k, _, h, hb => ⟨h, hb.mono (by simp)⟩
  | s :: l, b, k, hs, h, hb => by
    have h1 := hs s List.mem_cons_self
    have := prodS_ok l (b * s.2.sum) (k + 103) (fun t ht => hs t (List.mem_cons_of_mem _ ht)) (Int.mul_pos h (okW_pos h1)) (hb.mul (okW_bits h1))
    exact ⟨this.1, this.2.mono (by rw [List.length_cons]; omega)⟩
theorem prodS_pos {l : List Spell} (h : okS l) : 0 < prodS l := (prodS_ok l 1 1 (fun s hs => (h.2.1 s hs).2.1) (by decide) (by unfold Bits; decide)).1
theorem prodS_bits {l : List Spell} (h : okS l) : Bits 900 (prodS l) := (prodS_ok l 1 1 (fun s hs => (h.2.1 s hs).2.1) (by decide) (by unfold Bits; decide)).2.mono (by have := h.1.2; omega)
theorem parts_dvd_sum (ws : List Int) : parts ws ∣ ws.sum := ⟨gcdL ws, parts_mul.symm⟩
theorem quo_prop {l : List Spell} (h : okS l) : (quo l).map (List.map (· * prodS l)) = (quoB (prodS l) l).map (List.map (· * bot l)) := by
  have := prop_run (b := bot l) (b' := prodS l) l (fun s hs => ⟨(h.2.1 s hs).2.1, parts_dvd_bot l 1 (fun t ht => (h.2.1 t ht).2.1) s hs, Int.dvd_trans (parts_dvd_sum s.2) (sum_dvd_prodS hs)⟩) (p := (zeros l, [zeros l])) (p' := (zeros l, [zeros l])) ?_
  · exact this.2
  · unfold PropP zeros; simp
theorem runQ_len (b : Int) : ∀ (l : List Spell) (p : List Int × List (List Int)), (∀ s ∈ l, 1 ≤ s.1) → ((runQ b l p).2.length : Int) = p.2.length + tot l := by
  intro l
  induction l with
  | nil => intro p _; simp [runQ, tot]
  | cons s l ih =>
    intro p hs
    have h1 := hs s List.mem_cons_self
    have := ih (rep (stepT (shares b s.2)) s.1.toNat p) fun x hx => hs x (List.mem_cons_of_mem _ hx)
    show ((runQ b l (rep (stepT (shares b s.2)) s.1.toNat p)).2.length : Int) = _
    rw [this, rep_len]
    unfold tot
    rw [List.map_cons, List.sum_cons]
    omega
theorem quoB_len {l : List Spell} (h : okS l) (b : Int) : ((quoB b l).length : Int) = tot l + 1 := by
  unfold quoB
  rw [runQ_len b l _ fun s hs => (h.2.1 s hs).1]
  simp; omega
noncomputable def lensP (n : Nat) (p : List Int × List (List Int)) : Prop := p.1.length = n ∧ ∀ r ∈ p.2, r.length = n
theorem lens_rep {n : Nat} {sh : List Int} (hs : sh.length = n) : ∀ (k : Nat) (p : List Int × List (List Int)), lensP n p → lensP n (rep (stepT sh) k p)
  | 0, p, h => h
  | k + 1, p, h => lens_rep hs k _ (by
    have e : (addL p.1 sh).length = n := by rw [addL_len (by rw [h.1, hs]), h.1]
    refine ⟨e, fun r hr => ?_⟩
    rcases List.mem_append.mp hr with z | z
    · exact h.2 r z
    · rw [List.mem_singleton.mp z]; exact e)
theorem lens_run {n : Nat} (b : Int) : ∀ (l : List Spell) (p : List Int × List (List Int)), (∀ s ∈ l, s.2.length = n) → lensP n p → lensP n (runQ b l p)
  | [], p, _, h => h
  | s :: l, p, hs, h => lens_run b l _ (fun t ht => hs t (List.mem_cons_of_mem _ ht)) (lens_rep (by rw [shares_len]; exact hs s List.mem_cons_self) _ _ h)
theorem quoB_row {l : List Spell} (h : okS l) {b : Int} {r : List Int} (hr : r ∈ quoB b l) : r.length = many l :=
  (lens_run b l (zeros l, [zeros l]) (fun s hs => (h.2.1 s hs).2.2) ⟨by unfold zeros; simp, fun r hr => by rw [List.mem_singleton.mp hr]; unfold zeros; simp⟩).2 r hr
theorem many_ok {l : List Spell} (h : okS l) : 1 ≤ many l ∧ many l ≤ 8 := by
  cases l with
  | nil => have := h.1.1; simp at this
  | cons a r => exact (h.2.1 a List.mem_cons_self).2.1.1
theorem runQ_head (b : Int) : ∀ (l : List Spell) (p : List Int × List (List Int)) (x : List Int) (r : List (List Int)), p.2 = x :: r → ∃ r', (runQ b l p).2 = x :: r' := by
  have hrep : ∀ (sh : List Int) (k : Nat) (p : List Int × List (List Int)) (x : List Int) (r : List (List Int)), p.2 = x :: r → ∃ r', (rep (stepT sh) k p).2 = x :: r' := by
    intro sh k
    induction k with
    | zero => intro p x r h; exact ⟨r, h⟩
    | succ k ih => intro p x r h; exact ih (stepT sh p) x (r ++ [addL p.1 sh]) (by show p.2 ++ [_] = _; rw [h]; rfl)
  intro l
  induction l with
  | nil => intro p x r h; exact ⟨r, h⟩
  | cons s l ih =>
    intro p x r h
    obtain ⟨r', h'⟩ := hrep (shares b s.2) s.1.toNat p x r h
    exact ih _ x r' h'
theorem quoB_head (b : Int) (l : List Spell) : ∃ r, quoB b l = zeros l :: r := runQ_head b l _ _ [] rfl

noncomputable def Far (S : List Int) (n : Int) : Prop := 0 ≤ n ∧ (∀ x ∈ S, x ≤ n ∧ -x ≤ n) ∧ (n = 0 ∨ n ∈ S ∨ -n ∈ S)
theorem Far.le {S : List Int} {n m : Int} (h : Far S n) (h' : Far S m) : n ≤ m := by
  rcases h.2.2 with z | z | z
  · rw [z]; exact h'.1
  · exact (h'.2.1 n z).1
  · have := (h'.2.1 (-n) z).2; omega
theorem Far.uniq {S : List Int} {n m : Int} (h : Far S n) (h' : Far S m) : n = m := Int.le_antisymm (h.le h') (h'.le h)
theorem Far.nil : Far [] 0 := ⟨by decide, fun x h => absurd h (by simp), .inl rfl⟩
noncomputable def had1 (b : Int) (h : List Int) (c : Int) : List Int := h.set c.toNat (h.getD c.toNat 0 + b)
noncomputable def hadN (b : Int) (n : Nat) (row : List Int) : List Int := row.foldl (had1 b) (List.replicate n 0)
theorem had1_len (b : Int) (h : List Int) (c : Int) : (had1 b h c).length = h.length := by unfold had1; rw [List.length_set]
theorem hadN_len (b : Int) (n : Nat) (row : List Int) : (hadN b n row).length = n := by
  have : ∀ (row : List Int) (h : List Int), (row.foldl (had1 b) h).length = h.length := by
    intro row
    induction row with
    | nil => intro h; rfl
    | cons c r ih => intro h; rw [List.foldl_cons, ih, had1_len]
  unfold hadN; rw [this, List.length_replicate]
theorem had1_scale (b : Int) (h : List Int) (c : Int) : had1 b (h.map (· * b)) c = (had1 1 h c).map (· * b) := by
  unfold had1
  rw [List.map_set]
  congr 1
  rw [List.getD_eq_getElem?_getD, List.getElem?_map, List.getD_eq_getElem?_getD]
  cases h[c.toNat]? with
  | none => simp
  | some x => simp [Int.add_mul]
theorem hadN_scale (b : Int) (n : Nat) (row : List Int) : hadN b n row = (hadN 1 n row).map (· * b) := by
  have : ∀ (row : List Int) (h : List Int), row.foldl (had1 b) (h.map (· * b)) = (row.foldl (had1 1) h).map (· * b) := by
    intro row
    induction row with
    | nil => intro h; rfl
    | cons c r ih => intro h; rw [List.foldl_cons, List.foldl_cons, had1_scale, ih]
  unfold hadN
  rw [← this]
  congr 1
  simp
theorem hadN_snoc (b : Int) (n : Nat) (row : List Int) (c : Int) : hadN b n (row ++ [c]) = had1 b (hadN b n row) c := by unfold hadN; rw [List.foldl_append]; rfl
noncomputable def subL (a b : List Int) : List Int := (a.zip b).map fun p => p.1 - p.2
noncomputable def leadAt (b : Int) (n : Nat) (q : List (List Int)) (row : List Int) (t : Nat) : List Int := subL (hadN b n (row.take (t + 1))) (q.getD (t + 1) [])
noncomputable def leadsN (b : Int) (n : Nat) (q : List (List Int)) (row : List Int) (k : Nat) : List (List Int) := (List.range k).map (leadAt b n q row)
theorem leadsN_succ (b : Int) (n : Nat) (q : List (List Int)) (row : List Int) (k : Nat) : leadsN b n q row (k + 1) = leadsN b n q row k ++ [leadAt b n q row k] := by
  unfold leadsN; rw [List.range_succ, List.map_append]; rfl
theorem subL_prop {b c : Int} {h x y : List Int} (e : x.map (· * c) = y.map (· * b)) : (subL (h.map (· * b)) x).map (· * c) = (subL (h.map (· * c)) y).map (· * b) := by
  induction h generalizing x y with
  | nil => simp [subL]
  | cons a h ih =>
    cases x with
    | nil =>
      cases y with
      | nil => simp [subL]
      | cons _ _ => simp at e
    | cons p x =>
      cases y with
      | nil => simp at e
      | cons q y =>
        simp only [List.map_cons, List.cons.injEq] at e
        have := ih e.2
        simp only [subL, List.map_cons, List.zip_cons_cons, List.cons.injEq] at this ⊢
        refine ⟨?_, this⟩
        rw [Int.sub_mul, Int.sub_mul, e.1, Int.mul_right_comm]
theorem low_gcd {a b : Int} (h : 0 < b) : 0 < b / (Int.gcd a b : Int) ∧ Int.gcd (a / (Int.gcd a b : Int)) (b / (Int.gcd a b : Int)) = 1 ∧ a / (Int.gcd a b : Int) * (Int.gcd a b : Int) = a ∧ b / (Int.gcd a b : Int) * (Int.gcd a b : Int) = b := by
  have hg : 0 < Int.gcd a b := Int.gcd_pos_of_ne_zero_right _ (by omega)
  have h1 : (Int.gcd a b : Int) ∣ a := Int.gcd_dvd_left a b
  have h2 : (Int.gcd a b : Int) ∣ b := Int.gcd_dvd_right a b
  exact ⟨Int.ediv_pos_of_pos_of_dvd h (by omega) h2, Int.gcd_ediv_gcd_ediv_gcd hg, Int.ediv_mul_cancel h1, Int.ediv_mul_cancel h2⟩
noncomputable def okRow (n : Nat) (T : Nat) (row : List Int) : Prop := row.length = T ∧ ∀ c ∈ row, 0 ≤ c ∧ c < (n : Int)

theorem sum_one {ws : List Int} (h : ∀ w ∈ ws, 0 ≤ w) (h1 : (1 : Int) ∈ ws) : ws.sum ≠ 0 := by
  induction ws with
  | nil => cases h1
  | cons a r ih =>
    rw [List.sum_cons]
    have h2 := sum_nn (ws := r) fun w hw => h w (List.mem_cons_of_mem _ hw)
    have h3 := h a List.mem_cons_self
    rcases List.mem_cons.mp h1 with rfl | h1
    · omega
    · have := ih (fun w hw => h w (List.mem_cons_of_mem _ hw)) h1
      omega
theorem tot_le_len {l : List Spell} {B : Int} (h : ∀ s ∈ l, s.1 ≤ B) : tot l ≤ l.length * B := by
  unfold tot
  induction l with
  | nil => simp
  | cons a r ih =>
    have h1 := h a List.mem_cons_self
    have h2 := ih fun s hs => h s (List.mem_cons_of_mem _ hs)
    rw [List.map_cons, List.sum_cons, List.length_cons, Int.natCast_succ, Int.add_mul]
    omega
theorem prodS_snoc (l : List Spell) (s : Spell) : prodS (l ++ [s]) = prodS l * s.2.sum := by unfold prodS; rw [List.foldl_append]; rfl
theorem rep_succ {α : Type} (f : α → α) : ∀ (n : Nat) (x : α), rep f (n + 1) x = f (rep f n x)
  | 0, x => rfl
  | n + 1, x => by show rep f (n + 1) (f x) = f (rep f n (f x)); exact rep_succ f n (f x)
theorem atI_last {α : Type} (xs : List α) (x : α) : atI (xs ++ [x]) (-1) = some x := by
  unfold atI ixN
  rw [if_neg (by decide), if_pos (by rw [List.length_append]; simp; omega), List.length_append]
  have : (-1 + ((xs.length + [x].length : Nat) : Int)).toNat = xs.length := by simp; omega
  rw [this]
  simp
theorem atI_nat' {xs : List Int} {i : Nat} (h : i < xs.length) : atI (xs.map PyData.int) (0 + (i : Int)) = some (PyData.int xs[i]) := by
  rw [Int.zero_add]
  have : (xs.map PyData.int)[i]? = some (PyData.int xs[i]) := by rw [List.getElem?_map, List.getElem?_eq_getElem h]; rfl
  exact atI_nat this
theorem c64 : CPowB 10 64 := powB (k := 4) (by unfold Bits; decide) (by decide) (by decide)

noncomputable abbrev Rat2 := Int × Int
noncomputable def dQ (r : Rat2) : D := .tuple [.int r.1, .int r.2]
noncomputable def dP (p : Rat2 × Rat2) : D := .tuple [dQ p.1, dQ p.2]
noncomputable def dPs (l : List (Rat2 × Rat2)) : D := .list (l.map dP)
noncomputable def okQ (r : Rat2) : Prop := 0 < r.2 ∧ Bits 1200 r.1 ∧ Bits 1200 r.2
noncomputable def inQ (r : Rat2) : Prop := 0 ≤ r.1 ∧ r.1 ≤ 10 * r.2
noncomputable def okB (n : Nat) (l : List (Rat2 × Rat2)) : Prop := l.length = n ∧ ∀ p ∈ l, inQ p.1 ∧ inQ p.2
noncomputable def roomM (b : Int) (r : Rat2) : Int := r.1 * b / r.2
theorem atI_row {rows : List (List Int)} {i : Nat} (h : i < rows.length) : atI (rows.map dI) (i : Int) = some (PyData.list (rows[i].map PyData.int)) := by
  have : (rows.map dI)[i]? = some (PyData.list (rows[i].map PyData.int)) := by rw [List.getElem?_map, List.getElem?_eq_getElem h]; rfl
  exact atI_nat this
theorem atI_getD {xs : List Int} {i : Int} (h0 : 0 ≤ i) (h : i < xs.length) : atI (xs.map PyData.int) i = some (PyData.int (xs.getD i.toNat 0)) := by
  obtain ⟨x, h1, _, h2⟩ := atI_lt (xs := xs) h0 h
  rw [atI_map, h1, List.getD_eq_getElem?_getD, h2]; rfl
noncomputable def dRoom (p : Int × Int) : D := .tuple [.int p.1, .int p.2]
noncomputable def roomsM (b : Int) (l : List (Rat2 × Rat2)) : List (Int × Int) := l.map fun p => (roomM b p.1, roomM b p.2)

theorem le_sum {ws : List Int} (h : ∀ w ∈ ws, 0 ≤ w) {w : Int} (hw : w ∈ ws) : w ≤ ws.sum := by
  induction ws with
  | nil => cases hw
  | cons a r ih =>
    rw [List.sum_cons]
    have h2 := sum_nn (ws := r) fun w hw => h w (List.mem_cons_of_mem _ hw)
    have h3 := h a List.mem_cons_self
    rcases List.mem_cons.mp hw with rfl | hw
    · omega
    · have := ih (fun w hw => h w (List.mem_cons_of_mem _ hw)) hw
      omega
theorem shares_le {b : Int} {ws : List Int} (h : okW ws) (hb : 0 ≤ b) {x : Int} (hx : x ∈ shares b ws) : x ≤ b := by
  unfold shares at hx
  obtain ⟨w, hw, rfl⟩ := List.mem_map.mp hx
  have h1 := le_sum (fun w hw => (h.2.1 w hw).1) hw
  refine Int.ediv_le_of_le_mul (okW_pos h) ?_
  rw [Int.mul_comm w b]
  exact Int.mul_le_mul_of_nonneg_left h1 hb
noncomputable def leP (b : Int) (p : List Int × List (List Int)) : Prop := 1 ≤ p.2.length ∧ (∀ x ∈ p.1, x ≤ ((p.2.length : Int) - 1) * b) ∧ ∀ r ∈ p.2, ∀ x ∈ r, x ≤ ((p.2.length : Int) - 1) * b
theorem leP_step {b : Int} {sh : List Int} (hb : 0 ≤ b) (hs : ∀ x ∈ sh, x ≤ b) {p : List Int × List (List Int)} (h : leP b p) : leP b (stepT sh p) := by
  obtain ⟨h1, h2, h3⟩ := h
  have e : (((stepT sh p).2.length : Nat) : Int) - 1 = p.2.length := by show (((p.2 ++ [_]).length : Nat) : Int) - 1 = _; rw [List.length_append]; simp
  have hm : ((p.2.length : Int) - 1) * b + b = (p.2.length : Int) * b := by rw [Int.sub_mul, Int.one_mul]; omega
  have ha : ∀ x ∈ addL p.1 sh, x ≤ (p.2.length : Int) * b := fun x hx => by
    unfold addL at hx
    obtain ⟨q, hq, rfl⟩ := List.mem_map.mp hx
    obtain ⟨q1, q2⟩ := List.of_mem_zip (a := q.1) (b := q.2) hq
    have := h2 _ q1
    have := hs _ q2
    omega
  refine ⟨by show 1 ≤ (p.2 ++ [_]).length; rw [List.length_append]; simp, by rw [e]; exact ha, fun r hr x hx => ?_⟩
  rw [e]
  rcases List.mem_append.mp hr with z | z
  · have := h3 r z x hx; omega
  · rw [List.mem_singleton.mp z] at hx; exact ha x hx
theorem leP_rep {b : Int} {sh : List Int} (hb : 0 ≤ b) (hs : ∀ x ∈ sh, x ≤ b) : ∀ (n : Nat) {p : List Int × List (List Int)}, leP b p → leP b (rep (stepT sh) n p)
  | 0, _, h => h
  | n + 1, _, h => leP_rep hb hs n (leP_step hb hs h)
theorem leP_run {b : Int} (hb : 0 ≤ b) : ∀ (l : List Spell) {p : List Int × List (List Int)}, (∀ s ∈ l, okW s.2) → leP b p → leP b (runQ b l p)
  | [], _, _, h => h
  | s :: l, p, hl, h => leP_run hb l (p := rep (stepT (shares b s.2)) s.1.toNat p) (fun t ht => hl t (List.mem_cons_of_mem _ ht)) (leP_rep hb (fun x hx => shares_le (hl s List.mem_cons_self) hb hx) _ h)
theorem quoB_le {l : List Spell} (h : okS l) {b : Int} (hb : 0 < b) : ∀ r ∈ quoB b l, ∀ x ∈ r, x ≤ tot l * b := fun r hr x hx => by
  have := leP_run (b := b) (by omega) l (p := (zeros l, [zeros l])) (fun s hs => (h.2.1 s hs).2.1) ⟨by simp, fun x hx => by
    have : x = 0 := List.eq_of_mem_replicate hx
    rw [this]; simp, fun r hr x hx => by
    rw [List.mem_singleton.mp hr] at hx
    have : x = 0 := List.eq_of_mem_replicate hx
    rw [this]; simp⟩
  have h2 := this.2.2 r hr x hx
  have h3 := quoB_len h b
  unfold quoB at h3
  have e : (((runQ b l (zeros l, [zeros l])).2.length : Nat) : Int) - 1 = tot l := by omega
  rw [e] at h2; exact h2
noncomputable def nnP (p : List Int × List (List Int)) : Prop := (∀ x ∈ p.1, 0 ≤ x) ∧ ∀ r ∈ p.2, ∀ x ∈ r, 0 ≤ x
theorem nnP_step {sh : List Int} (hs : ∀ x ∈ sh, 0 ≤ x) {p : List Int × List (List Int)} (h : nnP p) : nnP (stepT sh p) := by
  have ha : ∀ x ∈ addL p.1 sh, 0 ≤ x := fun x hx => by
    unfold addL at hx
    obtain ⟨q, hq, rfl⟩ := List.mem_map.mp hx
    obtain ⟨q1, q2⟩ := List.of_mem_zip (a := q.1) (b := q.2) hq
    have := h.1 _ q1
    have := hs _ q2
    omega
  refine ⟨ha, fun r hr x hx => ?_⟩
  rcases List.mem_append.mp hr with z | z
  · exact h.2 r z x hx
  · rw [List.mem_singleton.mp z] at hx; exact ha x hx
theorem nnP_rep {sh : List Int} (hs : ∀ x ∈ sh, 0 ≤ x) : ∀ (n : Nat) {p : List Int × List (List Int)}, nnP p → nnP (rep (stepT sh) n p)
  | 0, _, h => h
  | n + 1, _, h => nnP_rep hs n (nnP_step hs h)
theorem nnP_run {b : Int} (hb : 0 ≤ b) : ∀ (l : List Spell) {p : List Int × List (List Int)}, (∀ s ∈ l, okW s.2) → nnP p → nnP (runQ b l p)
  | [], _, _, h => h
  | s :: l, p, hl, h => nnP_run hb l (p := rep (stepT (shares b s.2)) s.1.toNat p) (fun t ht => hl t (List.mem_cons_of_mem _ ht)) (nnP_rep (fun x hx => by
    unfold shares at hx
    obtain ⟨w, hw, rfl⟩ := List.mem_map.mp hx
    have hok := hl s List.mem_cons_self
    exact Int.ediv_nonneg (Int.mul_nonneg (hok.2.1 w hw).1 hb) (by have := okW_pos hok; omega)) _ h)
theorem quoB_nn {l : List Spell} (h : okS l) {b : Int} (hb : 0 ≤ b) : ∀ r ∈ quoB b l, ∀ x ∈ r, 0 ≤ x :=
  (nnP_run hb l (p := (zeros l, [zeros l])) (fun s hs => (h.2.1 s hs).2.1) ⟨fun x hx => by rw [List.eq_of_mem_replicate hx]; decide, fun r hr x hx => by
    rw [List.mem_singleton.mp hr] at hx
    rw [List.eq_of_mem_replicate hx]; decide⟩).2
theorem for_enum {g : TG3} {tb : TS3} {A : Ends3} {f : Bool} {enc : Nat → D} {n : Nat} (P : Nat → Env3 → Prop) (s : ∀ k ρ, k < n → P k ρ → ∀ W : Env3 → Prop, (∀ ρ', P (k + 1) ρ' → W ρ') → g f (enc k) ρ fun ρ' => tb { A with nx := W, ct := W, bk := A.nx } ρ') (e : ∀ ρ, P n ρ → A.nx ρ) {ρ : Env3} (h : P 0 ρ) : forL g tb A f ((List.range n).map enc) ρ := by
  refine for_list enc (List.range n) (fun done ρ => P done.length ρ) (fun done x rest ρ hd hp W hW => ?_) (fun ρ hp => e ρ (by rw [List.length_range] at hp; exact hp)) h
  have hx : x = done.length := by
    have h1 : (List.range n)[done.length]? = some x := by rw [hd]; simp
    have h2 : done.length < n := by have := congrArg List.length hd; simp at this; omega
    rw [List.getElem?_range h2] at h1
    exact (Option.some.inj h1).symm
  subst hx
  have h2 : done.length < n := by have := congrArg List.length hd; simp at this; omega
  exact s done.length ρ h2 hp W fun ρ' hp' => hW ρ' (by rw [List.length_append]; exact hp')
noncomputable def firstFrom (p : Nat → Bool) : Nat → Nat → Nat
  | i, 0 => i
  | i, m + 1 => if p i = true then i else firstFrom p (i + 1) m
noncomputable def firstP (n : Nat) (p : Nat → Bool) : Nat := firstFrom p 1 (n - 1)
theorem firstFrom_spec (p : Nat → Bool) : ∀ (m i : Nat), i ≤ firstFrom p i m ∧ firstFrom p i m ≤ i + m ∧ (∀ t, i ≤ t → t < firstFrom p i m → p t = false) ∧ (firstFrom p i m < i + m → p (firstFrom p i m) = true) := by
  intro m
  induction m with
  | zero => intro i; exact ⟨Nat.le_refl _, Nat.le_refl _, fun t h1 h2 => absurd h2 (by show ¬ t < i; omega), fun h => absurd h (by show ¬ i < i + 0; omega)⟩
  | succ m ih =>
    intro i
    unfold firstFrom
    by_cases h : p i = true
    · rw [if_pos h]; exact ⟨Nat.le_refl _, by omega, fun t h1 h2 => absurd h2 (by omega), fun _ => h⟩
    · rw [if_neg h]
      obtain ⟨a1, a2, a3, a4⟩ := ih (i + 1)
      refine ⟨by omega, by omega, fun t h1 h2 => ?_, fun hh => a4 (by omega)⟩
      by_cases e : t = i
      · subst e; simpa using h
      · exact a3 t (by omega) h2
theorem firstP_spec {n : Nat} (hn : 1 ≤ n) (p : Nat → Bool) : 1 ≤ firstP n p ∧ firstP n p ≤ n ∧ (∀ t, 1 ≤ t → t < firstP n p → p t = false) ∧ (firstP n p < n → p (firstP n p) = true) := by
  obtain ⟨a1, a2, a3, a4⟩ := firstFrom_spec p (n - 1) 1
  exact ⟨a1, by unfold firstP; omega, a3, fun h => a4 (by unfold firstP at h; omega)⟩
theorem firstP_uniq {n : Nat} (hn : 1 ≤ n) {p : Nat → Bool} {r : Nat} (h1 : 1 ≤ r) (h2 : r ≤ n) (h3 : ∀ t, 1 ≤ t → t < r → p t = false) (h4 : r < n → p r = true) : firstP n p = r := by
  obtain ⟨a1, a2, a3, a4⟩ := firstP_spec hn p
  rcases Nat.lt_trichotomy (firstP n p) r with z | z | z
  · have := h3 _ a1 z; rw [a4 (by omega)] at this; cases this
  · exact z
  · have := a3 _ h1 z; rw [h4 (by omega)] at this; cases this
noncomputable abbrev Win := Int × Int × Int × Option Int
noncomputable def dO : Option Int → D
  | none => .none
  | some i => .int i
theorem isNone_dO (f : Bool) (o : Option Int) : isNone (Cl.sh f (dO o)) = o.isNone := by cases o <;> rfl
noncomputable def dW (w : Win) : D := .tuple [.int w.1, .int w.2.1, .int w.2.2.1, dO w.2.2.2]
noncomputable def winP (n : Nat) (e l : Nat → Bool) : Int × Option Int := (firstP n e, if firstP n l = n then none else some (firstP n l : Nat))
noncomputable def toldW (n : Nat) (w : Int × Option Int) : Prop := w.1 < n ∨ w.2 ≠ none
noncomputable def IsW (n : Nat) (k : Int) (W : Int → Int × Option Int) : Int → List Win → Prop
  | j, [] => ¬ toldW n (W j)
  | j, w :: r => toldW n (W j) ∧ w = (k, j, (W j).1, (W j).2) ∧ IsW n k W (j + 1) r
theorem IsW.uniq {n : Nat} {k : Int} {W W' : Int → Int × Option Int} : ∀ {ws ws' : List Win} {j : Int}, (∀ i, j ≤ i → W i = W' i) → IsW n k W j ws → IsW n k W' j ws' → ws = ws'
  | [], [], _, _, _, _ => rfl
  | [], w :: r, j, e, h, h' => by
    have h1 : ¬ toldW n (W j) := h
    have h2 := h'.1
    rw [← e j (Int.le_refl j)] at h2; exact absurd h2 h1
  | w :: r, [], j, e, h, h' => by
    have h1 : ¬ toldW n (W' j) := h'
    have h2 := h.1
    rw [e j (Int.le_refl j)] at h2; exact absurd h2 h1
  | w :: r, w' :: r', j, e, h, h' => by
    have e1 := h.2.1
    have e2 := h'.2.1
    rw [← e j (Int.le_refl j)] at e2
    rw [e1, e2, IsW.uniq (fun i hi => e i (by omega)) h.2.2 h'.2.2]
theorem IsW.len {n : Nat} {k : Int} {W : Int → Int × Option Int} {M : Int} (hM : ∀ i, toldW n (W i) → i ≤ M) : ∀ {ws : List Win} {j : Int}, IsW n k W j ws → j ≤ M + 1 → (ws.length : Int) ≤ M + 1 - j
  | [], j, _, hj => by simp; omega
  | w :: r, j, h, hj => by
    have h1 := hM j h.1
    have := IsW.len hM h.2.2 (by omega)
    rw [List.length_cons]; omega
noncomputable def colOf (q : List (List Int)) (k : Nat) : List Int := q.map fun r => r.getD k 0
noncomputable def winB (b : Int) (path : List Int) (room : Int × Int) (j : Int) : Int × Option Int := winP path.length (fun t => decide (j * b - room.2 ≤ path.getD t 0)) (fun t => decide ((j - 1) * b + room.1 + 1 ≤ path.getD t 0))
theorem told_le {b : Int} {path : List Int} {room : Int × Int} {M : Int} (hb : 0 < b) (h1 : 1 ≤ path.length) (hp : ∀ t, path.getD t 0 + room.2 ≤ M * b) (hr : 0 ≤ room.2) (hr1 : 0 ≤ room.1) (j : Int) (h : toldW path.length (winB b path room j)) : j ≤ M + 1 := by
  have key : ∀ x : Int, x * b ≤ M * b + b → x ≤ M + 1 := fun x hx => by
    have : x * b ≤ (M + 1) * b := by rw [Int.add_mul, Int.one_mul]; exact hx
    exact Int.le_of_mul_le_mul_right this hb
  rcases h with h | h
  · obtain ⟨_, _, _, a4⟩ := firstP_spec h1 (fun t => decide (j * b - room.2 ≤ path.getD t 0))
    have := of_decide_eq_true (a4 (by have : ((firstP path.length fun t => decide (j * b - room.2 ≤ path.getD t 0) : Nat) : Int) < path.length := h
                                      omega))
    have h2 := hp (firstP path.length fun t => decide (j * b - room.2 ≤ path.getD t 0))
    exact key j (by omega)
  · obtain ⟨_, a2, _, a4⟩ := firstP_spec h1 (fun t => decide ((j - 1) * b + room.1 + 1 ≤ path.getD t 0))
    have hne : firstP path.length (fun t => decide ((j - 1) * b + room.1 + 1 ≤ path.getD t 0)) ≠ path.length := fun z => h (if_pos z)
    have := of_decide_eq_true (a4 (by omega))
    have h2 := hp (firstP path.length fun t => decide ((j - 1) * b + room.1 + 1 ≤ path.getD t 0))
    have h3 : (j - 1) * b = j * b - b := by rw [Int.sub_mul, Int.one_mul]
    exact key j (by omega)

noncomputable def keepP (L : List (List Int)) (R : List (Int × Int)) : Prop := ∀ ld ∈ L, ∀ (i : Nat) (x : Int) (p : Int × Int), ld[i]? = some x → R[i]? = some p → -p.1 ≤ x ∧ x ≤ p.2
theorem keepP_snoc {L : List (List Int)} {ld : List Int} {R : List (Int × Int)} : keepP (L ++ [ld]) R ↔ keepP L R ∧ keepP [ld] R := by
  unfold keepP
  refine ⟨fun h => ⟨fun l hl => h l (List.mem_append_left _ hl), fun l hl => h l (List.mem_append_right _ hl)⟩, fun h l hl => ?_⟩
  rcases List.mem_append.mp hl with z | z
  · exact h.1 l z
  · exact h.2 l z
noncomputable def mxO (a y : Int) : Int := if a < y then y else a
noncomputable def mx (ld : Nat → Nat → Int) (k : Nat) : Nat → Int × Int
  | 0 => (0, 0)
  | t + 1 => (mxO (mx ld k t).1 (-(ld t k)), mxO (mx ld k t).2 (ld t k))
noncomputable def ldF (b : Int) (n : Nat) (q : List (List Int)) (row : List Int) (t k : Nat) : Int := (leadAt b n q row t).getD k 0
noncomputable def mostL (b : Int) (n : Nat) (q : List (List Int)) (row : List Int) (t : Nat) : List (Int × Int) := (List.range n).map fun k => mx (ldF b n q row) k t
theorem mx_le (ld : Nat → Nat → Int) (k : Nat) (t : Nat) : 0 ≤ (mx ld k t).1 ∧ 0 ≤ (mx ld k t).2 ∧ (∀ s, s < t → -(ld s k) ≤ (mx ld k t).1 ∧ ld s k ≤ (mx ld k t).2) ∧ ((mx ld k t).1 = 0 ∨ ∃ s, s < t ∧ (mx ld k t).1 = -(ld s k)) ∧ ((mx ld k t).2 = 0 ∨ ∃ s, s < t ∧ (mx ld k t).2 = ld s k) := by
  induction t with
  | zero => exact ⟨Int.le_refl 0, Int.le_refl 0, fun s h => absurd h (by omega), .inl rfl, .inl rfl⟩
  | succ t ih =>
    obtain ⟨h1, h2, h3, h4, h5⟩ := ih
    have e1 : (mx ld k (t + 1)).1 = mxO (mx ld k t).1 (-(ld t k)) := rfl
    have e2 : (mx ld k (t + 1)).2 = mxO (mx ld k t).2 (ld t k) := rfl
    rw [e1, e2]
    unfold mxO
    refine ⟨by split <;> omega, by split <;> omega, fun s hs => ?_, ?_, ?_⟩
    · by_cases e : s = t
      · subst e; constructor <;> split <;> omega
      · have := h3 s (by omega)
        constructor <;> split <;> omega
    · split
      · exact .inr ⟨t, by omega, rfl⟩
      · rcases h4 with z | ⟨s, z, w⟩
        · exact .inl z
        · exact .inr ⟨s, by omega, w⟩
    · split
      · exact .inr ⟨t, by omega, rfl⟩
      · rcases h5 with z | ⟨s, z, w⟩
        · exact .inl z
        · exact .inr ⟨s, by omega, w⟩
noncomputable def dueP (B : Int) (ms : List (Int × Int)) (bs : List (Rat2 × Rat2)) : Prop := ∀ (k : Nat) (m : Int × Int) (p : Rat2 × Rat2), ms[k]? = some m → bs[k]? = some p → m.1 * p.1.2 ≤ p.1.1 * B ∧ m.2 * p.2.2 ≤ p.2.1 * B
theorem room_cross {b c x y u v : Int} (hb : 0 < b) (hc : 0 < c) (hu : 0 < u) (e : x * c = y * b) : x ≤ v * b / u ↔ y * u ≤ v * c := by
  rw [Int.le_ediv_iff_mul_le hu]
  constructor
  · intro h
    have h1 := Int.mul_le_mul_of_nonneg_right h (show 0 ≤ c by omega)
    have e1 : x * u * c = y * u * b := by rw [Int.mul_right_comm, e, Int.mul_right_comm]
    have e2 : v * b * c = v * c * b := by ac_rfl
    rw [e1, e2] at h1
    exact Int.le_of_mul_le_mul_right h1 hb
  · intro h
    have h1 := Int.mul_le_mul_of_nonneg_right h (show 0 ≤ b by omega)
    have e1 : x * u * c = y * u * b := by rw [Int.mul_right_comm, e, Int.mul_right_comm]
    have e2 : v * b * c = v * c * b := by ac_rfl
    rw [← e1, ← e2] at h1
    exact Int.le_of_mul_le_mul_right h1 hc
theorem lead_prop {b c : Int} {n : Nat} {q q' : List (List Int)} {row : List Int} (e : q.map (List.map (· * c)) = q'.map (List.map (· * b))) (t k : Nat) : ldF b n q row t k * c = ldF c n q' row t k * b := by
  have h : (leadAt b n q row t).map (· * c) = (leadAt c n q' row t).map (· * b) := by
    unfold leadAt
    rw [hadN_scale b, hadN_scale c]
    apply subL_prop
    have h := congrArg (fun z => z.getD (t + 1) []) e
    simp only [List.getD_eq_getElem?_getD, List.getElem?_map] at h ⊢
    cases h1 : q[t + 1]? <;> cases h2 : q'[t + 1]? <;> simp [h1, h2] at h ⊢
    · exact h
    · exact h
    · exact h
  have h' := congrArg (fun z => z.getD k 0) h
  unfold ldF
  simp only [List.getD_eq_getElem?_getD, List.getElem?_map] at h' ⊢
  cases h1 : (leadAt b n q row t)[k]? <;> cases h2 : (leadAt c n q' row t)[k]? <;> simp [h1, h2] at h' ⊢
  · exact h'
  · exact h'
  · exact h'
theorem keep_due {b c : Int} {n : Nat} {q q' : List (List Int)} {row : List Int} {bs : List (Rat2 × Rat2)} (hb : 0 < b) (hc : 0 < c) (e : q.map (List.map (· * c)) = q'.map (List.map (· * b))) (hn : bs.length = n) (ho : ∀ p ∈ bs, (okQ p.1 ∧ okQ p.2) ∧ inQ p.1 ∧ inQ p.2) (hq : ∀ t, t < row.length → (leadAt b n q row t).length = n) :
    keepP (leadsN b n q row row.length) (roomsM b bs) ↔ dueP c (mostL c n q' row row.length) bs := by
  have key : ∀ k p, bs[k]? = some p → ∀ t, t < row.length → ((-(roomM b p.1) ≤ ldF b n q row t k ↔ -(ldF c n q' row t k) * p.1.2 ≤ p.1.1 * c) ∧ (ldF b n q row t k ≤ roomM b p.2 ↔ ldF c n q' row t k * p.2.2 ≤ p.2.1 * c)) := fun k p hp t ht => by
    obtain ⟨⟨o1, o2⟩, _⟩ := ho p (List.mem_of_getElem? hp)
    have ep := lead_prop (n := n) (row := row) e t k
    have a1 := room_cross (x := -(ldF b n q row t k)) (y := -(ldF c n q' row t k)) (v := p.1.1) hb hc o1.1 (by rw [Int.neg_mul, Int.neg_mul, ep])
    have a2 := room_cross (v := p.2.1) hb hc o2.1 ep
    refine ⟨Iff.trans ?_ a1, a2⟩
    unfold roomM
    constructor <;> intro h <;> omega
  constructor
  · intro h k m p hm hp
    have hkn : k < n := by rw [← hn]; exact (List.getElem?_eq_some_iff.mp hp).1
    have hme : m = mx (ldF c n q' row) k row.length := by
      unfold mostL at hm
      rw [List.getElem?_map, List.getElem?_range hkn] at hm
      exact (Option.some.inj hm).symm
    obtain ⟨⟨o1, o2⟩, i1, i2⟩ := ho p (List.mem_of_getElem? hp)
    have all : ∀ t, t < row.length → -(ldF c n q' row t k) * p.1.2 ≤ p.1.1 * c ∧ ldF c n q' row t k * p.2.2 ≤ p.2.1 * c := fun t ht => by
      have hx : (leadAt b n q row t)[k]? = some (ldF b n q row t k) := by
        unfold ldF
        rw [List.getD_eq_getElem?_getD, List.getElem?_eq_getElem (by rw [hq t ht]; exact hkn)]; rfl
      have hr : (roomsM b bs)[k]? = some (roomM b p.1, roomM b p.2) := by unfold roomsM; rw [List.getElem?_map, hp]; rfl
      have := h (leadAt b n q row t) (by unfold leadsN; exact List.mem_map.mpr ⟨t, List.mem_range.mpr ht, rfl⟩) k _ _ hx hr
      have kk := key k p hp t ht
      exact ⟨kk.1.mp this.1, kk.2.mp this.2⟩
    obtain ⟨h1, h2, h3, h4, h5⟩ := mx_le (ldF c n q' row) k row.length
    rw [hme]
    constructor
    · rcases h4 with z | ⟨s, hs, z⟩
      · rw [z, Int.zero_mul]; exact Int.mul_nonneg i1.1 (by omega)
      · rw [z]; exact (all s hs).1
    · rcases h5 with z | ⟨s, hs, z⟩
      · rw [z, Int.zero_mul]; exact Int.mul_nonneg i2.1 (by omega)
      · rw [z]; exact (all s hs).2
  · intro h ld hld k x r hx hr
    unfold leadsN at hld
    obtain ⟨t, ht, rfl⟩ := List.mem_map.mp hld
    have ht' := List.mem_range.mp ht
    unfold roomsM at hr
    rw [List.getElem?_map] at hr
    cases hp : bs[k]? with
    | none => rw [hp] at hr; cases hr
    | some p =>
      rw [hp] at hr
      have hr' := (Option.some.inj hr).symm
      subst hr'
      have hkn : k < n := by rw [← hn]; exact (List.getElem?_eq_some_iff.mp hp).1
      have hxe : x = ldF b n q row t k := by unfold ldF; rw [List.getD_eq_getElem?_getD, hx]; rfl
      obtain ⟨⟨o1, o2⟩, i1, i2⟩ := ho p (List.mem_of_getElem? hp)
      have hm : (mostL c n q' row row.length)[k]? = some (mx (ldF c n q' row) k row.length) := by
        unfold mostL; rw [List.getElem?_map, List.getElem?_range hkn]; rfl
      obtain ⟨g1, g2⟩ := h k _ p hm hp
      obtain ⟨_, _, h3, _, _⟩ := mx_le (ldF c n q' row) k row.length
      have kk := key k p hp t ht'
      have b3 := h3 t ht'
      rw [hxe]
      refine ⟨kk.1.mpr (Int.le_trans (Int.mul_le_mul_of_nonneg_right b3.1 (by have := o1.1; omega)) g1), kk.2.mpr (Int.le_trans (Int.mul_le_mul_of_nonneg_right b3.2 (by have := o2.1; omega)) g2)⟩
noncomputable def pr2 (p : Int × Int) : List D := [.int p.1, .int p.2]
noncomputable def dM (p : Int × Int) : D := .list [.int p.1, .int p.2]
noncomputable def selM (m : Int × Int) : Nat → Int
  | 0 => m.1
  | _ => m.2
noncomputable def selP (p : Rat2 × Rat2) : Nat → Rat2
  | 0 => p.1
  | _ => p.2
theorem atI_two {α : Type} {x y : α} {z : Nat → α} (h0 : z 0 = x) (h1 : z 1 = y) {i : Nat} (h : i < 2) : atI [x, y] (0 + (i : Int)) = some (z i) := by
  subst h0 h1
  match i, h with
  | 0, _ => rfl
  | 1, _ => rfl
theorem atI_of {α β : Type} (f : α → β) {xs : List α} {i : Nat} (h : i < xs.length) : atI (xs.map f) (0 + (i : Int)) = some (f xs[i]) := by
  rw [Int.zero_add]
  exact atI_nat (by rw [List.getElem?_map, List.getElem?_eq_getElem h]; rfl)
theorem map_range_set {α : Type} (f : Nat → α) (n i : Nat) (v : α) : ((List.range n).map f).set i v = (List.range n).map fun k => if k = i then v else f k := by
  refine List.ext_getElem (by simp) fun k h1 h2 => ?_
  rw [List.getElem_set]
  by_cases e : i = k
  · subst e; simp
  · rw [if_neg e]; simp [Ne.symm e]
theorem IsW.mem {n : Nat} {k : Int} {W : Int → Int × Option Int} {w : Win} : ∀ {ws : List Win} {j : Int}, IsW n k W j ws → w ∈ ws → ∃ i, j ≤ i ∧ w = (k, i, (W i).1, (W i).2)
  | [], j, _, hw => by cases hw
  | v :: r, j, h, hw => by
    rcases List.mem_cons.mp hw with z | z
    · exact ⟨j, Int.le_refl _, by rw [z]; exact h.2.1⟩
    · obtain ⟨i, a, b⟩ := IsW.mem h.2.2 z
      exact ⟨i, by omega, b⟩
theorem flat_mem {W : List (List Win)} {w : Win} (h : w ∈ W.flatten) : ∃ k, k < W.length ∧ w ∈ W.getD k [] := by
  obtain ⟨l, hl, hw⟩ := List.mem_flatten.mp h
  obtain ⟨k, hk, e⟩ := List.getElem_of_mem hl
  refine ⟨k, hk, ?_⟩
  rw [List.getD_eq_getElem?_getD, List.getElem?_eq_getElem hk]
  show w ∈ W[k]
  rw [e]; exact hw
theorem mem_flat {W : List (List Win)} {w : Win} {k : Nat} (hk : k < W.length) (h : w ∈ W.getD k []) : w ∈ W.flatten := by
  rw [List.getD_eq_getElem?_getD, List.getElem?_eq_getElem hk] at h
  exact List.mem_flatten.mpr ⟨W[k], List.getElem_mem hk, h⟩

noncomputable def tk (p : Nat → Bool) (t : Nat) : List Nat := (List.range t).filter p
theorem tk_succ (p : Nat → Bool) (t : Nat) : tk p (t + 1) = tk p t ++ if p t = true then [t] else [] := by
  unfold tk
  rw [List.range_succ, List.filter_append]
  congr 1
  cases h : p t <;> simp [h]
theorem tk_pre (p : Nat → Bool) {s t : Nat} (h : s ≤ t) : ∃ r, tk p t = tk p s ++ r ∧ ∀ x ∈ r, s ≤ x := by
  induction t with
  | zero => cases Nat.le_zero.mp h; exact ⟨[], by simp, fun x h => by cases h⟩
  | succ t ih =>
    by_cases e : s = t + 1
    · subst e; exact ⟨[], by simp, fun x h => by cases h⟩
    · obtain ⟨r, h1, h2⟩ := ih (by omega)
      refine ⟨r ++ if p t = true then [t] else [], by rw [tk_succ, h1, List.append_assoc], fun x hx => ?_⟩
      rcases List.mem_append.mp hx with z | z
      · exact h2 x z
      · split at z
        · rw [List.mem_singleton.mp z]; omega
        · cases z
theorem tk_le (p : Nat → Bool) {s t : Nat} (h : s ≤ t) : (tk p s).length ≤ (tk p t).length := by
  obtain ⟨r, h1, _⟩ := tk_pre p h
  rw [h1, List.length_append]; omega
theorem tk_lt (p : Nat → Bool) {t x : Nat} (h : x ∈ tk p t) : x < t := List.mem_range.mp (List.mem_filter.mp h).1
theorem tk_at (p : Nat → Bool) : ∀ {t j i : Nat}, (tk p t)[j]? = some i → i < t ∧ (tk p i).length = j ∧ (tk p (i + 1)).length = j + 1
  | 0, j, i, h => by simp [tk] at h
  | t + 1, j, i, h => by
    rw [tk_succ] at h
    by_cases hj : j < (tk p t).length
    · rw [List.getElem?_append_left hj] at h
      obtain ⟨a, b⟩ := tk_at p h
      exact ⟨by omega, b⟩
    · rw [List.getElem?_append_right (by omega)] at h
      split at h
      · rename_i hp
        cases e : j - (tk p t).length with
        | zero =>
          rw [e] at h
          cases h
          have ej : (tk p t).length = j := by omega
          exact ⟨by omega, ej, by rw [tk_succ, if_pos hp, List.length_append, ej]; rfl⟩
        | succ m => rw [e] at h; simp at h
      · simp at h
theorem tk_has (p : Nat → Bool) {s t j : Nat} (h : s ≤ t) (hj : j < (tk p s).length) : ∃ i, i < s ∧ (tk p t)[j]? = some i := by
  obtain ⟨r, h1, _⟩ := tk_pre p h
  refine ⟨(tk p s)[j], tk_lt p (List.getElem_mem hj), ?_⟩
  rw [h1, List.getElem?_append_left hj, List.getElem?_eq_getElem hj]
noncomputable def okV (pos : List Nat) (w : Win) : Prop := if w.2.1 ≤ pos.length then w.2.2.1 ≤ ((pos.getD (w.2.1 - 1).toNat 0 + 1 : Nat) : Int) ∧ ∀ x, w.2.2.2 = some x → ((pos.getD (w.2.1 - 1).toNat 0 + 1 : Nat) : Int) ≤ x else w.2.2.2 = none
theorem IsW.at {n : Nat} {k : Int} {W : Int → Int × Option Int} : ∀ {ws : List Win} {j : Int} {i : Nat}, IsW n k W j ws → i < ws.length → ws[i]? = some (k, j + i, (W (j + i)).1, (W (j + i)).2)
  | [], j, i, _, h => by simp at h
  | v :: r, j, 0, h, _ => by
    rw [h.2.1]
    show some _ = some _
    rw [show j + ((0 : Nat) : Int) = j by omega]
  | v :: r, j, i + 1, h, hi => by
    have := IsW.at (i := i) h.2.2 (by simpa using hi)
    rw [List.getElem?_cons_succ, this, show j + 1 + (i : Int) = j + ((i + 1 : Nat) : Int) by omega]
theorem IsW.long {n : Nat} {k : Int} {W : Int → Int × Option Int} {m : Nat} : ∀ {ws : List Win} {j : Int}, IsW n k W j ws → (∀ x : Nat, x < m → toldW n (W (j + x))) → m ≤ ws.length
  | [], j, h, ht => by
    cases m with
    | zero => exact Nat.le_refl _
    | succ m => exact absurd (by have := ht 0 (by omega); rwa [show j + ((0 : Nat) : Int) = j by omega] at this) h
  | v :: r, j, h, ht => by
    cases m with
    | zero => exact Nat.zero_le _
    | succ m =>
      have := IsW.long (m := m) h.2.2 fun x hx => by
        have := ht (x + 1) (by omega)
        rwa [show j + ((x + 1 : Nat) : Int) = j + 1 + (x : Int) by omega] at this
      rw [List.length_cons]; omega
theorem firstP_le {n : Nat} (hn : 1 ≤ n) {p : Nat → Bool} {t : Nat} (h1 : 1 ≤ t) (h : p t = true) : firstP n p ≤ t := by
  obtain ⟨a1, a2, a3, a4⟩ := firstP_spec hn p
  by_cases z : t < firstP n p
  · rw [a3 t h1 z] at h; cases h
  · omega
theorem clan_iff {b : Int} (hb : 0 < b) {path : List Int} {T : Nat} (hl : path.length = T + 1) (mono : ∀ s t, s ≤ t → t ≤ T → path.getD s 0 ≤ path.getD t 0) (h0 : 0 ≤ path.getD 0 0) {r1 r2 : Int} (hr1 : 0 ≤ r1) (hr2 : 0 ≤ r2) (p : Nat → Bool) {ws : List Win} {k : Int} (hW : IsW (T + 1) k (winB b path (r1, r2)) 1 ws) :
    (∀ t, t < T → -r1 ≤ ((tk p (t + 1)).length : Int) * b - path.getD (t + 1) 0 ∧ ((tk p (t + 1)).length : Int) * b - path.getD (t + 1) 0 ≤ r2) ↔ ((∀ w ∈ ws, okV (tk p T) w) ∧ (tk p T).length ≤ ws.length) := by
  have hn : 1 ≤ T + 1 := by omega
  have wo : ∀ j, (winB b path (r1, r2) j).1 = ((firstP (T + 1) (fun t => decide (j * b - r2 ≤ path.getD t 0)) : Nat) : Int) := fun j => by unfold winB winP; rw [hl]
  have wl : ∀ j, (winB b path (r1, r2) j).2 = if firstP (T + 1) (fun t => decide ((j - 1) * b + r1 + 1 ≤ path.getD t 0)) = T + 1 then none else some ((firstP (T + 1) (fun t => decide ((j - 1) * b + r1 + 1 ≤ path.getD t 0)) : Nat) : Int) := fun j => by unfold winB winP; rw [hl]
  have mulm : ∀ x y : Int, x ≤ y → x * b ≤ y * b := fun x y h => Int.mul_le_mul_of_nonneg_right h (by omega)
  constructor
  · intro hk
    -- a visit that comes opens by then
    have op : ∀ (j i : Nat), (tk p T)[j]? = some i → firstP (T + 1) (fun t => decide (((j : Int) + 1) * b - r2 ≤ path.getD t 0)) ≤ i + 1 := fun j i h => by
      obtain ⟨a1, a2, a3⟩ := tk_at p h
      have := (hk i a1).2
      rw [a3] at this
      refine firstP_le hn (by omega) (decide_eq_true ?_)
      have e : ((j + 1 : Nat) : Int) * b = ((j : Int) + 1) * b := by rw [Int.natCast_succ]
      omega
    -- a last turn: there the clan has had as many
    have la : ∀ (j : Int), 1 ≤ j → firstP (T + 1) (fun t => decide ((j - 1) * b + r1 + 1 ≤ path.getD t 0)) ≠ T + 1 → j ≤ ((tk p (firstP (T + 1) (fun t => decide ((j - 1) * b + r1 + 1 ≤ path.getD t 0)))).length : Int) := fun j hj hne => by
      obtain ⟨a1, a2, a3, a4⟩ := firstP_spec hn (fun t => decide ((j - 1) * b + r1 + 1 ≤ path.getD t 0))
      generalize firstP (T + 1) (fun t => decide ((j - 1) * b + r1 + 1 ≤ path.getD t 0)) = f at *
      have h1 := of_decide_eq_true (a4 (by omega))
      have h2 := (hk (f - 1) (by omega)).1
      rw [show f - 1 + 1 = f by omega] at h2
      by_cases z : j ≤ ((tk p f).length : Int)
      · exact z
      · have := mulm ((tk p f).length : Int) (j - 1) (by omega)
        omega
    refine ⟨fun w hw => ?_, ?_⟩
    · obtain ⟨j, hj, rfl⟩ := hW.mem hw
      unfold okV
      dsimp only
      by_cases hc : j ≤ ((tk p T).length : Int)
      · rw [if_pos hc]
        have hlt : (j - 1).toNat < (tk p T).length := by omega
        have hg : (tk p T)[(j - 1).toNat]? = some (tk p T)[(j - 1).toNat] := List.getElem?_eq_getElem hlt
        have hgd : (tk p T).getD (j - 1).toNat 0 = (tk p T)[(j - 1).toNat] := by rw [List.getD_eq_getElem?_getD, hg]; rfl
        rw [hgd]
        generalize (tk p T)[(j - 1).toNat] = i at hg
        obtain ⟨a1, a2, a3⟩ := tk_at p hg
        have ej : (((j - 1).toNat : Nat) : Int) + 1 = j := by omega
        refine ⟨?_, fun x hx => ?_⟩
        · have := op _ _ hg
          rw [ej] at this
          rw [wo]; omega
        · rw [wl] at hx
          split at hx
          · cases hx
          · rename_i hne
            have := la j hj hne
            cases hx
            generalize firstP (T + 1) (fun t => decide ((j - 1) * b + r1 + 1 ≤ path.getD t 0)) = f at *
            by_cases z : f < i + 1
            · have := tk_le p (show f ≤ i by omega)
              omega
            · omega
      · rw [if_neg hc, wl]
        split
        · rfl
        · rename_i hne
          have h1 := la j hj hne
          obtain ⟨_, a2, _, _⟩ := firstP_spec hn (fun t => decide ((j - 1) * b + r1 + 1 ≤ path.getD t 0))
          have := tk_le p (show firstP (T + 1) (fun t => decide ((j - 1) * b + r1 + 1 ≤ path.getD t 0)) ≤ T by omega)
          omega
    · refine hW.long fun x hx => .inl ?_
      have hg : (tk p T)[x]? = some (tk p T)[x] := List.getElem?_eq_getElem hx
      have h1 := op _ _ hg
      have h2 := (tk_at p hg).1
      rw [wo, show (1 : Int) + (x : Int) = (x : Int) + 1 by omega]
      omega
  · rintro ⟨hv, hm⟩ t ht
    have wat : ∀ i : Nat, i < ws.length → okV (tk p T) (k, 1 + (i : Int), (winB b path (r1, r2) (1 + (i : Int))).1, (winB b path (r1, r2) (1 + (i : Int))).2) := fun i hi => hv _ (List.mem_of_getElem? (hW.at hi))
    constructor
    · -- not too far behind
      by_cases z : -r1 ≤ ((tk p (t + 1)).length : Int) * b - path.getD (t + 1) 0
      · exact z
      · exfalso
        have hlate : ∀ x : Nat, x ≤ (tk p (t + 1)).length → firstP (T + 1) (fun s => decide (((1 + (x : Int)) - 1) * b + r1 + 1 ≤ path.getD s 0)) ≤ t + 1 := fun x hx => by
          refine firstP_le hn (by omega) (decide_eq_true ?_)
          have := mulm (1 + (x : Int) - 1) ((tk p (t + 1)).length : Int) (by omega)
          omega
        have hlen : (tk p (t + 1)).length + 1 ≤ ws.length := hW.long fun x hx => .inr (by
          rw [wl, if_neg (by have := hlate x (by omega); omega)]; simp)
        have hok := wat (tk p (t + 1)).length (by omega)
        have h1 := hlate (tk p (t + 1)).length (Nat.le_refl _)
        unfold okV at hok
        dsimp only at hok
        by_cases hc : 1 + ((tk p (t + 1)).length : Int) ≤ ((tk p T).length : Int)
        · rw [if_pos hc, wl, if_neg (by omega)] at hok
          have h2 := hok.2 _ rfl
          have e : (1 + ((tk p (t + 1)).length : Int) - 1).toNat = (tk p (t + 1)).length := by omega
          rw [e] at h2
          have hlt : (tk p (t + 1)).length < (tk p T).length := by omega
          have hg : (tk p T)[(tk p (t + 1)).length]? = some (tk p T)[(tk p (t + 1)).length] := List.getElem?_eq_getElem hlt
          have hgd : (tk p T).getD (tk p (t + 1)).length 0 = (tk p T)[(tk p (t + 1)).length] := by rw [List.getD_eq_getElem?_getD, hg]; rfl
          rw [hgd] at h2
          generalize (tk p T)[(tk p (t + 1)).length] = i at hg h2
          obtain ⟨a1, a2, a3⟩ := tk_at p hg
          have := tk_le p (show i + 1 ≤ t + 1 by omega)
          omega
        · rw [if_neg hc, wl, if_neg (by omega)] at hok
          cases hok
    · -- not too far ahead
      by_cases hz : (tk p (t + 1)).length = 0
      · have := mono 0 (t + 1) (by omega) (by omega)
        rw [hz]
        have e : ((0 : Nat) : Int) * b = 0 := by simp
        omega
      · obtain ⟨i, hi, hg⟩ := tk_has p (s := t + 1) (t := T) (j := (tk p (t + 1)).length - 1) (by omega) (by omega)
        have hle := tk_le p (show t + 1 ≤ T by omega)
        have hok := wat ((tk p (t + 1)).length - 1) (by omega)
        unfold okV at hok
        dsimp only at hok
        rw [if_pos (by omega)] at hok
        have e : (1 + (((tk p (t + 1)).length - 1 : Nat) : Int) - 1).toNat = (tk p (t + 1)).length - 1 := by omega
        have hgd : (tk p T).getD ((tk p (t + 1)).length - 1) 0 = i := by rw [List.getD_eq_getElem?_getD, hg]; rfl
        rw [e, hgd, wo] at hok
        have e2 : 1 + (((tk p (t + 1)).length - 1 : Nat) : Int) = ((tk p (t + 1)).length : Int) := by omega
        rw [e2] at hok
        obtain ⟨a1, a2, a3, a4⟩ := firstP_spec hn (fun s => decide (((tk p (t + 1)).length : Int) * b - r2 ≤ path.getD s 0))
        have h1 := of_decide_eq_true (a4 (by omega))
        have h2 := mono (firstP (T + 1) (fun s => decide (((tk p (t + 1)).length : Int) * b - r2 ≤ path.getD s 0))) (t + 1) (by omega) (by omega)
        omega
noncomputable def moP (n : Nat) (p : List Int × List (List Int)) : Prop := p.1.length = n ∧ ∀ k, (∀ i j, i ≤ j → j < p.2.length → (p.2.getD i []).getD k 0 ≤ (p.2.getD j []).getD k 0) ∧ ∀ i, i < p.2.length → (p.2.getD i []).getD k 0 ≤ p.1.getD k 0
theorem addL_ge {a sh : List Int} (hl : sh.length = a.length) (hs : ∀ x ∈ sh, 0 ≤ x) (k : Nat) : a.getD k 0 ≤ (addL a sh).getD k 0 := by
  have hal : (addL a sh).length = a.length := addL_len hl.symm
  by_cases hk : k < a.length
  · have hz : (a.zip sh)[k]? = some (a[k], sh[k]'(by omega)) := List.getElem?_zip_eq_some.mpr ⟨List.getElem?_eq_getElem hk, List.getElem?_eq_getElem (by omega)⟩
    have h1 : (addL a sh).getD k 0 = a[k] + sh[k]'(by omega) := by
      unfold addL
      rw [List.getD_eq_getElem?_getD, List.getElem?_map, hz]; rfl
    have h2 : a.getD k 0 = a[k] := by rw [List.getD_eq_getElem?_getD, List.getElem?_eq_getElem hk]; rfl
    have h3 := hs _ (List.getElem_mem (show k < sh.length by omega))
    rw [h1, h2]; omega
  · have h1 : a.getD k 0 = 0 := by rw [List.getD_eq_getElem?_getD, List.getElem?_eq_none (by omega)]; rfl
    have h2 : (addL a sh).getD k 0 = 0 := by rw [List.getD_eq_getElem?_getD, List.getElem?_eq_none (by omega)]; rfl
    omega
theorem getD_snoc {α : Type} {l : List α} {x d : α} {i : Nat} : (l ++ [x]).getD i d = if i < l.length then l.getD i d else if i = l.length then x else d := by
  rw [List.getD_eq_getElem?_getD, List.getD_eq_getElem?_getD]
  by_cases h : i < l.length
  · rw [if_pos h, List.getElem?_append_left h]
  · rw [if_neg h, List.getElem?_append_right (by omega)]
    by_cases e : i = l.length
    · subst e; simp
    · rw [if_neg e, List.getElem?_eq_none (by simp; omega)]; rfl
theorem moP_step {n : Nat} {sh : List Int} (hl : sh.length = n) (hs : ∀ x ∈ sh, 0 ≤ x) {p : List Int × List (List Int)} (h : moP n p) : moP n (stepT sh p) := by
  have ha := addL_ge (a := p.1) (by rw [hl, h.1]) hs
  refine ⟨by show (addL p.1 sh).length = n; rw [addL_len (by rw [hl, h.1]), h.1], fun k => ?_⟩
  obtain ⟨h1, h2⟩ := h.2 k
  have hlen : (stepT sh p).2.length = p.2.length + 1 := by show (p.2 ++ [_]).length = _; rw [List.length_append]; rfl
  have hget : ∀ i, i ≤ p.2.length → ((stepT sh p).2.getD i []).getD k 0 = if i < p.2.length then (p.2.getD i []).getD k 0 else (addL p.1 sh).getD k 0 := fun i hi => by
    show ((p.2 ++ [addL p.1 sh]).getD i []).getD k 0 = _
    rw [getD_snoc]
    by_cases z : i < p.2.length
    · rw [if_pos z, if_pos z]
    · rw [if_neg z, if_neg z, if_pos (by omega)]
  have hk := ha k
  refine ⟨fun i j hij hj => ?_, fun i hi => ?_⟩
  · rw [hlen] at hj
    rw [hget i (by omega), hget j (by omega)]
    by_cases z : j < p.2.length
    · rw [if_pos z, if_pos (by omega)]; exact h1 i j hij z
    · rw [if_neg z]
      by_cases y : i < p.2.length
      · rw [if_pos y]; have := h2 i y; omega
      · rw [if_neg y]; exact Int.le_refl _
  · rw [hlen] at hi
    rw [hget i (by omega)]
    show _ ≤ (addL p.1 sh).getD k 0
    by_cases y : i < p.2.length
    · rw [if_pos y]; have := h2 i y; omega
    · rw [if_neg y]; exact Int.le_refl _
theorem moP_rep {n : Nat} {sh : List Int} (hl : sh.length = n) (hs : ∀ x ∈ sh, 0 ≤ x) : ∀ (m : Nat) {p : List Int × List (List Int)}, moP n p → moP n (rep (stepT sh) m p)
  | 0, _, h => h
  | m + 1, _, h => moP_rep hl hs m (moP_step hl hs h)
theorem moP_run {n : Nat} {b : Int} (hb : 0 ≤ b) : ∀ (l : List Spell) {p : List Int × List (List Int)}, (∀ s ∈ l, okW s.2 ∧ s.2.length = n) → moP n p → moP n (runQ b l p)
  | [], _, _, h => h
  | s :: l, p, hl, h => moP_run hb l (p := rep (stepT (shares b s.2)) s.1.toNat p) (fun t ht => hl t (List.mem_cons_of_mem _ ht)) (moP_rep (by rw [shares_len]; exact (hl s List.mem_cons_self).2) (fun x hx => by
    unfold shares at hx
    obtain ⟨w, hw, rfl⟩ := List.mem_map.mp hx
    have hok := (hl s List.mem_cons_self).1
    exact Int.ediv_nonneg (Int.mul_nonneg (hok.2.1 w hw).1 hb) (by have := okW_pos hok; omega)) _ h)
theorem colOf_getD (q : List (List Int)) (k s : Nat) : (colOf q k).getD s 0 = (q.getD s []).getD k 0 := by
  unfold colOf
  simp only [List.getD_eq_getElem?_getD, List.getElem?_map]
  cases q[s]? <;> simp
theorem col_mono {l : List Spell} (h : okS l) {b : Int} (hb : 0 ≤ b) (k s t : Nat) (hst : s ≤ t) (ht : t < (quoB b l).length) : (colOf (quoB b l) k).getD s 0 ≤ (colOf (quoB b l) k).getD t 0 := by
  have h0 : ∀ i, (([zeros l] : List (List Int)).getD i []).getD k 0 = 0 := fun i => by
    cases i with
    | zero =>
      show (zeros l).getD k 0 = 0
      unfold zeros
      rw [List.getD_eq_getElem?_getD, List.getElem?_replicate]
      split <;> rfl
    | succ i => simp
  have hm := moP_run hb l (n := many l) (p := (zeros l, [zeros l])) (fun s hs => ⟨(h.2.1 s hs).2.1, (h.2.1 s hs).2.2⟩) ⟨by unfold zeros; simp, fun k => ⟨fun i j _ hj => ?_, fun i hi => ?_⟩⟩
  · rw [colOf_getD, colOf_getD]
    exact (hm.2 k).1 s t hst ht
  · have e1 : j = 0 := by simpa using hj
    have e2 : i = 0 := by omega
    subst e1 e2; exact Int.le_refl _
  · have e2 : i = 0 := by simpa using hi
    subst e2; exact Int.le_refl _
noncomputable def posP (row : List Int) (c : Int) (i : Nat) : Bool := decide (row.getD i 0 = c)
theorem had_tk (b : Int) {n c : Nat} (hc : c < n) {row : List Int} (hr : ∀ x ∈ row, 0 ≤ x ∧ x < (n : Int)) : ∀ t, t ≤ row.length → (hadN b n (row.take t)).getD c 0 = ((tk (posP row c) t).length : Int) * b := by
  intro t
  induction t with
  | zero =>
    intro _
    show (List.replicate n (0 : Int)).getD c 0 = _
    rw [List.getD_eq_getElem?_getD, List.getElem?_replicate, if_pos hc]
    simp [tk]
  | succ t ih =>
    intro ht
    have hlt : t < row.length := by omega
    have hx := hr row[t] (List.getElem_mem hlt)
    have hp : posP row c t = decide (row[t] = (c : Int)) := by
      unfold posP; rw [List.getD_eq_getElem?_getD, List.getElem?_eq_getElem hlt]; rfl
    have ihh := ih (by omega)
    have hhl := hadN_len b n (row.take t)
    rw [List.take_succ_eq_append_getElem hlt, hadN_snoc, tk_succ, hp]
    unfold had1
    by_cases e : row[t] = (c : Int)
    · have e1 : row[t].toNat = c := by omega
      rw [e1, decide_eq_true e, if_pos rfl, List.getD_eq_getElem?_getD, List.getElem?_set_self (by omega), List.length_append, List.length_singleton, Int.natCast_succ, Int.add_mul, Int.one_mul, ← ihh]
      rfl
    · have e1 : row[t].toNat ≠ c := by omega
      rw [decide_eq_false e, List.getD_eq_getElem?_getD, List.getElem?_set_ne e1, ← List.getD_eq_getElem?_getD, ihh]
      simp
noncomputable def posL (row : List Int) (c : Int) : List Nat := tk (posP row c) row.length
noncomputable def inWin (ws : List Win) (row : List Int) (n : Nat) : Prop := (∀ w ∈ ws, okV (posL row w.1) w) ∧ ∀ c : Nat, c < n → (ws.filter fun w => decide (w.1 = (c : Int)) && decide (w.2.1 ≤ ((posL row c).length : Int))).length = (posL row c).length
theorem flat_nil {α : Type} : ∀ {L : List (List α)}, (∀ l ∈ L, l = []) → L.flatten = []
  | [], _ => rfl
  | a :: r, h => by rw [List.flatten_cons, h a List.mem_cons_self, flat_nil fun l hl => h l (List.mem_cons_of_mem _ hl)]; rfl
theorem flat_one {α : Type} : ∀ {L : List (List α)} {c : Nat}, (∀ i, i ≠ c → L.getD i [] = []) → L.flatten = L.getD c []
  | [], c, _ => by simp
  | a :: r, 0, h => by
    rw [List.flatten_cons, flat_nil fun l hl => ?_]
    · simp
    · obtain ⟨i, hi, e⟩ := List.getElem_of_mem hl
      have := h (i + 1) (by omega)
      rw [List.getD_cons_succ, List.getD_eq_getElem?_getD, List.getElem?_eq_getElem hi] at this
      rw [← e]; exact this
  | a :: r, c + 1, h => by
    have h0 : a = [] := h 0 (by omega)
    rw [List.flatten_cons, h0, List.nil_append, List.getD_cons_succ]
    exact flat_one fun i hi => h (i + 1) (by omega)
theorem IsW.cnt {n : Nat} {k : Int} {F : Int → Int × Option Int} {N : Int} : ∀ {ws : List Win} {j : Int}, IsW n k F j ws → (ws.filter fun w => decide (w.2.1 ≤ N)).length = min ws.length (N + 1 - j).toNat
  | [], j, _ => by simp
  | v :: r, j, h => by
    have ih := IsW.cnt (N := N) h.2.2
    have e : v.2.1 = j := by rw [h.2.1]
    rw [List.filter_cons, e]
    by_cases z : j ≤ N
    · rw [decide_eq_true z, if_pos rfl, List.length_cons, List.length_cons, ih]; omega
    · rw [decide_eq_false z, if_neg (by decide), ih, List.length_cons]; omega
theorem row_windows {l : List Spell} (hok : okS l) {bs : List (Rat2 × Rat2)} (hB : okB (many l) bs) (ho : ∀ p ∈ bs, okQ p.1 ∧ okQ p.2) {row : List Int} (hrow : okRow (many l) (tot l).toNat row) {W : List (List Win)} (hW1 : W.length = many l) (hW2 : ∀ k, k < many l → IsW (quo l).length k (winB (bot l) (colOf (quo l) k) ((roomsM (bot l) bs).getD k (0, 0))) 1 (W.getD k [])) :
    keepP (leadsN (bot l) (many l) (quo l) row row.length) (roomsM (bot l) bs) ↔ inWin W.flatten row (many l) := by
  have hbp := bot_pos hok
  have hql := quo_len hok
  have htn := tot_nn fun s hs => (hok.2.1 s hs).1
  have hrl : row.length = (tot l).toNat := hrow.1
  have hqT : (quo l).length = row.length + 1 := by omega
  have hqr : ∀ r ∈ quo l, r.length = many l := fun r hr => quoB_row hok (b := bot l) hr
  have hpl : ∀ k, (colOf (quo l) k).length = row.length + 1 := fun k => by unfold colOf; rw [List.length_map, hqT]
  have hroom : ∀ k, k < many l → (roomsM (bot l) bs)[k]? = some ((roomsM (bot l) bs).getD k (0, 0)) ∧ 0 ≤ ((roomsM (bot l) bs).getD k (0, 0)).1 ∧ 0 ≤ ((roomsM (bot l) bs).getD k (0, 0)).2 := fun k hk => by
    have hkb : k < bs.length := by rw [hB.1]; exact hk
    have e : (roomsM (bot l) bs)[k]? = some (roomM (bot l) bs[k].1, roomM (bot l) bs[k].2) := by unfold roomsM; rw [List.getElem?_map, List.getElem?_eq_getElem hkb]; rfl
    have e2 : (roomsM (bot l) bs).getD k (0, 0) = (roomM (bot l) bs[k].1, roomM (bot l) bs[k].2) := by rw [List.getD_eq_getElem?_getD, e]; rfl
    rw [e2]
    have z := hB.2 bs[k] (List.getElem_mem hkb)
    have y := ho bs[k] (List.getElem_mem hkb)
    exact ⟨e, Int.ediv_nonneg (Int.mul_nonneg z.1.1 (by omega)) (by have := y.1.1; omega), Int.ediv_nonneg (Int.mul_nonneg z.2.1 (by omega)) (by have := y.2.1; omega)⟩
  have hzero : ∀ k, 0 ≤ (colOf (quo l) k).getD 0 0 := fun k => by
    obtain ⟨r, hr⟩ := quoB_head (bot l) l
    have : quo l = quoB (bot l) l := rfl
    rw [this, colOf_getD, hr]
    show 0 ≤ (zeros l).getD k 0
    unfold zeros
    rw [List.getD_eq_getElem?_getD, List.getElem?_replicate]
    split <;> simp
  have clan := fun (k : Nat) (hk : k < many l) => clan_iff hbp (hpl k) (fun s t hst ht => col_mono hok (b := bot l) (by omega) k s t hst (by show t < (quo l).length; omega)) (hzero k) (hroom k hk).2.1 (hroom k hk).2.2 (posP row k) (ws := W.getD k []) (k := k) (by rw [← hqT]; exact hW2 k hk)
  -- the leads of a clan
  have lead : ∀ (t k : Nat), t < row.length → k < many l → (leadAt (bot l) (many l) (quo l) row t)[k]? = some (((tk (posP row k) (t + 1)).length : Int) * bot l - (colOf (quo l) k).getD (t + 1) 0) := fun t k ht hk => by
    have hmem : (quo l).getD (t + 1) [] ∈ quo l := by
      rw [List.getD_eq_getElem?_getD, List.getElem?_eq_getElem (by omega)]; exact List.getElem_mem _
    have h2 := hqr _ hmem
    have h3 := hadN_len (bot l) (many l) (row.take (t + 1))
    unfold leadAt subL
    have hz : ((hadN (bot l) (many l) (row.take (t + 1))).zip ((quo l).getD (t + 1) []))[k]? = some ((hadN (bot l) (many l) (row.take (t + 1)))[k]'(by omega), ((quo l).getD (t + 1) [])[k]'(by omega)) := List.getElem?_zip_eq_some.mpr ⟨List.getElem?_eq_getElem (by omega), List.getElem?_eq_getElem (by omega)⟩
    rw [List.getElem?_map, hz, ← had_tk (bot l) hk hrow.2 (t + 1) (by omega), colOf_getD]
    simp [List.getD_eq_getElem?_getD, List.getElem?_eq_getElem (show k < (hadN (bot l) (many l) (row.take (t + 1))).length by omega), List.getElem?_eq_getElem (show t + 1 < (quo l).length by omega)]
    have hk2 : k < ((quo l)[t + 1]'(by omega)).length := by rw [hqr _ (List.getElem_mem _)]; exact hk
    have e : ((quo l)[t + 1]'(by omega))[k]? = some (((quo l)[t + 1]'(by omega))[k]) := List.getElem?_eq_getElem hk2
    rw [e]
    rfl
  have keepI : keepP (leadsN (bot l) (many l) (quo l) row row.length) (roomsM (bot l) bs) ↔ ∀ k, k < many l → ((∀ w ∈ W.getD k [], okV (tk (posP row k) row.length) w) ∧ (tk (posP row k) row.length).length ≤ (W.getD k []).length) := by
    constructor
    · intro h k hk
      refine (clan k hk).mp fun t ht => ?_
      exact h _ (by unfold leadsN; exact List.mem_map.mpr ⟨t, List.mem_range.mpr ht, rfl⟩) k _ _ (lead t k ht hk) (hroom k hk).1
    · intro h ld hld i x p hx hp
      unfold leadsN at hld
      obtain ⟨t, ht, rfl⟩ := List.mem_map.mp hld
      have ht' := List.mem_range.mp ht
      have hi : i < many l := by
        have := (List.getElem?_eq_some_iff.mp hp).1
        unfold roomsM at this
        rw [List.length_map, hB.1] at this; exact this
      rw [lead t i ht' hi] at hx
      rw [(hroom i hi).1] at hp
      cases hx; cases hp
      exact (clan i hi).mpr (h i hi) t ht'
  rw [keepI]
  have wk : ∀ k, k < many l → ∀ w ∈ W.getD k [], w.1 = (k : Int) := fun k hk w hw => by
    obtain ⟨j, _, rfl⟩ := (hW2 k hk).mem hw
    rfl
  have cntI : ∀ c : Nat, c < many l → (W.flatten.filter fun w => decide (w.1 = (c : Int)) && decide (w.2.1 ≤ ((posL row c).length : Int))).length = min (W.getD c []).length (posL row c).length := fun c hc => by
    rw [List.filter_flatten, flat_one (c := c) fun i hi => ?_]
    · have e : (W.map (List.filter fun w => decide (w.1 = (c : Int)) && decide (w.2.1 ≤ ((posL row c).length : Int)))).getD c [] = (W.getD c []).filter fun w => decide (w.1 = (c : Int)) && decide (w.2.1 ≤ ((posL row c).length : Int)) := by
        rw [List.getD_eq_getElem?_getD, List.getElem?_map, List.getD_eq_getElem?_getD]
        cases W[c]? <;> simp
      rw [e]
      have e2 : ((W.getD c []).filter fun w => decide (w.1 = (c : Int)) && decide (w.2.1 ≤ ((posL row c).length : Int))) = (W.getD c []).filter fun w => decide (w.2.1 ≤ ((posL row c).length : Int)) := List.filter_congr fun w hw => by rw [decide_eq_true (wk c hc w hw), Bool.true_and]
      rw [e2, (hW2 c hc).cnt]
      omega
    · rw [List.getD_eq_getElem?_getD, List.getElem?_map]
      cases hw : W[i]? with
      | none => rfl
      | some ws =>
        have hil : i < many l := by rw [← hW1]; exact (List.getElem?_eq_some_iff.mp hw).1
        show ws.filter _ = []
        refine List.filter_eq_nil_iff.mpr fun w hw' => ?_
        have hg : W.getD i [] = ws := by rw [List.getD_eq_getElem?_getD, hw]; rfl
        have := wk i hil w (by rw [hg]; exact hw')
        rw [decide_eq_false (show ¬ w.1 = (c : Int) by omega)]
        simp
  constructor
  · intro h
    refine ⟨fun w hw => ?_, fun c hc => ?_⟩
    · obtain ⟨k, hk, hw⟩ := flat_mem hw
      rw [wk k (by omega) w hw]
      exact (h k (by omega)).1 w hw
    · rw [cntI c hc]
      have := (h c hc).2
      exact Nat.min_eq_right this
  · rintro ⟨h1, h2⟩ k hk
    refine ⟨fun w hw => ?_, ?_⟩
    · have := h1 w (mem_flat (by omega) hw)
      rw [wk k hk w hw] at this
      exact this
    · have := h2 k hk
      rw [cntI k hk] at this
      show (posL row k).length ≤ _
      omega
noncomputable def posD (row : List Int) (c : Nat) (t : Nat) : List D := (tk (posP row (c : Nat)) t).map fun t : Nat => PyData.int ((t + 1 : Nat) : Int)
theorem posD_succ {row : List Int} {n t : Nat} (ht : t < row.length) (hx : 0 ≤ row[t] ∧ row[t] < (n : Int)) : ((List.range n).map fun c => posD row c t).set row[t].toNat (posD row row[t].toNat t ++ [PyData.int (0 + (t : Int) + 1)]) = (List.range n).map fun c => posD row c (t + 1) := by
  rw [map_range_set]
  refine List.map_congr_left fun c hc => ?_
  have hp : posP row c t = decide (row[t] = (c : Int)) := by
    unfold posP; rw [List.getD_eq_getElem?_getD, List.getElem?_eq_getElem ht]; rfl
  have e : posD row c (t + 1) = posD row c t ++ if posP row c t = true then [PyData.int (0 + (t : Int) + 1)] else [] := by
    unfold posD
    rw [tk_succ, List.map_append]
    congr 1
    split
    · simp
    · rfl
  rw [e, hp]
  by_cases z : c = row[t].toNat
  · rw [if_pos z, decide_eq_true (by omega), if_pos rfl, z]
  · rw [if_neg z, decide_eq_false (by omega), if_neg (by decide), List.append_nil]
theorem eqv_ints : ∀ a b : List Int, PyData.eqv (.list (a.map PyData.int)) (.list (b.map PyData.int)) = decide (a = b)
  | [], [] => by simp [PyData.eqv, PyData.eqvAll]
  | [], _ :: _ => by simp [PyData.eqv, PyData.eqvAll]
  | _ :: _, [] => by simp [PyData.eqv, PyData.eqvAll]
  | x :: a, y :: b => by
    have ih := eqv_ints a b
    simp only [PyData.eqv] at ih
    simp only [List.map_cons, PyData.eqv, PyData.eqvAll, ih]
    by_cases e1 : x = y <;> by_cases e2 : a = b <;> simp [e1, e2]
theorem scO (o : Option Int) : scal3 (dO o) = true := by cases o <;> rfl
noncomputable def cntW (row : List Int) (ws : List Win) (c : Nat) : Int := (((ws.filter fun w => decide (w.1 = (c : Int)) && decide (w.2.1 ≤ ((posL row c).length : Int))).length : Nat) : Int)
theorem cntW_yes {row : List Int} {done : List Win} {w : Win} {n c0 : Nat} (h1 : w.1 = (c0 : Int)) (h2 : w.2.1 ≤ ((posL row c0).length : Int)) : ((List.range n).map (cntW row done)).set c0 (cntW row done c0 + 1) = (List.range n).map (cntW row (done ++ [w])) := by
  rw [map_range_set]
  refine List.map_congr_left fun c _ => ?_
  unfold cntW
  rw [List.filter_append, List.length_append]
  by_cases e : c = c0
  · subst e
    rw [if_pos rfl, List.filter_cons, decide_eq_true h1, decide_eq_true h2]
    simp
  · rw [if_neg e, List.filter_cons, decide_eq_false (show ¬ w.1 = (c : Int) by omega)]
    simp
theorem cntW_no {row : List Int} {done : List Win} {w : Win} {n c0 : Nat} (h1 : w.1 = (c0 : Int)) (h2 : ¬ w.2.1 ≤ ((posL row c0).length : Int)) : (List.range n).map (cntW row (done ++ [w])) = (List.range n).map (cntW row done) := by
  refine List.map_congr_left fun c _ => ?_
  unfold cntW
  rw [List.filter_append, List.length_append]
  by_cases e : c = c0
  · subst e
    rw [List.filter_cons, decide_eq_false h2, Bool.and_false]
    simp
  · rw [List.filter_cons, decide_eq_false (show ¬ w.1 = (c : Int) by omega)]
    simp
theorem plain_dI (ns : List Int) : Plain 1 (dI ns) := Plain.list fun d hd => by
  obtain ⟨i, _, rfl⟩ := List.mem_map.mp hd
  exact Plain.int i
theorem had_le {b : Int} (hb : 0 ≤ b) (n : Nat) (row : List Int) : ∀ x ∈ hadN b n row, 0 ≤ x ∧ x ≤ row.length * b := by
  have key : ∀ (row h : List Int) (M : Int), 0 ≤ M → (∀ x ∈ h, 0 ≤ x ∧ x ≤ M) → ∀ x ∈ row.foldl (had1 b) h, 0 ≤ x ∧ x ≤ M + row.length * b := by
    intro row
    induction row with
    | nil => intro h M _ hh x hx; have := hh x hx; simp; exact this
    | cons c r ih =>
      intro h M hM hh x hx
      rw [List.foldl_cons] at hx
      have := ih (had1 b h c) (M + b) (by omega) (fun y hy => by
        unfold had1 at hy
        rcases List.mem_or_eq_of_mem_set hy with z | z
        · have := hh y z; omega
        · rw [z, List.getD_eq_getElem?_getD]
          cases e : h[c.toNat]? with
          | none => simp; omega
          | some w => have := hh w (List.mem_of_getElem? e); simp; omega) x hx
      rw [List.length_cons, Int.natCast_succ, Int.add_mul, Int.one_mul]
      omega
  intro x hx
  have := key row (List.replicate n 0) 0 (by decide) (fun y hy => by rw [List.eq_of_mem_replicate hy]; decide) x hx
  omega
theorem ld_le {l : List Spell} (hok : okS l) {b : Int} (hb : 0 < b) {row : List Int} (hr : (row.length : Int) = tot l) (n t k : Nat) : -(tot l * b) ≤ ldF b n (quoB b l) row t k ∧ ldF b n (quoB b l) row t k ≤ tot l * b := by
  have h0 : 0 ≤ tot l * b := Int.mul_nonneg (by omega) (by omega)
  unfold ldF
  rw [List.getD_eq_getElem?_getD]
  cases e : (leadAt b n (quoB b l) row t)[k]? with
  | none => simp; omega
  | some x =>
    simp
    have hx := List.mem_of_getElem? e
    unfold leadAt subL at hx
    obtain ⟨p, hp, rfl⟩ := List.mem_map.mp hx
    obtain ⟨p1, p2⟩ := List.of_mem_zip (a := p.1) (b := p.2) hp
    have a1 := had_le (b := b) (by omega) n (row.take (t + 1)) _ p1
    have a2 : ((row.take (t + 1)).length : Int) * b ≤ tot l * b := Int.mul_le_mul_of_nonneg_right (by rw [List.length_take]; omega) (by omega)
    rw [List.getD_eq_getElem?_getD] at p2
    cases e2 : (quoB b l)[t + 1]? with
    | none => rw [e2] at p2; simp at p2
    | some r =>
      rw [e2] at p2
      have p2' : p.2 ∈ r := p2
      have b1 := quoB_le hok hb r (List.mem_of_getElem? e2) _ p2'
      have b2 := quoB_nn hok (by omega) r (List.mem_of_getElem? e2) _ p2'
      omega
theorem most_bits {l : List Spell} (hok : okS l) {row : List Int} (hr : (row.length : Int) = tot l) (n : Nat) : ∀ m ∈ mostL (prodS l) n (quoB (prodS l) l) row row.length, (0 ≤ m.1 ∧ Bits 1000 m.1) ∧ 0 ≤ m.2 ∧ Bits 1000 m.2 := fun m hm => by
  unfold mostL at hm
  obtain ⟨k, _, rfl⟩ := List.mem_map.mp hm
  have hp := prodS_pos hok
  have hb : Bits 1000 (tot l * prodS l) := ((Bits.lit (x := tot l) 64 (by have := hok.2.2; omega)).mul (prodS_bits hok)).mono (by decide)
  have h0 : 0 ≤ tot l * prodS l := Int.mul_nonneg (by omega) (by omega)
  obtain ⟨h1, h2, _, h4, h5⟩ := mx_le (ldF (prodS l) n (quoB (prodS l) l) row) k row.length
  refine ⟨⟨h1, hb.le ?_⟩, h2, hb.le ?_⟩
  · rcases h4 with z | ⟨s, _, z⟩
    · omega
    · have := ld_le hok hp hr n s k; omega
  · rcases h5 with z | ⟨s, _, z⟩
    · omega
    · have := ld_le hok hp hr n s k; omega
noncomputable def lowQ (a b : Int) : Rat2 := (a / (Int.gcd a b : Int), b / (Int.gcd a b : Int))
theorem lowQ_ok {a b : Int} (hb : 0 < b) (ha : Bits 1100 a) (hB : Bits 1100 b) : okQ (lowQ a b) := by
  obtain ⟨l1, _, _, _⟩ := low_gcd (a := a) hb
  exact ⟨l1, (ha.le (Int.natAbs_ediv_le_natAbs _ _)).mono (by decide), (hB.le (Int.natAbs_ediv_le_natAbs _ _)).mono (by decide)⟩
theorem lowQ_in {a b : Int} (hb : 0 < b) (h0 : 0 ≤ a) (h1 : a ≤ 10 * b) : inQ (lowQ a b) := by
  obtain ⟨l1, l2, l3, l4⟩ := low_gcd (a := a) hb
  have hg := gcdR_pos (a := a) hb
  refine ⟨Int.ediv_nonneg h0 (by omega), ?_⟩
  show a / (Int.gcd a b : Int) ≤ 10 * (b / (Int.gcd a b : Int))
  generalize (Int.gcd a b : Int) = g at *
  generalize a / g = x at *
  generalize b / g = y at *
  refine Int.le_of_mul_le_mul_right (a := g) ?_ hg
  rw [Int.mul_assoc, l3, l4]; exact h1
noncomputable def minO (m c : Int) : Int := if c < m then c else m
theorem minO_ok {m B : Int} (hB : 0 < B) (hm : 0 ≤ m) (hb : Bits 900 B) : 0 ≤ minO m (10 * B) ∧ minO m (10 * B) ≤ 10 * B ∧ Bits 1000 (minO m (10 * B)) := by
  have h : 0 ≤ minO m (10 * B) ∧ minO m (10 * B) ≤ 10 * B := by unfold minO; split <;> omega
  have hb2 : Bits 1000 (10 * B) := ((Bits.lit (x := 10) 64).mul hb).mono (by decide)
  exact ⟨h.1, h.2, hb2.le (by omega)⟩

section
variable {P : Program} {w : World} {c : Law.Cl} {K : PySem.W.Frag} {mg : Str → Option Value} {base : Heap}
noncomputable def sp_law_cell_at : Sp3 := fun ds Q E => ∃ ns k, ds = [dI ns, .int k] ∧ 0 ≤ k ∧ ∀ v : Int, Q true (.int v)
noncomputable def sp_law_mixed : Sp3 := fun ds Q E => ∃ cc k, ds = [.int cc, .int k] ∧ 0 ≤ k ∧ k < 100000 ∧ ∀ v : Int, Q true (.int v)
noncomputable def sp_law_wide : Sp3 := fun ds Q E => ∃ cc k, ds = [.int cc, .int k] ∧ 0 ≤ k ∧ k < 100000 ∧ ∀ v : Int, Q true (.int v)
noncomputable def sp_law_spells : Sp3 := fun ds Q E => ∃ ns m, ds = [dI ns, .int m] ∧ 4 ≤ m ∧ m ≤ 60 ∧ ∀ l, okS l → (∀ s ∈ l, ∀ w ∈ s.2, w < 10 ^ 6) → Q true (dSs l)
noncomputable def sp_law_long : Sp3 := fun ds Q E => ∃ ns m, ds = [dI ns, .int m] ∧ 4 ≤ m ∧ m ≤ 60 ∧ ∀ l, okS l → Q true (dSs l)
noncomputable def sp_law_quotas : Sp3 := fun ds Q E => ∃ l, ds = [dSs l] ∧ okS l ∧ Q true (.tuple [.int (prodS l), .list ((quoB (prodS l) l).map dI)])
noncomputable def sp_law_row : Sp3 := fun ds Q E => ∃ (b : Int) (rows : List (List Int)) (cc : Int) (n : Nat), ds = [.int b, .list (rows.map dI), .int cc] ∧ 1 ≤ n ∧ n ≤ 8 ∧ 1 ≤ rows.length ∧ rows.length ≤ 61 ∧ (∀ r ∈ rows, r.length = n) ∧ ∀ row : List Int, row.length + 1 = rows.length → (∀ c ∈ row, 0 ≤ c ∧ c < n) → Q true (dI row)
noncomputable def sp_law_apart : Sp3 := fun ds Q E => ∃ (b : Int) (rows : List (List Int)) (row : List Int) (n : Nat), ds = [.int b, .list (rows.map dI), dI row] ∧ 1 ≤ n ∧ n ≤ 8 ∧ row.length + 1 = rows.length ∧ rows.length ≤ 61 ∧ (∀ r ∈ rows, r.length = n) ∧ (∀ c ∈ row, 0 ≤ c ∧ c < (n : Int)) ∧ Q true (.list ((mostL b n rows row row.length).map dM))
noncomputable def sp_law_ratio : Sp3 := fun ds Q E => ∃ a b, ds = [.int a, .int b] ∧ 0 < b ∧ Bits 9000 b ∧ Q true (dR a b)
noncomputable def sp_law_bounds : Sp3 := fun ds Q E => ∃ (n : Nat) (cc : Int), ds = [.int n, .int cc] ∧ n ≤ 8 ∧ ∀ l : List (Rat2 × Rat2), okB n l → (∀ p ∈ l, okQ p.1 ∧ okQ p.2) → Q true (dPs l)
noncomputable def sp_law_due : Sp3 := fun ds Q E => ∃ (B : Int) (ms : List (Int × Int)) (bs : List (Rat2 × Rat2)), ds = [.int B, .list (ms.map dM), dPs bs] ∧ ms.length = bs.length ∧ bs.length ≤ 8 ∧ Bits 1000 B ∧ (∀ m ∈ ms, Bits 1200 m.1 ∧ Bits 1200 m.2) ∧ (∀ p ∈ bs, okQ p.1 ∧ okQ p.2) ∧ ∀ r : Bool, (r = true ↔ dueP B ms bs) → Q true (.bool r)
noncomputable def sp_check_weights (c : Law.Cl) : Sp3 := fun ds Q E => ∃ ws, ds = [dI ws] ∧ (okW ws → Q true .none) ∧ (¬ okW ws → E c.NoSpell)
noncomputable def sp_all_turns : Sp3 := fun ds Q E => ∃ l, ds = [dSs l] ∧ l.length ≤ 1000 ∧ Q true (.int (tot l))
noncomputable def sp_check_spells (c : Law.Cl) : Sp3 := fun ds Q E => ∃ l, ds = [dSs l] ∧ (okS l → Q true .none) ∧ (¬ okS l → E c.NoSpell)
noncomputable def sp_common_divisor : Sp3 := fun ds Q _ => ∃ a b, ds = [.int a, .int b] ∧ Q true (.int (Int.gcd a b))
noncomputable def sp_divisor_of_all : Sp3 := fun ds Q E => ∃ ws, ds = [dI ws] ∧ Q true (.int (gcdL ws))
noncomputable def sp_least_bottom : Sp3 := fun ds Q E => ∃ l, ds = [dSs l] ∧ okS l ∧ Q true (.int (bot l))
noncomputable def sp_shares_over : Sp3 := fun ds Q E => ∃ b ws, ds = [.int b, dI ws] ∧ okW ws ∧ Bits 2000 b ∧ Q true (dI (shares b ws))
noncomputable def sp_quotas (c : Law.Cl) : Sp3 := fun ds Q E => ∃ l, ds = [dSs l] ∧ (okS l → Q true (.tuple [.int (bot l), .list ((quo l).map dI)])) ∧ (¬ okS l → E c.NoSpell)
noncomputable def sp_first_turn : Sp3 := fun ds Q E => ∃ (path : List Int) (w : Int), ds = [dI path, .int w] ∧ path.length ≤ 61 ∧ 1 ≤ path.length ∧ Q true (.int (firstP path.length fun t => decide (w ≤ path.getD t 0)))
noncomputable def sp_window_of : Sp3 := fun ds Q E => ∃ (b : Int) (path : List Int) (j : Int) (room : Int × Int), ds = [.int b, dI path, .int j, dRoom room] ∧ path.length ≤ 61 ∧ 1 ≤ path.length ∧ Bits 2000 b ∧ Bits 64 j ∧ Q true (.tuple [.int (winB b path room j).1, dO (winB b path room j).2])
noncomputable def sp_windows_of_clan : Sp3 := fun ds Q E => ∃ (b : Int) (q : List (List Int)) (k : Nat) (room : Int × Int) (n : Nat), ds = [.tuple [.int b, .list (q.map dI)], .int k, dRoom room] ∧ 0 < b ∧ Bits 2000 b ∧ k < n ∧ q.length ≤ 61 ∧ 1 ≤ q.length ∧ (∀ r ∈ q, r.length = n) ∧ (∀ r ∈ q, r.getD k 0 + room.2 ≤ 80 * b) ∧ 0 ≤ room.1 ∧ 0 ≤ room.2 ∧ room.2 ≤ 80 * b ∧ ∀ ws, IsW q.length k (winB b (colOf q k) room) 1 ws → ws.length ≤ 200 → Q true (.list (ws.map dW))
noncomputable def sp_windows_within : Sp3 := fun ds Q E => ∃ (b : Int) (q : List (List Int)) (rooms : List (Int × Int)) (n : Nat), ds = [.tuple [.int b, .list (q.map dI)], .list (rooms.map dRoom)] ∧ 0 < b ∧ Bits 2000 b ∧ rooms.length = n ∧ n ≤ 8 ∧ q.length ≤ 61 ∧ 1 ≤ q.length ∧ (∀ r ∈ q, r.length = n) ∧ (∀ r ∈ q, ∀ x ∈ r, x ≤ 60 * b) ∧ (∀ p ∈ rooms, 0 ≤ p.1 ∧ 0 ≤ p.2 ∧ p.2 ≤ 20 * b) ∧ ∀ W : List (List Win), W.length = n → (∀ k, k < n → IsW q.length k (winB b (colOf q k) (rooms.getD k (0, 0))) 1 (W.getD k [])) → W.flatten.length ≤ 2000 → Q true (.list (W.flatten.map dW))
noncomputable def sp_less : Sp3 := fun ds Q E => ∃ a b : Rat2, ds = [dQ a, dQ b] ∧ okQ a ∧ okQ b ∧ Q true (.bool (decide (a.1 * b.2 < b.1 * a.2)))
noncomputable def sp_check_bounds (c : Law.Cl) : Sp3 := fun ds Q E => ∃ (l : List (Rat2 × Rat2)) (n : Nat), ds = [dPs l, .int n] ∧ (∀ p ∈ l, okQ p.1 ∧ okQ p.2) ∧ (okB n l → Q true .none) ∧ (¬ okB n l → E c.NoBounds)
noncomputable def sp_room_at_most : Sp3 := fun ds Q E => ∃ (b : Int) (r : Rat2), ds = [.int b, dQ r] ∧ Bits 2000 b ∧ okQ r ∧ Q true (.int (roomM b r))
noncomputable def sp_rooms_of (c : Law.Cl) : Sp3 := fun ds Q E => ∃ (b : Int) (q : List (List Int)) (l : List (Rat2 × Rat2)) (n : Nat), ds = [.tuple [.int b, .list (q.map dI)], dPs l] ∧ Bits 2000 b ∧ 1 ≤ q.length ∧ (∀ r ∈ q, r.length = n) ∧ n ≤ 8 ∧ l.length ≤ 1000 ∧ (∀ p ∈ l, okQ p.1 ∧ okQ p.2) ∧ (okB n l → Q true (.list ((roomsM b l).map dRoom))) ∧ (¬ okB n l → E c.NoBounds)
noncomputable def sp_windows (c : Law.Cl) : Sp3 := fun ds Q E => ∃ (l : List Spell) (bs : List (Rat2 × Rat2)), ds = [dSs l, dPs bs] ∧ bs.length ≤ 1000 ∧ (∀ p ∈ bs, okQ p.1 ∧ okQ p.2) ∧ (okS l → okB (many l) bs → ∀ W : List (List Win), W.length = many l → (∀ k, k < many l → IsW (quo l).length k (winB (bot l) (colOf (quo l) k) ((roomsM (bot l) bs).getD k (0, 0))) 1 (W.getD k [])) → W.flatten.length ≤ 2000 → Q true (.list (W.flatten.map dW))) ∧ (¬ okS l → E c.NoSpell) ∧ (okS l → ¬ okB (many l) bs → E c.NoBounds)
noncomputable def sp_check_row (c : Law.Cl) : Sp3 := fun ds Q E => ∃ (row : List Int) (T n : Nat), ds = [dI row, .int T, .int n] ∧ (okRow n T row → Q true .none) ∧ (¬ okRow n T row → E c.NoRow)
noncomputable def sp_leads (c : Law.Cl) : Sp3 := fun ds Q E => ∃ (b : Int) (q : List (List Int)) (row : List Int) (n : Nat), ds = [.tuple [.int b, .list (q.map dI)], dI row] ∧ 1 ≤ n ∧ n ≤ 8 ∧ 1 ≤ q.length ∧ q.length ≤ 61 ∧ (∀ r ∈ q, r.length = n) ∧ (okRow n (q.length - 1) row → Q true (.list ((leadsN b n q row row.length).map dI))) ∧ (¬ okRow n (q.length - 1) row → E c.NoRow)
noncomputable def sp_keeps (c : Law.Cl) : Sp3 := fun ds Q E => ∃ (l : List Spell) (bs : List (Rat2 × Rat2)) (row : List Int), ds = [dSs l, dPs bs, dI row] ∧ bs.length ≤ 1000 ∧ (∀ p ∈ bs, okQ p.1 ∧ okQ p.2) ∧ (okS l → okB (many l) bs → okRow (many l) (tot l).toNat row → ∀ r : Bool, (r = true ↔ keepP (leadsN (bot l) (many l) (quo l) row row.length) (roomsM (bot l) bs)) → Q true (.bool r)) ∧ (¬ okS l → E c.NoSpell) ∧ (okS l → ¬ okB (many l) bs → E c.NoBounds) ∧ (okS l → okB (many l) bs → ¬ okRow (many l) (tot l).toNat row → E c.NoRow)
noncomputable def sp_law_near : Sp3 := fun ds Q E => ∃ (B : Int) (ms : List (Int × Int)) (cc : Int), ds = [.int B, .list (ms.map dM), .int cc] ∧ 0 < B ∧ Bits 900 B ∧ ms.length ≤ 8 ∧ (∀ m ∈ ms, 0 ≤ m.1 ∧ 0 ≤ m.2) ∧ ∀ bs : List (Rat2 × Rat2), bs.length = ms.length → (∀ p ∈ bs, (okQ p.1 ∧ okQ p.2) ∧ inQ p.1 ∧ inQ p.2) → Q true (dPs bs)
noncomputable def sp_law_in_windows : Sp3 := fun ds Q E => ∃ (ws : List Win) (row : List Int) (n : Nat), ds = [.list (ws.map dW), dI row, .int n] ∧ 1 ≤ n ∧ n ≤ 8 ∧ row.length ≤ 60 ∧ (∀ x ∈ row, 0 ≤ x ∧ x < (n : Int)) ∧ (∀ w ∈ ws, 0 ≤ w.1 ∧ w.1 < (n : Int) ∧ 1 ≤ w.2.1) ∧ ∀ r : Bool, (r = true ↔ inWin ws row n) → Q true (.bool r)
noncomputable def sp_law : Sp3 := fun ds Q E => ∃ ns, ds = [dI ns] ∧ ns.length ≤ 63 ∧ Q true (.bool true)
local macro_rules | `(tactic| walk_at "rd") => do
    let ls ← ("seq3,next3,set3,own3,ret3,ifS3,tt3,o3,u3,v3,atV,asS,asB,asD,optP,asT,asLd,asL,atO,consP,nilP,asId,asI,k3,nw3,add3,int3,int0,neg3,eq3,ne3,eqOk,eqv3,notN3,isNone,ix3,ixD,cons3,nil3,call3,cb3,len3,lenD,abs3,max23,min23,sum3,max3,and3,or3,not3,andV3,ch3,tup3,lst3,listN,catN,slL3,no3,part3,isi3',L2.isD,drop3,asg3,gn3,gtup3,gcons3,gnil3,app3,put3,frzS,frz,frz1,for3,itL,itT,itZ,rg1,rg2,comp3,true3,cst3,raise3,start3,shs,Cl.d,Cl.dat,Cl.f,allIn,scal3,Option.map_some,Option.map_none,Option.isSome_some,Option.isSome_none,Option.join_some,Option.join_none,List.all_cons,List.all_nil,Bool.and_true,Bool.true_and,Bool.and_self,Bool.or_false,Bool.false_or,Bool.or_true,Bool.true_or,List.map_cons,List.map_nil,List.length_cons,List.length_nil,Nat.reduceAdd,Nat.reduceSub,Nat.sub_self,List.replicate,List.cons_append,List.nil_append,List.append_nil,List.getElem?_cons_zero,List.getElem?_cons_succ,List.set_cons_zero,List.set_cons_succ,Option.some.injEq,Cl.sh.injEq,Cl.ow.injEq,PyData.int.injEq,PyData.bool.injEq,PyData.str.injEq,PyData.list.injEq,PyData.tuple.injEq,List.cons.injEq,reduceCtorEq,and_assoc,and_true,true_and,and_self,exists_eq_left,exists_eq_left',exists_eq',exists_eq_right,exists_eq_right',exists_and_left,exists_const,exists_false,false_and,and_false,or_false,false_or,or_true,true_or,decide_true,decide_false,decide_eq_true_eq,Bool.not_true,Bool.not_false,Bool.false_eq_true,Bool.true_eq_false,if_true,if_false,ite_true,ite_false,Bool.not_eq_true',decide_eq_false_iff_not,eq_self_iff_true,not_true_eq_false,not_false_eq_true,sz0,sz1,sz2,sz4,sz5,par3,thawN,aug3,augput3,idx3,ext3,itE,tree3,put2,app2,ix2,Cl.tr.injEq,sp_law_cell_at,sp_law_mixed,sp_law_wide,sp_law_spells,sp_law_long,sp_law_quotas,sp_law_row,sp_law_apart,sp_law_ratio,sp_law_bounds,sp_law_due,sp_check_weights,sp_all_turns,sp_check_spells,sp_common_divisor,sp_divisor_of_all,sp_least_bottom,sp_shares_over,sp_quotas,sp_first_turn,sp_window_of,sp_windows_of_clan,sp_windows_within,sp_less,sp_check_bounds,sp_room_at_most,sp_rooms_of,sp_windows,sp_check_row,sp_leads,sp_keeps,sp_law_near,sp_law_in_windows,sp_law,dSs,dS,dI,scal3,dQ,dP,dPs,dRoom,dW,dM".splitOn ",").toArray.mapM fun s => `(Lean.Parser.Tactic.simpLemma| $(Lean.mkIdent s.toName):term)
    `(tactic| try simp (config := { maxSteps := 2000000 }) only [$ls:simpLemma,*])
theorem sc_law_cell_at : FnScope ["_law_script", "_law_k"] ["_law_script", "_law_k"] (defScope s_law_cell_at) := ⟨rfl, rfl, rfl, by decide +kernel, rfl, by decide +kernel, by decide +kernel⟩
set_option maxHeartbeats 4000000 in
theorem fn_law_cell_at (T : Txt c K mg)  {f : Addr} {fd : FuncData} (F : Fun K "_law_cell_at" "_law_cell_at" s_law_cell_at f fd) : FnOk P w K mg base (CXR P w) 1 f fd ["_law_script", "_law_k"] (spL K sp_law_cell_at) := by
  have S := sc_law_cell_at
  refine fn3 F S (fun ds Q E h => ?_) (fun cdv A outer s H E E3 hE hr => ?_)
  · obtain ⟨_, _, rfl, _⟩ := h; rfl
  refine ⟨_, (ss_cons (s_if (tcmp3 lt_ok (n3 1) (callB3 len_ok rfl T.n_len bo_len (a_cons (n3 0) a_nil)) (nomark _)) (ss_one (s_ret (op3 mod_ok (at3 (n3 0) (n3 1) (fun _ _ => rfl)) (op3 pow_ok i3 i3)))) ss_nil)
    (ss_one (s_ret i3))), fun ds Q h => ?_⟩
  obtain ⟨ns, k, rfl, hk, q⟩ := h
  walk_at "rd"
  rw [List.length_map]
  by_cases h : k < ns.length
  · rw [if_pos h]
    obtain ⟨x, h1, _⟩ := atI_lt (xs := ns) hk h
    refine ⟨.int x, by rw [atI_map, h1]; rfl, c64, ?_⟩
    exact ⟨by decide, q _⟩
  · rw [if_neg h]
    exact q _
theorem ok_law_cell_at (T : Txt c K mg)  : Df3 P w K mg base 1 "_law_cell_at" ["_law_script", "_law_k"] sp_law_cell_at := by
  obtain ⟨f, fd, F, hm⟩ := T.d_law_cell_at
  have hb := F.binds (ps := ["_law_script", "_law_k"]) fun _ _ _ _ _ _ us hl => by obtain ⟨_, _, rfl⟩ := arity2 hl; rfl
  refine ⟨fun ds Q Q' E E' hQ hE h => ?_, ⟨f, fd, fn_law_cell_at T  F, hb, F.kp, hm⟩⟩
  obtain ⟨a, b, e, z, h⟩ := h; exact ⟨a, b, e, z, fun v => hQ _ _ (h v)⟩
theorem sc_law_mixed : FnScope ["_law_cell", "_law_k", "_law_one"] ["_law_cell", "_law_k"] (defScope s_law_mixed) := ⟨rfl, rfl, rfl, by decide +kernel, rfl, by decide +kernel, by decide +kernel⟩
set_option maxHeartbeats 4000000 in
theorem fn_law_mixed (T : Txt c K mg)  {f : Addr} {fd : FuncData} (F : Fun K "_law_mixed" "_law_mixed" s_law_mixed f fd) : FnOk P w K mg base (CXR P w) 1 f fd ["_law_cell", "_law_k"] (spL K sp_law_mixed) := by
  have S := sc_law_mixed
  refine fn3 F S (fun ds Q E h => ?_) (fun cdv A outer s H E E3 hE hr => ?_)
  · obtain ⟨_, _, rfl, _⟩ := h; rfl
  refine ⟨_, (ss_cons (s_set (i := 2) S.nd rfl (by first | exact Or.inl rfl | exact Or.inr rfl) (op3 mod_ok (op3 mul_ok (op3 add3_ok (op3 mod_ok (n3 0) (op3 pow_ok i3 i3)) (op3 mul_ok i3 (op3 add3_ok (n3 1) i3))) i3) (op3 pow_ok i3 i3)))
    (ss_one (s_ret (op3 mod_ok (op3 fdiv_ok (op3 mul_ok (n3 2) (n3 2)) (op3 pow_ok i3 i3)) (op3 pow_ok i3 i3))))), fun ds Q h => ?_⟩
  obtain ⟨cc, k, rfl, h0, h1, q⟩ := h
  walk_at "rd"
  have cp : ∀ n : Int, 0 ≤ n → n ≤ 100 → CPowB 10 n := fun n h h' => powB (k := 4) (by unfold Bits; decide) h (by omega)
  have hk : Bits 64 (k + 1) := by unfold Bits; omega
  have b1 : Bits 128 (cc % 10 ^ Int.toNat 18) := (Bits.emod (Bits.lit 64) (by decide) _).mono (by decide)
  have b2 := (Bits.lit (x := 1442695040888963407) 64).mul hk
  have b3 := b1.add b2
  generalize cc % 10 ^ Int.toNat 18 + 1442695040888963407 * (k + 1) = y at b3 ⊢
  have b4 : Bits 130 (y * 6364136223846793005 % 10 ^ Int.toNat 37) := Bits.emod (by unfold Bits; decide) (by decide) _
  generalize y * 6364136223846793005 % 10 ^ Int.toNat 37 = z at b4 ⊢
  exact ⟨cp 18 (by decide) (by decide), by decide, (Bits.lit (x := 1442695040888963407) 64).mulOk hk (by decide), b3.mulOk (Bits.lit 64) (by decide), cp 37 (by decide) (by decide), by decide, b4.mulOk b4 (by decide), cp 17 (by decide) (by decide), divP, cp 56 (by decide) (by decide), by decide, q _⟩
theorem ok_law_mixed (T : Txt c K mg)  : Df3 P w K mg base 1 "_law_mixed" ["_law_cell", "_law_k"] sp_law_mixed := by
  obtain ⟨f, fd, F, hm⟩ := T.d_law_mixed
  have hb := F.binds (ps := ["_law_cell", "_law_k"]) fun _ _ _ _ _ _ us hl => by obtain ⟨_, _, rfl⟩ := arity2 hl; rfl
  refine ⟨fun ds Q Q' E E' hQ hE h => ?_, ⟨f, fd, fn_law_mixed T  F, hb, F.kp, hm⟩⟩
  obtain ⟨a, b, e, z, y, h⟩ := h; exact ⟨a, b, e, z, y, fun v => hQ _ _ (h v)⟩
theorem sc_law_wide : FnScope ["_law_cell", "_law_k"] ["_law_cell", "_law_k"] (defScope s_law_wide) := ⟨rfl, rfl, rfl, by decide +kernel, rfl, by decide +kernel, by decide +kernel⟩
set_option maxHeartbeats 4000000 in
theorem fn_law_wide (T : Txt c K mg) (G_law_mixed : Df3 P w K mg base 1 "_law_mixed" ["_law_cell", "_law_k"] sp_law_mixed) {f : Addr} {fd : FuncData} (F : Fun K "_law_wide" "_law_wide" s_law_wide f fd) : FnOk P w K mg base (CXR P w) 2 f fd ["_law_cell", "_law_k"] (spL K sp_law_wide) := by
  have S := sc_law_wide
  refine fn3 F S (fun ds Q E h => ?_) (fun cdv A outer s H E E3 hE hr => ?_)
  · obtain ⟨_, _, rfl, _⟩ := h; rfl
  refine ⟨_, (ss_cons (s_if (tcmp3 lt_ok (n3 0) (op3 pow_ok i3 i3) (nomark _)) (ss_one (s_ret (df3 hE G_law_mixed (hr.mono (by decide)) rfl passR (a_cons (n3 0) (a_cons (n3 1) a_nil))))) ss_nil)
    (ss_one (s_ret (n3 0)))), fun ds Q h => ?_⟩
  obtain ⟨cc, k, rfl, h0, h1, q⟩ := h
  walk_at "rd"
  refine ⟨powB (k := 4) (by unfold Bits; decide) (by decide) (by decide), ite2 (fun _ => ⟨h0, h1, q⟩) fun _ => q _⟩
theorem ok_law_wide (T : Txt c K mg) (G_law_mixed : Df3 P w K mg base 1 "_law_mixed" ["_law_cell", "_law_k"] sp_law_mixed) : Df3 P w K mg base 2 "_law_wide" ["_law_cell", "_law_k"] sp_law_wide := by
  obtain ⟨f, fd, F, hm⟩ := T.d_law_wide
  have hb := F.binds (ps := ["_law_cell", "_law_k"]) fun _ _ _ _ _ _ us hl => by obtain ⟨_, _, rfl⟩ := arity2 hl; rfl
  refine ⟨fun ds Q Q' E E' hQ hE h => ?_, ⟨f, fd, fn_law_wide T G_law_mixed F, hb, F.kp, hm⟩⟩
  obtain ⟨a, b, e, z, y, h⟩ := h; exact ⟨a, b, e, z, y, fun v => hQ _ _ (h v)⟩
theorem sc_law_spells : FnScope ["_law_script", "_law_most", "_law_first", "_law_clans", "_law_count", "_law_spells_here", "_law_k", "_law_cell", "_law_length", "_law_size", "_law_weights", "_law_i"] ["_law_script", "_law_most"] (defScope s_law_spells) := ⟨rfl, rfl, rfl, by decide +kernel, rfl, by decide +kernel, by decide +kernel⟩
set_option maxHeartbeats 4000000 in
theorem fn_law_spells (T : Txt c K mg) (G_law_cell_at : Df3 P w K mg base 1 "_law_cell_at" ["_law_script", "_law_k"] sp_law_cell_at) (G_law_wide : Df3 P w K mg base 2 "_law_wide" ["_law_cell", "_law_k"] sp_law_wide) {f : Addr} {fd : FuncData} (F : Fun K "_law_spells" "_law_spells" s_law_spells f fd) : FnOk P w K mg base (CXR P w) 3 f fd ["_law_script", "_law_most"] (spL K sp_law_spells) := by
  have S := sc_law_spells
  refine fn3 F S (fun ds Q E h => ?_) (fun cdv A outer s H E E3 hE hr => ?_)
  · obtain ⟨_, _, rfl, _⟩ := h; rfl
  refine ⟨_, (ss_cons (s_set (i := 2) S.nd rfl (by first | exact Or.inl rfl | exact Or.inr rfl) (df3 hE G_law_cell_at (hr.mono (by decide)) rfl passR (a_cons (n3 0) (a_cons i3 a_nil))))
    (ss_cons (s_set (i := 3) S.nd rfl (by first | exact Or.inl rfl | exact Or.inr rfl) (op3 add3_ok i3 (op3 mod_ok (n3 2) i3)))
    (ss_cons (s_set (i := 4) S.nd rfl (by first | exact Or.inl rfl | exact Or.inr rfl) (op3 add3_ok i3 (op3 mod_ok (op3 fdiv_ok (n3 2) i3) i3)))
    (ss_cons (s_own (i := 5) S.nd rfl (by first | exact Or.inl rfl | exact Or.inr rfl) (lst3_ok a_nil))
    (ss_cons (s_for PassesOwn.leaving rfl (it_range1 rfl T.n_range (a_cons (n3 4) a_nil)) (t_name (i := 6) S.nd rfl (by first | exact Or.inl rfl | exact Or.inr rfl)) (ss_cons (s_set (i := 7) S.nd rfl (by first | exact Or.inl rfl | exact Or.inr rfl) (df3 hE G_law_wide (hr.mono (by decide)) rfl passR (a_cons (df3 hE G_law_cell_at (hr.mono (by decide)) rfl passR (a_cons (n3 0) (a_cons (op3 add3_ok i3 (n3 6)) a_nil))) (a_cons (op3 add3_ok (op3 mod_ok (n3 2) i3) (op3 mul_ok i3 (n3 6))) a_nil))))
      (ss_cons (s_set (i := 8) S.nd rfl (by first | exact Or.inl rfl | exact Or.inr rfl) (op3 add3_ok i3 (op3 mod_ok (n3 7) (op3 fdiv_ok (n3 1) (n3 4)))))
      (ss_cons (s_set (i := 7) S.nd rfl (by first | exact Or.inl rfl | exact Or.inr rfl) (op3 fdiv_ok (n3 7) (op3 fdiv_ok (n3 1) (n3 4))))
      (ss_cons (s_set (i := 9) S.nd rfl (by first | exact Or.inl rfl | exact Or.inr rfl) (at3 (new3 (lst3_ok (a_cons i3 (a_cons i3 (a_cons i3 (a_cons (op3 pow_ok i3 i3) a_nil)))))) (op3 mod_ok (n3 7) i3) (fun _ _ => rfl)))
      (ss_cons (s_set (i := 7) S.nd rfl (by first | exact Or.inl rfl | exact Or.inr rfl) (op3 fdiv_ok (n3 7) i3))
      (ss_cons (s_own (i := 10) S.nd rfl (by first | exact Or.inl rfl | exact Or.inr rfl) (lst3_ok a_nil))
      (ss_cons (s_for PassesOwn.leaving rfl (it_range1 rfl T.n_range (a_cons (n3 3) a_nil)) (t_name (i := 11) S.nd rfl (by first | exact Or.inl rfl | exact Or.inr rfl)) (ss_cons (s_append (i := 10) rfl (by first | exact Or.inl rfl | exact Or.inr (Or.inl rfl) | exact Or.inr (Or.inr rfl)) (op3 mod_ok (n3 7) (n3 9)))
        (ss_one (s_set (i := 7) S.nd rfl (by first | exact Or.inl rfl | exact Or.inr rfl) (op3 fdiv_ok (n3 7) (n3 9))))))
      (ss_cons (s_if (tcmp3 (eq_ok hr.units) (callB3 (sum_ok rfl) rfl T.n_sum bo_sum (a_cons (n3 10) a_nil)) i3 (nomark _)) (ss_one (s_put (i := 10) rfl (by first | exact Or.inl rfl | exact Or.inr (Or.inl rfl) | exact Or.inr (Or.inr rfl)) (op3 mod_ok (n3 7) (n3 3)) i3)) ss_nil)
      (ss_one (s_frz [10] (s_append (i := 5) rfl (by first | exact Or.inl rfl | exact Or.inr (Or.inl rfl) | exact Or.inr (Or.inr rfl)) (tup3_ok (a_cons (n3 8) (a_cons (n3 10) a_nil)))))))))))))))
    (ss_one (s_frz [5] (s_ret (n3 5))))))))), fun ds Q h => ?_⟩
  obtain ⟨ns, m, rfl, h4, h60, q⟩ := h
  walk_at "rd"
  refine ⟨ns, rfl, by decide, fun v => ⟨by decide, divP, by decide, by omega, by omega, ?_⟩⟩
  obtain ⟨n, hn⟩ : ∃ n : Nat, 1 + v % 8 = (n : Int) := ⟨(1 + v % 8).toNat, by omega⟩
  obtain ⟨cn, hcn⟩ : ∃ n : Nat, 1 + v / 8 % 4 = (n : Int) := ⟨(1 + v / 8 % 4).toNat, by omega⟩
  have hn8 : 1 ≤ n ∧ n ≤ 8 := by omega
  have hc4 : 1 ≤ cn ∧ cn ≤ 4 := by omega
  rw [hn, hcn, Int.toNat_natCast]
  have hmul : (cn : Int) * (m / cn) ≤ m := Int.mul_ediv_self_le (by omega)
  have hper : 1 ≤ m / (cn : Int) := Int.le_ediv_of_mul_le (by omega) (by omega)
  have hper2 : m / (cn : Int) ≤ 60 := Int.le_trans (Int.ediv_le_self _ (by omega)) h60
  have dcn : CDivP m (cn : Int) := ⟨by omega, Bits.lit (x := (cn : Int)) 9000 (by omega)⟩
  generalize hp : m / (cn : Int) = per at hmul hper hper2
  have c6 : CPowB 10 6 := powB (k := 4) (by unfold Bits; decide) (by decide) (by decide)
  refine for_nums (fun k ρ => ∃ (l : List Spell) (t1 t2 t3 t4 t5 t6 : Option L3.Cl), ρ = [some (.sh false (.list (ns.map .int))), some (.sh true (.int m)), some (.sh true (.int v)), some (.sh true (.int n)), some (.sh true (.int cn)), some (.ow true (l.map dS)), t1, t2, t3, t4, t5, t6] ∧ l.length = k ∧ ∀ s ∈ l, 1 ≤ s.1 ∧ s.1 ≤ per ∧ okW s.2 ∧ s.2.length = n ∧ ∀ w ∈ s.2, w < 10 ^ 6) ?_ ?_ ⟨[], none, none, none, none, none, none, rfl, rfl, fun s h => by cases h⟩
  · rintro k ρ hk ⟨l, t1, t2, t3, t4, t5, t6, rfl, hl, hs⟩ W hW
    walk_at "rd"
    rw [hp]
    refine ⟨ns, rfl, by omega, fun v1 => ⟨by decide, (Bits.lit (x := 64) 64).mulOk (Bits.lit (x := 0 + (k : Int)) 64 (by omega)) (by decide), by omega, by omega, fun v2 => ⟨dcn, by omega, dcn, ⟨by omega, Bits.lit (x := per) 9000 (by omega)⟩, c6, by decide, ?_⟩⟩⟩
    obtain ⟨d, hd, hm, _⟩ := atI_lt (xs := [PyData.int 3, PyData.int 11, PyData.int 2, PyData.int (10 ^ Int.toNat 6)]) (i := v2 / per % 4) (by omega) (by show v2 / per % 4 < 4; omega)
    obtain ⟨sz', rfl, hs2, hs30⟩ : ∃ z, d = PyData.int z ∧ 2 ≤ z ∧ z ≤ 10 ^ 6 := by
      simp only [List.mem_cons, List.not_mem_nil, or_false] at hm
      rcases hm with rfl | rfl | rfl | rfl <;> exact ⟨_, rfl, by decide, by decide⟩
    refine ⟨_, hd, ?_⟩
    walk_at "rd"
    refine ⟨divP, by omega, by omega, ?_⟩
    have hsb : Bits 9000 sz' := Bits.lit (x := sz') 9000 (by omega)
    have hlen0 := Int.emod_nonneg v2 (show per ≠ 0 by omega)
    have hlen1 := Int.emod_lt_of_pos v2 (show 0 < per by omega)
    rw [Int.toNat_natCast]
    refine for_nums (fun j ρ => ∃ (ws : List Int) (c' : Int) (t : Option L3.Cl), ρ = [some (.sh false (.list (ns.map .int))), some (.sh true (.int m)), some (.sh true (.int v)), some (.sh true (.int n)), some (.sh true (.int cn)), some (.ow true (l.map dS)), some (.sh true (.int (0 + k))), some (.sh true (.int c')), some (.sh true (.int (1 + v2 % per))), some (.sh true (.int sz')), some (.ow true (ws.map .int)), t] ∧ ws.length = j ∧ ∀ w ∈ ws, 0 ≤ w ∧ w < 10 ^ 6) ?_ ?_ ⟨[], _, t6, rfl, rfl, fun _ h => by cases h⟩
    · rintro j ρ hj ⟨ws, c', t, rfl, hl', hw⟩ W' hW'
      walk_at "rd"
      rw [List.length_map]
      refine ⟨by omega, Nat.lt_of_lt_of_le (show _ < 1000000 by omega) (by decide), ⟨by omega, hsb⟩, hW' _ ⟨ws ++ [c' % sz'], _, _, by rw [List.map_append]; rfl, by simp [hl'], fun w hw' => ?_⟩⟩
      rcases List.mem_append.mp hw' with z | z
      · exact hw w z
      · rw [List.mem_singleton.mp z]
        have := Int.emod_nonneg c' (show sz' ≠ 0 by omega)
        have := Int.emod_lt_of_pos c' (show 0 < sz' by omega)
        exact ⟨by omega, by omega⟩
    · rintro ρ ⟨ws, c', t, rfl, hl', hw⟩
      have e6 : (10 : Int) ^ 6 ≤ 10 ^ 30 := by decide
      have fin : ∀ ws' : List Int, ws'.length = n → (∀ w ∈ ws', 0 ≤ w ∧ w < 10 ^ 6) → ws'.sum ≠ 0 → ∀ t t7, W [some (.sh false (.list (ns.map .int))), some (.sh true (.int m)), some (.sh true (.int v)), some (.sh true (.int n)), some (.sh true (.int cn)), some (.ow true (l.map dS ++ [.tuple [.int (1 + v2 % per), .list (ws'.map .int)]])), some (.sh true (.int (0 + k))), some (.sh true (.int c')), some (.sh true (.int (1 + v2 % per))), some (.sh true (.int sz')), t7, t] := fun ws' h1 h2 h3 t t7 => hW _ ⟨l ++ [(1 + v2 % per, ws')], _, _, _, _, _, _, by rw [List.map_append]; rfl, by simp [hl], fun s hs' => by
        rcases List.mem_append.mp hs' with z | z
        · exact hs s z
        · rw [List.mem_singleton.mp z]
          exact ⟨by show 1 ≤ 1 + v2 % per; omega, by show 1 + v2 % per ≤ per; omega, ⟨by show 1 ≤ ws'.length ∧ ws'.length ≤ 8; omega, fun w hw => ⟨(h2 w hw).1, by have := (h2 w hw).2; omega⟩, h3⟩, h1, fun w hw => (h2 w hw).2⟩⟩
      walk_at "rd"
      refine ⟨ws, unInts_map _, ?_⟩
      by_cases hz : ws.sum = 0
      · rw [if_pos hz]
        have m0 := Int.emod_nonneg c' (show (n : Int) ≠ 0 by omega)
        have m1 := Int.emod_lt_of_pos c' (show 0 < (n : Int) by omega)
        have hi : ixN (ws.map PyData.int).length (c' % n) = some (c' % n).toNat := by
          rw [List.length_map]
          exact ixN_lt m0 (by omega)
        have e : (ws.map PyData.int).set (c' % n).toNat (PyData.int 1) = (ws.set (c' % n).toNat 1).map PyData.int := by rw [List.map_set]
        have hw' : ∀ w ∈ ws.set (c' % n).toNat 1, 0 ≤ w ∧ w < 10 ^ 6 := fun w h => by
          rcases List.mem_or_eq_of_mem_set h with z | z
          · exact hw w z
          · subst z; exact ⟨by decide, by decide⟩
        refine ⟨by omega, _, hi, ?_⟩
        rw [e]
        exact ⟨Nat.lt_of_lt_of_le (show _ < 1000000 by rw [List.length_map]; omega) (by decide), fin _ (by rw [List.length_set]; exact hl') hw' (sum_one (fun w h => (hw' w h).1) (List.mem_set (by omega) 1)) _ _⟩
      · rw [if_neg hz]
        exact ⟨Nat.lt_of_lt_of_le (show _ < 1000000 by rw [List.length_map]; omega) (by decide), fin ws hl' hw hz _ _⟩
  · rintro ρ ⟨l, t1, t2, t3, t4, t5, t6, rfl, hl, hs⟩
    walk_at "rd"
    have hmany : ∀ s ∈ l, s.2.length = many l := fun s hs' => by
      cases l with
      | nil => cases hs'
      | cons a r => exact (hs s hs').2.2.2.1.trans (hs a List.mem_cons_self).2.2.2.1.symm
    refine q l ⟨by omega, fun s hs' => ⟨(hs s hs').1, (hs s hs').2.2.1, hmany s hs'⟩, ?_⟩ fun s hs' => (hs s hs').2.2.2.2
    have := tot_le_len (l := l) (B := per) fun s hs' => (hs s hs').2.1
    have h2 : (l.length : Int) * per ≤ cn * per := by rw [hl]; exact Int.le_refl _
    omega
theorem ok_law_spells (T : Txt c K mg) (G_law_cell_at : Df3 P w K mg base 1 "_law_cell_at" ["_law_script", "_law_k"] sp_law_cell_at) (G_law_wide : Df3 P w K mg base 2 "_law_wide" ["_law_cell", "_law_k"] sp_law_wide) : Df3 P w K mg base 3 "_law_spells" ["_law_script", "_law_most"] sp_law_spells := by
  obtain ⟨f, fd, F, hm⟩ := T.d_law_spells
  have hb := F.binds (ps := ["_law_script", "_law_most"]) fun _ _ _ _ _ _ us hl => by obtain ⟨_, _, rfl⟩ := arity2 hl; rfl
  refine ⟨fun ds Q Q' E E' hQ hE h => ?_, ⟨f, fd, fn_law_spells T G_law_cell_at G_law_wide F, hb, F.kp, hm⟩⟩
  obtain ⟨a, b, e, z, y, h⟩ := h; exact ⟨a, b, e, z, y, fun l hl hw => hQ _ _ (h l hl hw)⟩
theorem sc_law_long : FnScope ["_law_script", "_law_most", "_law_spells_here", "_law_length", "_law_weights"] ["_law_script", "_law_most"] (defScope s_law_long) := ⟨rfl, rfl, rfl, by decide +kernel, rfl, by decide +kernel, by decide +kernel⟩
set_option maxHeartbeats 4000000 in
theorem fn_law_long (T : Txt c K mg) (G_law_spells : Df3 P w K mg base 3 "_law_spells" ["_law_script", "_law_most"] sp_law_spells) (G_law_wide : Df3 P w K mg base 2 "_law_wide" ["_law_cell", "_law_k"] sp_law_wide) (G_law_cell_at : Df3 P w K mg base 1 "_law_cell_at" ["_law_script", "_law_k"] sp_law_cell_at) {f : Addr} {fd : FuncData} (F : Fun K "_law_long" "_law_long" s_law_long f fd) : FnOk P w K mg base (CXR P w) 4 f fd ["_law_script", "_law_most"] (spL K sp_law_long) := by
  have S := sc_law_long
  refine fn3 F S (fun ds Q E h => ?_) (fun cdv A outer s H E E3 hE hr => ?_)
  · obtain ⟨_, _, rfl, _⟩ := h; rfl
  refine ⟨_, (ss_cons (s_if (tcmp3 (ne_ok hr.units) (op3 mod_ok (op3 fdiv_ok (df3 hE G_law_wide (hr.mono (by decide)) rfl passR (a_cons (df3 hE G_law_cell_at (hr.mono (by decide)) rfl passR (a_cons (n3 0) (a_cons i3 a_nil))) (a_cons i3 a_nil))) i3) i3) i3 (nomark _)) (ss_one (s_ret (df3 hE G_law_spells (hr.mono (by decide)) rfl passR (a_cons (n3 0) (a_cons (n3 1) a_nil))))) ss_nil)
    (ss_cons (s_own (i := 2) S.nd rfl (by first | exact Or.inl rfl | exact Or.inr rfl) (lst3_ok a_nil))
    (ss_cons (s_for PassesOwn.leaving rfl (it_list (df3 hE G_law_spells (hr.mono (by decide)) rfl passR (a_cons (n3 0) (a_cons i3 a_nil)))) (t_tup (n := 2) rfl (ts_cons (t_name (i := 3) S.nd rfl (by first | exact Or.inl rfl | exact Or.inr rfl)) (ts_cons (t_name (i := 4) S.nd rfl (by first | exact Or.inl rfl | exact Or.inr rfl)) ts_nil))) (ss_one (s_append (i := 2) rfl (by first | exact Or.inl rfl | exact Or.inr (Or.inl rfl) | exact Or.inr (Or.inr rfl)) (tup3_ok (a_cons (n3 3) (a_cons (new3 (cat3 (new3 (lst3_ok (a_cons (op3 add3_ok (at3 (n3 4) i3 (fun _ _ => rfl)) i3) a_nil))) (new3 (slice3 (n3 4) (o_some i3) (o_some i3))))) a_nil))))))
    (ss_one (s_frz [2] (s_ret (n3 2))))))), fun ds Q h => ?_⟩
  obtain ⟨ns, m, rfl, h4, h60, q⟩ := h
  walk_at "rd"
  refine ⟨ns, rfl, by decide, fun _ => ⟨by decide, by decide, fun v => ⟨divP, by decide, ite2 (fun _ => ⟨ns, rfl, h4, h60, fun l hl _ => q l hl⟩) fun _ => ⟨ns, rfl, by decide, by decide, fun l hok hlt => ?_⟩⟩⟩⟩
  refine for_list dS l (fun done ρ => ∃ (l' : List Spell) (t u : Option L3.Cl), ρ = [some (.sh false (.list (ns.map .int))), some (.sh true (.int m)), some (.ow true (l'.map dS)), t, u] ∧ l' = done.map fun s => (s.1, (s.2.getD 0 0 + 1) :: (s.2.drop 1).take 1)) ?_ ?_ ⟨[], none, none, rfl, rfl⟩
  · rintro done s rest ρ hd ⟨l', t, u, rfl, hl'⟩ W hW
    have hs : s ∈ l := by rw [hd]; simp
    obtain ⟨hs1, hsok, hsn⟩ := hok.2.1 s hs
    have hg := atI_getD (xs := s.2) (i := 0) (by decide) (by have := hsok.1.1; omega)
    rw [show (0 : Int).toNat = 0 from rfl] at hg
    have hdl : done.length ≤ 8 := by have := hok.1.2; rw [hd, List.length_append] at this; omega
    simp (config := { maxSteps := 2000000 }) only [seq3, next3, set3, own3, ret3, ifS3, tt3, o3, u3, v3, atV, asS, asB, asD, optP, asT, asLd, asL, atO, consP, nilP, asId, asI, k3, nw3, add3, int3, int0, neg3, eq3, ne3, eqOk, eqv3, notN3, isNone, ix3, ixD, cons3, nil3, call3, cb3, len3, lenD, abs3, max23, min23, sum3, max3, and3, or3, not3, andV3, ch3, tup3, lst3, listN, catN, slL3, no3, part3, isi3', L2.isD, drop3, asg3, gn3, gtup3, gcons3, gnil3, app3, put3, frzS, frz, frz1, for3, itL, itT, itZ, rg1, rg2, comp3, true3, cst3, raise3, start3, shs, Cl.d, Cl.dat, Cl.f, allIn, scal3, Option.map_some, Option.map_none, Option.isSome_some, Option.isSome_none, Option.join_some, Option.join_none, List.all_cons, List.all_nil, Bool.and_true, Bool.true_and, Bool.and_self, Bool.or_false, Bool.false_or, Bool.or_true, Bool.true_or, List.map_cons, List.map_nil, List.length_cons, List.length_nil, Nat.reduceAdd, Nat.reduceSub, Nat.sub_self, List.replicate, List.cons_append, List.nil_append, List.append_nil, List.getElem?_cons_zero, List.getElem?_cons_succ, List.set_cons_zero, List.set_cons_succ, Option.some.injEq, Cl.sh.injEq, Cl.ow.injEq, PyData.int.injEq, PyData.bool.injEq, PyData.str.injEq, PyData.list.injEq, PyData.tuple.injEq, List.cons.injEq, reduceCtorEq, and_assoc, and_true, true_and, and_self, exists_eq_left, exists_eq_left', exists_eq', exists_eq_right, exists_eq_right', exists_and_left, exists_const, exists_false, false_and, and_false, or_false, false_or, or_true, true_or, decide_true, decide_false, decide_eq_true_eq, Bool.not_true, Bool.not_false, Bool.false_eq_true, Bool.true_eq_false, if_true, if_false, ite_true, ite_false, Bool.not_eq_true', decide_eq_false_iff_not, eq_self_iff_true, not_true_eq_false, not_false_eq_true, sz0, sz1, sz2, sz4, sz5, par3, thawN, aug3, augput3, idx3, ext3, itE, tree3, put2, app2, ix2, Cl.tr.injEq, sp_law_cell_at, sp_law_mixed, sp_law_wide, sp_law_spells, sp_law_long, sp_law_quotas, sp_law_row, sp_law_apart, sp_law_ratio, sp_law_bounds, sp_law_due, sp_check_weights, sp_all_turns, sp_check_spells, sp_common_divisor, sp_divisor_of_all, sp_least_bottom, sp_shares_over, sp_quotas, sp_first_turn, sp_window_of, sp_windows_of_clan, sp_windows_within, sp_less, sp_check_bounds, sp_room_at_most, sp_rooms_of, sp_windows, sp_check_row, sp_leads, sp_keeps, sp_law_near, sp_law_in_windows, sp_law, dSs, dS, dI, scal3, dQ, dP, dPs, dRoom, dW, dM, hg]
    have hcut : cut (s.2.map PyData.int) (some 1) (some 2) = ((s.2.drop 1).take 1).map PyData.int := by
      rw [cut_map]
      congr 1
      have hl1 := hsok.1.1
      unfold cut
      have e1 : HT.sIx s.2.length 0 (some 1) = 1 := by
        have := HT.sIx_nat s.2.length 0 1
        rw [show ((1 : Nat) : Int) = 1 from rfl] at this
        rw [this]; omega
      have e2 : HT.sIx s.2.length s.2.length (some 2) = min 2 s.2.length := by
        have := HT.sIx_nat s.2.length s.2.length 2
        rw [show ((2 : Nat) : Int) = 2 from rfl] at this
        rw [this]
      rw [e1, e2]
      by_cases h2 : 2 ≤ s.2.length
      · rw [Nat.min_eq_left h2]
      · have e3 : s.2.length = 1 := by omega
        rw [e3]
        have : s.2.drop 1 = [] := List.drop_eq_nil_of_le (by omega)
        rw [this]; rfl
    rw [hcut]
    refine ⟨sz (by rw [List.length_map, List.length_take]; omega), Nat.lt_of_lt_of_le (show _ < 1000 by rw [List.length_map, hl', List.length_map]; omega) (by decide), hW _ ⟨l' ++ [(s.1, (s.2.getD 0 0 + 1) :: (s.2.drop 1).take 1)], _, _, by rw [List.map_append]; rfl, by rw [hl', List.map_append]; rfl⟩⟩
  · rintro ρ ⟨l', t, u, rfl, hl'⟩
    walk_at "rd"
    refine q l' ?_
    have hm : ∀ s ∈ l, ((s.2.getD 0 0 + 1) :: (s.2.drop 1).take 1).length = 1 + min 1 (many l - 1) := fun s hs => by
      have := (hok.2.1 s hs).2.2
      rw [List.length_cons, List.length_take, List.length_drop, this]; omega
    have hmany : many l' = 1 + min 1 (many l - 1) := by
      cases l with
      | nil => have := hok.1.1; simp at this
      | cons a r => rw [hl']; exact hm a List.mem_cons_self
    have hmk := many_ok hok
    refine ⟨by rw [hl', List.length_map]; exact hok.1, fun s hs => ?_, ?_⟩
    · rw [hl'] at hs
      obtain ⟨s0, hs0, rfl⟩ := List.mem_map.mp hs
      obtain ⟨a1, a2, a3⟩ := hok.2.1 s0 hs0
      have hmem : s0.2.getD 0 0 ∈ s0.2 := by
        rw [List.getD_eq_getElem?_getD, List.getElem?_eq_getElem (by have := a2.1.1; omega)]; exact List.getElem_mem _
      have h0 := a2.2.1 _ hmem
      refine ⟨a1, ⟨by rw [hm s0 hs0]; omega, fun w hw => ?_, ?_⟩, by rw [hmany]; exact hm s0 hs0⟩
      · rcases List.mem_cons.mp hw with z | z
        · subst z
          have h6 := hlt s0 hs0 _ hmem
          omega
        · exact a2.2.1 w (List.mem_of_mem_drop (List.mem_of_mem_take z))
      · rw [List.sum_cons]
        have := sum_nn (ws := (s0.2.drop 1).take 1) fun w hw => (a2.2.1 w (List.mem_of_mem_drop (List.mem_of_mem_take hw))).1
        omega
    · have : tot l' = tot l := by
        unfold tot; rw [hl', List.map_map]; rfl
      rw [this]; exact hok.2.2
theorem ok_law_long (T : Txt c K mg) (G_law_spells : Df3 P w K mg base 3 "_law_spells" ["_law_script", "_law_most"] sp_law_spells) (G_law_wide : Df3 P w K mg base 2 "_law_wide" ["_law_cell", "_law_k"] sp_law_wide) (G_law_cell_at : Df3 P w K mg base 1 "_law_cell_at" ["_law_script", "_law_k"] sp_law_cell_at) : Df3 P w K mg base 4 "_law_long" ["_law_script", "_law_most"] sp_law_long := by
  obtain ⟨f, fd, F, hm⟩ := T.d_law_long
  have hb := F.binds (ps := ["_law_script", "_law_most"]) fun _ _ _ _ _ _ us hl => by obtain ⟨_, _, rfl⟩ := arity2 hl; rfl
  refine ⟨fun ds Q Q' E E' hQ hE h => ?_, ⟨f, fd, fn_law_long T G_law_spells G_law_wide G_law_cell_at F, hb, F.kp, hm⟩⟩
  obtain ⟨a, b, e, z, y, h⟩ := h; exact ⟨a, b, e, z, y, fun l hl => hQ _ _ (h l hl)⟩
theorem sc_law_quotas : FnScope ["_law_spells_here", "_law_bottom", "_law_length", "_law_weights", "_law_rows", "_law_turn", "_law_row_here", "_law_k", "_law_share"] ["_law_spells_here"] (defScope s_law_quotas) := ⟨rfl, rfl, rfl, by decide +kernel, rfl, by decide +kernel, by decide +kernel⟩
set_option maxHeartbeats 4000000 in
theorem fn_law_quotas (T : Txt c K mg)  {f : Addr} {fd : FuncData} (F : Fun K "_law_quotas" "_law_quotas" s_law_quotas f fd) : FnOk P w K mg base (CXR P w) 1 f fd ["_law_spells_here"] (spL K sp_law_quotas) := by
  have S := sc_law_quotas
  refine fn3 F S (fun ds Q E h => ?_) (fun cdv A outer s H E E3 hE hr => ?_)
  · obtain ⟨_, rfl, _⟩ := h; rfl
  refine ⟨_, (ss_cons (s_set (i := 1) S.nd rfl (by first | exact Or.inl rfl | exact Or.inr rfl) i3)
    (ss_cons (s_for PassesOwn.leaving rfl (it_list (n3 0)) (t_tup (n := 2) rfl (ts_cons (t_name (i := 2) S.nd rfl (by first | exact Or.inl rfl | exact Or.inr rfl)) (ts_cons (t_name (i := 3) S.nd rfl (by first | exact Or.inl rfl | exact Or.inr rfl)) ts_nil))) (ss_one (s_set (i := 1) S.nd rfl (by first | exact Or.inl rfl | exact Or.inr rfl) (op3 mul_ok (n3 1) (callB3 (sum_ok rfl) rfl T.n_sum bo_sum (a_cons (n3 3) a_nil))))))
    (ss_cons (s_own (i := 4) S.nd rfl (by first | exact Or.inl rfl | exact Or.inr rfl) (lst3_ok (a_cons (new3 (comp_ok ["_law_weight"] [] [] rfl (compSc (osc := defScope s_law_quotas) (by decide +kernel)) rfl (it_list (at3 (at3 (n3 0) i3 (fun _ _ => rfl)) i3 (fun _ _ => rfl))) (fun H0 s H fp cl => ⟨(t_name (i := 0) (show ((["_law_weight"] : List PySem.Str) ++ ([] : List PySem.Str)).Nodup by decide) rfl (by first | exact Or.inl rfl | exact Or.inr rfl)), pt_nil, i3⟩))) a_nil)))
    (ss_cons (s_for PassesOwn.leaving rfl (it_list (n3 0)) (t_tup (n := 2) rfl (ts_cons (t_name (i := 2) S.nd rfl (by first | exact Or.inl rfl | exact Or.inr rfl)) (ts_cons (t_name (i := 3) S.nd rfl (by first | exact Or.inl rfl | exact Or.inr rfl)) ts_nil))) (ss_one (s_for PassesOwn.leaving rfl (it_range1 rfl T.n_range (a_cons (n3 2) a_nil)) (t_name (i := 5) S.nd rfl (by first | exact Or.inl rfl | exact Or.inr rfl)) (ss_cons (s_own (i := 6) S.nd rfl (by first | exact Or.inl rfl | exact Or.inr rfl) (lst3_ok a_nil))
        (ss_cons (s_for PassesOwn.leaving rfl (it_range1 rfl T.n_range (a_cons (callB3 len_ok rfl T.n_len bo_len (a_cons (n3 3) a_nil)) a_nil)) (t_name (i := 7) S.nd rfl (by first | exact Or.inl rfl | exact Or.inr rfl)) (ss_cons (s_set (i := 8) S.nd rfl (by first | exact Or.inl rfl | exact Or.inr rfl) (op3 mul_ok (at3 (n3 3) (n3 7) (fun _ _ => rfl)) (op3 fdiv_ok (n3 1) (callB3 (sum_ok rfl) rfl T.n_sum bo_sum (a_cons (n3 3) a_nil)))))
          (ss_one (s_append (i := 6) rfl (by first | exact Or.inl rfl | exact Or.inr (Or.inl rfl) | exact Or.inr (Or.inr rfl)) (op3 add3_ok (at3 (at3 (n3 4) (un3 neg_ok i3) (fun _ _ => rfl)) (n3 7) (fun _ _ => rfl)) (n3 8))))))
        (ss_one (s_frz [6] (s_append (i := 4) rfl (by first | exact Or.inl rfl | exact Or.inr (Or.inl rfl) | exact Or.inr (Or.inr rfl)) (n3 6)))))))))
    (ss_one (s_frz [4] (s_ret (tup3_ok (a_cons (n3 1) (a_cons (n3 4) a_nil)))))))))), fun ds Q h => ?_⟩
  obtain ⟨l, rfl, hok, q⟩ := h
  have hm := many_ok hok
  have hB := prodS_pos hok
  have hBb := prodS_bits hok
  have hl0 : l ≠ [] := fun z => by have := hok.1.1; rw [z] at this; simp at this
  have hd0 : atI (l.map dS) 0 = some (dS (l.headD (0, []))) := by
    cases l with
    | nil => exact absurd rfl hl0
    | cons a r => exact atI0
  walk_at "rd"
  refine for_list dS l (fun done ρ => ∃ t u, ρ = [some (.sh false (.list (l.map dS))), some (.sh true (.int (prodS done))), t, u, none, none, none, none, none]) ?_ ?_ ⟨none, none, rfl⟩
  · rintro done s rest ρ hd ⟨t, u, rfl⟩ W hW
    have hs : s ∈ l := by rw [hd]; simp
    have hsok := (hok.2.1 s hs).2.1
    have hpd := prodS_ok done 1 1 (fun t ht => (hok.2.1 t (by rw [hd]; exact List.mem_append_left _ ht)).2.1) (by decide) (by unfold Bits; decide)
    have hdl : done.length ≤ 8 := by have := hok.1.2; rw [hd, List.length_append] at this; omega
    walk_at "rd"
    refine ⟨s.2, unInts_map _, (hpd.2.mono (k := 900) (by omega)).mulOk (okW_bits hsok) (by decide), ?_⟩
    rw [← prodS_snoc]
    exact hW _ ⟨_, _, rfl⟩
  rintro ρ ⟨t, u, rfl⟩
  simp (config := { maxSteps := 2000000 }) only [seq3, next3, set3, own3, ret3, ifS3, tt3, o3, u3, v3, atV, asS, asB, asD, optP, asT, asLd, asL, atO, consP, nilP, asId, asI, k3, nw3, add3, int3, int0, neg3, eq3, ne3, eqOk, eqv3, notN3, isNone, ix3, ixD, cons3, nil3, call3, cb3, len3, lenD, abs3, max23, min23, sum3, max3, and3, or3, not3, andV3, ch3, tup3, lst3, listN, catN, slL3, no3, part3, isi3', L2.isD, drop3, asg3, gn3, gtup3, gcons3, gnil3, app3, put3, frzS, frz, frz1, for3, itL, itT, itZ, rg1, rg2, comp3, true3, cst3, raise3, start3, shs, Cl.d, Cl.dat, Cl.f, allIn, scal3, Option.map_some, Option.map_none, Option.isSome_some, Option.isSome_none, Option.join_some, Option.join_none, List.all_cons, List.all_nil, Bool.and_true, Bool.true_and, Bool.and_self, Bool.or_false, Bool.false_or, Bool.or_true, Bool.true_or, List.map_cons, List.map_nil, List.length_cons, List.length_nil, Nat.reduceAdd, Nat.reduceSub, Nat.sub_self, List.replicate, List.cons_append, List.nil_append, List.append_nil, List.getElem?_cons_zero, List.getElem?_cons_succ, List.set_cons_zero, List.set_cons_succ, Option.some.injEq, Cl.sh.injEq, Cl.ow.injEq, PyData.int.injEq, PyData.bool.injEq, PyData.str.injEq, PyData.list.injEq, PyData.tuple.injEq, List.cons.injEq, reduceCtorEq, and_assoc, and_true, true_and, and_self, exists_eq_left, exists_eq_left', exists_eq', exists_eq_right, exists_eq_right', exists_and_left, exists_const, exists_false, false_and, and_false, or_false, false_or, or_true, true_or, decide_true, decide_false, decide_eq_true_eq, Bool.not_true, Bool.not_false, Bool.false_eq_true, Bool.true_eq_false, if_true, if_false, ite_true, ite_false, Bool.not_eq_true', decide_eq_false_iff_not, eq_self_iff_true, not_true_eq_false, not_false_eq_true, sz0, sz1, sz2, sz4, sz5, par3, thawN, aug3, augput3, idx3, ext3, itE, tree3, put2, app2, ix2, Cl.tr.injEq, sp_law_cell_at, sp_law_mixed, sp_law_wide, sp_law_spells, sp_law_long, sp_law_quotas, sp_law_row, sp_law_apart, sp_law_ratio, sp_law_bounds, sp_law_due, sp_check_weights, sp_all_turns, sp_check_spells, sp_common_divisor, sp_divisor_of_all, sp_least_bottom, sp_shares_over, sp_quotas, sp_first_turn, sp_window_of, sp_windows_of_clan, sp_windows_within, sp_less, sp_check_bounds, sp_room_at_most, sp_rooms_of, sp_windows, sp_check_row, sp_leads, sp_keeps, sp_law_near, sp_law_in_windows, sp_law, dSs, dS, dI, scal3, dQ, dP, dPs, dRoom, dW, dM, hd0, atI1, List.length_map]
  refine ⟨sz (by have := hm.2; unfold many at this; omega), ?_⟩
  refine comp_map PyData.int (fun _ => .int 0) (fun ρ => ∃ t, ρ = [t]) (l.headD (0, [])).2 ?_ _ _ _ _ ⟨none, rfl⟩ ?_
  · rintro w hw ρ fa acc K ⟨t, rfl⟩ k
    walk_at "rd"
    exact k _ ⟨_, rfl⟩
  have hz : (l.headD (0, [])).2.map (fun _ => PyData.int 0) = (zeros l).map .int := by
    unfold zeros many
    rw [List.map_replicate, List.map_const']
  rw [List.nil_append, hz]
  have hz0 : lensP (many l) (zeros l, [zeros l]) := ⟨by unfold zeros; simp, fun r hr => by rw [List.mem_singleton.mp hr]; unfold zeros; simp⟩
  refine for_list dS l (fun done ρ => ∃ t1 t2 t3 t4 t5 t6 r, ρ = [some (.sh false (.list (l.map dS))), some (.sh true (.int (prodS l))), t1, t2, some (.ow true ((runQ (prodS l) done (zeros l, [zeros l])).2.map dI)), t3, t4, t5, t6] ∧ lensP (many l) (runQ (prodS l) done (zeros l, [zeros l])) ∧ (runQ (prodS l) done (zeros l, [zeros l])).2 = r ++ [(runQ (prodS l) done (zeros l, [zeros l])).1] ∧ ((runQ (prodS l) done (zeros l, [zeros l])).2.length : Int) = 1 + tot done) ?_ ?_ ⟨_, _, none, none, none, none, [], rfl, hz0, rfl, rfl⟩
  · rintro done s rest ρ hd ⟨t1, t2, t3, t4, t5, t6, r, rfl, hlp, hlast, hlen⟩ W hW
    have hs : s ∈ l := by rw [hd]; simp
    obtain ⟨hs1, hsok, hsn⟩ := hok.2.1 s hs
    have hsl : s.2.length = many l := hsn
    have h1t : ∀ s ∈ l, 1 ≤ s.1 := fun s hs => (hok.2.1 s hs).1
    have hdt : tot done + s.1 ≤ 60 := by
      have h60 := hok.2.2
      have e : tot l = tot done + (s.1 + tot rest) := by unfold tot; rw [hd, List.map_append, List.sum_append, List.map_cons, List.sum_cons]
      have : 0 ≤ tot rest := tot_nn fun s hs => h1t s (by rw [hd]; exact List.mem_append_right _ (List.mem_cons_of_mem _ hs))
      omega
    have hdv : s.2.sum ∣ prodS l := sum_dvd_prodS hs
    have hsp := okW_pos hsok
    generalize hp : runQ (prodS l) done (zeros l, [zeros l]) = p at hlp hlast hlen
    have er : runQ (prodS l) (done ++ [s]) (zeros l, [zeros l]) = rep (stepT (shares (prodS l) s.2)) s.1.toNat p := by
      unfold runQ at hp ⊢
      rw [List.foldl_append, hp]; rfl
    have et : tot (done ++ [s]) = tot done + s.1 := by unfold tot; rw [List.map_append, List.sum_append]; simp
    rw [er, et] at hW
    have hsx : ∀ i (hi : i < s.2.length), s.2[i] * (prodS l / s.2.sum) = (shares (prodS l) s.2).getD i 0 := fun i hi => by
      unfold shares
      rw [List.getD_eq_getElem?_getD, List.getElem?_map, List.getElem?_eq_getElem hi]
      show _ = s.2[i] * prodS l / s.2.sum
      rw [Int.mul_ediv_assoc _ hdv]
    have hshl : (shares (prodS l) s.2).length = many l := by rw [shares_len]; exact hsl
    generalize shares (prodS l) s.2 = sh at hW hsx hshl er
    walk_at "rd"
    refine ⟨by omega, by omega, ?_⟩
    refine for_nums (fun j ρ => ∃ t3 t4 t5 t6 r, ρ = [some (.sh false (.list (l.map dS))), some (.sh true (.int (prodS l))), some (.sh true (.int s.1)), some (.sh false (.list (s.2.map .int))), some (.ow true ((rep (stepT sh) j p).2.map dI)), t3, t4, t5, t6] ∧ lensP (many l) (rep (stepT sh) j p) ∧ (rep (stepT sh) j p).2 = r ++ [(rep (stepT sh) j p).1] ∧ ((rep (stepT sh) j p).2.length : Int) = 1 + tot done + j) ?_ ?_ ⟨_, _, _, _, r, rfl, hlp, hlast, by show (p.2.length : Int) = _; omega⟩
    · rintro j ρ hj ⟨y3, y4, y5, y6, r, rfl, hlp', hlast', hlen'⟩ W' hW'
      rw [rep_succ] at hW'
      generalize rep (stepT sh) j p = pj at hlp' hlast' hlen' hW'
      have hadl : (addL pj.1 sh).length = many l := by rw [addL_len (by rw [hlp'.1, hshl]), hlp'.1]
      have hla : atI (pj.2.map dI) (-1) = some (PyData.list (pj.1.map PyData.int)) := by
        rw [hlast', List.map_append, List.map_cons, List.map_nil, atI_last]; rfl
      walk_at "rd"
      rw [List.length_map, hsl]
      refine ⟨by omega, by omega, ?_⟩
      rw [Int.toNat_natCast]
      refine for_nums (fun i ρ => ∃ t5 t6, ρ = [some (.sh false (.list (l.map dS))), some (.sh true (.int (prodS l))), some (.sh true (.int s.1)), some (.sh false (.list (s.2.map .int))), some (.ow true (pj.2.map dI)), some (.sh true (.int (0 + j))), some (.ow true (((addL pj.1 sh).take i).map .int)), t5, t6]) ?_ ?_ ⟨_, _, rfl⟩
      · rintro i ρ hi ⟨v5, v6, rfl⟩ W2 hW2
        have hi1 : i < s.2.length := by rw [hsl]; exact hi
        have hi2 : i < pj.1.length := by rw [hlp'.1]; exact hi
        have hi3 : i < sh.length := by rw [hshl]; exact hi
        have hw : atI (s.2.map PyData.int) (0 + (i : Int)) = some (PyData.int s.2[i]) := atI_nat' hi1
        have hq : atI (pj.1.map PyData.int) (0 + (i : Int)) = some (PyData.int pj.1[i]) := atI_nat' hi2
        have htk : (addL pj.1 sh).take (i + 1) = (addL pj.1 sh).take i ++ [pj.1[i] + sh.getD i 0] := by
          rw [List.take_succ_eq_append_getElem (by rw [hadl]; exact hi)]
          congr 2
          unfold addL
          simp [hi3]
        rw [htk, List.map_append] at hW2
        have hbs : Bits 900 (prodS l / s.2.sum) := hBb.le (Int.natAbs_ediv_le_natAbs _ _)
        simp (config := { maxSteps := 2000000 }) only [seq3, next3, set3, own3, ret3, ifS3, tt3, o3, u3, v3, atV, asS, asB, asD, optP, asT, asLd, asL, atO, consP, nilP, asId, asI, k3, nw3, add3, int3, int0, neg3, eq3, ne3, eqOk, eqv3, notN3, isNone, ix3, ixD, cons3, nil3, call3, cb3, len3, lenD, abs3, max23, min23, sum3, max3, and3, or3, not3, andV3, ch3, tup3, lst3, listN, catN, slL3, no3, part3, isi3', L2.isD, drop3, asg3, gn3, gtup3, gcons3, gnil3, app3, put3, frzS, frz, frz1, for3, itL, itT, itZ, rg1, rg2, comp3, true3, cst3, raise3, start3, shs, Cl.d, Cl.dat, Cl.f, allIn, scal3, Option.map_some, Option.map_none, Option.isSome_some, Option.isSome_none, Option.join_some, Option.join_none, List.all_cons, List.all_nil, Bool.and_true, Bool.true_and, Bool.and_self, Bool.or_false, Bool.false_or, Bool.or_true, Bool.true_or, List.map_cons, List.map_nil, List.length_cons, List.length_nil, Nat.reduceAdd, Nat.reduceSub, Nat.sub_self, List.replicate, List.cons_append, List.nil_append, List.append_nil, List.getElem?_cons_zero, List.getElem?_cons_succ, List.set_cons_zero, List.set_cons_succ, Option.some.injEq, Cl.sh.injEq, Cl.ow.injEq, PyData.int.injEq, PyData.bool.injEq, PyData.str.injEq, PyData.list.injEq, PyData.tuple.injEq, List.cons.injEq, reduceCtorEq, and_assoc, and_true, true_and, and_self, exists_eq_left, exists_eq_left', exists_eq', exists_eq_right, exists_eq_right', exists_and_left, exists_const, exists_false, false_and, and_false, or_false, false_or, or_true, true_or, decide_true, decide_false, decide_eq_true_eq, Bool.not_true, Bool.not_false, Bool.false_eq_true, Bool.true_eq_false, if_true, if_false, ite_true, ite_false, Bool.not_eq_true', decide_eq_false_iff_not, eq_self_iff_true, not_true_eq_false, not_false_eq_true, sz0, sz1, sz2, sz4, sz5, par3, thawN, aug3, augput3, idx3, ext3, itE, tree3, put2, app2, ix2, Cl.tr.injEq, sp_law_cell_at, sp_law_mixed, sp_law_wide, sp_law_spells, sp_law_long, sp_law_quotas, sp_law_row, sp_law_apart, sp_law_ratio, sp_law_bounds, sp_law_due, sp_check_weights, sp_all_turns, sp_check_spells, sp_common_divisor, sp_divisor_of_all, sp_least_bottom, sp_shares_over, sp_quotas, sp_first_turn, sp_window_of, sp_windows_of_clan, sp_windows_within, sp_less, sp_check_bounds, sp_room_at_most, sp_rooms_of, sp_windows, sp_check_row, sp_leads, sp_keeps, sp_law_near, sp_law_in_windows, sp_law, dSs, dS, dI, scal3, dQ, dP, dPs, dRoom, dW, dM, hw, hla, hq]
        refine ⟨s.2, unInts_map _, ⟨hsp, (okW_bits hsok).mono (by decide)⟩, (w_bits hsok (List.getElem_mem hi1)).mulOk hbs (by decide), Nat.lt_of_lt_of_le (show _ < 1000000 by rw [List.length_map, List.length_take]; omega) (by decide), ?_⟩
        rw [hsx i hi1]
        exact hW2 _ ⟨_, _, rfl⟩
      · rintro ρ ⟨v5, v6, rfl⟩
        walk_at "rd"
        refine ⟨Nat.lt_of_lt_of_le (show _ < 1000000 by rw [List.length_map]; omega) (by decide), ?_⟩
        rw [List.take_of_length_le (by rw [hadl]; exact Nat.le_refl _)]
        have hl2 : lensP (many l) (stepT sh pj) := ⟨hadl, fun r hr => by
          rcases List.mem_append.mp hr with z | z
          · exact hlp'.2 r z
          · rw [List.mem_singleton.mp z]; exact hadl⟩
        exact hW' _ ⟨_, _, _, _, pj.2, by show _ = [_, _, _, _, some (Cl.ow true ((pj.2 ++ [addL pj.1 sh]).map dI)), _, _, _, _]; rw [List.map_append]; rfl, hl2, rfl, by show ((pj.2 ++ [_]).length : Int) = _; rw [List.length_append]; simp; omega⟩
    · rintro ρ ⟨y3, y4, y5, y6, r, rfl, hlp', hlast', hlen'⟩
      exact hW _ ⟨_, _, _, _, _, _, r, rfl, hlp', hlast', by omega⟩
  · rintro ρ ⟨t1, t2, t3, t4, t5, t6, r, rfl, hlp, hlast, hlen⟩
    walk_at "rd"
    exact q
theorem ok_law_quotas (T : Txt c K mg)  : Df3 P w K mg base 1 "_law_quotas" ["_law_spells_here"] sp_law_quotas := by
  obtain ⟨f, fd, F, hm⟩ := T.d_law_quotas
  have hb := F.binds (ps := ["_law_spells_here"]) fun _ _ _ _ _ _ us hl => by obtain ⟨_, rfl⟩ := arity1 hl; rfl
  refine ⟨fun ds Q Q' E E' hQ hE h => ?_, ⟨f, fd, fn_law_quotas T  F, hb, F.kp, hm⟩⟩
  obtain ⟨l, e, o, h⟩ := h; exact ⟨l, e, o, hQ _ _ h⟩
theorem sc_law_row : FnScope ["_law_bottom", "_law_rows", "_law_cell", "_law_way", "_law_clans", "_law_had", "_law_row_here", "_law_t", "_law_behind", "_law_clan"] ["_law_bottom", "_law_rows", "_law_cell"] (defScope s_law_row) := ⟨rfl, rfl, rfl, by decide +kernel, rfl, by decide +kernel, by decide +kernel⟩
set_option maxHeartbeats 4000000 in
theorem fn_law_row (T : Txt c K mg) (G_law_wide : Df3 P w K mg base 2 "_law_wide" ["_law_cell", "_law_k"] sp_law_wide) {f : Addr} {fd : FuncData} (F : Fun K "_law_row" "_law_row" s_law_row f fd) : FnOk P w K mg base (CXR P w) 3 f fd ["_law_bottom", "_law_rows", "_law_cell"] (spL K sp_law_row) := by
  have S := sc_law_row
  refine fn3 F S (fun ds Q E h => ?_) (fun cdv A outer s H E E3 hE hr => ?_)
  · obtain ⟨_, _, _, _, rfl, _⟩ := h; rfl
  refine ⟨_, (ss_cons (s_set (i := 2) S.nd rfl (by first | exact Or.inl rfl | exact Or.inr rfl) (df3 hE G_law_wide (hr.mono (by decide)) rfl passR (a_cons (n3 2) (a_cons i3 a_nil))))
    (ss_cons (s_set (i := 3) S.nd rfl (by first | exact Or.inl rfl | exact Or.inr rfl) (op3 mod_ok (n3 2) i3))
    (ss_cons (s_set (i := 2) S.nd rfl (by first | exact Or.inl rfl | exact Or.inr rfl) (op3 fdiv_ok (n3 2) i3))
    (ss_cons (s_set (i := 4) S.nd rfl (by first | exact Or.inl rfl | exact Or.inr rfl) (callB3 len_ok rfl T.n_len bo_len (a_cons (at3 (n3 1) i3 (fun _ _ => rfl)) a_nil)))
    (ss_cons (s_own (i := 5) S.nd rfl (by first | exact Or.inl rfl | exact Or.inr rfl) (comp_ok ["_law_k"] [] [] rfl (compSc (osc := defScope s_law_row) (by decide +kernel)) rfl (it_range1 rfl T.n_range (a_cons (n3 4) a_nil)) (fun H0 s H fp cl => ⟨(t_name (i := 0) (show ((["_law_k"] : List PySem.Str) ++ ([] : List PySem.Str)).Nodup by decide) rfl (by first | exact Or.inl rfl | exact Or.inr rfl)), pt_nil, i3⟩)))
    (ss_cons (s_own (i := 6) S.nd rfl (by first | exact Or.inl rfl | exact Or.inr rfl) (lst3_ok a_nil))
    (ss_cons (s_for PassesOwn.leaving rfl (it_range2 rfl T.n_range (a_cons i3 (a_cons (callB3 len_ok rfl T.n_len bo_len (a_cons (n3 1) a_nil)) a_nil))) (t_name (i := 7) S.nd rfl (by first | exact Or.inl rfl | exact Or.inr rfl)) (ss_cons (comp_set (i := 8) S.nd rfl (by first | exact Or.inl rfl | exact Or.inr rfl) ["_law_k"] ["_law_rows", "_law_t", "_law_had"] [1, 7, 5] rfl (compSc (osc := defScope s_law_row) (by decide +kernel)) rfl (it_range1 rfl T.n_range (a_cons (n3 4) a_nil)) (fun H0 s H fp cl => ⟨(t_name (i := 0) (show ((["_law_k"] : List PySem.Str) ++ (["_law_rows", "_law_t", "_law_had"] : List PySem.Str)).Nodup by decide) rfl (by first | exact Or.inl rfl | exact Or.inr rfl)), pt_nil, (op3 sub_ok (at3 (at3 (n3 1) (n3 2) (fun _ _ => rfl)) (n3 0) (fun _ _ => rfl)) (at3 (n3 3) (n3 0) (fun _ _ => rfl)))⟩))
      (ss_cons (s_set (i := 9) S.nd rfl (by first | exact Or.inl rfl | exact Or.inr rfl) (index3 (n3 8) (callB3 (max_ok rfl) rfl T.n_max bo_max (a_cons (n3 8) a_nil))))
      (ss_cons (s_if (tcmp3 (eq_ok hr.units) (n3 3) i3 (nomark _)) (ss_cons (s_set (i := 9) S.nd rfl (by first | exact Or.inl rfl | exact Or.inr rfl) (op3 mod_ok (n3 2) (n3 4)))
        (ss_one (s_set (i := 2) S.nd rfl (by first | exact Or.inl rfl | exact Or.inr rfl) (op3 fdiv_ok (n3 2) (n3 4))))) ss_nil)
      (ss_cons (s_if (tcmp3 (eq_ok hr.units) (n3 3) i3 (nomark _)) (ss_cons (s_if (tcmp3 (eq_ok hr.units) (op3 mod_ok (n3 2) i3) i3 (nomark _)) (ss_one (s_set (i := 9) S.nd rfl (by first | exact Or.inl rfl | exact Or.inr rfl) (op3 mod_ok (op3 add3_ok (n3 9) i3) (n3 4)))) ss_nil)
        (ss_one (s_set (i := 2) S.nd rfl (by first | exact Or.inl rfl | exact Or.inr rfl) (op3 fdiv_ok (n3 2) i3)))) ss_nil)
      (ss_cons (s_put (i := 5) rfl (by first | exact Or.inl rfl | exact Or.inr (Or.inl rfl) | exact Or.inr (Or.inr rfl)) (n3 9) (op3 add3_ok (at3 (n3 5) (n3 9) (fun _ _ => rfl)) (n3 0)))
      (ss_one (s_append (i := 6) rfl (by first | exact Or.inl rfl | exact Or.inr (Or.inl rfl) | exact Or.inr (Or.inr rfl)) (n3 9)))))))))
    (ss_one (s_frz [6] (s_ret (n3 6))))))))))), fun ds Q h => ?_⟩
  obtain ⟨b, rows, cc, n, rfl, h1, h8, hr1, hr61, hrn, q⟩ := h
  have hmax : ∀ i (hi : i < rows.length), rows[i].length = n := fun i hi => hrn _ (List.getElem_mem hi)
  have hd0 : atI (rows.map dI) 0 = some (PyData.list (rows[0].map PyData.int)) := atI_row (i := 0) (by omega)
  have h0n := hmax 0 (by omega)
  simp (config := { maxSteps := 2000000 }) only [seq3, next3, set3, own3, ret3, ifS3, tt3, o3, u3, v3, atV, asS, asB, asD, optP, asT, asLd, asL, atO, consP, nilP, asId, asI, k3, nw3, add3, int3, int0, neg3, eq3, ne3, eqOk, eqv3, notN3, isNone, ix3, ixD, cons3, nil3, call3, cb3, len3, lenD, abs3, max23, min23, sum3, max3, and3, or3, not3, andV3, ch3, tup3, lst3, listN, catN, slL3, no3, part3, isi3', L2.isD, drop3, asg3, gn3, gtup3, gcons3, gnil3, app3, put3, frzS, frz, frz1, for3, itL, itT, itZ, rg1, rg2, comp3, true3, cst3, raise3, start3, shs, Cl.d, Cl.dat, Cl.f, allIn, scal3, Option.map_some, Option.map_none, Option.isSome_some, Option.isSome_none, Option.join_some, Option.join_none, List.all_cons, List.all_nil, Bool.and_true, Bool.true_and, Bool.and_self, Bool.or_false, Bool.false_or, Bool.or_true, Bool.true_or, List.map_cons, List.map_nil, List.length_cons, List.length_nil, Nat.reduceAdd, Nat.reduceSub, Nat.sub_self, List.replicate, List.cons_append, List.nil_append, List.append_nil, List.getElem?_cons_zero, List.getElem?_cons_succ, List.set_cons_zero, List.set_cons_succ, Option.some.injEq, Cl.sh.injEq, Cl.ow.injEq, PyData.int.injEq, PyData.bool.injEq, PyData.str.injEq, PyData.list.injEq, PyData.tuple.injEq, List.cons.injEq, reduceCtorEq, and_assoc, and_true, true_and, and_self, exists_eq_left, exists_eq_left', exists_eq', exists_eq_right, exists_eq_right', exists_and_left, exists_const, exists_false, false_and, and_false, or_false, false_or, or_true, true_or, decide_true, decide_false, decide_eq_true_eq, Bool.not_true, Bool.not_false, Bool.false_eq_true, Bool.true_eq_false, if_true, if_false, ite_true, ite_false, Bool.not_eq_true', decide_eq_false_iff_not, eq_self_iff_true, not_true_eq_false, not_false_eq_true, sz0, sz1, sz2, sz4, sz5, par3, thawN, aug3, augput3, idx3, ext3, itE, tree3, put2, app2, ix2, Cl.tr.injEq, sp_law_cell_at, sp_law_mixed, sp_law_wide, sp_law_spells, sp_law_long, sp_law_quotas, sp_law_row, sp_law_apart, sp_law_ratio, sp_law_bounds, sp_law_due, sp_check_weights, sp_all_turns, sp_check_spells, sp_common_divisor, sp_divisor_of_all, sp_least_bottom, sp_shares_over, sp_quotas, sp_first_turn, sp_window_of, sp_windows_of_clan, sp_windows_within, sp_less, sp_check_bounds, sp_room_at_most, sp_rooms_of, sp_windows, sp_check_row, sp_leads, sp_keeps, sp_law_near, sp_law_in_windows, sp_law, dSs, dS, dI, scal3, dQ, dP, dPs, dRoom, dW, dM, hd0, List.length_map, h0n]
  refine ⟨by decide, by decide, fun v => ⟨by decide, divP, by omega, by omega, sz (by unfold nums; simp; omega), ?_⟩⟩
  rw [Int.toNat_natCast]
  unfold nums
  refine comp_map (fun i : Nat => PyData.int (0 + (i : Nat))) (fun _ => PyData.int 0) (fun ρ => ∃ t, ρ = [t]) (List.range n) ?_ _ _ _ _ ⟨none, rfl⟩ ?_
  · rintro i hi ρ fa acc K ⟨t, rfl⟩ k
    walk_at "rd"
    exact k _ ⟨_, rfl⟩
  have hz : [] ++ (List.range n).map (fun _ => PyData.int 0) = (List.replicate n (0 : Int)).map PyData.int := by
    rw [List.nil_append, List.map_const', List.length_range, List.map_replicate]
  rw [hz]
  refine ⟨by decide, by decide, by omega, by omega, ?_⟩
  have e1 : ((rows.length : Int) - 1).toNat = rows.length - 1 := by omega
  rw [e1]
  refine for_nums (lo := 1) (fun k ρ => ∃ (had row : List Int) (c' : Int) (t u w : Option L3.Cl), ρ = [some (.sh true (.int b)), some (.sh false (.list (rows.map dI))), some (.sh true (.int c')), some (.sh true (.int (v % 3))), some (.sh true (.int n)), some (.ow true (had.map PyData.int)), some (.ow true (row.map PyData.int)), t, u, w] ∧ had.length = n ∧ row.length = k ∧ ∀ c ∈ row, 0 ≤ c ∧ c < (n : Int)) ?_ ?_ ⟨_, [], _, none, none, none, rfl, by simp, rfl, fun c h => by cases h⟩
  · rintro k ρ hk ⟨had, row, c', t, u, w, rfl, hhad, hrow, hall⟩ W hW
    have hk1 : k + 1 < rows.length := by omega
    have hrk : atI (rows.map dI) (1 + (k : Int)) = some (PyData.list (rows[k + 1].map PyData.int)) := by
      rw [show (1 + (k : Int)) = ((k + 1 : Nat) : Int) by omega]; exact atI_row hk1
    have hrl := hmax (k + 1) hk1
    have dn : ∀ z : Int, CDivP z (n : Int) := fun z => ⟨by omega, Bits.lit (x := (n : Int)) 9000 (by omega)⟩
    simp only [gn3, List.set_cons_zero, List.set_cons_succ, scal3, Bool.or_true]
    refine seq_mid (fun ρ' => ∃ bh : List Int, ρ' = [some (.sh true (.int b)), some (.sh false (.list (rows.map dI))), some (.sh true (.int c')), some (.sh true (.int (v % 3))), some (.sh true (.int n)), some (.ow true (had.map PyData.int)), some (.ow true (row.map PyData.int)), some (.sh true (.int (1 + k))), some (.sh true (.list (bh.map .int))), w] ∧ bh.length = n) (fun N hN => ?_) ?_
    · walk_at "rd"
      refine ⟨by omega, by omega, sz (by unfold nums; simp; omega), ?_⟩
      rw [Int.toNat_natCast]
      unfold nums
      refine comp_map (fun i : Nat => PyData.int (0 + (i : Nat))) (fun i => PyData.int (rows[k + 1].getD i 0 - had.getD i 0)) (fun ρ => ∃ t, ρ = [t, some (.sh false (.list (rows.map dI))), some (.sh true (.int (1 + k))), some (.ow true (had.map .int))]) (List.range n) ?_ _ _ _ _ ⟨none, rfl⟩ ?_
      · rintro i hi ρ fa acc K ⟨t, rfl⟩ kk
        have hi' := List.mem_range.mp hi
        have ha := atI_getD (xs := rows[k + 1]) (i := 0 + (i : Int)) (by omega) (by omega)
        have hb := atI_getD (xs := had) (i := 0 + (i : Int)) (by omega) (by omega)
        rw [show (0 + (i : Int)).toNat = i by omega] at ha hb
        simp (config := { maxSteps := 2000000 }) only [seq3, next3, set3, own3, ret3, ifS3, tt3, o3, u3, v3, atV, asS, asB, asD, optP, asT, asLd, asL, atO, consP, nilP, asId, asI, k3, nw3, add3, int3, int0, neg3, eq3, ne3, eqOk, eqv3, notN3, isNone, ix3, ixD, cons3, nil3, call3, cb3, len3, lenD, abs3, max23, min23, sum3, max3, and3, or3, not3, andV3, ch3, tup3, lst3, listN, catN, slL3, no3, part3, isi3', L2.isD, drop3, asg3, gn3, gtup3, gcons3, gnil3, app3, put3, frzS, frz, frz1, for3, itL, itT, itZ, rg1, rg2, comp3, true3, cst3, raise3, start3, shs, Cl.d, Cl.dat, Cl.f, allIn, scal3, Option.map_some, Option.map_none, Option.isSome_some, Option.isSome_none, Option.join_some, Option.join_none, List.all_cons, List.all_nil, Bool.and_true, Bool.true_and, Bool.and_self, Bool.or_false, Bool.false_or, Bool.or_true, Bool.true_or, List.map_cons, List.map_nil, List.length_cons, List.length_nil, Nat.reduceAdd, Nat.reduceSub, Nat.sub_self, List.replicate, List.cons_append, List.nil_append, List.append_nil, List.getElem?_cons_zero, List.getElem?_cons_succ, List.set_cons_zero, List.set_cons_succ, Option.some.injEq, Cl.sh.injEq, Cl.ow.injEq, PyData.int.injEq, PyData.bool.injEq, PyData.str.injEq, PyData.list.injEq, PyData.tuple.injEq, List.cons.injEq, reduceCtorEq, and_assoc, and_true, true_and, and_self, exists_eq_left, exists_eq_left', exists_eq', exists_eq_right, exists_eq_right', exists_and_left, exists_const, exists_false, false_and, and_false, or_false, false_or, or_true, true_or, decide_true, decide_false, decide_eq_true_eq, Bool.not_true, Bool.not_false, Bool.false_eq_true, Bool.true_eq_false, if_true, if_false, ite_true, ite_false, Bool.not_eq_true', decide_eq_false_iff_not, eq_self_iff_true, not_true_eq_false, not_false_eq_true, sz0, sz1, sz2, sz4, sz5, par3, thawN, aug3, augput3, idx3, ext3, itE, tree3, put2, app2, ix2, Cl.tr.injEq, sp_law_cell_at, sp_law_mixed, sp_law_wide, sp_law_spells, sp_law_long, sp_law_quotas, sp_law_row, sp_law_apart, sp_law_ratio, sp_law_bounds, sp_law_due, sp_check_weights, sp_all_turns, sp_check_spells, sp_common_divisor, sp_divisor_of_all, sp_least_bottom, sp_shares_over, sp_quotas, sp_first_turn, sp_window_of, sp_windows_of_clan, sp_windows_within, sp_less, sp_check_bounds, sp_room_at_most, sp_rooms_of, sp_windows, sp_check_row, sp_leads, sp_keeps, sp_law_near, sp_law_in_windows, sp_law, dSs, dS, dI, scal3, dQ, dP, dPs, dRoom, dW, dM, hrk, ha, hb]
        exact kk _ ⟨_, rfl⟩
      · refine hN _ ⟨(List.range n).map fun i => rows[k + 1].getD i 0 - had.getD i 0, ?_, by simp⟩
        rw [List.nil_append, List.map_map]; rfl
    rintro ρ ⟨bh, rfl, hbh⟩
    have hbne : bh ≠ [] := fun z => by rw [z] at hbh; simp at hbh; omega
    refine seq_mid (fun ρ' => ∃ cl : Int, ρ' = [some (.sh true (.int b)), some (.sh false (.list (rows.map dI))), some (.sh true (.int c')), some (.sh true (.int (v % 3))), some (.sh true (.int n)), some (.ow true (had.map PyData.int)), some (.ow true (row.map PyData.int)), some (.sh true (.int (1 + k))), some (.sh true (.list (bh.map .int))), some (.sh true (.int cl))] ∧ 0 ≤ cl ∧ cl < n) (fun N hN => ?_) ?_
    · walk_at "rd"
      refine ⟨bh, unInts_map _, bh, unInts_map _, hbne, maxL_mem hbne, hN _ ⟨_, rfl, by omega, ?_⟩⟩
      have := List.idxOf_lt_length_iff.mpr (maxL_mem hbne)
      omega
    rintro ρ ⟨cl, rfl, hcl⟩
    refine seq_mid (fun ρ' => ∃ c2 cl : Int, ρ' = [some (.sh true (.int b)), some (.sh false (.list (rows.map dI))), some (.sh true (.int c2)), some (.sh true (.int (v % 3))), some (.sh true (.int n)), some (.ow true (had.map PyData.int)), some (.ow true (row.map PyData.int)), some (.sh true (.int (1 + k))), some (.sh true (.list (bh.map .int))), some (.sh true (.int cl))] ∧ 0 ≤ cl ∧ cl < n) (fun N hN => ?_) ?_
    · walk_at "rd"
      refine ite2 (fun _ => ⟨by omega, dn _, hN _ ⟨_, _, rfl, Int.emod_nonneg _ (by omega), Int.emod_lt_of_pos _ (by omega)⟩⟩) fun _ => hN _ ⟨_, _, rfl, hcl⟩
    clear hcl
    rintro ρ ⟨c2, cl, rfl, hcl⟩
    refine seq_mid (fun ρ' => ∃ c2 cl : Int, ρ' = [some (.sh true (.int b)), some (.sh false (.list (rows.map dI))), some (.sh true (.int c2)), some (.sh true (.int (v % 3))), some (.sh true (.int n)), some (.ow true (had.map PyData.int)), some (.ow true (row.map PyData.int)), some (.sh true (.int (1 + k))), some (.sh true (.list (bh.map .int))), some (.sh true (.int cl))] ∧ 0 ≤ cl ∧ cl < n) (fun N hN => ?_) ?_
    · walk_at "rd"
      refine ite2 (fun _ => ⟨by decide, ite2 (fun _ => ⟨by omega, divP, hN _ ⟨_, _, rfl, Int.emod_nonneg _ (by omega), Int.emod_lt_of_pos _ (by omega)⟩⟩) fun _ => ⟨divP, hN _ ⟨_, _, rfl, hcl⟩⟩⟩) fun _ => hN _ ⟨_, _, rfl, hcl⟩
    clear hcl
    rintro ρ ⟨c2, cl, rfl, hcl⟩
    have hg := atI_getD (xs := had) (i := cl) hcl.1 (by omega)
    have hix : ixN (had.map PyData.int).length cl = some cl.toNat := by rw [List.length_map]; exact ixN_lt hcl.1 (by omega)
    simp (config := { maxSteps := 2000000 }) only [seq3, next3, set3, own3, ret3, ifS3, tt3, o3, u3, v3, atV, asS, asB, asD, optP, asT, asLd, asL, atO, consP, nilP, asId, asI, k3, nw3, add3, int3, int0, neg3, eq3, ne3, eqOk, eqv3, notN3, isNone, ix3, ixD, cons3, nil3, call3, cb3, len3, lenD, abs3, max23, min23, sum3, max3, and3, or3, not3, andV3, ch3, tup3, lst3, listN, catN, slL3, no3, part3, isi3', L2.isD, drop3, asg3, gn3, gtup3, gcons3, gnil3, app3, put3, frzS, frz, frz1, for3, itL, itT, itZ, rg1, rg2, comp3, true3, cst3, raise3, start3, shs, Cl.d, Cl.dat, Cl.f, allIn, scal3, Option.map_some, Option.map_none, Option.isSome_some, Option.isSome_none, Option.join_some, Option.join_none, List.all_cons, List.all_nil, Bool.and_true, Bool.true_and, Bool.and_self, Bool.or_false, Bool.false_or, Bool.or_true, Bool.true_or, List.map_cons, List.map_nil, List.length_cons, List.length_nil, Nat.reduceAdd, Nat.reduceSub, Nat.sub_self, List.replicate, List.cons_append, List.nil_append, List.append_nil, List.getElem?_cons_zero, List.getElem?_cons_succ, List.set_cons_zero, List.set_cons_succ, Option.some.injEq, Cl.sh.injEq, Cl.ow.injEq, PyData.int.injEq, PyData.bool.injEq, PyData.str.injEq, PyData.list.injEq, PyData.tuple.injEq, List.cons.injEq, reduceCtorEq, and_assoc, and_true, true_and, and_self, exists_eq_left, exists_eq_left', exists_eq', exists_eq_right, exists_eq_right', exists_and_left, exists_const, exists_false, false_and, and_false, or_false, false_or, or_true, true_or, decide_true, decide_false, decide_eq_true_eq, Bool.not_true, Bool.not_false, Bool.false_eq_true, Bool.true_eq_false, if_true, if_false, ite_true, ite_false, Bool.not_eq_true', decide_eq_false_iff_not, eq_self_iff_true, not_true_eq_false, not_false_eq_true, sz0, sz1, sz2, sz4, sz5, par3, thawN, aug3, augput3, idx3, ext3, itE, tree3, put2, app2, ix2, Cl.tr.injEq, sp_law_cell_at, sp_law_mixed, sp_law_wide, sp_law_spells, sp_law_long, sp_law_quotas, sp_law_row, sp_law_apart, sp_law_ratio, sp_law_bounds, sp_law_due, sp_check_weights, sp_all_turns, sp_check_spells, sp_common_divisor, sp_divisor_of_all, sp_least_bottom, sp_shares_over, sp_quotas, sp_first_turn, sp_window_of, sp_windows_of_clan, sp_windows_within, sp_less, sp_check_bounds, sp_room_at_most, sp_rooms_of, sp_windows, sp_check_row, sp_leads, sp_keeps, sp_law_near, sp_law_in_windows, sp_law, dSs, dS, dI, scal3, dQ, dP, dPs, dRoom, dW, dM, hg, hix]
    refine ⟨Nat.lt_of_lt_of_le (show _ < 1000000 by rw [List.length_map]; omega) (by decide), hW _ ⟨had.set cl.toNat (had.getD cl.toNat 0 + b), row ++ [cl], _, _, _, _, by rw [List.map_set, List.map_append]; rfl, by rw [List.length_set]; exact hhad, by simp [hrow], fun x hx => ?_⟩⟩
    rcases List.mem_append.mp hx with z | z
    · exact hall x z
    · rw [List.mem_singleton.mp z]; exact hcl
  · rintro ρ ⟨had, row, c', t, u, w, rfl, hhad, hrow, hall⟩
    walk_at "rd"
    exact q row (by omega) hall
theorem ok_law_row (T : Txt c K mg) (G_law_wide : Df3 P w K mg base 2 "_law_wide" ["_law_cell", "_law_k"] sp_law_wide) : Df3 P w K mg base 3 "_law_row" ["_law_bottom", "_law_rows", "_law_cell"] sp_law_row := by
  obtain ⟨f, fd, F, hm⟩ := T.d_law_row
  have hb := F.binds (ps := ["_law_bottom", "_law_rows", "_law_cell"]) fun _ _ _ _ _ _ us hl => by obtain ⟨_, _, _, rfl⟩ := arity3 hl; rfl
  refine ⟨fun ds Q Q' E E' hQ hE h => ?_, ⟨f, fd, fn_law_row T G_law_wide F, hb, F.kp, hm⟩⟩
  obtain ⟨a, b, cc, n, e, x1, x2, x3, x4, x5, h⟩ := h; exact ⟨a, b, cc, n, e, x1, x2, x3, x4, x5, fun r y z => hQ _ _ (h r y z)⟩
theorem sc_law_apart : FnScope ["_law_bottom", "_law_rows", "_law_row_here", "_law_clans", "_law_had", "_law_most", "_law_t", "_law_k"] ["_law_bottom", "_law_rows", "_law_row_here"] (defScope s_law_apart) := ⟨rfl, rfl, rfl, by decide +kernel, rfl, by decide +kernel, by decide +kernel⟩
set_option maxHeartbeats 4000000 in
theorem fn_law_apart (T : Txt c K mg)  {f : Addr} {fd : FuncData} (F : Fun K "_law_apart" "_law_apart" s_law_apart f fd) : FnOk P w K mg base (CXR P w) 1 f fd ["_law_bottom", "_law_rows", "_law_row_here"] (spL K sp_law_apart) := by
  have S := sc_law_apart
  refine fn3 F S (fun ds Q E h => ?_) (fun cdv A outer s H E E3 hE hr => ?_)
  · obtain ⟨_, _, _, _, rfl, _⟩ := h; rfl
  refine ⟨_, (ss_cons (s_set (i := 3) S.nd rfl (by first | exact Or.inl rfl | exact Or.inr rfl) (callB3 len_ok rfl T.n_len bo_len (a_cons (at3 (n3 1) i3 (fun _ _ => rfl)) a_nil)))
    (ss_cons (comp_own (i := 4) S.nd rfl (by first | exact Or.inl rfl | exact Or.inr rfl) ["_law_k"] [] [] rfl (compSc (osc := defScope s_law_apart) (by decide +kernel)) rfl (it_range1 rfl T.n_range (a_cons (n3 3) a_nil)) (fun H0 s H fp cl => ⟨(t_name (i := 0) (show ((["_law_k"] : List PySem.Str) ++ ([] : List PySem.Str)).Nodup by decide) rfl (by first | exact Or.inl rfl | exact Or.inr rfl)), pt_nil, i3⟩))
    (ss_cons (comp_tree (i := 5) S.nd rfl (by first | exact Or.inl rfl | exact Or.inr rfl) ["_law_k"] [] [] rfl (compSc (osc := defScope s_law_apart) (by decide +kernel)) rfl rfl T.n_range (a_cons (n3 3) a_nil) (fun s H fp cl => ⟨pg_name (i := 0) (show ((["_law_k"] : List PySem.Str) ++ ([] : List PySem.Str)).Nodup by decide) rfl (by first | exact Or.inl rfl | exact Or.inr rfl) (by first | exact .inl rfl | exact .inr rfl), pe_lst (pa_cons pe_int (pa_cons pe_int pa_nil))⟩) (fun σ H Q h => ⟨show 2 ≤ sizeLine by decide, h⟩) (fun G => (RdVs.cons (RdV.int 0) (RdVs.cons (RdV.int 0) RdVs.nil))) rfl)
    (ss_cons (s_for PassesOwn.leaving rfl (it_range2 rfl T.n_range (a_cons i3 (a_cons (callB3 len_ok rfl T.n_len bo_len (a_cons (n3 1) a_nil)) a_nil))) (t_name (i := 6) S.nd rfl (by first | exact Or.inl rfl | exact Or.inr rfl)) (ss_cons (s_put (i := 4) rfl (by first | exact Or.inl rfl | exact Or.inr (Or.inl rfl) | exact Or.inr (Or.inr rfl)) (at3 (n3 2) (op3 sub_ok (n3 6) i3) (fun _ _ => rfl)) (op3 add3_ok (at3 (n3 4) (at3 (n3 2) (op3 sub_ok (n3 6) i3) (fun _ _ => rfl)) (fun _ _ => rfl)) (n3 0)))
      (ss_one (s_for PassesOwn.leaving rfl (it_range1 rfl T.n_range (a_cons (n3 3) a_nil)) (t_name (i := 7) S.nd rfl (by first | exact Or.inl rfl | exact Or.inr rfl)) (ss_cons (s_put2 (i := 5) rfl (by first | exact Or.inl rfl | exact Or.inr (Or.inl rfl) | exact Or.inr (Or.inr rfl)) (n3 7) i3 (callB3 (max2_ok rfl) rfl T.n_max bo_max (a_cons (at2 (i := 5) rfl (by first | exact Or.inl rfl | exact Or.inr (Or.inl rfl) | exact Or.inr (Or.inr rfl)) (n3 7) i3 (fun _ _ => rfl) (fun _ _ => rfl)) (a_cons (op3 sub_ok (at3 (at3 (n3 1) (n3 6) (fun _ _ => rfl)) (n3 7) (fun _ _ => rfl)) (at3 (n3 4) (n3 7) (fun _ _ => rfl))) a_nil))) (fun _ _ => rfl))
        (ss_one (s_put2 (i := 5) rfl (by first | exact Or.inl rfl | exact Or.inr (Or.inl rfl) | exact Or.inr (Or.inr rfl)) (n3 7) i3 (callB3 (max2_ok rfl) rfl T.n_max bo_max (a_cons (at2 (i := 5) rfl (by first | exact Or.inl rfl | exact Or.inr (Or.inl rfl) | exact Or.inr (Or.inr rfl)) (n3 7) i3 (fun _ _ => rfl) (fun _ _ => rfl)) (a_cons (op3 sub_ok (at3 (n3 4) (n3 7) (fun _ _ => rfl)) (at3 (at3 (n3 1) (n3 6) (fun _ _ => rfl)) (n3 7) (fun _ _ => rfl))) a_nil))) (fun _ _ => rfl))))))))
    (ss_one (s_frz [5] (s_ret (n3 5)))))))), fun ds Q h => ?_⟩
  obtain ⟨b, rows, row, n, rfl, h1, h8, hr1, hr61, hrn, hc, q⟩ := h
  have hmax : ∀ i (hi : i < rows.length), rows[i].length = n := fun i hi => hrn _ (List.getElem_mem hi)
  have hd0 : atI (rows.map dI) 0 = some (PyData.list (rows[0].map PyData.int)) := atI_row (i := 0) (by omega)
  have h0n := hmax 0 (by omega)
  refine seq_step fun N hN => ?_
  simp (config := { maxSteps := 2000000 }) only [seq3, next3, set3, own3, ret3, ifS3, tt3, o3, u3, v3, atV, asS, asB, asD, optP, asT, asLd, asL, atO, consP, nilP, asId, asI, k3, nw3, add3, int3, int0, neg3, eq3, ne3, eqOk, eqv3, notN3, isNone, ix3, ixD, cons3, nil3, call3, cb3, len3, lenD, abs3, max23, min23, sum3, max3, and3, or3, not3, andV3, ch3, tup3, lst3, listN, catN, slL3, no3, part3, isi3', L2.isD, drop3, asg3, gn3, gtup3, gcons3, gnil3, app3, put3, frzS, frz, frz1, for3, itL, itT, itZ, rg1, rg2, comp3, true3, cst3, raise3, start3, shs, Cl.d, Cl.dat, Cl.f, allIn, scal3, Option.map_some, Option.map_none, Option.isSome_some, Option.isSome_none, Option.join_some, Option.join_none, List.all_cons, List.all_nil, Bool.and_true, Bool.true_and, Bool.and_self, Bool.or_false, Bool.false_or, Bool.or_true, Bool.true_or, List.map_cons, List.map_nil, List.length_cons, List.length_nil, Nat.reduceAdd, Nat.reduceSub, Nat.sub_self, List.replicate, List.cons_append, List.nil_append, List.append_nil, List.getElem?_cons_zero, List.getElem?_cons_succ, List.set_cons_zero, List.set_cons_succ, Option.some.injEq, Cl.sh.injEq, Cl.ow.injEq, PyData.int.injEq, PyData.bool.injEq, PyData.str.injEq, PyData.list.injEq, PyData.tuple.injEq, List.cons.injEq, reduceCtorEq, and_assoc, and_true, true_and, and_self, exists_eq_left, exists_eq_left', exists_eq', exists_eq_right, exists_eq_right', exists_and_left, exists_const, exists_false, false_and, and_false, or_false, false_or, or_true, true_or, decide_true, decide_false, decide_eq_true_eq, Bool.not_true, Bool.not_false, Bool.false_eq_true, Bool.true_eq_false, if_true, if_false, ite_true, ite_false, Bool.not_eq_true', decide_eq_false_iff_not, eq_self_iff_true, not_true_eq_false, not_false_eq_true, sz0, sz1, sz2, sz4, sz5, par3, thawN, aug3, augput3, idx3, ext3, itE, tree3, put2, app2, ix2, Cl.tr.injEq, sp_law_cell_at, sp_law_mixed, sp_law_wide, sp_law_spells, sp_law_long, sp_law_quotas, sp_law_row, sp_law_apart, sp_law_ratio, sp_law_bounds, sp_law_due, sp_check_weights, sp_all_turns, sp_check_spells, sp_common_divisor, sp_divisor_of_all, sp_least_bottom, sp_shares_over, sp_quotas, sp_first_turn, sp_window_of, sp_windows_of_clan, sp_windows_within, sp_less, sp_check_bounds, sp_room_at_most, sp_rooms_of, sp_windows, sp_check_row, sp_leads, sp_keeps, sp_law_near, sp_law_in_windows, sp_law, dSs, dS, dI, scal3, dQ, dP, dPs, dRoom, dW, dM, hd0, List.length_map, h0n]
  refine hN _ ?_
  clear hN N
  refine seq_step fun N hN => ?_
  walk_at "rd"
  refine ⟨by omega, by omega, sz (by unfold nums; simp; omega), ?_⟩
  rw [Int.toNat_natCast]
  unfold nums
  refine comp_map (fun i : Nat => PyData.int (0 + (i : Nat))) (fun _ => PyData.int 0) (fun ρ => ∃ t, ρ = [t]) (List.range n) ?_ _ _ _ _ ⟨none, rfl⟩ ?_
  · rintro i hi ρ fa acc K ⟨t, rfl⟩ k
    walk_at "rd"
    exact k _ ⟨_, rfl⟩
  have hz : [] ++ (List.range n).map (fun _ => PyData.int 0) = (hadN b n []).map PyData.int := by
    unfold hadN; rw [List.nil_append, List.foldl_nil, List.map_replicate, List.map_const', List.length_range]
  rw [hz]
  refine hN _ ?_
  clear hN N
  refine seq_step fun N hN => ?_
  walk_at "rd"
  refine ⟨n, rfl, by omega, fun ps hps => hN _ ?_⟩
  clear hN N
  have hm0 : List.replicate n [PyData.int 0, PyData.int 0] = (List.range n).map fun k => pr2 (mx (ldF b n rows row) k 0) := by
    show _ = (List.range n).map fun k => [PyData.int 0, PyData.int 0]
    rw [List.map_const', List.length_range]
  rw [hm0]
  have e1 : ((rows.length : Int) - 1).toNat = row.length := by omega
  walk_at "rd"
  rw [List.length_map, e1]
  refine ⟨by decide, by decide, by omega, by omega, ?_⟩
  refine for_nums (lo := 1) (fun t ρ => ∃ t6 t7, ρ = [some (.sh true (.int b)), some (.sh false (.list (rows.map dI))), some (.sh false (.list (row.map PyData.int))), some (.sh true (.int n)), some (.ow true ((hadN b n (row.take t)).map PyData.int)), some (.tr ps ((List.range n).map fun k => pr2 (mx (ldF b n rows row) k t))), t6, t7]) ?_ ?_ ⟨none, none, rfl⟩
  · rintro t ρ ht ⟨t6, t7, rfl⟩ W hW
    have hk1 : t + 1 < rows.length := by omega
    have hck := hc row[t] (List.getElem_mem ht)
    have hrk : atI (row.map PyData.int) (1 + (t : Int) - 1) = some (PyData.int row[t]) := by
      rw [show 1 + (t : Int) - 1 = 0 + (t : Int) by omega]; exact atI_nat' ht
    have hrr : atI (rows.map dI) (1 + (t : Int)) = some (PyData.list (rows[t + 1].map PyData.int)) := by
      rw [show (1 + (t : Int)) = ((t + 1 : Nat) : Int) by omega]; exact atI_row hk1
    have hrl := hmax (t + 1) hk1
    have hhl := hadN_len b n (row.take t)
    have hg := atI_getD (xs := hadN b n (row.take t)) (i := row[t]) hck.1 (by omega)
    have hix : ixN ((hadN b n (row.take t)).map PyData.int).length row[t] = some row[t].toNat := by rw [List.length_map]; exact ixN_lt hck.1 (by omega)
    have htk : row.take (t + 1) = row.take t ++ [row[t]] := List.take_succ_eq_append_getElem ht
    have hset : ((hadN b n (row.take t)).map PyData.int).set row[t].toNat (PyData.int ((hadN b n (row.take t)).getD row[t].toNat 0 + b)) = (hadN b n (row.take (t + 1))).map PyData.int := by
      rw [htk, hadN_snoc]; unfold had1; rw [List.map_set]
    have hld : leadAt b n rows row t = subL (hadN b n (row.take (t + 1))) rows[t + 1] := by
      unfold leadAt
      rw [List.getD_eq_getElem?_getD, List.getElem?_eq_getElem hk1]; rfl
    have hhl1 := hadN_len b n (row.take (t + 1))
    have hld2 : ∀ i, i < n → ldF b n rows row t i = (hadN b n (row.take (t + 1))).getD i 0 - rows[t + 1].getD i 0 := fun i hi => by
      unfold ldF
      rw [hld]
      unfold subL
      have hz : ((hadN b n (row.take (t + 1))).zip rows[t + 1])[i]? = some ((hadN b n (row.take (t + 1)))[i]'(by omega), rows[t + 1][i]'(by omega)) := List.getElem?_zip_eq_some.mpr ⟨List.getElem?_eq_getElem (by omega), List.getElem?_eq_getElem (by omega)⟩
      rw [List.getD_eq_getElem?_getD, List.getElem?_map, hz]
      simp [List.getD_eq_getElem?_getD, List.getElem?_eq_getElem (show i < rows[t + 1].length by omega), List.getElem?_eq_getElem (show i < (hadN b n (row.take (t + 1))).length by omega)]
    simp only [gn3, List.set_cons_zero, List.set_cons_succ, scal3, Bool.or_true]
    refine seq_step fun N hN => ?_
    simp (config := { maxSteps := 2000000 }) only [seq3, next3, set3, own3, ret3, ifS3, tt3, o3, u3, v3, atV, asS, asB, asD, optP, asT, asLd, asL, atO, consP, nilP, asId, asI, k3, nw3, add3, int3, int0, neg3, eq3, ne3, eqOk, eqv3, notN3, isNone, ix3, ixD, cons3, nil3, call3, cb3, len3, lenD, abs3, max23, min23, sum3, max3, and3, or3, not3, andV3, ch3, tup3, lst3, listN, catN, slL3, no3, part3, isi3', L2.isD, drop3, asg3, gn3, gtup3, gcons3, gnil3, app3, put3, frzS, frz, frz1, for3, itL, itT, itZ, rg1, rg2, comp3, true3, cst3, raise3, start3, shs, Cl.d, Cl.dat, Cl.f, allIn, scal3, Option.map_some, Option.map_none, Option.isSome_some, Option.isSome_none, Option.join_some, Option.join_none, List.all_cons, List.all_nil, Bool.and_true, Bool.true_and, Bool.and_self, Bool.or_false, Bool.false_or, Bool.or_true, Bool.true_or, List.map_cons, List.map_nil, List.length_cons, List.length_nil, Nat.reduceAdd, Nat.reduceSub, Nat.sub_self, List.replicate, List.cons_append, List.nil_append, List.append_nil, List.getElem?_cons_zero, List.getElem?_cons_succ, List.set_cons_zero, List.set_cons_succ, Option.some.injEq, Cl.sh.injEq, Cl.ow.injEq, PyData.int.injEq, PyData.bool.injEq, PyData.str.injEq, PyData.list.injEq, PyData.tuple.injEq, List.cons.injEq, reduceCtorEq, and_assoc, and_true, true_and, and_self, exists_eq_left, exists_eq_left', exists_eq', exists_eq_right, exists_eq_right', exists_and_left, exists_const, exists_false, false_and, and_false, or_false, false_or, or_true, true_or, decide_true, decide_false, decide_eq_true_eq, Bool.not_true, Bool.not_false, Bool.false_eq_true, Bool.true_eq_false, if_true, if_false, ite_true, ite_false, Bool.not_eq_true', decide_eq_false_iff_not, eq_self_iff_true, not_true_eq_false, not_false_eq_true, sz0, sz1, sz2, sz4, sz5, par3, thawN, aug3, augput3, idx3, ext3, itE, tree3, put2, app2, ix2, Cl.tr.injEq, sp_law_cell_at, sp_law_mixed, sp_law_wide, sp_law_spells, sp_law_long, sp_law_quotas, sp_law_row, sp_law_apart, sp_law_ratio, sp_law_bounds, sp_law_due, sp_check_weights, sp_all_turns, sp_check_spells, sp_common_divisor, sp_divisor_of_all, sp_least_bottom, sp_shares_over, sp_quotas, sp_first_turn, sp_window_of, sp_windows_of_clan, sp_windows_within, sp_less, sp_check_bounds, sp_room_at_most, sp_rooms_of, sp_windows, sp_check_row, sp_leads, sp_keeps, sp_law_near, sp_law_in_windows, sp_law, dSs, dS, dI, scal3, dQ, dP, dPs, dRoom, dW, dM, hrk, hg, hix, hset]
    refine hN _ ?_
    clear hN N
    walk_at "rd"
    refine ⟨by omega, by omega, ?_⟩
    rw [Int.toNat_natCast]
    refine for_nums (fun i ρ => ∃ (g : Nat → Int × Int) (t7 : Option L3.Cl), ρ = [some (.sh true (.int b)), some (.sh false (.list (rows.map dI))), some (.sh false (.list (row.map PyData.int))), some (.sh true (.int n)), some (.ow true ((hadN b n (row.take (t + 1))).map PyData.int)), some (.tr ps ((List.range n).map fun k => pr2 (g k))), some (.sh true (.int (1 + t))), t7] ∧ ∀ k, g k = if k < i then mx (ldF b n rows row) k (t + 1) else mx (ldF b n rows row) k t) ?_ ?_ ⟨fun k => mx (ldF b n rows row) k t, t7, rfl, fun k => by simp⟩
    · rintro i ρ hi ⟨g, t7, rfl, hgk⟩ W' hW'
      have ha := atI_getD (xs := rows[t + 1]) (i := 0 + (i : Int)) (by omega) (by omega)
      have hb := atI_getD (xs := hadN b n (row.take (t + 1))) (i := 0 + (i : Int)) (by omega) (by omega)
      rw [show (0 + (i : Int)).toNat = i by omega] at ha hb
      have hli := hld2 i hi
      generalize (hadN b n (row.take (t + 1))).getD i 0 = hv at hb hli
      generalize rows[t + 1].getD i 0 = rv at ha hli
      have hixn : ∀ {α : Type} (f : Nat → α), ixN ((List.range n).map f).length (0 + (i : Int)) = some i := fun f => by
        rw [List.length_map, List.length_range, ixN_lt (by omega) (by omega)]; congr 1; omega
      have hat : ∀ {α : Type} (f : Nat → α), atI ((List.range n).map f) (0 + (i : Int)) = some (f i) := fun f => by
        rw [atI_of f (xs := List.range n) (by rw [List.length_range]; exact hi), List.getElem_range]
      have p0 : ∀ p : Int × Int, atI (pr2 p) 0 = some (PyData.int p.1) := fun _ => rfl
      have p1 : ∀ p : Int × Int, atI (pr2 p) 1 = some (PyData.int p.2) := fun _ => rfl
      have x0 : ∀ p : Int × Int, ixN (pr2 p).length 0 = some 0 := fun _ => rfl
      have x1 : ∀ p : Int × Int, ixN (pr2 p).length 1 = some 1 := fun _ => rfl
      have s0 : ∀ (p : Int × Int) (y : Int), (pr2 p).set 0 (PyData.int y) = pr2 (y, p.2) := fun _ _ => rfl
      have s1 : ∀ (p : Int × Int) (y : Int), (pr2 p).set 1 (PyData.int y) = pr2 (p.1, y) := fun _ _ => rfl
      have hms : ∀ (g : Nat → Int × Int) (p : Int × Int), ((List.range n).map fun k => pr2 (g k)).set i (pr2 p) = (List.range n).map fun k => pr2 (if k = i then p else g k) := fun g p => by
        rw [map_range_set]
        congr 1
        funext k
        split <;> rfl
      simp only [gn3, List.set_cons_zero, List.set_cons_succ, scal3, Bool.or_true]
      refine seq_mid (fun ρ' => ∃ g2 : Nat → Int × Int, ρ' = [some (.sh true (.int b)), some (.sh false (.list (rows.map dI))), some (.sh false (.list (row.map PyData.int))), some (.sh true (.int n)), some (.ow true ((hadN b n (row.take (t + 1))).map PyData.int)), some (.tr ps ((List.range n).map fun k => pr2 (g2 k))), some (.sh true (.int (1 + t))), some (.sh true (.int (0 + i)))] ∧ ∀ k, g2 k = if k = i then (mxO (g i).1 (rv - hv), (g i).2) else g k) (fun N hN => ?_) ?_
      · simp (config := { maxSteps := 2000000 }) only [seq3, next3, set3, own3, ret3, ifS3, tt3, o3, u3, v3, atV, asS, asB, asD, optP, asT, asLd, asL, atO, consP, nilP, asId, asI, k3, nw3, add3, int3, int0, neg3, eq3, ne3, eqOk, eqv3, notN3, isNone, ix3, ixD, cons3, nil3, call3, cb3, len3, lenD, abs3, max23, min23, sum3, max3, and3, or3, not3, andV3, ch3, tup3, lst3, listN, catN, slL3, no3, part3, isi3', L2.isD, drop3, asg3, gn3, gtup3, gcons3, gnil3, app3, put3, frzS, frz, frz1, for3, itL, itT, itZ, rg1, rg2, comp3, true3, cst3, raise3, start3, shs, Cl.d, Cl.dat, Cl.f, allIn, scal3, Option.map_some, Option.map_none, Option.isSome_some, Option.isSome_none, Option.join_some, Option.join_none, List.all_cons, List.all_nil, Bool.and_true, Bool.true_and, Bool.and_self, Bool.or_false, Bool.false_or, Bool.or_true, Bool.true_or, List.map_cons, List.map_nil, List.length_cons, List.length_nil, Nat.reduceAdd, Nat.reduceSub, Nat.sub_self, List.replicate, List.cons_append, List.nil_append, List.append_nil, List.getElem?_cons_zero, List.getElem?_cons_succ, List.set_cons_zero, List.set_cons_succ, Option.some.injEq, Cl.sh.injEq, Cl.ow.injEq, PyData.int.injEq, PyData.bool.injEq, PyData.str.injEq, PyData.list.injEq, PyData.tuple.injEq, List.cons.injEq, reduceCtorEq, and_assoc, and_true, true_and, and_self, exists_eq_left, exists_eq_left', exists_eq', exists_eq_right, exists_eq_right', exists_and_left, exists_const, exists_false, false_and, and_false, or_false, false_or, or_true, true_or, decide_true, decide_false, decide_eq_true_eq, Bool.not_true, Bool.not_false, Bool.false_eq_true, Bool.true_eq_false, if_true, if_false, ite_true, ite_false, Bool.not_eq_true', decide_eq_false_iff_not, eq_self_iff_true, not_true_eq_false, not_false_eq_true, sz0, sz1, sz2, sz4, sz5, par3, thawN, aug3, augput3, idx3, ext3, itE, tree3, put2, app2, ix2, Cl.tr.injEq, sp_law_cell_at, sp_law_mixed, sp_law_wide, sp_law_spells, sp_law_long, sp_law_quotas, sp_law_row, sp_law_apart, sp_law_ratio, sp_law_bounds, sp_law_due, sp_check_weights, sp_all_turns, sp_check_spells, sp_common_divisor, sp_divisor_of_all, sp_least_bottom, sp_shares_over, sp_quotas, sp_first_turn, sp_window_of, sp_windows_of_clan, sp_windows_within, sp_less, sp_check_bounds, sp_room_at_most, sp_rooms_of, sp_windows, sp_check_row, sp_leads, sp_keeps, sp_law_near, sp_law_in_windows, sp_law, dSs, dS, dI, scal3, dQ, dP, dPs, dRoom, dW, dM, hrr, ha, hb, hixn, hat, p0, p1, x0, x1, s0, s1, hms]
        exact hN _ ⟨_, rfl, fun k => rfl⟩
      rintro ρ ⟨g2, rfl, hg2⟩
      simp (config := { maxSteps := 2000000 }) only [seq3, next3, set3, own3, ret3, ifS3, tt3, o3, u3, v3, atV, asS, asB, asD, optP, asT, asLd, asL, atO, consP, nilP, asId, asI, k3, nw3, add3, int3, int0, neg3, eq3, ne3, eqOk, eqv3, notN3, isNone, ix3, ixD, cons3, nil3, call3, cb3, len3, lenD, abs3, max23, min23, sum3, max3, and3, or3, not3, andV3, ch3, tup3, lst3, listN, catN, slL3, no3, part3, isi3', L2.isD, drop3, asg3, gn3, gtup3, gcons3, gnil3, app3, put3, frzS, frz, frz1, for3, itL, itT, itZ, rg1, rg2, comp3, true3, cst3, raise3, start3, shs, Cl.d, Cl.dat, Cl.f, allIn, scal3, Option.map_some, Option.map_none, Option.isSome_some, Option.isSome_none, Option.join_some, Option.join_none, List.all_cons, List.all_nil, Bool.and_true, Bool.true_and, Bool.and_self, Bool.or_false, Bool.false_or, Bool.or_true, Bool.true_or, List.map_cons, List.map_nil, List.length_cons, List.length_nil, Nat.reduceAdd, Nat.reduceSub, Nat.sub_self, List.replicate, List.cons_append, List.nil_append, List.append_nil, List.getElem?_cons_zero, List.getElem?_cons_succ, List.set_cons_zero, List.set_cons_succ, Option.some.injEq, Cl.sh.injEq, Cl.ow.injEq, PyData.int.injEq, PyData.bool.injEq, PyData.str.injEq, PyData.list.injEq, PyData.tuple.injEq, List.cons.injEq, reduceCtorEq, and_assoc, and_true, true_and, and_self, exists_eq_left, exists_eq_left', exists_eq', exists_eq_right, exists_eq_right', exists_and_left, exists_const, exists_false, false_and, and_false, or_false, false_or, or_true, true_or, decide_true, decide_false, decide_eq_true_eq, Bool.not_true, Bool.not_false, Bool.false_eq_true, Bool.true_eq_false, if_true, if_false, ite_true, ite_false, Bool.not_eq_true', decide_eq_false_iff_not, eq_self_iff_true, not_true_eq_false, not_false_eq_true, sz0, sz1, sz2, sz4, sz5, par3, thawN, aug3, augput3, idx3, ext3, itE, tree3, put2, app2, ix2, Cl.tr.injEq, sp_law_cell_at, sp_law_mixed, sp_law_wide, sp_law_spells, sp_law_long, sp_law_quotas, sp_law_row, sp_law_apart, sp_law_ratio, sp_law_bounds, sp_law_due, sp_check_weights, sp_all_turns, sp_check_spells, sp_common_divisor, sp_divisor_of_all, sp_least_bottom, sp_shares_over, sp_quotas, sp_first_turn, sp_window_of, sp_windows_of_clan, sp_windows_within, sp_less, sp_check_bounds, sp_room_at_most, sp_rooms_of, sp_windows, sp_check_row, sp_leads, sp_keeps, sp_law_near, sp_law_in_windows, sp_law, dSs, dS, dI, scal3, dQ, dP, dPs, dRoom, dW, dM, hrr, ha, hb, hixn, hat, p0, p1, x0, x1, s0, s1, hms]
      refine hW' _ ⟨_, _, rfl, fun k => ?_⟩
      have gi : g i = mx (ldF b n rows row) i t := by rw [hgk, if_neg (by omega)]
      by_cases e : k = i
      · subst e
        rw [if_pos (show k < k + 1 by omega), if_pos (show k = k from rfl), hg2, if_pos (show k = k from rfl), gi]
        show _ = (mxO (mx (ldF b n rows row) k t).1 (-(ldF b n rows row t k)), mxO (mx (ldF b n rows row) k t).2 (ldF b n rows row t k))
        rw [hli, Int.neg_sub]
        rfl
      · rw [if_neg e, hg2, if_neg e, hgk]
        by_cases h2 : k < i
        · rw [if_pos h2, if_pos (by omega)]
        · rw [if_neg h2, if_neg (by omega)]
    · rintro ρ ⟨g, t7, rfl, hgk⟩
      refine hW _ ⟨some (.sh true (.int (1 + t))), t7, ?_⟩
      have e3 : ((List.range n).map fun k => pr2 (g k)) = (List.range n).map fun k => pr2 (mx (ldF b n rows row) k (t + 1)) := List.map_congr_left fun k hk => by
        rw [hgk, if_pos (List.mem_range.mp hk)]
      rw [e3]
  · rintro ρ ⟨t6, t7, rfl⟩
    walk_at "rd"
    have e2 : (mostL b n rows row row.length).map dM = ((List.range n).map fun k => pr2 (mx (ldF b n rows row) k row.length)).map PyData.list := by
      unfold mostL
      rw [List.map_map, List.map_map]; rfl
    rw [← e2]
    exact q
theorem ok_law_apart (T : Txt c K mg)  : Df3 P w K mg base 1 "_law_apart" ["_law_bottom", "_law_rows", "_law_row_here"] sp_law_apart := by
  obtain ⟨f, fd, F, hm⟩ := T.d_law_apart
  have hb := F.binds (ps := ["_law_bottom", "_law_rows", "_law_row_here"]) fun _ _ _ _ _ _ us hl => by obtain ⟨_, _, _, rfl⟩ := arity3 hl; rfl
  refine ⟨fun ds Q Q' E E' hQ hE h => ?_, ⟨f, fd, fn_law_apart T  F, hb, F.kp, hm⟩⟩
  obtain ⟨a, b, d, n, e, x1, x2, x3, x4, x5, x6, h⟩ := h; exact ⟨a, b, d, n, e, x1, x2, x3, x4, x5, x6, hQ _ _ h⟩
theorem sc_law_ratio : FnScope ["_law_top", "_law_bottom", "_law_one", "_law_other"] ["_law_top", "_law_bottom"] (defScope s_law_ratio) := ⟨rfl, rfl, rfl, by decide +kernel, rfl, by decide +kernel, by decide +kernel⟩
set_option maxHeartbeats 4000000 in
theorem fn_law_ratio (T : Txt c K mg)  {f : Addr} {fd : FuncData} (F : Fun K "_law_ratio" "_law_ratio" s_law_ratio f fd) : FnOk P w K mg base (CXR P w) 1 f fd ["_law_top", "_law_bottom"] (spL K sp_law_ratio) := by
  have S := sc_law_ratio
  refine fn3 F S (fun ds Q E h => ?_) (fun cdv A outer s H E E3 hE hr => ?_)
  · obtain ⟨_, _, rfl, _⟩ := h; rfl
  refine ⟨_, (ss_cons (s_set (i := 2) S.nd rfl (by first | exact Or.inl rfl | exact Or.inr rfl) (callB3 abs_ok rfl T.n_abs bo_abs (a_cons (n3 0) a_nil)))
    (ss_cons (s_set (i := 3) S.nd rfl (by first | exact Or.inl rfl | exact Or.inr rfl) (n3 1))
    (ss_cons (s_while PassesOwn.leaving (tcmp3 gt_ok (n3 3) i3 (nomark _)) (ss_one (s_par (i := 2) (j := 3) rfl S.nd rfl rfl (by decide) rfl rfl (a_cons (n3 3) (a_cons (op3 mod_ok (n3 2) (n3 3)) a_nil)))))
    (ss_one (s_ret (tup3_ok (a_cons (op3 fdiv_ok (n3 0) (n3 2)) (a_cons (op3 fdiv_ok (n3 1) (n3 2)) a_nil)))))))), fun ds Q h => ?_⟩
  obtain ⟨a, b, rfl, hb, hB, q⟩ := h
  walk_at "rd"
  refine ⟨_, while_by (fun n ρ => ∃ g l, ρ = [some (.sh true (.int a)), some (.sh true (.int b)), some (.sh true (.int g)), some (.sh true (.int l))] ∧ 0 ≤ g ∧ 0 ≤ l ∧ Int.gcd g l = Int.gcd a b ∧ n = l.toNat) ?_ _ _ ⟨_, _, rfl, by split <;> omega, by omega, ?_, rfl⟩⟩
  · rintro n ρ ⟨g, l, rfl, hg, hl, hG, rfl⟩ W hW
    walk_at "rd"
    by_cases h0 : 0 < l
    · rw [if_pos h0]
      have h1 := Int.emod_nonneg g (show l ≠ 0 by omega)
      have h2 := Int.emod_lt_of_pos g h0
      exact ⟨h0, hW (g % l).toNat _ (by omega) ⟨l, g % l, rfl, hl, h1, (gcd_step hg h0).trans hG, rfl⟩⟩
    · rw [if_neg h0]
      have hz : l = 0 := by omega
      subst hz
      have e : g = (Int.gcd a b : Int) := by rw [← hG, gcd_end hg]
      subst e
      exact ⟨gcdR_div hb hB, gcdR_div hb hB, q⟩
  · have := gcd_abs a b
    rw [if_neg (show ¬ b < 0 by omega)] at this
    exact this
theorem ok_law_ratio (T : Txt c K mg)  : Df3 P w K mg base 1 "_law_ratio" ["_law_top", "_law_bottom"] sp_law_ratio := by
  obtain ⟨f, fd, F, hm⟩ := T.d_law_ratio
  have hb := F.binds (ps := ["_law_top", "_law_bottom"]) fun _ _ _ _ _ _ us hl => by obtain ⟨_, _, rfl⟩ := arity2 hl; rfl
  refine ⟨fun ds Q Q' E E' hQ hE h => ?_, ⟨f, fd, fn_law_ratio T  F, hb, F.kp, hm⟩⟩
  obtain ⟨a, b, e, z, y, h⟩ := h; exact ⟨a, b, e, z, y, hQ _ _ h⟩
theorem sc_law_bounds : FnScope ["_law_clans", "_law_cell", "_law_bounds_here", "_law_k", "_law_pair", "_law_side", "_law_bottom", "_law_wide_here", "_law_count"] ["_law_clans", "_law_cell"] (defScope s_law_bounds) := ⟨rfl, rfl, rfl, by decide +kernel, rfl, by decide +kernel, by decide +kernel⟩
set_option maxHeartbeats 4000000 in
theorem fn_law_bounds (T : Txt c K mg) (G_law_wide : Df3 P w K mg base 2 "_law_wide" ["_law_cell", "_law_k"] sp_law_wide) (G_law_ratio : Df3 P w K mg base 1 "_law_ratio" ["_law_top", "_law_bottom"] sp_law_ratio) {f : Addr} {fd : FuncData} (F : Fun K "_law_bounds" "_law_bounds" s_law_bounds f fd) : FnOk P w K mg base (CXR P w) 3 f fd ["_law_clans", "_law_cell"] (spL K sp_law_bounds) := by
  have S := sc_law_bounds
  refine fn3 F S (fun ds Q E h => ?_) (fun cdv A outer s H E E3 hE hr => ?_)
  · obtain ⟨_, _, rfl, _⟩ := h; rfl
  refine ⟨_, (ss_cons (s_own (i := 2) S.nd rfl (by first | exact Or.inl rfl | exact Or.inr rfl) (lst3_ok a_nil))
    (ss_cons (s_set (i := 1) S.nd rfl (by first | exact Or.inl rfl | exact Or.inr rfl) (df3 hE G_law_wide (hr.mono (by decide)) rfl passR (a_cons (n3 1) (a_cons i3 a_nil))))
    (ss_cons (s_for PassesOwn.leaving rfl (it_range1 rfl T.n_range (a_cons (n3 0) a_nil)) (t_name (i := 3) S.nd rfl (by first | exact Or.inl rfl | exact Or.inr rfl)) (ss_cons (s_own (i := 4) S.nd rfl (by first | exact Or.inl rfl | exact Or.inr rfl) (lst3_ok a_nil))
      (ss_cons (s_for PassesOwn.leaving rfl (it_range1 rfl T.n_range (a_cons i3 a_nil)) (t_name (i := 5) S.nd rfl (by first | exact Or.inl rfl | exact Or.inr rfl)) (ss_cons (s_set (i := 6) S.nd rfl (by first | exact Or.inl rfl | exact Or.inr rfl) (op3 add3_ok i3 (op3 mod_ok (n3 1) i3)))
        (ss_cons (s_set (i := 7) S.nd rfl (by first | exact Or.inl rfl | exact Or.inr rfl) (op3 mod_ok (op3 fdiv_ok (n3 1) i3) i3))
        (ss_cons (s_set (i := 1) S.nd rfl (by first | exact Or.inl rfl | exact Or.inr rfl) (op3 fdiv_ok (n3 1) i3))
        (ss_cons (s_set (i := 8) S.nd rfl (by first | exact Or.inl rfl | exact Or.inr rfl) (op3 add3_ok (at3 (new3 (lst3_ok (a_cons (n3 6) (a_cons (op3 mul_ok i3 (n3 6)) (a_cons (n3 6) (a_cons (op3 mul_ok i3 (n3 6)) (a_cons (op3 mul_ok i3 (n3 6)) a_nil))))))) (n3 7) (fun _ _ => rfl)) i3))
        (ss_cons (s_append (i := 4) rfl (by first | exact Or.inl rfl | exact Or.inr (Or.inl rfl) | exact Or.inr (Or.inr rfl)) (df3 hE G_law_ratio (hr.mono (by decide)) rfl passR (a_cons (op3 mod_ok (n3 1) (n3 8)) (a_cons (n3 6) a_nil))))
        (ss_one (s_set (i := 1) S.nd rfl (by first | exact Or.inl rfl | exact Or.inr rfl) (op3 fdiv_ok (n3 1) (n3 8))))))))))
      (ss_one (s_append (i := 2) rfl (by first | exact Or.inl rfl | exact Or.inr (Or.inl rfl) | exact Or.inr (Or.inr rfl)) (tup3_ok (a_cons (at3 (n3 4) i3 (fun _ _ => rfl)) (a_cons (at3 (n3 4) i3 (fun _ _ => rfl)) a_nil))))))))
    (ss_one (s_frz [2] (s_ret (n3 2))))))), fun ds Q h => ?_⟩
  obtain ⟨n, cc, rfl, hn8, q⟩ := h
  walk_at "rd"
  refine ⟨by decide, by decide, fun v => ⟨by omega, by omega, ?_⟩⟩
  rw [Int.toNat_natCast]
  refine for_nums (fun k ρ => ∃ (l : List (Rat2 × Rat2)) (c' : Int) (t1 t2 t3 t4 t5 t6 : Option L3.Cl), ρ = [some (.sh true (.int n)), some (.sh true (.int c')), some (.ow true (l.map dP)), t1, t2, t3, t4, t5, t6] ∧ l.length = k ∧ ∀ p ∈ l, (okQ p.1 ∧ okQ p.2) ∧ inQ p.1 ∧ inQ p.2) ?_ ?_ ⟨[], _, none, none, none, none, none, none, rfl, rfl, fun p h => by cases h⟩
  · rintro k ρ hk ⟨l, c', t1, t2, t3, t4, t5, t6, rfl, hl, hall⟩ W hW
    walk_at "rd"
    refine ⟨by decide, by decide, ?_⟩
    rw [show (2 : Int).toNat = 2 from rfl]
    refine for_nums (fun i ρ => ∃ (pr : List Rat2) (c' : Int) (t3 t4 t5 t6 : Option L3.Cl), ρ = [some (.sh true (.int n)), some (.sh true (.int c')), some (.ow true (l.map dP)), some (.sh true (.int (0 + k))), some (.ow true (pr.map dQ)), t3, t4, t5, t6] ∧ pr.length = i ∧ ∀ r ∈ pr, okQ r ∧ inQ r) ?_ ?_ ⟨[], c', t3, t4, t5, t6, rfl, rfl, fun p h => by cases h⟩
    · rintro i ρ hi ⟨pr, c2, s3, s4, s5, s6, rfl, hpr, hpa⟩ W' hW'
      have m12 : 1 ≤ 1 + c2 % 12 ∧ 1 + c2 % 12 ≤ 12 := by omega
      have hd5 : 0 ≤ c2 / 12 % 5 ∧ c2 / 12 % 5 < 5 := by omega
      simp only [gn3, List.set_cons_zero, List.set_cons_succ, scal3, Bool.or_true]
      refine seq_step fun N hN => ?_
      walk_at "rd"
      refine ⟨by decide, hN _ ?_⟩
      clear hN N
      refine seq_step fun N hN => ?_
      walk_at "rd"
      refine ⟨divP, by decide, hN _ ?_⟩
      clear hN N
      refine seq_step fun N hN => ?_
      walk_at "rd"
      refine ⟨divP, hN _ ?_⟩
      clear hN N
      generalize c2 / 60 = c3
      generalize c2 / 12 % 5 = wd at hd5 ⊢
      generalize 1 + c2 % 12 = bt at m12 ⊢
      have bm : ∀ z : Int, 0 ≤ z → z ≤ 100 → IntMulOk z bt := fun z h0 h1 => (Bits.lit (x := z) 64 (by omega)).mulOk (Bits.lit (x := bt) 64 (by omega)) (by decide)
      refine seq_mid (fun ρ' => ∃ ct : Int, ρ' = [some (.sh true (.int n)), some (.sh true (.int c3)), some (.ow true (l.map dP)), some (.sh true (.int (0 + k))), some (.ow true (pr.map dQ)), some (.sh true (.int (0 + i))), some (.sh true (.int bt)), some (.sh true (.int wd)), some (.sh true (.int ct))] ∧ 1 ≤ ct ∧ ct ≤ 10 * bt + 1) (fun N hN => ?_) ?_
      · walk_at "rd"
        obtain ⟨d, hd, hm, _⟩ := atI_lt (xs := [PyData.int bt, PyData.int (2 * bt), PyData.int bt, PyData.int (2 * bt), PyData.int (10 * bt)]) (i := wd) hd5.1 hd5.2
        obtain ⟨z, rfl, hz⟩ : ∃ z, d = PyData.int z ∧ 0 ≤ z ∧ z ≤ 10 * bt := by
          simp only [List.mem_cons, List.not_mem_nil, or_false] at hm
          rcases hm with rfl | rfl | rfl | rfl | rfl
          · exact ⟨_, rfl, by omega, by omega⟩
          · exact ⟨_, rfl, by omega, by omega⟩
          · exact ⟨_, rfl, by omega, by omega⟩
          · exact ⟨_, rfl, by omega, by omega⟩
          · exact ⟨_, rfl, by omega, by omega⟩
        refine ⟨bm 2 (by decide) (by decide), bm 2 (by decide) (by decide), bm 10 (by decide) (by decide), _, hd, ?_⟩
        walk_at "rd"
        exact hN _ ⟨_, rfl, by omega, by omega⟩
      rintro ρ ⟨ct, rfl, hct⟩
      have x0 := Int.emod_nonneg c3 (show ct ≠ 0 by omega)
      have x1 := Int.emod_lt_of_pos c3 (show 0 < ct by omega)
      walk_at "rd"
      rw [List.length_map]
      generalize c3 % ct = x at x0 x1 ⊢
      obtain ⟨l1, l2, l3, l4⟩ := low_gcd (a := x) (b := bt) (by omega)
      have hg1 : 0 < (Int.gcd x bt : Int) := gcdR_pos (by omega)
      refine ⟨by omega, by omega, Bits.lit (x := bt) 9000 (by omega), Nat.lt_of_lt_of_le (show _ < 1000 by omega) (by decide), ⟨by omega, Bits.lit (x := ct) 9000 (by omega)⟩, hW' _ ⟨pr ++ [(x / (Int.gcd x bt : Int), bt / (Int.gcd x bt : Int))], _, _, _, _, _, by rw [List.map_append]; rfl, by simp [hpr], fun r hr => ?_⟩⟩
      rcases List.mem_append.mp hr with z | z
      · exact hpa r z
      · rw [List.mem_singleton.mp z]
        refine ⟨⟨l1, (Bits.lit (x := x) 1200 (by omega)).le (Int.natAbs_ediv_le_natAbs _ _), (Bits.lit (x := bt) 1200 (by omega)).le (Int.natAbs_ediv_le_natAbs _ _)⟩, Int.ediv_nonneg x0 (by omega), ?_⟩
        show x / (Int.gcd x bt : Int) ≤ 10 * (bt / (Int.gcd x bt : Int))
        generalize (Int.gcd x bt : Int) = g at *
        generalize x / g = x' at *
        generalize bt / g = b' at *
        have : x' * g ≤ 10 * b' * g := by rw [Int.mul_assoc, l3, l4]; omega
        exact Int.le_of_mul_le_mul_right this hg1
    · rintro ρ ⟨pr, c2, s3, s4, s5, s6, rfl, hpr, hpa⟩
      match pr, hpr with
      | [r0, r1], _ =>
        simp (config := { maxSteps := 2000000 }) only [seq3, next3, set3, own3, ret3, ifS3, tt3, o3, u3, v3, atV, asS, asB, asD, optP, asT, asLd, asL, atO, consP, nilP, asId, asI, k3, nw3, add3, int3, int0, neg3, eq3, ne3, eqOk, eqv3, notN3, isNone, ix3, ixD, cons3, nil3, call3, cb3, len3, lenD, abs3, max23, min23, sum3, max3, and3, or3, not3, andV3, ch3, tup3, lst3, listN, catN, slL3, no3, part3, isi3', L2.isD, drop3, asg3, gn3, gtup3, gcons3, gnil3, app3, put3, frzS, frz, frz1, for3, itL, itT, itZ, rg1, rg2, comp3, true3, cst3, raise3, start3, shs, Cl.d, Cl.dat, Cl.f, allIn, scal3, Option.map_some, Option.map_none, Option.isSome_some, Option.isSome_none, Option.join_some, Option.join_none, List.all_cons, List.all_nil, Bool.and_true, Bool.true_and, Bool.and_self, Bool.or_false, Bool.false_or, Bool.or_true, Bool.true_or, List.map_cons, List.map_nil, List.length_cons, List.length_nil, Nat.reduceAdd, Nat.reduceSub, Nat.sub_self, List.replicate, List.cons_append, List.nil_append, List.append_nil, List.getElem?_cons_zero, List.getElem?_cons_succ, List.set_cons_zero, List.set_cons_succ, Option.some.injEq, Cl.sh.injEq, Cl.ow.injEq, PyData.int.injEq, PyData.bool.injEq, PyData.str.injEq, PyData.list.injEq, PyData.tuple.injEq, List.cons.injEq, reduceCtorEq, and_assoc, and_true, true_and, and_self, exists_eq_left, exists_eq_left', exists_eq', exists_eq_right, exists_eq_right', exists_and_left, exists_const, exists_false, false_and, and_false, or_false, false_or, or_true, true_or, decide_true, decide_false, decide_eq_true_eq, Bool.not_true, Bool.not_false, Bool.false_eq_true, Bool.true_eq_false, if_true, if_false, ite_true, ite_false, Bool.not_eq_true', decide_eq_false_iff_not, eq_self_iff_true, not_true_eq_false, not_false_eq_true, sz0, sz1, sz2, sz4, sz5, par3, thawN, aug3, augput3, idx3, ext3, itE, tree3, put2, app2, ix2, Cl.tr.injEq, sp_law_cell_at, sp_law_mixed, sp_law_wide, sp_law_spells, sp_law_long, sp_law_quotas, sp_law_row, sp_law_apart, sp_law_ratio, sp_law_bounds, sp_law_due, sp_check_weights, sp_all_turns, sp_check_spells, sp_common_divisor, sp_divisor_of_all, sp_least_bottom, sp_shares_over, sp_quotas, sp_first_turn, sp_window_of, sp_windows_of_clan, sp_windows_within, sp_less, sp_check_bounds, sp_room_at_most, sp_rooms_of, sp_windows, sp_check_row, sp_leads, sp_keeps, sp_law_near, sp_law_in_windows, sp_law, dSs, dS, dI, scal3, dQ, dP, dPs, dRoom, dW, dM, List.map_cons, List.map_nil, atI0, atI1]
        refine ⟨Nat.lt_of_lt_of_le (show _ < 1000 by rw [List.length_map]; omega) (by decide), hW _ ⟨l ++ [(r0, r1)], _, _, _, _, _, _, _, by rw [List.map_append]; rfl, by simp [hl], fun p hp => ?_⟩⟩
        rcases List.mem_append.mp hp with z | z
        · exact hall p z
        · rw [List.mem_singleton.mp z]
          have h0 := hpa r0 (by simp)
          have h1 := hpa r1 (by simp)
          exact ⟨⟨h0.1, h1.1⟩, h0.2, h1.2⟩
  · rintro ρ ⟨l, c', t1, t2, t3, t4, t5, t6, rfl, hl, hall⟩
    walk_at "rd"
    exact q l ⟨hl, fun p hp => (hall p hp).2⟩ fun p hp => (hall p hp).1
theorem ok_law_bounds (T : Txt c K mg) (G_law_wide : Df3 P w K mg base 2 "_law_wide" ["_law_cell", "_law_k"] sp_law_wide) (G_law_ratio : Df3 P w K mg base 1 "_law_ratio" ["_law_top", "_law_bottom"] sp_law_ratio) : Df3 P w K mg base 3 "_law_bounds" ["_law_clans", "_law_cell"] sp_law_bounds := by
  obtain ⟨f, fd, F, hm⟩ := T.d_law_bounds
  have hb := F.binds (ps := ["_law_clans", "_law_cell"]) fun _ _ _ _ _ _ us hl => by obtain ⟨_, _, rfl⟩ := arity2 hl; rfl
  refine ⟨fun ds Q Q' E E' hQ hE h => ?_, ⟨f, fd, fn_law_bounds T G_law_wide G_law_ratio F, hb, F.kp, hm⟩⟩
  obtain ⟨a, b, e, z, h⟩ := h; exact ⟨a, b, e, z, fun l x y => hQ _ _ (h l x y)⟩
theorem sc_law_due : FnScope ["_law_bottom", "_law_most", "_law_bounds_here", "_law_k", "_law_side", "_law_top", "_law_under"] ["_law_bottom", "_law_most", "_law_bounds_here"] (defScope s_law_due) := ⟨rfl, rfl, rfl, by decide +kernel, rfl, by decide +kernel, by decide +kernel⟩
set_option maxHeartbeats 4000000 in
theorem fn_law_due (T : Txt c K mg)  {f : Addr} {fd : FuncData} (F : Fun K "_law_due" "_law_due" s_law_due f fd) : FnOk P w K mg base (CXR P w) 1 f fd ["_law_bottom", "_law_most", "_law_bounds_here"] (spL K sp_law_due) := by
  have S := sc_law_due
  refine fn3 F S (fun ds Q E h => ?_) (fun cdv A outer s H E E3 hE hr => ?_)
  · obtain ⟨_, _, _, rfl, _⟩ := h; rfl
  refine ⟨_, (ss_cons (s_for PassesOwn.leaving rfl (it_range1 rfl T.n_range (a_cons (callB3 len_ok rfl T.n_len bo_len (a_cons (n3 1) a_nil)) a_nil)) (t_name (i := 3) S.nd rfl (by first | exact Or.inl rfl | exact Or.inr rfl)) (ss_one (s_for PassesOwn.leaving rfl (it_range1 rfl T.n_range (a_cons i3 a_nil)) (t_name (i := 4) S.nd rfl (by first | exact Or.inl rfl | exact Or.inr rfl)) (ss_cons (s_asg (at3 (at3 (n3 2) (n3 3) (fun _ _ => rfl)) (n3 4) (fun _ _ => rfl)) (t_tup (n := 2) rfl (ts_cons (t_name (i := 5) S.nd rfl (by first | exact Or.inl rfl | exact Or.inr rfl)) (ts_cons (t_name (i := 6) S.nd rfl (by first | exact Or.inl rfl | exact Or.inr rfl)) ts_nil))))
        (ss_one (s_if (tcmp3 gt_ok (op3 mul_ok (at3 (at3 (n3 1) (n3 3) (fun _ _ => rfl)) (n3 4) (fun _ _ => rfl)) (n3 6)) (op3 mul_ok (n3 5) (n3 0)) (nomark _)) (ss_one (s_ret b3)) ss_nil))))))
    (ss_one (s_ret b3))), fun ds Q h => ?_⟩
  obtain ⟨B, ms, bs, rfl, hlen, hb8, hB, hmb, hbq, q⟩ := h
  walk_at "rd"
  rw [List.length_map]
  refine ⟨by omega, by omega, ?_⟩
  rw [Int.toNat_natCast]
  refine for_nums (fun k ρ => ∃ t1 t2 t3 t4, ρ = [some (.sh true (.int B)), some (.sh false (.list (ms.map dM))), some (.sh false (.list (bs.map dP))), t1, t2, t3, t4] ∧ ∀ k' m p, k' < k → ms[k']? = some m → bs[k']? = some p → m.1 * p.1.2 ≤ p.1.1 * B ∧ m.2 * p.2.2 ≤ p.2.1 * B) ?_ ?_ ⟨none, none, none, none, rfl, fun _ _ _ h => absurd h (by omega)⟩
  · rintro k ρ hk ⟨t1, t2, t3, t4, rfl, hall⟩ W hW
    have hkb : k < bs.length := by omega
    have hmk := atI_of dM hk
    have hbk := atI_of dP hkb
    have hm0 : ms[k]? = some ms[k] := List.getElem?_eq_getElem hk
    have hb0 : bs[k]? = some bs[k] := List.getElem?_eq_getElem hkb
    have mb := hmb _ (List.getElem_mem hk)
    have pb := hbq _ (List.getElem_mem hkb)
    generalize ms[k] = m at hmk hm0 mb
    generalize bs[k] = p at hbk hb0 pb
    have mbi : ∀ i, Bits 1200 (selM m i) := fun i => by
      match i with
      | 0 => exact mb.1
      | i + 1 => exact mb.2
    have pbi : ∀ i, okQ (selP p i) := fun i => by
      match i with
      | 0 => exact pb.1
      | i + 1 => exact pb.2
    walk_at "rd"
    refine ⟨by decide, by decide, ?_⟩
    rw [show (2 : Int).toNat = 2 from rfl]
    refine for_nums (fun i ρ => ∃ t2 t3 t4, ρ = [some (.sh true (.int B)), some (.sh false (.list (ms.map dM))), some (.sh false (.list (bs.map dP))), some (.sh true (.int (0 + k))), t2, t3, t4] ∧ ∀ i', i' < i → selM m i' * (selP p i').2 ≤ (selP p i').1 * B) ?_ ?_ ⟨_, _, _, rfl, fun _ h => absurd h (by omega)⟩
    · rintro i ρ hi ⟨s2, s3, s4, rfl, hall'⟩ W' hW'
      have e1 : atI [PyData.tuple [.int p.1.1, .int p.1.2], PyData.tuple [.int p.2.1, .int p.2.2]] (0 + (i : Int)) = some (PyData.tuple [.int (selP p i).1, .int (selP p i).2]) := atI_two (z := fun i => PyData.tuple [.int (selP p i).1, .int (selP p i).2]) rfl rfl hi
      have e2 : atI [PyData.int m.1, PyData.int m.2] (0 + (i : Int)) = some (PyData.int (selM m i)) := atI_two (z := fun i => PyData.int (selM m i)) rfl rfl hi
      have hno : (selP p i).1 * B < selM m i * (selP p i).2 → ¬ dueP B ms bs := fun h z => by
        have := z k m p hm0 hb0
        match i, hi with
        | 0, _ => exact absurd this.1 (by show ¬ m.1 * p.1.2 ≤ p.1.1 * B; have h' : p.1.1 * B < m.1 * p.1.2 := h; omega)
        | 1, _ => exact absurd this.2 (by show ¬ m.2 * p.2.2 ≤ p.2.1 * B; have h' : p.2.1 * B < m.2 * p.2.2 := h; omega)
      simp (config := { maxSteps := 2000000 }) only [seq3, next3, set3, own3, ret3, ifS3, tt3, o3, u3, v3, atV, asS, asB, asD, optP, asT, asLd, asL, atO, consP, nilP, asId, asI, k3, nw3, add3, int3, int0, neg3, eq3, ne3, eqOk, eqv3, notN3, isNone, ix3, ixD, cons3, nil3, call3, cb3, len3, lenD, abs3, max23, min23, sum3, max3, and3, or3, not3, andV3, ch3, tup3, lst3, listN, catN, slL3, no3, part3, isi3', L2.isD, drop3, asg3, gn3, gtup3, gcons3, gnil3, app3, put3, frzS, frz, frz1, for3, itL, itT, itZ, rg1, rg2, comp3, true3, cst3, raise3, start3, shs, Cl.d, Cl.dat, Cl.f, allIn, scal3, Option.map_some, Option.map_none, Option.isSome_some, Option.isSome_none, Option.join_some, Option.join_none, List.all_cons, List.all_nil, Bool.and_true, Bool.true_and, Bool.and_self, Bool.or_false, Bool.false_or, Bool.or_true, Bool.true_or, List.map_cons, List.map_nil, List.length_cons, List.length_nil, Nat.reduceAdd, Nat.reduceSub, Nat.sub_self, List.replicate, List.cons_append, List.nil_append, List.append_nil, List.getElem?_cons_zero, List.getElem?_cons_succ, List.set_cons_zero, List.set_cons_succ, Option.some.injEq, Cl.sh.injEq, Cl.ow.injEq, PyData.int.injEq, PyData.bool.injEq, PyData.str.injEq, PyData.list.injEq, PyData.tuple.injEq, List.cons.injEq, reduceCtorEq, and_assoc, and_true, true_and, and_self, exists_eq_left, exists_eq_left', exists_eq', exists_eq_right, exists_eq_right', exists_and_left, exists_const, exists_false, false_and, and_false, or_false, false_or, or_true, true_or, decide_true, decide_false, decide_eq_true_eq, Bool.not_true, Bool.not_false, Bool.false_eq_true, Bool.true_eq_false, if_true, if_false, ite_true, ite_false, Bool.not_eq_true', decide_eq_false_iff_not, eq_self_iff_true, not_true_eq_false, not_false_eq_true, sz0, sz1, sz2, sz4, sz5, par3, thawN, aug3, augput3, idx3, ext3, itE, tree3, put2, app2, ix2, Cl.tr.injEq, sp_law_cell_at, sp_law_mixed, sp_law_wide, sp_law_spells, sp_law_long, sp_law_quotas, sp_law_row, sp_law_apart, sp_law_ratio, sp_law_bounds, sp_law_due, sp_check_weights, sp_all_turns, sp_check_spells, sp_common_divisor, sp_divisor_of_all, sp_least_bottom, sp_shares_over, sp_quotas, sp_first_turn, sp_window_of, sp_windows_of_clan, sp_windows_within, sp_less, sp_check_bounds, sp_room_at_most, sp_rooms_of, sp_windows, sp_check_row, sp_leads, sp_keeps, sp_law_near, sp_law_in_windows, sp_law, dSs, dS, dI, scal3, dQ, dP, dPs, dRoom, dW, dM, hmk, hbk, e1, e2]
      refine ⟨(mbi i).mulOk (pbi i).2.2 (by decide), (pbi i).2.1.mulOk hB (by decide), ite2 (fun h => q false ⟨(fun z => by cases z), fun z => absurd z (hno h)⟩) fun h => hW' _ ⟨_, _, _, rfl, fun i' hi' => ?_⟩⟩
      by_cases e : i' = i
      · subst e; omega
      · exact hall' i' (by omega)
    · rintro ρ ⟨s2, s3, s4, rfl, hall'⟩
      refine hW _ ⟨_, _, _, _, rfl, fun k' m' p' hk' h1 h2 => ?_⟩
      by_cases e : k' = k
      · subst e
        rw [hm0] at h1; rw [hb0] at h2
        cases h1; cases h2
        exact ⟨hall' 0 (by omega), hall' 1 (by omega)⟩
      · exact hall k' m' p' (by omega) h1 h2
  · rintro ρ ⟨t1, t2, t3, t4, rfl, hall⟩
    walk_at "rd"
    exact q true ⟨fun _ k m p h1 h2 => hall k m p (List.getElem?_eq_some_iff.mp h1).1 h1 h2, fun _ => rfl⟩
theorem ok_law_due (T : Txt c K mg)  : Df3 P w K mg base 1 "_law_due" ["_law_bottom", "_law_most", "_law_bounds_here"] sp_law_due := by
  obtain ⟨f, fd, F, hm⟩ := T.d_law_due
  have hb := F.binds (ps := ["_law_bottom", "_law_most", "_law_bounds_here"]) fun _ _ _ _ _ _ us hl => by obtain ⟨_, _, _, rfl⟩ := arity3 hl; rfl
  refine ⟨fun ds Q Q' E E' hQ hE h => ?_, ⟨f, fd, fn_law_due T  F, hb, F.kp, hm⟩⟩
  obtain ⟨a, b, d, e, x1, x2, x3, x4, x5, h⟩ := h; exact ⟨a, b, d, e, x1, x2, x3, x4, x5, fun r z => hQ _ _ (h r z)⟩
theorem sc_check_weights : FnScope ["weights", "weight"] ["weights"] (defScope s_check_weights) := ⟨rfl, rfl, rfl, by decide +kernel, rfl, by decide +kernel, by decide +kernel⟩
set_option maxHeartbeats 4000000 in
theorem fn_check_weights (T : Txt c K mg)  {f : Addr} {fd : FuncData} (F : Fun K "check_weights" "check_weights" s_check_weights f fd) : FnOk P w K mg base (CXR P w) 1 f fd ["weights"] (spL K (sp_check_weights c)) := by
  have S := sc_check_weights
  refine fn3 F S (fun ds Q E h => ?_) (fun cdv A outer s H E E3 hE hr => ?_)
  · obtain ⟨_, rfl, _⟩ := h; rfl
  refine ⟨_, (ss_cons (s_if (not3_ok (tchain3 le_ok le_ok i3 (callB3 len_ok rfl T.n_len bo_len (a_cons (n3 0) a_nil)) (g3i rfl T.m_MOST_CLANS))) (ss_one (s_raise hE fliesR rfl rfl T.m_NoSpell T.e_NoSpell (a_cons s3 a_nil))) ss_nil)
    (ss_cons (s_for PassesOwn.leaving rfl (it_list (n3 0)) (t_name (i := 1) S.nd rfl (by first | exact Or.inl rfl | exact Or.inr rfl)) (ss_cons (s_if (tcmp3 lt_ok (n3 1) i3 (nomark _)) (ss_one (s_raise hE fliesR rfl rfl T.m_NoSpell T.e_NoSpell (a_cons s3 a_nil))) ss_nil)
      (ss_one (s_if (tcmp3 ge_ok (n3 1) (op3 pow_ok i3 i3) (nomark _)) (ss_one (s_raise hE fliesR rfl rfl T.m_NoSpell T.e_NoSpell (a_cons s3 a_nil))) ss_nil))))
    (ss_one (s_if (tcmp3 (eq_ok hr.units) (callB3 (sum_ok rfl) rfl T.n_sum bo_sum (a_cons (n3 0) a_nil)) i3 (nomark _)) (ss_one (s_raise hE fliesR rfl rfl T.m_NoSpell T.e_NoSpell (a_cons s3 a_nil))) ss_nil)))), fun ds Q h => ?_⟩
  obtain ⟨ws, rfl, q, hE'⟩ := h
  walk_at "rd"
  simp only [List.length_map]
  by_cases h1 : 1 ≤ (ws.length : Int)
  case neg => rw [if_neg h1]; exact hE' fun z => h1 (by have := z.1.1; omega)
  rw [if_pos h1]
  by_cases h2 : (ws.length : Int) ≤ 8
  case neg => rw [if_pos h2]; exact hE' fun z => h2 (by have := z.1.2; omega)
  rw [if_neg (fun z => z h2)]
  refine for_by (fun ds ρ => ∃ rest t, ds = rest.map PyData.int ∧ ρ = [some (.sh false (.list (ws.map .int))), t] ∧ (∀ w ∈ rest, w ∈ ws) ∧ ∀ w ∈ ws, w ∈ rest ∨ (0 ≤ w ∧ w < 10 ^ 30)) ?_ ?_ _ _ ⟨ws, none, rfl, rfl, fun _ h => h, fun _ h => .inl h⟩
  · rintro d ds ρ ⟨rest, t, e, rfl, hin, hall⟩ W hW
    cases rest with
    | nil => cases e
    | cons w rest =>
      cases e
      have hw := hin w List.mem_cons_self
      walk_at "rd"
      by_cases h3 : w < 0
      · rw [if_pos h3]; exact hE' fun z => by have := (z.2.1 w hw).1; omega
      rw [if_neg h3]
      refine ⟨p30, ?_⟩
      by_cases h4 : (10 : Int) ^ Int.toNat 30 ≤ w
      · rw [if_pos h4]; exact hE' fun z => by have := (z.2.1 w hw).2; exact absurd h4 (by have e : (10 : Int) ^ Int.toNat 30 = 10 ^ 30 := rfl; omega)
      rw [if_neg h4]
      refine hW _ ⟨rest, _, rfl, rfl, fun x hx => hin x (List.mem_cons_of_mem _ hx), fun x hx => ?_⟩
      rcases hall x hx with z | z
      · rcases List.mem_cons.mp z with rfl | z
        · exact .inr ⟨by omega, by have e : (10 : Int) ^ Int.toNat 30 = 10 ^ 30 := rfl; omega⟩
        · exact .inl z
      · exact .inr z
  · rintro ρ ⟨rest, t, e, rfl, hin, hall⟩
    cases rest with
    | cons _ _ => cases e
    | nil =>
      walk_at "rd"
      refine ⟨ws, unInts_map ws, ?_⟩
      by_cases h3 : ws.sum = 0
      · rw [if_pos h3]; exact hE' fun z => z.2.2 h3
      · rw [if_neg h3]
        exact q ⟨⟨by omega, by omega⟩, fun w hw => (hall w hw).resolve_left (by simp), h3⟩
theorem ok_check_weights (T : Txt c K mg)  : Df3 P w K mg base 1 "check_weights" ["weights"] (sp_check_weights c) := by
  obtain ⟨f, fd, F, hm⟩ := T.d_check_weights
  have hb := F.binds (ps := ["weights"]) fun _ _ _ _ _ _ us hl => by obtain ⟨_, rfl⟩ := arity1 hl; rfl
  refine ⟨fun ds Q Q' E E' hQ hE h => ?_, ⟨f, fd, fn_check_weights T  F, hb, F.kp, hm⟩⟩
  obtain ⟨l, e, h1, h2⟩ := h; exact ⟨l, e, fun z => hQ _ _ (h1 z), fun z => hE _ (h2 z)⟩
theorem sc_all_turns : FnScope ["spells"] ["spells"] (defScope s_all_turns) := ⟨rfl, rfl, rfl, by decide +kernel, rfl, by decide +kernel, by decide +kernel⟩
set_option maxHeartbeats 4000000 in
theorem fn_all_turns (T : Txt c K mg)  {f : Addr} {fd : FuncData} (F : Fun K "all_turns" "all_turns" s_all_turns f fd) : FnOk P w K mg base (CXR P w) 1 f fd ["spells"] (spL K sp_all_turns) := by
  have S := sc_all_turns
  refine fn3 F S (fun ds Q E h => ?_) (fun cdv A outer s H E E3 hE hr => ?_)
  · obtain ⟨_, rfl, _⟩ := h; rfl
  refine ⟨_, (ss_one (s_ret (callB3 (sum_ok rfl) rfl T.n_sum bo_sum (a_cons (new3 (comp_ok ["spell"] [] [] rfl (compSc (osc := defScope s_all_turns) (by decide +kernel)) rfl (it_list (n3 0)) (fun H0 s H fp cl => ⟨(t_name (i := 0) (show ((["spell"] : List PySem.Str) ++ ([] : List PySem.Str)).Nodup by decide) rfl (by first | exact Or.inl rfl | exact Or.inr rfl)), pt_nil, (at3 (n3 0) i3 (fun _ _ => rfl))⟩))) a_nil)))), fun ds Q h => ?_⟩
  obtain ⟨l, rfl, hz, q⟩ := h
  walk_at "rd"
  rw [List.length_map]
  refine ⟨sz (by omega), ?_⟩
  refine comp_map (f := false) dS (fun s => .int s.1) (fun ρ => ∃ t, ρ = [t]) l ?_ _ _ _ _ ⟨none, rfl⟩ ?_
  · rintro s hs ρ fa acc K ⟨t, rfl⟩ k
    simp only [seq3, next3, set3, own3, ret3, ifS3, tt3, o3, u3, v3, atV, asS, asB, asD, optP, asT, asLd, asL, atO, consP, nilP, asId, asI, k3, nw3, add3, int3, int0, neg3, eq3, ne3, eqOk, eqv3, notN3, isNone, ix3, ixD, cons3, nil3, call3, cb3, len3, lenD, abs3, max23, min23, sum3, max3, and3, or3, not3, andV3, ch3, tup3, lst3, listN, catN, slL3, no3, part3, isi3', L2.isD, drop3, asg3, gn3, gtup3, gcons3, gnil3, app3, put3, frzS, frz, frz1, for3, itL, itT, itZ, rg1, rg2, comp3, true3, cst3, raise3, start3, shs, Cl.d, Cl.dat, Cl.f, allIn, scal3, Option.map_some, Option.map_none, Option.isSome_some, Option.isSome_none, Option.join_some, Option.join_none, List.all_cons, List.all_nil, Bool.and_true, Bool.true_and, Bool.and_self, Bool.or_false, Bool.false_or, Bool.or_true, Bool.true_or, List.map_cons, List.map_nil, List.length_cons, List.length_nil, Nat.reduceAdd, Nat.reduceSub, Nat.sub_self, List.replicate, List.cons_append, List.nil_append, List.append_nil, List.getElem?_cons_zero, List.getElem?_cons_succ, List.set_cons_zero, List.set_cons_succ, Option.some.injEq, Cl.sh.injEq, Cl.ow.injEq, PyData.int.injEq, PyData.bool.injEq, PyData.str.injEq, PyData.list.injEq, PyData.tuple.injEq, List.cons.injEq, reduceCtorEq, and_assoc, and_true, true_and, and_self, exists_eq_left, exists_eq_left', exists_eq', exists_eq_right, exists_eq_right', exists_and_left, exists_const, exists_false, false_and, and_false, or_false, false_or, or_true, true_or, decide_true, decide_false, decide_eq_true_eq, Bool.not_true, Bool.not_false, Bool.false_eq_true, Bool.true_eq_false, if_true, if_false, ite_true, ite_false, Bool.not_eq_true', decide_eq_false_iff_not, eq_self_iff_true, not_true_eq_false, not_false_eq_true, sz0, sz1, sz2, sz4, sz5, par3, thawN, aug3, augput3, idx3, ext3, itE, tree3, put2, app2, ix2, Cl.tr.injEq, sp_law_cell_at, sp_law_mixed, sp_law_wide, sp_law_spells, sp_law_long, sp_law_quotas, sp_law_row, sp_law_apart, sp_law_ratio, sp_law_bounds, sp_law_due, sp_check_weights, sp_all_turns, sp_check_spells, sp_common_divisor, sp_divisor_of_all, sp_least_bottom, sp_shares_over, sp_quotas, sp_first_turn, sp_window_of, sp_windows_of_clan, sp_windows_within, sp_less, sp_check_bounds, sp_room_at_most, sp_rooms_of, sp_windows, sp_check_row, sp_leads, sp_keeps, sp_law_near, sp_law_in_windows, sp_law, dSs, dS, dI, scal3, dQ, dP, dPs, dRoom, dW, dM, atI0]
    exact k _ ⟨_, rfl⟩
  · walk_at "rd"
    refine ⟨l.map (fun s : Spell => s.1), ?_, q⟩
    rw [← unInts_map (l.map (fun s : Spell => s.1)), List.map_map]
    rfl
theorem ok_all_turns (T : Txt c K mg)  : Df3 P w K mg base 1 "all_turns" ["spells"] sp_all_turns := by
  obtain ⟨f, fd, F, hm⟩ := T.d_all_turns
  have hb := F.binds (ps := ["spells"]) fun _ _ _ _ _ _ us hl => by obtain ⟨_, rfl⟩ := arity1 hl; rfl
  refine ⟨fun ds Q Q' E E' hQ hE h => ?_, ⟨f, fd, fn_all_turns T  F, hb, F.kp, hm⟩⟩
  obtain ⟨l, e, z, h⟩ := h; exact ⟨l, e, z, hQ _ _ h⟩
theorem sc_check_spells : FnScope ["spells", "turns", "weights"] ["spells"] (defScope s_check_spells) := ⟨rfl, rfl, rfl, by decide +kernel, rfl, by decide +kernel, by decide +kernel⟩
set_option maxHeartbeats 4000000 in
theorem fn_check_spells (T : Txt c K mg) (G_check_weights : Df3 P w K mg base 1 "check_weights" ["weights"] (sp_check_weights c)) (G_all_turns : Df3 P w K mg base 1 "all_turns" ["spells"] sp_all_turns) {f : Addr} {fd : FuncData} (F : Fun K "check_spells" "check_spells" s_check_spells f fd) : FnOk P w K mg base (CXR P w) 2 f fd ["spells"] (spL K (sp_check_spells c)) := by
  have S := sc_check_spells
  refine fn3 F S (fun ds Q E h => ?_) (fun cdv A outer s H E E3 hE hr => ?_)
  · obtain ⟨_, rfl, _⟩ := h; rfl
  refine ⟨_, (ss_cons (s_if (not3_ok (tchain3 le_ok le_ok i3 (callB3 len_ok rfl T.n_len bo_len (a_cons (n3 0) a_nil)) (g3i rfl T.m_MOST_SPELLS))) (ss_one (s_raise hE fliesR rfl rfl T.m_NoSpell T.e_NoSpell (a_cons s3 a_nil))) ss_nil)
    (ss_cons (s_for PassesOwn.leaving rfl (it_list (n3 0)) (t_tup (n := 2) rfl (ts_cons (t_name (i := 1) S.nd rfl (by first | exact Or.inl rfl | exact Or.inr rfl)) (ts_cons (t_name (i := 2) S.nd rfl (by first | exact Or.inl rfl | exact Or.inr rfl)) ts_nil))) (ss_cons (s_if (tcmp3 lt_ok (n3 1) i3 (nomark _)) (ss_one (s_raise hE fliesR rfl rfl T.m_NoSpell T.e_NoSpell (a_cons s3 a_nil))) ss_nil)
      (ss_cons (s_expr (df3 hE G_check_weights (hr.mono (by decide)) rfl passR (a_cons (n3 2) a_nil)))
      (ss_one (s_if (tcmp3 (ne_ok hr.units) (callB3 len_ok rfl T.n_len bo_len (a_cons (n3 2) a_nil)) (callB3 len_ok rfl T.n_len bo_len (a_cons (at3 (at3 (n3 0) i3 (fun _ _ => rfl)) i3 (fun _ _ => rfl)) a_nil)) (nomark _)) (ss_one (s_raise hE fliesR rfl rfl T.m_NoSpell T.e_NoSpell (a_cons s3 a_nil))) ss_nil)))))
    (ss_one (s_if (tcmp3 gt_ok (df3 hE G_all_turns (hr.mono (by decide)) rfl passR (a_cons (n3 0) a_nil)) (g3i rfl T.m_MOST_TURNS) (nomark _)) (ss_one (s_raise hE fliesR rfl rfl T.m_NoSpell T.e_NoSpell (a_cons s3 a_nil))) ss_nil)))), fun ds Q h => ?_⟩
  obtain ⟨l, rfl, q, hE'⟩ := h
  walk_at "rd"
  simp only [List.length_map]
  by_cases h1 : 1 ≤ (l.length : Int)
  case neg => rw [if_neg h1]; exact hE' fun z => h1 (by have := z.1.1; omega)
  rw [if_pos h1]
  by_cases h2 : (l.length : Int) ≤ 8
  case neg => rw [if_pos h2]; exact hE' fun z => h2 (by have := z.1.2; omega)
  rw [if_neg (fun z => z h2)]
  have hd0 : atI (l.map dS) 0 = some (dS (l.headD (0, []))) := by
    cases l with
    | nil => simp at h1
    | cons a r => exact atI0
  refine for_by (fun ds ρ => ∃ rest t u, ds = rest.map dS ∧ ρ = [some (.sh false (.list (l.map dS))), t, u] ∧ (∀ w ∈ rest, w ∈ l) ∧ ∀ w ∈ l, w ∈ rest ∨ (1 ≤ w.1 ∧ okW w.2 ∧ w.2.length = many l)) ?_ ?_ _ _ ⟨l, none, none, rfl, rfl, fun _ h => h, fun _ h => .inl h⟩
  · rintro d ds ρ ⟨rest, t, u, e, rfl, hin, hall⟩ W hW
    cases rest with
    | nil => cases e
    | cons w rest =>
      cases e
      have hw := hin w List.mem_cons_self
      walk_at "rd"
      by_cases h3 : w.1 < 1
      · rw [if_pos h3]; exact hE' fun z => by have := (z.2.1 w hw).1; omega
      rw [if_neg h3]
      refine ⟨w.2, rfl, fun hok => ?_, fun hno => hE' fun z => hno (z.2.1 w hw).2.1⟩
      simp only [seq3, next3, set3, own3, ret3, ifS3, tt3, o3, u3, v3, atV, asS, asB, asD, optP, asT, asLd, asL, atO, consP, nilP, asId, asI, k3, nw3, add3, int3, int0, neg3, eq3, ne3, eqOk, eqv3, notN3, isNone, ix3, ixD, cons3, nil3, call3, cb3, len3, lenD, abs3, max23, min23, sum3, max3, and3, or3, not3, andV3, ch3, tup3, lst3, listN, catN, slL3, no3, part3, isi3', L2.isD, drop3, asg3, gn3, gtup3, gcons3, gnil3, app3, put3, frzS, frz, frz1, for3, itL, itT, itZ, rg1, rg2, comp3, true3, cst3, raise3, start3, shs, Cl.d, Cl.dat, Cl.f, allIn, scal3, Option.map_some, Option.map_none, Option.isSome_some, Option.isSome_none, Option.join_some, Option.join_none, List.all_cons, List.all_nil, Bool.and_true, Bool.true_and, Bool.and_self, Bool.or_false, Bool.false_or, Bool.or_true, Bool.true_or, List.map_cons, List.map_nil, List.length_cons, List.length_nil, Nat.reduceAdd, Nat.reduceSub, Nat.sub_self, List.replicate, List.cons_append, List.nil_append, List.append_nil, List.getElem?_cons_zero, List.getElem?_cons_succ, List.set_cons_zero, List.set_cons_succ, Option.some.injEq, Cl.sh.injEq, Cl.ow.injEq, PyData.int.injEq, PyData.bool.injEq, PyData.str.injEq, PyData.list.injEq, PyData.tuple.injEq, List.cons.injEq, reduceCtorEq, and_assoc, and_true, true_and, and_self, exists_eq_left, exists_eq_left', exists_eq', exists_eq_right, exists_eq_right', exists_and_left, exists_const, exists_false, false_and, and_false, or_false, false_or, or_true, true_or, decide_true, decide_false, decide_eq_true_eq, Bool.not_true, Bool.not_false, Bool.false_eq_true, Bool.true_eq_false, if_true, if_false, ite_true, ite_false, Bool.not_eq_true', decide_eq_false_iff_not, eq_self_iff_true, not_true_eq_false, not_false_eq_true, sz0, sz1, sz2, sz4, sz5, par3, thawN, aug3, augput3, idx3, ext3, itE, tree3, put2, app2, ix2, Cl.tr.injEq, sp_law_cell_at, sp_law_mixed, sp_law_wide, sp_law_spells, sp_law_long, sp_law_quotas, sp_law_row, sp_law_apart, sp_law_ratio, sp_law_bounds, sp_law_due, sp_check_weights, sp_all_turns, sp_check_spells, sp_common_divisor, sp_divisor_of_all, sp_least_bottom, sp_shares_over, sp_quotas, sp_first_turn, sp_window_of, sp_windows_of_clan, sp_windows_within, sp_less, sp_check_bounds, sp_room_at_most, sp_rooms_of, sp_windows, sp_check_row, sp_leads, sp_keeps, sp_law_near, sp_law_in_windows, sp_law, dSs, dS, dI, scal3, dQ, dP, dPs, dRoom, dW, dM, atI0, atI1, hd0, List.length_map]
      by_cases h4 : (w.2.length : Int) = (l.headD (0, [])).2.length
      · rw [if_neg (fun z => z h4)]
        refine hW _ ⟨rest, _, _, rfl, rfl, fun x hx => hin x (List.mem_cons_of_mem _ hx), fun x hx => ?_⟩
        rcases hall x hx with z | z
        · rcases List.mem_cons.mp z with rfl | z
          · exact .inr ⟨by omega, hok, by unfold many; omega⟩
          · exact .inl z
        · exact .inr z
      · rw [if_pos h4]
        exact hE' fun z => h4 (by have := (z.2.1 w hw).2.2; unfold many at this; omega)
  · rintro ρ ⟨rest, t, u, e, rfl, hin, hall⟩
    cases rest with
    | cons _ _ => cases e
    | nil =>
      walk_at "rd"
      refine ⟨l, rfl, by omega, ?_⟩
      by_cases h3 : 60 < tot l
      · rw [if_pos h3]; exact hE' fun z => by have := z.2.2; omega
      · rw [if_neg h3]
        exact q ⟨⟨by omega, by omega⟩, fun w hw => (hall w hw).resolve_left (by simp), by omega⟩
theorem ok_check_spells (T : Txt c K mg) (G_check_weights : Df3 P w K mg base 1 "check_weights" ["weights"] (sp_check_weights c)) (G_all_turns : Df3 P w K mg base 1 "all_turns" ["spells"] sp_all_turns) : Df3 P w K mg base 2 "check_spells" ["spells"] (sp_check_spells c) := by
  obtain ⟨f, fd, F, hm⟩ := T.d_check_spells
  have hb := F.binds (ps := ["spells"]) fun _ _ _ _ _ _ us hl => by obtain ⟨_, rfl⟩ := arity1 hl; rfl
  refine ⟨fun ds Q Q' E E' hQ hE h => ?_, ⟨f, fd, fn_check_spells T G_check_weights G_all_turns F, hb, F.kp, hm⟩⟩
  obtain ⟨l, e, h1, h2⟩ := h; exact ⟨l, e, fun z => hQ _ _ (h1 z), fun z => hE _ (h2 z)⟩
theorem sc_common_divisor : FnScope ["one", "other", "greater", "lesser", "rest"] ["one", "other"] (defScope s_common_divisor) := ⟨rfl, rfl, rfl, by decide +kernel, rfl, by decide +kernel, by decide +kernel⟩
set_option maxHeartbeats 4000000 in
theorem fn_common_divisor (T : Txt c K mg)  {f : Addr} {fd : FuncData} (F : Fun K "common_divisor" "common_divisor" s_common_divisor f fd) : FnOk P w K mg base (CXR P w) 1 f fd ["one", "other"] (spL K sp_common_divisor) := by
  have S := sc_common_divisor
  refine fn3 F S (fun ds Q E h => ?_) (fun cdv A outer s H E E3 hE hr => ?_)
  · obtain ⟨_, _, rfl, _⟩ := h; rfl
  refine ⟨_, (ss_cons (s_set (i := 2) S.nd rfl (by first | exact Or.inl rfl | exact Or.inr rfl) (callB3 abs_ok rfl T.n_abs bo_abs (a_cons (n3 0) a_nil)))
    (ss_cons (s_set (i := 3) S.nd rfl (by first | exact Or.inl rfl | exact Or.inr rfl) (callB3 abs_ok rfl T.n_abs bo_abs (a_cons (n3 1) a_nil)))
    (ss_cons (s_while PassesOwn.leaving (tcmp3 (ne_ok hr.units) (n3 3) i3 (nomark _)) (ss_cons (s_set (i := 4) S.nd rfl (by first | exact Or.inl rfl | exact Or.inr rfl) (op3 mod_ok (n3 2) (n3 3)))
      (ss_cons (s_set (i := 2) S.nd rfl (by first | exact Or.inl rfl | exact Or.inr rfl) (n3 3))
      (ss_one (s_set (i := 3) S.nd rfl (by first | exact Or.inl rfl | exact Or.inr rfl) (n3 4))))))
    (ss_one (s_ret (n3 2)))))), fun ds Q h => ?_⟩
  obtain ⟨a, b, rfl, q⟩ := h
  walk_at "rd"
  refine ⟨_, while_by (fun n ρ => ∃ g l r, ρ = [some (.sh true (.int a)), some (.sh true (.int b)), some (.sh true (.int g)), some (.sh true (.int l)), r] ∧ 0 ≤ g ∧ 0 ≤ l ∧ Int.gcd g l = Int.gcd a b ∧ n = l.toNat) ?_ _ _ ⟨_, _, _, rfl, by split <;> omega, by split <;> omega, gcd_abs a b, rfl⟩⟩
  rintro n ρ ⟨g, l, r, rfl, hg, hl, hG, rfl⟩ W hW
  walk_at "rd"
  by_cases h0 : l = 0
  · rw [if_neg (fun z => z h0)]
    subst h0
    rw [← hG, gcd_end hg] at q
    exact q
  · rw [if_pos h0]
    have hp : 0 < l := by omega
    have h1 := Int.emod_nonneg g h0
    have h2 := Int.emod_lt_of_pos g hp
    exact ⟨hp, hW (g % l).toNat _ (by omega) ⟨l, g % l, _, rfl, hl, h1, (gcd_step hg hp).trans hG, rfl⟩⟩
theorem ok_common_divisor (T : Txt c K mg)  : Df3 P w K mg base 1 "common_divisor" ["one", "other"] sp_common_divisor := by
  obtain ⟨f, fd, F, hm⟩ := T.d_common_divisor
  have hb := F.binds (ps := ["one", "other"]) fun _ _ _ _ _ _ us hl => by obtain ⟨_, _, rfl⟩ := arity2 hl; rfl
  refine ⟨fun ds Q Q' E E' hQ hE h => ?_, ⟨f, fd, fn_common_divisor T  F, hb, F.kp, hm⟩⟩
  first | (obtain ⟨a0, a1, e, h⟩ := h; exact ⟨a0, a1, e, hQ _ h⟩) | (unfold sp_common_divisor at *; grind)
theorem sc_divisor_of_all : FnScope ["weights", "divisor", "weight"] ["weights"] (defScope s_divisor_of_all) := ⟨rfl, rfl, rfl, by decide +kernel, rfl, by decide +kernel, by decide +kernel⟩
set_option maxHeartbeats 4000000 in
theorem fn_divisor_of_all (T : Txt c K mg) (G_common_divisor : Df3 P w K mg base 1 "common_divisor" ["one", "other"] sp_common_divisor) {f : Addr} {fd : FuncData} (F : Fun K "divisor_of_all" "divisor_of_all" s_divisor_of_all f fd) : FnOk P w K mg base (CXR P w) 2 f fd ["weights"] (spL K sp_divisor_of_all) := by
  have S := sc_divisor_of_all
  refine fn3 F S (fun ds Q E h => ?_) (fun cdv A outer s H E E3 hE hr => ?_)
  · obtain ⟨_, rfl, _⟩ := h; rfl
  refine ⟨_, (ss_cons (s_set (i := 1) S.nd rfl (by first | exact Or.inl rfl | exact Or.inr rfl) i3)
    (ss_cons (s_for PassesOwn.leaving rfl (it_list (n3 0)) (t_name (i := 2) S.nd rfl (by first | exact Or.inl rfl | exact Or.inr rfl)) (ss_one (s_set (i := 1) S.nd rfl (by first | exact Or.inl rfl | exact Or.inr rfl) (df3 hE G_common_divisor (hr.mono (by decide)) rfl passR (a_cons (n3 1) (a_cons (n3 2) a_nil))))))
    (ss_one (s_ret (n3 1))))), fun ds Q h => ?_⟩
  obtain ⟨ws, rfl, q⟩ := h
  walk_at "rd"
  refine for_by (fun ds ρ => ∃ done rest t, ds = rest.map PyData.int ∧ ws = done ++ rest ∧ ρ = [some (.sh false (.list (ws.map .int))), some (.sh true (.int (gcdL done))), t]) ?_ ?_ _ _ ⟨[], ws, none, rfl, rfl, rfl⟩
  · rintro d ds ρ ⟨done, rest, t, e, hws, rfl⟩ W hW
    cases rest with
    | nil => cases e
    | cons w rest =>
      cases e
      walk_at "rd"
      exact hW _ ⟨done ++ [w], rest, _, rfl, by rw [hws, List.append_assoc]; rfl, by unfold gcdL; rw [List.foldl_append]; rfl⟩
  · rintro ρ ⟨done, rest, t, e, hws, rfl⟩
    cases rest with
    | cons _ _ => cases e
    | nil =>
      walk_at "rd"
      rw [List.append_nil] at hws
      subst hws
      exact q
theorem ok_divisor_of_all (T : Txt c K mg) (G_common_divisor : Df3 P w K mg base 1 "common_divisor" ["one", "other"] sp_common_divisor) : Df3 P w K mg base 2 "divisor_of_all" ["weights"] sp_divisor_of_all := by
  obtain ⟨f, fd, F, hm⟩ := T.d_divisor_of_all
  have hb := F.binds (ps := ["weights"]) fun _ _ _ _ _ _ us hl => by obtain ⟨_, rfl⟩ := arity1 hl; rfl
  refine ⟨fun ds Q Q' E E' hQ hE h => ?_, ⟨f, fd, fn_divisor_of_all T G_common_divisor F, hb, F.kp, hm⟩⟩
  first | (obtain ⟨a0, e, h⟩ := h; exact ⟨a0, e, hQ _ h⟩) | (unfold sp_divisor_of_all at *; grind)
theorem sc_least_bottom : FnScope ["spells", "bottom", "spell", "parts"] ["spells"] (defScope s_least_bottom) := ⟨rfl, rfl, rfl, by decide +kernel, rfl, by decide +kernel, by decide +kernel⟩
set_option maxHeartbeats 4000000 in
theorem fn_least_bottom (T : Txt c K mg) (G_divisor_of_all : Df3 P w K mg base 2 "divisor_of_all" ["weights"] sp_divisor_of_all) (G_common_divisor : Df3 P w K mg base 1 "common_divisor" ["one", "other"] sp_common_divisor) {f : Addr} {fd : FuncData} (F : Fun K "least_bottom" "least_bottom" s_least_bottom f fd) : FnOk P w K mg base (CXR P w) 3 f fd ["spells"] (spL K sp_least_bottom) := by
  have S := sc_least_bottom
  refine fn3 F S (fun ds Q E h => ?_) (fun cdv A outer s H E E3 hE hr => ?_)
  · obtain ⟨_, rfl, _⟩ := h; rfl
  refine ⟨_, (ss_cons (s_set (i := 1) S.nd rfl (by first | exact Or.inl rfl | exact Or.inr rfl) i3)
    (ss_cons (s_for PassesOwn.leaving rfl (it_list (n3 0)) (t_name (i := 2) S.nd rfl (by first | exact Or.inl rfl | exact Or.inr rfl)) (ss_cons (s_set (i := 3) S.nd rfl (by first | exact Or.inl rfl | exact Or.inr rfl) (op3 fdiv_ok (callB3 (sum_ok rfl) rfl T.n_sum bo_sum (a_cons (at3 (n3 2) i3 (fun _ _ => rfl)) a_nil)) (df3 hE G_divisor_of_all (hr.mono (by decide)) rfl passR (a_cons (at3 (n3 2) i3 (fun _ _ => rfl)) a_nil))))
      (ss_one (s_set (i := 1) S.nd rfl (by first | exact Or.inl rfl | exact Or.inr rfl) (op3 fdiv_ok (op3 mul_ok (n3 1) (n3 3)) (df3 hE G_common_divisor (hr.mono (by decide)) rfl passR (a_cons (n3 1) (a_cons (n3 3) a_nil))))))))
    (ss_one (s_ret (n3 1))))), fun ds Q h => ?_⟩
  obtain ⟨l, rfl, hok, q⟩ := h
  walk_at "rd"
  refine for_by (fun ds ρ => ∃ done rest t u, ds = rest.map dS ∧ l = done ++ rest ∧ ρ = [some (.sh false (.list (l.map dS))), some (.sh true (.int (bot done))), t, u]) ?_ ?_ _ _ ⟨[], l, none, none, rfl, rfl, rfl⟩
  · rintro d ds ρ ⟨done, rest, t, u, e, hl, rfl⟩ W hW
    cases rest with
    | nil => cases e
    | cons w rest =>
      cases e
      have hw : w ∈ l := by rw [hl]; simp
      have hwok := (hok.2.1 w hw).2.1
      have hdone : 0 < bot done ∧ Bits (1 + 103 * done.length) (bot done) := bot_ok done 1 1 (fun s hs => (hok.2.1 s (by rw [hl]; exact List.mem_append_left _ hs)).2.1) (by decide) (by unfold Bits; decide)
      have hlen : done.length ≤ 8 := by have := hok.1.2; rw [hl, List.length_append] at this; omega
      have hb : Bits 900 (bot done) := hdone.2.mono (by omega)
      simp only [seq3, next3, set3, own3, ret3, ifS3, tt3, o3, u3, v3, atV, asS, asB, asD, optP, asT, asLd, asL, atO, consP, nilP, asId, asI, k3, nw3, add3, int3, int0, neg3, eq3, ne3, eqOk, eqv3, notN3, isNone, ix3, ixD, cons3, nil3, call3, cb3, len3, lenD, abs3, max23, min23, sum3, max3, and3, or3, not3, andV3, ch3, tup3, lst3, listN, catN, slL3, no3, part3, isi3', L2.isD, drop3, asg3, gn3, gtup3, gcons3, gnil3, app3, put3, frzS, frz, frz1, for3, itL, itT, itZ, rg1, rg2, comp3, true3, cst3, raise3, start3, shs, Cl.d, Cl.dat, Cl.f, allIn, scal3, Option.map_some, Option.map_none, Option.isSome_some, Option.isSome_none, Option.join_some, Option.join_none, List.all_cons, List.all_nil, Bool.and_true, Bool.true_and, Bool.and_self, Bool.or_false, Bool.false_or, Bool.or_true, Bool.true_or, List.map_cons, List.map_nil, List.length_cons, List.length_nil, Nat.reduceAdd, Nat.reduceSub, Nat.sub_self, List.replicate, List.cons_append, List.nil_append, List.append_nil, List.getElem?_cons_zero, List.getElem?_cons_succ, List.set_cons_zero, List.set_cons_succ, Option.some.injEq, Cl.sh.injEq, Cl.ow.injEq, PyData.int.injEq, PyData.bool.injEq, PyData.str.injEq, PyData.list.injEq, PyData.tuple.injEq, List.cons.injEq, reduceCtorEq, and_assoc, and_true, true_and, and_self, exists_eq_left, exists_eq_left', exists_eq', exists_eq_right, exists_eq_right', exists_and_left, exists_const, exists_false, false_and, and_false, or_false, false_or, or_true, true_or, decide_true, decide_false, decide_eq_true_eq, Bool.not_true, Bool.not_false, Bool.false_eq_true, Bool.true_eq_false, if_true, if_false, ite_true, ite_false, Bool.not_eq_true', decide_eq_false_iff_not, eq_self_iff_true, not_true_eq_false, not_false_eq_true, sz0, sz1, sz2, sz4, sz5, par3, thawN, aug3, augput3, idx3, ext3, itE, tree3, put2, app2, ix2, Cl.tr.injEq, sp_law_cell_at, sp_law_mixed, sp_law_wide, sp_law_spells, sp_law_long, sp_law_quotas, sp_law_row, sp_law_apart, sp_law_ratio, sp_law_bounds, sp_law_due, sp_check_weights, sp_all_turns, sp_check_spells, sp_common_divisor, sp_divisor_of_all, sp_least_bottom, sp_shares_over, sp_quotas, sp_first_turn, sp_window_of, sp_windows_of_clan, sp_windows_within, sp_less, sp_check_bounds, sp_room_at_most, sp_rooms_of, sp_windows, sp_check_row, sp_leads, sp_keeps, sp_law_near, sp_law_in_windows, sp_law, dSs, dS, dI, scal3, dQ, dP, dPs, dRoom, dW, dM, atI0, atI1]
      refine ⟨w.2, unInts_map _, w.2, rfl, ⟨gcdL_pos hwok, ((okW_bits hwok).le (by have := gcdL_le hwok; have := gcdL_pos hwok; omega)).mono (by decide)⟩, ?_⟩
      have hgb : Bits 9000 (Int.gcd (bot done) (parts w.2) : Int) := ((parts_bits hwok).le (by have := gcd_le_r (b := bot done) (parts_pos hwok); have := gcd_pos_r (b := bot done) (parts_pos hwok); have := parts_pos hwok; omega)).mono (by decide)
      refine ⟨hb.mulOk (parts_bits hwok) (by decide), ⟨gcd_pos_r (parts_pos hwok), hgb⟩, ?_⟩
      exact hW _ ⟨done ++ [w], rest, _, _, rfl, by rw [hl, List.append_assoc]; rfl, by unfold bot; rw [List.foldl_append]; rfl⟩
  · rintro ρ ⟨done, rest, t, u, e, hl, rfl⟩
    cases rest with
    | cons _ _ => cases e
    | nil =>
      walk_at "rd"
      rw [List.append_nil] at hl
      subst hl
      exact q
theorem ok_least_bottom (T : Txt c K mg) (G_divisor_of_all : Df3 P w K mg base 2 "divisor_of_all" ["weights"] sp_divisor_of_all) (G_common_divisor : Df3 P w K mg base 1 "common_divisor" ["one", "other"] sp_common_divisor) : Df3 P w K mg base 3 "least_bottom" ["spells"] sp_least_bottom := by
  obtain ⟨f, fd, F, hm⟩ := T.d_least_bottom
  have hb := F.binds (ps := ["spells"]) fun _ _ _ _ _ _ us hl => by obtain ⟨_, rfl⟩ := arity1 hl; rfl
  refine ⟨fun ds Q Q' E E' hQ hE h => ?_, ⟨f, fd, fn_least_bottom T G_divisor_of_all G_common_divisor F, hb, F.kp, hm⟩⟩
  obtain ⟨l, e, o, h⟩ := h; exact ⟨l, e, o, hQ _ _ h⟩
theorem sc_shares_over : FnScope ["bottom", "weights", "total"] ["bottom", "weights"] (defScope s_shares_over) := ⟨rfl, rfl, rfl, by decide +kernel, rfl, by decide +kernel, by decide +kernel⟩
set_option maxHeartbeats 4000000 in
theorem fn_shares_over (T : Txt c K mg)  {f : Addr} {fd : FuncData} (F : Fun K "shares_over" "shares_over" s_shares_over f fd) : FnOk P w K mg base (CXR P w) 1 f fd ["bottom", "weights"] (spL K sp_shares_over) := by
  have S := sc_shares_over
  refine fn3 F S (fun ds Q E h => ?_) (fun cdv A outer s H E E3 hE hr => ?_)
  · obtain ⟨_, _, rfl, _⟩ := h; rfl
  refine ⟨_, (ss_cons (s_set (i := 2) S.nd rfl (by first | exact Or.inl rfl | exact Or.inr rfl) (callB3 (sum_ok rfl) rfl T.n_sum bo_sum (a_cons (n3 1) a_nil)))
    (ss_one (s_ret (new3 (comp_ok ["weight"] ["bottom", "total"] [0, 2] rfl (compSc (osc := defScope s_shares_over) (by decide +kernel)) rfl (it_list (n3 1)) (fun H0 s H fp cl => ⟨(t_name (i := 0) (show ((["weight"] : List PySem.Str) ++ (["bottom", "total"] : List PySem.Str)).Nodup by decide) rfl (by first | exact Or.inl rfl | exact Or.inr rfl)), pt_nil, (op3 fdiv_ok (op3 mul_ok (n3 0) (n3 1)) (n3 2))⟩)))))), fun ds Q h => ?_⟩
  obtain ⟨b, ws, rfl, hok, hb, q⟩ := h
  walk_at "rd"
  refine ⟨ws, unInts_map _, ?_⟩
  refine ⟨sz (by rw [List.length_map]; have := hok.1.2; omega), ?_⟩
  refine comp_map (f := false) PyData.int (fun w => .int (w * b / ws.sum)) (fun ρ => ∃ t, ρ = [t, some (.sh true (.int b)), some (.sh true (.int ws.sum))]) ws ?_ _ _ _ _ ⟨none, rfl⟩ ?_
  · rintro w hw ρ fa acc K ⟨t, rfl⟩ k
    have h1 : IntMulOk w b := (w_bits hok hw).mulOk hb (by decide)
    have h2 : CDivP (w * b) ws.sum := ⟨okW_pos hok, (okW_bits hok).mono (by decide)⟩
    show IntMulOk w b ∧ CDivP (w * b) ws.sum ∧ K (fa && true) (acc ++ [.int (w * b / ws.sum)]) [some (.sh true (.int w)), some (.sh true (.int b)), some (.sh true (.int ws.sum))]
    rw [Bool.and_true]
    exact ⟨h1, h2, k _ ⟨_, rfl⟩⟩
  · unfold dI shares at q
    rw [List.map_map] at q
    exact q
theorem ok_shares_over (T : Txt c K mg)  : Df3 P w K mg base 1 "shares_over" ["bottom", "weights"] sp_shares_over := by
  obtain ⟨f, fd, F, hm⟩ := T.d_shares_over
  have hb := F.binds (ps := ["bottom", "weights"]) fun _ _ _ _ _ _ us hl => by obtain ⟨_, _, rfl⟩ := arity2 hl; rfl
  refine ⟨fun ds Q Q' E E' hQ hE h => ?_, ⟨f, fd, fn_shares_over T  F, hb, F.kp, hm⟩⟩
  obtain ⟨b, l, e, o, p, h⟩ := h; exact ⟨b, l, e, o, p, hQ _ _ h⟩
theorem sc_quotas : FnScope ["spells", "bottom", "latest", "told", "turns", "weights", "shares", "turn"] ["spells"] (defScope s_quotas) := ⟨rfl, rfl, rfl, by decide +kernel, rfl, by decide +kernel, by decide +kernel⟩
set_option maxHeartbeats 4000000 in
theorem fn_quotas (T : Txt c K mg) (G_check_spells : Df3 P w K mg base 2 "check_spells" ["spells"] (sp_check_spells c)) (G_least_bottom : Df3 P w K mg base 3 "least_bottom" ["spells"] sp_least_bottom) (G_shares_over : Df3 P w K mg base 1 "shares_over" ["bottom", "weights"] sp_shares_over) {f : Addr} {fd : FuncData} (F : Fun K "quotas" "quotas" s_quotas f fd) : FnOk P w K mg base (CXR P w) 4 f fd ["spells"] (spL K (sp_quotas c)) := by
  have S := sc_quotas
  refine fn3 F S (fun ds Q E h => ?_) (fun cdv A outer s H E E3 hE hr => ?_)
  · obtain ⟨_, rfl, _⟩ := h; rfl
  refine ⟨_, (ss_cons (s_expr (df3 hE G_check_spells (hr.mono (by decide)) rfl passR (a_cons (n3 0) a_nil)))
    (ss_cons (s_set (i := 1) S.nd rfl (by first | exact Or.inl rfl | exact Or.inr rfl) (df3 hE G_least_bottom (hr.mono (by decide)) rfl passR (a_cons (n3 0) a_nil)))
    (ss_cons (comp_set (i := 2) S.nd rfl (by first | exact Or.inl rfl | exact Or.inr rfl) ["weight"] [] [] rfl (compSc (osc := defScope s_quotas) (by decide +kernel)) rfl (it_list (at3 (at3 (n3 0) i3 (fun _ _ => rfl)) i3 (fun _ _ => rfl))) (fun H0 s H fp cl => ⟨(t_name (i := 0) (show ((["weight"] : List PySem.Str) ++ ([] : List PySem.Str)).Nodup by decide) rfl (by first | exact Or.inl rfl | exact Or.inr rfl)), pt_nil, i3⟩))
    (ss_cons (s_own (i := 3) S.nd rfl (by first | exact Or.inl rfl | exact Or.inr rfl) (lst3_ok (a_cons (n3 2) a_nil)))
    (ss_cons (s_for PassesOwn.leaving rfl (it_list (n3 0)) (t_tup (n := 2) rfl (ts_cons (t_name (i := 4) S.nd rfl (by first | exact Or.inl rfl | exact Or.inr rfl)) (ts_cons (t_name (i := 5) S.nd rfl (by first | exact Or.inl rfl | exact Or.inr rfl)) ts_nil))) (ss_cons (s_set (i := 6) S.nd rfl (by first | exact Or.inl rfl | exact Or.inr rfl) (df3 hE G_shares_over (hr.mono (by decide)) rfl passR (a_cons (n3 1) (a_cons (n3 5) a_nil))))
      (ss_one (s_for PassesOwn.leaving rfl (it_range1 rfl T.n_range (a_cons (n3 4) a_nil)) (t_name (i := 7) S.nd rfl (by first | exact Or.inl rfl | exact Or.inr rfl)) (ss_cons (comp_set (i := 2) S.nd rfl (by first | exact Or.inl rfl | exact Or.inr rfl) ["quota", "share"] [] [] rfl (compSc (osc := defScope s_quotas) (by decide +kernel)) rfl (it_zip rfl T.n_zip (a_cons (n3 2) (a_cons (n3 6) a_nil))) (fun H0 s H fp cl => ⟨(t_tup (n := 2) rfl (ts_cons (t_name (i := 0) (show ((["quota", "share"] : List PySem.Str) ++ ([] : List PySem.Str)).Nodup by decide) rfl (by first | exact Or.inl rfl | exact Or.inr rfl)) (ts_cons (t_name (i := 1) (show ((["quota", "share"] : List PySem.Str) ++ ([] : List PySem.Str)).Nodup by decide) rfl (by first | exact Or.inl rfl | exact Or.inr rfl)) ts_nil))), pt_nil, (op3 add3_ok (n3 0) (n3 1))⟩))
        (ss_one (s_append (i := 3) rfl (by first | exact Or.inl rfl | exact Or.inr (Or.inl rfl) | exact Or.inr (Or.inr rfl)) (n3 2))))))))
    (ss_one (s_frz [3] (s_ret (tup3_ok (a_cons (n3 1) (a_cons (n3 3) a_nil))))))))))), fun ds Q h => ?_⟩
  obtain ⟨l, rfl, q, hE'⟩ := h
  refine seq_step fun N hN => ?_
  walk_at "rd"
  refine ⟨l, rfl, fun hok => hN _ ?_, hE'⟩
  clear hN N
  have hl0 : l ≠ [] := fun z => by have := hok.1.1; rw [z] at this; simp at this
  have hd0 : atI (l.map dS) 0 = some (dS (l.headD (0, []))) := by
    cases l with
    | nil => exact absurd rfl hl0
    | cons a r => exact atI0
  have hmany : many l ≤ 8 := by
    cases l with
    | nil => exact absurd rfl hl0
    | cons a r => exact (hok.2.1 a List.mem_cons_self).2.1.1.2
  refine seq_step fun N hN => ?_
  walk_at "rd"
  refine ⟨l, rfl, hok, hN _ ?_⟩
  clear hN N
  refine seq_step fun N hN => ?_
  simp (config := { maxSteps := 2000000 }) only [seq3, next3, set3, own3, ret3, ifS3, tt3, o3, u3, v3, atV, asS, asB, asD, optP, asT, asLd, asL, atO, consP, nilP, asId, asI, k3, nw3, add3, int3, int0, neg3, eq3, ne3, eqOk, eqv3, notN3, isNone, ix3, ixD, cons3, nil3, call3, cb3, len3, lenD, abs3, max23, min23, sum3, max3, and3, or3, not3, andV3, ch3, tup3, lst3, listN, catN, slL3, no3, part3, isi3', L2.isD, drop3, asg3, gn3, gtup3, gcons3, gnil3, app3, put3, frzS, frz, frz1, for3, itL, itT, itZ, rg1, rg2, comp3, true3, cst3, raise3, start3, shs, Cl.d, Cl.dat, Cl.f, allIn, scal3, Option.map_some, Option.map_none, Option.isSome_some, Option.isSome_none, Option.join_some, Option.join_none, List.all_cons, List.all_nil, Bool.and_true, Bool.true_and, Bool.and_self, Bool.or_false, Bool.false_or, Bool.or_true, Bool.true_or, List.map_cons, List.map_nil, List.length_cons, List.length_nil, Nat.reduceAdd, Nat.reduceSub, Nat.sub_self, List.replicate, List.cons_append, List.nil_append, List.append_nil, List.getElem?_cons_zero, List.getElem?_cons_succ, List.set_cons_zero, List.set_cons_succ, Option.some.injEq, Cl.sh.injEq, Cl.ow.injEq, PyData.int.injEq, PyData.bool.injEq, PyData.str.injEq, PyData.list.injEq, PyData.tuple.injEq, List.cons.injEq, reduceCtorEq, and_assoc, and_true, true_and, and_self, exists_eq_left, exists_eq_left', exists_eq', exists_eq_right, exists_eq_right', exists_and_left, exists_const, exists_false, false_and, and_false, or_false, false_or, or_true, true_or, decide_true, decide_false, decide_eq_true_eq, Bool.not_true, Bool.not_false, Bool.false_eq_true, Bool.true_eq_false, if_true, if_false, ite_true, ite_false, Bool.not_eq_true', decide_eq_false_iff_not, eq_self_iff_true, not_true_eq_false, not_false_eq_true, sz0, sz1, sz2, sz4, sz5, par3, thawN, aug3, augput3, idx3, ext3, itE, tree3, put2, app2, ix2, Cl.tr.injEq, sp_law_cell_at, sp_law_mixed, sp_law_wide, sp_law_spells, sp_law_long, sp_law_quotas, sp_law_row, sp_law_apart, sp_law_ratio, sp_law_bounds, sp_law_due, sp_check_weights, sp_all_turns, sp_check_spells, sp_common_divisor, sp_divisor_of_all, sp_least_bottom, sp_shares_over, sp_quotas, sp_first_turn, sp_window_of, sp_windows_of_clan, sp_windows_within, sp_less, sp_check_bounds, sp_room_at_most, sp_rooms_of, sp_windows, sp_check_row, sp_leads, sp_keeps, sp_law_near, sp_law_in_windows, sp_law, dSs, dS, dI, scal3, dQ, dP, dPs, dRoom, dW, dM, hd0, atI1, List.length_map]
  refine ⟨sz (by unfold many at hmany; omega), ?_⟩
  refine comp_map PyData.int (fun _ => .int 0) (fun ρ => ∃ t, ρ = [t]) (l.headD (0, [])).2 ?_ _ _ _ _ ⟨none, rfl⟩ ?_
  · rintro w hw ρ fa acc K ⟨t, rfl⟩ k
    walk_at "rd"
    exact k _ ⟨_, rfl⟩
  have hz : (l.headD (0, [])).2.map (fun _ => PyData.int 0) = (zeros l).map .int := by
    unfold zeros many
    rw [List.map_replicate, List.map_const']
  rw [List.nil_append, hz]
  refine hN _ ?_
  clear hN N
  refine seq_step fun N hN => ?_
  walk_at "rd"
  refine hN _ ?_
  clear hN N
  walk_at "rd"
  refine for_by (fun ds ρ => ∃ done rest t u v w, ds = rest.map dS ∧ l = done ++ rest ∧ ρ = [some (.sh false (.list (l.map dS))), some (.sh true (.int (bot l))), some (.sh true (dI (runQ (bot l) done (zeros l, [zeros l])).1)), some (.ow true ((runQ (bot l) done (zeros l, [zeros l])).2.map dI)), t, u, v, w] ∧ (runQ (bot l) done (zeros l, [zeros l])).2.length ≤ 1 + (tot done).toNat) ?_ ?_ _ _ ⟨[], l, none, none, none, none, rfl, rfl, rfl, by simp [runQ]⟩
  · rintro d ds ρ ⟨done, rest, t, u, v, w', e, hl, rfl, hlen⟩ W hW
    cases rest with
    | nil => cases e
    | cons w rest =>
      cases e
      have hw : w ∈ l := by rw [hl]; simp
      have hwok := (hok.2.1 w hw).2.1
      have h1t : ∀ s ∈ l, 1 ≤ s.1 := fun s hs => (hok.2.1 s hs).1
      have hwt := le_tot h1t hw
      have hw1 := h1t w hw
      have hdt : tot done ≤ 60 - w.1 := by
        have h60 := hok.2.2
        have e : tot l = tot done + (w.1 + tot rest) := by unfold tot; rw [hl, List.map_append, List.sum_append, List.map_cons, List.sum_cons]
        have : 0 ≤ tot rest := tot_nn fun s hs => h1t s (by rw [hl]; exact List.mem_append_right _ (List.mem_cons_of_mem _ hs))
        omega
      have hd0' : 0 ≤ tot done := tot_nn fun s hs => h1t s (by rw [hl]; exact List.mem_append_left _ hs)
      walk_at "rd"
      refine ⟨w.2, rfl, hwok, (bot_bits hok).mono (by decide), by omega, by have := hok.2.2; omega, ?_⟩
      generalize hp : runQ (bot l) done (zeros l, [zeros l]) = p at hlen ⊢
      refine for_nums (fun k ρ => ∃ t, ρ = [some (.sh false (.list (l.map dS))), some (.sh true (.int (bot l))), some (.sh true (dI (rep (stepT (shares (bot l) w.2)) k p).1)), some (.ow true ((rep (stepT (shares (bot l) w.2)) k p).2.map dI)), some (.sh true (.int w.1)), some (.sh false (dI w.2)), some (.sh true (dI (shares (bot l) w.2))), t]) ?_ ?_ ⟨w', rfl⟩
      · rintro k ρ hk ⟨t, rfl⟩ W' hW'
        have hr : ∀ k p, rep (stepT (shares (bot l) w.2)) (k + 1) p = stepT (shares (bot l) w.2) (rep (stepT (shares (bot l) w.2)) k p) := fun k => by
          induction k with
          | zero => intro p; rfl
          | succ k ih => intro p; rw [rep, ih]; rfl
        have hlk := rep_len (shares (bot l) w.2) k p
        walk_at "rd"
        rw [zipD_map, List.length_map]
        refine ⟨sz (by rw [List.length_zip]; unfold shares; rw [List.length_map]; have := hwok.1.2; omega), ?_⟩
        refine comp_map _ (fun p => .int (p.1 + p.2)) (fun ρ => ∃ t u, ρ = [t, u]) _ ?_ _ _ _ _ ⟨none, none, rfl⟩ ?_
        · rintro x hx ρ fa acc K ⟨t, u, rfl⟩ k
          walk_at "rd"
          exact k _ ⟨_, _, rfl⟩
        · walk_at "rd"
          rw [List.length_map]
          refine ⟨Nat.lt_of_lt_of_le (show _ < 1000000 by omega) (by decide), hW' _ ⟨?w, ?h⟩⟩
          case h =>
          rw [hr]
          unfold stepT addL dI
          simp only [List.map_append, List.map_cons, List.map_nil, List.map_map, List.nil_append]
          rfl
      · rintro ρ ⟨t, rfl⟩
        have er : runQ (bot l) (done ++ [w]) (zeros l, [zeros l]) = rep (stepT (shares (bot l) w.2)) w.1.toNat p := by
          unfold runQ at hp ⊢
          rw [List.foldl_append, hp]; rfl
        have et : tot (done ++ [w]) = tot done + w.1 := by unfold tot; rw [List.map_append, List.sum_append]; simp
        refine hW _ ⟨done ++ [w], rest, some (.sh true (.int w.1)), some (.sh false (dI w.2)), some (.sh true (dI (shares (bot l) w.2))), t, rfl, by rw [hl, List.append_assoc]; rfl, by rw [er], ?_⟩
        rw [er, rep_len, et]; omega
  · rintro ρ ⟨done, rest, t, u, v, w, e, hl, rfl, hlen⟩
    cases rest with
    | cons _ _ => cases e
    | nil =>
      walk_at "rd"
      rw [List.append_nil] at hl
      subst hl
      exact q hok
theorem ok_quotas (T : Txt c K mg) (G_check_spells : Df3 P w K mg base 2 "check_spells" ["spells"] (sp_check_spells c)) (G_least_bottom : Df3 P w K mg base 3 "least_bottom" ["spells"] sp_least_bottom) (G_shares_over : Df3 P w K mg base 1 "shares_over" ["bottom", "weights"] sp_shares_over) : Df3 P w K mg base 4 "quotas" ["spells"] (sp_quotas c) := by
  obtain ⟨f, fd, F, hm⟩ := T.d_quotas
  have hb := F.binds (ps := ["spells"]) fun _ _ _ _ _ _ us hl => by obtain ⟨_, rfl⟩ := arity1 hl; rfl
  refine ⟨fun ds Q Q' E E' hQ hE h => ?_, ⟨f, fd, fn_quotas T G_check_spells G_least_bottom G_shares_over F, hb, F.kp, hm⟩⟩
  obtain ⟨l, e, h1, h2⟩ := h; exact ⟨l, e, fun z => hQ _ _ (h1 z), fun z => hE _ (h2 z)⟩
theorem sc_first_turn : FnScope ["path", "wanted", "turn"] ["path", "wanted"] (defScope s_first_turn) := ⟨rfl, rfl, rfl, by decide +kernel, rfl, by decide +kernel, by decide +kernel⟩
set_option maxHeartbeats 4000000 in
theorem fn_first_turn (T : Txt c K mg)  {f : Addr} {fd : FuncData} (F : Fun K "first_turn" "first_turn" s_first_turn f fd) : FnOk P w K mg base (CXR P w) 1 f fd ["path", "wanted"] (spL K sp_first_turn) := by
  have S := sc_first_turn
  refine fn3 F S (fun ds Q E h => ?_) (fun cdv A outer s H E E3 hE hr => ?_)
  · obtain ⟨_, _, rfl, _⟩ := h; rfl
  refine ⟨_, (ss_cons (s_for PassesOwn.leaving rfl (it_range2 rfl T.n_range (a_cons i3 (a_cons (callB3 len_ok rfl T.n_len bo_len (a_cons (n3 0) a_nil)) a_nil))) (t_name (i := 2) S.nd rfl (by first | exact Or.inl rfl | exact Or.inr rfl)) (ss_one (s_if (tcmp3 ge_ok (at3 (n3 0) (n3 2) (fun _ _ => rfl)) (n3 1) (nomark _)) (ss_one (s_ret (n3 2))) ss_nil)))
    (ss_one (s_ret (callB3 len_ok rfl T.n_len bo_len (a_cons (n3 0) a_nil))))), fun ds Q h => ?_⟩
  obtain ⟨path, x, rfl, h61, h1, q⟩ := h
  walk_at "rd"
  rw [List.length_map]
  refine ⟨by decide, by decide, by omega, by omega, ?_⟩
  have e1 : ((path.length : Int) - 1).toNat = path.length - 1 := by omega
  rw [e1]
  refine for_nums (lo := 1) (fun k ρ => ∃ t, ρ = [some (.sh false (.list (path.map .int))), some (.sh true (.int x)), t] ∧ ∀ i, 1 ≤ i → i < 1 + k → ¬ x ≤ path.getD i 0) ?_ ?_ ⟨none, rfl, fun i h1 h2 => absurd h2 (by omega)⟩
  · rintro k ρ hk ⟨t, rfl, hno⟩ W hW
    have hg := atI_getD (xs := path) (i := 1 + (k : Int)) (by omega) (by omega)
    rw [show (1 + (k : Int)).toNat = 1 + k by omega] at hg
    simp (config := { maxSteps := 2000000 }) only [seq3, next3, set3, own3, ret3, ifS3, tt3, o3, u3, v3, atV, asS, asB, asD, optP, asT, asLd, asL, atO, consP, nilP, asId, asI, k3, nw3, add3, int3, int0, neg3, eq3, ne3, eqOk, eqv3, notN3, isNone, ix3, ixD, cons3, nil3, call3, cb3, len3, lenD, abs3, max23, min23, sum3, max3, and3, or3, not3, andV3, ch3, tup3, lst3, listN, catN, slL3, no3, part3, isi3', L2.isD, drop3, asg3, gn3, gtup3, gcons3, gnil3, app3, put3, frzS, frz, frz1, for3, itL, itT, itZ, rg1, rg2, comp3, true3, cst3, raise3, start3, shs, Cl.d, Cl.dat, Cl.f, allIn, scal3, Option.map_some, Option.map_none, Option.isSome_some, Option.isSome_none, Option.join_some, Option.join_none, List.all_cons, List.all_nil, Bool.and_true, Bool.true_and, Bool.and_self, Bool.or_false, Bool.false_or, Bool.or_true, Bool.true_or, List.map_cons, List.map_nil, List.length_cons, List.length_nil, Nat.reduceAdd, Nat.reduceSub, Nat.sub_self, List.replicate, List.cons_append, List.nil_append, List.append_nil, List.getElem?_cons_zero, List.getElem?_cons_succ, List.set_cons_zero, List.set_cons_succ, Option.some.injEq, Cl.sh.injEq, Cl.ow.injEq, PyData.int.injEq, PyData.bool.injEq, PyData.str.injEq, PyData.list.injEq, PyData.tuple.injEq, List.cons.injEq, reduceCtorEq, and_assoc, and_true, true_and, and_self, exists_eq_left, exists_eq_left', exists_eq', exists_eq_right, exists_eq_right', exists_and_left, exists_const, exists_false, false_and, and_false, or_false, false_or, or_true, true_or, decide_true, decide_false, decide_eq_true_eq, Bool.not_true, Bool.not_false, Bool.false_eq_true, Bool.true_eq_false, if_true, if_false, ite_true, ite_false, Bool.not_eq_true', decide_eq_false_iff_not, eq_self_iff_true, not_true_eq_false, not_false_eq_true, sz0, sz1, sz2, sz4, sz5, par3, thawN, aug3, augput3, idx3, ext3, itE, tree3, put2, app2, ix2, Cl.tr.injEq, sp_law_cell_at, sp_law_mixed, sp_law_wide, sp_law_spells, sp_law_long, sp_law_quotas, sp_law_row, sp_law_apart, sp_law_ratio, sp_law_bounds, sp_law_due, sp_check_weights, sp_all_turns, sp_check_spells, sp_common_divisor, sp_divisor_of_all, sp_least_bottom, sp_shares_over, sp_quotas, sp_first_turn, sp_window_of, sp_windows_of_clan, sp_windows_within, sp_less, sp_check_bounds, sp_room_at_most, sp_rooms_of, sp_windows, sp_check_row, sp_leads, sp_keeps, sp_law_near, sp_law_in_windows, sp_law, dSs, dS, dI, scal3, dQ, dP, dPs, dRoom, dW, dM, hg]
    by_cases h : x ≤ path.getD (1 + k) 0
    · rw [if_pos h]
      have : firstP path.length (fun t => decide (x ≤ path.getD t 0)) = 1 + k := firstP_uniq h1 (by omega) (by omega) (fun t a b => decide_eq_false (hno t a b)) fun _ => decide_eq_true h
      rw [this] at q
      have e : ((1 + k : Nat) : Int) = 1 + (k : Int) := by omega
      rw [e] at q
      exact q
    · rw [if_neg h]
      refine hW _ ⟨_, rfl, fun i a b => ?_⟩
      by_cases e : i = 1 + k
      · rw [e]; exact h
      · exact hno i a (by omega)
  · rintro ρ ⟨t, rfl, hno⟩
    walk_at "rd"
    rw [List.length_map]
    have : firstP path.length (fun t => decide (x ≤ path.getD t 0)) = path.length := firstP_uniq h1 h1 (Nat.le_refl _) (fun t a b => decide_eq_false (hno t a (by omega))) fun z => absurd z (by omega)
    rw [this] at q
    exact q
theorem ok_first_turn (T : Txt c K mg)  : Df3 P w K mg base 1 "first_turn" ["path", "wanted"] sp_first_turn := by
  obtain ⟨f, fd, F, hm⟩ := T.d_first_turn
  have hb := F.binds (ps := ["path", "wanted"]) fun _ _ _ _ _ _ us hl => by obtain ⟨_, _, rfl⟩ := arity2 hl; rfl
  refine ⟨fun ds Q Q' E E' hQ hE h => ?_, ⟨f, fd, fn_first_turn T  F, hb, F.kp, hm⟩⟩
  obtain ⟨a, b, e, x, y, h⟩ := h; exact ⟨a, b, e, x, y, hQ _ _ h⟩
theorem sc_window_of : FnScope ["bottom", "path", "j", "room", "opens", "last"] ["bottom", "path", "j", "room"] (defScope s_window_of) := ⟨rfl, rfl, rfl, by decide +kernel, rfl, by decide +kernel, by decide +kernel⟩
set_option maxHeartbeats 4000000 in
theorem fn_window_of (T : Txt c K mg) (G_first_turn : Df3 P w K mg base 1 "first_turn" ["path", "wanted"] sp_first_turn) {f : Addr} {fd : FuncData} (F : Fun K "window_of" "window_of" s_window_of f fd) : FnOk P w K mg base (CXR P w) 2 f fd ["bottom", "path", "j", "room"] (spL K sp_window_of) := by
  have S := sc_window_of
  refine fn3 F S (fun ds Q E h => ?_) (fun cdv A outer s H E E3 hE hr => ?_)
  · obtain ⟨_, _, _, _, rfl, _⟩ := h; rfl
  refine ⟨_, (ss_cons (s_set (i := 4) S.nd rfl (by first | exact Or.inl rfl | exact Or.inr rfl) (df3 hE G_first_turn (hr.mono (by decide)) rfl passR (a_cons (n3 1) (a_cons (op3 sub_ok (op3 mul_ok (n3 2) (n3 0)) (at3 (n3 3) i3 (fun _ _ => rfl))) a_nil))))
    (ss_cons (s_set (i := 5) S.nd rfl (by first | exact Or.inl rfl | exact Or.inr rfl) (df3 hE G_first_turn (hr.mono (by decide)) rfl passR (a_cons (n3 1) (a_cons (op3 add3_ok (op3 add3_ok (op3 mul_ok (op3 sub_ok (n3 2) i3) (n3 0)) (at3 (n3 3) i3 (fun _ _ => rfl))) i3) a_nil))))
    (ss_cons (s_if (tcmp3 (eq_ok hr.units) (n3 5) (callB3 len_ok rfl T.n_len bo_len (a_cons (n3 1) a_nil)) (nomark _)) (ss_one (s_ret (tup3_ok (a_cons (n3 4) (a_cons non3 a_nil))))) ss_nil)
    (ss_one (s_ret (tup3_ok (a_cons (n3 4) (a_cons (n3 5) a_nil)))))))), fun ds Q h => ?_⟩
  obtain ⟨b, path, j, room, rfl, h61, h1, hb, hj, q⟩ := h
  simp (config := { maxSteps := 2000000 }) only [seq3, next3, set3, own3, ret3, ifS3, tt3, o3, u3, v3, atV, asS, asB, asD, optP, asT, asLd, asL, atO, consP, nilP, asId, asI, k3, nw3, add3, int3, int0, neg3, eq3, ne3, eqOk, eqv3, notN3, isNone, ix3, ixD, cons3, nil3, call3, cb3, len3, lenD, abs3, max23, min23, sum3, max3, and3, or3, not3, andV3, ch3, tup3, lst3, listN, catN, slL3, no3, part3, isi3', L2.isD, drop3, asg3, gn3, gtup3, gcons3, gnil3, app3, put3, frzS, frz, frz1, for3, itL, itT, itZ, rg1, rg2, comp3, true3, cst3, raise3, start3, shs, Cl.d, Cl.dat, Cl.f, allIn, scal3, Option.map_some, Option.map_none, Option.isSome_some, Option.isSome_none, Option.join_some, Option.join_none, List.all_cons, List.all_nil, Bool.and_true, Bool.true_and, Bool.and_self, Bool.or_false, Bool.false_or, Bool.or_true, Bool.true_or, List.map_cons, List.map_nil, List.length_cons, List.length_nil, Nat.reduceAdd, Nat.reduceSub, Nat.sub_self, List.replicate, List.cons_append, List.nil_append, List.append_nil, List.getElem?_cons_zero, List.getElem?_cons_succ, List.set_cons_zero, List.set_cons_succ, Option.some.injEq, Cl.sh.injEq, Cl.ow.injEq, PyData.int.injEq, PyData.bool.injEq, PyData.str.injEq, PyData.list.injEq, PyData.tuple.injEq, List.cons.injEq, reduceCtorEq, and_assoc, and_true, true_and, and_self, exists_eq_left, exists_eq_left', exists_eq', exists_eq_right, exists_eq_right', exists_and_left, exists_const, exists_false, false_and, and_false, or_false, false_or, or_true, true_or, decide_true, decide_false, decide_eq_true_eq, Bool.not_true, Bool.not_false, Bool.false_eq_true, Bool.true_eq_false, if_true, if_false, ite_true, ite_false, Bool.not_eq_true', decide_eq_false_iff_not, eq_self_iff_true, not_true_eq_false, not_false_eq_true, sz0, sz1, sz2, sz4, sz5, par3, thawN, aug3, augput3, idx3, ext3, itE, tree3, put2, app2, ix2, Cl.tr.injEq, sp_law_cell_at, sp_law_mixed, sp_law_wide, sp_law_spells, sp_law_long, sp_law_quotas, sp_law_row, sp_law_apart, sp_law_ratio, sp_law_bounds, sp_law_due, sp_check_weights, sp_all_turns, sp_check_spells, sp_common_divisor, sp_divisor_of_all, sp_least_bottom, sp_shares_over, sp_quotas, sp_first_turn, sp_window_of, sp_windows_of_clan, sp_windows_within, sp_less, sp_check_bounds, sp_room_at_most, sp_rooms_of, sp_windows, sp_check_row, sp_leads, sp_keeps, sp_law_near, sp_law_in_windows, sp_law, dSs, dS, dI, scal3, dQ, dP, dPs, dRoom, dW, dM, atI0, atI1]
  have hj1 : Bits 65 (j - 1) := hj.sub (Bits.lit (x := 1) 64)
  refine ⟨hj.mulOk hb (by decide), path, rfl, h61, h1, hj1.mulOk hb (by decide), path, rfl, h61, h1, ?_⟩
  rw [List.length_map]
  unfold winB winP at q
  dsimp only at q
  by_cases h : firstP path.length (fun t => decide ((j - 1) * b + room.1 + 1 ≤ path.getD t 0)) = path.length
  · rw [if_pos (by rw [h])]
    rw [if_pos h] at q
    exact q
  · rw [if_neg (fun z => h (by omega))]
    rw [if_neg h] at q
    exact q
theorem ok_window_of (T : Txt c K mg) (G_first_turn : Df3 P w K mg base 1 "first_turn" ["path", "wanted"] sp_first_turn) : Df3 P w K mg base 2 "window_of" ["bottom", "path", "j", "room"] sp_window_of := by
  obtain ⟨f, fd, F, hm⟩ := T.d_window_of
  have hb := F.binds (ps := ["bottom", "path", "j", "room"]) fun _ _ _ _ _ _ us hl => by obtain ⟨_, _, _, _, rfl⟩ := arity4 hl; rfl
  refine ⟨fun ds Q Q' E E' hQ hE h => ?_, ⟨f, fd, fn_window_of T G_first_turn F, hb, F.kp, hm⟩⟩
  obtain ⟨a, b, d, n, e, x1, x2, x3, x4, h⟩ := h; exact ⟨a, b, d, n, e, x1, x2, x3, x4, hQ _ _ h⟩
theorem sc_windows_of_clan : FnScope ["told", "clan", "room", "path", "found", "j", "window"] ["told", "clan", "room"] (defScope s_windows_of_clan) := ⟨rfl, rfl, rfl, by decide +kernel, rfl, by decide +kernel, by decide +kernel⟩
set_option maxHeartbeats 4000000 in
theorem fn_windows_of_clan (T : Txt c K mg) (G_window_of : Df3 P w K mg base 2 "window_of" ["bottom", "path", "j", "room"] sp_window_of) {f : Addr} {fd : FuncData} (F : Fun K "windows_of_clan" "windows_of_clan" s_windows_of_clan f fd) : FnOk P w K mg base (CXR P w) 3 f fd ["told", "clan", "room"] (spL K sp_windows_of_clan) := by
  have S := sc_windows_of_clan
  refine fn3 F S (fun ds Q E h => ?_) (fun cdv A outer s H E E3 hE hr => ?_)
  · obtain ⟨_, _, _, _, _, rfl, _⟩ := h; rfl
  refine ⟨_, (ss_cons (comp_set (i := 3) S.nd rfl (by first | exact Or.inl rfl | exact Or.inr rfl) ["latest"] ["clan"] [1] rfl (compSc (osc := defScope s_windows_of_clan) (by decide +kernel)) rfl (it_list (at3 (n3 0) i3 (fun _ _ => rfl))) (fun H0 s H fp cl => ⟨(t_name (i := 0) (show ((["latest"] : List PySem.Str) ++ (["clan"] : List PySem.Str)).Nodup by decide) rfl (by first | exact Or.inl rfl | exact Or.inr rfl)), pt_nil, (at3 (n3 0) (n3 1) (fun _ _ => rfl))⟩))
    (ss_cons (s_own (i := 4) S.nd rfl (by first | exact Or.inl rfl | exact Or.inr rfl) (lst3_ok a_nil))
    (ss_cons (s_set (i := 5) S.nd rfl (by first | exact Or.inl rfl | exact Or.inr rfl) i3)
    (ss_cons (s_set (i := 6) S.nd rfl (by first | exact Or.inl rfl | exact Or.inr rfl) (df3 hE G_window_of (hr.mono (by decide)) rfl passR (a_cons (at3 (n3 0) i3 (fun _ _ => rfl)) (a_cons (n3 3) (a_cons (n3 5) (a_cons (n3 2) a_nil))))))
    (ss_cons (s_while PassesOwn.leaving (pw3 (or3_ok (tcmp3 lt_ok (at3 (n3 6) i3 (fun _ _ => rfl)) (callB3 len_ok rfl T.n_len bo_len (a_cons (n3 3) a_nil)) (nomark _)) (or1_3 (tcmp3 notN_ok (at3 (n3 6) i3 (fun _ _ => rfl)) non3 (nomark _))))) (ss_cons (s_append (i := 4) rfl (by first | exact Or.inl rfl | exact Or.inr (Or.inl rfl) | exact Or.inr (Or.inr rfl)) (tup3_ok (a_cons (n3 1) (a_cons (n3 5) (a_cons (at3 (n3 6) i3 (fun _ _ => rfl)) (a_cons (at3 (n3 6) i3 (fun _ _ => rfl)) a_nil))))))
      (ss_cons (s_aug (i := 5) S.nd rfl (by first | exact Or.inl rfl | exact Or.inr rfl) i3)
      (ss_one (s_set (i := 6) S.nd rfl (by first | exact Or.inl rfl | exact Or.inr rfl) (df3 hE G_window_of (hr.mono (by decide)) rfl passR (a_cons (at3 (n3 0) i3 (fun _ _ => rfl)) (a_cons (n3 3) (a_cons (n3 5) (a_cons (n3 2) a_nil))))))))))
    (ss_one (s_frz [4] (s_ret (n3 4))))))))), fun ds Q h => ?_⟩
  obtain ⟨b, qs, k, room, n, rfl, hb0, hb, hk, h61, h1, hqn, hbd, hr0, hr1, hr80, q⟩ := h
  refine seq_step fun N hN => ?_
  simp (config := { maxSteps := 2000000 }) only [seq3, next3, set3, own3, ret3, ifS3, tt3, o3, u3, v3, atV, asS, asB, asD, optP, asT, asLd, asL, atO, consP, nilP, asId, asI, k3, nw3, add3, int3, int0, neg3, eq3, ne3, eqOk, eqv3, notN3, isNone, ix3, ixD, cons3, nil3, call3, cb3, len3, lenD, abs3, max23, min23, sum3, max3, and3, or3, not3, andV3, ch3, tup3, lst3, listN, catN, slL3, no3, part3, isi3', L2.isD, drop3, asg3, gn3, gtup3, gcons3, gnil3, app3, put3, frzS, frz, frz1, for3, itL, itT, itZ, rg1, rg2, comp3, true3, cst3, raise3, start3, shs, Cl.d, Cl.dat, Cl.f, allIn, scal3, Option.map_some, Option.map_none, Option.isSome_some, Option.isSome_none, Option.join_some, Option.join_none, List.all_cons, List.all_nil, Bool.and_true, Bool.true_and, Bool.and_self, Bool.or_false, Bool.false_or, Bool.or_true, Bool.true_or, List.map_cons, List.map_nil, List.length_cons, List.length_nil, Nat.reduceAdd, Nat.reduceSub, Nat.sub_self, List.replicate, List.cons_append, List.nil_append, List.append_nil, List.getElem?_cons_zero, List.getElem?_cons_succ, List.set_cons_zero, List.set_cons_succ, Option.some.injEq, Cl.sh.injEq, Cl.ow.injEq, PyData.int.injEq, PyData.bool.injEq, PyData.str.injEq, PyData.list.injEq, PyData.tuple.injEq, List.cons.injEq, reduceCtorEq, and_assoc, and_true, true_and, and_self, exists_eq_left, exists_eq_left', exists_eq', exists_eq_right, exists_eq_right', exists_and_left, exists_const, exists_false, false_and, and_false, or_false, false_or, or_true, true_or, decide_true, decide_false, decide_eq_true_eq, Bool.not_true, Bool.not_false, Bool.false_eq_true, Bool.true_eq_false, if_true, if_false, ite_true, ite_false, Bool.not_eq_true', decide_eq_false_iff_not, eq_self_iff_true, not_true_eq_false, not_false_eq_true, sz0, sz1, sz2, sz4, sz5, par3, thawN, aug3, augput3, idx3, ext3, itE, tree3, put2, app2, ix2, Cl.tr.injEq, sp_law_cell_at, sp_law_mixed, sp_law_wide, sp_law_spells, sp_law_long, sp_law_quotas, sp_law_row, sp_law_apart, sp_law_ratio, sp_law_bounds, sp_law_due, sp_check_weights, sp_all_turns, sp_check_spells, sp_common_divisor, sp_divisor_of_all, sp_least_bottom, sp_shares_over, sp_quotas, sp_first_turn, sp_window_of, sp_windows_of_clan, sp_windows_within, sp_less, sp_check_bounds, sp_room_at_most, sp_rooms_of, sp_windows, sp_check_row, sp_leads, sp_keeps, sp_law_near, sp_law_in_windows, sp_law, dSs, dS, dI, scal3, dQ, dP, dPs, dRoom, dW, dM, atI0, atI1]
  refine ⟨sz (by rw [List.length_map]; omega), ?_⟩
  refine comp_map dI (fun r => PyData.int (r.getD k 0)) (fun ρ => ∃ t, ρ = [t, some (.sh true (.int k))]) qs ?_ _ _ _ _ ⟨none, rfl⟩ ?_
  · rintro r hr ρ fa acc K ⟨t, rfl⟩ kk
    have hg := atI_getD (xs := r) (i := (k : Int)) (by omega) (by rw [hqn r hr]; omega)
    rw [Int.toNat_natCast] at hg
    simp (config := { maxSteps := 2000000 }) only [seq3, next3, set3, own3, ret3, ifS3, tt3, o3, u3, v3, atV, asS, asB, asD, optP, asT, asLd, asL, atO, consP, nilP, asId, asI, k3, nw3, add3, int3, int0, neg3, eq3, ne3, eqOk, eqv3, notN3, isNone, ix3, ixD, cons3, nil3, call3, cb3, len3, lenD, abs3, max23, min23, sum3, max3, and3, or3, not3, andV3, ch3, tup3, lst3, listN, catN, slL3, no3, part3, isi3', L2.isD, drop3, asg3, gn3, gtup3, gcons3, gnil3, app3, put3, frzS, frz, frz1, for3, itL, itT, itZ, rg1, rg2, comp3, true3, cst3, raise3, start3, shs, Cl.d, Cl.dat, Cl.f, allIn, scal3, Option.map_some, Option.map_none, Option.isSome_some, Option.isSome_none, Option.join_some, Option.join_none, List.all_cons, List.all_nil, Bool.and_true, Bool.true_and, Bool.and_self, Bool.or_false, Bool.false_or, Bool.or_true, Bool.true_or, List.map_cons, List.map_nil, List.length_cons, List.length_nil, Nat.reduceAdd, Nat.reduceSub, Nat.sub_self, List.replicate, List.cons_append, List.nil_append, List.append_nil, List.getElem?_cons_zero, List.getElem?_cons_succ, List.set_cons_zero, List.set_cons_succ, Option.some.injEq, Cl.sh.injEq, Cl.ow.injEq, PyData.int.injEq, PyData.bool.injEq, PyData.str.injEq, PyData.list.injEq, PyData.tuple.injEq, List.cons.injEq, reduceCtorEq, and_assoc, and_true, true_and, and_self, exists_eq_left, exists_eq_left', exists_eq', exists_eq_right, exists_eq_right', exists_and_left, exists_const, exists_false, false_and, and_false, or_false, false_or, or_true, true_or, decide_true, decide_false, decide_eq_true_eq, Bool.not_true, Bool.not_false, Bool.false_eq_true, Bool.true_eq_false, if_true, if_false, ite_true, ite_false, Bool.not_eq_true', decide_eq_false_iff_not, eq_self_iff_true, not_true_eq_false, not_false_eq_true, sz0, sz1, sz2, sz4, sz5, par3, thawN, aug3, augput3, idx3, ext3, itE, tree3, put2, app2, ix2, Cl.tr.injEq, sp_law_cell_at, sp_law_mixed, sp_law_wide, sp_law_spells, sp_law_long, sp_law_quotas, sp_law_row, sp_law_apart, sp_law_ratio, sp_law_bounds, sp_law_due, sp_check_weights, sp_all_turns, sp_check_spells, sp_common_divisor, sp_divisor_of_all, sp_least_bottom, sp_shares_over, sp_quotas, sp_first_turn, sp_window_of, sp_windows_of_clan, sp_windows_within, sp_less, sp_check_bounds, sp_room_at_most, sp_rooms_of, sp_windows, sp_check_row, sp_leads, sp_keeps, sp_law_near, sp_law_in_windows, sp_law, dSs, dS, dI, scal3, dQ, dP, dPs, dRoom, dW, dM, hg]
    exact kk _ ⟨_, rfl⟩
  have hcol : [] ++ qs.map (fun r => PyData.int (r.getD k 0)) = (colOf qs k).map PyData.int := by unfold colOf; rw [List.nil_append, List.map_map]; rfl
  rw [hcol]
  refine hN _ ?_
  clear hN N
  have hcl : (colOf qs k).length = qs.length := by unfold colOf; rw [List.length_map]
  have hcb : ∀ t, (colOf qs k).getD t 0 + room.2 ≤ 80 * b := fun t => by
    unfold colOf
    rw [List.getD_eq_getElem?_getD, List.getElem?_map]
    cases ht : qs[t]? with
    | none =>
      show 0 + room.2 ≤ 80 * b
      omega
    | some r => exact hbd r (List.mem_of_getElem? ht)
  have hM : ∀ j, toldW qs.length (winB b (colOf qs k) room j) → j ≤ 81 := fun j h => told_le (M := 80) hb0 (by omega) hcb hr1 hr0 j (by rw [hcl]; exact h)
  refine seq_step fun N hN => ?_
  walk_at "rd"
  refine hN _ ?_
  clear hN N
  refine seq_step fun N hN => ?_
  walk_at "rd"
  refine hN _ ?_
  clear hN N
  refine seq_step fun N hN => ?_
  simp (config := { maxSteps := 2000000 }) only [seq3, next3, set3, own3, ret3, ifS3, tt3, o3, u3, v3, atV, asS, asB, asD, optP, asT, asLd, asL, atO, consP, nilP, asId, asI, k3, nw3, add3, int3, int0, neg3, eq3, ne3, eqOk, eqv3, notN3, isNone, ix3, ixD, cons3, nil3, call3, cb3, len3, lenD, abs3, max23, min23, sum3, max3, and3, or3, not3, andV3, ch3, tup3, lst3, listN, catN, slL3, no3, part3, isi3', L2.isD, drop3, asg3, gn3, gtup3, gcons3, gnil3, app3, put3, frzS, frz, frz1, for3, itL, itT, itZ, rg1, rg2, comp3, true3, cst3, raise3, start3, shs, Cl.d, Cl.dat, Cl.f, allIn, scal3, Option.map_some, Option.map_none, Option.isSome_some, Option.isSome_none, Option.join_some, Option.join_none, List.all_cons, List.all_nil, Bool.and_true, Bool.true_and, Bool.and_self, Bool.or_false, Bool.false_or, Bool.or_true, Bool.true_or, List.map_cons, List.map_nil, List.length_cons, List.length_nil, Nat.reduceAdd, Nat.reduceSub, Nat.sub_self, List.replicate, List.cons_append, List.nil_append, List.append_nil, List.getElem?_cons_zero, List.getElem?_cons_succ, List.set_cons_zero, List.set_cons_succ, Option.some.injEq, Cl.sh.injEq, Cl.ow.injEq, PyData.int.injEq, PyData.bool.injEq, PyData.str.injEq, PyData.list.injEq, PyData.tuple.injEq, List.cons.injEq, reduceCtorEq, and_assoc, and_true, true_and, and_self, exists_eq_left, exists_eq_left', exists_eq', exists_eq_right, exists_eq_right', exists_and_left, exists_const, exists_false, false_and, and_false, or_false, false_or, or_true, true_or, decide_true, decide_false, decide_eq_true_eq, Bool.not_true, Bool.not_false, Bool.false_eq_true, Bool.true_eq_false, if_true, if_false, ite_true, ite_false, Bool.not_eq_true', decide_eq_false_iff_not, eq_self_iff_true, not_true_eq_false, not_false_eq_true, sz0, sz1, sz2, sz4, sz5, par3, thawN, aug3, augput3, idx3, ext3, itE, tree3, put2, app2, ix2, Cl.tr.injEq, sp_law_cell_at, sp_law_mixed, sp_law_wide, sp_law_spells, sp_law_long, sp_law_quotas, sp_law_row, sp_law_apart, sp_law_ratio, sp_law_bounds, sp_law_due, sp_check_weights, sp_all_turns, sp_check_spells, sp_common_divisor, sp_divisor_of_all, sp_least_bottom, sp_shares_over, sp_quotas, sp_first_turn, sp_window_of, sp_windows_of_clan, sp_windows_within, sp_less, sp_check_bounds, sp_room_at_most, sp_rooms_of, sp_windows, sp_check_row, sp_leads, sp_keeps, sp_law_near, sp_law_in_windows, sp_law, dSs, dS, dI, scal3, dQ, dP, dPs, dRoom, dW, dM, atI0, atI1]
  refine ⟨colOf qs k, rfl, room, rfl, rfl, by omega, by omega, hb, Bits.lit (x := 1) 64, hN _ ?_⟩
  clear hN N
  walk_at "rd"
  refine ⟨_, while_by (fun m ρ => ∃ (ws : List Win) (j : Int), ρ = [some (.sh false (.tuple [.int b, .list (qs.map dI)])), some (.sh true (.int k)), some (.sh false (.tuple [.int room.1, .int room.2])), some (.sh true (.list ((colOf qs k).map .int))), some (.ow true (ws.map dW)), some (.sh true (.int j)), some (.sh true (.tuple [.int (winB b (colOf qs k) room j).1, dO (winB b (colOf qs k) room j).2]))] ∧ 1 ≤ j ∧ j ≤ 82 ∧ (ws.length : Int) = j - 1 ∧ (∀ us, IsW qs.length k (winB b (colOf qs k) room) j us → IsW qs.length k (winB b (colOf qs k) room) 1 (ws ++ us)) ∧ m = (82 - j).toNat) ?_ _ _ ⟨[], 1, rfl, by decide, by decide, rfl, fun us h => h, rfl⟩⟩
  rintro m ρ ⟨ws, j, rfl, hj1, hj2, hlen, hpre, rfl⟩ W hW
  simp (config := { maxSteps := 2000000 }) only [seq3, next3, set3, own3, ret3, ifS3, tt3, o3, u3, v3, atV, asS, asB, asD, optP, asT, asLd, asL, atO, consP, nilP, asId, asI, k3, nw3, add3, int3, int0, neg3, eq3, ne3, eqOk, eqv3, notN3, isNone, ix3, ixD, cons3, nil3, call3, cb3, len3, lenD, abs3, max23, min23, sum3, max3, and3, or3, not3, andV3, ch3, tup3, lst3, listN, catN, slL3, no3, part3, isi3', L2.isD, drop3, asg3, gn3, gtup3, gcons3, gnil3, app3, put3, frzS, frz, frz1, for3, itL, itT, itZ, rg1, rg2, comp3, true3, cst3, raise3, start3, shs, Cl.d, Cl.dat, Cl.f, allIn, scal3, Option.map_some, Option.map_none, Option.isSome_some, Option.isSome_none, Option.join_some, Option.join_none, List.all_cons, List.all_nil, Bool.and_true, Bool.true_and, Bool.and_self, Bool.or_false, Bool.false_or, Bool.or_true, Bool.true_or, List.map_cons, List.map_nil, List.length_cons, List.length_nil, Nat.reduceAdd, Nat.reduceSub, Nat.sub_self, List.replicate, List.cons_append, List.nil_append, List.append_nil, List.getElem?_cons_zero, List.getElem?_cons_succ, List.set_cons_zero, List.set_cons_succ, Option.some.injEq, Cl.sh.injEq, Cl.ow.injEq, PyData.int.injEq, PyData.bool.injEq, PyData.str.injEq, PyData.list.injEq, PyData.tuple.injEq, List.cons.injEq, reduceCtorEq, and_assoc, and_true, true_and, and_self, exists_eq_left, exists_eq_left', exists_eq', exists_eq_right, exists_eq_right', exists_and_left, exists_const, exists_false, false_and, and_false, or_false, false_or, or_true, true_or, decide_true, decide_false, decide_eq_true_eq, Bool.not_true, Bool.not_false, Bool.false_eq_true, Bool.true_eq_false, if_true, if_false, ite_true, ite_false, Bool.not_eq_true', decide_eq_false_iff_not, eq_self_iff_true, not_true_eq_false, not_false_eq_true, sz0, sz1, sz2, sz4, sz5, par3, thawN, aug3, augput3, idx3, ext3, itE, tree3, put2, app2, ix2, Cl.tr.injEq, sp_law_cell_at, sp_law_mixed, sp_law_wide, sp_law_spells, sp_law_long, sp_law_quotas, sp_law_row, sp_law_apart, sp_law_ratio, sp_law_bounds, sp_law_due, sp_check_weights, sp_all_turns, sp_check_spells, sp_common_divisor, sp_divisor_of_all, sp_least_bottom, sp_shares_over, sp_quotas, sp_first_turn, sp_window_of, sp_windows_of_clan, sp_windows_within, sp_less, sp_check_bounds, sp_room_at_most, sp_rooms_of, sp_windows, sp_check_row, sp_leads, sp_keeps, sp_law_near, sp_law_in_windows, sp_law, dSs, dS, dI, scal3, dQ, dP, dPs, dRoom, dW, dM, atI0, atI1]
  rw [List.length_map, hcl]
  have step : toldW qs.length (winB b (colOf qs k) room j) → W [some (.sh false (.tuple [.int b, .list (qs.map dI)])), some (.sh true (.int k)), some (.sh false (.tuple [.int room.1, .int room.2])), some (.sh true (.list ((colOf qs k).map .int))), some (.ow true (ws.map dW ++ [.tuple [.int k, .int j, .int (winB b (colOf qs k) room j).1, dO (winB b (colOf qs k) room j).2]])), some (.sh true (.int (j + 1))), some (.sh true (.tuple [.int (winB b (colOf qs k) room (j + 1)).1, dO (winB b (colOf qs k) room (j + 1)).2]))] := fun ht => by
    have hj := hM j ht
    refine hW (82 - (j + 1)).toNat _ (by omega) ⟨ws ++ [((k : Int), j, (winB b (colOf qs k) room j).1, (winB b (colOf qs k) room j).2)], j + 1, by rw [List.map_append]; rfl, by omega, by omega, by rw [List.length_append]; simp; omega, fun us h => ?_, rfl⟩
    have := hpre (((k : Int), j, (winB b (colOf qs k) room j).1, (winB b (colOf qs k) room j).2) :: us) ⟨ht, rfl, h⟩
    simpa using this
  have hsz : (List.map dW ws).length < sizeLine := Nat.lt_of_lt_of_le (show _ < 1000 by rw [List.length_map]; omega) (by decide)
  have hbj : Bits 64 (j + 1) := Bits.lit (x := j + 1) 64 (by omega)
  by_cases ho : (winB b (colOf qs k) room j).1 < (qs.length : Int)
  · rw [if_pos ho]
    exact ⟨hsz, _, rfl, room, rfl, rfl, by omega, by omega, hb, hbj, step (.inl ho)⟩
  · rw [if_neg ho]
    change if isNone (Cl.sh true (dO (winB b (colOf qs k) room j).2)) = false then _ else _
    rw [isNone_dO]
    by_cases hs : (winB b (colOf qs k) room j).2 = none
    · rw [if_neg (by rw [hs]; decide)]
      have := hpre [] (fun z => z.elim ho fun y => y hs)
      rw [List.append_nil] at this
      exact q ws this (by omega)
    · rw [if_pos (by cases h : (winB b (colOf qs k) room j).2 with | none => exact absurd h hs | some i => rfl)]
      exact ⟨hsz, _, rfl, room, rfl, rfl, by omega, by omega, hb, hbj, step (.inr hs)⟩
theorem ok_windows_of_clan (T : Txt c K mg) (G_window_of : Df3 P w K mg base 2 "window_of" ["bottom", "path", "j", "room"] sp_window_of) : Df3 P w K mg base 3 "windows_of_clan" ["told", "clan", "room"] sp_windows_of_clan := by
  obtain ⟨f, fd, F, hm⟩ := T.d_windows_of_clan
  have hb := F.binds (ps := ["told", "clan", "room"]) fun _ _ _ _ _ _ us hl => by obtain ⟨_, _, _, rfl⟩ := arity3 hl; rfl
  refine ⟨fun ds Q Q' E E' hQ hE h => ?_, ⟨f, fd, fn_windows_of_clan T G_window_of F, hb, F.kp, hm⟩⟩
  obtain ⟨a, b, d, n, m, e, x1, x2, x3, x4, x5, x6, x7, x8, x9, x10, h⟩ := h; exact ⟨a, b, d, n, m, e, x1, x2, x3, x4, x5, x6, x7, x8, x9, x10, fun w y z => hQ _ _ (h w y z)⟩
theorem sc_windows_within : FnScope ["told", "rooms", "found", "clan", "room"] ["told", "rooms"] (defScope s_windows_within) := ⟨rfl, rfl, rfl, by decide +kernel, rfl, by decide +kernel, by decide +kernel⟩
set_option maxHeartbeats 4000000 in
theorem fn_windows_within (T : Txt c K mg) (G_windows_of_clan : Df3 P w K mg base 3 "windows_of_clan" ["told", "clan", "room"] sp_windows_of_clan) {f : Addr} {fd : FuncData} (F : Fun K "windows_within" "windows_within" s_windows_within f fd) : FnOk P w K mg base (CXR P w) 4 f fd ["told", "rooms"] (spL K sp_windows_within) := by
  have S := sc_windows_within
  refine fn3 F S (fun ds Q E h => ?_) (fun cdv A outer s H E E3 hE hr => ?_)
  · obtain ⟨_, _, _, _, rfl, _⟩ := h; rfl
  refine ⟨_, (ss_cons (s_own (i := 2) S.nd rfl (by first | exact Or.inl rfl | exact Or.inr rfl) (lst3_ok a_nil))
    (ss_cons (s_for PassesOwn.leaving rfl (it_enumerate rfl T.n_enumerate (a_cons (n3 1) a_nil)) (t_tup (n := 2) rfl (ts_cons (t_name (i := 3) S.nd rfl (by first | exact Or.inl rfl | exact Or.inr rfl)) (ts_cons (t_name (i := 4) S.nd rfl (by first | exact Or.inl rfl | exact Or.inr rfl)) ts_nil))) (ss_one (s_extend (i := 2) rfl (by first | exact Or.inl rfl | exact Or.inr (Or.inl rfl) | exact Or.inr (Or.inr rfl)) (df3 hE G_windows_of_clan (hr.mono (by decide)) rfl passR (a_cons (n3 0) (a_cons (n3 3) (a_cons (n3 4) a_nil)))))))
    (ss_one (s_frz [2] (s_ret (n3 2)))))), fun ds Q h => ?_⟩
  obtain ⟨b, qs, rooms, n, rfl, hb0, hb, hrl, hn8, h61, h1, hqn, hq60, hrm, q⟩ := h
  walk_at "rd"
  have he : enumD (rooms.map dRoom) = (List.range n).map fun i => PyData.tuple [PyData.int (i : Nat), dRoom (rooms.getD i (0, 0))] := by
    unfold enumD
    rw [List.length_map, hrl]
    apply List.map_congr_left
    intro i hi
    have := List.mem_range.mp hi
    rw [List.getD_eq_getElem?_getD, List.getElem?_map, List.getD_eq_getElem?_getD, List.getElem?_eq_getElem (by omega)]; rfl
  rw [he]
  refine for_enum (fun k ρ => ∃ (W : List (List Win)) (t u : Option L3.Cl), ρ = [some (.sh false (.tuple [.int b, .list (qs.map dI)])), some (.sh false (.list (rooms.map dRoom))), some (.ow true (W.flatten.map dW)), t, u] ∧ W.length = k ∧ (∀ i, i < k → IsW qs.length i (winB b (colOf qs i) (rooms.getD i (0, 0))) 1 (W.getD i [])) ∧ W.flatten.length ≤ 200 * k) ?_ ?_ ⟨[], none, none, rfl, rfl, fun i h => absurd h (by omega), by simp⟩
  · rintro k ρ hk ⟨W, t, u, rfl, hWl, hWi, hWf⟩ W' hW'
    have hrk := hrm (rooms.getD k (0, 0)) (by rw [List.getD_eq_getElem?_getD, List.getElem?_eq_getElem (by omega)]; exact List.getElem_mem _)
    have hbd : ∀ r ∈ qs, r.getD k 0 + (rooms.getD k (0, 0)).2 ≤ 80 * b := fun r hr => by
      have h1 := hq60 r hr (r.getD k 0) (by
        rw [List.getD_eq_getElem?_getD, List.getElem?_eq_getElem (by rw [hqn r hr]; exact hk)]; exact List.getElem_mem _)
      omega
    walk_at "rd"
    refine ⟨qs, rfl, k, rfl, rooms.getD k (0, 0), rfl, rfl, hb0, hb, n, hk, h61, h1, hqn, hbd, hrk.1, hrk.2.1, by omega, fun ws hws hwl => ⟨sz (by rw [List.length_map, List.length_map]; omega), ?_⟩⟩
    have ef : (W ++ [ws]).flatten = W.flatten ++ ws := by rw [List.flatten_append]; simp
    rw [← List.map_append, ← ef]
    refine hW' _ ⟨W ++ [ws], _, _, rfl, by simp [hWl], fun i hi => ?_, by rw [ef, List.length_append]; omega⟩
    by_cases e : i = k
    · subst e
      have g1 : (W ++ [ws]).getD i [] = ws := by rw [← hWl]; simp
      rw [g1]; exact hws
    · have g2 : (W ++ [ws]).getD i [] = W.getD i [] := by
        have hlt : i < W.length := by omega
        simp [List.getElem?_append_left hlt]
      rw [g2]; exact hWi i (by omega)
  · rintro ρ ⟨W, t, u, rfl, hWl, hWi, hWf⟩
    walk_at "rd"
    exact q W hWl hWi (by omega)
theorem ok_windows_within (T : Txt c K mg) (G_windows_of_clan : Df3 P w K mg base 3 "windows_of_clan" ["told", "clan", "room"] sp_windows_of_clan) : Df3 P w K mg base 4 "windows_within" ["told", "rooms"] sp_windows_within := by
  obtain ⟨f, fd, F, hm⟩ := T.d_windows_within
  have hb := F.binds (ps := ["told", "rooms"]) fun _ _ _ _ _ _ us hl => by obtain ⟨_, _, rfl⟩ := arity2 hl; rfl
  refine ⟨fun ds Q Q' E E' hQ hE h => ?_, ⟨f, fd, fn_windows_within T G_windows_of_clan F, hb, F.kp, hm⟩⟩
  obtain ⟨a, b, d, n, e, x1, x2, x3, x4, x5, x6, x7, x8, x9, h⟩ := h; exact ⟨a, b, d, n, e, x1, x2, x3, x4, x5, x6, x7, x8, x9, fun w x y z => hQ _ _ (h w x y z)⟩
theorem sc_less : FnScope ["one", "other"] ["one", "other"] (defScope s_less) := ⟨rfl, rfl, rfl, by decide +kernel, rfl, by decide +kernel, by decide +kernel⟩
set_option maxHeartbeats 4000000 in
theorem fn_less (T : Txt c K mg)  {f : Addr} {fd : FuncData} (F : Fun K "less" "less" s_less f fd) : FnOk P w K mg base (CXR P w) 1 f fd ["one", "other"] (spL K sp_less) := by
  have S := sc_less
  refine fn3 F S (fun ds Q E h => ?_) (fun cdv A outer s H E E3 hE hr => ?_)
  · obtain ⟨_, _, rfl, _⟩ := h; rfl
  refine ⟨_, (ss_one (s_ret (cmp3 lt_ok (op3 mul_ok (at3 (n3 0) i3 (fun _ _ => rfl)) (at3 (n3 1) i3 (fun _ _ => rfl))) (op3 mul_ok (at3 (n3 1) i3 (fun _ _ => rfl)) (at3 (n3 0) i3 (fun _ _ => rfl))) (nomark _)))), fun ds Q h => ?_⟩
  obtain ⟨a, b, rfl, ha, hb, q⟩ := h
  simp (config := { maxSteps := 2000000 }) only [seq3, next3, set3, own3, ret3, ifS3, tt3, o3, u3, v3, atV, asS, asB, asD, optP, asT, asLd, asL, atO, consP, nilP, asId, asI, k3, nw3, add3, int3, int0, neg3, eq3, ne3, eqOk, eqv3, notN3, isNone, ix3, ixD, cons3, nil3, call3, cb3, len3, lenD, abs3, max23, min23, sum3, max3, and3, or3, not3, andV3, ch3, tup3, lst3, listN, catN, slL3, no3, part3, isi3', L2.isD, drop3, asg3, gn3, gtup3, gcons3, gnil3, app3, put3, frzS, frz, frz1, for3, itL, itT, itZ, rg1, rg2, comp3, true3, cst3, raise3, start3, shs, Cl.d, Cl.dat, Cl.f, allIn, scal3, Option.map_some, Option.map_none, Option.isSome_some, Option.isSome_none, Option.join_some, Option.join_none, List.all_cons, List.all_nil, Bool.and_true, Bool.true_and, Bool.and_self, Bool.or_false, Bool.false_or, Bool.or_true, Bool.true_or, List.map_cons, List.map_nil, List.length_cons, List.length_nil, Nat.reduceAdd, Nat.reduceSub, Nat.sub_self, List.replicate, List.cons_append, List.nil_append, List.append_nil, List.getElem?_cons_zero, List.getElem?_cons_succ, List.set_cons_zero, List.set_cons_succ, Option.some.injEq, Cl.sh.injEq, Cl.ow.injEq, PyData.int.injEq, PyData.bool.injEq, PyData.str.injEq, PyData.list.injEq, PyData.tuple.injEq, List.cons.injEq, reduceCtorEq, and_assoc, and_true, true_and, and_self, exists_eq_left, exists_eq_left', exists_eq', exists_eq_right, exists_eq_right', exists_and_left, exists_const, exists_false, false_and, and_false, or_false, false_or, or_true, true_or, decide_true, decide_false, decide_eq_true_eq, Bool.not_true, Bool.not_false, Bool.false_eq_true, Bool.true_eq_false, if_true, if_false, ite_true, ite_false, Bool.not_eq_true', decide_eq_false_iff_not, eq_self_iff_true, not_true_eq_false, not_false_eq_true, sz0, sz1, sz2, sz4, sz5, par3, thawN, aug3, augput3, idx3, ext3, itE, tree3, put2, app2, ix2, Cl.tr.injEq, sp_law_cell_at, sp_law_mixed, sp_law_wide, sp_law_spells, sp_law_long, sp_law_quotas, sp_law_row, sp_law_apart, sp_law_ratio, sp_law_bounds, sp_law_due, sp_check_weights, sp_all_turns, sp_check_spells, sp_common_divisor, sp_divisor_of_all, sp_least_bottom, sp_shares_over, sp_quotas, sp_first_turn, sp_window_of, sp_windows_of_clan, sp_windows_within, sp_less, sp_check_bounds, sp_room_at_most, sp_rooms_of, sp_windows, sp_check_row, sp_leads, sp_keeps, sp_law_near, sp_law_in_windows, sp_law, dSs, dS, dI, scal3, dQ, dP, dPs, dRoom, dW, dM, atI0, atI1]
  exact ⟨ha.2.1.mulOk hb.2.2 (by decide), hb.2.1.mulOk ha.2.2 (by decide), q⟩
theorem ok_less (T : Txt c K mg)  : Df3 P w K mg base 1 "less" ["one", "other"] sp_less := by
  obtain ⟨f, fd, F, hm⟩ := T.d_less
  have hb := F.binds (ps := ["one", "other"]) fun _ _ _ _ _ _ us hl => by obtain ⟨_, _, rfl⟩ := arity2 hl; rfl
  refine ⟨fun ds Q Q' E E' hQ hE h => ?_, ⟨f, fd, fn_less T  F, hb, F.kp, hm⟩⟩
  obtain ⟨a, b, e, x, y, h⟩ := h; exact ⟨a, b, e, x, y, hQ _ _ h⟩
theorem sc_check_bounds : FnScope ["bounds", "clans", "below", "above", "bound"] ["bounds", "clans"] (defScope s_check_bounds) := ⟨rfl, rfl, rfl, by decide +kernel, rfl, by decide +kernel, by decide +kernel⟩
set_option maxHeartbeats 4000000 in
theorem fn_check_bounds (T : Txt c K mg) (G_less : Df3 P w K mg base 1 "less" ["one", "other"] sp_less) {f : Addr} {fd : FuncData} (F : Fun K "check_bounds" "check_bounds" s_check_bounds f fd) : FnOk P w K mg base (CXR P w) 2 f fd ["bounds", "clans"] (spL K (sp_check_bounds c)) := by
  have S := sc_check_bounds
  refine fn3 F S (fun ds Q E h => ?_) (fun cdv A outer s H E E3 hE hr => ?_)
  · obtain ⟨_, _, rfl, _⟩ := h; rfl
  refine ⟨_, (ss_cons (s_if (tcmp3 (ne_ok hr.units) (callB3 len_ok rfl T.n_len bo_len (a_cons (n3 0) a_nil)) (n3 1) (nomark _)) (ss_one (s_raise hE fliesR rfl rfl T.m_NoBounds T.e_NoBounds (a_cons s3 a_nil))) ss_nil)
    (ss_one (s_for PassesOwn.leaving rfl (it_list (n3 0)) (t_tup (n := 2) rfl (ts_cons (t_name (i := 2) S.nd rfl (by first | exact Or.inl rfl | exact Or.inr rfl)) (ts_cons (t_name (i := 3) S.nd rfl (by first | exact Or.inl rfl | exact Or.inr rfl)) ts_nil))) (ss_one (s_for PassesOwn.leaving rfl (it_tup (tup3_ok (a_cons (n3 2) (a_cons (n3 3) a_nil)))) (t_name (i := 4) S.nd rfl (by first | exact Or.inl rfl | exact Or.inr rfl)) (ss_one (s_if (pw3 (or3_ok (val3 (df3 hE G_less (hr.mono (by decide)) rfl passR (a_cons (n3 4) (a_cons (g3t rfl T.m_LEAST_BOUND) a_nil)))) (or1_3 (val3 (df3 hE G_less (hr.mono (by decide)) rfl passR (a_cons (g3t rfl T.m_MOST_BOUND) (a_cons (n3 4) a_nil))))))) (ss_one (s_raise hE fliesR rfl rfl T.m_NoBounds T.e_NoBounds (a_cons s3 a_nil))) ss_nil))))))), fun ds Q h => ?_⟩
  obtain ⟨l, n, rfl, hq, q, hE'⟩ := h
  walk_at "rd"
  rw [List.length_map]
  by_cases h1 : (l.length : Int) = n
  case neg => rw [if_pos h1]; exact hE' fun z => h1 (by rw [z.1])
  rw [if_neg (fun z => z h1)]
  refine for_list dP l (fun done ρ => ∃ t u v, ρ = [some (.sh false (.list (l.map dP))), some (.sh true (.int n)), t, u, v] ∧ ∀ p ∈ done, inQ p.1 ∧ inQ p.2) ?_ ?_ ⟨none, none, none, rfl, fun x h => by cases h⟩
  · rintro done x rest ρ hd ⟨t, u, v, rfl, hall⟩ W hW
    have hx : x ∈ l := by rw [hd]; simp
    obtain ⟨hx1, hx2⟩ := hq x hx
    walk_at "rd"
    refine for_list dQ [x.1, x.2] (fun done' ρ => ∃ v, ρ = [some (.sh false (.list (l.map dP))), some (.sh true (.int n)), some (.sh false (dQ x.1)), some (.sh false (dQ x.2)), v] ∧ ∀ r ∈ done', inQ r) ?_ ?_ ⟨_, rfl, fun x h => by cases h⟩
    · rintro done' r rest' ρ hd' ⟨v, rfl, hall'⟩ W' hW'
      have hr : okQ r := by
        have : r ∈ [x.1, x.2] := by rw [hd']; simp
        rcases List.mem_cons.mp this with z | z
        · rw [z]; exact hx1
        · rw [List.mem_singleton.mp z]; exact hx2
      have hrb : inQ r ∨ ¬ okB n l := by
        by_cases z : inQ r
        · exact .inl z
        · right
          intro y
          have : r ∈ [x.1, x.2] := by rw [hd']; simp
          rcases List.mem_cons.mp this with w | w
          · rw [w] at z; exact z (y.2 x hx).1
          · rw [List.mem_singleton.mp w] at z; exact z (y.2 x hx).2
      have o01 : okQ (0, 1) := ⟨by decide, Bits.lit (x := 0) 1200, Bits.lit (x := 1) 1200⟩
      have o10 : okQ (10, 1) := ⟨by decide, Bits.lit (x := 10) 1200, Bits.lit (x := 1) 1200⟩
      walk_at "rd"
      refine ⟨r, rfl, rfl, (0, 1), rfl, rfl, hr, o01, ite2 (fun h => hE' (hrb.elim (fun z => absurd h (by have := z.1; show ¬ r.1 * 1 < 0 * r.2; omega)) id)) fun h => ⟨(10, 1), rfl, rfl, r, rfl, rfl, o10, hr, ite2 (fun h2 => hE' (hrb.elim (fun z => absurd h2 (by have := z.2; show ¬ 10 * r.2 < r.1 * 1; omega)) id)) fun h2 => hW' _ ⟨_, rfl, fun y hy => ?_⟩⟩⟩
      rcases List.mem_append.mp hy with z | z
      · exact hall' y z
      · rw [List.mem_singleton.mp z]
        have e1 : ¬ r.1 * 1 < 0 * r.2 := h
        have e2 : ¬ 10 * r.2 < r.1 * 1 := h2
        exact ⟨by omega, by omega⟩
    · rintro ρ ⟨v, rfl, hall'⟩
      exact hW _ ⟨_, _, _, rfl, fun p hp => by
        rcases List.mem_append.mp hp with z | z
        · exact hall p z
        · rw [List.mem_singleton.mp z]; exact ⟨hall' _ (by simp), hall' _ (by simp)⟩⟩
  · rintro ρ ⟨t, u, v, rfl, hall⟩
    exact q ⟨by omega, hall⟩
theorem ok_check_bounds (T : Txt c K mg) (G_less : Df3 P w K mg base 1 "less" ["one", "other"] sp_less) : Df3 P w K mg base 2 "check_bounds" ["bounds", "clans"] (sp_check_bounds c) := by
  obtain ⟨f, fd, F, hm⟩ := T.d_check_bounds
  have hb := F.binds (ps := ["bounds", "clans"]) fun _ _ _ _ _ _ us hl => by obtain ⟨_, _, rfl⟩ := arity2 hl; rfl
  refine ⟨fun ds Q Q' E E' hQ hE h => ?_, ⟨f, fd, fn_check_bounds T G_less F, hb, F.kp, hm⟩⟩
  obtain ⟨a, b, e, x, h1, h2⟩ := h; exact ⟨a, b, e, x, fun z => hQ _ _ (h1 z), fun z => hE _ (h2 z)⟩
theorem sc_room_at_most : FnScope ["bottom", "bound"] ["bottom", "bound"] (defScope s_room_at_most) := ⟨rfl, rfl, rfl, by decide +kernel, rfl, by decide +kernel, by decide +kernel⟩
set_option maxHeartbeats 4000000 in
theorem fn_room_at_most (T : Txt c K mg)  {f : Addr} {fd : FuncData} (F : Fun K "room_at_most" "room_at_most" s_room_at_most f fd) : FnOk P w K mg base (CXR P w) 1 f fd ["bottom", "bound"] (spL K sp_room_at_most) := by
  have S := sc_room_at_most
  refine fn3 F S (fun ds Q E h => ?_) (fun cdv A outer s H E E3 hE hr => ?_)
  · obtain ⟨_, _, rfl, _⟩ := h; rfl
  refine ⟨_, (ss_one (s_ret (op3 fdiv_ok (op3 mul_ok (at3 (n3 1) i3 (fun _ _ => rfl)) (n3 0)) (at3 (n3 1) i3 (fun _ _ => rfl))))), fun ds Q h => ?_⟩
  obtain ⟨b, r, rfl, hb, hr, q⟩ := h
  simp (config := { maxSteps := 2000000 }) only [seq3, next3, set3, own3, ret3, ifS3, tt3, o3, u3, v3, atV, asS, asB, asD, optP, asT, asLd, asL, atO, consP, nilP, asId, asI, k3, nw3, add3, int3, int0, neg3, eq3, ne3, eqOk, eqv3, notN3, isNone, ix3, ixD, cons3, nil3, call3, cb3, len3, lenD, abs3, max23, min23, sum3, max3, and3, or3, not3, andV3, ch3, tup3, lst3, listN, catN, slL3, no3, part3, isi3', L2.isD, drop3, asg3, gn3, gtup3, gcons3, gnil3, app3, put3, frzS, frz, frz1, for3, itL, itT, itZ, rg1, rg2, comp3, true3, cst3, raise3, start3, shs, Cl.d, Cl.dat, Cl.f, allIn, scal3, Option.map_some, Option.map_none, Option.isSome_some, Option.isSome_none, Option.join_some, Option.join_none, List.all_cons, List.all_nil, Bool.and_true, Bool.true_and, Bool.and_self, Bool.or_false, Bool.false_or, Bool.or_true, Bool.true_or, List.map_cons, List.map_nil, List.length_cons, List.length_nil, Nat.reduceAdd, Nat.reduceSub, Nat.sub_self, List.replicate, List.cons_append, List.nil_append, List.append_nil, List.getElem?_cons_zero, List.getElem?_cons_succ, List.set_cons_zero, List.set_cons_succ, Option.some.injEq, Cl.sh.injEq, Cl.ow.injEq, PyData.int.injEq, PyData.bool.injEq, PyData.str.injEq, PyData.list.injEq, PyData.tuple.injEq, List.cons.injEq, reduceCtorEq, and_assoc, and_true, true_and, and_self, exists_eq_left, exists_eq_left', exists_eq', exists_eq_right, exists_eq_right', exists_and_left, exists_const, exists_false, false_and, and_false, or_false, false_or, or_true, true_or, decide_true, decide_false, decide_eq_true_eq, Bool.not_true, Bool.not_false, Bool.false_eq_true, Bool.true_eq_false, if_true, if_false, ite_true, ite_false, Bool.not_eq_true', decide_eq_false_iff_not, eq_self_iff_true, not_true_eq_false, not_false_eq_true, sz0, sz1, sz2, sz4, sz5, par3, thawN, aug3, augput3, idx3, ext3, itE, tree3, put2, app2, ix2, Cl.tr.injEq, sp_law_cell_at, sp_law_mixed, sp_law_wide, sp_law_spells, sp_law_long, sp_law_quotas, sp_law_row, sp_law_apart, sp_law_ratio, sp_law_bounds, sp_law_due, sp_check_weights, sp_all_turns, sp_check_spells, sp_common_divisor, sp_divisor_of_all, sp_least_bottom, sp_shares_over, sp_quotas, sp_first_turn, sp_window_of, sp_windows_of_clan, sp_windows_within, sp_less, sp_check_bounds, sp_room_at_most, sp_rooms_of, sp_windows, sp_check_row, sp_leads, sp_keeps, sp_law_near, sp_law_in_windows, sp_law, dSs, dS, dI, scal3, dQ, dP, dPs, dRoom, dW, dM, atI0, atI1]
  exact ⟨hr.2.1.mulOk hb (by decide), ⟨hr.1, hr.2.2.mono (by decide)⟩, q⟩
theorem ok_room_at_most (T : Txt c K mg)  : Df3 P w K mg base 1 "room_at_most" ["bottom", "bound"] sp_room_at_most := by
  obtain ⟨f, fd, F, hm⟩ := T.d_room_at_most
  have hb := F.binds (ps := ["bottom", "bound"]) fun _ _ _ _ _ _ us hl => by obtain ⟨_, _, rfl⟩ := arity2 hl; rfl
  refine ⟨fun ds Q Q' E E' hQ hE h => ?_, ⟨f, fd, fn_room_at_most T  F, hb, F.kp, hm⟩⟩
  obtain ⟨a, b, e, x, y, h⟩ := h; exact ⟨a, b, e, x, y, hQ _ _ h⟩
theorem sc_rooms_of : FnScope ["told", "bounds", "bottom"] ["told", "bounds"] (defScope s_rooms_of) := ⟨rfl, rfl, rfl, by decide +kernel, rfl, by decide +kernel, by decide +kernel⟩
set_option maxHeartbeats 4000000 in
theorem fn_rooms_of (T : Txt c K mg) (G_check_bounds : Df3 P w K mg base 2 "check_bounds" ["bounds", "clans"] (sp_check_bounds c)) (G_room_at_most : Df3 P w K mg base 1 "room_at_most" ["bottom", "bound"] sp_room_at_most) {f : Addr} {fd : FuncData} (F : Fun K "rooms_of" "rooms_of" s_rooms_of f fd) : FnOk P w K mg base (CXR P w) 3 f fd ["told", "bounds"] (spL K (sp_rooms_of c)) := by
  have S := sc_rooms_of
  refine fn3 F S (fun ds Q E h => ?_) (fun cdv A outer s H E E3 hE hr => ?_)
  · obtain ⟨_, _, _, _, rfl, _⟩ := h; rfl
  refine ⟨_, (ss_cons (s_set (i := 2) S.nd rfl (by first | exact Or.inl rfl | exact Or.inr rfl) (at3 (n3 0) i3 (fun _ _ => rfl)))
    (ss_cons (s_expr (df3 hE G_check_bounds (hr.mono (by decide)) rfl passR (a_cons (n3 1) (a_cons (callB3 len_ok rfl T.n_len bo_len (a_cons (at3 (at3 (n3 0) i3 (fun _ _ => rfl)) i3 (fun _ _ => rfl)) a_nil)) a_nil))))
    (ss_one (s_ret (new3 (comp_ok ["below", "above"] ["bottom"] [2] rfl (compSc (osc := defScope s_rooms_of) (by decide +kernel)) rfl (it_list (n3 1)) (fun H0 s H fp cl => ⟨(t_tup (n := 2) rfl (ts_cons (t_name (i := 0) (show ((["below", "above"] : List PySem.Str) ++ (["bottom"] : List PySem.Str)).Nodup by decide) rfl (by first | exact Or.inl rfl | exact Or.inr rfl)) (ts_cons (t_name (i := 1) (show ((["below", "above"] : List PySem.Str) ++ (["bottom"] : List PySem.Str)).Nodup by decide) rfl (by first | exact Or.inl rfl | exact Or.inr rfl)) ts_nil))), pt_nil, (tup3_ok (a_cons (df3 (E := fun _ _ _ => False) (E3 := fun _ => False) (fun _ _ z _ => z) G_room_at_most (hr.mono (by decide)) rfl pass_no (a_cons (n3 2) (a_cons (n3 0) a_nil))) (a_cons (df3 (E := fun _ _ _ => False) (E3 := fun _ => False) (fun _ _ z _ => z) G_room_at_most (hr.mono (by decide)) rfl pass_no (a_cons (n3 2) (a_cons (n3 1) a_nil))) a_nil)))⟩))))))), fun ds Q h => ?_⟩
  obtain ⟨b, qs, l, n, rfl, hb, hq1, hqn, hn8, hl, hq, q, hE'⟩ := h
  have hd0 : atI (qs.map dI) 0 = some (PyData.list (qs[0].map PyData.int)) := atI_row (i := 0) (by omega)
  have h0n := hqn qs[0] (List.getElem_mem (by omega))
  simp (config := { maxSteps := 2000000 }) only [seq3, next3, set3, own3, ret3, ifS3, tt3, o3, u3, v3, atV, asS, asB, asD, optP, asT, asLd, asL, atO, consP, nilP, asId, asI, k3, nw3, add3, int3, int0, neg3, eq3, ne3, eqOk, eqv3, notN3, isNone, ix3, ixD, cons3, nil3, call3, cb3, len3, lenD, abs3, max23, min23, sum3, max3, and3, or3, not3, andV3, ch3, tup3, lst3, listN, catN, slL3, no3, part3, isi3', L2.isD, drop3, asg3, gn3, gtup3, gcons3, gnil3, app3, put3, frzS, frz, frz1, for3, itL, itT, itZ, rg1, rg2, comp3, true3, cst3, raise3, start3, shs, Cl.d, Cl.dat, Cl.f, allIn, scal3, Option.map_some, Option.map_none, Option.isSome_some, Option.isSome_none, Option.join_some, Option.join_none, List.all_cons, List.all_nil, Bool.and_true, Bool.true_and, Bool.and_self, Bool.or_false, Bool.false_or, Bool.or_true, Bool.true_or, List.map_cons, List.map_nil, List.length_cons, List.length_nil, Nat.reduceAdd, Nat.reduceSub, Nat.sub_self, List.replicate, List.cons_append, List.nil_append, List.append_nil, List.getElem?_cons_zero, List.getElem?_cons_succ, List.set_cons_zero, List.set_cons_succ, Option.some.injEq, Cl.sh.injEq, Cl.ow.injEq, PyData.int.injEq, PyData.bool.injEq, PyData.str.injEq, PyData.list.injEq, PyData.tuple.injEq, List.cons.injEq, reduceCtorEq, and_assoc, and_true, true_and, and_self, exists_eq_left, exists_eq_left', exists_eq', exists_eq_right, exists_eq_right', exists_and_left, exists_const, exists_false, false_and, and_false, or_false, false_or, or_true, true_or, decide_true, decide_false, decide_eq_true_eq, Bool.not_true, Bool.not_false, Bool.false_eq_true, Bool.true_eq_false, if_true, if_false, ite_true, ite_false, Bool.not_eq_true', decide_eq_false_iff_not, eq_self_iff_true, not_true_eq_false, not_false_eq_true, sz0, sz1, sz2, sz4, sz5, par3, thawN, aug3, augput3, idx3, ext3, itE, tree3, put2, app2, ix2, Cl.tr.injEq, sp_law_cell_at, sp_law_mixed, sp_law_wide, sp_law_spells, sp_law_long, sp_law_quotas, sp_law_row, sp_law_apart, sp_law_ratio, sp_law_bounds, sp_law_due, sp_check_weights, sp_all_turns, sp_check_spells, sp_common_divisor, sp_divisor_of_all, sp_least_bottom, sp_shares_over, sp_quotas, sp_first_turn, sp_window_of, sp_windows_of_clan, sp_windows_within, sp_less, sp_check_bounds, sp_room_at_most, sp_rooms_of, sp_windows, sp_check_row, sp_leads, sp_keeps, sp_law_near, sp_law_in_windows, sp_law, dSs, dS, dI, scal3, dQ, dP, dPs, dRoom, dW, dM, atI0, atI1, hd0, List.length_map, h0n]
  refine ⟨l, rfl, n, rfl, hq, fun hok => ⟨sz (by omega), ?_⟩, hE'⟩
  refine comp_map dP (fun p => dRoom (roomM b p.1, roomM b p.2)) (fun ρ => ∃ t u, ρ = [t, u, some (.sh true (.int b))]) l ?_ _ _ _ _ ⟨none, none, rfl⟩ ?_
  · rintro p hp ρ fa acc K ⟨t, u, rfl⟩ kk
    obtain ⟨hp1, hp2⟩ := hq p hp
    walk_at "rd"
    exact ⟨p.1, rfl, rfl, hb, hp1, p.2, rfl, rfl, hb, hp2, kk _ ⟨_, _, rfl⟩⟩
  · have := q hok
    unfold roomsM at this
    rw [List.map_map] at this
    exact this
theorem ok_rooms_of (T : Txt c K mg) (G_check_bounds : Df3 P w K mg base 2 "check_bounds" ["bounds", "clans"] (sp_check_bounds c)) (G_room_at_most : Df3 P w K mg base 1 "room_at_most" ["bottom", "bound"] sp_room_at_most) : Df3 P w K mg base 3 "rooms_of" ["told", "bounds"] (sp_rooms_of c) := by
  obtain ⟨f, fd, F, hm⟩ := T.d_rooms_of
  have hb := F.binds (ps := ["told", "bounds"]) fun _ _ _ _ _ _ us hl => by obtain ⟨_, _, rfl⟩ := arity2 hl; rfl
  refine ⟨fun ds Q Q' E E' hQ hE h => ?_, ⟨f, fd, fn_rooms_of T G_check_bounds G_room_at_most F, hb, F.kp, hm⟩⟩
  obtain ⟨a, b, d, n, e, x1, x2, x3, x4, x5, x6, h1, h2⟩ := h; exact ⟨a, b, d, n, e, x1, x2, x3, x4, x5, x6, fun z => hQ _ _ (h1 z), fun z => hE _ (h2 z)⟩
theorem sc_windows : FnScope ["spells", "bounds", "told"] ["spells", "bounds"] (defScope s_windows) := ⟨rfl, rfl, rfl, by decide +kernel, rfl, by decide +kernel, by decide +kernel⟩
set_option maxHeartbeats 4000000 in
theorem fn_windows (T : Txt c K mg) (G_quotas : Df3 P w K mg base 4 "quotas" ["spells"] (sp_quotas c)) (G_windows_within : Df3 P w K mg base 4 "windows_within" ["told", "rooms"] sp_windows_within) (G_rooms_of : Df3 P w K mg base 3 "rooms_of" ["told", "bounds"] (sp_rooms_of c)) {f : Addr} {fd : FuncData} (F : Fun K "windows" "windows" s_windows f fd) : FnOk P w K mg base (CXR P w) 5 f fd ["spells", "bounds"] (spL K (sp_windows c)) := by
  have S := sc_windows
  refine fn3 F S (fun ds Q E h => ?_) (fun cdv A outer s H E E3 hE hr => ?_)
  · obtain ⟨_, _, rfl, _⟩ := h; rfl
  refine ⟨_, (ss_cons (s_set (i := 2) S.nd rfl (by first | exact Or.inl rfl | exact Or.inr rfl) (df3 hE G_quotas (hr.mono (by decide)) rfl passR (a_cons (n3 0) a_nil)))
    (ss_one (s_ret (df3 hE G_windows_within (hr.mono (by decide)) rfl passR (a_cons (n3 2) (a_cons (df3 hE G_rooms_of (hr.mono (by decide)) rfl passR (a_cons (n3 2) (a_cons (n3 1) a_nil))) a_nil)))))), fun ds Q h => ?_⟩
  obtain ⟨l, bs, rfl, hbl, hbq, q, hE1, hE2⟩ := h
  walk_at "rd"
  refine ⟨l, rfl, fun hok => ?_, hE1⟩
  have hm := many_ok hok
  have hbp := bot_pos hok
  have hql := quo_len hok
  have htn := tot_nn fun s hs => (hok.2.1 s hs).1
  have h60 := hok.2.2
  have hqr : ∀ r ∈ quo l, r.length = many l := fun r hr => quoB_row hok (b := bot l) hr
  have hb2 : Bits 2000 (bot l) := (bot_bits hok).mono (by decide)
  refine ⟨quo l, rfl, bs, rfl, hb2, by omega, many l, hqr, hm.2, hbl, hbq, fun hB => ?_, fun hno => hE2 hok hno⟩
  have hrl : (roomsM (bot l) bs).length = many l := by unfold roomsM; rw [List.length_map]; exact hB.1
  refine ⟨quo l, rfl, roomsM (bot l) bs, rfl, hbp, hb2, by omega, by omega, by omega, fun r hr => by rw [hrl]; exact hqr r hr, fun r hr x hx => ?_, fun p hp => ?_, fun W h1 h2 h3 => q hok hB W (by rw [← hrl]; exact h1) (fun k hk => h2 k (by rw [hrl]; exact hk)) h3⟩
  · have h1 := quoB_le hok hbp r hr x hx
    have h2 : tot l * bot l ≤ 60 * bot l := Int.mul_le_mul_of_nonneg_right h60 (by omega)
    omega
  · unfold roomsM at hp
    obtain ⟨z, hz, rfl⟩ := List.mem_map.mp hp
    obtain ⟨z1, z2⟩ := hB.2 z hz
    obtain ⟨y1, y2⟩ := hbq z hz
    refine ⟨Int.ediv_nonneg (Int.mul_nonneg z1.1 (by omega)) (by have := y1.1; omega), Int.ediv_nonneg (Int.mul_nonneg z2.1 (by omega)) (by have := y2.1; omega), ?_⟩
    refine Int.ediv_le_of_le_mul y2.1 ?_
    have h1 : z.2.1 * bot l ≤ 10 * z.2.2 * bot l := Int.mul_le_mul_of_nonneg_right z2.2 (by omega)
    have h2 : 0 ≤ z.2.2 * bot l := Int.mul_nonneg (by have := y2.1; omega) (by omega)
    have e1 : 10 * z.2.2 * bot l = 10 * (z.2.2 * bot l) := Int.mul_assoc _ _ _
    have e2 : 20 * bot l * z.2.2 = 20 * (z.2.2 * bot l) := by rw [Int.mul_assoc, Int.mul_comm (bot l)]
    omega
theorem ok_windows (T : Txt c K mg) (G_quotas : Df3 P w K mg base 4 "quotas" ["spells"] (sp_quotas c)) (G_windows_within : Df3 P w K mg base 4 "windows_within" ["told", "rooms"] sp_windows_within) (G_rooms_of : Df3 P w K mg base 3 "rooms_of" ["told", "bounds"] (sp_rooms_of c)) : Df3 P w K mg base 5 "windows" ["spells", "bounds"] (sp_windows c) := by
  obtain ⟨f, fd, F, hm⟩ := T.d_windows
  have hb := F.binds (ps := ["spells", "bounds"]) fun _ _ _ _ _ _ us hl => by obtain ⟨_, _, rfl⟩ := arity2 hl; rfl
  refine ⟨fun ds Q Q' E E' hQ hE h => ?_, ⟨f, fd, fn_windows T G_quotas G_windows_within G_rooms_of F, hb, F.kp, hm⟩⟩
  obtain ⟨a, b, e, x1, x2, h1, h2, h3⟩ := h; exact ⟨a, b, e, x1, x2, fun x y w u v z => hQ _ _ (h1 x y w u v z), fun z => hE _ (h2 z), fun y z => hE _ (h3 y z)⟩
theorem sc_check_row : FnScope ["row", "turns", "clans", "clan"] ["row", "turns", "clans"] (defScope s_check_row) := ⟨rfl, rfl, rfl, by decide +kernel, rfl, by decide +kernel, by decide +kernel⟩
set_option maxHeartbeats 4000000 in
theorem fn_check_row (T : Txt c K mg)  {f : Addr} {fd : FuncData} (F : Fun K "check_row" "check_row" s_check_row f fd) : FnOk P w K mg base (CXR P w) 1 f fd ["row", "turns", "clans"] (spL K (sp_check_row c)) := by
  have S := sc_check_row
  refine fn3 F S (fun ds Q E h => ?_) (fun cdv A outer s H E E3 hE hr => ?_)
  · obtain ⟨_, _, _, rfl, _⟩ := h; rfl
  refine ⟨_, (ss_cons (s_if (tcmp3 (ne_ok hr.units) (callB3 len_ok rfl T.n_len bo_len (a_cons (n3 0) a_nil)) (n3 1) (nomark _)) (ss_one (s_raise hE fliesR rfl rfl T.m_NoRow T.e_NoRow (a_cons s3 a_nil))) ss_nil)
    (ss_one (s_for PassesOwn.leaving rfl (it_list (n3 0)) (t_name (i := 3) S.nd rfl (by first | exact Or.inl rfl | exact Or.inr rfl)) (ss_one (s_if (not3_ok (tchain3 le_ok lt_ok i3 (n3 3) (n3 2))) (ss_one (s_raise hE fliesR rfl rfl T.m_NoRow T.e_NoRow (a_cons s3 a_nil))) ss_nil))))), fun ds Q h => ?_⟩
  obtain ⟨row, T', n, rfl, q, hE'⟩ := h
  walk_at "rd"
  rw [List.length_map]
  by_cases h1 : (row.length : Int) = T'
  case neg => rw [if_pos h1]; exact hE' fun z => h1 (by rw [z.1])
  rw [if_neg (fun z => z h1)]
  refine for_list PyData.int row (fun done ρ => ∃ t, ρ = [some (.sh false (.list (row.map .int))), some (.sh true (.int T')), some (.sh true (.int n)), t] ∧ ∀ x ∈ done, 0 ≤ x ∧ x < (n : Int)) ?_ ?_ ⟨none, rfl, fun x h => by cases h⟩
  · rintro done x rest ρ hd ⟨t, rfl, hall⟩ W hW
    have hx : x ∈ row := by rw [hd]; simp
    walk_at "rd"
    by_cases h2 : 0 ≤ x
    case neg => rw [if_neg h2]; exact hE' fun z => h2 (z.2 x hx).1
    rw [if_pos h2]
    by_cases h3 : x < (n : Int)
    case neg => rw [if_pos h3]; exact hE' fun z => h3 (z.2 x hx).2
    rw [if_neg (fun z => z h3)]
    exact hW _ ⟨_, rfl, fun y hy => by
      rcases List.mem_append.mp hy with z | z
      · exact hall y z
      · rw [List.mem_singleton.mp z]; exact ⟨h2, h3⟩⟩
  · rintro ρ ⟨t, rfl, hall⟩
    exact q ⟨by omega, hall⟩
theorem ok_check_row (T : Txt c K mg)  : Df3 P w K mg base 1 "check_row" ["row", "turns", "clans"] (sp_check_row c) := by
  obtain ⟨f, fd, F, hm⟩ := T.d_check_row
  have hb := F.binds (ps := ["row", "turns", "clans"]) fun _ _ _ _ _ _ us hl => by obtain ⟨_, _, _, rfl⟩ := arity3 hl; rfl
  refine ⟨fun ds Q Q' E E' hQ hE h => ?_, ⟨f, fd, fn_check_row T  F, hb, F.kp, hm⟩⟩
  obtain ⟨a, b, n, e, h1, h2⟩ := h; exact ⟨a, b, n, e, fun z => hQ _ _ (h1 z), fun z => hE _ (h2 z)⟩
theorem sc_leads : FnScope ["told", "row", "bottom", "by_turn", "had", "found", "clan", "latest"] ["told", "row"] (defScope s_leads) := ⟨rfl, rfl, rfl, by decide +kernel, rfl, by decide +kernel, by decide +kernel⟩
set_option maxHeartbeats 4000000 in
theorem fn_leads (T : Txt c K mg) (G_check_row : Df3 P w K mg base 1 "check_row" ["row", "turns", "clans"] (sp_check_row c)) {f : Addr} {fd : FuncData} (F : Fun K "leads" "leads" s_leads f fd) : FnOk P w K mg base (CXR P w) 2 f fd ["told", "row"] (spL K (sp_leads c)) := by
  have S := sc_leads
  refine fn3 F S (fun ds Q E h => ?_) (fun cdv A outer s H E E3 hE hr => ?_)
  · obtain ⟨_, _, _, _, rfl, _⟩ := h; rfl
  refine ⟨_, (ss_cons (s_set (i := 2) S.nd rfl (by first | exact Or.inl rfl | exact Or.inr rfl) (at3 (n3 0) i3 (fun _ _ => rfl)))
    (ss_cons (s_set (i := 3) S.nd rfl (by first | exact Or.inl rfl | exact Or.inr rfl) (at3 (n3 0) i3 (fun _ _ => rfl)))
    (ss_cons (s_expr (df3 hE G_check_row (hr.mono (by decide)) rfl passR (a_cons (n3 1) (a_cons (op3 sub_ok (callB3 len_ok rfl T.n_len bo_len (a_cons (n3 3) a_nil)) i3) (a_cons (callB3 len_ok rfl T.n_len bo_len (a_cons (at3 (n3 3) i3 (fun _ _ => rfl)) a_nil)) a_nil)))))
    (ss_cons (comp_own (i := 4) S.nd rfl (by first | exact Or.inl rfl | exact Or.inr rfl) ["quota"] [] [] rfl (compSc (osc := defScope s_leads) (by decide +kernel)) rfl (it_list (at3 (n3 3) i3 (fun _ _ => rfl))) (fun H0 s H fp cl => ⟨(t_name (i := 0) (show ((["quota"] : List PySem.Str) ++ ([] : List PySem.Str)).Nodup by decide) rfl (by first | exact Or.inl rfl | exact Or.inr rfl)), pt_nil, i3⟩))
    (ss_cons (s_own (i := 5) S.nd rfl (by first | exact Or.inl rfl | exact Or.inr rfl) (lst3_ok a_nil))
    (ss_cons (s_for PassesOwn.leaving rfl (it_zip rfl T.n_zip (a_cons (n3 1) (a_cons (new3 (slice3 (n3 3) (o_some i3) o_none)) a_nil))) (t_tup (n := 2) rfl (ts_cons (t_name (i := 6) S.nd rfl (by first | exact Or.inl rfl | exact Or.inr rfl)) (ts_cons (t_name (i := 7) S.nd rfl (by first | exact Or.inl rfl | exact Or.inr rfl)) ts_nil))) (ss_cons (s_augput (i := 4) rfl (by first | exact Or.inl rfl | exact Or.inr (Or.inl rfl) | exact Or.inr (Or.inr rfl)) (n3 6) (n3 2))
      (ss_one (s_append (i := 5) rfl (by first | exact Or.inl rfl | exact Or.inr (Or.inl rfl) | exact Or.inr (Or.inr rfl)) (new3 (thaw_new [4] (comp_ok ["own", "quota"] [] [] rfl (compSc (osc := defScope s_leads) (by decide +kernel)) rfl (it_zip rfl T.n_zip (a_cons (n3 4) (a_cons (n3 7) a_nil))) (fun H0 s H fp cl => ⟨(t_tup (n := 2) rfl (ts_cons (t_name (i := 0) (show ((["own", "quota"] : List PySem.Str) ++ ([] : List PySem.Str)).Nodup by decide) rfl (by first | exact Or.inl rfl | exact Or.inr rfl)) (ts_cons (t_name (i := 1) (show ((["own", "quota"] : List PySem.Str) ++ ([] : List PySem.Str)).Nodup by decide) rfl (by first | exact Or.inl rfl | exact Or.inr rfl)) ts_nil))), pt_nil, (op3 sub_ok (n3 0) (n3 1))⟩))))))))
    (ss_one (s_frz [5] (s_ret (n3 5)))))))))), fun ds Q h => ?_⟩
  obtain ⟨b, qs, row, n, rfl, h1, h8, hq1, hq61, hqn, q', hE'⟩ := h
  cases qs with
  | nil => simp at hq1
  | cons q0 qr =>
  have h0 : q0.length = n := hqn q0 List.mem_cons_self
  simp (config := { maxSteps := 2000000 }) only [seq3, next3, set3, own3, ret3, ifS3, tt3, o3, u3, v3, atV, asS, asB, asD, optP, asT, asLd, asL, atO, consP, nilP, asId, asI, k3, nw3, add3, int3, int0, neg3, eq3, ne3, eqOk, eqv3, notN3, isNone, ix3, ixD, cons3, nil3, call3, cb3, len3, lenD, abs3, max23, min23, sum3, max3, and3, or3, not3, andV3, ch3, tup3, lst3, listN, catN, slL3, no3, part3, isi3', L2.isD, drop3, asg3, gn3, gtup3, gcons3, gnil3, app3, put3, frzS, frz, frz1, for3, itL, itT, itZ, rg1, rg2, comp3, true3, cst3, raise3, start3, shs, Cl.d, Cl.dat, Cl.f, allIn, scal3, Option.map_some, Option.map_none, Option.isSome_some, Option.isSome_none, Option.join_some, Option.join_none, List.all_cons, List.all_nil, Bool.and_true, Bool.true_and, Bool.and_self, Bool.or_false, Bool.false_or, Bool.or_true, Bool.true_or, List.map_cons, List.map_nil, List.length_cons, List.length_nil, Nat.reduceAdd, Nat.reduceSub, Nat.sub_self, List.replicate, List.cons_append, List.nil_append, List.append_nil, List.getElem?_cons_zero, List.getElem?_cons_succ, List.set_cons_zero, List.set_cons_succ, Option.some.injEq, Cl.sh.injEq, Cl.ow.injEq, PyData.int.injEq, PyData.bool.injEq, PyData.str.injEq, PyData.list.injEq, PyData.tuple.injEq, List.cons.injEq, reduceCtorEq, and_assoc, and_true, true_and, and_self, exists_eq_left, exists_eq_left', exists_eq', exists_eq_right, exists_eq_right', exists_and_left, exists_const, exists_false, false_and, and_false, or_false, false_or, or_true, true_or, decide_true, decide_false, decide_eq_true_eq, Bool.not_true, Bool.not_false, Bool.false_eq_true, Bool.true_eq_false, if_true, if_false, ite_true, ite_false, Bool.not_eq_true', decide_eq_false_iff_not, eq_self_iff_true, not_true_eq_false, not_false_eq_true, sz0, sz1, sz2, sz4, sz5, par3, thawN, aug3, augput3, idx3, ext3, itE, tree3, put2, app2, ix2, Cl.tr.injEq, sp_law_cell_at, sp_law_mixed, sp_law_wide, sp_law_spells, sp_law_long, sp_law_quotas, sp_law_row, sp_law_apart, sp_law_ratio, sp_law_bounds, sp_law_due, sp_check_weights, sp_all_turns, sp_check_spells, sp_common_divisor, sp_divisor_of_all, sp_least_bottom, sp_shares_over, sp_quotas, sp_first_turn, sp_window_of, sp_windows_of_clan, sp_windows_within, sp_less, sp_check_bounds, sp_room_at_most, sp_rooms_of, sp_windows, sp_check_row, sp_leads, sp_keeps, sp_law_near, sp_law_in_windows, sp_law, dSs, dS, dI, scal3, dQ, dP, dPs, dRoom, dW, dM, atI0, atI1, List.length_map]
  refine ⟨row, rfl, qr.length, by omega, n, by rw [h0], fun hok => ?_, fun hno => hE' (by simpa using hno)⟩
  have hok' : okRow n ((q0 :: qr).length - 1) row := by simpa using hok
  refine ⟨sz (by omega), ?_⟩
  refine comp_map PyData.int (fun _ => PyData.int 0) (fun ρ => ∃ t, ρ = [t]) q0 ?_ _ _ _ _ ⟨none, rfl⟩ ?_
  · rintro w hw ρ fa acc K ⟨t, rfl⟩ k
    walk_at "rd"
    exact k _ ⟨_, rfl⟩
  have hz0 : [] ++ List.map (fun _ => PyData.int 0) q0 = (hadN b n []).map PyData.int := by
    unfold hadN; rw [List.nil_append, List.foldl_nil, List.map_replicate, List.map_const', h0]
  rw [hz0]
  have hcut : cut (PyData.list (List.map PyData.int q0) :: List.map dI qr) (some 1) none = qr.map dI := by
    rw [cut_hi _ (by decide) (by rw [List.length_cons]; omega)]; rfl
  rw [hcut, zipD_map]
  have hf : row.length = qr.length := hok.1
  have e1 : (row.zip qr).map Prod.fst = row := List.map_fst_zip (by omega)
  have e2 : (row.zip qr).map Prod.snd = qr := List.map_snd_zip (by omega)
  refine for_list (fun p : Int × List Int => PyData.tuple [PyData.int p.1, dI p.2]) (row.zip qr) (fun done ρ => ∃ t u, ρ = [some (.sh false (.tuple [.int b, .list (.list (q0.map .int) :: qr.map dI)])), some (.sh false (.list (row.map .int))), some (.sh true (.int b)), some (.sh false (.list (.list (q0.map .int) :: qr.map dI))), some (.ow true ((hadN b n (done.map Prod.fst)).map PyData.int)), some (.ow true ((leadsN b n (q0 :: qr) row done.length).map dI)), t, u]) ?_ ?_ ⟨none, none, rfl⟩
  · rintro done x rest ρ hd ⟨t, u, rfl⟩ W hW
    obtain ⟨cl, r⟩ := x
    rw [hd, List.map_append, List.map_cons] at e1 e2
    have hc : cl ∈ row := by rw [← e1]; simp
    have hr : r ∈ qr := by rw [← e2]; simp
    have hcn := hok.2 cl hc
    have hrl := hqn r (List.mem_cons_of_mem _ hr)
    have hlenH := hadN_len b n (done.map Prod.fst)
    have hdl : done.length < qr.length := by rw [← e2]; simp
    have htk : row.take (done.length + 1) = done.map Prod.fst ++ [cl] := by
      rw [← e1, show done.map Prod.fst ++ cl :: rest.map Prod.fst = (done.map Prod.fst ++ [cl]) ++ rest.map Prod.fst by simp]
      exact List.take_left' (by simp)
    have hqd : (q0 :: qr).getD (done.length + 1) [] = r := by
      rw [← e2, List.getD_eq_getElem?_getD, List.getElem?_cons_succ, List.getElem?_append_right (by simp)]
      simp
    have hget : (List.map PyData.int (hadN b n (done.map Prod.fst)))[cl.toNat]? = some (PyData.int ((hadN b n (done.map Prod.fst)).getD cl.toNat 0)) := by
      rw [List.getElem?_map, List.getD_eq_getElem?_getD, List.getElem?_eq_getElem (by omega)]; rfl
    have hlead : leadsN b n (q0 :: qr) row (done.length + 1) = leadsN b n (q0 :: qr) row done.length ++ [subL (had1 b (hadN b n (done.map Prod.fst)) cl) r] := by
      rw [leadsN_succ]; unfold leadAt; rw [htk, hadN_snoc, hqd]
    simp (config := { maxSteps := 2000000 }) only [seq3, next3, set3, own3, ret3, ifS3, tt3, o3, u3, v3, atV, asS, asB, asD, optP, asT, asLd, asL, atO, consP, nilP, asId, asI, k3, nw3, add3, int3, int0, neg3, eq3, ne3, eqOk, eqv3, notN3, isNone, ix3, ixD, cons3, nil3, call3, cb3, len3, lenD, abs3, max23, min23, sum3, max3, and3, or3, not3, andV3, ch3, tup3, lst3, listN, catN, slL3, no3, part3, isi3', L2.isD, drop3, asg3, gn3, gtup3, gcons3, gnil3, app3, put3, frzS, frz, frz1, for3, itL, itT, itZ, rg1, rg2, comp3, true3, cst3, raise3, start3, shs, Cl.d, Cl.dat, Cl.f, allIn, scal3, Option.map_some, Option.map_none, Option.isSome_some, Option.isSome_none, Option.join_some, Option.join_none, List.all_cons, List.all_nil, Bool.and_true, Bool.true_and, Bool.and_self, Bool.or_false, Bool.false_or, Bool.or_true, Bool.true_or, List.map_cons, List.map_nil, List.length_cons, List.length_nil, Nat.reduceAdd, Nat.reduceSub, Nat.sub_self, List.replicate, List.cons_append, List.nil_append, List.append_nil, List.getElem?_cons_zero, List.getElem?_cons_succ, List.set_cons_zero, List.set_cons_succ, Option.some.injEq, Cl.sh.injEq, Cl.ow.injEq, PyData.int.injEq, PyData.bool.injEq, PyData.str.injEq, PyData.list.injEq, PyData.tuple.injEq, List.cons.injEq, reduceCtorEq, and_assoc, and_true, true_and, and_self, exists_eq_left, exists_eq_left', exists_eq', exists_eq_right, exists_eq_right', exists_and_left, exists_const, exists_false, false_and, and_false, or_false, false_or, or_true, true_or, decide_true, decide_false, decide_eq_true_eq, Bool.not_true, Bool.not_false, Bool.false_eq_true, Bool.true_eq_false, if_true, if_false, ite_true, ite_false, Bool.not_eq_true', decide_eq_false_iff_not, eq_self_iff_true, not_true_eq_false, not_false_eq_true, sz0, sz1, sz2, sz4, sz5, par3, thawN, aug3, augput3, idx3, ext3, itE, tree3, put2, app2, ix2, Cl.tr.injEq, sp_law_cell_at, sp_law_mixed, sp_law_wide, sp_law_spells, sp_law_long, sp_law_quotas, sp_law_row, sp_law_apart, sp_law_ratio, sp_law_bounds, sp_law_due, sp_check_weights, sp_all_turns, sp_check_spells, sp_common_divisor, sp_divisor_of_all, sp_least_bottom, sp_shares_over, sp_quotas, sp_first_turn, sp_window_of, sp_windows_of_clan, sp_windows_within, sp_less, sp_check_bounds, sp_room_at_most, sp_rooms_of, sp_windows, sp_check_row, sp_leads, sp_keeps, sp_law_near, sp_law_in_windows, sp_law, dSs, dS, dI, scal3, dQ, dP, dPs, dRoom, dW, dM, hget]
    have hset : (List.map PyData.int (hadN b n (done.map Prod.fst))).set cl.toNat (PyData.int ((hadN b n (done.map Prod.fst)).getD cl.toNat 0 + b)) = (had1 b (hadN b n (done.map Prod.fst)) cl).map PyData.int := by unfold had1; rw [List.map_set]
    rw [hset, zipD_map]
    refine ⟨hcn.1, sz (by rw [List.length_map, List.length_zip]; omega), ?_⟩
    refine comp_map (fun p : Int × Int => PyData.tuple [PyData.int p.1, PyData.int p.2]) (fun p => PyData.int (p.1 - p.2)) (fun ρ => ∃ t u, ρ = [t, u]) _ ?_ _ _ _ _ ⟨none, none, rfl⟩ ?_
    · rintro x hx ρ fa acc K ⟨t, u, rfl⟩ k
      walk_at "rd"
      exact k _ ⟨_, _, rfl⟩
    · refine ⟨?_, Nat.lt_of_lt_of_le (show _ < 1000 by rw [List.length_map]; unfold leadsN; rw [List.length_map, List.length_range]; rw [List.length_cons] at hq61; omega) (by decide), hW _ ⟨?w1, ?w2, ?h⟩⟩
      · rw [List.nil_append, List.all_eq_true]; intro d hd; obtain ⟨p, _, rfl⟩ := List.mem_map.mp hd; rfl
      case h =>
        rw [List.map_append, List.map_cons, List.map_nil, hadN_snoc, List.length_append, List.length_singleton, hlead, List.map_append]
        simp only [subL, dI, List.map_cons, List.map_nil, List.map_map, List.nil_append]
        rfl
  · rintro ρ ⟨t, u, rfl⟩
    walk_at "rd"
    have hl : (row.zip qr).length = row.length := by rw [List.length_zip]; omega
    rw [hl]
    exact q' hok'

theorem ok_leads (T : Txt c K mg) (G_check_row : Df3 P w K mg base 1 "check_row" ["row", "turns", "clans"] (sp_check_row c)) : Df3 P w K mg base 2 "leads" ["told", "row"] (sp_leads c) := by
  obtain ⟨f, fd, F, hm⟩ := T.d_leads
  have hb := F.binds (ps := ["told", "row"]) fun _ _ _ _ _ _ us hl => by obtain ⟨_, _, rfl⟩ := arity2 hl; rfl
  refine ⟨fun ds Q Q' E E' hQ hE h => ?_, ⟨f, fd, fn_leads T G_check_row F, hb, F.kp, hm⟩⟩
  obtain ⟨a, b, d, n, e, x1, x2, x3, x4, x5, h1, h2⟩ := h; exact ⟨a, b, d, n, e, x1, x2, x3, x4, x5, fun z => hQ _ _ (h1 z), fun z => hE _ (h2 z)⟩
theorem sc_keeps : FnScope ["spells", "bounds", "row", "told", "rooms", "latest", "lead", "room"] ["spells", "bounds", "row"] (defScope s_keeps) := ⟨rfl, rfl, rfl, by decide +kernel, rfl, by decide +kernel, by decide +kernel⟩
set_option maxHeartbeats 4000000 in
theorem fn_keeps (T : Txt c K mg) (G_quotas : Df3 P w K mg base 4 "quotas" ["spells"] (sp_quotas c)) (G_rooms_of : Df3 P w K mg base 3 "rooms_of" ["told", "bounds"] (sp_rooms_of c)) (G_leads : Df3 P w K mg base 2 "leads" ["told", "row"] (sp_leads c)) {f : Addr} {fd : FuncData} (F : Fun K "keeps" "keeps" s_keeps f fd) : FnOk P w K mg base (CXR P w) 5 f fd ["spells", "bounds", "row"] (spL K (sp_keeps c)) := by
  have S := sc_keeps
  refine fn3 F S (fun ds Q E h => ?_) (fun cdv A outer s H E E3 hE hr => ?_)
  · obtain ⟨_, _, _, rfl, _⟩ := h; rfl
  refine ⟨_, (ss_cons (s_set (i := 3) S.nd rfl (by first | exact Or.inl rfl | exact Or.inr rfl) (df3 hE G_quotas (hr.mono (by decide)) rfl passR (a_cons (n3 0) a_nil)))
    (ss_cons (s_set (i := 4) S.nd rfl (by first | exact Or.inl rfl | exact Or.inr rfl) (df3 hE G_rooms_of (hr.mono (by decide)) rfl passR (a_cons (n3 3) (a_cons (n3 1) a_nil))))
    (ss_cons (s_for PassesOwn.leaving rfl (it_list (df3 hE G_leads (hr.mono (by decide)) rfl passR (a_cons (n3 3) (a_cons (n3 2) a_nil)))) (t_name (i := 5) S.nd rfl (by first | exact Or.inl rfl | exact Or.inr rfl)) (ss_one (s_for PassesOwn.leaving rfl (it_zip rfl T.n_zip (a_cons (n3 5) (a_cons (n3 4) a_nil))) (t_tup (n := 2) rfl (ts_cons (t_name (i := 6) S.nd rfl (by first | exact Or.inl rfl | exact Or.inr rfl)) (ts_cons (t_name (i := 7) S.nd rfl (by first | exact Or.inl rfl | exact Or.inr rfl)) ts_nil))) (ss_one (s_if (pw3 (or3_ok (tcmp3 lt_ok (n3 6) (un3 neg_ok (at3 (n3 7) i3 (fun _ _ => rfl))) (nomark _)) (or1_3 (tcmp3 gt_ok (n3 6) (at3 (n3 7) i3 (fun _ _ => rfl)) (nomark _))))) (ss_one (s_ret b3)) ss_nil)))))
    (ss_one (s_ret b3))))), fun ds Q h => ?_⟩
  obtain ⟨l, bs, row, rfl, hbl, hbq, q, hE1, hE2, hE3⟩ := h
  refine seq_step fun N hN => ?_
  walk_at "rd"
  refine ⟨l, rfl, fun hok => hN _ ?_, hE1⟩
  clear hN N
  have hql := quo_len hok
  have hm := many_ok hok
  have htn := tot_nn fun s hs => (hok.2.1 s hs).1
  have h60 := hok.2.2
  have hqe : (quo l).length - 1 = (tot l).toNat := by omega
  have hqr : ∀ r ∈ quo l, r.length = many l := fun r hr => quoB_row hok (b := bot l) hr
  refine seq_step fun N hN => ?_
  walk_at "rd"
  refine ⟨quo l, rfl, bs, rfl, (bot_bits hok).mono (by decide), by omega, many l, hqr, hm.2, hbl, hbq, fun hB => hN _ ?_, fun z => hE2 hok z⟩
  clear hN N
  walk_at "rd"
  refine ⟨quo l, rfl, row, rfl, many l, hm.1, hm.2, by omega, by omega, hqr, fun hrow => ?_, fun hno => hE3 hok hB (by rw [← hqe]; exact hno)⟩
  have hrow' : okRow (many l) (tot l).toNat row := by rw [← hqe]; exact hrow
  refine for_list dI (leadsN (bot l) (many l) (quo l) row row.length) (fun done ρ => ∃ t5 t6 t7, ρ = [some (.sh false (.list (l.map dS))), some (.sh false (.list (bs.map dP))), some (.sh false (.list (row.map .int))), some (.sh true (.tuple [.int (bot l), .list ((quo l).map dI)])), some (.sh true (.list ((roomsM (bot l) bs).map dRoom))), t5, t6, t7] ∧ keepP done (roomsM (bot l) bs)) ?_ ?_ ⟨none, none, none, rfl, fun ld h => by cases h⟩
  · rintro done ld rest ρ hd ⟨t5, t6, t7, rfl, hkeep⟩ W hW
    have hmem : ld ∈ leadsN (bot l) (many l) (quo l) row row.length := by rw [hd]; simp
    walk_at "rd"
    rw [zipD_map]
    refine for_list (fun p : Int × (Int × Int) => PyData.tuple [PyData.int p.1, dRoom p.2]) (ld.zip (roomsM (bot l) bs)) (fun done' ρ => ∃ t6 t7, ρ = [some (.sh false (.list (l.map dS))), some (.sh false (.list (bs.map dP))), some (.sh false (.list (row.map .int))), some (.sh true (.tuple [.int (bot l), .list ((quo l).map dI)])), some (.sh true (.list ((roomsM (bot l) bs).map dRoom))), some (.sh true (.list (ld.map .int))), t6, t7] ∧ ∀ x ∈ done', -x.2.1 ≤ x.1 ∧ x.1 ≤ x.2.2) ?_ ?_ ⟨_, _, rfl, fun x h => by cases h⟩
    · rintro done' ⟨x, p⟩ rest' ρ hd' ⟨t6, t7, rfl, hall⟩ W' hW'
      have hno : ¬ (-p.1 ≤ x ∧ x ≤ p.2) → ¬ keepP (leadsN (bot l) (many l) (quo l) row row.length) (roomsM (bot l) bs) := fun h z => by
        have hz : (x, p) ∈ ld.zip (roomsM (bot l) bs) := by rw [hd']; simp
        obtain ⟨i, hi, e⟩ := List.getElem_of_mem hz
        have e2 : (ld.zip (roomsM (bot l) bs))[i]? = some (x, p) := by rw [← e]; exact List.getElem?_eq_getElem hi
        obtain ⟨e3, e4⟩ := List.getElem?_zip_eq_some.mp e2
        exact h (z ld hmem i x p e3 e4)
      simp (config := { maxSteps := 2000000 }) only [seq3, next3, set3, own3, ret3, ifS3, tt3, o3, u3, v3, atV, asS, asB, asD, optP, asT, asLd, asL, atO, consP, nilP, asId, asI, k3, nw3, add3, int3, int0, neg3, eq3, ne3, eqOk, eqv3, notN3, isNone, ix3, ixD, cons3, nil3, call3, cb3, len3, lenD, abs3, max23, min23, sum3, max3, and3, or3, not3, andV3, ch3, tup3, lst3, listN, catN, slL3, no3, part3, isi3', L2.isD, drop3, asg3, gn3, gtup3, gcons3, gnil3, app3, put3, frzS, frz, frz1, for3, itL, itT, itZ, rg1, rg2, comp3, true3, cst3, raise3, start3, shs, Cl.d, Cl.dat, Cl.f, allIn, scal3, Option.map_some, Option.map_none, Option.isSome_some, Option.isSome_none, Option.join_some, Option.join_none, List.all_cons, List.all_nil, Bool.and_true, Bool.true_and, Bool.and_self, Bool.or_false, Bool.false_or, Bool.or_true, Bool.true_or, List.map_cons, List.map_nil, List.length_cons, List.length_nil, Nat.reduceAdd, Nat.reduceSub, Nat.sub_self, List.replicate, List.cons_append, List.nil_append, List.append_nil, List.getElem?_cons_zero, List.getElem?_cons_succ, List.set_cons_zero, List.set_cons_succ, Option.some.injEq, Cl.sh.injEq, Cl.ow.injEq, PyData.int.injEq, PyData.bool.injEq, PyData.str.injEq, PyData.list.injEq, PyData.tuple.injEq, List.cons.injEq, reduceCtorEq, and_assoc, and_true, true_and, and_self, exists_eq_left, exists_eq_left', exists_eq', exists_eq_right, exists_eq_right', exists_and_left, exists_const, exists_false, false_and, and_false, or_false, false_or, or_true, true_or, decide_true, decide_false, decide_eq_true_eq, Bool.not_true, Bool.not_false, Bool.false_eq_true, Bool.true_eq_false, if_true, if_false, ite_true, ite_false, Bool.not_eq_true', decide_eq_false_iff_not, eq_self_iff_true, not_true_eq_false, not_false_eq_true, sz0, sz1, sz2, sz4, sz5, par3, thawN, aug3, augput3, idx3, ext3, itE, tree3, put2, app2, ix2, Cl.tr.injEq, sp_law_cell_at, sp_law_mixed, sp_law_wide, sp_law_spells, sp_law_long, sp_law_quotas, sp_law_row, sp_law_apart, sp_law_ratio, sp_law_bounds, sp_law_due, sp_check_weights, sp_all_turns, sp_check_spells, sp_common_divisor, sp_divisor_of_all, sp_least_bottom, sp_shares_over, sp_quotas, sp_first_turn, sp_window_of, sp_windows_of_clan, sp_windows_within, sp_less, sp_check_bounds, sp_room_at_most, sp_rooms_of, sp_windows, sp_check_row, sp_leads, sp_keeps, sp_law_near, sp_law_in_windows, sp_law, dSs, dS, dI, scal3, dQ, dP, dPs, dRoom, dW, dM, atI0, atI1]
      refine ite2 (fun h => q hok hB hrow' false ⟨(fun z => by cases z), fun z => absurd z (hno (by omega))⟩) fun h => ite2 (fun h2 => q hok hB hrow' false ⟨(fun z => by cases z), fun z => absurd z (hno (by omega))⟩) fun h2 => hW' _ ⟨_, _, rfl, fun y hy => ?_⟩
      rcases List.mem_append.mp hy with z | z
      · exact hall y z
      · rw [List.mem_singleton.mp z]; exact ⟨by show -p.1 ≤ x; omega, by show x ≤ p.2; omega⟩
    · rintro ρ ⟨t6, t7, rfl, hall⟩
      refine hW _ ⟨_, _, _, rfl, keepP_snoc.mpr ⟨hkeep, fun l' hl' i x p hx hp => ?_⟩⟩
      rw [List.mem_singleton.mp hl'] at hx
      exact hall (x, p) (List.mem_of_getElem? (List.getElem?_zip_eq_some.mpr ⟨hx, hp⟩))
  · rintro ρ ⟨t5, t6, t7, rfl, hkeep⟩
    walk_at "rd"
    exact q hok hB hrow' true ⟨fun _ => hkeep, fun _ => rfl⟩
theorem ok_keeps (T : Txt c K mg) (G_quotas : Df3 P w K mg base 4 "quotas" ["spells"] (sp_quotas c)) (G_rooms_of : Df3 P w K mg base 3 "rooms_of" ["told", "bounds"] (sp_rooms_of c)) (G_leads : Df3 P w K mg base 2 "leads" ["told", "row"] (sp_leads c)) : Df3 P w K mg base 5 "keeps" ["spells", "bounds", "row"] (sp_keeps c) := by
  obtain ⟨f, fd, F, hm⟩ := T.d_keeps
  have hb := F.binds (ps := ["spells", "bounds", "row"]) fun _ _ _ _ _ _ us hl => by obtain ⟨_, _, _, rfl⟩ := arity3 hl; rfl
  refine ⟨fun ds Q Q' E E' hQ hE h => ?_, ⟨f, fd, fn_keeps T G_quotas G_rooms_of G_leads F, hb, F.kp, hm⟩⟩
  obtain ⟨a, b, d, e, x, y, h1, h2, h3, h4⟩ := h; exact ⟨a, b, d, e, x, y, fun p q r s t => hQ _ _ (h1 p q r s t), fun z => hE _ (h2 z), fun p q => hE _ (h3 p q), fun p q r => hE _ (h4 p q r)⟩
theorem sc_law_near : FnScope ["_law_bottom", "_law_most", "_law_cell", "_law_bounds_here", "_law_k", "_law_pair", "_law_side", "_law_top"] ["_law_bottom", "_law_most", "_law_cell"] (defScope s_law_near) := ⟨rfl, rfl, rfl, by decide +kernel, rfl, by decide +kernel, by decide +kernel⟩
set_option maxHeartbeats 4000000 in
theorem fn_law_near (T : Txt c K mg) (G_law_ratio : Df3 P w K mg base 1 "_law_ratio" ["_law_top", "_law_bottom"] sp_law_ratio) {f : Addr} {fd : FuncData} (F : Fun K "_law_near" "_law_near" s_law_near f fd) : FnOk P w K mg base (CXR P w) 2 f fd ["_law_bottom", "_law_most", "_law_cell"] (spL K sp_law_near) := by
  have S := sc_law_near
  refine fn3 F S (fun ds Q E h => ?_) (fun cdv A outer s H E E3 hE hr => ?_)
  · obtain ⟨_, _, _, rfl, _⟩ := h; rfl
  refine ⟨_, (ss_cons (s_own (i := 3) S.nd rfl (by first | exact Or.inl rfl | exact Or.inr rfl) (lst3_ok a_nil))
    (ss_cons (s_for PassesOwn.leaving rfl (it_range1 rfl T.n_range (a_cons (callB3 len_ok rfl T.n_len bo_len (a_cons (n3 1) a_nil)) a_nil)) (t_name (i := 4) S.nd rfl (by first | exact Or.inl rfl | exact Or.inr rfl)) (ss_cons (s_own (i := 5) S.nd rfl (by first | exact Or.inl rfl | exact Or.inr rfl) (lst3_ok a_nil))
      (ss_cons (s_for PassesOwn.leaving rfl (it_range1 rfl T.n_range (a_cons i3 a_nil)) (t_name (i := 6) S.nd rfl (by first | exact Or.inl rfl | exact Or.inr rfl)) (ss_cons (s_set (i := 7) S.nd rfl (by first | exact Or.inl rfl | exact Or.inr rfl) (op3 mul_ok (callB3 (min2_ok rfl) rfl T.n_min bo_min (a_cons (at3 (at3 (n3 1) (n3 4) (fun _ _ => rfl)) (n3 6) (fun _ _ => rfl)) (a_cons (op3 mul_ok i3 (n3 0)) a_nil))) i3))
        (ss_cons (s_if (pw3 (and3_ok (tcmp3 (eq_ok hr.units) (op3 mod_ok (n3 2) i3) i3 (nomark _)) (and1_3 (tcmp3 gt_ok (n3 7) i3 (nomark _))))) (ss_one (s_set (i := 7) S.nd rfl (by first | exact Or.inl rfl | exact Or.inr rfl) (op3 sub_ok (op3 sub_ok (n3 7) i3) (op3 mod_ok (op3 fdiv_ok (n3 2) i3) i3)))) ss_nil)
        (ss_cons (s_set (i := 2) S.nd rfl (by first | exact Or.inl rfl | exact Or.inr rfl) (op3 fdiv_ok (n3 2) i3))
        (ss_one (s_append (i := 5) rfl (by first | exact Or.inl rfl | exact Or.inr (Or.inl rfl) | exact Or.inr (Or.inr rfl)) (df3 hE G_law_ratio (hr.mono (by decide)) rfl passR (a_cons (n3 7) (a_cons (op3 mul_ok i3 (n3 0)) a_nil)))))))))
      (ss_one (s_append (i := 3) rfl (by first | exact Or.inl rfl | exact Or.inr (Or.inl rfl) | exact Or.inr (Or.inr rfl)) (tup3_ok (a_cons (at3 (n3 5) i3 (fun _ _ => rfl)) (a_cons (at3 (n3 5) i3 (fun _ _ => rfl)) a_nil))))))))
    (ss_one (s_frz [3] (s_ret (n3 3)))))), fun ds Q h => ?_⟩
  obtain ⟨B, ms, cc, rfl, hB0, hB, hm8, hmn, q⟩ := h
  refine seq_step fun N hN => ?_
  walk_at "rd"
  refine hN _ ?_
  clear hN N
  simp (config := { maxSteps := 2000000 }) only [seq3, next3, set3, own3, ret3, ifS3, tt3, o3, u3, v3, atV, asS, asB, asD, optP, asT, asLd, asL, atO, consP, nilP, asId, asI, k3, nw3, add3, int3, int0, neg3, eq3, ne3, eqOk, eqv3, notN3, isNone, ix3, ixD, cons3, nil3, call3, cb3, len3, lenD, abs3, max23, min23, sum3, max3, and3, or3, not3, andV3, ch3, tup3, lst3, listN, catN, slL3, no3, part3, isi3', L2.isD, drop3, asg3, gn3, gtup3, gcons3, gnil3, app3, put3, frzS, frz, frz1, for3, itL, itT, itZ, rg1, rg2, comp3, true3, cst3, raise3, start3, shs, Cl.d, Cl.dat, Cl.f, allIn, scal3, Option.map_some, Option.map_none, Option.isSome_some, Option.isSome_none, Option.join_some, Option.join_none, List.all_cons, List.all_nil, Bool.and_true, Bool.true_and, Bool.and_self, Bool.or_false, Bool.false_or, Bool.or_true, Bool.true_or, List.map_cons, List.map_nil, List.length_cons, List.length_nil, Nat.reduceAdd, Nat.reduceSub, Nat.sub_self, List.replicate, List.cons_append, List.nil_append, List.append_nil, List.getElem?_cons_zero, List.getElem?_cons_succ, List.set_cons_zero, List.set_cons_succ, Option.some.injEq, Cl.sh.injEq, Cl.ow.injEq, PyData.int.injEq, PyData.bool.injEq, PyData.str.injEq, PyData.list.injEq, PyData.tuple.injEq, List.cons.injEq, reduceCtorEq, and_assoc, and_true, true_and, and_self, exists_eq_left, exists_eq_left', exists_eq', exists_eq_right, exists_eq_right', exists_and_left, exists_const, exists_false, false_and, and_false, or_false, false_or, or_true, true_or, decide_true, decide_false, decide_eq_true_eq, Bool.not_true, Bool.not_false, Bool.false_eq_true, Bool.true_eq_false, if_true, if_false, ite_true, ite_false, Bool.not_eq_true', decide_eq_false_iff_not, eq_self_iff_true, not_true_eq_false, not_false_eq_true, sz0, sz1, sz2, sz4, sz5, par3, thawN, aug3, augput3, idx3, ext3, itE, tree3, put2, app2, ix2, Cl.tr.injEq, sp_law_cell_at, sp_law_mixed, sp_law_wide, sp_law_spells, sp_law_long, sp_law_quotas, sp_law_row, sp_law_apart, sp_law_ratio, sp_law_bounds, sp_law_due, sp_check_weights, sp_all_turns, sp_check_spells, sp_common_divisor, sp_divisor_of_all, sp_least_bottom, sp_shares_over, sp_quotas, sp_first_turn, sp_window_of, sp_windows_of_clan, sp_windows_within, sp_less, sp_check_bounds, sp_room_at_most, sp_rooms_of, sp_windows, sp_check_row, sp_leads, sp_keeps, sp_law_near, sp_law_in_windows, sp_law, dSs, dS, dI, scal3, dQ, dP, dPs, dRoom, dW, dM, List.length_map]
  refine ⟨by omega, by omega, ?_⟩
  rw [Int.toNat_natCast]
  refine for_nums (fun k ρ => ∃ (bs : List (Rat2 × Rat2)) (c' : Int) (t4 t5 t6 t7 : Option L3.Cl), ρ = [some (.sh true (.int B)), some (.sh false (.list (ms.map dM))), some (.sh true (.int c')), some (.ow true (bs.map dP)), t4, t5, t6, t7] ∧ bs.length = k ∧ ∀ p ∈ bs, (okQ p.1 ∧ okQ p.2) ∧ inQ p.1 ∧ inQ p.2) ?_ ?_ ⟨[], _, none, none, none, none, rfl, rfl, fun p h => by cases h⟩
  · rintro k ρ hk ⟨bs, c', t4, t5, t6, t7, rfl, hbl, hall⟩ W hW
    have hmk := atI_of dM hk
    have hm0 := hmn _ (List.getElem_mem hk)
    generalize ms[k] = m at hmk hm0
    have hsel : ∀ i, 0 ≤ selM m i := fun i => by
      match i with
      | 0 => exact hm0.1
      | i + 1 => exact hm0.2
    simp only [gn3, List.set_cons_zero, List.set_cons_succ, scal3, Bool.or_true]
    refine seq_step fun N hN => ?_
    walk_at "rd"
    refine hN _ ?_
    clear hN N
    refine seq_mid (fun ρ' => ∃ (pr : List Rat2) (c' : Int) (t6 t7 : Option L3.Cl), ρ' = [some (.sh true (.int B)), some (.sh false (.list (ms.map dM))), some (.sh true (.int c')), some (.ow true (bs.map dP)), some (.sh true (.int (0 + k))), some (.ow true (pr.map dQ)), t6, t7] ∧ pr.length = 2 ∧ ∀ r ∈ pr, okQ r ∧ inQ r) (fun N hN => ?_) ?_
    · walk_at "rd"
      refine ⟨by decide, by decide, ?_⟩
      rw [show (2 : Int).toNat = 2 from rfl]
      refine for_nums (fun i ρ => ∃ (pr : List Rat2) (c' : Int) (t6 t7 : Option L3.Cl), ρ = [some (.sh true (.int B)), some (.sh false (.list (ms.map dM))), some (.sh true (.int c')), some (.ow true (bs.map dP)), some (.sh true (.int (0 + k))), some (.ow true (pr.map dQ)), t6, t7] ∧ pr.length = i ∧ ∀ r ∈ pr, okQ r ∧ inQ r) ?_ ?_ ⟨[], _, _, _, rfl, rfl, fun p h => by cases h⟩
      · rintro i ρ hi ⟨pr, c2, t6, t7, rfl, hpr, hpa⟩ W' hW'
        have e2 : atI [PyData.int m.1, PyData.int m.2] (0 + (i : Int)) = some (PyData.int (selM m i)) := atI_two (z := fun i => PyData.int (selM m i)) rfl rfl hi
        have hmo := minO_ok (m := selM m i) hB0 (hsel i) hB
        simp only [gn3, List.set_cons_zero, List.set_cons_succ, scal3, Bool.or_true]
        refine seq_step fun N hN => ?_
        simp (config := { maxSteps := 2000000 }) only [seq3, next3, set3, own3, ret3, ifS3, tt3, o3, u3, v3, atV, asS, asB, asD, optP, asT, asLd, asL, atO, consP, nilP, asId, asI, k3, nw3, add3, int3, int0, neg3, eq3, ne3, eqOk, eqv3, notN3, isNone, ix3, ixD, cons3, nil3, call3, cb3, len3, lenD, abs3, max23, min23, sum3, max3, and3, or3, not3, andV3, ch3, tup3, lst3, listN, catN, slL3, no3, part3, isi3', L2.isD, drop3, asg3, gn3, gtup3, gcons3, gnil3, app3, put3, frzS, frz, frz1, for3, itL, itT, itZ, rg1, rg2, comp3, true3, cst3, raise3, start3, shs, Cl.d, Cl.dat, Cl.f, allIn, scal3, Option.map_some, Option.map_none, Option.isSome_some, Option.isSome_none, Option.join_some, Option.join_none, List.all_cons, List.all_nil, Bool.and_true, Bool.true_and, Bool.and_self, Bool.or_false, Bool.false_or, Bool.or_true, Bool.true_or, List.map_cons, List.map_nil, List.length_cons, List.length_nil, Nat.reduceAdd, Nat.reduceSub, Nat.sub_self, List.replicate, List.cons_append, List.nil_append, List.append_nil, List.getElem?_cons_zero, List.getElem?_cons_succ, List.set_cons_zero, List.set_cons_succ, Option.some.injEq, Cl.sh.injEq, Cl.ow.injEq, PyData.int.injEq, PyData.bool.injEq, PyData.str.injEq, PyData.list.injEq, PyData.tuple.injEq, List.cons.injEq, reduceCtorEq, and_assoc, and_true, true_and, and_self, exists_eq_left, exists_eq_left', exists_eq', exists_eq_right, exists_eq_right', exists_and_left, exists_const, exists_false, false_and, and_false, or_false, false_or, or_true, true_or, decide_true, decide_false, decide_eq_true_eq, Bool.not_true, Bool.not_false, Bool.false_eq_true, Bool.true_eq_false, if_true, if_false, ite_true, ite_false, Bool.not_eq_true', decide_eq_false_iff_not, eq_self_iff_true, not_true_eq_false, not_false_eq_true, sz0, sz1, sz2, sz4, sz5, par3, thawN, aug3, augput3, idx3, ext3, itE, tree3, put2, app2, ix2, Cl.tr.injEq, sp_law_cell_at, sp_law_mixed, sp_law_wide, sp_law_spells, sp_law_long, sp_law_quotas, sp_law_row, sp_law_apart, sp_law_ratio, sp_law_bounds, sp_law_due, sp_check_weights, sp_all_turns, sp_check_spells, sp_common_divisor, sp_divisor_of_all, sp_least_bottom, sp_shares_over, sp_quotas, sp_first_turn, sp_window_of, sp_windows_of_clan, sp_windows_within, sp_less, sp_check_bounds, sp_room_at_most, sp_rooms_of, sp_windows, sp_check_row, sp_leads, sp_keeps, sp_law_near, sp_law_in_windows, sp_law, dSs, dS, dI, scal3, dQ, dP, dPs, dRoom, dW, dM, hmk, e2]
        refine ⟨(Bits.lit (x := 10) 64).mulOk hB (by decide), hmo.2.2.mulOk (Bits.lit (x := 11) 64) (by decide), hN _ ?_⟩
        clear hN N
        change seq3 _ _ _ [_, _, _, _, _, _, _, some (Cl.sh true (PyData.int (minO (selM m i) (10 * B) * 11)))]
        generalize minO (selM m i) (10 * B) = mo at hmo
        obtain ⟨g1, g2, g3⟩ := hmo
        refine seq_mid (fun ρ' => ∃ tp : Int, ρ' = [some (.sh true (.int B)), some (.sh false (.list (ms.map dM))), some (.sh true (.int c2)), some (.ow true (bs.map dP)), some (.sh true (.int (0 + k))), some (.ow true (pr.map dQ)), some (.sh true (.int (0 + i))), some (.sh true (.int tp))] ∧ 0 ≤ tp ∧ tp ≤ mo * 11) (fun N hN => ?_) ?_
        · walk_at "rd"
          exact ⟨by decide, ite2 (fun _ => ite2 (fun h => ⟨divP, by decide, hN _ ⟨_, rfl, by omega, by omega⟩⟩) fun _ => hN _ ⟨_, rfl, by omega, by omega⟩) fun _ => hN _ ⟨_, rfl, by omega, by omega⟩⟩
        rintro ρ ⟨tp, rfl, htp0, htp1⟩
        have hbt : Bits 1100 tp := ((g3.mul (Bits.lit (x := 11) 64)).le (by omega)).mono (by decide)
        have hb11 : Bits 1100 (11 * B) := ((Bits.lit (x := 11) 64).mul hB).mono (by decide)
        refine seq_step fun N hN => ?_
        walk_at "rd"
        refine ⟨divP, hN _ ?_⟩
        clear hN N
        simp (config := { maxSteps := 2000000 }) only [seq3, next3, set3, own3, ret3, ifS3, tt3, o3, u3, v3, atV, asS, asB, asD, optP, asT, asLd, asL, atO, consP, nilP, asId, asI, k3, nw3, add3, int3, int0, neg3, eq3, ne3, eqOk, eqv3, notN3, isNone, ix3, ixD, cons3, nil3, call3, cb3, len3, lenD, abs3, max23, min23, sum3, max3, and3, or3, not3, andV3, ch3, tup3, lst3, listN, catN, slL3, no3, part3, isi3', L2.isD, drop3, asg3, gn3, gtup3, gcons3, gnil3, app3, put3, frzS, frz, frz1, for3, itL, itT, itZ, rg1, rg2, comp3, true3, cst3, raise3, start3, shs, Cl.d, Cl.dat, Cl.f, allIn, scal3, Option.map_some, Option.map_none, Option.isSome_some, Option.isSome_none, Option.join_some, Option.join_none, List.all_cons, List.all_nil, Bool.and_true, Bool.true_and, Bool.and_self, Bool.or_false, Bool.false_or, Bool.or_true, Bool.true_or, List.map_cons, List.map_nil, List.length_cons, List.length_nil, Nat.reduceAdd, Nat.reduceSub, Nat.sub_self, List.replicate, List.cons_append, List.nil_append, List.append_nil, List.getElem?_cons_zero, List.getElem?_cons_succ, List.set_cons_zero, List.set_cons_succ, Option.some.injEq, Cl.sh.injEq, Cl.ow.injEq, PyData.int.injEq, PyData.bool.injEq, PyData.str.injEq, PyData.list.injEq, PyData.tuple.injEq, List.cons.injEq, reduceCtorEq, and_assoc, and_true, true_and, and_self, exists_eq_left, exists_eq_left', exists_eq', exists_eq_right, exists_eq_right', exists_and_left, exists_const, exists_false, false_and, and_false, or_false, false_or, or_true, true_or, decide_true, decide_false, decide_eq_true_eq, Bool.not_true, Bool.not_false, Bool.false_eq_true, Bool.true_eq_false, if_true, if_false, ite_true, ite_false, Bool.not_eq_true', decide_eq_false_iff_not, eq_self_iff_true, not_true_eq_false, not_false_eq_true, sz0, sz1, sz2, sz4, sz5, par3, thawN, aug3, augput3, idx3, ext3, itE, tree3, put2, app2, ix2, Cl.tr.injEq, sp_law_cell_at, sp_law_mixed, sp_law_wide, sp_law_spells, sp_law_long, sp_law_quotas, sp_law_row, sp_law_apart, sp_law_ratio, sp_law_bounds, sp_law_due, sp_check_weights, sp_all_turns, sp_check_spells, sp_common_divisor, sp_divisor_of_all, sp_least_bottom, sp_shares_over, sp_quotas, sp_first_turn, sp_window_of, sp_windows_of_clan, sp_windows_within, sp_less, sp_check_bounds, sp_room_at_most, sp_rooms_of, sp_windows, sp_check_row, sp_leads, sp_keeps, sp_law_near, sp_law_in_windows, sp_law, dSs, dS, dI, scal3, dQ, dP, dPs, dRoom, dW, dM, List.length_map]
        refine ⟨(Bits.lit (x := 11) 64).mulOk hB (by decide), by omega, hb11.mono (by decide), Nat.lt_of_lt_of_le (show _ < 1000 by omega) (by decide), hW' _ ⟨pr ++ [lowQ tp (11 * B)], _, _, _, by rw [List.map_append]; rfl, by simp [hpr], fun r hr => ?_⟩⟩
        rcases List.mem_append.mp hr with z | z
        · exact hpa r z
        · rw [List.mem_singleton.mp z]
          exact ⟨lowQ_ok (by omega) hbt hb11, lowQ_in (by omega) htp0 (by omega)⟩
      · rintro ρ ⟨pr, c2, t6, t7, rfl, hpr, hpa⟩
        exact hN _ ⟨_, _, _, _, rfl, hpr, hpa⟩
    rintro ρ ⟨pr, c2, t6, t7, rfl, hpr, hpa⟩
    match pr, hpr with
    | [r0, r1], _ =>
      simp (config := { maxSteps := 2000000 }) only [seq3, next3, set3, own3, ret3, ifS3, tt3, o3, u3, v3, atV, asS, asB, asD, optP, asT, asLd, asL, atO, consP, nilP, asId, asI, k3, nw3, add3, int3, int0, neg3, eq3, ne3, eqOk, eqv3, notN3, isNone, ix3, ixD, cons3, nil3, call3, cb3, len3, lenD, abs3, max23, min23, sum3, max3, and3, or3, not3, andV3, ch3, tup3, lst3, listN, catN, slL3, no3, part3, isi3', L2.isD, drop3, asg3, gn3, gtup3, gcons3, gnil3, app3, put3, frzS, frz, frz1, for3, itL, itT, itZ, rg1, rg2, comp3, true3, cst3, raise3, start3, shs, Cl.d, Cl.dat, Cl.f, allIn, scal3, Option.map_some, Option.map_none, Option.isSome_some, Option.isSome_none, Option.join_some, Option.join_none, List.all_cons, List.all_nil, Bool.and_true, Bool.true_and, Bool.and_self, Bool.or_false, Bool.false_or, Bool.or_true, Bool.true_or, List.map_cons, List.map_nil, List.length_cons, List.length_nil, Nat.reduceAdd, Nat.reduceSub, Nat.sub_self, List.replicate, List.cons_append, List.nil_append, List.append_nil, List.getElem?_cons_zero, List.getElem?_cons_succ, List.set_cons_zero, List.set_cons_succ, Option.some.injEq, Cl.sh.injEq, Cl.ow.injEq, PyData.int.injEq, PyData.bool.injEq, PyData.str.injEq, PyData.list.injEq, PyData.tuple.injEq, List.cons.injEq, reduceCtorEq, and_assoc, and_true, true_and, and_self, exists_eq_left, exists_eq_left', exists_eq', exists_eq_right, exists_eq_right', exists_and_left, exists_const, exists_false, false_and, and_false, or_false, false_or, or_true, true_or, decide_true, decide_false, decide_eq_true_eq, Bool.not_true, Bool.not_false, Bool.false_eq_true, Bool.true_eq_false, if_true, if_false, ite_true, ite_false, Bool.not_eq_true', decide_eq_false_iff_not, eq_self_iff_true, not_true_eq_false, not_false_eq_true, sz0, sz1, sz2, sz4, sz5, par3, thawN, aug3, augput3, idx3, ext3, itE, tree3, put2, app2, ix2, Cl.tr.injEq, sp_law_cell_at, sp_law_mixed, sp_law_wide, sp_law_spells, sp_law_long, sp_law_quotas, sp_law_row, sp_law_apart, sp_law_ratio, sp_law_bounds, sp_law_due, sp_check_weights, sp_all_turns, sp_check_spells, sp_common_divisor, sp_divisor_of_all, sp_least_bottom, sp_shares_over, sp_quotas, sp_first_turn, sp_window_of, sp_windows_of_clan, sp_windows_within, sp_less, sp_check_bounds, sp_room_at_most, sp_rooms_of, sp_windows, sp_check_row, sp_leads, sp_keeps, sp_law_near, sp_law_in_windows, sp_law, dSs, dS, dI, scal3, dQ, dP, dPs, dRoom, dW, dM, List.map_cons, List.map_nil, atI0, atI1]
      refine ⟨Nat.lt_of_lt_of_le (show _ < 1000 by rw [List.length_map]; omega) (by decide), hW _ ⟨bs ++ [(r0, r1)], _, _, _, _, _, by rw [List.map_append]; rfl, by simp [hbl], fun p hp => ?_⟩⟩
      rcases List.mem_append.mp hp with z | z
      · exact hall p z
      · rw [List.mem_singleton.mp z]
        have h0 := hpa r0 (by simp)
        have h1 := hpa r1 (by simp)
        exact ⟨⟨h0.1, h1.1⟩, h0.2, h1.2⟩
  · rintro ρ ⟨bs, c', t4, t5, t6, t7, rfl, hbl, hall⟩
    walk_at "rd"
    exact q bs hbl hall
theorem ok_law_near (T : Txt c K mg) (G_law_ratio : Df3 P w K mg base 1 "_law_ratio" ["_law_top", "_law_bottom"] sp_law_ratio) : Df3 P w K mg base 2 "_law_near" ["_law_bottom", "_law_most", "_law_cell"] sp_law_near := by
  obtain ⟨f, fd, F, hm⟩ := T.d_law_near
  have hb := F.binds (ps := ["_law_bottom", "_law_most", "_law_cell"]) fun _ _ _ _ _ _ us hl => by obtain ⟨_, _, _, rfl⟩ := arity3 hl; rfl
  refine ⟨fun ds Q Q' E E' hQ hE h => ?_, ⟨f, fd, fn_law_near T G_law_ratio F, hb, F.kp, hm⟩⟩
  obtain ⟨a, b, d, e, x1, x2, x3, x4, h⟩ := h; exact ⟨a, b, d, e, x1, x2, x3, x4, fun r y z => hQ _ _ (h r y z)⟩
theorem sc_law_in_windows : FnScope ["_law_found", "_law_row_here", "_law_clans", "_law_turns", "_law_t", "_law_seen", "_law_clan", "_law_number", "_law_opens", "_law_last"] ["_law_found", "_law_row_here", "_law_clans"] (defScope s_law_in_windows) := ⟨rfl, rfl, rfl, by decide +kernel, rfl, by decide +kernel, by decide +kernel⟩
set_option maxHeartbeats 4000000 in
theorem fn_law_in_windows (T : Txt c K mg)  {f : Addr} {fd : FuncData} (F : Fun K "_law_in_windows" "_law_in_windows" s_law_in_windows f fd) : FnOk P w K mg base (CXR P w) 1 f fd ["_law_found", "_law_row_here", "_law_clans"] (spL K sp_law_in_windows) := by
  have S := sc_law_in_windows
  refine fn3 F S (fun ds Q E h => ?_) (fun cdv A outer s H E E3 hE hr => ?_)
  · obtain ⟨_, _, _, rfl, _⟩ := h; rfl
  refine ⟨_, (ss_cons (comp_tree (i := 3) S.nd rfl (by first | exact Or.inl rfl | exact Or.inr rfl) ["_law_k"] [] [] rfl (compSc (osc := defScope s_law_in_windows) (by decide +kernel)) rfl rfl T.n_range (a_cons (n3 2) a_nil) (fun s H fp cl => ⟨pg_name (i := 0) (show ((["_law_k"] : List PySem.Str) ++ ([] : List PySem.Str)).Nodup by decide) rfl (by first | exact Or.inl rfl | exact Or.inr rfl) (by first | exact .inl rfl | exact .inr rfl), pe_lst pa_nil⟩) (fun σ H Q h => ⟨show 0 ≤ sizeLine by decide, h⟩) (fun G => RdVs.nil) rfl)
    (ss_cons (s_for PassesOwn.leaving rfl (it_range1 rfl T.n_range (a_cons (callB3 len_ok rfl T.n_len bo_len (a_cons (n3 1) a_nil)) a_nil)) (t_name (i := 4) S.nd rfl (by first | exact Or.inl rfl | exact Or.inr rfl)) (ss_one (s_append2 (i := 3) rfl (by first | exact Or.inl rfl | exact Or.inr (Or.inl rfl) | exact Or.inr (Or.inr rfl)) (at3 (n3 1) (n3 4) (fun _ _ => rfl)) (op3 add3_ok (n3 4) i3) (fun _ _ => rfl))))
    (ss_cons (s_frz [3] (comp_own (i := 5) S.nd rfl (by first | exact Or.inl rfl | exact Or.inr rfl) ["_law_k"] [] [] rfl (compSc (osc := defScope s_law_in_windows) (by decide +kernel)) rfl (it_range1 rfl T.n_range (a_cons (n3 2) a_nil)) (fun H0 s H fp cl => ⟨(t_name (i := 0) (show ((["_law_k"] : List PySem.Str) ++ ([] : List PySem.Str)).Nodup by decide) rfl (by first | exact Or.inl rfl | exact Or.inr rfl)), pt_nil, i3⟩)))
    (ss_cons (s_for PassesOwn.leaving rfl (it_list (n3 0)) (t_tup (n := 4) rfl (ts_cons (t_name (i := 6) S.nd rfl (by first | exact Or.inl rfl | exact Or.inr rfl)) (ts_cons (t_name (i := 7) S.nd rfl (by first | exact Or.inl rfl | exact Or.inr rfl)) (ts_cons (t_name (i := 8) S.nd rfl (by first | exact Or.inl rfl | exact Or.inr rfl)) (ts_cons (t_name (i := 9) S.nd rfl (by first | exact Or.inl rfl | exact Or.inr rfl)) ts_nil))))) (ss_one (s_if (tcmp3 le_ok (n3 7) (callB3 len_ok rfl T.n_len bo_len (a_cons (at3 (n3 3) (n3 6) (fun _ _ => rfl)) a_nil)) (nomark _)) (ss_cons (s_set (i := 4) S.nd rfl (by first | exact Or.inl rfl | exact Or.inr rfl) (at3 (at3 (n3 3) (n3 6) (fun _ _ => rfl)) (op3 sub_ok (n3 7) i3) (fun _ _ => rfl)))
        (ss_cons (s_if (pw3 (or3_ok (tcmp3 lt_ok (n3 4) (n3 8) (nomark _)) (or1_3 (pw3 (and3_ok (tcmp3 notN_ok (n3 9) non3 (nomark _)) (and1_3 (tcmp3 gt_ok (n3 4) (n3 9) (nomark _)))))))) (ss_one (s_ret b3)) ss_nil)
        (ss_one (s_put (i := 5) rfl (by first | exact Or.inl rfl | exact Or.inr (Or.inl rfl) | exact Or.inr (Or.inr rfl)) (n3 6) (op3 add3_ok (at3 (n3 5) (n3 6) (fun _ _ => rfl)) i3))))) (ss_one (s_if (tcmp3 notN_ok (n3 9) non3 (nomark _)) (ss_one (s_ret b3)) ss_nil)))))
    (ss_one (s_frz [3] (s_ret (cmp3 (eq_ok hr.units) (n3 5) (new3 (comp_ok ["_law_some"] [] [] rfl (compSc (osc := defScope s_law_in_windows) (by decide +kernel)) rfl (it_list (n3 3)) (fun H0 s H fp cl => ⟨(t_name (i := 0) (show ((["_law_some"] : List PySem.Str) ++ ([] : List PySem.Str)).Nodup by decide) rfl (by first | exact Or.inl rfl | exact Or.inr rfl)), pt_nil, (callB3 len_ok rfl T.n_len bo_len (a_cons (n3 0) a_nil))⟩))) (nomark _))))))))), fun ds Q h => ?_⟩
  obtain ⟨ws, row, n, rfl, h1, h8, hr60, hrow, hws, q⟩ := h
  refine seq_step fun N hN => ?_
  walk_at "rd"
  refine ⟨n, rfl, by omega, fun ps hps => hN _ ?_⟩
  clear hN N
  have htr0 : List.replicate n ([] : List PyData) = (List.range n).map fun c => posD row c 0 := by
    show _ = (List.range n).map fun c => []
    rw [List.map_const', List.length_range]
  rw [htr0]
  refine seq_mid (fun ρ' => ∃ t4, ρ' = [some (.sh false (.list (ws.map dW))), some (.sh false (.list (row.map .int))), some (.sh true (.int n)), some (.tr ps ((List.range n).map fun c => posD row c row.length)), t4, none, none, none, none, none]) (fun N hN => ?_) ?_
  · simp (config := { maxSteps := 2000000 }) only [seq3, next3, set3, own3, ret3, ifS3, tt3, o3, u3, v3, atV, asS, asB, asD, optP, asT, asLd, asL, atO, consP, nilP, asId, asI, k3, nw3, add3, int3, int0, neg3, eq3, ne3, eqOk, eqv3, notN3, isNone, ix3, ixD, cons3, nil3, call3, cb3, len3, lenD, abs3, max23, min23, sum3, max3, and3, or3, not3, andV3, ch3, tup3, lst3, listN, catN, slL3, no3, part3, isi3', L2.isD, drop3, asg3, gn3, gtup3, gcons3, gnil3, app3, put3, frzS, frz, frz1, for3, itL, itT, itZ, rg1, rg2, comp3, true3, cst3, raise3, start3, shs, Cl.d, Cl.dat, Cl.f, allIn, scal3, Option.map_some, Option.map_none, Option.isSome_some, Option.isSome_none, Option.join_some, Option.join_none, List.all_cons, List.all_nil, Bool.and_true, Bool.true_and, Bool.and_self, Bool.or_false, Bool.false_or, Bool.or_true, Bool.true_or, List.map_cons, List.map_nil, List.length_cons, List.length_nil, Nat.reduceAdd, Nat.reduceSub, Nat.sub_self, List.replicate, List.cons_append, List.nil_append, List.append_nil, List.getElem?_cons_zero, List.getElem?_cons_succ, List.set_cons_zero, List.set_cons_succ, Option.some.injEq, Cl.sh.injEq, Cl.ow.injEq, PyData.int.injEq, PyData.bool.injEq, PyData.str.injEq, PyData.list.injEq, PyData.tuple.injEq, List.cons.injEq, reduceCtorEq, and_assoc, and_true, true_and, and_self, exists_eq_left, exists_eq_left', exists_eq', exists_eq_right, exists_eq_right', exists_and_left, exists_const, exists_false, false_and, and_false, or_false, false_or, or_true, true_or, decide_true, decide_false, decide_eq_true_eq, Bool.not_true, Bool.not_false, Bool.false_eq_true, Bool.true_eq_false, if_true, if_false, ite_true, ite_false, Bool.not_eq_true', decide_eq_false_iff_not, eq_self_iff_true, not_true_eq_false, not_false_eq_true, sz0, sz1, sz2, sz4, sz5, par3, thawN, aug3, augput3, idx3, ext3, itE, tree3, put2, app2, ix2, Cl.tr.injEq, sp_law_cell_at, sp_law_mixed, sp_law_wide, sp_law_spells, sp_law_long, sp_law_quotas, sp_law_row, sp_law_apart, sp_law_ratio, sp_law_bounds, sp_law_due, sp_check_weights, sp_all_turns, sp_check_spells, sp_common_divisor, sp_divisor_of_all, sp_least_bottom, sp_shares_over, sp_quotas, sp_first_turn, sp_window_of, sp_windows_of_clan, sp_windows_within, sp_less, sp_check_bounds, sp_room_at_most, sp_rooms_of, sp_windows, sp_check_row, sp_leads, sp_keeps, sp_law_near, sp_law_in_windows, sp_law, dSs, dS, dI, scal3, dQ, dP, dPs, dRoom, dW, dM, List.length_map]
    refine ⟨by omega, by omega, ?_⟩
    rw [Int.toNat_natCast]
    refine for_nums (fun t ρ => ∃ t4, ρ = [some (.sh false (.list (ws.map dW))), some (.sh false (.list (row.map .int))), some (.sh true (.int n)), some (.tr ps ((List.range n).map fun c => posD row c t)), t4, none, none, none, none, none]) ?_ ?_ ⟨none, rfl⟩
    · rintro t ρ ht ⟨t4, rfl⟩ W hW
      have hx := hrow row[t] (List.getElem_mem ht)
      have hrt : atI (row.map PyData.int) (0 + (t : Int)) = some (PyData.int row[t]) := atI_nat' ht
      have hat : atI ((List.range n).map fun c => posD row c t) row[t] = some (posD row row[t].toNat t) := by
        have := atI_of (fun c => posD row c t) (xs := List.range n) (i := row[t].toNat) (by rw [List.length_range]; omega)
        rw [show (0 + ((row[t].toNat : Nat) : Int)) = row[t] by omega, List.getElem_range] at this
        exact this
      have hix : ixN ((List.range n).map fun c => posD row c t).length row[t] = some row[t].toNat := by
        rw [List.length_map, List.length_range]; exact ixN_lt hx.1 hx.2
      have hle : (posD row row[t].toNat t).length < sizeLine := Nat.lt_of_lt_of_le (show _ < 1000 by
        unfold posD tk
        rw [List.length_map]
        have := List.length_filter_le (posP row (row[t].toNat : Nat)) (List.range t)
        rw [List.length_range] at this; omega) (by decide)
      rw [← posD_succ ht hx] at hW
      simp (config := { maxSteps := 2000000 }) only [seq3, next3, set3, own3, ret3, ifS3, tt3, o3, u3, v3, atV, asS, asB, asD, optP, asT, asLd, asL, atO, consP, nilP, asId, asI, k3, nw3, add3, int3, int0, neg3, eq3, ne3, eqOk, eqv3, notN3, isNone, ix3, ixD, cons3, nil3, call3, cb3, len3, lenD, abs3, max23, min23, sum3, max3, and3, or3, not3, andV3, ch3, tup3, lst3, listN, catN, slL3, no3, part3, isi3', L2.isD, drop3, asg3, gn3, gtup3, gcons3, gnil3, app3, put3, frzS, frz, frz1, for3, itL, itT, itZ, rg1, rg2, comp3, true3, cst3, raise3, start3, shs, Cl.d, Cl.dat, Cl.f, allIn, scal3, Option.map_some, Option.map_none, Option.isSome_some, Option.isSome_none, Option.join_some, Option.join_none, List.all_cons, List.all_nil, Bool.and_true, Bool.true_and, Bool.and_self, Bool.or_false, Bool.false_or, Bool.or_true, Bool.true_or, List.map_cons, List.map_nil, List.length_cons, List.length_nil, Nat.reduceAdd, Nat.reduceSub, Nat.sub_self, List.replicate, List.cons_append, List.nil_append, List.append_nil, List.getElem?_cons_zero, List.getElem?_cons_succ, List.set_cons_zero, List.set_cons_succ, Option.some.injEq, Cl.sh.injEq, Cl.ow.injEq, PyData.int.injEq, PyData.bool.injEq, PyData.str.injEq, PyData.list.injEq, PyData.tuple.injEq, List.cons.injEq, reduceCtorEq, and_assoc, and_true, true_and, and_self, exists_eq_left, exists_eq_left', exists_eq', exists_eq_right, exists_eq_right', exists_and_left, exists_const, exists_false, false_and, and_false, or_false, false_or, or_true, true_or, decide_true, decide_false, decide_eq_true_eq, Bool.not_true, Bool.not_false, Bool.false_eq_true, Bool.true_eq_false, if_true, if_false, ite_true, ite_false, Bool.not_eq_true', decide_eq_false_iff_not, eq_self_iff_true, not_true_eq_false, not_false_eq_true, sz0, sz1, sz2, sz4, sz5, par3, thawN, aug3, augput3, idx3, ext3, itE, tree3, put2, app2, ix2, Cl.tr.injEq, sp_law_cell_at, sp_law_mixed, sp_law_wide, sp_law_spells, sp_law_long, sp_law_quotas, sp_law_row, sp_law_apart, sp_law_ratio, sp_law_bounds, sp_law_due, sp_check_weights, sp_all_turns, sp_check_spells, sp_common_divisor, sp_divisor_of_all, sp_least_bottom, sp_shares_over, sp_quotas, sp_first_turn, sp_window_of, sp_windows_of_clan, sp_windows_within, sp_less, sp_check_bounds, sp_room_at_most, sp_rooms_of, sp_windows, sp_check_row, sp_leads, sp_keeps, sp_law_near, sp_law_in_windows, sp_law, dSs, dS, dI, scal3, dQ, dP, dPs, dRoom, dW, dM, hrt, hat, hix]
      exact ⟨hle, hW _ ⟨_, rfl⟩⟩
    · rintro ρ ⟨t4, rfl⟩
      exact hN _ ⟨_, rfl⟩
  rintro ρ ⟨t4, rfl⟩
  refine seq_step fun N hN => ?_
  walk_at "rd"
  refine ⟨by omega, by omega, sz (by unfold nums; simp; omega), ?_⟩
  rw [Int.toNat_natCast]
  unfold nums
  refine comp_map (fun i : Nat => PyData.int (0 + (i : Nat))) (fun _ => PyData.int 0) (fun ρ => ∃ t, ρ = [t]) (List.range n) ?_ _ _ _ _ ⟨none, rfl⟩ ?_
  · rintro i hi ρ fa acc K ⟨t, rfl⟩ k
    walk_at "rd"
    exact k _ ⟨_, rfl⟩
  refine hN _ ?_
  clear hN N
  have hz : [] ++ (List.range n).map (fun _ => PyData.int 0) = ((List.range n).map (cntW row [])).map PyData.int := by
    rw [List.nil_append, List.map_map]; rfl
  rw [hz]
  refine seq_mid (fun ρ' => ∃ t4 t6 t7 t8 t9, ρ' = [some (.sh false (.list (ws.map dW))), some (.sh false (.list (row.map .int))), some (.sh true (.int n)), some (.sh true (.list (((List.range n).map fun c => posD row c row.length).map PyData.list))), t4, some (.ow true (((List.range n).map (cntW row ws)).map PyData.int)), t6, t7, t8, t9] ∧ ∀ w ∈ ws, okV (posL row w.1) w) (fun N hN => ?_) ?_
  · walk_at "rd"
    refine for_list dW ws (fun done ρ => ∃ t4 t6 t7 t8 t9, ρ = [some (.sh false (.list (ws.map dW))), some (.sh false (.list (row.map .int))), some (.sh true (.int n)), some (.sh true (.list (((List.range n).map fun c => posD row c row.length).map PyData.list))), t4, some (.ow true (((List.range n).map (cntW row done)).map PyData.int)), t6, t7, t8, t9] ∧ ∀ w ∈ done, okV (posL row w.1) w) ?_ ?_ ⟨_, _, _, _, _, rfl, fun w h => by cases h⟩
    · rintro done v rest ρ hd ⟨t4, t6, t7, t8, t9, rfl, hall⟩ W hW
      have hv : v ∈ ws := by rw [hd]; simp
      obtain ⟨v0, v1, v2⟩ := hws v hv
      obtain ⟨vc, vj, vo, vl⟩ := v
      obtain ⟨c0, hc0⟩ : ∃ c0 : Nat, vc = (c0 : Int) := ⟨vc.toNat, by have : 0 ≤ vc := v0; omega⟩
      subst hc0
      have hc0n : c0 < n := by have : (c0 : Int) < n := v1; omega
      have hj1 : 1 ≤ vj := v2
      have hat : atI (List.map PyData.list (List.map (fun c => posD row c row.length) (List.range n))) (c0 : Int) = some (PyData.list (posD row c0 row.length)) := by
        rw [List.map_map]
        have := atI_of (PyData.list ∘ fun c => posD row c row.length) (xs := List.range n) (i := c0) (by rw [List.length_range]; exact hc0n)
        rw [Int.zero_add, List.getElem_range] at this
        exact this
      have hlD : (posD row c0 row.length).length = (posL row c0).length := by unfold posD posL; rw [List.length_map]
      have hse : atI (List.map PyData.int (List.map (cntW row done) (List.range n))) (c0 : Int) = some (PyData.int (cntW row done c0)) := by
        rw [List.map_map]
        have := atI_of (PyData.int ∘ cntW row done) (xs := List.range n) (i := c0) (by rw [List.length_range]; exact hc0n)
        rw [Int.zero_add, List.getElem_range] at this
        exact this
      have hix : ixN (List.map PyData.int (List.map (cntW row done) (List.range n))).length (c0 : Int) = some c0 := by
        rw [List.length_map, List.length_map, List.length_range, ixN_lt (by omega) (by omega)]; congr 1
      have bad : ¬ okV (posL row c0) (((c0 : Nat) : Int), vj, vo, vl) → Q true (PyData.bool false) := fun h => q false ⟨(fun z => by cases z), fun z => absurd (z.1 _ hv) h⟩
      have good : okV (posL row c0) (((c0 : Nat) : Int), vj, vo, vl) → ∀ w ∈ done ++ [(((c0 : Nat) : Int), vj, vo, vl)], okV (posL row w.1) w := fun h w hw => by
        rcases List.mem_append.mp hw with z | z
        · exact hall w z
        · rw [List.mem_singleton.mp z]; exact h
      refine ⟨rfl, ?_⟩
      dsimp only [gcons3, gnil3, gn3, consP, nilP]
      show ifS3 _ _ _ _ [some (.sh false (.list (ws.map dW))), some (.sh false (.list (row.map .int))), some (.sh true (.int n)), some (.sh true (.list (((List.range n).map fun c => posD row c row.length).map PyData.list))), t4, some (.ow true (((List.range n).map (cntW row done)).map PyData.int)), some (.sh true (.int c0)), some (.sh true (.int vj)), some (.sh true (.int vo)), some (.sh (scal3 (dO vl)) (dO vl))]
      rw [scO]
      refine if_step fun Y N' hY hN' => ?_
      simp (config := { maxSteps := 2000000 }) only [seq3, next3, set3, own3, ret3, ifS3, tt3, o3, u3, v3, atV, asS, asB, asD, optP, asT, asLd, asL, atO, consP, nilP, asId, asI, k3, nw3, add3, int3, int0, neg3, eq3, ne3, eqOk, eqv3, notN3, isNone, ix3, ixD, cons3, nil3, call3, cb3, len3, lenD, abs3, max23, min23, sum3, max3, and3, or3, not3, andV3, ch3, tup3, lst3, listN, catN, slL3, no3, part3, isi3', L2.isD, drop3, asg3, gn3, gtup3, gcons3, gnil3, app3, put3, frzS, frz, frz1, for3, itL, itT, itZ, rg1, rg2, comp3, true3, cst3, raise3, start3, shs, Cl.d, Cl.dat, Cl.f, allIn, scal3, Option.map_some, Option.map_none, Option.isSome_some, Option.isSome_none, Option.join_some, Option.join_none, List.all_cons, List.all_nil, Bool.and_true, Bool.true_and, Bool.and_self, Bool.or_false, Bool.false_or, Bool.or_true, Bool.true_or, List.map_cons, List.map_nil, List.length_cons, List.length_nil, Nat.reduceAdd, Nat.reduceSub, Nat.sub_self, List.replicate, List.cons_append, List.nil_append, List.append_nil, List.getElem?_cons_zero, List.getElem?_cons_succ, List.set_cons_zero, List.set_cons_succ, Option.some.injEq, Cl.sh.injEq, Cl.ow.injEq, PyData.int.injEq, PyData.bool.injEq, PyData.str.injEq, PyData.list.injEq, PyData.tuple.injEq, List.cons.injEq, reduceCtorEq, and_assoc, and_true, true_and, and_self, exists_eq_left, exists_eq_left', exists_eq', exists_eq_right, exists_eq_right', exists_and_left, exists_const, exists_false, false_and, and_false, or_false, false_or, or_true, true_or, decide_true, decide_false, decide_eq_true_eq, Bool.not_true, Bool.not_false, Bool.false_eq_true, Bool.true_eq_false, if_true, if_false, ite_true, ite_false, Bool.not_eq_true', decide_eq_false_iff_not, eq_self_iff_true, not_true_eq_false, not_false_eq_true, sz0, sz1, sz2, sz4, sz5, par3, thawN, aug3, augput3, idx3, ext3, itE, tree3, put2, app2, ix2, Cl.tr.injEq, sp_law_cell_at, sp_law_mixed, sp_law_wide, sp_law_spells, sp_law_long, sp_law_quotas, sp_law_row, sp_law_apart, sp_law_ratio, sp_law_bounds, sp_law_due, sp_check_weights, sp_all_turns, sp_check_spells, sp_common_divisor, sp_divisor_of_all, sp_least_bottom, sp_shares_over, sp_quotas, sp_first_turn, sp_window_of, sp_windows_of_clan, sp_windows_within, sp_less, sp_check_bounds, sp_room_at_most, sp_rooms_of, sp_windows, sp_check_row, sp_leads, sp_keeps, sp_law_near, sp_law_in_windows, sp_law, dSs, dS, dI, scal3, dQ, dP, dPs, dRoom, dW, dM, hat, hlD]
      by_cases hc : vj ≤ ((posL row c0).length : Int)
      · have hpt : atI (posD row c0 row.length) (vj - 1) = some (PyData.int (((posL row c0).getD (vj - 1).toNat 0 + 1 : Nat) : Int)) := by
          have := atI_of (fun t : Nat => PyData.int ((t + 1 : Nat) : Int)) (xs := posL row c0) (i := (vj - 1).toNat) (by omega)
          rw [show (0 + (((vj - 1).toNat : Nat) : Int)) = vj - 1 by omega] at this
          rw [List.getD_eq_getElem?_getD, List.getElem?_eq_getElem (show (vj - 1).toNat < (posL row c0).length by omega)]
          exact this
        have hset := cntW_yes (row := row) (done := done) (w := (((c0 : Nat) : Int), vj, vo, vl)) (n := n) rfl hc
        have hset' : (List.map PyData.int (List.map (cntW row done) (List.range n))).set c0 (PyData.int (cntW row done c0 + 1)) = List.map PyData.int (List.map (cntW row (done ++ [(((c0 : Nat) : Int), vj, vo, vl)])) (List.range n)) := by rw [← hset, List.map_set]
        unfold okV at bad good
        dsimp only at bad good
        rw [if_pos hc] at bad good
        rw [if_pos hc]
        generalize (((posL row c0).getD (vj - 1).toNat 0 + 1 : Nat) : Int) = tt at hpt bad good
        refine hY ?_
        refine seq_step fun N2 hN2 => ?_
        simp (config := { maxSteps := 2000000 }) only [seq3, next3, set3, own3, ret3, ifS3, tt3, o3, u3, v3, atV, asS, asB, asD, optP, asT, asLd, asL, atO, consP, nilP, asId, asI, k3, nw3, add3, int3, int0, neg3, eq3, ne3, eqOk, eqv3, notN3, isNone, ix3, ixD, cons3, nil3, call3, cb3, len3, lenD, abs3, max23, min23, sum3, max3, and3, or3, not3, andV3, ch3, tup3, lst3, listN, catN, slL3, no3, part3, isi3', L2.isD, drop3, asg3, gn3, gtup3, gcons3, gnil3, app3, put3, frzS, frz, frz1, for3, itL, itT, itZ, rg1, rg2, comp3, true3, cst3, raise3, start3, shs, Cl.d, Cl.dat, Cl.f, allIn, scal3, Option.map_some, Option.map_none, Option.isSome_some, Option.isSome_none, Option.join_some, Option.join_none, List.all_cons, List.all_nil, Bool.and_true, Bool.true_and, Bool.and_self, Bool.or_false, Bool.false_or, Bool.or_true, Bool.true_or, List.map_cons, List.map_nil, List.length_cons, List.length_nil, Nat.reduceAdd, Nat.reduceSub, Nat.sub_self, List.replicate, List.cons_append, List.nil_append, List.append_nil, List.getElem?_cons_zero, List.getElem?_cons_succ, List.set_cons_zero, List.set_cons_succ, Option.some.injEq, Cl.sh.injEq, Cl.ow.injEq, PyData.int.injEq, PyData.bool.injEq, PyData.str.injEq, PyData.list.injEq, PyData.tuple.injEq, List.cons.injEq, reduceCtorEq, and_assoc, and_true, true_and, and_self, exists_eq_left, exists_eq_left', exists_eq', exists_eq_right, exists_eq_right', exists_and_left, exists_const, exists_false, false_and, and_false, or_false, false_or, or_true, true_or, decide_true, decide_false, decide_eq_true_eq, Bool.not_true, Bool.not_false, Bool.false_eq_true, Bool.true_eq_false, if_true, if_false, ite_true, ite_false, Bool.not_eq_true', decide_eq_false_iff_not, eq_self_iff_true, not_true_eq_false, not_false_eq_true, sz0, sz1, sz2, sz4, sz5, par3, thawN, aug3, augput3, idx3, ext3, itE, tree3, put2, app2, ix2, Cl.tr.injEq, sp_law_cell_at, sp_law_mixed, sp_law_wide, sp_law_spells, sp_law_long, sp_law_quotas, sp_law_row, sp_law_apart, sp_law_ratio, sp_law_bounds, sp_law_due, sp_check_weights, sp_all_turns, sp_check_spells, sp_common_divisor, sp_divisor_of_all, sp_least_bottom, sp_shares_over, sp_quotas, sp_first_turn, sp_window_of, sp_windows_of_clan, sp_windows_within, sp_less, sp_check_bounds, sp_room_at_most, sp_rooms_of, sp_windows, sp_check_row, sp_leads, sp_keeps, sp_law_near, sp_law_in_windows, sp_law, dSs, dS, dI, scal3, dQ, dP, dPs, dRoom, dW, dM, hat, hpt]
        refine hN2 _ ?_
        clear hN2 N2
        refine seq_mid (fun ρ' => (tt ≥ vo ∧ ∀ x, vl = some x → tt ≤ x) ∧ ρ' = [some (.sh false (.list (ws.map dW))), some (.sh false (.list (row.map .int))), some (.sh true (.int n)), some (.sh true (.list (((List.range n).map fun c => posD row c row.length).map PyData.list))), some (.sh true (.int tt)), some (.ow true (((List.range n).map (cntW row done)).map PyData.int)), some (.sh true (.int c0)), some (.sh true (.int vj)), some (.sh true (.int vo)), some (.sh true (dO vl))]) (fun N2 hN2 => ?_) ?_
        · cases vl with
          | none =>
            simp (config := { maxSteps := 2000000 }) only [seq3, next3, set3, own3, ret3, ifS3, tt3, o3, u3, v3, atV, asS, asB, asD, optP, asT, asLd, asL, atO, consP, nilP, asId, asI, k3, nw3, add3, int3, int0, neg3, eq3, ne3, eqOk, eqv3, notN3, isNone, ix3, ixD, cons3, nil3, call3, cb3, len3, lenD, abs3, max23, min23, sum3, max3, and3, or3, not3, andV3, ch3, tup3, lst3, listN, catN, slL3, no3, part3, isi3', L2.isD, drop3, asg3, gn3, gtup3, gcons3, gnil3, app3, put3, frzS, frz, frz1, for3, itL, itT, itZ, rg1, rg2, comp3, true3, cst3, raise3, start3, shs, Cl.d, Cl.dat, Cl.f, allIn, scal3, Option.map_some, Option.map_none, Option.isSome_some, Option.isSome_none, Option.join_some, Option.join_none, List.all_cons, List.all_nil, Bool.and_true, Bool.true_and, Bool.and_self, Bool.or_false, Bool.false_or, Bool.or_true, Bool.true_or, List.map_cons, List.map_nil, List.length_cons, List.length_nil, Nat.reduceAdd, Nat.reduceSub, Nat.sub_self, List.replicate, List.cons_append, List.nil_append, List.append_nil, List.getElem?_cons_zero, List.getElem?_cons_succ, List.set_cons_zero, List.set_cons_succ, Option.some.injEq, Cl.sh.injEq, Cl.ow.injEq, PyData.int.injEq, PyData.bool.injEq, PyData.str.injEq, PyData.list.injEq, PyData.tuple.injEq, List.cons.injEq, reduceCtorEq, and_assoc, and_true, true_and, and_self, exists_eq_left, exists_eq_left', exists_eq', exists_eq_right, exists_eq_right', exists_and_left, exists_const, exists_false, false_and, and_false, or_false, false_or, or_true, true_or, decide_true, decide_false, decide_eq_true_eq, Bool.not_true, Bool.not_false, Bool.false_eq_true, Bool.true_eq_false, if_true, if_false, ite_true, ite_false, Bool.not_eq_true', decide_eq_false_iff_not, eq_self_iff_true, not_true_eq_false, not_false_eq_true, sz0, sz1, sz2, sz4, sz5, par3, thawN, aug3, augput3, idx3, ext3, itE, tree3, put2, app2, ix2, Cl.tr.injEq, sp_law_cell_at, sp_law_mixed, sp_law_wide, sp_law_spells, sp_law_long, sp_law_quotas, sp_law_row, sp_law_apart, sp_law_ratio, sp_law_bounds, sp_law_due, sp_check_weights, sp_all_turns, sp_check_spells, sp_common_divisor, sp_divisor_of_all, sp_least_bottom, sp_shares_over, sp_quotas, sp_first_turn, sp_window_of, sp_windows_of_clan, sp_windows_within, sp_less, sp_check_bounds, sp_room_at_most, sp_rooms_of, sp_windows, sp_check_row, sp_leads, sp_keeps, sp_law_near, sp_law_in_windows, sp_law, dSs, dS, dI, scal3, dQ, dP, dPs, dRoom, dW, dM, dO]
            exact ite2 (fun h => bad fun z => absurd z.1 (by omega)) fun h => hN2 _ ⟨⟨by omega, fun x hx => by cases hx⟩, rfl⟩
          | some x =>
            simp (config := { maxSteps := 2000000 }) only [seq3, next3, set3, own3, ret3, ifS3, tt3, o3, u3, v3, atV, asS, asB, asD, optP, asT, asLd, asL, atO, consP, nilP, asId, asI, k3, nw3, add3, int3, int0, neg3, eq3, ne3, eqOk, eqv3, notN3, isNone, ix3, ixD, cons3, nil3, call3, cb3, len3, lenD, abs3, max23, min23, sum3, max3, and3, or3, not3, andV3, ch3, tup3, lst3, listN, catN, slL3, no3, part3, isi3', L2.isD, drop3, asg3, gn3, gtup3, gcons3, gnil3, app3, put3, frzS, frz, frz1, for3, itL, itT, itZ, rg1, rg2, comp3, true3, cst3, raise3, start3, shs, Cl.d, Cl.dat, Cl.f, allIn, scal3, Option.map_some, Option.map_none, Option.isSome_some, Option.isSome_none, Option.join_some, Option.join_none, List.all_cons, List.all_nil, Bool.and_true, Bool.true_and, Bool.and_self, Bool.or_false, Bool.false_or, Bool.or_true, Bool.true_or, List.map_cons, List.map_nil, List.length_cons, List.length_nil, Nat.reduceAdd, Nat.reduceSub, Nat.sub_self, List.replicate, List.cons_append, List.nil_append, List.append_nil, List.getElem?_cons_zero, List.getElem?_cons_succ, List.set_cons_zero, List.set_cons_succ, Option.some.injEq, Cl.sh.injEq, Cl.ow.injEq, PyData.int.injEq, PyData.bool.injEq, PyData.str.injEq, PyData.list.injEq, PyData.tuple.injEq, List.cons.injEq, reduceCtorEq, and_assoc, and_true, true_and, and_self, exists_eq_left, exists_eq_left', exists_eq', exists_eq_right, exists_eq_right', exists_and_left, exists_const, exists_false, false_and, and_false, or_false, false_or, or_true, true_or, decide_true, decide_false, decide_eq_true_eq, Bool.not_true, Bool.not_false, Bool.false_eq_true, Bool.true_eq_false, if_true, if_false, ite_true, ite_false, Bool.not_eq_true', decide_eq_false_iff_not, eq_self_iff_true, not_true_eq_false, not_false_eq_true, sz0, sz1, sz2, sz4, sz5, par3, thawN, aug3, augput3, idx3, ext3, itE, tree3, put2, app2, ix2, Cl.tr.injEq, sp_law_cell_at, sp_law_mixed, sp_law_wide, sp_law_spells, sp_law_long, sp_law_quotas, sp_law_row, sp_law_apart, sp_law_ratio, sp_law_bounds, sp_law_due, sp_check_weights, sp_all_turns, sp_check_spells, sp_common_divisor, sp_divisor_of_all, sp_least_bottom, sp_shares_over, sp_quotas, sp_first_turn, sp_window_of, sp_windows_of_clan, sp_windows_within, sp_less, sp_check_bounds, sp_room_at_most, sp_rooms_of, sp_windows, sp_check_row, sp_leads, sp_keeps, sp_law_near, sp_law_in_windows, sp_law, dSs, dS, dI, scal3, dQ, dP, dPs, dRoom, dW, dM, dO]
            exact ite2 (fun h => bad fun z => absurd z.1 (by omega)) fun h => ite2 (fun h2 => bad fun z => absurd (z.2 x rfl) (by omega)) fun h2 => hN2 _ ⟨⟨by omega, fun y hy => by cases hy; omega⟩, rfl⟩
        rintro ρ ⟨hgd, rfl⟩
        simp (config := { maxSteps := 2000000 }) only [seq3, next3, set3, own3, ret3, ifS3, tt3, o3, u3, v3, atV, asS, asB, asD, optP, asT, asLd, asL, atO, consP, nilP, asId, asI, k3, nw3, add3, int3, int0, neg3, eq3, ne3, eqOk, eqv3, notN3, isNone, ix3, ixD, cons3, nil3, call3, cb3, len3, lenD, abs3, max23, min23, sum3, max3, and3, or3, not3, andV3, ch3, tup3, lst3, listN, catN, slL3, no3, part3, isi3', L2.isD, drop3, asg3, gn3, gtup3, gcons3, gnil3, app3, put3, frzS, frz, frz1, for3, itL, itT, itZ, rg1, rg2, comp3, true3, cst3, raise3, start3, shs, Cl.d, Cl.dat, Cl.f, allIn, scal3, Option.map_some, Option.map_none, Option.isSome_some, Option.isSome_none, Option.join_some, Option.join_none, List.all_cons, List.all_nil, Bool.and_true, Bool.true_and, Bool.and_self, Bool.or_false, Bool.false_or, Bool.or_true, Bool.true_or, List.map_cons, List.map_nil, List.length_cons, List.length_nil, Nat.reduceAdd, Nat.reduceSub, Nat.sub_self, List.replicate, List.cons_append, List.nil_append, List.append_nil, List.getElem?_cons_zero, List.getElem?_cons_succ, List.set_cons_zero, List.set_cons_succ, Option.some.injEq, Cl.sh.injEq, Cl.ow.injEq, PyData.int.injEq, PyData.bool.injEq, PyData.str.injEq, PyData.list.injEq, PyData.tuple.injEq, List.cons.injEq, reduceCtorEq, and_assoc, and_true, true_and, and_self, exists_eq_left, exists_eq_left', exists_eq', exists_eq_right, exists_eq_right', exists_and_left, exists_const, exists_false, false_and, and_false, or_false, false_or, or_true, true_or, decide_true, decide_false, decide_eq_true_eq, Bool.not_true, Bool.not_false, Bool.false_eq_true, Bool.true_eq_false, if_true, if_false, ite_true, ite_false, Bool.not_eq_true', decide_eq_false_iff_not, eq_self_iff_true, not_true_eq_false, not_false_eq_true, sz0, sz1, sz2, sz4, sz5, par3, thawN, aug3, augput3, idx3, ext3, itE, tree3, put2, app2, ix2, Cl.tr.injEq, sp_law_cell_at, sp_law_mixed, sp_law_wide, sp_law_spells, sp_law_long, sp_law_quotas, sp_law_row, sp_law_apart, sp_law_ratio, sp_law_bounds, sp_law_due, sp_check_weights, sp_all_turns, sp_check_spells, sp_common_divisor, sp_divisor_of_all, sp_least_bottom, sp_shares_over, sp_quotas, sp_first_turn, sp_window_of, sp_windows_of_clan, sp_windows_within, sp_less, sp_check_bounds, sp_room_at_most, sp_rooms_of, sp_windows, sp_check_row, sp_leads, sp_keeps, sp_law_near, sp_law_in_windows, sp_law, dSs, dS, dI, scal3, dQ, dP, dPs, dRoom, dW, dM, hse, hix, hset']
        exact hW _ ⟨_, _, _, _, _, rfl, good hgd⟩
      · have hno := cntW_no (row := row) (done := done) (w := (((c0 : Nat) : Int), vj, vo, vl)) (n := n) rfl hc
        rw [hno] at hW
        unfold okV at bad good
        dsimp only at bad good
        rw [if_neg hc] at bad good
        rw [if_neg hc]
        refine hN' ?_
        cases vl with
        | none =>
          simp (config := { maxSteps := 2000000 }) only [seq3, next3, set3, own3, ret3, ifS3, tt3, o3, u3, v3, atV, asS, asB, asD, optP, asT, asLd, asL, atO, consP, nilP, asId, asI, k3, nw3, add3, int3, int0, neg3, eq3, ne3, eqOk, eqv3, notN3, isNone, ix3, ixD, cons3, nil3, call3, cb3, len3, lenD, abs3, max23, min23, sum3, max3, and3, or3, not3, andV3, ch3, tup3, lst3, listN, catN, slL3, no3, part3, isi3', L2.isD, drop3, asg3, gn3, gtup3, gcons3, gnil3, app3, put3, frzS, frz, frz1, for3, itL, itT, itZ, rg1, rg2, comp3, true3, cst3, raise3, start3, shs, Cl.d, Cl.dat, Cl.f, allIn, scal3, Option.map_some, Option.map_none, Option.isSome_some, Option.isSome_none, Option.join_some, Option.join_none, List.all_cons, List.all_nil, Bool.and_true, Bool.true_and, Bool.and_self, Bool.or_false, Bool.false_or, Bool.or_true, Bool.true_or, List.map_cons, List.map_nil, List.length_cons, List.length_nil, Nat.reduceAdd, Nat.reduceSub, Nat.sub_self, List.replicate, List.cons_append, List.nil_append, List.append_nil, List.getElem?_cons_zero, List.getElem?_cons_succ, List.set_cons_zero, List.set_cons_succ, Option.some.injEq, Cl.sh.injEq, Cl.ow.injEq, PyData.int.injEq, PyData.bool.injEq, PyData.str.injEq, PyData.list.injEq, PyData.tuple.injEq, List.cons.injEq, reduceCtorEq, and_assoc, and_true, true_and, and_self, exists_eq_left, exists_eq_left', exists_eq', exists_eq_right, exists_eq_right', exists_and_left, exists_const, exists_false, false_and, and_false, or_false, false_or, or_true, true_or, decide_true, decide_false, decide_eq_true_eq, Bool.not_true, Bool.not_false, Bool.false_eq_true, Bool.true_eq_false, if_true, if_false, ite_true, ite_false, Bool.not_eq_true', decide_eq_false_iff_not, eq_self_iff_true, not_true_eq_false, not_false_eq_true, sz0, sz1, sz2, sz4, sz5, par3, thawN, aug3, augput3, idx3, ext3, itE, tree3, put2, app2, ix2, Cl.tr.injEq, sp_law_cell_at, sp_law_mixed, sp_law_wide, sp_law_spells, sp_law_long, sp_law_quotas, sp_law_row, sp_law_apart, sp_law_ratio, sp_law_bounds, sp_law_due, sp_check_weights, sp_all_turns, sp_check_spells, sp_common_divisor, sp_divisor_of_all, sp_least_bottom, sp_shares_over, sp_quotas, sp_first_turn, sp_window_of, sp_windows_of_clan, sp_windows_within, sp_less, sp_check_bounds, sp_room_at_most, sp_rooms_of, sp_windows, sp_check_row, sp_leads, sp_keeps, sp_law_near, sp_law_in_windows, sp_law, dSs, dS, dI, scal3, dQ, dP, dPs, dRoom, dW, dM, dO]
          exact hW _ ⟨_, _, _, _, _, rfl, good rfl⟩
        | some x =>
          simp (config := { maxSteps := 2000000 }) only [seq3, next3, set3, own3, ret3, ifS3, tt3, o3, u3, v3, atV, asS, asB, asD, optP, asT, asLd, asL, atO, consP, nilP, asId, asI, k3, nw3, add3, int3, int0, neg3, eq3, ne3, eqOk, eqv3, notN3, isNone, ix3, ixD, cons3, nil3, call3, cb3, len3, lenD, abs3, max23, min23, sum3, max3, and3, or3, not3, andV3, ch3, tup3, lst3, listN, catN, slL3, no3, part3, isi3', L2.isD, drop3, asg3, gn3, gtup3, gcons3, gnil3, app3, put3, frzS, frz, frz1, for3, itL, itT, itZ, rg1, rg2, comp3, true3, cst3, raise3, start3, shs, Cl.d, Cl.dat, Cl.f, allIn, scal3, Option.map_some, Option.map_none, Option.isSome_some, Option.isSome_none, Option.join_some, Option.join_none, List.all_cons, List.all_nil, Bool.and_true, Bool.true_and, Bool.and_self, Bool.or_false, Bool.false_or, Bool.or_true, Bool.true_or, List.map_cons, List.map_nil, List.length_cons, List.length_nil, Nat.reduceAdd, Nat.reduceSub, Nat.sub_self, List.replicate, List.cons_append, List.nil_append, List.append_nil, List.getElem?_cons_zero, List.getElem?_cons_succ, List.set_cons_zero, List.set_cons_succ, Option.some.injEq, Cl.sh.injEq, Cl.ow.injEq, PyData.int.injEq, PyData.bool.injEq, PyData.str.injEq, PyData.list.injEq, PyData.tuple.injEq, List.cons.injEq, reduceCtorEq, and_assoc, and_true, true_and, and_self, exists_eq_left, exists_eq_left', exists_eq', exists_eq_right, exists_eq_right', exists_and_left, exists_const, exists_false, false_and, and_false, or_false, false_or, or_true, true_or, decide_true, decide_false, decide_eq_true_eq, Bool.not_true, Bool.not_false, Bool.false_eq_true, Bool.true_eq_false, if_true, if_false, ite_true, ite_false, Bool.not_eq_true', decide_eq_false_iff_not, eq_self_iff_true, not_true_eq_false, not_false_eq_true, sz0, sz1, sz2, sz4, sz5, par3, thawN, aug3, augput3, idx3, ext3, itE, tree3, put2, app2, ix2, Cl.tr.injEq, sp_law_cell_at, sp_law_mixed, sp_law_wide, sp_law_spells, sp_law_long, sp_law_quotas, sp_law_row, sp_law_apart, sp_law_ratio, sp_law_bounds, sp_law_due, sp_check_weights, sp_all_turns, sp_check_spells, sp_common_divisor, sp_divisor_of_all, sp_least_bottom, sp_shares_over, sp_quotas, sp_first_turn, sp_window_of, sp_windows_of_clan, sp_windows_within, sp_less, sp_check_bounds, sp_room_at_most, sp_rooms_of, sp_windows, sp_check_row, sp_leads, sp_keeps, sp_law_near, sp_law_in_windows, sp_law, dSs, dS, dI, scal3, dQ, dP, dPs, dRoom, dW, dM, dO]
          exact bad fun z => by cases z
    · rintro ρ ⟨t4, t6, t7, t8, t9, rfl, hall⟩
      exact hN _ ⟨_, _, _, _, _, rfl, hall⟩
  rintro ρ ⟨t4, t6, t7, t8, t9, rfl, hall⟩
  walk_at "rd"
  rw [show List.map PyData.list (List.map (fun c => posD row c row.length) (List.range n)) = (List.range n).map fun c => PyData.list (posD row c row.length) from by rw [List.map_map]; rfl]
  refine ⟨sz (by rw [List.length_map, List.length_range]; omega), ?_⟩
  refine comp_map (fun c => PyData.list (posD row c row.length)) (fun c => PyData.int ((posL row (c : Nat)).length : Int)) (fun ρ => ∃ t, ρ = [t]) (List.range n) ?_ _ _ _ _ ⟨none, rfl⟩ ?_
  · rintro c hcm ρ fa acc K ⟨t, rfl⟩ kk
    have hlD : (posD row c row.length).length = (posL row c).length := by unfold posD posL; rw [List.length_map]
    simp (config := { maxSteps := 2000000 }) only [seq3, next3, set3, own3, ret3, ifS3, tt3, o3, u3, v3, atV, asS, asB, asD, optP, asT, asLd, asL, atO, consP, nilP, asId, asI, k3, nw3, add3, int3, int0, neg3, eq3, ne3, eqOk, eqv3, notN3, isNone, ix3, ixD, cons3, nil3, call3, cb3, len3, lenD, abs3, max23, min23, sum3, max3, and3, or3, not3, andV3, ch3, tup3, lst3, listN, catN, slL3, no3, part3, isi3', L2.isD, drop3, asg3, gn3, gtup3, gcons3, gnil3, app3, put3, frzS, frz, frz1, for3, itL, itT, itZ, rg1, rg2, comp3, true3, cst3, raise3, start3, shs, Cl.d, Cl.dat, Cl.f, allIn, scal3, Option.map_some, Option.map_none, Option.isSome_some, Option.isSome_none, Option.join_some, Option.join_none, List.all_cons, List.all_nil, Bool.and_true, Bool.true_and, Bool.and_self, Bool.or_false, Bool.false_or, Bool.or_true, Bool.true_or, List.map_cons, List.map_nil, List.length_cons, List.length_nil, Nat.reduceAdd, Nat.reduceSub, Nat.sub_self, List.replicate, List.cons_append, List.nil_append, List.append_nil, List.getElem?_cons_zero, List.getElem?_cons_succ, List.set_cons_zero, List.set_cons_succ, Option.some.injEq, Cl.sh.injEq, Cl.ow.injEq, PyData.int.injEq, PyData.bool.injEq, PyData.str.injEq, PyData.list.injEq, PyData.tuple.injEq, List.cons.injEq, reduceCtorEq, and_assoc, and_true, true_and, and_self, exists_eq_left, exists_eq_left', exists_eq', exists_eq_right, exists_eq_right', exists_and_left, exists_const, exists_false, false_and, and_false, or_false, false_or, or_true, true_or, decide_true, decide_false, decide_eq_true_eq, Bool.not_true, Bool.not_false, Bool.false_eq_true, Bool.true_eq_false, if_true, if_false, ite_true, ite_false, Bool.not_eq_true', decide_eq_false_iff_not, eq_self_iff_true, not_true_eq_false, not_false_eq_true, sz0, sz1, sz2, sz4, sz5, par3, thawN, aug3, augput3, idx3, ext3, itE, tree3, put2, app2, ix2, Cl.tr.injEq, sp_law_cell_at, sp_law_mixed, sp_law_wide, sp_law_spells, sp_law_long, sp_law_quotas, sp_law_row, sp_law_apart, sp_law_ratio, sp_law_bounds, sp_law_due, sp_check_weights, sp_all_turns, sp_check_spells, sp_common_divisor, sp_divisor_of_all, sp_least_bottom, sp_shares_over, sp_quotas, sp_first_turn, sp_window_of, sp_windows_of_clan, sp_windows_within, sp_less, sp_check_bounds, sp_room_at_most, sp_rooms_of, sp_windows, sp_check_row, sp_leads, sp_keeps, sp_law_near, sp_law_in_windows, sp_law, dSs, dS, dI, scal3, dQ, dP, dPs, dRoom, dW, dM, hlD]
    exact kk _ ⟨_, rfl⟩
  have hls : [] ++ (List.range n).map (fun c : Nat => PyData.int ((posL row (c : Nat)).length : Int)) = ((List.range n).map fun c : Nat => ((posL row (c : Nat)).length : Int)).map PyData.int := by
    rw [List.nil_append, List.map_map]; rfl
  rw [hls, eqv_ints]
  refine ⟨(plain_dI _).shaped (by decide), (plain_dI _).shaped (by decide), q _ ⟨fun z => ⟨hall, fun c hc => ?_⟩, fun z => decide_eq_true (List.map_congr_left fun c hc => ?_)⟩⟩
  · have e := of_decide_eq_true z
    have := congrArg (fun l => l[c]?) e
    simp only [List.getElem?_map, List.getElem?_range hc, Option.map_some, Option.some.injEq] at this
    unfold cntW at this
    omega
  · have := z.2 c (List.mem_range.mp hc)
    unfold cntW
    omega
theorem ok_law_in_windows (T : Txt c K mg)  : Df3 P w K mg base 1 "_law_in_windows" ["_law_found", "_law_row_here", "_law_clans"] sp_law_in_windows := by
  obtain ⟨f, fd, F, hm⟩ := T.d_law_in_windows
  have hb := F.binds (ps := ["_law_found", "_law_row_here", "_law_clans"]) fun _ _ _ _ _ _ us hl => by obtain ⟨_, _, _, rfl⟩ := arity3 hl; rfl
  refine ⟨fun ds Q Q' E E' hQ hE h => ?_, ⟨f, fd, fn_law_in_windows T  F, hb, F.kp, hm⟩⟩
  obtain ⟨a, b, d, e, x1, x2, x3, x4, x5, h⟩ := h; exact ⟨a, b, d, e, x1, x2, x3, x4, x5, fun r y => hQ _ _ (h r y)⟩
theorem sc_law : FnScope ["_law_script", "_law_spells_here", "_law_bottom", "_law_rows", "_law_row_here", "_law_most", "_law_bounds_here", "_law_due_here", "_law_handed", "_law_found", "_law_told"] ["_law_script"] (defScope s_law) := ⟨rfl, rfl, rfl, by decide +kernel, rfl, by decide +kernel, by decide +kernel⟩
set_option maxHeartbeats 4000000 in
theorem fn_law (T : Txt c K mg) (G_law_long : Df3 P w K mg base 4 "_law_long" ["_law_script", "_law_most"] sp_law_long) (G_law_quotas : Df3 P w K mg base 1 "_law_quotas" ["_law_spells_here"] sp_law_quotas) (G_law_row : Df3 P w K mg base 3 "_law_row" ["_law_bottom", "_law_rows", "_law_cell"] sp_law_row) (G_law_apart : Df3 P w K mg base 1 "_law_apart" ["_law_bottom", "_law_rows", "_law_row_here"] sp_law_apart) (G_law_bounds : Df3 P w K mg base 3 "_law_bounds" ["_law_clans", "_law_cell"] sp_law_bounds) (G_law_due : Df3 P w K mg base 1 "_law_due" ["_law_bottom", "_law_most", "_law_bounds_here"] sp_law_due) (G_windows : Df3 P w K mg base 5 "windows" ["spells", "bounds"] (sp_windows c)) (G_keeps : Df3 P w K mg base 5 "keeps" ["spells", "bounds", "row"] (sp_keeps c)) (G_law_cell_at : Df3 P w K mg base 1 "_law_cell_at" ["_law_script", "_law_k"] sp_law_cell_at) (G_law_near : Df3 P w K mg base 2 "_law_near" ["_law_bottom", "_law_most", "_law_cell"] sp_law_near) (G_law_in_windows : Df3 P w K mg base 1 "_law_in_windows" ["_law_found", "_law_row_here", "_law_clans"] sp_law_in_windows) {f : Addr} {fd : FuncData} (F : Fun K "law" "law" s_law f fd) : FnOk P w K mg base (CXR P w) 6 f fd ["_law_script"] (spL K sp_law) := by
  have S := sc_law
  refine fn3 F S (fun ds Q E h => ?_) (fun cdv A outer s H E E3 hE hr => ?_)
  · obtain ⟨_, rfl, _⟩ := h; rfl
  refine ⟨_, (ss_cons (s_set (i := 1) S.nd rfl (by first | exact Or.inl rfl | exact Or.inr rfl) (df3 hE G_law_long (hr.mono (by decide)) rfl passR (a_cons (n3 0) (a_cons i3 a_nil))))
    (ss_cons (s_asg (df3 hE G_law_quotas (hr.mono (by decide)) rfl passR (a_cons (n3 1) a_nil)) (t_tup (n := 2) rfl (ts_cons (t_name (i := 2) S.nd rfl (by first | exact Or.inl rfl | exact Or.inr rfl)) (ts_cons (t_name (i := 3) S.nd rfl (by first | exact Or.inl rfl | exact Or.inr rfl)) ts_nil))))
    (ss_cons (s_set (i := 4) S.nd rfl (by first | exact Or.inl rfl | exact Or.inr rfl) (df3 hE G_law_row (hr.mono (by decide)) rfl passR (a_cons (n3 2) (a_cons (n3 3) (a_cons (op3 add3_ok (df3 hE G_law_cell_at (hr.mono (by decide)) rfl passR (a_cons (n3 0) (a_cons i3 a_nil))) i3) a_nil)))))
    (ss_cons (s_set (i := 5) S.nd rfl (by first | exact Or.inl rfl | exact Or.inr rfl) (df3 hE G_law_apart (hr.mono (by decide)) rfl passR (a_cons (n3 2) (a_cons (n3 3) (a_cons (n3 4) a_nil)))))
    (ss_cons (s_set (i := 6) S.nd rfl (by first | exact Or.inl rfl | exact Or.inr rfl) (df3 hE G_law_bounds (hr.mono (by decide)) rfl passR (a_cons (callB3 len_ok rfl T.n_len bo_len (a_cons (n3 5) a_nil)) (a_cons (df3 hE G_law_cell_at (hr.mono (by decide)) rfl passR (a_cons (n3 0) (a_cons i3 a_nil))) a_nil))))
    (ss_cons (s_if (tcmp3 (eq_ok hr.units) (op3 mod_ok (df3 hE G_law_cell_at (hr.mono (by decide)) rfl passR (a_cons (n3 0) (a_cons i3 a_nil))) i3) i3 (nomark _)) (ss_one (s_set (i := 6) S.nd rfl (by first | exact Or.inl rfl | exact Or.inr rfl) (df3 hE G_law_near (hr.mono (by decide)) rfl passR (a_cons (n3 2) (a_cons (n3 5) (a_cons (op3 fdiv_ok (df3 hE G_law_cell_at (hr.mono (by decide)) rfl passR (a_cons (n3 0) (a_cons i3 a_nil))) i3) a_nil)))))) ss_nil)
    (ss_cons (s_set (i := 7) S.nd rfl (by first | exact Or.inl rfl | exact Or.inr rfl) (df3 hE G_law_due (hr.mono (by decide)) rfl passR (a_cons (n3 2) (a_cons (n3 5) (a_cons (n3 6) a_nil)))))
    (ss_cons (comp_set (i := 8) S.nd rfl (by first | exact Or.inl rfl | exact Or.inr rfl) ["_law_length", "_law_weights"] [] [] rfl (compSc (osc := defScope s_law) (by decide +kernel)) rfl (it_list (n3 1)) (fun H0 s H fp cl => ⟨(t_tup (n := 2) rfl (ts_cons (t_name (i := 0) (show ((["_law_length", "_law_weights"] : List PySem.Str) ++ ([] : List PySem.Str)).Nodup by decide) rfl (by first | exact Or.inl rfl | exact Or.inr rfl)) (ts_cons (t_name (i := 1) (show ((["_law_length", "_law_weights"] : List PySem.Str) ++ ([] : List PySem.Str)).Nodup by decide) rfl (by first | exact Or.inl rfl | exact Or.inr rfl)) ts_nil))), pt_nil, (tup3_ok (a_cons (n3 0) (a_cons (new3 (list3 rfl T.n_list bo_list (a_cons (n3 1) a_nil))) a_nil)))⟩))
    (ss_cons (s_set (i := 9) S.nd rfl (by first | exact Or.inl rfl | exact Or.inr rfl) (df3 hE G_windows (hr.mono (by decide)) rfl passR (a_cons (n3 8) (a_cons (new3 (list3 rfl T.n_list bo_list (a_cons (n3 6) a_nil))) a_nil))))
    (ss_cons (s_if (tcmp3 (ne_ok hr.units) (df3 hE G_law_in_windows (hr.mono (by decide)) rfl passR (a_cons (n3 9) (a_cons (n3 4) (a_cons (callB3 len_ok rfl T.n_len bo_len (a_cons (n3 5) a_nil)) a_nil)))) (n3 7) (nomark _)) (ss_one (s_ret b3)) ss_nil)
    (ss_cons (s_set (i := 10) S.nd rfl (by first | exact Or.inl rfl | exact Or.inr rfl) (df3 hE G_keeps (hr.mono (by decide)) rfl passR (a_cons (n3 1) (a_cons (new3 (list3 rfl T.n_list bo_list (a_cons (n3 6) a_nil))) (a_cons (new3 (list3 rfl T.n_list bo_list (a_cons (n3 4) a_nil))) a_nil)))))
    (ss_one (s_ret (andV3_ok (isinst3 rfl T.n_isinstance rfl rfl T.n_bool bo_bool (n3 10)) (one3 (cmp3 (eq_ok hr.units) (n3 10) (n3 7) (nomark _))))))))))))))))), fun ds Q h => ?_⟩
  obtain ⟨ns, rfl, h63, q⟩ := h
  refine seq_step fun N hN => ?_
  walk_at "rd"
  refine ⟨ns, rfl, by decide, by decide, fun l hok => hN _ ?_⟩
  clear hN N
  have hm := many_ok hok
  have htn := tot_nn fun s hs => (hok.2.1 s hs).1
  have h60 := hok.2.2
  have hql := quoB_len hok (prodS l)
  have hqr : ∀ r ∈ quoB (prodS l) l, r.length = many l := fun r hr => quoB_row hok hr
  have hpp := prodS_pos hok
  have hpb := prodS_bits hok
  refine seq_step fun N hN => ?_
  walk_at "rd"
  refine ⟨l, rfl, hok, hN _ ?_⟩
  clear hN N
  refine seq_step fun N hN => ?_
  walk_at "rd"
  refine ⟨ns, rfl, by decide, fun v => ⟨quoB (prodS l) l, rfl, many l, hm.1, hm.2, by omega, by omega, hqr, fun row hrow hall => hN _ ?_⟩⟩
  clear hN N
  have hrt : (row.length : Int) = tot l := by omega
  have hokr : okRow (many l) (tot l).toNat row := ⟨by omega, hall⟩
  refine seq_step fun N hN => ?_
  walk_at "rd"
  refine ⟨quoB (prodS l) l, rfl, row, rfl, many l, hm.1, hm.2, by omega, by omega, hqr, hall, hN _ ?_⟩
  clear hN N
  have hmb := most_bits hok hrt (many l)
  have hml : (mostL (prodS l) (many l) (quoB (prodS l) l) row row.length).length = many l := by unfold mostL; simp
  have hkd : ∀ bs : List (Rat2 × Rat2), bs.length = many l → (∀ p ∈ bs, (okQ p.1 ∧ okQ p.2) ∧ inQ p.1 ∧ inQ p.2) → (keepP (leadsN (bot l) (many l) (quo l) row row.length) (roomsM (bot l) bs) ↔ dueP (prodS l) (mostL (prodS l) (many l) (quoB (prodS l) l) row row.length) bs) := fun bs h1 h2 => keep_due (bot_pos hok) hpp (quo_prop hok) h1 h2 fun t ht => by
    have hqo := quo_len hok
    have hmem : (quo l).getD (t + 1) [] ∈ quo l := by
      rw [List.getD_eq_getElem?_getD, List.getElem?_eq_getElem (by omega)]; exact List.getElem_mem _
    have h2 := quoB_row hok (b := bot l) hmem
    unfold leadAt subL
    rw [List.length_map, List.length_zip, hadN_len, h2, Nat.min_self]
  generalize mostL (prodS l) (many l) (quoB (prodS l) l) row row.length = ms at hmb hml hkd ⊢
  have hmB : ∀ m ∈ ms, Bits 1200 m.1 ∧ Bits 1200 m.2 := fun m h => ⟨(hmb m h).1.2.mono (by decide), (hmb m h).2.2.mono (by decide)⟩
  refine seq_step fun N hN => ?_
  simp (config := { maxSteps := 2000000 }) only [seq3, next3, set3, own3, ret3, ifS3, tt3, o3, u3, v3, atV, asS, asB, asD, optP, asT, asLd, asL, atO, consP, nilP, asId, asI, k3, nw3, add3, int3, int0, neg3, eq3, ne3, eqOk, eqv3, notN3, isNone, ix3, ixD, cons3, nil3, call3, cb3, len3, lenD, abs3, max23, min23, sum3, max3, and3, or3, not3, andV3, ch3, tup3, lst3, listN, catN, slL3, no3, part3, isi3', L2.isD, drop3, asg3, gn3, gtup3, gcons3, gnil3, app3, put3, frzS, frz, frz1, for3, itL, itT, itZ, rg1, rg2, comp3, true3, cst3, raise3, start3, shs, Cl.d, Cl.dat, Cl.f, allIn, scal3, Option.map_some, Option.map_none, Option.isSome_some, Option.isSome_none, Option.join_some, Option.join_none, List.all_cons, List.all_nil, Bool.and_true, Bool.true_and, Bool.and_self, Bool.or_false, Bool.false_or, Bool.or_true, Bool.true_or, List.map_cons, List.map_nil, List.length_cons, List.length_nil, Nat.reduceAdd, Nat.reduceSub, Nat.sub_self, List.replicate, List.cons_append, List.nil_append, List.append_nil, List.getElem?_cons_zero, List.getElem?_cons_succ, List.set_cons_zero, List.set_cons_succ, Option.some.injEq, Cl.sh.injEq, Cl.ow.injEq, PyData.int.injEq, PyData.bool.injEq, PyData.str.injEq, PyData.list.injEq, PyData.tuple.injEq, List.cons.injEq, reduceCtorEq, and_assoc, and_true, true_and, and_self, exists_eq_left, exists_eq_left', exists_eq', exists_eq_right, exists_eq_right', exists_and_left, exists_const, exists_false, false_and, and_false, or_false, false_or, or_true, true_or, decide_true, decide_false, decide_eq_true_eq, Bool.not_true, Bool.not_false, Bool.false_eq_true, Bool.true_eq_false, if_true, if_false, ite_true, ite_false, Bool.not_eq_true', decide_eq_false_iff_not, eq_self_iff_true, not_true_eq_false, not_false_eq_true, sz0, sz1, sz2, sz4, sz5, par3, thawN, aug3, augput3, idx3, ext3, itE, tree3, put2, app2, ix2, Cl.tr.injEq, sp_law_cell_at, sp_law_mixed, sp_law_wide, sp_law_spells, sp_law_long, sp_law_quotas, sp_law_row, sp_law_apart, sp_law_ratio, sp_law_bounds, sp_law_due, sp_check_weights, sp_all_turns, sp_check_spells, sp_common_divisor, sp_divisor_of_all, sp_least_bottom, sp_shares_over, sp_quotas, sp_first_turn, sp_window_of, sp_windows_of_clan, sp_windows_within, sp_less, sp_check_bounds, sp_room_at_most, sp_rooms_of, sp_windows, sp_check_row, sp_leads, sp_keeps, sp_law_near, sp_law_in_windows, sp_law, dSs, dS, dI, scal3, dQ, dP, dPs, dRoom, dW, dM, List.length_map]
  refine ⟨ns, rfl, by decide, fun v2 => ⟨many l, by rw [hml], hm.2, fun bs hB ho => hN _ ?_⟩⟩
  clear hN N
  refine seq_mid (fun ρ' => ∃ bs : List (Rat2 × Rat2), ρ' = [some (.sh false (.list (ns.map .int))), some (.sh true (.list (l.map dS))), some (.sh true (.int (prodS l))), some (.sh true (.list ((quoB (prodS l) l).map dI))), some (.sh true (.list (row.map .int))), some (.sh true (.list (ms.map dM))), some (.sh true (.list (bs.map dP))), none, none, none, none] ∧ okB (many l) bs ∧ ∀ p ∈ bs, okQ p.1 ∧ okQ p.2) (fun N hN => ?_) ?_
  · walk_at "rd"
    refine ⟨ns, rfl, by decide, fun y1 => ⟨by decide, ite2 (fun _ => ⟨ns, rfl, by decide, fun y2 => ⟨divP, ms, rfl, hpp, hpb, by omega, fun m hm' => ⟨(hmb m hm').1.1, (hmb m hm').2.1⟩, fun bs2 hb1 hb2 => hN _ ⟨bs2, rfl, ⟨by omega, fun p hp => (hb2 p hp).2.2⟩, fun p hp => ⟨(hb2 p hp).1, (hb2 p hp).2.1⟩⟩⟩⟩) fun _ => hN _ ⟨bs, rfl, hB, ho⟩⟩⟩
  clear hB ho bs
  rintro ρ ⟨bs, rfl, hB, ho⟩
  have hbl := hB.1
  refine seq_step fun N hN => ?_
  walk_at "rd"
  refine ⟨ms, rfl, bs, rfl, by omega, by omega, hpb.mono (by decide), hmB, ho, fun r hr => hN _ ?_⟩
  clear hN N
  have hrk : r = true ↔ keepP (leadsN (bot l) (many l) (quo l) row row.length) (roomsM (bot l) bs) := hr.trans (hkd bs hbl fun p hp => ⟨ho p hp, hB.2 p hp⟩).symm
  have hb1 : PyData.eqv (.bool r) (.bool r) = true := by simp [PyData.eqv]
  have hb2 : SeqAt.shaped (.bool r) = true := by cases r <;> rfl
  have same : ∀ r' : Bool, (r' = true ↔ keepP (leadsN (bot l) (many l) (quo l) row row.length) (roomsM (bot l) bs)) → r' = r := fun r' h' => by
    cases r <;> cases r' <;> simp at hrk h' ⊢
    · exact hrk h'
    · exact h' hrk
  refine seq_step fun N hN => ?_
  walk_at "rd"
  refine ⟨sz (by rw [List.length_map]; have := hok.1.2; omega), ?_⟩
  refine comp_map dS dS (fun ρ => ∃ t u, ρ = [t, u]) l ?_ _ _ _ _ ⟨none, none, rfl⟩ ?_
  · rintro s hs ρ fa acc K ⟨t, u, rfl⟩ kk
    walk_at "rd"
    exact kk _ ⟨_, _, rfl⟩
  refine hN _ ?_
  clear hN N
  rw [List.nil_append]
  refine seq_step fun N hN => ?_
  walk_at "rd"
  refine ⟨l, rfl, bs, rfl, by omega, ho, fun _ _ W a1 a2 a3 => hN _ ?_, fun z => absurd hok z, fun _ z => absurd hB z⟩
  clear hN N
  have hin := row_windows hok hB ho hokr a1 a2
  have hwin : ∀ w ∈ W.flatten, 0 ≤ w.1 ∧ w.1 < ((many l : Nat) : Int) ∧ 1 ≤ w.2.1 := fun w hw => by
    obtain ⟨k, hk, hw⟩ := flat_mem hw
    obtain ⟨j, hj, rfl⟩ := (a2 k (by omega)).mem hw
    exact ⟨by show 0 ≤ ((k : Nat) : Int); omega, by show ((k : Nat) : Int) < _; omega, hj⟩
  refine seq_step fun N hN => ?_
  simp (config := { maxSteps := 2000000 }) only [seq3, next3, set3, own3, ret3, ifS3, tt3, o3, u3, v3, atV, asS, asB, asD, optP, asT, asLd, asL, atO, consP, nilP, asId, asI, k3, nw3, add3, int3, int0, neg3, eq3, ne3, eqOk, eqv3, notN3, isNone, ix3, ixD, cons3, nil3, call3, cb3, len3, lenD, abs3, max23, min23, sum3, max3, and3, or3, not3, andV3, ch3, tup3, lst3, listN, catN, slL3, no3, part3, isi3', L2.isD, drop3, asg3, gn3, gtup3, gcons3, gnil3, app3, put3, frzS, frz, frz1, for3, itL, itT, itZ, rg1, rg2, comp3, true3, cst3, raise3, start3, shs, Cl.d, Cl.dat, Cl.f, allIn, scal3, Option.map_some, Option.map_none, Option.isSome_some, Option.isSome_none, Option.join_some, Option.join_none, List.all_cons, List.all_nil, Bool.and_true, Bool.true_and, Bool.and_self, Bool.or_false, Bool.false_or, Bool.or_true, Bool.true_or, List.map_cons, List.map_nil, List.length_cons, List.length_nil, Nat.reduceAdd, Nat.reduceSub, Nat.sub_self, List.replicate, List.cons_append, List.nil_append, List.append_nil, List.getElem?_cons_zero, List.getElem?_cons_succ, List.set_cons_zero, List.set_cons_succ, Option.some.injEq, Cl.sh.injEq, Cl.ow.injEq, PyData.int.injEq, PyData.bool.injEq, PyData.str.injEq, PyData.list.injEq, PyData.tuple.injEq, List.cons.injEq, reduceCtorEq, and_assoc, and_true, true_and, and_self, exists_eq_left, exists_eq_left', exists_eq', exists_eq_right, exists_eq_right', exists_and_left, exists_const, exists_false, false_and, and_false, or_false, false_or, or_true, true_or, decide_true, decide_false, decide_eq_true_eq, Bool.not_true, Bool.not_false, Bool.false_eq_true, Bool.true_eq_false, if_true, if_false, ite_true, ite_false, Bool.not_eq_true', decide_eq_false_iff_not, eq_self_iff_true, not_true_eq_false, not_false_eq_true, sz0, sz1, sz2, sz4, sz5, par3, thawN, aug3, augput3, idx3, ext3, itE, tree3, put2, app2, ix2, Cl.tr.injEq, sp_law_cell_at, sp_law_mixed, sp_law_wide, sp_law_spells, sp_law_long, sp_law_quotas, sp_law_row, sp_law_apart, sp_law_ratio, sp_law_bounds, sp_law_due, sp_check_weights, sp_all_turns, sp_check_spells, sp_common_divisor, sp_divisor_of_all, sp_least_bottom, sp_shares_over, sp_quotas, sp_first_turn, sp_window_of, sp_windows_of_clan, sp_windows_within, sp_less, sp_check_bounds, sp_room_at_most, sp_rooms_of, sp_windows, sp_check_row, sp_leads, sp_keeps, sp_law_near, sp_law_in_windows, sp_law, dSs, dS, dI, scal3, dQ, dP, dPs, dRoom, dW, dM, List.length_map]
  refine ⟨W.flatten, rfl, row, rfl, many l, by rw [hml], hm.1, hm.2, by omega, hall, hwin, fun r' hr' => ?_⟩
  rw [same r' (hr'.trans hin.symm)]
  rw [hb1, if_neg (by decide)]
  refine ⟨hb2, hb2, hN _ ?_⟩
  clear hN N
  refine seq_step fun N hN => ?_
  walk_at "rd"
  refine ⟨l, rfl, bs, rfl, row, rfl, by omega, ho, fun _ _ _ r' hr' => hN _ ?_, fun z => absurd hok z, fun _ z => absurd hB z, fun _ _ z => absurd hokr z⟩
  clear hN N
  rw [same r' hr']
  simp (config := { maxSteps := 2000000 }) only [seq3, next3, set3, own3, ret3, ifS3, tt3, o3, u3, v3, atV, asS, asB, asD, optP, asT, asLd, asL, atO, consP, nilP, asId, asI, k3, nw3, add3, int3, int0, neg3, eq3, ne3, eqOk, eqv3, notN3, isNone, ix3, ixD, cons3, nil3, call3, cb3, len3, lenD, abs3, max23, min23, sum3, max3, and3, or3, not3, andV3, ch3, tup3, lst3, listN, catN, slL3, no3, part3, isi3', L2.isD, drop3, asg3, gn3, gtup3, gcons3, gnil3, app3, put3, frzS, frz, frz1, for3, itL, itT, itZ, rg1, rg2, comp3, true3, cst3, raise3, start3, shs, Cl.d, Cl.dat, Cl.f, allIn, scal3, Option.map_some, Option.map_none, Option.isSome_some, Option.isSome_none, Option.join_some, Option.join_none, List.all_cons, List.all_nil, Bool.and_true, Bool.true_and, Bool.and_self, Bool.or_false, Bool.false_or, Bool.or_true, Bool.true_or, List.map_cons, List.map_nil, List.length_cons, List.length_nil, Nat.reduceAdd, Nat.reduceSub, Nat.sub_self, List.replicate, List.cons_append, List.nil_append, List.append_nil, List.getElem?_cons_zero, List.getElem?_cons_succ, List.set_cons_zero, List.set_cons_succ, Option.some.injEq, Cl.sh.injEq, Cl.ow.injEq, PyData.int.injEq, PyData.bool.injEq, PyData.str.injEq, PyData.list.injEq, PyData.tuple.injEq, List.cons.injEq, reduceCtorEq, and_assoc, and_true, true_and, and_self, exists_eq_left, exists_eq_left', exists_eq', exists_eq_right, exists_eq_right', exists_and_left, exists_const, exists_false, false_and, and_false, or_false, false_or, or_true, true_or, decide_true, decide_false, decide_eq_true_eq, Bool.not_true, Bool.not_false, Bool.false_eq_true, Bool.true_eq_false, if_true, if_false, ite_true, ite_false, Bool.not_eq_true', decide_eq_false_iff_not, eq_self_iff_true, not_true_eq_false, not_false_eq_true, sz0, sz1, sz2, sz4, sz5, par3, thawN, aug3, augput3, idx3, ext3, itE, tree3, put2, app2, ix2, Cl.tr.injEq, sp_law_cell_at, sp_law_mixed, sp_law_wide, sp_law_spells, sp_law_long, sp_law_quotas, sp_law_row, sp_law_apart, sp_law_ratio, sp_law_bounds, sp_law_due, sp_check_weights, sp_all_turns, sp_check_spells, sp_common_divisor, sp_divisor_of_all, sp_least_bottom, sp_shares_over, sp_quotas, sp_first_turn, sp_window_of, sp_windows_of_clan, sp_windows_within, sp_less, sp_check_bounds, sp_room_at_most, sp_rooms_of, sp_windows, sp_check_row, sp_leads, sp_keeps, sp_law_near, sp_law_in_windows, sp_law, dSs, dS, dI, scal3, dQ, dP, dPs, dRoom, dW, dM, hb1, hb2]
  exact q
end
set_option maxHeartbeats 4000000 in
theorem txt_mk {K : PySem.W.Frag} {h : Heap} {mg : Str → Option Value} (X : K.In h) (G : h.Ns mainGlobals mg)
    {f0 : Addr} {od0 an0 : Option Addr} {sl0 : Array (Option Value)} {oc0 kV0 dc0 pm0 cd0 ct0 : Value}
    {f1 : Addr} {od1 an1 : Option Addr} {sl1 : Array (Option Value)} {oc1 kV1 dc1 pm1 cd1 ct1 : Value}
    {f2 : Addr} {od2 an2 : Option Addr} {sl2 : Array (Option Value)} {oc2 kV2 dc2 pm2 cd2 ct2 : Value}
    {f3 : Addr} {od3 an3 : Option Addr} {sl3 : Array (Option Value)} {oc3 kV3 dc3 pm3 cd3 ct3 : Value}
    {f4 : Addr} {od4 an4 : Option Addr} {sl4 : Array (Option Value)} {oc4 kV4 dc4 pm4 cd4 ct4 : Value}
    {f5 : Addr} {od5 an5 : Option Addr} {sl5 : Array (Option Value)} {oc5 kV5 dc5 pm5 cd5 ct5 : Value}
    {f6 : Addr} {od6 an6 : Option Addr} {sl6 : Array (Option Value)} {oc6 kV6 dc6 pm6 cd6 ct6 : Value}
    {f7 : Addr} {od7 an7 : Option Addr} {sl7 : Array (Option Value)} {oc7 kV7 dc7 pm7 cd7 ct7 : Value}
    {f8 : Addr} {od8 an8 : Option Addr} {sl8 : Array (Option Value)} {oc8 kV8 dc8 pm8 cd8 ct8 : Value}
    {f9 : Addr} {od9 an9 : Option Addr} {sl9 : Array (Option Value)} {oc9 kV9 dc9 pm9 cd9 ct9 : Value}
    {f10 : Addr} {od10 an10 : Option Addr} {sl10 : Array (Option Value)} {oc10 kV10 dc10 pm10 cd10 ct10 : Value}
    {f11 : Addr} {od11 an11 : Option Addr} {sl11 : Array (Option Value)} {oc11 kV11 dc11 pm11 cd11 ct11 : Value}
    {f12 : Addr} {od12 an12 : Option Addr} {sl12 : Array (Option Value)} {oc12 kV12 dc12 pm12 cd12 ct12 : Value}
    {f13 : Addr} {od13 an13 : Option Addr} {sl13 : Array (Option Value)} {oc13 kV13 dc13 pm13 cd13 ct13 : Value}
    {f14 : Addr} {od14 an14 : Option Addr} {sl14 : Array (Option Value)} {oc14 kV14 dc14 pm14 cd14 ct14 : Value}
    {f15 : Addr} {od15 an15 : Option Addr} {sl15 : Array (Option Value)} {oc15 kV15 dc15 pm15 cd15 ct15 : Value}
    {f16 : Addr} {od16 an16 : Option Addr} {sl16 : Array (Option Value)} {oc16 kV16 dc16 pm16 cd16 ct16 : Value}
    {f17 : Addr} {od17 an17 : Option Addr} {sl17 : Array (Option Value)} {oc17 kV17 dc17 pm17 cd17 ct17 : Value}
    {f18 : Addr} {od18 an18 : Option Addr} {sl18 : Array (Option Value)} {oc18 kV18 dc18 pm18 cd18 ct18 : Value}
    {f19 : Addr} {od19 an19 : Option Addr} {sl19 : Array (Option Value)} {oc19 kV19 dc19 pm19 cd19 ct19 : Value}
    {f20 : Addr} {od20 an20 : Option Addr} {sl20 : Array (Option Value)} {oc20 kV20 dc20 pm20 cd20 ct20 : Value}
    {f21 : Addr} {od21 an21 : Option Addr} {sl21 : Array (Option Value)} {oc21 kV21 dc21 pm21 cd21 ct21 : Value}
    {f22 : Addr} {od22 an22 : Option Addr} {sl22 : Array (Option Value)} {oc22 kV22 dc22 pm22 cd22 ct22 : Value}
    {f23 : Addr} {od23 an23 : Option Addr} {sl23 : Array (Option Value)} {oc23 kV23 dc23 pm23 cd23 ct23 : Value}
    {f24 : Addr} {od24 an24 : Option Addr} {sl24 : Array (Option Value)} {oc24 kV24 dc24 pm24 cd24 ct24 : Value}
    {f25 : Addr} {od25 an25 : Option Addr} {sl25 : Array (Option Value)} {oc25 kV25 dc25 pm25 cd25 ct25 : Value}
    {f26 : Addr} {od26 an26 : Option Addr} {sl26 : Array (Option Value)} {oc26 kV26 dc26 pm26 cd26 ct26 : Value}
    {f27 : Addr} {od27 an27 : Option Addr} {sl27 : Array (Option Value)} {oc27 kV27 dc27 pm27 cd27 ct27 : Value}
    {f28 : Addr} {od28 an28 : Option Addr} {sl28 : Array (Option Value)} {oc28 kV28 dc28 pm28 cd28 ct28 : Value}
    {f29 : Addr} {od29 an29 : Option Addr} {sl29 : Array (Option Value)} {oc29 kV29 dc29 pm29 cd29 ct29 : Value}
    {f30 : Addr} {od30 an30 : Option Addr} {sl30 : Array (Option Value)} {oc30 kV30 dc30 pm30 cd30 ct30 : Value}
    {f31 : Addr} {od31 an31 : Option Addr} {sl31 : Array (Option Value)} {oc31 kV31 dc31 pm31 cd31 ct31 : Value}
    {f32 : Addr} {od32 an32 : Option Addr} {sl32 : Array (Option Value)} {oc32 kV32 dc32 pm32 cd32 ct32 : Value}
    {f33 : Addr} {od33 an33 : Option Addr} {sl33 : Array (Option Value)} {oc33 kV33 dc33 pm33 cd33 ct33 : Value}
    {c_ClanError : Addr}
    {c_NoSpell : Addr}
    {c_NoRow : Addr}
    {c_NoBounds : Addr}
    {t_LEAST_BOUND : Addr} {od_LEAST_BOUND : Option Addr} {n_LEAST_BOUND : Nat} {sl_LEAST_BOUND : Array (Option Value)} {u0_LEAST_BOUND u1_LEAST_BOUND : Tok}
    {t_MOST_BOUND : Addr} {od_MOST_BOUND : Option Addr} {n_MOST_BOUND : Nat} {sl_MOST_BOUND : Array (Option Value)} {u0_MOST_BOUND u1_MOST_BOUND : Tok}
    {t_MOST_SPELLS : Tok}
    {t_MOST_CLANS : Tok}
    {t_MOST_TURNS : Tok}
    (a0 : PySem.W.nsIn K mainGlobals "_law_cell_at" = some (some (.ref f0)))
    (l0 : K.lookup f0 = some ⟨oc0, od0, .func (PySem.W.fnOf "_law_cell_at" "_law_cell_at" (defArgs s_law_cell_at) (defBody s_law_cell_at) (defScope s_law_cell_at) .none kV0 dc0 pm0 an0 cd0 ct0), sl0⟩)
    (c0 : PySem.W.codeIn K cd0 "_law_cell_at" = true)
    (k0 : PySem.W.keepIn K (.ref f0) = true)
    (a1 : PySem.W.nsIn K mainGlobals "_law_mixed" = some (some (.ref f1)))
    (l1 : K.lookup f1 = some ⟨oc1, od1, .func (PySem.W.fnOf "_law_mixed" "_law_mixed" (defArgs s_law_mixed) (defBody s_law_mixed) (defScope s_law_mixed) .none kV1 dc1 pm1 an1 cd1 ct1), sl1⟩)
    (c1 : PySem.W.codeIn K cd1 "_law_mixed" = true)
    (k1 : PySem.W.keepIn K (.ref f1) = true)
    (a2 : PySem.W.nsIn K mainGlobals "_law_wide" = some (some (.ref f2)))
    (l2 : K.lookup f2 = some ⟨oc2, od2, .func (PySem.W.fnOf "_law_wide" "_law_wide" (defArgs s_law_wide) (defBody s_law_wide) (defScope s_law_wide) .none kV2 dc2 pm2 an2 cd2 ct2), sl2⟩)
    (c2 : PySem.W.codeIn K cd2 "_law_wide" = true)
    (k2 : PySem.W.keepIn K (.ref f2) = true)
    (a3 : PySem.W.nsIn K mainGlobals "_law_spells" = some (some (.ref f3)))
    (l3 : K.lookup f3 = some ⟨oc3, od3, .func (PySem.W.fnOf "_law_spells" "_law_spells" (defArgs s_law_spells) (defBody s_law_spells) (defScope s_law_spells) .none kV3 dc3 pm3 an3 cd3 ct3), sl3⟩)
    (c3 : PySem.W.codeIn K cd3 "_law_spells" = true)
    (k3 : PySem.W.keepIn K (.ref f3) = true)
    (a4 : PySem.W.nsIn K mainGlobals "_law_long" = some (some (.ref f4)))
    (l4 : K.lookup f4 = some ⟨oc4, od4, .func (PySem.W.fnOf "_law_long" "_law_long" (defArgs s_law_long) (defBody s_law_long) (defScope s_law_long) .none kV4 dc4 pm4 an4 cd4 ct4), sl4⟩)
    (c4 : PySem.W.codeIn K cd4 "_law_long" = true)
    (k4 : PySem.W.keepIn K (.ref f4) = true)
    (a5 : PySem.W.nsIn K mainGlobals "_law_quotas" = some (some (.ref f5)))
    (l5 : K.lookup f5 = some ⟨oc5, od5, .func (PySem.W.fnOf "_law_quotas" "_law_quotas" (defArgs s_law_quotas) (defBody s_law_quotas) (defScope s_law_quotas) .none kV5 dc5 pm5 an5 cd5 ct5), sl5⟩)
    (c5 : PySem.W.codeIn K cd5 "_law_quotas" = true)
    (k5 : PySem.W.keepIn K (.ref f5) = true)
    (a6 : PySem.W.nsIn K mainGlobals "_law_row" = some (some (.ref f6)))
    (l6 : K.lookup f6 = some ⟨oc6, od6, .func (PySem.W.fnOf "_law_row" "_law_row" (defArgs s_law_row) (defBody s_law_row) (defScope s_law_row) .none kV6 dc6 pm6 an6 cd6 ct6), sl6⟩)
    (c6 : PySem.W.codeIn K cd6 "_law_row" = true)
    (k6 : PySem.W.keepIn K (.ref f6) = true)
    (a7 : PySem.W.nsIn K mainGlobals "_law_apart" = some (some (.ref f7)))
    (l7 : K.lookup f7 = some ⟨oc7, od7, .func (PySem.W.fnOf "_law_apart" "_law_apart" (defArgs s_law_apart) (defBody s_law_apart) (defScope s_law_apart) .none kV7 dc7 pm7 an7 cd7 ct7), sl7⟩)
    (c7 : PySem.W.codeIn K cd7 "_law_apart" = true)
    (k7 : PySem.W.keepIn K (.ref f7) = true)
    (a8 : PySem.W.nsIn K mainGlobals "_law_ratio" = some (some (.ref f8)))
    (l8 : K.lookup f8 = some ⟨oc8, od8, .func (PySem.W.fnOf "_law_ratio" "_law_ratio" (defArgs s_law_ratio) (defBody s_law_ratio) (defScope s_law_ratio) .none kV8 dc8 pm8 an8 cd8 ct8), sl8⟩)
    (c8 : PySem.W.codeIn K cd8 "_law_ratio" = true)
    (k8 : PySem.W.keepIn K (.ref f8) = true)
    (a9 : PySem.W.nsIn K mainGlobals "_law_bounds" = some (some (.ref f9)))
    (l9 : K.lookup f9 = some ⟨oc9, od9, .func (PySem.W.fnOf "_law_bounds" "_law_bounds" (defArgs s_law_bounds) (defBody s_law_bounds) (defScope s_law_bounds) .none kV9 dc9 pm9 an9 cd9 ct9), sl9⟩)
    (c9 : PySem.W.codeIn K cd9 "_law_bounds" = true)
    (k9 : PySem.W.keepIn K (.ref f9) = true)
    (a10 : PySem.W.nsIn K mainGlobals "_law_due" = some (some (.ref f10)))
    (l10 : K.lookup f10 = some ⟨oc10, od10, .func (PySem.W.fnOf "_law_due" "_law_due" (defArgs s_law_due) (defBody s_law_due) (defScope s_law_due) .none kV10 dc10 pm10 an10 cd10 ct10), sl10⟩)
    (c10 : PySem.W.codeIn K cd10 "_law_due" = true)
    (k10 : PySem.W.keepIn K (.ref f10) = true)
    (a11 : PySem.W.nsIn K mainGlobals "check_weights" = some (some (.ref f11)))
    (l11 : K.lookup f11 = some ⟨oc11, od11, .func (PySem.W.fnOf "check_weights" "check_weights" (defArgs s_check_weights) (defBody s_check_weights) (defScope s_check_weights) .none kV11 dc11 pm11 an11 cd11 ct11), sl11⟩)
    (c11 : PySem.W.codeIn K cd11 "check_weights" = true)
    (k11 : PySem.W.keepIn K (.ref f11) = true)
    (a12 : PySem.W.nsIn K mainGlobals "all_turns" = some (some (.ref f12)))
    (l12 : K.lookup f12 = some ⟨oc12, od12, .func (PySem.W.fnOf "all_turns" "all_turns" (defArgs s_all_turns) (defBody s_all_turns) (defScope s_all_turns) .none kV12 dc12 pm12 an12 cd12 ct12), sl12⟩)
    (c12 : PySem.W.codeIn K cd12 "all_turns" = true)
    (k12 : PySem.W.keepIn K (.ref f12) = true)
    (a13 : PySem.W.nsIn K mainGlobals "check_spells" = some (some (.ref f13)))
    (l13 : K.lookup f13 = some ⟨oc13, od13, .func (PySem.W.fnOf "check_spells" "check_spells" (defArgs s_check_spells) (defBody s_check_spells) (defScope s_check_spells) .none kV13 dc13 pm13 an13 cd13 ct13), sl13⟩)
    (c13 : PySem.W.codeIn K cd13 "check_spells" = true)
    (k13 : PySem.W.keepIn K (.ref f13) = true)
    (a14 : PySem.W.nsIn K mainGlobals "common_divisor" = some (some (.ref f14)))
    (l14 : K.lookup f14 = some ⟨oc14, od14, .func (PySem.W.fnOf "common_divisor" "common_divisor" (defArgs s_common_divisor) (defBody s_common_divisor) (defScope s_common_divisor) .none kV14 dc14 pm14 an14 cd14 ct14), sl14⟩)
    (c14 : PySem.W.codeIn K cd14 "common_divisor" = true)
    (k14 : PySem.W.keepIn K (.ref f14) = true)
    (a15 : PySem.W.nsIn K mainGlobals "divisor_of_all" = some (some (.ref f15)))
    (l15 : K.lookup f15 = some ⟨oc15, od15, .func (PySem.W.fnOf "divisor_of_all" "divisor_of_all" (defArgs s_divisor_of_all) (defBody s_divisor_of_all) (defScope s_divisor_of_all) .none kV15 dc15 pm15 an15 cd15 ct15), sl15⟩)
    (c15 : PySem.W.codeIn K cd15 "divisor_of_all" = true)
    (k15 : PySem.W.keepIn K (.ref f15) = true)
    (a16 : PySem.W.nsIn K mainGlobals "least_bottom" = some (some (.ref f16)))
    (l16 : K.lookup f16 = some ⟨oc16, od16, .func (PySem.W.fnOf "least_bottom" "least_bottom" (defArgs s_least_bottom) (defBody s_least_bottom) (defScope s_least_bottom) .none kV16 dc16 pm16 an16 cd16 ct16), sl16⟩)
    (c16 : PySem.W.codeIn K cd16 "least_bottom" = true)
    (k16 : PySem.W.keepIn K (.ref f16) = true)
    (a17 : PySem.W.nsIn K mainGlobals "shares_over" = some (some (.ref f17)))
    (l17 : K.lookup f17 = some ⟨oc17, od17, .func (PySem.W.fnOf "shares_over" "shares_over" (defArgs s_shares_over) (defBody s_shares_over) (defScope s_shares_over) .none kV17 dc17 pm17 an17 cd17 ct17), sl17⟩)
    (c17 : PySem.W.codeIn K cd17 "shares_over" = true)
    (k17 : PySem.W.keepIn K (.ref f17) = true)
    (a18 : PySem.W.nsIn K mainGlobals "quotas" = some (some (.ref f18)))
    (l18 : K.lookup f18 = some ⟨oc18, od18, .func (PySem.W.fnOf "quotas" "quotas" (defArgs s_quotas) (defBody s_quotas) (defScope s_quotas) .none kV18 dc18 pm18 an18 cd18 ct18), sl18⟩)
    (c18 : PySem.W.codeIn K cd18 "quotas" = true)
    (k18 : PySem.W.keepIn K (.ref f18) = true)
    (a19 : PySem.W.nsIn K mainGlobals "first_turn" = some (some (.ref f19)))
    (l19 : K.lookup f19 = some ⟨oc19, od19, .func (PySem.W.fnOf "first_turn" "first_turn" (defArgs s_first_turn) (defBody s_first_turn) (defScope s_first_turn) .none kV19 dc19 pm19 an19 cd19 ct19), sl19⟩)
    (c19 : PySem.W.codeIn K cd19 "first_turn" = true)
    (k19 : PySem.W.keepIn K (.ref f19) = true)
    (a20 : PySem.W.nsIn K mainGlobals "window_of" = some (some (.ref f20)))
    (l20 : K.lookup f20 = some ⟨oc20, od20, .func (PySem.W.fnOf "window_of" "window_of" (defArgs s_window_of) (defBody s_window_of) (defScope s_window_of) .none kV20 dc20 pm20 an20 cd20 ct20), sl20⟩)
    (c20 : PySem.W.codeIn K cd20 "window_of" = true)
    (k20 : PySem.W.keepIn K (.ref f20) = true)
    (a21 : PySem.W.nsIn K mainGlobals "windows_of_clan" = some (some (.ref f21)))
    (l21 : K.lookup f21 = some ⟨oc21, od21, .func (PySem.W.fnOf "windows_of_clan" "windows_of_clan" (defArgs s_windows_of_clan) (defBody s_windows_of_clan) (defScope s_windows_of_clan) .none kV21 dc21 pm21 an21 cd21 ct21), sl21⟩)
    (c21 : PySem.W.codeIn K cd21 "windows_of_clan" = true)
    (k21 : PySem.W.keepIn K (.ref f21) = true)
    (a22 : PySem.W.nsIn K mainGlobals "windows_within" = some (some (.ref f22)))
    (l22 : K.lookup f22 = some ⟨oc22, od22, .func (PySem.W.fnOf "windows_within" "windows_within" (defArgs s_windows_within) (defBody s_windows_within) (defScope s_windows_within) .none kV22 dc22 pm22 an22 cd22 ct22), sl22⟩)
    (c22 : PySem.W.codeIn K cd22 "windows_within" = true)
    (k22 : PySem.W.keepIn K (.ref f22) = true)
    (a23 : PySem.W.nsIn K mainGlobals "less" = some (some (.ref f23)))
    (l23 : K.lookup f23 = some ⟨oc23, od23, .func (PySem.W.fnOf "less" "less" (defArgs s_less) (defBody s_less) (defScope s_less) .none kV23 dc23 pm23 an23 cd23 ct23), sl23⟩)
    (c23 : PySem.W.codeIn K cd23 "less" = true)
    (k23 : PySem.W.keepIn K (.ref f23) = true)
    (a24 : PySem.W.nsIn K mainGlobals "check_bounds" = some (some (.ref f24)))
    (l24 : K.lookup f24 = some ⟨oc24, od24, .func (PySem.W.fnOf "check_bounds" "check_bounds" (defArgs s_check_bounds) (defBody s_check_bounds) (defScope s_check_bounds) .none kV24 dc24 pm24 an24 cd24 ct24), sl24⟩)
    (c24 : PySem.W.codeIn K cd24 "check_bounds" = true)
    (k24 : PySem.W.keepIn K (.ref f24) = true)
    (a25 : PySem.W.nsIn K mainGlobals "room_at_most" = some (some (.ref f25)))
    (l25 : K.lookup f25 = some ⟨oc25, od25, .func (PySem.W.fnOf "room_at_most" "room_at_most" (defArgs s_room_at_most) (defBody s_room_at_most) (defScope s_room_at_most) .none kV25 dc25 pm25 an25 cd25 ct25), sl25⟩)
    (c25 : PySem.W.codeIn K cd25 "room_at_most" = true)
    (k25 : PySem.W.keepIn K (.ref f25) = true)
    (a26 : PySem.W.nsIn K mainGlobals "rooms_of" = some (some (.ref f26)))
    (l26 : K.lookup f26 = some ⟨oc26, od26, .func (PySem.W.fnOf "rooms_of" "rooms_of" (defArgs s_rooms_of) (defBody s_rooms_of) (defScope s_rooms_of) .none kV26 dc26 pm26 an26 cd26 ct26), sl26⟩)
    (c26 : PySem.W.codeIn K cd26 "rooms_of" = true)
    (k26 : PySem.W.keepIn K (.ref f26) = true)
    (a27 : PySem.W.nsIn K mainGlobals "windows" = some (some (.ref f27)))
    (l27 : K.lookup f27 = some ⟨oc27, od27, .func (PySem.W.fnOf "windows" "windows" (defArgs s_windows) (defBody s_windows) (defScope s_windows) .none kV27 dc27 pm27 an27 cd27 ct27), sl27⟩)
    (c27 : PySem.W.codeIn K cd27 "windows" = true)
    (k27 : PySem.W.keepIn K (.ref f27) = true)
    (a28 : PySem.W.nsIn K mainGlobals "check_row" = some (some (.ref f28)))
    (l28 : K.lookup f28 = some ⟨oc28, od28, .func (PySem.W.fnOf "check_row" "check_row" (defArgs s_check_row) (defBody s_check_row) (defScope s_check_row) .none kV28 dc28 pm28 an28 cd28 ct28), sl28⟩)
    (c28 : PySem.W.codeIn K cd28 "check_row" = true)
    (k28 : PySem.W.keepIn K (.ref f28) = true)
    (a29 : PySem.W.nsIn K mainGlobals "leads" = some (some (.ref f29)))
    (l29 : K.lookup f29 = some ⟨oc29, od29, .func (PySem.W.fnOf "leads" "leads" (defArgs s_leads) (defBody s_leads) (defScope s_leads) .none kV29 dc29 pm29 an29 cd29 ct29), sl29⟩)
    (c29 : PySem.W.codeIn K cd29 "leads" = true)
    (k29 : PySem.W.keepIn K (.ref f29) = true)
    (a30 : PySem.W.nsIn K mainGlobals "keeps" = some (some (.ref f30)))
    (l30 : K.lookup f30 = some ⟨oc30, od30, .func (PySem.W.fnOf "keeps" "keeps" (defArgs s_keeps) (defBody s_keeps) (defScope s_keeps) .none kV30 dc30 pm30 an30 cd30 ct30), sl30⟩)
    (c30 : PySem.W.codeIn K cd30 "keeps" = true)
    (k30 : PySem.W.keepIn K (.ref f30) = true)
    (a31 : PySem.W.nsIn K mainGlobals "_law_near" = some (some (.ref f31)))
    (l31 : K.lookup f31 = some ⟨oc31, od31, .func (PySem.W.fnOf "_law_near" "_law_near" (defArgs s_law_near) (defBody s_law_near) (defScope s_law_near) .none kV31 dc31 pm31 an31 cd31 ct31), sl31⟩)
    (c31 : PySem.W.codeIn K cd31 "_law_near" = true)
    (k31 : PySem.W.keepIn K (.ref f31) = true)
    (a32 : PySem.W.nsIn K mainGlobals "_law_in_windows" = some (some (.ref f32)))
    (l32 : K.lookup f32 = some ⟨oc32, od32, .func (PySem.W.fnOf "_law_in_windows" "_law_in_windows" (defArgs s_law_in_windows) (defBody s_law_in_windows) (defScope s_law_in_windows) .none kV32 dc32 pm32 an32 cd32 ct32), sl32⟩)
    (c32 : PySem.W.codeIn K cd32 "_law_in_windows" = true)
    (k32 : PySem.W.keepIn K (.ref f32) = true)
    (a33 : PySem.W.nsIn K mainGlobals "law" = some (some (.ref f33)))
    (l33 : K.lookup f33 = some ⟨oc33, od33, .func (PySem.W.fnOf "law" "law" (defArgs s_law) (defBody s_law) (defScope s_law) .none kV33 dc33 pm33 an33 cd33 ct33), sl33⟩)
    (c33 : PySem.W.codeIn K cd33 "law" = true)
    (k33 : PySem.W.keepIn K (.ref f33) = true)
    (m_ClanError : PySem.W.nsIn K mainGlobals "ClanError" = some (some (.ref c_ClanError)))
    (m_NoSpell : PySem.W.nsIn K mainGlobals "NoSpell" = some (some (.ref c_NoSpell)))
    (m_NoRow : PySem.W.nsIn K mainGlobals "NoRow" = some (some (.ref c_NoRow)))
    (m_NoBounds : PySem.W.nsIn K mainGlobals "NoBounds" = some (some (.ref c_NoBounds)))
    (e_NoSpell : PySem.W.excIn K c_NoSpell [.type "ValueError", .type "Exception", .type "BaseException", .type "object"] "ValueError.__new__" = true)
    (e_NoBounds : PySem.W.excIn K c_NoBounds [.type "ValueError", .type "Exception", .type "BaseException", .type "object"] "ValueError.__new__" = true)
    (e_NoRow : PySem.W.excIn K c_NoRow [.type "ValueError", .type "Exception", .type "BaseException", .type "object"] "ValueError.__new__" = true)
    (n_abs : PySem.W.nsIn K mainGlobals "abs" = some none)
    (n_bool : PySem.W.nsIn K mainGlobals "bool" = some none)
    (n_enumerate : PySem.W.nsIn K mainGlobals "enumerate" = some none)
    (n_isinstance : PySem.W.nsIn K mainGlobals "isinstance" = some none)
    (n_len : PySem.W.nsIn K mainGlobals "len" = some none)
    (n_list : PySem.W.nsIn K mainGlobals "list" = some none)
    (n_max : PySem.W.nsIn K mainGlobals "max" = some none)
    (n_min : PySem.W.nsIn K mainGlobals "min" = some none)
    (n_range : PySem.W.nsIn K mainGlobals "range" = some none)
    (n_sum : PySem.W.nsIn K mainGlobals "sum" = some none)
    (n_zip : PySem.W.nsIn K mainGlobals "zip" = some none)
    (m_LEAST_BOUND : PySem.W.nsIn K mainGlobals "LEAST_BOUND" = some (some (.ref t_LEAST_BOUND)))
    (q_LEAST_BOUND : K.lookup t_LEAST_BOUND = some ⟨.type "tuple", od_LEAST_BOUND, .seq #[.int 0 u0_LEAST_BOUND, .int 1 u1_LEAST_BOUND] n_LEAST_BOUND, sl_LEAST_BOUND⟩)
    (m_MOST_BOUND : PySem.W.nsIn K mainGlobals "MOST_BOUND" = some (some (.ref t_MOST_BOUND)))
    (q_MOST_BOUND : K.lookup t_MOST_BOUND = some ⟨.type "tuple", od_MOST_BOUND, .seq #[.int 10 u0_MOST_BOUND, .int 1 u1_MOST_BOUND] n_MOST_BOUND, sl_MOST_BOUND⟩)
    (m_MOST_SPELLS : PySem.W.nsIn K mainGlobals "MOST_SPELLS" = some (some (.int 8 t_MOST_SPELLS)))
    (m_MOST_CLANS : PySem.W.nsIn K mainGlobals "MOST_CLANS" = some (some (.int 8 t_MOST_CLANS)))
    (m_MOST_TURNS : PySem.W.nsIn K mainGlobals "MOST_TURNS" = some (some (.int 60 t_MOST_TURNS))) : ∃ c : Law.Cl, Txt c K mg :=
  ⟨⟨c_ClanError, c_NoSpell, c_NoRow, c_NoBounds⟩, {
    d_law_cell_at := ⟨f0, _, fun_mk (st := s_law_cell_at) l0 c0 k0, PySem.W.mg_of X G a0⟩,
    d_law_mixed := ⟨f1, _, fun_mk (st := s_law_mixed) l1 c1 k1, PySem.W.mg_of X G a1⟩,
    d_law_wide := ⟨f2, _, fun_mk (st := s_law_wide) l2 c2 k2, PySem.W.mg_of X G a2⟩,
    d_law_spells := ⟨f3, _, fun_mk (st := s_law_spells) l3 c3 k3, PySem.W.mg_of X G a3⟩,
    d_law_long := ⟨f4, _, fun_mk (st := s_law_long) l4 c4 k4, PySem.W.mg_of X G a4⟩,
    d_law_quotas := ⟨f5, _, fun_mk (st := s_law_quotas) l5 c5 k5, PySem.W.mg_of X G a5⟩,
    d_law_row := ⟨f6, _, fun_mk (st := s_law_row) l6 c6 k6, PySem.W.mg_of X G a6⟩,
    d_law_apart := ⟨f7, _, fun_mk (st := s_law_apart) l7 c7 k7, PySem.W.mg_of X G a7⟩,
    d_law_ratio := ⟨f8, _, fun_mk (st := s_law_ratio) l8 c8 k8, PySem.W.mg_of X G a8⟩,
    d_law_bounds := ⟨f9, _, fun_mk (st := s_law_bounds) l9 c9 k9, PySem.W.mg_of X G a9⟩,
    d_law_due := ⟨f10, _, fun_mk (st := s_law_due) l10 c10 k10, PySem.W.mg_of X G a10⟩,
    d_check_weights := ⟨f11, _, fun_mk (st := s_check_weights) l11 c11 k11, PySem.W.mg_of X G a11⟩,
    d_all_turns := ⟨f12, _, fun_mk (st := s_all_turns) l12 c12 k12, PySem.W.mg_of X G a12⟩,
    d_check_spells := ⟨f13, _, fun_mk (st := s_check_spells) l13 c13 k13, PySem.W.mg_of X G a13⟩,
    d_common_divisor := ⟨f14, _, fun_mk (st := s_common_divisor) l14 c14 k14, PySem.W.mg_of X G a14⟩,
    d_divisor_of_all := ⟨f15, _, fun_mk (st := s_divisor_of_all) l15 c15 k15, PySem.W.mg_of X G a15⟩,
    d_least_bottom := ⟨f16, _, fun_mk (st := s_least_bottom) l16 c16 k16, PySem.W.mg_of X G a16⟩,
    d_shares_over := ⟨f17, _, fun_mk (st := s_shares_over) l17 c17 k17, PySem.W.mg_of X G a17⟩,
    d_quotas := ⟨f18, _, fun_mk (st := s_quotas) l18 c18 k18, PySem.W.mg_of X G a18⟩,
    d_first_turn := ⟨f19, _, fun_mk (st := s_first_turn) l19 c19 k19, PySem.W.mg_of X G a19⟩,
    d_window_of := ⟨f20, _, fun_mk (st := s_window_of) l20 c20 k20, PySem.W.mg_of X G a20⟩,
    d_windows_of_clan := ⟨f21, _, fun_mk (st := s_windows_of_clan) l21 c21 k21, PySem.W.mg_of X G a21⟩,
    d_windows_within := ⟨f22, _, fun_mk (st := s_windows_within) l22 c22 k22, PySem.W.mg_of X G a22⟩,
    d_less := ⟨f23, _, fun_mk (st := s_less) l23 c23 k23, PySem.W.mg_of X G a23⟩,
    d_check_bounds := ⟨f24, _, fun_mk (st := s_check_bounds) l24 c24 k24, PySem.W.mg_of X G a24⟩,
    d_room_at_most := ⟨f25, _, fun_mk (st := s_room_at_most) l25 c25 k25, PySem.W.mg_of X G a25⟩,
    d_rooms_of := ⟨f26, _, fun_mk (st := s_rooms_of) l26 c26 k26, PySem.W.mg_of X G a26⟩,
    d_windows := ⟨f27, _, fun_mk (st := s_windows) l27 c27 k27, PySem.W.mg_of X G a27⟩,
    d_check_row := ⟨f28, _, fun_mk (st := s_check_row) l28 c28 k28, PySem.W.mg_of X G a28⟩,
    d_leads := ⟨f29, _, fun_mk (st := s_leads) l29 c29 k29, PySem.W.mg_of X G a29⟩,
    d_keeps := ⟨f30, _, fun_mk (st := s_keeps) l30 c30 k30, PySem.W.mg_of X G a30⟩,
    d_law_near := ⟨f31, _, fun_mk (st := s_law_near) l31 c31 k31, PySem.W.mg_of X G a31⟩,
    d_law_in_windows := ⟨f32, _, fun_mk (st := s_law_in_windows) l32 c32 k32, PySem.W.mg_of X G a32⟩,
    d_law := ⟨f33, _, fun_mk (st := s_law) l33 c33 k33, PySem.W.mg_of X G a33⟩,
    m_ClanError := PySem.W.mg_of X G m_ClanError,
    m_NoSpell := PySem.W.mg_of X G m_NoSpell,
    m_NoRow := PySem.W.mg_of X G m_NoRow,
    m_NoBounds := PySem.W.mg_of X G m_NoBounds,
    e_NoSpell := e_NoSpell,
    e_NoBounds := e_NoBounds,
    e_NoRow := e_NoRow,
    n_abs := PySem.W.mg_none_of X G n_abs,
    n_bool := PySem.W.mg_none_of X G n_bool,
    n_enumerate := PySem.W.mg_none_of X G n_enumerate,
    n_isinstance := PySem.W.mg_none_of X G n_isinstance,
    n_len := PySem.W.mg_none_of X G n_len,
    n_list := PySem.W.mg_none_of X G n_list,
    n_max := PySem.W.mg_none_of X G n_max,
    n_min := PySem.W.mg_none_of X G n_min,
    n_range := PySem.W.mg_none_of X G n_range,
    n_sum := PySem.W.mg_none_of X G n_sum,
    n_zip := PySem.W.mg_none_of X G n_zip,
    m_LEAST_BOUND := ⟨_, PySem.W.mg_of X G m_LEAST_BOUND, _, _, _, q_LEAST_BOUND, rfl, rfl, by show (2 : Nat) ≤ sizeLine; decide, (.cons ⟨_, rfl⟩ (.cons ⟨_, rfl⟩ .nil))⟩,
    m_MOST_BOUND := ⟨_, PySem.W.mg_of X G m_MOST_BOUND, _, _, _, q_MOST_BOUND, rfl, rfl, by show (2 : Nat) ≤ sizeLine; decide, (.cons ⟨_, rfl⟩ (.cons ⟨_, rfl⟩ .nil))⟩,
    m_MOST_SPELLS := ⟨_, PySem.W.mg_of X G m_MOST_SPELLS⟩,
    m_MOST_CLANS := ⟨_, PySem.W.mg_of X G m_MOST_CLANS⟩,
    m_MOST_TURNS := ⟨_, PySem.W.mg_of X G m_MOST_TURNS⟩ }⟩
section
variable {P : Program} {w : World} {c : Law.Cl} {K : PySem.W.Frag} {mg : Str → Option Value} {base : Heap}
theorem al_law_cell_at (T : Txt c K mg) : Df3 P w K mg base 1 "_law_cell_at" ["_law_script", "_law_k"] sp_law_cell_at := ok_law_cell_at T 
theorem al_law_mixed (T : Txt c K mg) : Df3 P w K mg base 1 "_law_mixed" ["_law_cell", "_law_k"] sp_law_mixed := ok_law_mixed T 
theorem al_law_wide (T : Txt c K mg) : Df3 P w K mg base 2 "_law_wide" ["_law_cell", "_law_k"] sp_law_wide := ok_law_wide T (al_law_mixed T)
theorem al_law_spells (T : Txt c K mg) : Df3 P w K mg base 3 "_law_spells" ["_law_script", "_law_most"] sp_law_spells := ok_law_spells T (al_law_cell_at T) (al_law_wide T)
theorem al_law_long (T : Txt c K mg) : Df3 P w K mg base 4 "_law_long" ["_law_script", "_law_most"] sp_law_long := ok_law_long T (al_law_spells T) (al_law_wide T) (al_law_cell_at T)
theorem al_law_quotas (T : Txt c K mg) : Df3 P w K mg base 1 "_law_quotas" ["_law_spells_here"] sp_law_quotas := ok_law_quotas T 
theorem al_law_row (T : Txt c K mg) : Df3 P w K mg base 3 "_law_row" ["_law_bottom", "_law_rows", "_law_cell"] sp_law_row := ok_law_row T (al_law_wide T)
theorem al_law_apart (T : Txt c K mg) : Df3 P w K mg base 1 "_law_apart" ["_law_bottom", "_law_rows", "_law_row_here"] sp_law_apart := ok_law_apart T 
theorem al_law_ratio (T : Txt c K mg) : Df3 P w K mg base 1 "_law_ratio" ["_law_top", "_law_bottom"] sp_law_ratio := ok_law_ratio T 
theorem al_law_bounds (T : Txt c K mg) : Df3 P w K mg base 3 "_law_bounds" ["_law_clans", "_law_cell"] sp_law_bounds := ok_law_bounds T (al_law_wide T) (al_law_ratio T)
theorem al_law_due (T : Txt c K mg) : Df3 P w K mg base 1 "_law_due" ["_law_bottom", "_law_most", "_law_bounds_here"] sp_law_due := ok_law_due T 
theorem al_check_weights (T : Txt c K mg) : Df3 P w K mg base 1 "check_weights" ["weights"] (sp_check_weights c) := ok_check_weights T 
theorem al_all_turns (T : Txt c K mg) : Df3 P w K mg base 1 "all_turns" ["spells"] sp_all_turns := ok_all_turns T 
theorem al_check_spells (T : Txt c K mg) : Df3 P w K mg base 2 "check_spells" ["spells"] (sp_check_spells c) := ok_check_spells T (al_check_weights T) (al_all_turns T)
theorem al_common_divisor (T : Txt c K mg) : Df3 P w K mg base 1 "common_divisor" ["one", "other"] sp_common_divisor := ok_common_divisor T 
theorem al_divisor_of_all (T : Txt c K mg) : Df3 P w K mg base 2 "divisor_of_all" ["weights"] sp_divisor_of_all := ok_divisor_of_all T (al_common_divisor T)
theorem al_least_bottom (T : Txt c K mg) : Df3 P w K mg base 3 "least_bottom" ["spells"] sp_least_bottom := ok_least_bottom T (al_divisor_of_all T) (al_common_divisor T)
theorem al_shares_over (T : Txt c K mg) : Df3 P w K mg base 1 "shares_over" ["bottom", "weights"] sp_shares_over := ok_shares_over T 
theorem al_quotas (T : Txt c K mg) : Df3 P w K mg base 4 "quotas" ["spells"] (sp_quotas c) := ok_quotas T (al_check_spells T) (al_least_bottom T) (al_shares_over T)
theorem al_first_turn (T : Txt c K mg) : Df3 P w K mg base 1 "first_turn" ["path", "wanted"] sp_first_turn := ok_first_turn T 
theorem al_window_of (T : Txt c K mg) : Df3 P w K mg base 2 "window_of" ["bottom", "path", "j", "room"] sp_window_of := ok_window_of T (al_first_turn T)
theorem al_windows_of_clan (T : Txt c K mg) : Df3 P w K mg base 3 "windows_of_clan" ["told", "clan", "room"] sp_windows_of_clan := ok_windows_of_clan T (al_window_of T)
theorem al_windows_within (T : Txt c K mg) : Df3 P w K mg base 4 "windows_within" ["told", "rooms"] sp_windows_within := ok_windows_within T (al_windows_of_clan T)
theorem al_less (T : Txt c K mg) : Df3 P w K mg base 1 "less" ["one", "other"] sp_less := ok_less T 
theorem al_check_bounds (T : Txt c K mg) : Df3 P w K mg base 2 "check_bounds" ["bounds", "clans"] (sp_check_bounds c) := ok_check_bounds T (al_less T)
theorem al_room_at_most (T : Txt c K mg) : Df3 P w K mg base 1 "room_at_most" ["bottom", "bound"] sp_room_at_most := ok_room_at_most T 
theorem al_rooms_of (T : Txt c K mg) : Df3 P w K mg base 3 "rooms_of" ["told", "bounds"] (sp_rooms_of c) := ok_rooms_of T (al_check_bounds T) (al_room_at_most T)
theorem al_windows (T : Txt c K mg) : Df3 P w K mg base 5 "windows" ["spells", "bounds"] (sp_windows c) := ok_windows T (al_quotas T) (al_windows_within T) (al_rooms_of T)
theorem al_check_row (T : Txt c K mg) : Df3 P w K mg base 1 "check_row" ["row", "turns", "clans"] (sp_check_row c) := ok_check_row T 
theorem al_leads (T : Txt c K mg) : Df3 P w K mg base 2 "leads" ["told", "row"] (sp_leads c) := ok_leads T (al_check_row T)
theorem al_keeps (T : Txt c K mg) : Df3 P w K mg base 5 "keeps" ["spells", "bounds", "row"] (sp_keeps c) := ok_keeps T (al_quotas T) (al_rooms_of T) (al_leads T)
theorem al_law_near (T : Txt c K mg) : Df3 P w K mg base 2 "_law_near" ["_law_bottom", "_law_most", "_law_cell"] sp_law_near := ok_law_near T (al_law_ratio T)
theorem al_law_in_windows (T : Txt c K mg) : Df3 P w K mg base 1 "_law_in_windows" ["_law_found", "_law_row_here", "_law_clans"] sp_law_in_windows := ok_law_in_windows T 
theorem al_law (T : Txt c K mg) {f : Addr} {fd : FuncData} (F : Fun K "law" "law" s_law f fd) : FnOk P w K mg base (CXR P w) 6 f fd ["_law_script"] (spL K sp_law) := fn_law T (al_law_long T) (al_law_quotas T) (al_law_row T) (al_law_apart T) (al_law_bounds T) (al_law_due T) (al_windows T) (al_keeps T) (al_law_cell_at T) (al_law_near T) (al_law_in_windows T) F
end
theorem walk {l : PySem.W.OpenLaw} {q : Program} {loose : List Str} {XP : (Str → Option Value) → Heap → Prop} {YP : World → Heap → Prop} {d : DefRec} {K : Params → PySem.W.Frag} (hn : l.most = some 63) (hdf : d.params.defaults = []) (hdn : d.name = "law")
    (hY : ∀ (w : World) (h : Heap), YP w h → (K w.params).In h)
    (F : ∀ (w : World) (mg : Str → Option Value) (h : Heap), (K w.params).In h → h.Ns mainGlobals mg → ∃ c, Txt c (K w.params) mg) :
    PySem.W.WalkO q loose XP YP l.row.toRowW d [] (fun f vs => PySem.call f vs) := by
  refine L2.walk_of (n := 63) (k := 6) (x := "_law_script") (CX := fun w => CXR l.prog w) (sp := fun w => spL (K w.params) sp_law) hn (by decide) hdf ⟨rfl, by decide, by decide⟩ hY (fun w mg fa h KX G hmg => ?_) (fun w H a ns hl _ hS => ⟨H, [.list (ns.map .int)], Same.refl _, .cons (.lst hS (ints_rd ns)) .nil, ns, rfl, hl, fun v G' H' _ r => rdv_bool r.rd⟩) (fun w H s e s' z => ?_)
  · obtain ⟨c, T⟩ := F w mg h KX G
    obtain ⟨f, fd, Fn, hm⟩ := T.d_law
    rw [hdn, hm] at hmg
    cases hmg
    have Fn' := Fn
    obtain ⟨oc, od, kV, doc, pm, an, cdv, ct, osl, rfl, lk, hcd⟩ := Fn.ex
    exact ⟨_, fun s u => .of_eq rfl, fun base _ _ => al_law T Fn'⟩
  · obtain ⟨_, _, _, _, _, hf⟩ := z
    exact hf
end Law
theorem PySem.W.Fast.te4282310908924809832 : True := trivial
noncomputable abbrev PySem.W.Fast.tw11893118494364626277 : PySem.Program := PySem.Challenge.pw_chairclans_k11_a_row_in_its_windows
theorem PySem.W.Fast.te11893118494364626277 : PySem.Challenge.pw_chairclans_k11_a_row_in_its_windows = PySem.W.Fast.tw11893118494364626277 := rfl
open PySem PySem.W PyProof.Rows
set_option maxRecDepth 100000 in
set_option maxHeartbeats 0 in
theorem PySem.Challenge.cw_chairclans_k11_a_row_in_its_windows_holds : PySem.Challenge.rw_chairclans_k11_a_row_in_its_windows.Holds := by
  w_on; o_law; k_head; (case hw => w_witness2)
  k_fill
  refine Law.walk (l := PySem.Challenge.rw_chairclans_k11_a_row_in_its_windows) rfl rfl rfl (fun w h Y => PySem.W.kIn_of Y) ?F
  case F =>
    intro w mg h KX G
    refine' Law.txt_mk KX G ?a0 ?l0 ?c0 ?k0 ?a1 ?l1 ?c1 ?k1 ?a2 ?l2 ?c2 ?k2 ?a3 ?l3 ?c3 ?k3 ?a4 ?l4 ?c4 ?k4 ?a5 ?l5 ?c5 ?k5 ?a6 ?l6 ?c6 ?k6 ?a7 ?l7 ?c7 ?k7 ?a8 ?l8 ?c8 ?k8 ?a9 ?l9 ?c9 ?k9 ?a10 ?l10 ?c10 ?k10 ?a11 ?l11 ?c11 ?k11 ?a12 ?l12 ?c12 ?k12 ?a13 ?l13 ?c13 ?k13 ?a14 ?l14 ?c14 ?k14 ?a15 ?l15 ?c15 ?k15 ?a16 ?l16 ?c16 ?k16 ?a17 ?l17 ?c17 ?k17 ?a18 ?l18 ?c18 ?k18 ?a19 ?l19 ?c19 ?k19 ?a20 ?l20 ?c20 ?k20 ?a21 ?l21 ?c21 ?k21 ?a22 ?l22 ?c22 ?k22 ?a23 ?l23 ?c23 ?k23 ?a24 ?l24 ?c24 ?k24 ?a25 ?l25 ?c25 ?k25 ?a26 ?l26 ?c26 ?k26 ?a27 ?l27 ?c27 ?k27 ?a28 ?l28 ?c28 ?k28 ?a29 ?l29 ?c29 ?k29 ?a30 ?l30 ?c30 ?k30 ?a31 ?l31 ?c31 ?k31 ?a32 ?l32 ?c32 ?k32 ?a33 ?l33 ?c33 ?k33 ?m_ClanError ?m_NoSpell ?m_NoRow ?m_NoBounds ?e_NoSpell ?e_NoBounds ?e_NoRow ?n_abs ?n_bool ?n_enumerate ?n_isinstance ?n_len ?n_list ?n_max ?n_min ?n_range ?n_sum ?n_zip ?m_LEAST_BOUND ?q_LEAST_BOUND ?m_MOST_BOUND ?q_MOST_BOUND ?m_MOST_SPELLS ?m_MOST_CLANS ?m_MOST_TURNS
    (case a0 => k_is)
    (case l0 => k_is)
    (case c0 => k_is)
    (case k0 => k_is)
    (case a1 => k_is)
    (case l1 => k_is)
    (case c1 => k_is)
    (case k1 => k_is)
    (case a2 => k_is)
    (case l2 => k_is)
    (case c2 => k_is)
    (case k2 => k_is)
    (case a3 => k_is)
    (case l3 => k_is)
    (case c3 => k_is)
    (case k3 => k_is)
    (case a4 => k_is)
    (case l4 => k_is)
    (case c4 => k_is)
    (case k4 => k_is)
    (case a5 => k_is)
    (case l5 => k_is)
    (case c5 => k_is)
    (case k5 => k_is)
    (case a6 => k_is)
    (case l6 => k_is)
    (case c6 => k_is)
    (case k6 => k_is)
    (case a7 => k_is)
    (case l7 => k_is)
    (case c7 => k_is)
    (case k7 => k_is)
    (case a8 => k_is)
    (case l8 => k_is)
    (case c8 => k_is)
    (case k8 => k_is)
    (case a9 => k_is)
    (case l9 => k_is)
    (case c9 => k_is)
    (case k9 => k_is)
    (case a10 => k_is)
    (case l10 => k_is)
    (case c10 => k_is)
    (case k10 => k_is)
    (case a11 => k_is)
    (case l11 => k_is)
    (case c11 => k_is)
    (case k11 => k_is)
    (case a12 => k_is)
    (case l12 => k_is)
    (case c12 => k_is)
    (case k12 => k_is)
    (case a13 => k_is)
    (case l13 => k_is)
    (case c13 => k_is)
    (case k13 => k_is)
    (case a14 => k_is)
    (case l14 => k_is)
    (case c14 => k_is)
    (case k14 => k_is)
    (case a15 => k_is)
    (case l15 => k_is)
    (case c15 => k_is)
    (case k15 => k_is)
    (case a16 => k_is)
    (case l16 => k_is)
    (case c16 => k_is)
    (case k16 => k_is)
    (case a17 => k_is)
    (case l17 => k_is)
    (case c17 => k_is)
    (case k17 => k_is)
    (case a18 => k_is)
    (case l18 => k_is)
    (case c18 => k_is)
    (case k18 => k_is)
    (case a19 => k_is)
    (case l19 => k_is)
    (case c19 => k_is)
    (case k19 => k_is)
    (case a20 => k_is)
    (case l20 => k_is)
    (case c20 => k_is)
    (case k20 => k_is)
    (case a21 => k_is)
    (case l21 => k_is)
    (case c21 => k_is)
    (case k21 => k_is)
    (case a22 => k_is)
    (case l22 => k_is)
    (case c22 => k_is)
    (case k22 => k_is)
    (case a23 => k_is)
    (case l23 => k_is)
    (case c23 => k_is)
    (case k23 => k_is)
    (case a24 => k_is)
    (case l24 => k_is)
    (case c24 => k_is)
    (case k24 => k_is)
    (case a25 => k_is)
    (case l25 => k_is)
    (case c25 => k_is)
    (case k25 => k_is)
    (case a26 => k_is)
    (case l26 => k_is)
    (case c26 => k_is)
    (case k26 => k_is)
    (case a27 => k_is)
    (case l27 => k_is)
    (case c27 => k_is)
    (case k27 => k_is)
    (case a28 => k_is)
    (case l28 => k_is)
    (case c28 => k_is)
    (case k28 => k_is)
    (case a29 => k_is)
    (case l29 => k_is)
    (case c29 => k_is)
    (case k29 => k_is)
    (case a30 => k_is)
    (case l30 => k_is)
    (case c30 => k_is)
    (case k30 => k_is)
    (case a31 => k_is)
    (case l31 => k_is)
    (case c31 => k_is)
    (case k31 => k_is)
    (case a32 => k_is)
    (case l32 => k_is)
    (case c32 => k_is)
    (case k32 => k_is)
    (case a33 => k_is)
    (case l33 => k_is)
    (case c33 => k_is)
    (case k33 => k_is)
    (case m_ClanError => k_is)
    (case m_NoSpell => k_is)
    (case m_NoRow => k_is)
    (case m_NoBounds => k_is)
    (case e_NoSpell => k_exc)
    (case e_NoBounds => k_exc)
    (case e_NoRow => k_exc)
    (case n_abs => k_is)
    (case n_bool => k_is)
    (case n_enumerate => k_is)
    (case n_isinstance => k_is)
    (case n_len => k_is)
    (case n_list => k_is)
    (case n_max => k_is)
    (case n_min => k_is)
    (case n_range => k_is)
    (case n_sum => k_is)
    (case n_zip => k_is)
    (case m_LEAST_BOUND => k_is)
    (case q_LEAST_BOUND => k_is)
    (case m_MOST_BOUND => k_is)
    (case q_MOST_BOUND => k_is)
    (case m_MOST_SPELLS => k_is)
    (case m_MOST_CLANS => k_is)
    (case m_MOST_TURNS => k_is)
