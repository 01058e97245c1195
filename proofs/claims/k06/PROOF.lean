import PyProof.Rows.All
import Wide.All
import OpenK.AllK
import Wide.FinOn
import Lean
import PyProof.EqAt
import PyProof.EqKinds
import PyProof.TupleCall
import PyProof.NeKinds
import PySem.Challenge.RW_oddreel_k06_whole_rounds_bring_distances
set_option Elab.async false
set_option linter.all false
set_option maxRecDepth 100000
/-! THE HAND LAYER, for ints, bools, texts, own classes, LISTS and tuples (index, slices, in, append, pop ..), calls, loops. Paste it whole ahead of your own text; what your proof does not reach may be deleted. -/
namespace L2
open PySem PySem.Spec PyProof.Rows

/-- a key: an int or a str -/
abbrev Key := Sum Int Str
def keyIs : Key → Value → Bool
  | .inl k, v => Value.isInt k v
  | .inr x, v => Value.isStrOf x v
def keyH (w : World) : Key → Int
  | .inl k => hashInt k
  | .inr x => hashStr w x
theorem keyIs_shape : ∀ {k : Key} {v : Value}, keyIs k v = true → (∃ i t, k = Sum.inl i ∧ v = Value.int i t) ∨ (∃ x t, k = Sum.inr x ∧ v = Value.str x t)
  | .inl i, v, h => by
    obtain ⟨t, e⟩ := Value.isInt_shape (k := i) (v := v) h
    exact .inl ⟨i, t, rfl, e⟩
  | .inr x, v, h => by
    obtain ⟨t, e⟩ := Value.isStrOf_shape (x := x) (v := v) h
    exact .inr ⟨x, t, rfl, e⟩
theorem keyIs_int (i : Int) (t : Tok) : keyIs (.inl i) (.int i t) = true := by simp [keyIs, Value.isInt]
theorem keyIs_str (x : Str) (t : Tok) : keyIs (.inr x) (.str x t) = true := by simp [keyIs, Value.isStrOf]
theorem key_ll (a b : Int) : decide ((Sum.inl a : Key) = Sum.inl b) = (a == b) := by
  by_cases e : a = b
  · subst e; simp
  · have h : ¬ (Sum.inl a : Key) = Sum.inl b := fun q => e (Sum.inl.inj q)
    rw [decide_eq_false h]
    exact (beq_eq_false_iff_ne.mpr e).symm
theorem key_rr (a b : Str) : decide ((Sum.inr a : Key) = Sum.inr b) = decide (a = b) := by
  by_cases e : a = b
  · subst e; simp
  · have h : ¬ (Sum.inr a : Key) = Sum.inr b := fun q => e (Sum.inr.inj q)
    rw [decide_eq_false h, decide_eq_false e]
theorem key_lr (a : Int) (b : Str) : decide ((Sum.inl a : Key) = Sum.inr b) = false := decide_eq_false (fun q => nomatch q)
theorem key_rl (a : Str) (b : Int) : decide ((Sum.inr a : Key) = Sum.inl b) = false := decide_eq_false (fun q => nomatch q)

def mixKind (prog : Program) (w : World) : PySem.KeyKind prog w Key where
  is := keyIs
  hash := keyH w
  inj := fun v a b ha hb => by
    rcases keyIs_shape ha with ⟨i, t, rfl, rfl⟩ | ⟨x, t, rfl, rfl⟩
    · rcases keyIs_shape hb with ⟨j, u, rfl, e⟩ | ⟨y, u, rfl, e⟩
      · injection e with e1 _; rw [e1]
      · exact nomatch e
    · rcases keyIs_shape hb with ⟨j, u, rfl, e⟩ | ⟨y, u, rfl, e⟩
      · exact nomatch e
      · injection e with e1 _; rw [e1]
  byValue := fun k v h => by
    rcases keyIs_shape h with ⟨i, t, rfl, rfl⟩ | ⟨x, t, rfl, rfl⟩ <;> rfl
  pyHash := fun hv h => by
    rcases keyIs_shape hv with ⟨i, t, rfl, rfl⟩ | ⟨x, t, rfl, rfl⟩
    · exact wpAny_pyHash_int h
    · exact wpAny_pyHash_str h
  eqBool := fun hu hv h => by
    rcases keyIs_shape hu with ⟨i, t, rfl, rfl⟩ | ⟨x, t, rfl, rfl⟩
    · rcases keyIs_shape hv with ⟨j, u, rfl, rfl⟩ | ⟨y, u, rfl, rfl⟩
      · rw [key_ll] at h; exact wpAny_eqBool_int h
      · rw [key_lr] at h; exact SeqAt.EqAt.int_str i t y u _ _ _ _ h
    · rcases keyIs_shape hv with ⟨j, u, rfl, rfl⟩ | ⟨y, u, rfl, rfl⟩
      · rw [key_rl] at h; exact SeqAt.EqAt.str_int x t j u _ _ _ _ h
      · rw [key_rr] at h; exact wpAny_eqBool_str h
  «strs» := fun k x t v h => by
    rcases keyIs_shape h with ⟨i, u, rfl, e⟩ | ⟨y, u, rfl, e⟩
    · exact nomatch e
    · injection e with e1 _
      subst e1
      cases v <;> rfl

theorem mixKind_is (prog : Program) (w : World) (k : Key) (v : Value) : (mixKind prog w).is k v = keyIs k v := rfl
theorem mixKind_int (prog : Program) (w : World) (i : Int) (t : Tok) : (mixKind prog w).is (.inl i) (.int i t) = true := keyIs_int i t
theorem mixKind_str (prog : Program) (w : World) (x : Str) (t : Tok) : (mixKind prog w).is (.inr x) (.str x t) = true := keyIs_str x t
end L2

namespace L2
open PySem PySem.Spec PyProof.Rows

/-- a value, without the heap -/
inductive V where
  | non | bl (b : Bool) | int (i : Int) | str (x : Str) | byt (b : Array UInt8) | flt (b : UInt64) | ref (a : Addr) | ty (n : String)
  deriving DecidableEq

def RelV : V → Value → Prop
  | .non, u => u = Value.none
  | .bl b, u => u = Value.bool b
  | .int i, u => ∃ t, u = Value.int i t
  | .str x, u => ∃ t, u = Value.str x t
  | .byt b, u => ∃ t, u = Value.bytes b t
  | .flt b, u => ∃ t, u = Value.float b t
  | .ref a, u => u = Value.ref a
  | .ty n, u => u = Value.type n

abbrev Vals : List V → List Value → Prop := Paired RelV
theorem Vals.length {xs : List V} {us : List Value} (r : Vals xs us) : xs.length = us.length := Paired.length r
theorem Vals.get : ∀ {xs : List V} {us : List Value} {i : Nat} {x : V}, Vals xs us → xs[i]? = some x → ∃ u, us[i]? = some u ∧ RelV x u
  | _, _, _, _, .nil, e => by simp at e
  | _, _, 0, _, .cons r _, e => by simp at e; subst e; exact ⟨_, rfl, r⟩
  | _, _, i + 1, x, .cons _ t, e => by
    obtain ⟨u, h1, h2⟩ := Vals.get (i := i) (x := x) t (by simpa using e)
    exact ⟨u, by simpa using h1, h2⟩
theorem Vals.set {x : V} {u : Value} (r : RelV x u) : ∀ {xs : List V} {us : List Value} (i : Nat), Vals xs us → Vals (xs.set i x) (us.set i u)
  | _, _, _, .nil => .nil
  | _, _, 0, .cons _ t => .cons r t
  | _, _, i + 1, .cons q t => .cons q (Vals.set r i t)
theorem Vals.append : ∀ {xs ys : List V} {us ws : List Value}, Vals xs us → Vals ys ws → Vals (xs ++ ys) (us ++ ws)
  | _, _, _, _, .nil, s => s
  | _, _, _, _, .cons r t, s => .cons r (Vals.append t s)
theorem Vals.take : ∀ {xs : List V} {us : List Value} (n : Nat), Vals xs us → Vals (xs.take n) (us.take n)
  | _, _, 0, _ => .nil
  | _, _, _ + 1, .nil => .nil
  | _, _, n + 1, .cons r t => .cons r (Vals.take n t)
theorem Vals.drop : ∀ {xs : List V} {us : List Value} (n : Nat), Vals xs us → Vals (xs.drop n) (us.drop n)
  | _, _, 0, r => r
  | _, _, _ + 1, .nil => .nil
  | _, _, n + 1, .cons _ t => Vals.drop n t
theorem Vals.none_of : ∀ {xs : List V} {us : List Value} {i : Nat}, Vals xs us → xs[i]? = none → us[i]? = none := fun {xs us i} r e => by
  have h1 := r.length
  have h2 : xs.length ≤ i := List.getElem?_eq_none_iff.mp e
  exact List.getElem?_eq_none_iff.mpr (by omega)

def RelO : Option V → Option Value → Prop
  | some v, some u => RelV v u
  | none, none => True
  | _, _ => False
def KV {κ : Type} : List (κ × V) → List (κ × Value) → Prop := Paired fun (p : κ × V) (q : κ × Value) => p.1 = q.1 ∧ RelV p.2 q.2

/-- a key of a dict (00_mix): an int or a text -/
def kV : Key → V
  | .inl i => .int i
  | .inr x => .str x

/-- what stands at a tracked address -/
inductive HO where
  /-- a list -/
  | lst (xs : List V)
  /-- a tuple (never changes) -/
  | tup (xs : List V)
  /-- a dict whose keys are ints and texts; one whose keys are tuples of ints and texts (the empty one is both) -/
  | dK (kvs : List (Key × V)) | dT (kvs : List (List Key × V))
  /-- a set of ints: its members, its size -/
  | set (S : Int → Bool) (n : Nat)
  /-- an instance of the class at C, its dict at dx, its attributes -/
  | ins (C dx : Addr) (fs : List (Str × V))
  /-- the dict of the instance at x -/
  | own (x : Addr)
  /-- the dict of an exception -/
  | xd (fs : List (Str × V))
  /-- a bound method, f of x -/
  | met (f x : Addr)
  /-- a range object lo, lo + 1, .. below hi -/
  | rng (lo hi : Int)
  /-- a thing that is known to the object (the script; a dict while a loop walks it): read, never written while it is so -/
  | frz (o : Obj) (u : HO)
  /-- a code object's table -/
  | tbl (ps : Array Value)
  /-- any other thing, by what is true of its one object (a def of one's own: SetO a S n := HO.ext fun h => ..) -/
  | ext (φ : Heap → Prop)

abbrev Hp := Addr → Option HO
def upd (H : Hp) (a : Addr) (o : HO) : Hp := fun b => if b = a then some o else H b
theorem upd_same {H : Hp} {a : Addr} {o : HO} : upd H a o a = some o := by unfold upd; rw [if_pos rfl]
theorem upd_ne {H : Hp} {a b : Addr} {o : HO} (h : b ≠ a) : upd H a o b = H b := by unfold upd; rw [if_neg h]
theorem upd_upd {H : Hp} {a : Addr} {o u : HO} : upd (upd H a o) a u = upd H a u := by
  funext b; unfold upd; split <;> rfl
/-- two objects of different content stand apart -/
theorem ne_of {H : Hp} {a b : Addr} {o u : HO} (h : H a = some o) (h' : H b = some u) (d : o ≠ u) : a ≠ b := by
  intro e; subst e; rw [h] at h'; exact d (Option.some.inj h')
theorem ne_of_none {H : Hp} {a b : Addr} {o : HO} (h : H a = some o) (h' : H b = none) : a ≠ b := by
  intro e; subst e; rw [h] at h'; cases h'

section
variable (P : Program) (w : World)
def ObjOk (H : Hp) (h : Heap) (a : Addr) : HO → Prop
  | .lst xs => xs.length ≤ sizeLine ∧ ∃ (its : List Value) (n : Nat), Vals xs its ∧ h.get? a = some { cls := .type "list", data := .seq its.toArray n }
  | .tup xs => xs.length ≤ sizeLine ∧ ∃ its : List Value, Vals xs its ∧ IsTup h a its.toArray
  | .dK kvs => kvs.length ≤ sizeLine ∧ (a == sysModules) = false ∧ ∃ vs, KV kvs vs ∧ h.DictOf (mixKind P w) a vs
  | .dT kvs => kvs.length ≤ sizeLine ∧ (a == sysModules) = false ∧ ∃ xs : List (List Key × Addr × Value),
      Paired (fun (p : List Key × V) (q : List Key × Addr × Value) => p.1 = q.1 ∧ H q.2.1 = some (.tup (p.1.map kV)) ∧ RelV p.2 q.2.2) kvs xs ∧
      ∃ o es ep, h.get? a = some o ∧ o.ExactDict ∧ o.data = .dict es ep ∧ es.toList = xs.map (entryOfKey (tupleKind (mixKind P w))) ∧ (xs.map (·.1)).Nodup
  | .set S n => h.SetOf (intKind P w) a S n
  | .ins C dx fs => H dx = some (.own a) ∧ fs.length ≤ 1000 ∧ dx ≠ a ∧ h.get? a = some (PySem.W.instObj C dx) ∧
      ∃ mA, h.Ns1 dx mA ∧ (∀ f, RelO (fs.lookup f) (mA f)) ∧ PySem.Within mA (fs.map (·.1))
  | .own _ => ∃ o, h.get? a = some o
  | .xd fs => ∃ mA, h.Ns1 a mA ∧ ∀ f, RelO (fs.lookup f) (mA f)
  | .rng lo hi => ∃ t u v, h.get? a = some { cls := .type "range", data := .fields #[.int lo t, .int hi u, .int 1 v] }
  | .frz o u => h.get? a = some o ∧ ObjOk H h a u
  | .tbl ps => h.get? a = some { cls := .none, data := .fields ps }
  | .met f x => h.get? a = some (PySem.W.methodObj (.ref f) (.ref x))
  | .ext φ => φ h ∧ (∃ o, h.get? a = some o) ∧ ∀ h1 h2 : Heap, φ h1 → (∀ o, h1.get? a = some o → h2.get? a = some o) → φ h2
/-- the abstract heap is held -/
def HOk (H : Hp) (h : Heap) : Prop := ∀ a o, H a = some o → ObjOk P w H h a o
end

section
variable {P : Program} {w : World} {H H' : Hp} {h h' : Heap} {a : Addr} {o : HO}
theorem ObjOk.lt (x : ObjOk P w H h a o) : a < h.objs.size := by
  cases o with
  | lst xs => obtain ⟨_, _, _, _, e⟩ := x; exact Heap.lt_size e
  | tup xs => obtain ⟨_, _, _, p⟩ := x; exact p.lt
  | dK kvs => obtain ⟨_, _, _, _, o, _, _, e, _⟩ := x; exact Heap.lt_size e
  | dT kvs => obtain ⟨_, _, _, _, o, _, _, e, _⟩ := x; exact Heap.lt_size e
  | set S n => obtain ⟨o, _, _, _, e, _⟩ := x; exact Heap.lt_size e
  | ins C dx fs => obtain ⟨_, _, _, e, _⟩ := x; exact Heap.lt_size e
  | own y => obtain ⟨_, e⟩ := x; exact Heap.lt_size e
  | xd fs => obtain ⟨_, ⟨_, _, _, e, _⟩, _⟩ := x; exact Heap.lt_size e
  | rng lo hi => obtain ⟨_, _, _, e⟩ := x; exact Heap.lt_size e
  | frz ob u => obtain ⟨e, _⟩ := x; exact Heap.lt_size e
  | tbl ps => exact Heap.lt_size (show h.get? a = some _ from x)
  | met f y => exact Heap.lt_size (show h.get? a = some _ from x)
  | ext φ => obtain ⟨_, ⟨_, e⟩, _⟩ := x; exact Heap.lt_size e
theorem Paired.mapP {α β : Type} {F G : α → β → Prop} : ∀ {l₁ : List α} {l₂ : List β}, Paired F l₁ l₂ → (∀ a b, F a b → G a b) → Paired G l₁ l₂
  | _, _, .nil, _ => .nil
  | _, _, .cons r t, f => .cons (f _ _ r) (Paired.mapP t f)
theorem Paired.imp' {α β : Type} {F G : α → β → Prop} (f : ∀ a b, F a b → G a b) {l₁ : List α} {l₂ : List β} (r : Paired F l₁ l₂) : Paired G l₁ l₂ := Paired.mapP r f
/-- what an object's description leans on: its own object, its own dict, the tuples -/
theorem ObjOk.stay (x : ObjOk P w H h a o) (k : ∀ b u, (b = a ∨ H b = some (.own a)) → h.get? b = some u → h'.get? b = some u)
    (ho : ∀ b, H b = some (.own a) → H' b = some (.own a)) (ht : ∀ b xs, H b = some (.tup xs) → H' b = some (.tup xs)) : ObjOk P w H' h' a o := by
  induction o with
  | lst xs => obtain ⟨z, its, n, r, e⟩ := x; exact ⟨z, its, n, r, k _ _ (.inl rfl) e⟩
  | tup xs => obtain ⟨z, its, r, ob, e, c⟩ := x; exact ⟨z, its, r, ob, k _ _ (.inl rfl) e, c⟩
  | dK kvs => obtain ⟨z, y, vs, r, ob, es, ep, e, c⟩ := x; exact ⟨z, y, vs, r, ob, es, ep, k _ _ (.inl rfl) e, c⟩
  | dT kvs =>
    obtain ⟨z, y, xs, r, ob, es, ep, e, c⟩ := x
    exact ⟨z, y, xs, Paired.mapP r fun p q z => ⟨z.1, ht _ _ z.2.1, z.2.2⟩, ob, es, ep, k _ _ (.inl rfl) e, c⟩
  | set S n => obtain ⟨ob, es, ep, t, e, c⟩ := x; exact ⟨ob, es, ep, t, k _ _ (.inl rfl) e, c⟩
  | ins C dx fs =>
    obtain ⟨d, z, ne, e, mA, ⟨od, es, ep, e2, c⟩, r⟩ := x
    exact ⟨ho _ d, z, ne, k _ _ (.inl rfl) e, mA, ⟨od, es, ep, k _ _ (.inr d) e2, c⟩, r⟩
  | own y => obtain ⟨ob, e⟩ := x; exact ⟨ob, k _ _ (.inl rfl) e⟩
  | xd fs => obtain ⟨mA, ⟨od, es, ep, e, c⟩, r⟩ := x; exact ⟨mA, ⟨od, es, ep, k _ _ (.inl rfl) e, c⟩, r⟩
  | rng lo hi => obtain ⟨t, u, v, e⟩ := x; exact ⟨t, u, v, k _ _ (.inl rfl) e⟩
  | frz ob u ih => obtain ⟨e, q⟩ := x; exact ⟨k _ _ (.inl rfl) e, ih q⟩
  | tbl ps =>
    have e : h.get? a = some { cls := .none, data := .fields ps } := x
    show h'.get? a = some { cls := .none, data := .fields ps }
    exact k a _ (.inl rfl) e
  | met f y =>
    have e : h.get? a = some (PySem.W.methodObj (.ref f) (.ref y)) := x
    show h'.get? a = some (PySem.W.methodObj (.ref f) (.ref y))
    exact k a _ (.inl rfl) e
  | ext φ => obtain ⟨p, ⟨o, e⟩, st⟩ := x; exact ⟨st _ _ p fun o q => k _ _ (.inl rfl) q, ⟨o, k _ _ (.inl rfl) e⟩, st⟩
theorem HOk.lt (x : HOk P w H h) (e : H a = some o) : a < h.objs.size := (x a o e).lt
theorem HOk.fresh (x : HOk P w H h) (e : h.objs.size ≤ a) : H a = none := by
  cases q : H a with
  | none => rfl
  | some u => exact absurd (Nat.lt_of_lt_of_le (x.lt q) e) (Nat.lt_irrefl _)
/-- every object of the heap is kept -/
theorem HOk.kept (x : HOk P w H h) (k : ∀ b u, h.get? b = some u → h'.get? b = some u) : HOk P w H h' := fun a o e =>
  (x a o e).stay (fun b u _ q => k b u q) (fun _ q => q) fun _ _ q => q
/-- a new object is laid and tracked -/
theorem HOk.laid (x : HOk P w H h) (k : ∀ b u, h.get? b = some u → h'.get? b = some u) (hp : h.objs.size ≤ a) (new : ObjOk P w (upd H a o) h' a o) : HOk P w (upd H a o) h' := fun b u e => by
  have hn := x.fresh hp
  by_cases hb : b = a
  · subst hb; rw [upd_same] at e; cases e; exact new
  · rw [upd_ne hb] at e
    exact (x b u e).stay (fun c v _ q => k c v q) (fun c q => by rw [upd_ne (ne_of_none q hn)]; exact q) fun c xs q => by rw [upd_ne (ne_of_none q hn)]; exact q
end

/-- what may be read as u: it is u, or a known u -/
def Rd (H : Hp) (a : Addr) (u : HO) : Prop := H a = some u ∨ ∃ o, H a = some (.frz o u)
theorem Rd.of {H : Hp} {a : Addr} {u : HO} (h : H a = some u) : Rd H a u := .inl h
theorem Rd.ok {P : Program} {w : World} {H : Hp} {h : Heap} {a : Addr} {u : HO} (r : Rd H a u) (x : HOk P w H h) : ObjOk P w H h a u := by
  rcases r with r | ⟨o, r⟩
  · exact x a u r
  · obtain ⟨_, q⟩ := x a _ r
    exact q
/-- what may be written -/
def Mut : Option HO → Prop
  | some (.lst _) => True
  | some (.dK _) => True
  | some (.dT _) => True
  | some (.set _ _) => True
  | some (.ins _ _ _) => True
  | some (.ext _) => True
  | _ => False
section
variable {P : Program} {w : World} {H : Hp} {h h' : Heap} {x e : Addr} {o' : HO}
/-- the object at e is changed: x itself, or the dict of the instance x -/
theorem HOk.write (ok : HOk P w H h) (mu : Mut (H x)) (he : e = x ∨ H e = some (.own x)) (k : ∀ b u, b ≠ e → h.get? b = some u → h'.get? b = some u) (heo : ∃ u, h'.get? e = some u)
    (new : ObjOk P w (upd H x o') h' x o') : HOk P w (upd H x o') h' := fun b u q => by
  have nown : ∀ c y, H c = some (.own y) → c ≠ x := fun c y r z => by subst z; rw [r] at mu; exact mu
  have ntup : ∀ c xs, H c = some (.tup xs) → c ≠ x := fun c xs r z => by subst z; rw [r] at mu; exact mu
  by_cases hb : b = x
  · subst hb; rw [upd_same] at q; cases q; exact new
  · rw [upd_ne hb] at q
    by_cases hbe : b = e
    · have q' : H b = some (.own x) := by
        rcases he with z | z
        · exact absurd (hbe.trans z) hb
        · rw [hbe]; exact z
      rw [q] at q'; cases q'
      obtain ⟨v, hv⟩ := heo
      exact ⟨v, by rw [hbe]; exact hv⟩
    · refine (ok b u q).stay (fun c v hc r => k c v ?_ r) (fun c r => by rw [upd_ne (nown c b r)]; exact r) fun c xs r => by rw [upd_ne (ntup c xs r)]; exact r
      rcases hc with rfl | hc
      · exact hbe
      · rintro rfl
        rcases he with z | z
        · exact nown c b hc z
        · rw [hc] at z; cases z; exact hb rfl
end

/-! ### kept unless tracked; of the frames at fs (the callers') the slots may change (an exception that passes writes there); of the records at ex (iterators) nothing is said -/
structure Un (fs ex : List Addr) (H H' : Hp) (h h' : Heap) : Prop where
  keep : ∀ b o, h.get? b = some o → H b = none → b ∉ fs → b ∉ ex → h'.get? b = some o
  slot : ∀ b o, h.get? b = some o → H b = none → b ∈ fs → b ∉ ex → ∃ sl, h'.get? b = some { o with slots := sl }
  free : ∀ b o, h.get? b = some o → H b = none → b ∉ ex → H' b = none
  there : ∀ b o, h.get? b = some o → b ∉ ex → ∃ o', h'.get? b = some o'
  tups : ∀ b xs, H b = some (.tup xs) → H' b = some (.tup xs)
  frzs : ∀ b o u, H b = some (.frz o u) → H' b = some (.frz o u)
  tbls : ∀ b ps, H b = some (.tbl ps) → ∃ more, H' b = some (.tbl (ps ++ more))
section
variable {fs fs' ex ex' : List Addr} {H H1 H2 : Hp} {h h1 h2 h' : Heap} {a x e : Addr} {o : HO}
theorem Un.any (u : Un fs ex H H1 h h1) {b : Addr} {ob : Obj} (q : h.get? b = some ob) (n : H b = none) (hx : b ∉ ex) : ∃ sl, h1.get? b = some { ob with slots := sl } := by
  by_cases hb : b ∈ fs
  · exact u.slot b ob q n hb hx
  · exact ⟨ob.slots, u.keep b ob q n hb hx⟩
theorem Un.trans (a : Un fs ex H H1 h h1) (b : Un fs ex H1 H2 h1 h2) : Un fs ex H H2 h h2 where
  keep := fun c ob q n hc hx => b.keep c ob (a.keep c ob q n hc hx) (a.free c ob q n hx) hc hx
  slot := fun c ob q n hc hx => by
    obtain ⟨sl, e1⟩ := a.slot c ob q n hc hx
    obtain ⟨sl', e2⟩ := b.slot c _ e1 (a.free c ob q n hx) hc hx
    exact ⟨sl', e2⟩
  free := fun c ob q n hx => by
    obtain ⟨o', e1⟩ := a.there c ob q hx
    exact b.free c o' e1 (a.free c ob q n hx) hx
  there := fun c ob q hx => by
    obtain ⟨o', e1⟩ := a.there c ob q hx
    exact b.there c o' e1 hx
  tups := fun c xs q => b.tups c xs (a.tups c xs q)
  frzs := fun c ob xs q => b.frzs c ob xs (a.frzs c ob xs q)
  tbls := fun c ps q => by
    obtain ⟨m1, e1⟩ := a.tbls c ps q
    obtain ⟨m2, e2⟩ := b.tbls c _ e1
    exact ⟨m1 ++ m2, by rw [e2, Array.append_assoc]⟩
theorem Un.kept (k : ∀ b u, h.get? b = some u → h'.get? b = some u) : Un fs ex H H h h' :=
  ⟨fun b ob q _ _ _ => k b ob q, fun b ob q _ _ _ => ⟨ob.slots, k b ob q⟩, fun _ _ _ n _ => n, fun b ob q _ => ⟨ob, k b ob q⟩, fun _ _ q => q, fun _ _ _ q => q, fun _ ps q => ⟨#[], by rw [q]; simp⟩⟩
theorem Un.refl : Un fs ex H H h h := Un.kept fun _ _ q => q
theorem Un.laid (k : ∀ b u, h.get? b = some u → h'.get? b = some u) (hp : h.objs.size ≤ a) (hn : H a = none) : Un fs ex H (upd H a o) h h' where
  keep := fun b u q _ _ _ => k b u q
  slot := fun b u q _ _ _ => ⟨u.slots, k b u q⟩
  free := fun b u q n _ => by rw [upd_ne (Nat.ne_of_lt (Nat.lt_of_lt_of_le (Heap.lt_size q) hp))]; exact n
  there := fun b u q _ => ⟨u, k b u q⟩
  tups := fun b xs q => by rw [upd_ne (ne_of_none q hn)]; exact q
  frzs := fun b u xs q => by rw [upd_ne (ne_of_none q hn)]; exact q
  tbls := fun b ps q => ⟨#[], by rw [upd_ne (ne_of_none q hn), q]; simp⟩
theorem Un.write (mu : Mut (H x)) (he : e = x ∨ H e = some (.own x)) (k : ∀ b u, b ≠ e → h.get? b = some u → h'.get? b = some u) (heo : ∃ u, h'.get? e = some u) : Un fs ex H (upd H x o) h h' := by
  have hx : ∀ b, H b = none → b ≠ x := fun b n z => by subst z; rw [n] at mu; exact mu
  have hb : ∀ b, H b = none → b ≠ e := fun b n z => by
    subst z
    rcases he with r | r
    · exact hx b n r
    · rw [n] at r; cases r
  have hm : ∀ b u, H b = some u → ¬ Mut (some u) → b ≠ x := fun b u q nm z => by subst z; rw [q] at mu; exact nm mu
  refine ⟨fun b u q n _ _ => k b u (hb b n) q, fun b u q n _ _ => ⟨u.slots, k b u (hb b n) q⟩, fun b u q n _ => by rw [upd_ne (hx b n)]; exact n, fun b u q _ => ?_,
    fun b xs q => by rw [upd_ne (hm b _ q fun z => z)]; exact q, fun b u xs q => by rw [upd_ne (hm b _ q fun z => z)]; exact q, fun b ps q => ⟨#[], by rw [upd_ne (hm b _ q fun z => z), q]; simp⟩⟩
  by_cases hbe : b = e
  · subst hbe; exact heo
  · exact ⟨u, k b u hbe q⟩
theorem Un.mono (u : Un fs ex H H1 h h1) (hs : ∀ b ∈ fs, b ∈ fs') (hx : ∀ b ∈ ex, b ∈ ex') : Un fs' ex' H H1 h h1 :=
  ⟨fun b ob q n hb he => u.keep b ob q n (fun z => hb (hs b z)) fun z => he (hx b z), fun _ _ q n _ he => u.any q n fun z => he (hx _ z), fun b ob q n he => u.free b ob q n fun z => he (hx b z), fun b ob q he => u.there b ob q fun z => he (hx b z), u.tups, u.frzs, u.tbls⟩
end

/-! ### the heap without what is tracked -/
def trk (h : Heap) (H : Hp) : List Addr := (List.range h.objs.size).filter fun a => (H a).isSome
def hidT (h : Heap) (H : Hp) : Heap := PySem.W.hideAll h (trk h H)
theorem hidT_size (h : Heap) (H : Hp) : (hidT h H).objs.size = h.objs.size := PySem.W.hideAll_size _ _
theorem hidT_get {h : Heap} {H : Hp} {b : Addr} {o : Obj} (e : h.get? b = some o) (n : H b = none) : (hidT h H).get? b = some o :=
  PySem.W.hideAll_get _ e fun hm => by
    have q : (H b).isSome = true := (List.mem_filter.mp hm).2
    rw [n] at q; simp at q
theorem of_hidT {h : Heap} {H : Hp} {b : Addr} {o : Obj} (e : (hidT h H).get? b = some o) : h.get? b = some o ∧ H b = none := by
  have e' : h.get? b = some o := PySem.W.of_hideAll (trk h H) e
  refine ⟨e', ?_⟩
  cases q : H b with
  | none => rfl
  | some x =>
    have hm : b ∈ trk h H := List.mem_filter.mpr ⟨List.mem_range.mpr (Heap.lt_size e'), by simp [q]⟩
    have z : (hidT h H).get? b = none := PySem.W.hideAll_none (trk h H) hm
    rw [z] at e; cases e

/-! ### OpenK's ledger, filled with every new object but one -/
def allNews (g h : Heap) (L : Addr) : List (Addr × Obj) := (List.range h.objs.size).filterMap fun a => if a = L ∨ (g.get? a).isSome = true then none else (h.get? a).map fun o => (a, o)
theorem mem_allNews {g h : Heap} {L a : Addr} {o : Obj} (h1 : a ≠ L) (h2 : g.get? a = none) (h3 : h.get? a = some o) : (a, o) ∈ allNews g h L :=
  List.mem_filterMap.mpr ⟨a, List.mem_range.mpr (Heap.lt_size h3), by simp [h1, h2, h3]⟩
theorem of_mem_allNews {g h : Heap} {L : Addr} {p : Addr × Obj} (hp : p ∈ allNews g h L) : p.1 ≠ L ∧ g.get? p.1 = none ∧ h.get? p.1 = some p.2 := by
  obtain ⟨b, _, e⟩ := List.mem_filterMap.mp hp
  split at e
  · cases e
  · rename_i hn
    cases q : h.get? b with
    | none => rw [q] at e; simp at e
    | some u =>
      rw [q] at e
      simp only [Option.map_some, Option.some.injEq] at e
      subst e
      refine ⟨fun z => hn (.inl z), ?_, q⟩
      show g.get? b = none
      cases r : g.get? b with
      | none => rfl
      | some v => exact (hn (.inr (by simp [r]))).elim
def rest (g h : Heap) (L d : Addr) : List (Addr × Obj) := (allNews g h L).filter fun p => decide (p.1 ≠ d)
theorem rest_ne {g h : Heap} {L d : Addr} : ∀ p ∈ rest g h L d, p.1 ≠ d := fun p hp => of_decide_eq_true (List.mem_filter.mp hp).2
theorem mem_rest {g h : Heap} {L d a : Addr} {o : Obj} (h1 : a ≠ L) (h2 : g.get? a = none) (h3 : h.get? a = some o) (h4 : a ≠ d) : (a, o) ∈ rest g h L d :=
  List.mem_filter.mpr ⟨mem_allNews h1 h2 h3, decide_eq_true h4⟩
theorem news_all {g h : Heap} {L : Addr} : News g L h (allNews g h L) := fun p hp => let ⟨a, b, c⟩ := of_mem_allNews hp; ⟨c, a, b⟩
theorem news_at {g h : Heap} {L d : Addr} {o : Obj} (h1 : d ≠ L) (h2 : g.get? d = none) (h3 : h.get? d = some o) : News g L h ((d, o) :: rest g h L d) := fun p hp => by
  rcases List.mem_cons.mp hp with rfl | hp
  · exact ⟨h3, h1, h2⟩
  · exact news_all p (List.mem_filter.mp hp).1
/-- behind a rule that changed d alone: all else but the frame is kept -/
theorem kept_of_news {g h h' : Heap} {L d : Addr} {m : Str → Option Value} (k : ∀ b o, g.get? b = some o → h.get? b = some o) (F : Fr g L h' m) (N : News g L h' (rest g h L d)) :
    ∀ b o, b ≠ L → b ≠ d → h.get? b = some o → h'.get? b = some o := fun b o h1 h2 e => by
  cases q : g.get? b with
  | some u =>
    have := k b u q
    rw [e] at this; cases this
    exact F.keep b _ q
  | none => exact (N (b, o) (mem_rest h1 q e h2)).1
end L2

namespace L2
open PySem PySem.Spec PyProof.Rows

/-- the module's facts, over the base: the heap at the law's entry without what is tracked there -/
structure Mod (K : PySem.W.Frag) (mg : Str → Option Value) (base : Heap) : Prop where
  kin : K.In base
  glob : base.Ns mainGlobals mg
  blt : ∃ mb, base.Ns builtinsNs mb ∧ ∀ x : Str, x ≠ "__name__" → mb x = bootBuiltins x
  nolimit : base.NoLimit

/-- the context: a def's body (or a comprehension's block) running. base: fixed through the whole law; s₀, H₀: the entry; outer: the frames whose slots others may change (a def's callers); stack: all frames that run;
   ex: iterators that were made ahead of the entry and are walked here (a comprehension's); fn: the names whose cells were made at the entry (a def: all; a comprehension's block: its own); calm: not within an except suite; pn: pins that every state bears; xe: what is wanted of an exception that leaves the code -/
structure Cx where
  prog : Program
  w : World
  K : PySem.W.Frag
  mg : Str → Option Value
  base : Heap
  A : Around
  N : List Str
  s₀ : Shared
  H₀ : Hp
  env : Env
  outer : List Env
  stack : List Env
  ex : List Addr
  fn : Str → Bool
  calm : Bool
  pn : List (Addr × Obj)
  xe : Value → Shared → Prop
/-- the callers' frames -/
def frs (l : List Env) : List Addr := l.filterMap (·.frame)
abbrev Cx.fs (X : Cx) : List Addr := frs X.outer

def Vis (sc : Scope) (x : Str) : Prop := sc.names.lookup x = some .local ∨ sc.names.lookup x = some .cell ∨ sc.names.lookup x = some .free
def Loc (sc : Scope) (x : Str) : Prop := sc.names.lookup x = some .local ∨ sc.names.lookup x = some .cell
def Look (env : Env) (h : Heap) (m : Str → Option Value) (x : Str) (u : Value) : Prop :=
  (env.kindOf x = some .local ∧ m x = some u) ∨ ((env.kindOf x = some .cell ∨ env.kindOf x = some .free) ∧ ∃ c, env.cells.lookup x = some c ∧ h.IsCell c (some u))

structure Cx.Ok (X : Cx) : Prop where
  mod : Mod X.K X.mg X.base
  kind : X.env.scope.kind = .function
  glob : X.env.globals = mainGlobals
  blt : X.env.builtins = builtinsNs
  above : X.s₀.heap.objs.size ≤ X.env.locals
  inj : ∀ x y c, X.env.cells.lookup x = some c → X.env.cells.lookup y = some c → x = y
  has : ∀ x, (X.env.kindOf x = some .cell ∨ X.env.kindOf x = some .free) → ∃ c, X.env.cells.lookup x = some c
  cab : ∀ x c, X.fn x = true → X.env.cells.lookup x = some c → X.s₀.heap.objs.size ≤ c
  hd : X.calm = true → X.A.handled = none
  frames : X.A.frames = some X.stack
  stk : X.stack = X.outer ∨ (X.stack = X.env :: X.outer ∧ X.env.frame = some X.env.locals)
  exf : ∀ b ∈ X.ex, b ≠ X.env.locals ∧ ∀ x c, X.env.cells.lookup x = some c → c ≠ b
  bs : ∀ b o, X.base.get? b = some o → X.s₀.heap.get? b = some o ∧ X.H₀ b = none
  bsz : X.base.objs.size ≤ X.s₀.heap.objs.size
  noex : ∀ b o, X.base.get? b = some o → b ∉ X.ex
  exfs : ∀ b ∈ X.ex, b ∉ X.fs
  funs : X.s₀.heap.FunFrames X.base X.outer
  frf : ∀ b ∈ X.fs, X.H₀ b = none

structure Inv (X : Cx) (pins : List (Addr × Obj)) (σ : List (Option V)) (H : Hp) (s : Shared) : Prop where
  ok : X.Ok
  os : s.os = X.s₀.os
  bare : AllBare s.gens
  base : Un X.fs X.ex X.H₀ H X.s₀.heap s.heap
  loc : ∃ m, s.heap.Ns X.env.locals m ∧ ∀ (i : Nat) (x : Str) (v : V), X.N[i]? = some x → σ[i]? = some (some v) → Vis X.env.scope x → ∃ u, RelV v u ∧ Look X.env s.heap m x u
  cell : ∀ x c, X.env.cells.lookup x = some c → ∃ v, s.heap.IsCell c v
  free : H X.env.locals = none
  freeC : ∀ x c, X.env.cells.lookup x = some c → H c = none
  pin : ∀ p ∈ X.pn ++ pins, s.heap.get? p.1 = some p.2 ∧ H p.1 = none ∧ p.1 ≠ X.env.locals ∧ p.1 ∉ X.fs ∧ ∀ v, p.2.data ≠ .cell v
  hok : HOk X.prog X.w H s.heap
  len : σ.length = X.N.length

section
variable {X : Cx} {pins : List (Addr × Obj)} {σ : List (Option V)} {H H' : Hp} {s : Shared} {h' : Heap}

theorem Cx.Ok.nofr (ok : X.Ok) {b : Addr} {o : Obj} (e : X.base.get? b = some o) : b ∉ X.fs := fun hb => by
  have := (ok.funs.mem hb).1
  rw [e] at this; cases this
theorem Inv.bs (I : Inv X pins σ H s) : ∀ b o, X.base.get? b = some o → s.heap.get? b = some o ∧ H b = none := fun b o e =>
  ⟨I.base.keep b o (I.ok.bs b o e).1 (I.ok.bs b o e).2 (I.ok.nofr e) (I.ok.noex b o e), I.base.free b o (I.ok.bs b o e).1 (I.ok.bs b o e).2 (I.ok.noex b o e)⟩
theorem Inv.bk (I : Inv X pins σ H s) : ∀ b o, X.base.get? b = some o → s.heap.get? b = some o := fun b o e => (I.bs b o e).1
theorem Inv.mod (I : Inv X pins σ H s) : Mod X.K X.mg X.base := I.ok.mod
theorem Inv.kIn (I : Inv X pins σ H s) : X.K.In s.heap := I.ok.mod.kin.keeps I.bk
theorem Inv.nolimit (I : Inv X pins σ H s) : s.heap.NoLimit := I.ok.mod.nolimit.keeps I.bk
/-- the frame over the base: for OpenK's rules (K.In X.base is I.mod.kin) -/
theorem Inv.fr (I : Inv X pins σ H s) : ∃ m, Fr X.base X.env.locals s.heap m :=
  let ⟨m, hn, _⟩ := I.loc
  ⟨m, hn, I.bk, Nat.le_trans I.ok.bsz I.ok.above⟩
theorem Inv.lt (I : Inv X pins σ H s) : X.env.locals < s.heap.objs.size := let ⟨_, hn, _⟩ := I.loc; hn.lt
theorem Inv.sz (I : Inv X pins σ H s) : X.s₀.heap.objs.size ≤ s.heap.objs.size := Nat.le_trans I.ok.above (Nat.le_of_lt I.lt)
theorem Inv.nofs (I : Inv X pins σ H s) {a : Addr} (h : s.heap.objs.size ≤ a) : a ∉ X.fs := fun hb => by
  obtain ⟨_, o, ho, _⟩ := I.ok.funs.mem hb
  exact absurd (Nat.lt_of_lt_of_le (Heap.lt_size ho) (Nat.le_trans I.sz h)) (Nat.lt_irrefl _)
theorem Inv.cne (I : Inv X pins σ H s) : ∀ x c, X.env.cells.lookup x = some c → c ≠ X.env.locals := fun x c e z => by
  obtain ⟨v, o, ho, hd⟩ := I.cell x c e
  obtain ⟨m, ⟨o', es, ep, ho', hd', _⟩, _⟩ := I.loc
  rw [z, ho'] at ho; cases ho; rw [hd'] at hd; cases hd
theorem Inv.funs (I : Inv X pins σ H s) : s.heap.FunFrames X.base X.outer := by
  have all : ∀ (l : List Env), (∀ b ∈ frs l, b ∈ X.fs) → X.s₀.heap.FunFrames X.base l → s.heap.FunFrames X.base l := by
    intro l
    induction l with
    | nil => intro _ _; trivial
    | cons env r ih =>
      intro hs hl
      obtain ⟨hk, ⟨L, o, hf, hn, ho, hd⟩, hr⟩ := hl
      have hL : L ∈ X.fs := hs L (by unfold frs; rw [List.filterMap_cons, hf]; exact List.mem_cons_self)
      obtain ⟨sl, e⟩ := I.base.slot L o ho (I.ok.frf L hL) hL fun z => I.ok.exfs L z hL
      exact ⟨hk, ⟨L, _, hf, hn, e, hd⟩, ih (fun b hb => hs b (by unfold frs; rw [List.filterMap_cons, hf]; exact List.mem_cons_of_mem _ hb)) hr⟩
  exact all X.outer (fun _ hb => hb) I.ok.funs

/-- the frames that run, for a call -/
theorem Inv.stack (I : Inv X pins σ H s) : s.heap.FunFrames X.base X.stack := by
  rcases I.ok.stk with e | ⟨e, hf⟩
  · rw [e]; exact I.funs
  · rw [e]
    obtain ⟨m, hn, _⟩ := I.loc
    refine .cons (by rw [I.ok.kind]; decide) hf hn ?_ I.funs
    exact Heap.get?_none_of_le (Nat.le_trans I.ok.bsz I.ok.above)
theorem Inv.stkSub (I : Inv X pins σ H s) : ∀ b ∈ frs X.stack, b ∈ X.env.locals :: X.fs := fun b hb => by
  rcases I.ok.stk with e | ⟨e, hf⟩
  · rw [e] at hb; exact List.mem_cons_of_mem _ hb
  · rw [e] at hb
    unfold frs at hb
    rw [List.filterMap_cons, hf] at hb
    exact hb
theorem Inv.stkFree (I : Inv X pins σ H s) : ∀ b ∈ frs X.stack, H b = none := fun b hb => by
  rcases List.mem_cons.mp (I.stkSub b hb) with e | hb
  · rw [e]; exact I.free
  · obtain ⟨_, o, ho, _⟩ := I.ok.funs.mem hb
    exact I.base.free b o ho (I.ok.frf b hb) fun z => I.ok.exfs b z hb

/-- THE STEP: the untracked objects but the frame and the records at ch are kept (the callers' frames up to slots), the frame's map is kept, the new abstract heap is held -/
theorem Inv.step {g' : Array GenState} {t' : Nat} {d' : Drawn} {ch : List Addr} (I : Inv X pins σ H s)
    (hch : ∀ b ∈ ch, (b ∈ X.ex ∨ X.s₀.heap.objs.size ≤ b) ∧ b ≠ X.env.locals ∧ (∀ x c, X.env.cells.lookup x = some c → c ≠ b) ∧ ∀ p ∈ X.pn ++ pins, p.1 ≠ b)
    (keep : ∀ b o, b ≠ X.env.locals → b ∉ X.fs → b ∉ ch → s.heap.get? b = some o → H b = none → h'.get? b = some o)
    (slot : ∀ b o, b ≠ X.env.locals → b ∈ X.fs → b ∉ ch → s.heap.get? b = some o → H b = none → ∃ sl, h'.get? b = some { o with slots := sl }) (free : ∀ b o, b ∉ ch → s.heap.get? b = some o → H b = none → H' b = none)
    (there : ∀ b o, b ∉ ch → s.heap.get? b = some o → ∃ o', h'.get? b = some o')
    (tups : ∀ b xs, H b = some (.tup xs) → H' b = some (.tup xs)) (frzs : ∀ b o u, H b = some (.frz o u) → H' b = some (.frz o u)) (tbls : ∀ b ps, H b = some (.tbl ps) → ∃ more, H' b = some (.tbl (ps ++ more)))
    (ns : ∀ m, s.heap.Ns X.env.locals m → h'.Ns X.env.locals m) (hok : HOk X.prog X.w H' h') (hg : AllBare g') :
    Inv X pins σ H' { s with heap := h', gens := g', drawn := d', toks := t' } := by
  have neL : ∀ b o, X.s₀.heap.get? b = some o → b ≠ X.env.locals := fun b o e => Nat.ne_of_lt (Nat.lt_of_lt_of_le (Heap.lt_size e) I.ok.above)
  have neC : ∀ b o, X.s₀.heap.get? b = some o → b ∉ X.ex → b ∉ ch := fun b o e hx hb => by
    rcases (hch b hb).1 with z | z
    · exact hx z
    · exact absurd (Nat.lt_of_lt_of_le (Heap.lt_size e) z) (Nat.lt_irrefl _)
  have cellK : ∀ x c, X.env.cells.lookup x = some c → ∀ v, s.heap.IsCell c v → h'.IsCell c v := fun x c e v ⟨o, ho, hd⟩ => by
    have nch : c ∉ ch := fun z => (hch c z).2.2.1 x c e rfl
    by_cases hc : c ∈ X.fs
    · obtain ⟨sl, q⟩ := slot c o (I.cne x c e) hc nch ho (I.freeC x c e)
      exact ⟨_, q, hd⟩
    · exact ⟨o, keep c o (I.cne x c e) hc nch ho (I.freeC x c e), hd⟩
  refine ⟨I.ok, I.os, hg, ⟨fun b o e n hb hx => ?_, fun b o e n hb hx => ?_, fun b o e n hx => ?_, fun b o e hx => ?_, fun b xs e => tups b xs (I.base.tups b xs e), fun b o xs e => frzs b o xs (I.base.frzs b o xs e), fun b ps e => ?_⟩, ?_, fun x c e => ?_, ?_, fun x c e => ?_, fun p hp => ?_, hok, I.len⟩
  · exact keep b o (neL b o e) hb (neC b o e hx) (I.base.keep b o e n hb hx) (I.base.free b o e n hx)
  · obtain ⟨sl, e1⟩ := I.base.slot b o e n hb hx
    obtain ⟨sl', e2⟩ := slot b _ (neL b o e) hb (neC b o e hx) e1 (I.base.free b o e n hx)
    exact ⟨sl', e2⟩
  · obtain ⟨o', e1⟩ := I.base.there b o e hx
    exact free b o' (neC b o e hx) e1 (I.base.free b o e n hx)
  · obtain ⟨o', e1⟩ := I.base.there b o e hx
    exact there b o' (neC b o e hx) e1
  · obtain ⟨m1, e1⟩ := I.base.tbls b ps e
    obtain ⟨m2, e2⟩ := tbls b _ e1
    exact ⟨m1 ++ m2, by rw [e2, Array.append_assoc]⟩
  · obtain ⟨m, hn, hl⟩ := I.loc
    refine ⟨m, ns m hn, fun i x v e1 e2 e3 => ?_⟩
    obtain ⟨u, r, l⟩ := hl i x v e1 e2 e3
    refine ⟨u, r, ?_⟩
    rcases l with l | ⟨k, c, e, z⟩
    · exact .inl l
    · exact .inr ⟨k, c, e, cellK x c e _ z⟩
  · obtain ⟨v, z⟩ := I.cell x c e
    exact ⟨v, cellK x c e v z⟩
  · obtain ⟨m, ⟨o, _, _, ho, _⟩, _⟩ := I.loc
    exact free _ o (fun z => (hch _ z).2.1 rfl) ho I.free
  · obtain ⟨v, o, ho, hd⟩ := I.cell x c e
    exact free c o (fun z => (hch c z).2.2.1 x c e rfl) ho (I.freeC x c e)
  · obtain ⟨e, n, ne, nf, d⟩ := I.pin p hp
    have nch : p.1 ∉ ch := fun z => (hch p.1 z).2.2.2 p hp rfl
    exact ⟨keep p.1 p.2 ne nf nch e n, free p.1 p.2 nch e n, ne, nf, d⟩
/-- .. where the frame's own object is kept too -/
theorem Inv.un {t' : Nat} (I : Inv X pins σ H s) (u : Un X.fs [] H H' s.heap h') (hok : HOk X.prog X.w H' h') : Inv X pins σ H' { s with heap := h', toks := t' } := by
  obtain ⟨m, ⟨o, es, ep, ho, r⟩, _⟩ := id I.loc
  obtain ⟨sl, hL⟩ := u.any ho I.free (by simp)
  exact I.step (g' := s.gens) (d' := s.drawn) (ch := []) (fun _ z => nomatch z) (fun b o _ hb _ e n => u.keep b o e n hb (by simp)) (fun b o _ hb _ e n => u.slot b o e n hb (by simp)) (fun b o _ e n => u.free b o e n (by simp)) (fun b o _ e => u.there b o e (by simp)) u.tups u.frzs u.tbls (fun m' hm => by
    obtain ⟨o', es', ep', ho', r'⟩ := hm
    rw [ho] at ho'; cases ho'
    exact ⟨_, es', ep', hL, r'⟩) hok I.bare
/-- behind a call (or a comprehension's block): the slots of this frame may have changed too, the records at ch may have turned -/
theorem Inv.call {g' : Array GenState} {t' : Nat} {d' : Drawn} {ch : List Addr} (I : Inv X pins σ H s) (u : Un (frs X.stack) ch H H' s.heap h') (hok : HOk X.prog X.w H' h') (hg : AllBare g')
    (hch : ∀ b ∈ ch, (b ∈ X.ex ∨ X.s₀.heap.objs.size ≤ b) ∧ b ≠ X.env.locals ∧ (∀ x c, X.env.cells.lookup x = some c → c ≠ b) ∧ ∀ p ∈ X.pn ++ pins, p.1 ≠ b) :
    Inv X pins σ H' { s with heap := h', gens := g', drawn := d', toks := t' } := by
  obtain ⟨m, ⟨o, es, ep, ho, r⟩, _⟩ := id I.loc
  obtain ⟨sl, hL⟩ := u.any ho I.free fun z => (hch _ z).2.1 rfl
  exact I.step (ch := ch) hch (fun b o hL hb hc e n => u.keep b o e n (fun z => (List.mem_cons.mp (I.stkSub b z)).elim hL hb) hc) (fun b o _ _ hc e n => u.any e n hc) (fun b o hc e n => u.free b o e n hc) (fun b o hc e => u.there b o e hc) u.tups u.frzs u.tbls (fun m' hm => by
    obtain ⟨o', es', ep', ho', r'⟩ := hm
    rw [ho] at ho'; cases ho'
    exact ⟨_, es', ep', hL, r'⟩) hok hg
/-- an untracked record of ours (an iterator) has turned -/
theorem Inv.turned {t' : Nat} {it : Addr} (I : Inv X pins σ H s) (k : ∀ b o, b ≠ it → s.heap.get? b = some o → h'.get? b = some o) (hn : H it = none) (hL : it ≠ X.env.locals)
    (h1 : it ∈ X.ex ∨ X.s₀.heap.objs.size ≤ it) (h2 : ∀ x c, X.env.cells.lookup x = some c → c ≠ it) (h3 : ∀ p ∈ X.pn ++ pins, p.1 ≠ it) : Inv X pins σ H { s with heap := h', toks := t' } := by
  have nit : ∀ b u, H b = some u → b ≠ it := fun b u e z => by rw [z, hn] at e; cases e
  refine I.step (g' := s.gens) (d' := s.drawn) (ch := [it]) (fun b hb => ?_) (fun b o _ _ hc e _ => k b o (fun z => hc (by simp [z])) e) (fun b o _ _ hc e _ => ⟨o.slots, k b o (fun z => hc (by simp [z])) e⟩) (fun _ _ _ _ n => n)
    (fun b o hc e => ⟨o, k b o (fun z => hc (by simp [z])) e⟩) (fun _ _ e => e) (fun _ _ _ e => e) (fun b ps e => ⟨#[], by rw [e]; simp⟩) (fun m hm => ?_) (fun b u e => ?_) I.bare
  · have e : b = it := by simpa using hb
    subst e
    exact ⟨h1, hL, h2, h3⟩
  · obtain ⟨o, es, ep, ho, r⟩ := hm
    exact ⟨o, es, ep, k _ o (Ne.symm hL) ho, r⟩
  · refine (I.hok b u e).stay (fun c v hc q => k c v ?_ q) (fun _ q => q) fun _ _ q => q
    rcases hc with z | z
    · rw [z]; exact nit b u e
    · exact nit c _ z
theorem Inv.tok (I : Inv X pins σ H s) (t : Nat) : Inv X pins σ H { s with toks := t } := I.un (h' := s.heap) (t' := t) Un.refl I.hok
/-- all objects kept -/
theorem Inv.kept {t' : Nat} (I : Inv X pins σ H s) (k : ∀ b u, s.heap.get? b = some u → h'.get? b = some u) : Inv X pins σ H { s with heap := h', toks := t' } := I.un (Un.kept k) (I.hok.kept k)
/-- a new object laid and tracked -/
theorem Inv.laid {a : Addr} {o : HO} {t' : Nat} (I : Inv X pins σ H s) (k : ∀ b u, s.heap.get? b = some u → h'.get? b = some u) (hp : s.heap.objs.size ≤ a) (new : ObjOk X.prog X.w (upd H a o) h' a o) :
    Inv X pins σ (upd H a o) { s with heap := h', toks := t' } := I.un (Un.laid k hp (I.hok.fresh hp)) (I.hok.laid k hp new)
/-- an object written -/
theorem Inv.write {x e : Addr} {o : HO} {t' : Nat} (I : Inv X pins σ H s) (mu : Mut (H x)) (he : e = x ∨ H e = some (.own x)) (k : ∀ b u, b ≠ e → s.heap.get? b = some u → h'.get? b = some u) (heo : ∃ u, h'.get? e = some u)
    (new : ObjOk X.prog X.w (upd H x o) h' x o) : Inv X pins σ (upd H x o) { s with heap := h', toks := t' } := I.un (Un.write mu he k heo) (I.hok.write mu he k heo new)
/-- forgetting slots, pins -/
theorem Inv.weak {σ' : List (Option V)} (I : Inv X pins σ H s) (hl : σ'.length = σ.length) (w : ∀ (i : Nat) v, σ'[i]? = some (some v) → σ[i]? = some (some v)) : Inv X pins σ' H s :=
  ⟨I.ok, I.os, I.bare, I.base, let ⟨m, hn, hl'⟩ := I.loc; ⟨m, hn, fun i x v e1 e2 e3 => hl' i x v e1 (w i v e2) e3⟩, I.cell, I.free, I.freeC, I.pin, I.hok, hl.trans I.len⟩
theorem Inv.pins_of {pins' : List (Addr × Obj)} (I : Inv X pins σ H s) (h : ∀ p ∈ pins', s.heap.get? p.1 = some p.2 ∧ H p.1 = none ∧ p.1 ≠ X.env.locals ∧ p.1 ∉ X.fs ∧ ∀ v, p.2.data ≠ .cell v) : Inv X pins' σ H s :=
  ⟨I.ok, I.os, I.bare, I.base, I.loc, I.cell, I.free, I.freeC, fun p hp => (List.mem_append.mp hp).elim (fun z => I.pin p (List.mem_append_left _ z)) (h p), I.hok, I.len⟩

theorem nodup_ix {N : List Str} (hN : N.Nodup) {i j : Nat} {x : Str} (a : N[i]? = some x) (b : N[j]? = some x) : i = j := by
  obtain ⟨h1, e1⟩ := List.getElem?_eq_some_iff.mp a
  obtain ⟨h2, e2⟩ := List.getElem?_eq_some_iff.mp b
  exact (List.getElem_inj hN).mp (e1.trans e2.symm)

/-- a name is stored; what changed -/
theorem store_ok2 {M : Model} {A : Around} {E : Value → Shared → Prop} {i : Nat} {x : Str} {v : V} {u : Value} {Q : Unit → Shared → Prop} (I : Inv X pins σ H s) (hN : X.N.Nodup) (hi : X.N[i]? = some x) (hx : Loc X.env.scope x) (r : RelV v u)
    (h : ∀ s', Inv X pins (σ.set i (some v)) H s' → (∃ a, Heap.SameBut a s.heap s'.heap ∧ (a = X.env.locals ∨ X.env.cells.lookup x = some a)) → Q () s') (hf : X.fn x = true ∨ X.env.scope.names.lookup x = some .local := by first | exact .inl rfl | exact .inr rfl | assumption) : wpAny M A (storeName X.env x u) Q E s := by
  obtain ⟨m, hn, hl⟩ := id I.loc
  have hcls : (X.env.scope.kind == .class || (X.env.scope.kind == .module && X.env.locals != X.env.globals)) = false := by rw [I.ok.kind]; rfl
  have hiσ : i < σ.length := by rw [I.len]; exact (List.getElem?_eq_some_iff.mp hi).1
  have cne := I.cne
  have tracked : ∀ {a : Addr} {h' : Heap}, (∃ o, s.heap.get? a = some o ∧ H a = none) → Heap.SameBut a s.heap h' → HOk X.prog X.w H h' := fun {a h'} ha hs b ob e => by
    obtain ⟨_, _, hfree⟩ := ha
    refine (I.hok b ob e).stay (fun c w' hc q => (hs.2 c ?_).trans q) (fun _ q => q) fun _ _ q => q
    rintro rfl
    rcases hc with rfl | hc
    · rw [hfree] at e; cases e
    · rw [hfree] at hc; cases hc
  rcases hx with hk | hk
  · refine wpAny_storeName_local hk hn (fun h' hn' hs => ?_) hcls
    obtain ⟨oL, _, _, hoL, _⟩ := id hn
    refine h _ ⟨I.ok, I.os, I.bare, ⟨fun b o e n hb hx => ?_, fun b o e n hb hx => ?_, I.base.free, fun b o e hx => ?_, I.base.tups, I.base.frzs, I.base.tbls⟩, ⟨_, hn', fun j y v' e1 e2 e3 => ?_⟩, fun y c e => ?_, I.free, I.freeC, fun p hp => ?_, tracked ⟨oL, hoL, I.free⟩ hs, by simpa using I.len⟩ ⟨_, hs, .inl rfl⟩
    · exact (hs.2 b (Nat.ne_of_lt (Nat.lt_of_lt_of_le (Heap.lt_size e) I.ok.above))).trans (I.base.keep b o e n hb hx)
    · obtain ⟨sl, e1⟩ := I.base.slot b o e n hb hx
      exact ⟨sl, (hs.2 b (Nat.ne_of_lt (Nat.lt_of_lt_of_le (Heap.lt_size e) I.ok.above))).trans e1⟩
    · obtain ⟨o', e1⟩ := I.base.there b o e hx
      exact ⟨o', (hs.2 b (Nat.ne_of_lt (Nat.lt_of_lt_of_le (Heap.lt_size e) I.ok.above))).trans e1⟩
    · by_cases hj : j = i
      · subst hj
        rw [hi] at e1; cases e1
        rw [List.getElem?_set_self hiσ] at e2
        cases e2
        exact ⟨u, r, .inl ⟨hk, by simp⟩⟩
      · rw [List.getElem?_set_ne (Ne.symm hj)] at e2
        obtain ⟨u', r', q⟩ := hl j y v' e1 e2 e3
        refine ⟨u', r', ?_⟩
        rcases q with ⟨k, e⟩ | ⟨k, c, e, z⟩
        · refine .inl ⟨k, ?_⟩
          have : y ≠ x := fun e => hj (nodup_ix hN e1 (e ▸ hi))
          simp [this, e]
        · exact .inr ⟨k, c, e, z.sameBut hs (cne y c e)⟩
    · obtain ⟨w', z⟩ := I.cell y c e
      exact ⟨w', z.sameBut hs (cne y c e)⟩
    · obtain ⟨e, n, ne, nf, d⟩ := I.pin p hp
      exact ⟨(hs.2 p.1 ne).trans e, n, ne, nf, d⟩
  · have hfn : X.fn x = true := by
      rcases hf with z | z
      · exact z
      · rw [z] at hk; cases hk
    obtain ⟨c, hc⟩ := I.ok.has x (.inl hk)
    obtain ⟨w', z⟩ := I.cell x c hc
    refine wpAny_storeName_cell I.ok.kind hk hc z (fun h' hc' hs => ?_)
    obtain ⟨oc, hoc, hocd⟩ := id z
    refine h { s with heap := h' } ⟨I.ok, I.os, I.bare, ⟨fun b o e n hb hx => ?_, fun b o e n hb hx => ?_, I.base.free, fun b o e hx => ?_, I.base.tups, I.base.frzs, I.base.tbls⟩, ⟨m, hn.sameBut hs (Ne.symm (cne x c hc)), fun j y v' e1 e2 e3 => ?_⟩, fun y c' e => ?_, I.free, I.freeC, fun p hp => ?_, tracked ⟨oc, hoc, I.freeC x c hc⟩ hs, by simpa using I.len⟩ ⟨c, hs, .inr hc⟩
    · exact (hs.2 b (Nat.ne_of_lt (Nat.lt_of_lt_of_le (Heap.lt_size e) (I.ok.cab x c hfn hc)))).trans (I.base.keep b o e n hb hx)
    · obtain ⟨sl, e1⟩ := I.base.slot b o e n hb hx
      exact ⟨sl, (hs.2 b (Nat.ne_of_lt (Nat.lt_of_lt_of_le (Heap.lt_size e) (I.ok.cab x c hfn hc)))).trans e1⟩
    · obtain ⟨o', e1⟩ := I.base.there b o e hx
      exact ⟨o', (hs.2 b (Nat.ne_of_lt (Nat.lt_of_lt_of_le (Heap.lt_size e) (I.ok.cab x c hfn hc)))).trans e1⟩
    · by_cases hj : j = i
      · subst hj
        rw [hi] at e1; cases e1
        rw [List.getElem?_set_self hiσ] at e2
        cases e2
        exact ⟨u, r, .inr ⟨.inl hk, c, hc, hc'⟩⟩
      · rw [List.getElem?_set_ne (Ne.symm hj)] at e2
        obtain ⟨u', r', q⟩ := hl j y v' e1 e2 e3
        refine ⟨u', r', ?_⟩
        rcases q with q | ⟨k, c', e, z'⟩
        · exact .inl q
        · refine .inr ⟨k, c', e, z'.sameBut hs ?_⟩
          rintro rfl
          exact hj (nodup_ix hN e1 (I.ok.inj _ _ _ e hc ▸ hi))
    · by_cases hcc : c' = c
      · subst hcc; exact ⟨_, hc'⟩
      · obtain ⟨w2, z2⟩ := I.cell y c' e
        exact ⟨w2, z2.sameBut hs hcc⟩
    · obtain ⟨e, n, ne, nf, d⟩ := I.pin p hp
      refine ⟨(hs.2 p.1 ?_).trans e, n, ne, nf, d⟩
      intro q
      rw [q, hoc] at e
      have q' : oc = p.2 := Option.some.inj e
      exact d w' (by rw [← q']; exact hocd)
theorem store_ok {M : Model} {A : Around} {E : Value → Shared → Prop} {i : Nat} {x : Str} {v : V} {u : Value} {Q : Unit → Shared → Prop} (I : Inv X pins σ H s) (hN : X.N.Nodup) (hi : X.N[i]? = some x) (hx : Loc X.env.scope x) (r : RelV v u)
    (h : ∀ s', Inv X pins (σ.set i (some v)) H s' → Q () s') (hf : X.fn x = true ∨ X.env.scope.names.lookup x = some .local := by first | exact .inl rfl | exact .inr rfl | assumption) : wpAny M A (storeName X.env x u) Q E s :=
  store_ok2 I hN hi hx r (fun s' I' _ => h s' I') hf
/-- behind a call or a block, the state as it is -/
theorem Inv.call' {s' : Shared} {ch : List Addr} (I : Inv X pins σ H s) (ho : s'.os = s.os) (u : Un (frs X.stack) ch H H' s.heap s'.heap) (hok : HOk X.prog X.w H' s'.heap) (hg : AllBare s'.gens)
    (hch : ∀ b ∈ ch, (b ∈ X.ex ∨ X.s₀.heap.objs.size ≤ b) ∧ b ≠ X.env.locals ∧ (∀ x c, X.env.cells.lookup x = some c → c ≠ b) ∧ ∀ p ∈ X.pn ++ pins, p.1 ≠ b) : Inv X pins σ H' s' := by
  obtain ⟨h', g', d', t', o'⟩ := s'
  have e : o' = s.os := ho
  subst e
  exact I.call (g' := g') (t' := t') (d' := d') u hok hg hch
end

/-! ### the judgements -/
/-- an exception: its class, its own dict's address (where it has one), the abstract heap behind it -/
abbrev XK := Value → Option Addr → Hp → Prop
abbrev St := List (Option V)
abbrev VK := V → Hp → Prop
/-- an expression's reading; a test's; an argument list's -/
abbrev TE := St → Hp → VK → Prop
abbrev TT := St → Hp → (Bool → Hp → Prop) → Prop
abbrev TA := St → Hp → (List V → Hp → Prop) → Prop
/-- what is wanted behind a statement -/
structure Ends where
  nx : St → Hp → Prop
  rt : VK
  bk : St → Hp → Prop := fun _ _ => False
  ct : St → Hp → Prop := fun _ _ => False
abbrev TS := Ends → St → Hp → Prop

def EP (X : Cx) (pins : List (Addr × Obj)) (σ : St) (Q : VK) (u : Value) (s' : Shared) : Prop := ∃ v H', Inv X pins σ H' s' ∧ RelV v u ∧ Q v H'
def TP (X : Cx) (pins : List (Addr × Obj)) (σ : St) (Q : Bool → Hp → Prop) (b : Bool) (s' : Shared) : Prop := ∃ H', Inv X pins σ H' s' ∧ Q b H'
def AP (X : Cx) (pins : List (Addr × Obj)) (σ : St) (Q : List V → Hp → Prop) (us : List Value) (s' : Shared) : Prop := ∃ vs H', Inv X pins σ H' s' ∧ Vals vs us ∧ Q vs H'
def SP (X : Cx) (pins : List (Addr × Obj)) (D : Ends) (f : Flow) (s' : Shared) : Prop :=
  match f with
  | .next => ∃ σ' H', Inv X pins σ' H' s' ∧ D.nx σ' H'
  | .brk => ∃ σ' H', Inv X pins σ' H' s' ∧ D.bk σ' H'
  | .cont => ∃ σ' H', Inv X pins σ' H' s' ∧ D.ct σ' H'
  | .ret u => ∃ v σ' H', Inv X pins σ' H' s' ∧ RelV v u ∧ D.rt v H'

def PE (X : Cx) (e : Expr) (t : TE) : Prop :=
  ∀ (pins : List (Addr × Obj)) (s : Shared) (σ : St) (H : Hp) (Q : VK), Inv X pins σ H s → t σ H Q → wpAny (model X.prog X.w) X.A (eval e X.env) (EP X pins σ Q) X.xe s
def PT (X : Cx) (e : Expr) (t : TT) : Prop :=
  ∀ (pins : List (Addr × Obj)) (s : Shared) (σ : St) (H : Hp) (Q : Bool → Hp → Prop), Inv X pins σ H s → t σ H Q → wpAny (model X.prog X.w) X.A (isTrue e X.env (eval e X.env)) (TP X pins σ Q) X.xe s
/-- a test whatever its 'whole' is (and, or) -/
def PW (X : Cx) (e : Expr) (t : TT) : Prop :=
  ∀ (whole : Sem Value) (pins : List (Addr × Obj)) (s : Shared) (σ : St) (H : Hp) (Q : Bool → Hp → Prop), Inv X pins σ H s → t σ H Q → wpAny (model X.prog X.w) X.A (isTrue e X.env whole) (TP X pins σ Q) X.xe s
theorem PW.pt {X : Cx} {e : Expr} {t : TT} (h : PW X e t) : PT X e t := h _
/-- an argument list (no star), from the left -/
def PA (X : Cx) (es : List Expr) (t : TA) : Prop :=
  ∀ (pos : Pos) (pins : List (Addr × Obj)) (s : Shared) (σ : St) (H : Hp) (Q : List V → Hp → Prop), Inv X pins σ H s → t σ H Q → wpAny (model X.prog X.w) X.A (spliced (backTo pos (starEach es X.env))) (AP X pins σ Q) X.xe s
def PS (X : Cx) (st : Stmt) (t : TS) : Prop :=
  ∀ (pins : List (Addr × Obj)) (s : Shared) (σ : St) (H : Hp) (D : Ends), Inv X pins σ H s → t D σ H → wpAny (model X.prog X.w) X.A (exec st X.env) (SP X pins D) X.xe s
def PSs (X : Cx) (st : List Stmt) (t : TS) : Prop :=
  ∀ (pins : List (Addr × Obj)) (s : Shared) (σ : St) (H : Hp) (D : Ends), Inv X pins σ H s → t D σ H → wpAny (model X.prog X.w) X.A (execs st X.env) (SP X pins D) X.xe s
/-- weaken the end -/
theorem thn {α : Type} {t : Sem α} {Q Q' : α → Shared → Prop} {M : Model} {A : Around} {E : Value → Shared → Prop} {s : Shared} (h : wpAny M A t Q E s) (hQ : ∀ a s, Q a s → Q' a s) : wpAny M A t Q' E s := wpAny_mono h hQ fun _ _ x => x
end L2

namespace L2
open PySem PySem.Spec PyProof.Rows
section
variable {X : Cx}

/-- two expressions in a row -/
theorem bin {a b : Expr} {ta tb : TE} (ha : PE X a ta) (hb : PE X b tb) {pins : List (Addr × Obj)} {s : Shared} {σ : St} {H : Hp} {R : V → V → Hp → Prop} (I : Inv X pins σ H s) (h : ta σ H fun x H1 => tb σ H1 fun y H2 => R x y H2)
    {α : Type} {Q : α → Shared → Prop} {f : Value → Value → Sem α}
    (hf : ∀ v u s2 x y H2, Inv X pins σ H2 s2 → RelV x v → RelV y u → R x y H2 → wpAny (model X.prog X.w) X.A (f v u) Q X.xe s2) :
    wpAny (model X.prog X.w) X.A (eval a X.env) (fun v s₁ => wpAny (model X.prog X.w) X.A (eval b X.env) (fun u s₂ => wpAny (model X.prog X.w) X.A (f v u) Q X.xe s₂) X.xe s₁) X.xe s := by
  refine thn (ha pins s σ H _ I h) fun v s1 ⟨x, H1, I1, r1, q1⟩ => ?_
  refine thn (hb pins s1 σ H1 _ I1 q1) fun u s2 ⟨y, H2, I2, r2, q2⟩ => ?_
  exact hf v u s2 x y H2 I2 r1 r2 q2

/-! ### names and constants -/
def tVar (i : Nat) : TE := fun σ H Q => ∃ v, σ[i]? = some (some v) ∧ Q v H
def tC (v : V) : TE := fun _ H Q => Q v H
theorem pe_var {i : Nat} {x : Str} {pos : Pos} (hN : X.N[i]? = some x) (hv : Vis X.env.scope x) (hd : (x == ("__debug__" : Str)) = false := by decide) (hcd : (x == ("__classdict__" : Str)) = false := by decide) : PE X (.Name x pos) (tVar i) := by
  intro pins s σ H Q I h
  obtain ⟨v, e, h⟩ := h
  obtain ⟨m, hn, hl⟩ := I.loc
  obtain ⟨u, r, l⟩ := hl i x v hN e hv
  have fin : EP X pins σ Q u s := ⟨v, H, I, r, h⟩
  rcases l with ⟨hk, hm⟩ | ⟨hk, c, hc, hcell⟩
  · exact wpAny_Name (wpAny_loadName_local I.ok.kind hk hn hm fin) hd
  · rcases hk with hk | hk
    · exact wpAny_Name (wpAny_loadName_cell I.ok.kind hk hc hcell fin) hd
    · exact wpAny_Name (wpAny_loadName_free I.ok.kind hk hc hcell fin hcd) hd
theorem pe_int {i j pos} : PE X (.Constant (.int i) j pos) (tC (.int i)) := fun _ _ _ H _ I h => wpAny_Constant_int ⟨.int i, H, I.tok _, ⟨_, rfl⟩, h⟩
theorem pe_bl {b j pos} : PE X (.Constant (.bool b) j pos) (tC (.bl b)) := fun _ _ _ H _ I h => Constant_bool ⟨.bl b, H, I, rfl, h⟩
theorem pe_non {j pos} : PE X (.Constant .none j pos) (tC .non) := fun _ _ _ H _ I h => Constant_none ⟨.non, H, I, rfl, h⟩
theorem pe_str {x j pos} : PE X (.Constant (.str x) j pos) (tC (.str x)) := fun _ _ _ H _ I h => Calls.Constant_str ⟨.str x, H, I.tok _, ⟨_, rfl⟩, h⟩

/-- a global name of the def -/
def Gl (X : Cx) (x : Str) : Prop := X.env.kindOf x = some .globalImplicit
theorem ld_glob {E : Value → Shared → Prop} {pins : List (Addr × Obj)} {s : Shared} {σ : St} {H : Hp} {x : Str} {u : Value} {pos : Pos} {Q : Value → Shared → Prop} (I : Inv X pins σ H s) (hg : Gl X x) (hm : X.mg x = some u) (h : Q u s)
    (hd : (x == ("__debug__" : Str)) = false := by decide) : wpAny (model X.prog X.w) X.A (eval (.Name x pos) X.env) Q E s :=
  Calls.Name_function_global I.ok.kind hg (Calls.loadGlobal_global (by rw [I.ok.glob]; exact I.mod.glob.keeps I.bk) hm h) hd
theorem ld_blt {E : Value → Shared → Prop} {pins : List (Addr × Obj)} {s : Shared} {σ : St} {H : Hp} {x : Str} {u : Value} {pos : Pos} {Q : Value → Shared → Prop} (I : Inv X pins σ H s) (hg : Gl X x) (hm : X.mg x = none) (hv : bootBuiltins x = some u) (h : Q u s)
    (hn : x ≠ "__name__" := by decide) (hd : (x == ("__debug__" : Str)) = false := by decide) : wpAny (model X.prog X.w) X.A (eval (.Name x pos) X.env) Q E s := by
  obtain ⟨mb, h1, h2⟩ := I.mod.blt
  exact Calls.Name_function_global I.ok.kind hg (Calls.loadGlobal_builtin (by rw [I.ok.glob]; exact I.mod.glob.keeps I.bk) hm (by rw [I.ok.blt]; exact h1.keeps I.bk) ((h2 x hn).trans hv) h) hd
/-- a module's constant, a class, a function, as a value -/
theorem pe_glob {x : Str} {v : V} {u : Value} {pos : Pos} (hg : Gl X x) (hm : X.mg x = some u) (r : RelV v u) (hd : (x == ("__debug__" : Str)) = false := by decide) : PE X (.Name x pos) (tC v) :=
  fun _ _ _ H _ I h => ld_glob I hg hm ⟨v, H, I, r, h⟩ hd
theorem pe_bltn {x : Str} {v : V} {u : Value} {pos : Pos} (hg : Gl X x) (hm : X.mg x = none) (hv : bootBuiltins x = some u) (r : RelV v u) (hn : x ≠ "__name__" := by decide) (hd : (x == ("__debug__" : Str)) = false := by decide) : PE X (.Name x pos) (tC v) :=
  fun _ _ _ H _ I h => ld_blt I hg hm hv ⟨v, H, I, r, h⟩ hn hd

/-! ### arithmetic -/
/-- two ints -/
def t2I (ta tb : TE) (k : Int → Int → Hp → Prop) : St → Hp → Prop := fun σ H => ta σ H fun x H1 => tb σ H1 fun y H2 => ∃ i j, x = .int i ∧ y = .int j ∧ k i j H2
def tAdd (ta tb : TE) : TE := fun σ H Q => t2I ta tb (fun i j H2 => Q (.int (i + j)) H2) σ H
def tSub (ta tb : TE) : TE := fun σ H Q => t2I ta tb (fun i j H2 => Q (.int (i - j)) H2) σ H
/-- the left factor below 2^64 -/
def tMul (ta tb : TE) : TE := fun σ H Q => t2I ta tb (fun i j H2 => (-(2 ^ 64) < i ∧ i < 2 ^ 64) ∧ Q (.int (i * j)) H2) σ H
variable {a b : Expr} {ta tb : TE} {pos : Pos}
theorem pe_add (ha : PE X a ta) (hb : PE X b tb) : PE X (.BinOp a .Add b pos) (tAdd ta tb) := by
  intro pins s σ H Q I h
  refine wpAny_BinOp (bin ha hb I h fun v u s2 x y H2 I2 rx ry q => ?_)
  obtain ⟨i, j, rfl, rfl, q⟩ := q
  obtain ⟨t, rfl⟩ := rx
  obtain ⟨t', rfl⟩ := ry
  exact add_int ⟨.int _, H2, I2.tok _, ⟨_, rfl⟩, q⟩
theorem pe_sub (ha : PE X a ta) (hb : PE X b tb) : PE X (.BinOp a .Sub b pos) (tSub ta tb) := by
  intro pins s σ H Q I h
  refine wpAny_BinOp (bin ha hb I h fun v u s2 x y H2 I2 rx ry q => ?_)
  obtain ⟨i, j, rfl, rfl, q⟩ := q
  obtain ⟨t, rfl⟩ := rx
  obtain ⟨t', rfl⟩ := ry
  exact sub_int ⟨.int _, H2, I2.tok _, ⟨_, rfl⟩, q⟩
theorem pe_mul (ha : PE X a ta) (hb : PE X b tb) : PE X (.BinOp a .Mult b pos) (tMul ta tb) := by
  intro pins s σ H Q I h
  refine wpAny_BinOp (bin ha hb I h fun v u s2 x y H2 I2 rx ry q => ?_)
  obtain ⟨i, j, rfl, rfl, ⟨q1, q2⟩, q⟩ := q
  obtain ⟨t, rfl⟩ := rx
  obtain ⟨t', rfl⟩ := ry
  exact mul_int ⟨.int _, H2, I2.tok _, ⟨_, rfl⟩, q⟩ (.of_left (intBits_le_64 q1 q2))

/-! ### comparisons -/
def PC (X : Cx) (op : CmpOp) (a b : Expr) (t : TE) : Prop :=
  ∀ (pins : List (Addr × Obj)) (s : Shared) (σ : St) (H : Hp) (Q : VK), Inv X pins σ H s → t σ H Q →
    wpAny (model X.prog X.w) X.A (eval a X.env) (fun v s₁ => wpAny (model X.prog X.w) X.A (eval b X.env) (fun u s₂ => wpAny (model X.prog X.w) X.A (compareOp op v u) (EP X pins σ Q) X.xe s₂) X.xe s₁) X.xe s
theorem nobehind (b : Expr) {op : CmpOp} (h : op ≠ .In) (h2 : op ≠ .NotIn) : behindInMarks op b = false := by
  have e1 : (op == CmpOp.In) = false := by cases op <;> first | rfl | exact absurd rfl h
  have e2 : (op == CmpOp.NotIn) = false := by cases op <;> first | rfl | exact absurd rfl h2
  cases b <;> simp [behindInMarks, e1, e2]
def tCmp (p : Int → Int → Bool) (ta tb : TE) : TE := fun σ H Q => t2I ta tb (fun i j H2 => Q (.bl (p i j)) H2) σ H
abbrev tLt : TE → TE → TE := tCmp fun i j => decide (i < j)
abbrev tLe : TE → TE → TE := tCmp fun i j => decide (i ≤ j)
abbrev tGt : TE → TE → TE := tCmp fun i j => decide (j < i)
abbrev tGe : TE → TE → TE := tCmp fun i j => decide (j ≤ i)
abbrev tEqI : TE → TE → TE := tCmp fun i j => decide (i = j)
abbrev tNeI : TE → TE → TE := tCmp fun i j => !decide (i = j)
/-- a comparison of two ints, by its rule -/
theorem pc_int {op : CmpOp} {p : Int → Int → Bool} (ha : PE X a ta) (hb : PE X b tb)
    (rule : ∀ (i j : Int) (t u : Tok) (Q : Value → Shared → Prop) (s : Shared), Q (.bool (p i j)) s → wpAny (model X.prog X.w) X.A (compareOp op (.int i t) (.int j u)) Q X.xe s) : PC X op a b (tCmp p ta tb) := by
  intro pins s σ H Q I h
  refine bin ha hb I h fun v u s2 x y H2 I2 rx ry q => ?_
  obtain ⟨i, j, rfl, rfl, q⟩ := q
  obtain ⟨t, rfl⟩ := rx
  obtain ⟨t', rfl⟩ := ry
  exact rule i j t t' _ s2 ⟨.bl _, H2, I2, rfl, q⟩
theorem pc_lt (ha : PE X a ta) (hb : PE X b tb) : PC X .Lt a b (tLt ta tb) := pc_int ha hb fun _ _ _ _ _ _ h => lt_int h
theorem pc_le (ha : PE X a ta) (hb : PE X b tb) : PC X .LtE a b (tLe ta tb) := pc_int ha hb fun _ _ _ _ _ _ h => le_int h
theorem pc_gt (ha : PE X a ta) (hb : PE X b tb) : PC X .Gt a b (tGt ta tb) := pc_int ha hb fun _ _ _ _ _ _ h => gt_int h
theorem pc_ge (ha : PE X a ta) (hb : PE X b tb) : PC X .GtE a b (tGe ta tb) := pc_int ha hb fun _ _ _ _ _ _ h => ge_int h
theorem pc_eqI (ha : PE X a ta) (hb : PE X b tb) : PC X .Eq a b (tEqI ta tb) := pc_int ha hb fun _ _ _ _ _ _ h => eq_int (by rw [Bool.beq_eq_decide_eq]; exact h)
theorem pc_neI (ha : PE X a ta) (hb : PE X b tb) : PC X .NotEq a b (tNeI ta tb) := pc_int ha hb fun _ _ _ _ _ _ h => ne_int (by rw [bne, Bool.beq_eq_decide_eq]; exact h)
/-- is None -/
def tIsN (ta : TE) : TE := fun σ H Q => ta σ H fun x H1 => Q (.bl (decide (x = .non))) H1
def tNotN (ta : TE) : TE := fun σ H Q => ta σ H fun x H1 => Q (.bl (!decide (x = .non))) H1
theorem RelV.none_iff {x : V} {v : Value} (r : RelV x v) : (v == Value.none) = decide (x = .non) := by
  cases x with
  | non => cases r; rfl
  | bl _ => cases r; rfl
  | int _ => obtain ⟨t, rfl⟩ := r; rfl
  | str _ => obtain ⟨t, rfl⟩ := r; rfl
  | byt _ => obtain ⟨t, rfl⟩ := r; rfl
  | flt _ => obtain ⟨t, rfl⟩ := r; rfl
  | ref _ => cases r; rfl
  | ty _ => cases r; rfl
theorem pc_isN {j pos'} (ha : PE X a ta) : PC X .Is a (.Constant .none j pos') (tIsN ta) := by
  intro pins s σ H Q I h
  refine thn (ha pins s σ H _ I h) fun v s1 ⟨x, H1, I1, r1, q1⟩ => ?_
  exact Constant_none (is_none_gen ⟨.bl _, H1, I1, by rw [r1.none_iff]; rfl, q1⟩)
theorem pc_notN {j pos'} (ha : PE X a ta) : PC X .IsNot a (.Constant .none j pos') (tNotN ta) := by
  intro pins s σ H Q I h
  refine thn (ha pins s σ H _ I h) fun v s1 ⟨x, H1, I1, r1, q1⟩ => ?_
  exact Constant_none (isnot_none_gen ⟨.bl _, H1, I1, by rw [r1.none_iff]; rfl, q1⟩)
/-- a comparison as a value, as a test -/
def tB (t : TE) : TT := fun σ H Q => t σ H fun x H1 => ∃ c, x = .bl c ∧ Q c H1
theorem pe_cmp {op : CmpOp} {t : TE} (h : PC X op a b t) (h1 : behindInMarks op b = false := by first | exact nobehind _ (by decide) (by decide) | rfl) : PE X (.Compare a [op] [b] pos) t := fun pins s σ H Q I hw => wpAny_Compare1 (h pins s σ H Q I hw) h1
theorem pt_cmp {op : CmpOp} {t : TE} (h : PC X op a b t) (h1 : behindInMarks op b = false := by first | exact nobehind _ (by decide) (by decide) | rfl) : PT X (.Compare a [op] [b] pos) (tB t) := by
  intro pins s σ H Q I hw
  refine wpAny_isTrue_Compare1 (thn (h pins s σ H _ I hw) fun v s1 h1 => thn h1 fun u s2 h2 => thn h2 fun c s3 ⟨x, H1, I1, r1, q1⟩ => ?_) h1
  obtain ⟨d, rfl, q⟩ := q1
  cases r1
  exact wpAny_truthy_bool ⟨H1, I1, q⟩
/-- an expression whose value is a bool, as a test -/
theorem pt_val {e : Expr} {t : TE} (h : PE X e t) (he : ∀ whole, isTrue e X.env whole = (do let v ← whole; standAt e.pos; holding [v] (truthy v)) := by intro _; rfl) : PT X e (tB t) := by
  intro pins s σ H Q I hw
  refine isTrue_plain (thn (h pins s σ H _ I hw) fun v s1 ⟨x, H1, I1, r1, q1⟩ => ?_) (he _)
  obtain ⟨d, rfl, q⟩ := q1
  cases r1
  exact wpAny_truthy_bool ⟨H1, I1, q⟩

/-! ### and, or, not -/
variable {tA tB' : TT} {rest : List Expr}
def tAnd (t u : TT) : TT := fun σ H Q => t σ H fun c H1 => if c = true then u σ H1 Q else Q false H1
def tOr (t u : TT) : TT := fun σ H Q => t σ H fun c H1 => if c = true then Q true H1 else u σ H1 Q
def tNot (t : TT) : TT := fun σ H Q => t σ H fun c H1 => Q (!c) H1
theorem pw_and1 (ha : PT X a tA) : PW X (.BoolOp .And [a] pos) tA := by
  intro wh pins s σ H Q I h
  refine isTrue_and (thn (ha pins s σ H Q I h) fun c s1 e => ?_)
  cases c with
  | true => exact isTrue_and_nil e
  | false => exact e
theorem pw_or1 (ha : PT X a tA) : PW X (.BoolOp .Or [a] pos) tA := by
  intro wh pins s σ H Q I h
  refine isTrue_or (thn (ha pins s σ H Q I h) fun c s1 e => ?_)
  cases c with
  | false => exact isTrue_or_nil e
  | true => exact e
theorem pw_and (ha : PT X a tA) (hb : PW X (.BoolOp .And (b :: rest) pos) tB') : PW X (.BoolOp .And (a :: b :: rest) pos) (tAnd tA tB') := by
  intro wh pins s σ H Q I h
  refine isTrue_and (thn (ha pins s σ H _ I h) fun c s1 ⟨H1, I1, q1⟩ => ?_)
  cases c with
  | true => exact hb wh pins s1 σ H1 Q I1 q1
  | false => exact ⟨H1, I1, q1⟩
theorem pw_or (ha : PT X a tA) (hb : PW X (.BoolOp .Or (b :: rest) pos) tB') : PW X (.BoolOp .Or (a :: b :: rest) pos) (tOr tA tB') := by
  intro wh pins s σ H Q I h
  refine isTrue_or (thn (ha pins s σ H _ I h) fun c s1 ⟨H1, I1, q1⟩ => ?_)
  cases c with
  | true => exact ⟨H1, I1, q1⟩
  | false => exact hb wh pins s1 σ H1 Q I1 q1
theorem pt_not (ha : PT X a tA) : PT X (.UnaryOp .Not a pos) (tNot tA) := by
  intro pins s σ H Q I h
  exact isTrue_not (ha pins s σ H (fun c H1 => Q (!c) H1) I h)
/-- .. as values (bools) -/
def tAndV (ta tb : TE) : TE := fun σ H Q => ta σ H fun x H1 => ∃ c, x = .bl c ∧ if c = true then tb σ H1 Q else Q (.bl false) H1
def tOrV (ta tb : TE) : TE := fun σ H Q => ta σ H fun x H1 => ∃ c, x = .bl c ∧ if c = true then Q (.bl true) H1 else tb σ H1 Q
def tNotV (ta : TE) : TE := fun σ H Q => ta σ H fun x H1 => ∃ c, x = .bl c ∧ Q (.bl (!c)) H1
theorem pe_one {op} {t : TE} (h : PE X a t) : PE X (.BoolOp op [a] pos) t := fun pins s σ H Q I hw => BoolOp_one (h pins s σ H Q I hw)
theorem pe_and (ha : PE X a ta) (hb : PE X (.BoolOp .And (b :: rest) pos) tb) : PE X (.BoolOp .And (a :: b :: rest) pos) (tAndV ta tb) := by
  intro pins s σ H Q I h
  refine BoolOp_and (thn (ha pins s σ H _ I h) fun v s1 ⟨x, H1, I1, r1, q1⟩ => ?_)
  obtain ⟨c, rfl, q1⟩ := q1
  cases r1
  refine wpAny_truthy_bool ?_
  cases c with
  | true => exact hb pins s1 σ H1 Q I1 q1
  | false => exact ⟨.bl false, H1, I1, rfl, q1⟩
theorem pe_or (ha : PE X a ta) (hb : PE X (.BoolOp .Or (b :: rest) pos) tb) : PE X (.BoolOp .Or (a :: b :: rest) pos) (tOrV ta tb) := by
  intro pins s σ H Q I h
  refine BoolOp_or (thn (ha pins s σ H _ I h) fun v s1 ⟨x, H1, I1, r1, q1⟩ => ?_)
  obtain ⟨c, rfl, q1⟩ := q1
  cases r1
  refine wpAny_truthy_bool ?_
  cases c with
  | false => exact hb pins s1 σ H1 Q I1 q1
  | true => exact ⟨.bl true, H1, I1, rfl, q1⟩
theorem pe_not (ha : PE X a ta) : PE X (.UnaryOp .Not a pos) (tNotV ta) := by
  intro pins s σ H Q I h
  refine UnaryOp_ (thn (ha pins s σ H _ I h) fun v s1 ⟨x, H1, I1, r1, q1⟩ => ?_)
  obtain ⟨c, rfl, q1⟩ := q1
  cases r1
  exact not_of (wpAny_truthy_bool ⟨.bl (!c), H1, I1, rfl, q1⟩)
/-- a if t else b -/
def tIf (t : TT) (ta tb : TE) : TE := fun σ H Q => t σ H fun c H1 => if c = true then ta σ H1 Q else tb σ H1 Q
theorem pe_ifExp {c : Expr} (hc : PT X c tA) (ha : PE X a ta) (hb : PE X b tb) : PE X (.IfExp c a b pos) (tIf tA ta tb) := by
  intro pins s σ H Q I h
  refine wpAny_IfExp (thn (hc pins s σ H _ I h) fun d s1 ⟨H1, I1, q1⟩ => ?_)
  cases d with
  | true => exact ha pins s1 σ H1 Q I1 q1
  | false => exact hb pins s1 σ H1 Q I1 q1
end
end L2

namespace L2
open PySem PySem.Spec PyProof.Rows

/-! ### a list, a tuple that is read: tracked, frozen, or an object of the module -/
def SqL (K : PySem.W.Frag) (H : Hp) (a : Addr) (xs : List V) : Prop :=
  Rd H a (.lst xs) ∨
    ∃ (o : Obj) (its : Array Value) (n : Nat), K.lookup a = some o ∧ o.cls = .type "list" ∧ o.dict = none ∧ o.data = .seq its n ∧ its.size ≤ sizeLine ∧ Vals xs its.toList
def SqT (K : PySem.W.Frag) (H : Hp) (a : Addr) (xs : List V) : Prop :=
  Rd H a (.tup xs) ∨
    ∃ (o : Obj) (its : Array Value) (n : Nat), K.lookup a = some o ∧ o.cls = .type "tuple" ∧ o.data = .seq its n ∧ its.size ≤ sizeLine ∧ Vals xs its.toList
def absV : Value → Option V
  | .none => some .non
  | .bool b => some (.bl b)
  | .int i _ => some (.int i)
  | .str x _ => some (.str x)
  | .bytes b _ => some (.byt b)
  | .float b _ => some (.flt b)
  | .ref a => some (.ref a)
  | .type n => some (.ty n)
  | _ => none
theorem RelV.abs {x : V} {u : Value} (r : RelV x u) : absV u = some x := by
  cases x with
  | non => cases r; rfl
  | bl _ => cases r; rfl
  | int _ => obtain ⟨t, rfl⟩ := r; rfl
  | str _ => obtain ⟨t, rfl⟩ := r; rfl
  | byt _ => obtain ⟨t, rfl⟩ := r; rfl
  | flt _ => obtain ⟨t, rfl⟩ := r; rfl
  | ref _ => cases r; rfl
  | ty _ => cases r; rfl
theorem RelV.inj {x y : V} {u : Value} (r : RelV x u) (q : RelV y u) : x = y := Option.some.inj (r.abs.symm.trans q.abs)
theorem Vals.inj : ∀ {xs ys : List V} {us : List Value}, Vals xs us → Vals ys us → xs = ys
  | _, _, _, .nil, .nil => rfl
  | _, _, _, .cons r t, .cons r' t' => by rw [r.inj r', Vals.inj t t']
section
variable {X : Cx} {pins : List (Addr × Obj)} {σ : St} {H : Hp} {s : Shared} {a : Addr} {xs ys : List V}
theorem SqL.of {K : PySem.W.Frag} (h : H a = some (.lst xs)) : SqL K H a xs := .inl (.inl h)
theorem SqT.of {K : PySem.W.Frag} (h : H a = some (.tup xs)) : SqT K H a xs := .inl (.inl h)
theorem Inv.list (I : Inv X pins σ H s) (h : SqL X.K H a xs) : ∃ its : List Value, Vals xs its ∧ PlainL s.heap a its.toArray ∧ xs.length ≤ sizeLine := by
  rcases h with h | ⟨o, its, n, hk, hc, hd, hs, hz, r⟩
  · obtain ⟨z, its, n, r, e⟩ := h.ok I.hok
    exact ⟨its, r, ⟨_, n, e, rfl, rfl, rfl⟩, z⟩
  · refine ⟨its.toList, r, ⟨o, n, I.kIn a o hk, hc, hd, by simpa using hs⟩, ?_⟩
    have e := r.length
    simp only [Array.length_toList] at e
    omega
theorem Inv.tuple (I : Inv X pins σ H s) (h : SqT X.K H a xs) : ∃ its : List Value, Vals xs its ∧ IsTup s.heap a its.toArray ∧ xs.length ≤ sizeLine := by
  rcases h with h | ⟨o, its, n, hk, hc, hs, hz, r⟩
  · obtain ⟨z, its, r, p⟩ := h.ok I.hok
    exact ⟨its, r, p, z⟩
  · refine ⟨its.toList, r, ⟨o, I.kIn a o hk, hc, n, by simpa using hs⟩, ?_⟩
    have e := r.length
    simp only [Array.length_toList] at e
    omega
theorem Inv.list_inj (I : Inv X pins σ H s) (h : SqL X.K H a xs) (h' : SqL X.K H a ys) : xs = ys := by
  obtain ⟨its, r, ⟨o, n, e, _, _, d⟩, _⟩ := I.list h
  obtain ⟨its', r', ⟨o', n', e', _, _, d'⟩, _⟩ := I.list h'
  rw [e] at e'; cases e'
  rw [d] at d'
  injection d' with d1 _
  have : its = its' := by simpa using congrArg Array.toList d1
  subst this
  exact r.inj r'
theorem Inv.tuple_inj (I : Inv X pins σ H s) (h : SqT X.K H a xs) (h' : SqT X.K H a ys) : xs = ys := by
  obtain ⟨its, r, ⟨o, e, _, n, d⟩, _⟩ := I.tuple h
  obtain ⟨its', r', ⟨o', e', _, n', d'⟩, _⟩ := I.tuple h'
  rw [e] at e'; cases e'
  rw [d] at d'
  injection d' with d1 _
  have : its = its' := by simpa using congrArg Array.toList d1
  subst this
  exact r.inj r'
end

/-! ### another wish about exceptions -/
abbrev Cx.wish (X : Cx) (E : Value → Shared → Prop) : Cx := { X with xe := E }
/-- no exception leaves -/
abbrev Cx.nox (X : Cx) : Cx := X.wish fun _ _ => False
theorem Cx.Ok.wish {X : Cx} (ok : X.Ok) (E : Value → Shared → Prop) : (X.wish E).Ok :=
  ⟨ok.mod, ok.kind, ok.glob, ok.blt, ok.above, ok.inj, ok.has, ok.cab, ok.hd, ok.frames, ok.stk, ok.exf, ok.bs, ok.bsz, ok.noex, ok.exfs, ok.funs, ok.frf⟩
theorem Cx.Ok.unwish {X : Cx} {E : Value → Shared → Prop} (ok : (X.wish E).Ok) : X.Ok :=
  ⟨ok.mod, ok.kind, ok.glob, ok.blt, ok.above, ok.inj, ok.has, ok.cab, ok.hd, ok.frames, ok.stk, ok.exf, ok.bs, ok.bsz, ok.noex, ok.exfs, ok.funs, ok.frf⟩
section
variable {X : Cx} {pins : List (Addr × Obj)} {σ : St} {H : Hp} {s : Shared} {E : Value → Shared → Prop}
theorem Inv.wish (I : Inv X pins σ H s) (E : Value → Shared → Prop) : Inv (X.wish E) pins σ H s := ⟨I.ok.wish E, I.os, I.bare, I.base, I.loc, I.cell, I.free, I.freeC, I.pin, I.hok, I.len⟩
theorem Inv.unwish (I : Inv (X.wish E) pins σ H s) : Inv X pins σ H s := ⟨I.ok.unwish, I.os, I.bare, I.base, I.loc, I.cell, I.free, I.freeC, I.pin, I.hok, I.len⟩
theorem SP.unwish {D : Ends} {f : Flow} {s' : Shared} (h : SP (X.wish E) pins D f s') : SP X pins D f s' := by
  cases f with
  | next => obtain ⟨σ', H', I, q⟩ := h; exact ⟨σ', H', I.unwish, q⟩
  | brk => obtain ⟨σ', H', I, q⟩ := h; exact ⟨σ', H', I.unwish, q⟩
  | cont => obtain ⟨σ', H', I, q⟩ := h; exact ⟨σ', H', I.unwish, q⟩
  | ret u => obtain ⟨v, σ', H', I, r, q⟩ := h; exact ⟨v, σ', H', I.unwish, r, q⟩
theorem PE.nox {e : Expr} {t : TE} (h : PE X.nox e t) : PE X e t := fun pins s σ H Q I hw =>
  wpAny_mono (h pins s σ H Q (I.wish _) hw) (fun _ _ ⟨v, H', I', r, q⟩ => ⟨v, H', I'.unwish, r, q⟩) fun _ _ z => False.elim z
theorem PT.nox {e : Expr} {t : TT} (h : PT X.nox e t) : PT X e t := fun pins s σ H Q I hw =>
  wpAny_mono (h pins s σ H Q (I.wish _) hw) (fun _ _ ⟨H', I', q⟩ => ⟨H', I'.unwish, q⟩) fun _ _ z => False.elim z
theorem PSs.nox {st : List Stmt} {t : TS} (h : PSs X.nox st t) : PSs X st t := fun pins s σ H D I hw =>
  wpAny_mono (h pins s σ H D (I.wish _) hw) (fun _ _ q => q.unwish) fun _ _ z => False.elim z
end

/-! ### blocks and small statements -/
section
variable {X : Cx} {st : Stmt} {rest : List Stmt} {t u : TS} {e : Expr} {te : TE} {pos : Pos}
def tNext : TS := fun D σ H => D.nx σ H
def tSeq (t u : TS) : TS := fun D σ H => t { D with nx := u D } σ H
theorem pss_nil : PSs X [] tNext := fun _ _ σ H _ I h => wpAny_execs_nil ⟨σ, H, I, h⟩
theorem pss_cons (h1 : PS X st t) (h2 : PSs X rest u) : PSs X (st :: rest) (tSeq t u) := by
  intro pins s σ H D I h
  refine wpAny_execs_cons (thn (h1 pins s σ H { D with nx := u D } I h) fun f s1 q => ?_)
  cases f with
  | next =>
    obtain ⟨σ', H', I', q⟩ := q
    exact h2 pins s1 σ' H' D I' q
  | ret v => exact q
  | brk => exact q
  | cont => exact q
theorem pss_one (h1 : PS X st t) : PSs X [st] t := by
  intro pins s σ H D I h
  refine wpAny_execs_cons (thn (h1 pins s σ H D I h) fun f s1 q => ?_)
  cases f with
  | next => exact wpAny_execs_nil q
  | ret v => exact q
  | brk => exact q
  | cont => exact q
def tBreak : TS := fun D σ H => D.bk σ H
def tCont : TS := fun D σ H => D.ct σ H
theorem ps_pass : PS X (.Pass pos) tNext := fun _ _ σ H _ I h => wpAny_Pass ⟨σ, H, I, h⟩
theorem ps_break : PS X (.Break pos) tBreak := fun _ _ σ H _ I h => wpAny_Break ⟨σ, H, I, h⟩
theorem ps_continue : PS X (.Continue pos) tCont := fun _ _ σ H _ I h => wpAny_Continue ⟨σ, H, I, h⟩
/-- in a def's body nothing is shown -/
theorem Inv.quiet {pins : List (Addr × Obj)} {σ : St} {H : Hp} {s : Shared} (I : Inv X pins σ H s) : interactive X.env = false := by simp [interactive, I.ok.kind]
/-- a docstring -/
theorem ps_doc {x j pos pos'} : PS X (.Expr (.Constant (.str x) j pos) pos') tNext := fun _ s σ H _ I h => wpAny_Expr (Calls.Constant_str (show SP X _ _ .next { s with toks := s.toks + 1 } from ⟨σ, H, I.tok _, h⟩)) I.quiet
/-- an expression whose value is dropped -/
def tDrop (te : TE) : TS := fun D σ H => te σ H fun _ H1 => D.nx σ H1
theorem ps_expr (he : PE X e te) (hs : swapsWith e none pos.line X.env = pure false := by rfl) : PS X (.Expr e pos) (tDrop te) := by
  intro pins s σ H D I h
  exact wpAny_Expr_any (thn (he pins s σ H _ I h) fun v s1 ⟨x, H1, I1, r1, q1⟩ => ⟨σ, H1, I1, q1⟩) I.quiet hs
def tRet (te : TE) : TS := fun D σ H => te σ H D.rt
theorem ps_ret (he : PE X e te) : PS X (.Return (some e) pos) (tRet te) := by
  intro pins s σ H D I h
  exact wpAny_Return_some (thn (he pins s σ H _ I h) fun v s1 ⟨x, H1, I1, r1, q1⟩ => ⟨x, σ, H1, I1, r1, q1⟩)
def tRetN : TS := fun D _ H => D.rt .non H
theorem ps_retN : PS X (.Return none pos) tRetN := fun _ _ σ H _ I h => wpAny_Return_none ⟨.non, σ, H, I, rfl, h⟩
def tIfS (c : TT) (t u : TS) : TS := fun D σ H => c σ H fun b H1 => if b = true then t D σ H1 else u D σ H1
theorem ps_if {c : Expr} {a b : List Stmt} {tc : TT} (hc : PT X c tc) (ha : PSs X a t) (hb : PSs X b u) : PS X (.If c a b pos) (tIfS tc t u) := by
  intro pins s σ H D I h
  refine wpAny_If (thn (hc pins s σ H _ I h) fun d s1 ⟨H1, I1, q1⟩ => ?_)
  cases d with
  | true => exact ha pins s1 σ H1 D I1 q1
  | false => exact hb pins s1 σ H1 D I1 q1
/-- code that the proof never comes to -/
def tNever : TS := fun _ _ _ => False
theorem ps_never : PS X st tNever := fun _ _ _ _ _ _ h => h.elim
theorem pss_never {sts : List Stmt} : PSs X sts tNever := fun _ _ _ _ _ _ h => h.elim
end

/-! ### targets -/
abbrev TG := V → St → Hp → (St → Hp → Prop) → Prop
abbrev TGs := List V → St → Hp → (St → Hp → Prop) → Prop
def PG (X : Cx) (target : Expr) (t : TG) : Prop :=
  ∀ (pins : List (Addr × Obj)) (s : Shared) (σ : St) (H : Hp) (v : V) (u : Value) (Q : St → Hp → Prop), Inv X pins σ H s → RelV v u → t v σ H Q →
    wpAny (model X.prog X.w) X.A (assign target X.env u) (fun _ s' => ∃ σ' H', Inv X pins σ' H' s' ∧ Q σ' H') X.xe s
/-- several targets, one after another -/
def PGs (X : Cx) (ts : List Expr) (t : TGs) : Prop :=
  ∀ (pins : List (Addr × Obj)) (s : Shared) (σ : St) (H : Hp) (vs : List V) (us : List Value) (Q : St → Hp → Prop), Inv X pins σ H s → Vals vs us → t vs σ H Q →
    wpAny (model X.prog X.w) X.A (assignInOrder ((assignEach ts X.env).map (·.2)) us) (fun _ s' => ∃ σ' H', Inv X pins σ' H' s' ∧ Q σ' H') X.xe s
/-- o[i] = v, by values -/
abbrev TSet := V → V → V → Hp → (Hp → Prop) → Prop
def PSet (X : Cx) (t : TSet) : Prop :=
  ∀ (pins : List (Addr × Obj)) (s : Shared) (σ : St) (H : Hp) (o i v : V) (ov iv u : Value) (Q : Hp → Prop), Inv X pins σ H s → RelV o ov → RelV i iv → RelV v u → t o i v H Q →
    wpAny (model X.prog X.w) X.A (setItem ov iv u) (fun _ s' => ∃ H', Inv X pins σ H' s' ∧ Q H') X.xe s
/-- a op= b, by values -/
abbrev TIp := V → V → Hp → VK → Prop
def PIp (X : Cx) (op : Operator) (t : TIp) : Prop :=
  ∀ (pins : List (Addr × Obj)) (s : Shared) (σ : St) (H : Hp) (x y : V) (v u : Value) (Q : VK), Inv X pins σ H s → RelV x v → RelV y u → t x y H Q →
    wpAny (model X.prog X.w) X.A (inplaceOp op v u) (EP X pins σ Q) X.xe s
section
variable {X : Cx} {pos : Pos}
def gName (i : Nat) : TG := fun v σ H Q => Q (σ.set i (some v)) H
theorem pg_name {i : Nat} {x : Str} (hN : X.N.Nodup) (hi : X.N[i]? = some x) (hx : Loc X.env.scope x) (hf : X.fn x = true ∨ X.env.scope.names.lookup x = some .local := by first | exact .inl rfl | exact .inr rfl | assumption) : PG X (.Name x pos) (gName i) := by
  intro pins s σ H v u Q I r h
  exact wpAny_assign_Name (store_ok I hN hi hx r (fun s' I' => ⟨_, H, I', h⟩) hf)
def gNil : TGs := fun vs σ H Q => vs = [] ∧ Q σ H
def gCons (t : TG) (u : TGs) : TGs := fun vs σ H Q => ∃ v r, vs = v :: r ∧ t v σ H fun σ' H' => u r σ' H' Q
theorem pgs_nil : PGs X [] gNil := by
  intro pins s σ H vs us Q I r h
  obtain ⟨e, h⟩ := h
  subst e
  cases r
  exact assignInOrder_nil ⟨σ, H, I, h⟩
theorem pgs_cons {e : Expr} {es : List Expr} {t : TG} {u : TGs} (h1 : PG X e t) (h2 : PGs X es u)
    (hs : (assignEach (e :: es) X.env).map (·.2) = assign e X.env :: (assignEach es X.env).map (·.2) := by rfl) : PGs X (e :: es) (gCons t u) := by
  intro pins s σ H vs us Q I r h
  obtain ⟨v, vr, e1, h⟩ := h
  subst e1
  cases r with
  | cons r rr =>
    rw [hs]
    refine assignInOrder_cons (thn (h1 pins s σ H _ _ _ I r h) fun _ s1 ⟨σ1, H1, I1, q1⟩ => ?_)
    exact h2 pins s1 σ1 H1 _ _ Q I1 rr q1
/-- (a, b, ..) = a tuple of that length -/
def gTup (K : PySem.W.Frag) (n : Nat) (t : TGs) : TG := fun v σ H Q => ∃ a xs, v = .ref a ∧ SqT K H a xs ∧ xs.length = n ∧ t xs σ H Q
theorem pg_tup {es : List Expr} {k : Nat} {t : TGs} {n : Nat} (hc : X.calm = true) (h : PGs X es t)
    (hn : (assignEach es X.env).length = n := by rfl) (hst : (assignEach es X.env).findIdx? (·.1) = none := by rfl) : PG X (.Tuple es k pos) (gTup X.K n t) := by
  intro pins s σ H v u Q I r hw
  obtain ⟨a, xs, e1, hq, hl, hw⟩ := hw
  subst e1
  cases r
  obtain ⟨its, rv, ht, hz⟩ := I.tuple hq
  refine assign_Tuple_tuple (I.ok.hd hc) ht (by simp [hn, ← hl, rv.length]) hst fun h' hx => ?_
  have I1 : Inv X pins σ H { s with heap := h' } := I.kept (t' := s.toks) fun b o e => hx b o (Nat.ne_of_lt (Heap.lt_size e)) e
  exact h pins _ σ H xs _ Q I1 (by simpa using rv) hw
/-- o[i] = .. -/
def gSub (to ti : TE) (t : TSet) : TG := fun v σ H Q => to σ H fun o H1 => ti σ H1 fun i H2 => t o i v H2 fun H3 => Q σ H3
theorem pg_sub {o i : Expr} {to ti : TE} {t : TSet} (ho : PE X o to) (hi : PE X i ti) (hs : PSet X t)
    (ha : ∀ v, assign (.Subscript o i pos) X.env v = (do
      let ov ← holding [v] (eval o X.env)
      let iv ← holding [v, ov] (eval i X.env)
      standAt pos
      holding [v, ov, iv] (setItem ov iv v)
      release [v, ov, iv] []) := by intro _; rfl) : PG X (.Subscript o i pos) (gSub to ti t) := by
  intro pins s σ H v u Q I r h
  rw [ha]
  refine wpAny_bind (wpAny_holding (thn (ho pins s σ H _ I h) fun ov s1 ⟨x, H1, I1, r1, q1⟩ => ?_))
  refine wpAny_bind (wpAny_holding (thn (hi pins s1 σ H1 _ I1 q1) fun iv s2 ⟨y, H2, I2, r2, q2⟩ => ?_))
  refine wpAny_bind (wpAny_standAt (wpAny_bind (wpAny_holding (thn (hs pins s2 σ H2 x y v ov iv u _ I2 r1 r2 r q2) fun _ s3 ⟨H3, I3, q3⟩ => ?_))))
  exact wpAny_release ⟨σ, H3, I3, q3⟩
/-- target = value -/
def tAsg (te : TE) (g : TG) : TS := fun D σ H => te σ H fun x H1 => g x σ H1 D.nx
theorem ps_asg {tg e : Expr} {te : TE} {g : TG} (he : PE X e te) (hg : PG X tg g) (hs : swapsWithSole [tg] e pos.line X.env = pure false := by rfl) (hw : swappedStores [tg] e X.env = pure none := by rfl)
    (h1 : (assignEach [tg] X.env).map (·.2) = [assign tg X.env] := by rfl) : PS X (.Assign [tg] e pos) (tAsg te g) := by
  intro pins s σ H D I h
  refine wpAny_Assign_stores (thn (he pins s σ H _ I h) fun v s1 ⟨x, H1, I1, r1, q1⟩ => ?_) hs hw
  rw [h1]
  exact thn (hg pins s1 σ H1 x v _ I1 r1 q1) fun _ s2 q => q
/-- name = value -/
theorem ps_set {i : Nat} {x : Str} {e : Expr} {te : TE} {pos' : Pos} (hN : X.N.Nodup) (hi : X.N[i]? = some x) (hx : Loc X.env.scope x) (he : PE X e te) (hs : swapsWith e (some (.Name x pos')) pos.line X.env = pure false := by rfl) (hf : X.fn x = true ∨ X.env.scope.names.lookup x = some .local := by first | exact .inl rfl | exact .inr rfl | assumption) :
    PS X (.Assign [.Name x pos'] e pos) (tAsg te (gName i)) := by
  intro pins s σ H D I h
  refine wpAny_Assign_Name (thn (he pins s σ H _ I h) fun v s1 ⟨y, H1, I1, r1, q1⟩ => ?_) hs
  exact store_ok I1 hN hi hx r1 (fun s2 I2 => ⟨_, H1, I2, q1⟩) hf
/-- a, b = x, y with plain local names: stored from the right; the pair itself is not tracked (the opening rows as in PyProof/Rows/TupAssign.lean:23) -/
def tPar (i j : Nat) (ta : TA) : TS := fun D σ H => ta σ H fun vs H1 => ∃ v w, vs = [v, w] ∧ D.nx ((σ.set i (some v)).set j (some w)) H1
theorem ps_par {i j : Nat} {x y : Str} {a b : Expr} {ta : TA} {px py pt : Pos} {kt k2 pt2} (hc : X.calm = true) (hN : X.N.Nodup) (hi : X.N[i]? = some x) (hj : X.N[j]? = some y) (hij : i ≠ j)
    (hx : X.env.scope.names.lookup x = some .local) (hy : X.env.scope.names.lookup y = some .local) (ha : PA X [a, b] ta)
    (hw : swappedStores [.Tuple [.Name x px, .Name y py] kt pt] (.Tuple [a, b] k2 pt2) X.env = pure (some [x, y]))
    (hs : swapsWithSole [.Tuple [.Name x px, .Name y py] kt pt] (.Tuple [a, b] k2 pt2) pos.line X.env = pure false := by rfl) :
    PS X (.Assign [.Tuple [.Name x px, .Name y py] kt pt] (.Tuple [a, b] k2 pt2) pos) (tPar i j ta) := by
  intro pins s σ H D I h
  rw [exec_Assign_arm]
  refine wpAny_bind (wpAny_standAt ?_)
  rw [hs]
  refine wpAny_bind (wpAny_pure ?_)
  rw [if_neg (by decide)]
  refine wpAny_bind (Tuple_ (thn (ha _ pins s σ H _ I h) fun us s1 ⟨vs, H1, I1, r1, q1⟩ => ?_))
  obtain ⟨v, w, e1, q1⟩ := q1
  subst e1
  obtain ⟨u1, u2, rfl, rv, rw'⟩ : ∃ u1 u2, us = [u1, u2] ∧ RelV v u1 ∧ RelV w u2 := by
    cases r1 with
    | cons p q =>
      cases q with
      | cons p' q' =>
        cases q'
        exact ⟨_, _, rfl, p, p'⟩
  refine wpAny_newObj_type ?_ (by show 2 ≤ sizeLine; decide)
  have I2 : Inv X pins σ H1 { s1 with heap := s1.heap.push { cls := .type "tuple", data := .seq [u1, u2].toArray } } := I1.kept (t' := s1.toks) fun b o e => Heap.get?_push_of_some _ e
  rw [hw]
  refine wpAny_bind (wpAny_pure ?_)
  show wpAny (model X.prog X.w) X.A (do rule "assign.swapped-stores"; let items ← unpackItems (.ref s1.heap.objs.size) 2 none; assignInOrder [fun v => bindName X.env y v, fun v => bindName X.env x v] items.reverse; pure Flow.next) _ _ _
  refine wpAny_bind (wpAny_rule (wpAny_bind (unpackItems_tuple (items := #[u1, u2]) (I.ok.hd hc) (IsTup.new s1.heap _) fun h' hx' => ?_)))
  have I3 := I2.kept (h' := h') (t' := s1.toks) fun b o e => hx' b o (Nat.ne_of_lt (Heap.lt_size e)) e
  show wpAny _ _ (assignInOrder [fun v => bindName X.env y v, fun v => bindName X.env x v] [u2, u1] >>= fun _ => pure Flow.next) _ _ _
  refine wpAny_bind (assignInOrder_cons (wpAny_bindName (store_ok I3 hN hj (.inl hy) rw' (fun s2 I4 => ?_) (.inr hy))))
  refine assignInOrder_cons (wpAny_bindName (store_ok I4 hN hi (.inl hx) rv (fun s3 I5 => assignInOrder_nil (wpAny_pure ?_)) (.inr hx)))
  rw [List.set_comm _ _ (Ne.symm hij)] at I5
  exact ⟨_, H1, I5, q1⟩
/-- name op= e -/
def tAug (i : Nat) (te : TE) (ti : TIp) : TS := fun D σ H => ∃ x, σ[i]? = some (some x) ∧ te σ H fun y H1 => ti x y H1 fun z H2 => D.nx (σ.set i (some z)) H2
theorem ps_aug {i : Nat} {x : Str} {e : Expr} {te : TE} {op : Operator} {ti : TIp} {pos' : Pos} (hN : X.N.Nodup) (hi : X.N[i]? = some x) (hx : Loc X.env.scope x) (he : PE X e te) (ho : PIp X op ti) (hf : X.fn x = true ∨ X.env.scope.names.lookup x = some .local := by first | exact .inl rfl | exact .inr rfl | assumption) :
    PS X (.AugAssign (.Name x pos') op e pos) (tAug i te ti) := by
  intro pins s σ H D I h
  obtain ⟨v, e1, h⟩ := h
  obtain ⟨m, hn, hl⟩ := I.loc
  have vis : Vis X.env.scope x := by rcases hx with k | k; exact .inl k; exact .inr (.inl k)
  obtain ⟨u, r, l⟩ := hl i x v hi e1 vis
  refine wpAny_AugAssign_Name ?_
  have go : wpAny (model X.prog X.w) X.A (eval e X.env) (fun w s₂ => wpAny (model X.prog X.w) X.A (inplaceOp op u w) (fun r s₃ => wpAny (model X.prog X.w) X.A (storeName X.env x r) (fun _ => SP X pins D .next) X.xe s₃) X.xe s₂) X.xe s := by
    refine thn (he pins s σ H _ I h) fun w s1 ⟨y, H1, I1, r1, q1⟩ => ?_
    refine thn (ho pins s1 σ H1 v y u w _ I1 r r1 q1) fun z s2 ⟨zv, H2, I2, r2, q2⟩ => ?_
    exact store_ok I2 hN hi hx r2 (fun s3 I3 => ⟨_, H2, I3, q2⟩) hf
  rcases l with ⟨hk, hm⟩ | ⟨hk, c, hc, hcell⟩
  · exact wpAny_loadName_local I.ok.kind hk hn hm go
  · rcases hk with hk | hk
    · exact wpAny_loadName_cell I.ok.kind hk hc hcell go
    · rcases hx with k | k
      · have : X.env.scope.names.lookup x = some .free := hk
        rw [k] at this; cases this
      · have : X.env.scope.names.lookup x = some .free := hk
        rw [k] at this; cases this
/-- o[i] op= e -/
def tAugS (to ti te : TE) (tget : V → V → Hp → VK → Prop) (tip : TIp) (tset : TSet) : TS := fun D σ H => to σ H fun o H1 => ti σ H1 fun i H2 => tget o i H2 fun x H3 => te σ H3 fun y H4 => tip x y H4 fun z H5 => tset o i z H5 fun H6 => D.nx σ H6
/-- o[i], by values -/
def PGet (X : Cx) (t : V → V → Hp → VK → Prop) : Prop :=
  ∀ (pins : List (Addr × Obj)) (s : Shared) (σ : St) (H : Hp) (o i : V) (ov iv : Value) (Q : VK), Inv X pins σ H s → RelV o ov → RelV i iv → t o i H Q →
    wpAny (model X.prog X.w) X.A (getItem ov iv) (EP X pins σ Q) X.xe s
theorem ps_augS {o i e : Expr} {to ti te : TE} {tget : V → V → Hp → VK → Prop} {tip : TIp} {tset : TSet} {op : Operator} {tpos : Pos} (ho : PE X o to) (hi : PE X i ti) (hg : PGet X tget) (he : PE X e te) (hp : PIp X op tip) (hs : PSet X tset)
    (ha : ∀ ov iv new, augStore i ov iv new = (do holding [new, ov, iv] (setItem ov iv new); release [new, ov, iv] []; pure .next) := by intros; rfl) : PS X (.AugAssign (.Subscript o i tpos) op e pos) (tAugS to ti te tget tip tset) := by
  intro pins s σ H D I h
  refine wpAny_AugAssign_SubscriptAny (thn (ho pins s σ H _ I h) fun ov s1 ⟨x1, H1, I1, r1, q1⟩ => ?_) ha
  refine thn (hi pins s1 σ H1 _ I1 q1) fun iv s2 ⟨x2, H2, I2, r2, q2⟩ => ?_
  refine thn (hg pins s2 σ H2 x1 x2 ov iv _ I2 r1 r2 q2) fun old s3 ⟨x3, H3, I3, r3, q3⟩ => ?_
  refine thn (he pins s3 σ H3 _ I3 q3) fun v s4 ⟨x4, H4, I4, r4, q4⟩ => ?_
  refine thn (hp pins s4 σ H4 x3 x4 old v _ I4 r3 r4 q4) fun new s5 ⟨x5, H5, I5, r5, q5⟩ => ?_
  exact thn (hs pins s5 σ H5 x1 x2 x5 ov iv new _ I5 r1 r2 r5 q5) fun _ s6 ⟨H6, I6, q6⟩ => ⟨σ, H6, I6, q6⟩
/-- ints -/
def ipI (f : Int → Int → Int) : TIp := fun x y H Q => ∃ i j, x = .int i ∧ y = .int j ∧ Q (.int (f i j)) H
theorem ip_add : PIp X .Add (ipI fun i j => i + j) := by
  intro pins s σ H x y v u Q I r1 r2 h
  obtain ⟨i, j, e1, e2, q⟩ := h
  subst e1; subst e2
  obtain ⟨t, rfl⟩ := r1
  obtain ⟨t', rfl⟩ := r2
  exact iadd_int ⟨.int _, H, I.tok _, ⟨_, rfl⟩, q⟩
theorem ip_sub : PIp X .Sub (ipI fun i j => i - j) := by
  intro pins s σ H x y v u Q I r1 r2 h
  obtain ⟨i, j, e1, e2, q⟩ := h
  subst e1; subst e2
  obtain ⟨t, rfl⟩ := r1
  obtain ⟨t', rfl⟩ := r2
  exact isub_int ⟨.int _, H, I.tok _, ⟨_, rfl⟩, q⟩
end

/-! ### while -/
section
variable {X : Cx} {pos : Pos}
/-- the invariant W with its measure -/
def tWhile (c : TT) (tb : TS) : TS := fun D σ H => ∃ W : Nat → St → Hp → Prop, (∃ m, W m σ H) ∧ ∀ m σ H, W m σ H →
  c σ H fun b H1 => if b = true then ∃ N : St → Hp → Prop, (∀ σ' H', N σ' H' → ∃ m', m' < m ∧ W m' σ' H') ∧ tb { D with nx := N, ct := N, bk := D.nx } σ H1 else D.nx σ H1
theorem ps_while {c : Expr} {body : List Stmt} {tc : TT} {tb : TS} (hp : PassesOwn (model X.prog X.w) X.A X.env X.xe) (hc : PT X c tc) (hb : PSs X body tb) : PS X (.While c body [] pos) (tWhile tc tb) := by
  intro pins s σ H D I h
  obtain ⟨W, ⟨m0, w0⟩, turn⟩ := h
  refine wpAny_While (codeAny_whileLoop (fun n s' => ∃ σ' H', Inv X pins σ' H' s' ∧ W n σ' H') ?_ m0 ⟨σ, H, I, w0⟩)
  rintro n s1 ⟨σ1, H1, I1, w1⟩
  refine wpAny_passesOwn hp (thn (hc pins s1 σ1 H1 _ I1 (turn n σ1 H1 w1)) fun b s2 ⟨H2, I2, q2⟩ => ?_)
  cases b with
  | true =>
    obtain ⟨N, hN, q2⟩ := q2
    rw [if_pos rfl]
    refine wpAny_passesOwn hp (thn (hb pins s2 σ1 H2 _ I2 q2) fun f s3 q3 => ?_)
    cases f with
    | next =>
      obtain ⟨σ3, H3, I3, n3⟩ := q3
      obtain ⟨m', hm, w3⟩ := hN σ3 H3 n3
      exact ⟨m', hm, σ3, H3, I3, w3⟩
    | cont =>
      obtain ⟨σ3, H3, I3, n3⟩ := q3
      obtain ⟨m', hm, w3⟩ := hN σ3 H3 n3
      exact ⟨m', hm, σ3, H3, I3, w3⟩
    | brk => exact q3
    | ret v => exact q3
  | false =>
    rw [if_neg Bool.false_ne_true]
    exact wpAny_execs_nil ⟨σ1, H2, I2, q2⟩
end

/-! ### what a loop or a comprehension walks -/
/-- at turn i: it yields x (the heap may grow), or it stops -/
structure It where
  go : Nat → Hp → Prop
  yld : Nat → Hp → V → Hp → Prop
  stop : Nat → Hp → Prop
/-- the iterator's own objects may turn: they are not the frame's, not pinned, younger than the entry (or a comprehension's own) -/
def FpOk (X : Cx) (pins : List (Addr × Obj)) (H : Hp) (b : Addr) : Prop :=
  H b = none ∧ b ≠ X.env.locals ∧ b ∉ X.fs ∧ (b ∈ X.ex ∨ X.s₀.heap.objs.size ≤ b) ∧ (∀ x c, X.env.cells.lookup x = some c → c ≠ b) ∧ ∀ p ∈ X.pn ++ pins, p.1 ≠ b
theorem Inv.fpOk {X : Cx} {pins : List (Addr × Obj)} {σ : St} {H H' : Hp} {s : Shared} {b : Addr} (I : Inv X pins σ H s) (hb : s.heap.objs.size ≤ b) (hn : H' b = none) : FpOk X pins H' b := by
  refine ⟨hn, Nat.ne_of_gt (Nat.lt_of_lt_of_le I.lt hb), I.nofs hb, .inr (Nat.le_trans I.sz hb), fun x c e z => ?_, fun p hp z => ?_⟩
  · obtain ⟨v, q⟩ := I.cell x c e
    exact absurd (Nat.lt_of_lt_of_le q.lt (by rw [z]; exact hb)) (Nat.lt_irrefl _)
  · exact absurd (Nat.lt_of_lt_of_le (Heap.lt_size (I.pin p hp).1) (by rw [z]; exact hb)) (Nat.lt_irrefl _)
structure Turn (P : Program) (w : World) (K : PySem.W.Frag) (tg : Expr) (J : It) (fp : List Addr) (it : Addr) (tn : Nat → Heap → Prop) : Prop where
  mem : it ∈ fp
  obj : ∀ i h, tn i h → ∀ b ∈ fp, ∃ o, h.get? b = some o ∧ ∀ v, o.data ≠ .cell v
  keep : ∀ i h h', tn i h → (∀ b ∈ fp, ∀ o, h.get? b = some o → h'.get? b = some o) → tn i h'
  item : ∀ (X : Cx), X.prog = P → X.w = w → X.K = K → X.calm = true → ∀ (i : Nat) (pins : List (Addr × Obj)) (s : Shared) (σ : St) (H : Hp) (E : Value → Shared → Prop), Inv X pins σ H s → (∀ b ∈ fp, FpOk X pins H b) → tn i s.heap → J.go i H →
    wpAny (model P w) X.A (pyNext (.ref it)) (fun r s1 => ∃ u, r = some u ∧
      wpAny (model P w) X.A (letOwnedTupleGo tg (.ref it) u) (fun _ s2 => ∃ x H', Inv X pins σ H' s2 ∧ RelV x u ∧ J.yld i H x H' ∧ tn (i + 1) s2.heap ∧ ∀ b ∈ fp, H' b = none) E s1) E s
  done : ∀ (X : Cx), X.prog = P → X.w = w → X.K = K → X.calm = true → ∀ (i : Nat) (pins : List (Addr × Obj)) (s : Shared) (σ : St) (H : Hp) (E : Value → Shared → Prop), Inv X pins σ H s → (∀ b ∈ fp, FpOk X pins H b) → tn i s.heap → J.stop i H →
    wpAny (model P w) X.A (pyNext (.ref it)) (fun r s1 => r = none ∧ Inv X pins σ H s1) E s
  self : ∀ (A : Around) (i : Nat) (s : Shared) (Q : Value → Shared → Prop) (E : Value → Shared → Prop), tn i s.heap → Q (.ref it) s → wpAny (model P w) A (pyIter (.ref it)) Q E s
abbrev TI := St → Hp → (It → Hp → Prop) → Prop
/-- an iterator has come -/
def PIE (X : Cx) (pins : List (Addr × Obj)) (σ : St) (tg : Expr) (R : It → Hp → Prop) (itv : Value) (s2 : Shared) : Prop :=
  ∃ (it : Addr) (fp : List Addr) (tn : Nat → Heap → Prop) (J : It) (H' : Hp), itv = .ref it ∧ Inv X pins σ H' s2 ∧ Turn X.prog X.w X.K tg J fp it tn ∧ tn 0 s2.heap ∧ (∀ b ∈ fp, FpOk X pins H' b) ∧ R J H'
def PI (X : Cx) (tg iter : Expr) (wi : TI) : Prop :=
  ∀ (pins : List (Addr × Obj)) (s : Shared) (σ : St) (H : Hp) (R : It → Hp → Prop), Inv X pins σ H s → wi σ H R →
    wpAny (model X.prog X.w) X.A (eval iter X.env) (fun v s1 => wpAny (model X.prog X.w) X.A (pyIter v) (PIE X pins σ tg R) X.xe s1) X.xe s

/-- the step ahead of the store is nothing for an iterator that keeps no tuple -/
theorem go_of {M : Model} {A : Around} {E : Value → Shared → Prop} {s : Shared} {tg : Expr} {it : Addr} {u : Value} {o : Obj} {n : String} {vs : Array Value} {Q : Unit → Shared → Prop} (ho : s.heap.get? it = some o) (hc : o.cls = .type n) (hd : o.data = .fields vs)
    (hn : ["enumerate", "zip", "dict_itemiterator", "dict_reverseitemiterator", "odict_iterator", "itertools.zip_longest", "itertools.pairwise"].contains n = false) (hQ : Q () s) : wpAny M A (letOwnedTupleGo tg (.ref it) u) Q E s := by
  unfold letOwnedTupleGo
  cases tg <;> first
    | exact wpAny_pure hQ
    | (cases u <;> first
        | exact wpAny_pure hQ
        | (refine wpAny_bind (wpAny_load ho ?_)
           rw [hc, hd]
           show wpAny M A (if (["enumerate", "zip", "dict_itemiterator", "dict_reverseitemiterator", "odict_iterator", "itertools.zip_longest", "itertools.pairwise"].contains n && vs[0]? == some (rawInt _)) = true then _ else _) Q E s
           rw [if_neg (by intro h; rw [hn, Bool.false_and] at h; cases h)]
           exact wpAny_pure hQ))

/-- the list at a, as it stands at each turn (a loop may append to it) -/
def Itl (K : PySem.W.Frag) (a : Addr) : It :=
  ⟨fun i H => ∃ xs x, SqL K H a xs ∧ xs[i]? = some x, fun i H x H' => H' = H ∧ ∀ xs, SqL K H a xs → xs[i]? = some x, fun i H => ∃ xs, SqL K H a xs ∧ xs.length ≤ i⟩
def Itt (K : PySem.W.Frag) (a : Addr) : It :=
  ⟨fun i H => ∃ xs x, SqT K H a xs ∧ xs[i]? = some x, fun i H x H' => H' = H ∧ ∀ xs, SqT K H a xs → xs[i]? = some x, fun i H => ∃ xs, SqT K H a xs ∧ xs.length ≤ i⟩
/-- lo, lo + 1, .. (n of them) -/
def Itr (lo : Int) (n : Nat) : It := ⟨fun i _ => i < n, fun i H x H' => H' = H ∧ x = .int (lo + i), fun i _ => n ≤ i⟩
theorem turn_list {P : Program} {w : World} {K : PySem.W.Frag} {tg : Expr} (a it : Addr) : Turn P w K tg (Itl K a) [it] it (fun i h => h.IsListIter it a i) where
  mem := by simp
  obj := fun i h st b hb => by
    have e : b = it := by simpa using hb
    subst e
    obtain ⟨o, e, c, d⟩ := st
    exact ⟨o, e, fun v z => by rw [d] at z; cases z⟩
  keep := fun i h h' st k => st.at fun o e => k it (by simp) o e
  item := by
    intro X hP hw hK hc i pins s σ H E I hf st hg
    subst hP hw hK
    obtain ⟨xs, x, hq, hx⟩ := hg
    obtain ⟨its, rv, p, hz⟩ := I.list hq
    obtain ⟨u, hu, ru⟩ := rv.get hx
    obtain ⟨f0, f1, f2, f3, f4, f5⟩ := hf it (by simp)
    refine wpAny_pyNext_list_item st p.isList (x := u) (by simpa using hu) fun h' st' sb => ?_
    have I1 : Inv X pins σ H { s with heap := h' } := I.turned (t' := s.toks) (fun b o hb e => (sb.2 b hb).trans e) f0 f1 f3 f4 f5
    obtain ⟨o, e, c, d⟩ := id st'
    exact ⟨u, rfl, go_of (s := { s with heap := h' }) e c d (by decide) ⟨x, H, I1, ru, ⟨rfl, fun ys hy => by rw [I.list_inj hy hq]; exact hx⟩, st', fun b hb => (hf b hb).1⟩⟩
  done := by
    intro X hP hw hK hc i pins s σ H E I hf st hg
    subst hP hw hK
    obtain ⟨xs, hq, hx⟩ := hg
    obtain ⟨its, rv, p, hz⟩ := I.list hq
    obtain ⟨f0, f1, f2, f3, f4, f5⟩ := hf it (by simp)
    have hl := rv.length
    exact wpAny_pyNext_list_end (I.ok.hd hc) st p.isList (by simp; omega) fun h' eb => ⟨rfl, I.turned (t' := s.toks) (fun b o hb e => eb b o hb e) f0 f1 f3 f4 f5⟩
  self := fun _ _ _ _ _ st h => wpAny_pyIter_listiter st h
theorem turn_tuple {P : Program} {w : World} {K : PySem.W.Frag} {tg : Expr} (a it : Addr) : Turn P w K tg (Itt K a) [it] it (fun i h => h.IsTupleIter it a i) where
  mem := by simp
  obj := fun i h st b hb => by
    have e : b = it := by simpa using hb
    subst e
    obtain ⟨o, e, c, d⟩ := st
    exact ⟨o, e, fun v z => by rw [d] at z; cases z⟩
  keep := fun i h h' st k => st.at fun o e => k it (by simp) o e
  item := by
    intro X hP hw hK hc i pins s σ H E I hf st hg
    subst hP hw hK
    obtain ⟨xs, x, hq, hx⟩ := hg
    obtain ⟨its, rv, p, hz⟩ := I.tuple hq
    obtain ⟨u, hu, ru⟩ := rv.get hx
    obtain ⟨f0, f1, f2, f3, f4, f5⟩ := hf it (by simp)
    refine wpAny_pyNext_tuple_item st (show s.heap.IsTuple a its.toArray from p) (x := u) (by simpa using hu) fun h' st' sb => ?_
    have I1 : Inv X pins σ H { s with heap := h' } := I.turned (t' := s.toks) (fun b o hb e => (sb.2 b hb).trans e) f0 f1 f3 f4 f5
    obtain ⟨o, e, c, d⟩ := id st'
    exact ⟨u, rfl, go_of (s := { s with heap := h' }) e c d (by decide) ⟨x, H, I1, ru, ⟨rfl, fun ys hy => by rw [I.tuple_inj hy hq]; exact hx⟩, st', fun b hb => (hf b hb).1⟩⟩
  done := by
    intro X hP hw hK hc i pins s σ H E I hf st hg
    subst hP hw hK
    obtain ⟨xs, hq, hx⟩ := hg
    obtain ⟨its, rv, p, hz⟩ := I.tuple hq
    obtain ⟨f0, f1, f2, f3, f4, f5⟩ := hf it (by simp)
    have hl := rv.length
    exact wpAny_pyNext_tuple_end (I.ok.hd hc) st (show s.heap.IsTuple a its.toArray from p) (by simp; omega) fun h' eb => ⟨rfl, I.turned (t' := s.toks) (fun b o hb e => eb b o hb e) f0 f1 f3 f4 f5⟩
  self := fun _ _ _ _ _ st h => wpAny_pyIter_tupleiter st h
theorem turn_range {P : Program} {w : World} {K : PySem.W.Frag} {tg : Expr} (it : Addr) (lo : Int) (n : Nat) : Turn P w K tg (Itr lo n) [it] it (fun i h => IsRangeIter h it (lo + (i : Nat) * 1) ((n : Int) - (i : Nat)) 1) where
  mem := by simp
  obj := fun i h st b hb => by
    have e : b = it := by simpa using hb
    subst e
    exact ⟨_, st, fun v z => by
      have z' : Data.fields _ = Data.cell v := z
      cases z'⟩
  keep := fun i h h' st k => k it (by simp) _ st
  item := by
    intro X hP hw hK hc i pins s σ H E I hf st hg
    subst hP hw hK
    obtain ⟨f0, f1, f2, f3, f4, f5⟩ := hf it (by simp)
    have W := Walks.range (prog := X.prog) (w := X.w) (I.ok.hd hc) it lo 1 n
    refine W.item i s _ _ hg st fun v h' tk hv st' kk => ?_
    obtain ⟨t, rfl⟩ := hv
    have I1 : Inv X pins σ H { s with heap := h', toks := tk } := I.turned (fun b o hb e => kk b o (by simpa using hb) e) f0 f1 f3 f4 f5
    refine ⟨_, rfl, go_of (s := { s with heap := h', toks := tk }) (n := "range_iterator") st' rfl rfl (by decide) ⟨.int (lo + i), H, I1, ⟨t, ?_⟩, ⟨rfl, rfl⟩, st', fun b hb => (hf b hb).1⟩⟩
    rw [Int.mul_one]
  done := by
    intro X hP hw hK hc i pins s σ H E I hf st hg
    subst hP hw hK
    obtain ⟨f0, f1, f2, f3, f4, f5⟩ := hf it (by simp)
    exact wpAny_pyNext_range_end (I.ok.hd hc) st (by have : n ≤ i := hg; omega) fun h' eb => ⟨rfl, I.turned (t' := s.toks) (fun b o hb e => eb b o hb e) f0 f1 f3 f4 f5⟩
  self := fun _ _ _ _ _ st h => wpAny_pyIter_rangeiter st h
end L2

namespace L2
open PySem PySem.Spec PyProof.Rows
section
variable {X : Cx} {tg : Expr}
def iList (K : PySem.W.Frag) (tl : TE) : TI := fun σ H R => tl σ H fun x H1 => ∃ a, x = .ref a ∧ (∃ xs, SqL K H1 a xs) ∧ R (Itl K a) H1
def iTup (K : PySem.W.Frag) (tl : TE) : TI := fun σ H R => tl σ H fun x H1 => ∃ a, x = .ref a ∧ (∃ xs, SqT K H1 a xs) ∧ R (Itt K a) H1
theorem pi_list {l : Expr} {tl : TE} (hl : PE X l tl) : PI X tg l (iList X.K tl) := by
  intro pins s σ H R I h
  refine thn (hl pins s σ H _ I h) fun v s1 ⟨x, H1, I1, r1, q1⟩ => ?_
  obtain ⟨a, e, ⟨xs, hq⟩, q⟩ := q1
  subst e
  cases r1
  obtain ⟨its, rv, p, hz⟩ := I1.list hq
  refine wpAny_pyIter_list p.isList ?_
  refine ⟨s1.heap.objs.size, [s1.heap.objs.size], _, _, H1, rfl, I1.kept (t' := s1.toks) fun b o e => Heap.get?_push_of_some _ e, turn_list a _, ⟨_, Heap.get?_push_size _ rfl, rfl, rfl⟩, fun b hb => ?_, q⟩
  have e : b = s1.heap.objs.size := by simpa using hb
  subst e
  exact I1.fpOk (Nat.le_refl _) (I1.hok.fresh (Nat.le_refl _))
theorem pi_tup {l : Expr} {tl : TE} (hl : PE X l tl) : PI X tg l (iTup X.K tl) := by
  intro pins s σ H R I h
  refine thn (hl pins s σ H _ I h) fun v s1 ⟨x, H1, I1, r1, q1⟩ => ?_
  obtain ⟨a, e, ⟨xs, hq⟩, q⟩ := q1
  subst e
  cases r1
  obtain ⟨its, rv, p, hz⟩ := I1.tuple hq
  refine wpAny_pyIter_tuple (show s1.heap.IsTuple a its.toArray from p) ?_
  refine ⟨s1.heap.objs.size, [s1.heap.objs.size], _, _, H1, rfl, I1.kept (t' := s1.toks) fun b o e => Heap.get?_push_of_some _ e, turn_tuple a _, ⟨_, Heap.get?_push_size _ rfl, rfl, rfl⟩, fun b hb => ?_, q⟩
  have e : b = s1.heap.objs.size := by simpa using hb
  subst e
  exact I1.fpOk (Nat.le_refl _) (I1.hok.fresh (Nat.le_refl _))
/-- a range object just made, walked -/
theorem range_it {pins : List (Addr × Obj)} {σ : St} {H : Hp} {s : Shared} {R : It → Hp → Prop} {E : Value → Shared → Prop} {lo hi : Int} {t u v : Tok} {tk : Nat} (I : Inv X pins σ H s) (h1 : -(2 ^ 62) ≤ lo) (h2 : lo < 2 ^ 62) (h3 : -(2 ^ 62) ≤ hi) (h4 : hi < 2 ^ 62)
    (q : R (Itr lo (hi - lo).toNat) H) : wpAny (model X.prog X.w) X.A (pyIter (.ref s.heap.objs.size)) (PIE X pins σ tg R) E { s with heap := s.heap.push { cls := .type "range", data := .fields #[.int lo t, .int hi u, .int 1 v] }, toks := tk } := by
  refine wpAny_pyIter_range (IsRange.new ..) (small_one h1 h2 h3 h4) ?_
  have I1 : Inv X pins σ H { s with heap := s.heap.push { cls := .type "range", data := .fields #[.int lo t, .int hi u, .int 1 v] }, toks := tk } := I.kept fun b o e => Heap.get?_push_of_some _ e
  refine ⟨(s.heap.push { cls := .type "range", data := .fields #[.int lo t, .int hi u, .int 1 v] }).objs.size, [(s.heap.push { cls := .type "range", data := .fields #[.int lo t, .int hi u, .int 1 v] }).objs.size], _, _, H, rfl,
    I1.kept (t' := tk) fun b o e => Heap.get?_push_of_some _ e, turn_range _ lo (hi - lo).toNat, ?_, fun b hb => ?_, q⟩
  · have e1 : lo + ((0 : Nat) : Int) * 1 = lo := by simp
    have e2 : (((hi - lo).toNat : Nat) : Int) - ((0 : Nat) : Int) = Builtin.Range.rangeSize lo hi 1 := by rw [rangeSize_one]; split <;> omega
    show IsRangeIter _ _ (lo + ((0 : Nat) : Int) * 1) ((((hi - lo).toNat : Nat) : Int) - ((0 : Nat) : Int)) 1
    rw [e1, e2]
    exact Heap.get?_push_size _ rfl
  · have e : b = (s.heap.push { cls := .type "range", data := .fields #[.int lo t, .int hi u, .int 1 v] }).objs.size := by simpa using hb
    subst e
    exact I1.fpOk (Nat.le_refl _) (I1.hok.fresh (Nat.le_refl _))
def iRng1 (ta : TA) : TI := fun σ H R => ta σ H fun vs H1 => ∃ j : Int, vs = [.int j] ∧ -(2 ^ 62) ≤ j ∧ j < 2 ^ 62 ∧ R (Itr 0 j.toNat) H1
def iRng2 (ta : TA) : TI := fun σ H R => ta σ H fun vs H1 => ∃ i j : Int, vs = [.int i, .int j] ∧ (-(2 ^ 62) ≤ i ∧ i < 2 ^ 62 ∧ -(2 ^ 62) ≤ j ∧ j < 2 ^ 62) ∧ R (Itr i (j - i).toNat) H1
theorem pi_range1 {a : Expr} {ta : TA} {p pos : Pos} (hg : Gl X "range") (hm : X.mg "range" = none) (ha : PA X [a] ta) (hs : starEach [a] X.env = [(false, eval a X.env)] := by rfl) : PI X tg (.Call (.Name "range" p) [a] [] pos) (iRng1 ta) := by
  intro pins s σ H R I h
  refine Call_ (ld_blt I hg hm boot_range (PyProof.Rows.callWith_type1 (thn (ha pos pins s σ H _ I h) fun us s1 ⟨vs, H1, I1, r1, q1⟩ => ?_) hs rfl))
  obtain ⟨j, e, q1, q2, q⟩ := q1
  subst e
  cases r1 with
  | cons r rr =>
    cases rr
    obtain ⟨t, rfl⟩ := r
    exact call_range_1 (range_it I1 (by omega) (by omega) q1 q2 (by simpa using q))
theorem pi_range2 {a b : Expr} {ta : TA} {p pos : Pos} (hg : Gl X "range") (hm : X.mg "range" = none) (ha : PA X [a, b] ta) (hs : starEach [a, b] X.env = [(false, eval a X.env), (false, eval b X.env)] := by rfl) (hs2 : starEach [b] X.env = [(false, eval b X.env)] := by rfl) :
    PI X tg (.Call (.Name "range" p) [a, b] [] pos) (iRng2 ta) := by
  intro pins s σ H R I h
  refine Call_ (ld_blt I hg hm boot_range (PyProof.Rows.callWith_type1 (thn (ha pos pins s σ H _ I h) fun us s1 ⟨vs, H1, I1, r1, q1⟩ => ?_) (by rw [hs, hs2]) (by rw [hs2]; rfl)))
  obtain ⟨i, j, e, ⟨q1, q2, q3, q4⟩, q⟩ := q1
  subst e
  cases r1 with
  | cons r rr =>
    cases rr with
    | cons r' rr =>
      cases rr
      obtain ⟨t, rfl⟩ := r
      obtain ⟨t', rfl⟩ := r'
      exact call_range_2 (range_it I1 q1 q2 q3 q4 q)

/-! ### for -/
/-- W: the invariant by the turn and a measure; N: what the body is to reach -/
def tFor (wi : TI) (g : TG) (tb : TS) : TS := fun D σ H => wi σ H fun J H1 => ∃ W : Nat → Nat → St → Hp → Prop, (∃ m, W 0 m σ H1) ∧ ∀ i m σ H, W i m σ H →
  (J.stop i H ∧ D.nx σ H) ∨ (J.go i H ∧ ∃ N : St → Hp → Prop, (∀ σ' H', N σ' H' → ∃ m', m' < m ∧ W (i + 1) m' σ' H') ∧ ∀ x H', J.yld i H x H' → g x σ H' fun σ2 H2 => tb { D with nx := N, ct := N, bk := D.nx } σ2 H2)
/-- the records at fp as they stand -/
def pinsAt (fp : List Addr) (h : Heap) : List (Addr × Obj) := fp.filterMap fun b => (h.get? b).map fun o => (b, o)
theorem mem_pinsAt {fp : List Addr} {h : Heap} {b : Addr} {o : Obj} (hb : b ∈ fp) (e : h.get? b = some o) : (b, o) ∈ pinsAt fp h := List.mem_filterMap.mpr ⟨b, hb, by rw [e]; rfl⟩
theorem of_pinsAt {fp : List Addr} {h : Heap} {p : Addr × Obj} (hp : p ∈ pinsAt fp h) : p.1 ∈ fp ∧ h.get? p.1 = some p.2 := by
  obtain ⟨b, hb, e⟩ := List.mem_filterMap.mp hp
  cases q : h.get? b with
  | none => rw [q] at e; cases e
  | some o =>
    rw [q] at e
    have e' : (b, o) = p := Option.some.inj e
    subst e'
    exact ⟨hb, q⟩
theorem Inv.pinned {pins : List (Addr × Obj)} {σ : St} {H : Hp} {s : Shared} {fp : List Addr} (I : Inv X pins σ H s) (hf : ∀ b ∈ fp, FpOk X pins H b) (ho : ∀ b ∈ fp, ∃ o, s.heap.get? b = some o ∧ ∀ v, o.data ≠ .cell v) : Inv X (pins ++ pinsAt fp s.heap) σ H s :=
  I.pins_of fun p hp => (List.mem_append.mp hp).elim (fun z => I.pin p (List.mem_append_right _ z)) fun z => by
    obtain ⟨hb, e⟩ := of_pinsAt z
    obtain ⟨f0, f1, f2, _⟩ := hf p.1 hb
    obtain ⟨o, e', d⟩ := ho p.1 hb
    rw [e] at e'; cases e'
    exact ⟨e, f0, f1, f2, d⟩
theorem Inv.unpinned {pins pl : List (Addr × Obj)} {σ : St} {H : Hp} {s : Shared} (I : Inv X (pins ++ pl) σ H s) : Inv X pins σ H s := I.pins_of fun p hp => I.pin p (List.mem_append_right _ (List.mem_append_left _ hp))
theorem ps_for {iter : Expr} {body : List Stmt} {wi : TI} {g : TG} {tb : TS} {pos : Pos} (hp : PassesOwn (model X.prog X.w) X.A X.env X.xe) (hc : X.calm = true) (hi : PI X tg iter wi) (hg : PG X tg g) (hb : PSs X body tb)
    (hs : ∀ x, foldedSetIterable iter X.env x = pure x := by intro _; rfl) : PS X (.For tg iter body [] pos) (tFor wi g tb) := by
  intro pins s σ H D I h
  refine wpAny_For (thn (hi pins s σ H _ I h) fun v s1 h1 => thn h1 fun itv s2 h2 => ?_) hs
  obtain ⟨it, fp, tn, J, H2, e, I2, T, st2, f2, W, ⟨m0, w0⟩, turn⟩ := h2
  subst e
  -- what stays true of the iterator's objects through the loop
  have stat : ∀ {H' : Hp}, (∀ b ∈ fp, H' b = none) → ∀ b ∈ fp, FpOk X pins H' b := fun hn b hb => ⟨hn b hb, (f2 b hb).2⟩
  refine codeAny_forLoop_any (fun n s' => ∃ i σ' H', Inv X pins σ' H' s' ∧ tn i s'.heap ∧ (∀ b ∈ fp, H' b = none) ∧ W i n σ' H') ?_ m0 ⟨0, σ, H2, I2, st2, fun b hb => (f2 b hb).1, w0⟩
  rintro n s3 ⟨i, σ3, H3, I3, st3, fr3, w3⟩
  rcases turn i n σ3 H3 w3 with ⟨stop, qn⟩ | ⟨go, N, hN, step⟩
  · refine wpAny_passesOwn hp (thn (T.done X rfl rfl rfl hc i pins s3 σ3 H3 X.xe I3 (stat fr3) st3 stop) fun r s4 ⟨hr, I4⟩ => ?_)
    subst hr
    exact wpAny_execs_nil ⟨σ3, H3, I4, qn⟩
  · refine wpAny_passesOwn hp (thn (T.item X rfl rfl rfl hc i pins s3 σ3 H3 X.xe I3 (stat fr3) st3 go) fun r s4 ⟨u, hr, h4⟩ => ?_)
    subst hr
    refine wpAny_passesOwn hp (thn h4 fun _ s5 ⟨x, H5, I5, r5, y5, st5, fr5⟩ => ?_)
    have I5' := I5.pinned (stat fr5) (T.obj _ _ st5)
    refine wpAny_passesOwn hp (thn (hg _ s5 σ3 H5 x u _ I5' r5 (step x H5 y5)) fun _ s6 ⟨σ6, H6, I6, q6⟩ => ?_)
    refine wpAny_passesOwn hp (thn (hb _ s6 σ6 H6 _ I6 q6) fun f s7 q7 => ?_)
    have again : ∀ {σ7 : St} {H7 : Hp}, Inv X (pins ++ pinsAt fp s5.heap) σ7 H7 s7 → N σ7 H7 → ∃ m, m < n ∧ ∃ i σ' H', Inv X pins σ' H' s7 ∧ tn i s7.heap ∧ (∀ b ∈ fp, H' b = none) ∧ W i m σ' H' := fun {σ7 H7} I7 n7 => by
      obtain ⟨m', hm, w7⟩ := hN σ7 H7 n7
      refine ⟨m', hm, i + 1, σ7, H7, I7.unpinned, T.keep _ _ _ st5 fun b hb o e => (I7.pin (b, o) (List.mem_append_right _ (List.mem_append_right _ (mem_pinsAt hb e)))).1, fun b hb => ?_, w7⟩
      obtain ⟨o, e, d⟩ := T.obj _ _ st5 b hb
      exact (I7.pin (b, o) (List.mem_append_right _ (List.mem_append_right _ (mem_pinsAt hb e)))).2.1
    cases f with
    | next => obtain ⟨σ7, H7, I7, n7⟩ := q7; exact again I7 n7
    | cont => obtain ⟨σ7, H7, I7, n7⟩ := q7; exact again I7 n7
    | brk => obtain ⟨σ7, H7, I7, q7⟩ := q7; exact ⟨σ7, H7, I7.unpinned, q7⟩
    | ret v => obtain ⟨x7, σ7, H7, I7, r7, q7⟩ := q7; exact ⟨x7, σ7, H7, I7.unpinned, r7, q7⟩
end

/-! ### the forms one uses -/
/-- over a list that the body leaves as it is -/
theorem for_list {K : PySem.W.Frag} {a : Addr} {xs : List V} {g : TG} {tb : TS} {D : Ends} {σ : St} {H : Hp} (Pv : Nat → St → Hp → Prop) (h0 : Pv 0 σ H) (hl : ∀ i σ H, i ≤ xs.length → Pv i σ H → SqL K H a xs)
    (hs : ∀ i x σ H, xs[i]? = some x → Pv i σ H → g x σ H fun σ2 H2 => tb { D with nx := Pv (i + 1), ct := Pv (i + 1), bk := D.nx } σ2 H2) (hd : ∀ σ H, Pv xs.length σ H → D.nx σ H) :
    ∃ W : Nat → Nat → St → Hp → Prop, (∃ m, W 0 m σ H) ∧ ∀ i m σ H, W i m σ H →
      ((Itl K a).stop i H ∧ D.nx σ H) ∨ ((Itl K a).go i H ∧ ∃ N : St → Hp → Prop, (∀ σ' H', N σ' H' → ∃ m', m' < m ∧ W (i + 1) m' σ' H') ∧ ∀ x H', (Itl K a).yld i H x H' → g x σ H' fun σ2 H2 => tb { D with nx := N, ct := N, bk := D.nx } σ2 H2) := by
  refine ⟨fun i m σ H => m = xs.length - i ∧ i ≤ xs.length ∧ Pv i σ H, ⟨xs.length, by simp, Nat.zero_le _, h0⟩, ?_⟩
  rintro i m σ H ⟨rfl, hi, p⟩
  have q := hl i σ H hi p
  by_cases hlt : i < xs.length
  · refine .inr ⟨⟨xs, xs[i], q, by simp [hlt]⟩, Pv (i + 1), fun σ' H' p' => ⟨xs.length - (i + 1), by omega, rfl, hlt, p'⟩, fun x H' y => ?_⟩
    obtain ⟨e, y⟩ := y
    subst e
    exact hs i x σ _ (y xs q) p
  · have e : i = xs.length := by omega
    subst e
    exact .inl ⟨⟨xs, q, Nat.le_refl _⟩, hd σ H p⟩
theorem for_tup {K : PySem.W.Frag} {a : Addr} {xs : List V} {g : TG} {tb : TS} {D : Ends} {σ : St} {H : Hp} (Pv : Nat → St → Hp → Prop) (h0 : Pv 0 σ H) (hl : ∀ i σ H, i ≤ xs.length → Pv i σ H → SqT K H a xs)
    (hs : ∀ i x σ H, xs[i]? = some x → Pv i σ H → g x σ H fun σ2 H2 => tb { D with nx := Pv (i + 1), ct := Pv (i + 1), bk := D.nx } σ2 H2) (hd : ∀ σ H, Pv xs.length σ H → D.nx σ H) :
    ∃ W : Nat → Nat → St → Hp → Prop, (∃ m, W 0 m σ H) ∧ ∀ i m σ H, W i m σ H →
      ((Itt K a).stop i H ∧ D.nx σ H) ∨ ((Itt K a).go i H ∧ ∃ N : St → Hp → Prop, (∀ σ' H', N σ' H' → ∃ m', m' < m ∧ W (i + 1) m' σ' H') ∧ ∀ x H', (Itt K a).yld i H x H' → g x σ H' fun σ2 H2 => tb { D with nx := N, ct := N, bk := D.nx } σ2 H2) := by
  refine ⟨fun i m σ H => m = xs.length - i ∧ i ≤ xs.length ∧ Pv i σ H, ⟨xs.length, by simp, Nat.zero_le _, h0⟩, ?_⟩
  rintro i m σ H ⟨rfl, hi, p⟩
  have q := hl i σ H hi p
  by_cases hlt : i < xs.length
  · refine .inr ⟨⟨xs, xs[i], q, by simp [hlt]⟩, Pv (i + 1), fun σ' H' p' => ⟨xs.length - (i + 1), by omega, rfl, hlt, p'⟩, fun x H' y => ?_⟩
    obtain ⟨e, y⟩ := y
    subst e
    exact hs i x σ _ (y xs q) p
  · have e : i = xs.length := by omega
    subst e
    exact .inl ⟨⟨xs, q, Nat.le_refl _⟩, hd σ H p⟩
theorem for_range {lo : Int} {n : Nat} {g : TG} {tb : TS} {D : Ends} {σ : St} {H : Hp} (Pv : Nat → St → Hp → Prop) (h0 : Pv 0 σ H)
    (hs : ∀ i σ H, i < n → Pv i σ H → g (.int (lo + i)) σ H fun σ2 H2 => tb { D with nx := Pv (i + 1), ct := Pv (i + 1), bk := D.nx } σ2 H2) (hd : ∀ σ H, Pv n σ H → D.nx σ H) :
    ∃ W : Nat → Nat → St → Hp → Prop, (∃ m, W 0 m σ H) ∧ ∀ i m σ H, W i m σ H →
      ((Itr lo n).stop i H ∧ D.nx σ H) ∨ ((Itr lo n).go i H ∧ ∃ N : St → Hp → Prop, (∀ σ' H', N σ' H' → ∃ m', m' < m ∧ W (i + 1) m' σ' H') ∧ ∀ x H', (Itr lo n).yld i H x H' → g x σ H' fun σ2 H2 => tb { D with nx := N, ct := N, bk := D.nx } σ2 H2) := by
  refine ⟨fun i m σ H => m = n - i ∧ i ≤ n ∧ Pv i σ H, ⟨n, by simp, Nat.zero_le _, h0⟩, ?_⟩
  rintro i m σ H ⟨rfl, hi, p⟩
  by_cases hlt : i < n
  · refine .inr ⟨hlt, Pv (i + 1), fun σ' H' p' => ⟨n - (i + 1), by omega, rfl, hlt, p'⟩, fun x H' y => ?_⟩
    obtain ⟨e, y⟩ := y
    subst e y
    exact hs i σ _ hlt p
  · have e : i = n := by omega
    subst e
    exact .inl ⟨Nat.le_refl _, hd σ H p⟩
/-- while, by a word and a measure of the state -/
theorem while_by {c : TT} {tb : TS} {D : Ends} {σ : St} {H : Hp} (Pv : St → Hp → Prop) (μ : St → Hp → Nat) (h0 : Pv σ H)
    (hs : ∀ σ H, Pv σ H → c σ H fun b H1 => if b = true then tb { D with nx := fun σ' H' => Pv σ' H' ∧ μ σ' H' < μ σ H, ct := fun σ' H' => Pv σ' H' ∧ μ σ' H' < μ σ H, bk := D.nx } σ H1 else D.nx σ H1)
    (mono : ∀ σ H Q Q', (∀ b H1, Q b H1 → Q' b H1) → c σ H Q → c σ H Q') : tWhile c tb D σ H := by
  refine ⟨fun m σ H => m = μ σ H ∧ Pv σ H, ⟨_, rfl, h0⟩, ?_⟩
  rintro m σ H ⟨rfl, p⟩
  refine mono σ H _ _ (fun b H1 q => ?_) (hs σ H p)
  cases b with
  | true => exact ⟨_, fun σ' H' ⟨p', l⟩ => ⟨_, l, rfl, p'⟩, q⟩
  | false => exact q
end L2

namespace L2
open PySem PySem.Spec PyProof.Rows

abbrev R2 := V → V → Hp → VK → Prop
/-- a two-place operation on values: f is binaryOp op, inplaceOp op or compareOp op -/
def OpR (X : Cx) (f : Value → Value → Sem Value) (r : R2) : Prop :=
  ∀ (pins : List (Addr × Obj)) (s : Shared) (σ : St) (H : Hp) (x y : V) (v u : Value) (Q : VK), Inv X pins σ H s → RelV x v → RelV y u → r x y H Q →
    wpAny (model X.prog X.w) X.A (f v u) (EP X pins σ Q) X.xe s
/-- a one-place operation -/
def UnR (X : Cx) (f : Value → Sem Value) (r : V → Hp → VK → Prop) : Prop :=
  ∀ (pins : List (Addr × Obj)) (s : Shared) (σ : St) (H : Hp) (x : V) (v : Value) (Q : VK), Inv X pins σ H s → RelV x v → r x H Q →
    wpAny (model X.prog X.w) X.A (f v) (EP X pins σ Q) X.xe s
/-- a call of a value that is known (a builtin, a type) with values -/
def CallR (X : Cx) (f : Value) (r : List V → Hp → VK → Prop) : Prop :=
  ∀ (pins : List (Addr × Obj)) (s : Shared) (σ : St) (H : Hp) (xs : List V) (us : List Value) (Q : VK), Inv X pins σ H s → Vals xs us → r xs H Q →
    wpAny (model X.prog X.w) X.A (call f us) (EP X pins σ Q) X.xe s
/-- a value's truth -/
def TruR (X : Cx) (r : V → Hp → (Bool → Hp → Prop) → Prop) : Prop :=
  ∀ (pins : List (Addr × Obj)) (s : Shared) (σ : St) (H : Hp) (x : V) (v : Value) (Q : Bool → Hp → Prop), Inv X pins σ H s → RelV x v → r x H Q →
    wpAny (model X.prog X.w) X.A (truthy v) (TP X pins σ Q) X.xe s

def tOp (r : R2) (ta tb : TE) : TE := fun σ H Q => ta σ H fun x H1 => tb σ H1 fun y H2 => r x y H2 Q
def tUn (r : V → Hp → VK → Prop) (ta : TE) : TE := fun σ H Q => ta σ H fun x H1 => r x H1 Q
/-- ints in, under C, and a value out -/
def rI (C : Int → Int → Prop) (g : Int → Int → V) : R2 := fun x y H Q => ∃ i j, x = .int i ∧ y = .int j ∧ C i j ∧ Q (g i j) H
def rI0 (g : Int → Int → V) : R2 := fun x y H Q => ∃ i j, x = .int i ∧ y = .int j ∧ Q (g i j) H
def rU (g : Int → V) : V → Hp → VK → Prop := fun x H Q => ∃ i, x = .int i ∧ Q (g i) H

section
variable {X : Cx} {a b c : Expr} {ta tb tc : TE} {pos : Pos}

theorem binT (ha : PE X a ta) (hb : PE X b tb) {pins : List (Addr × Obj)} {s : Shared} {σ : St} {H : Hp} {R : V → V → Hp → Prop} (I : Inv X pins σ H s)
    (h : ta σ H fun x H1 => tb σ H1 fun y H2 => R x y H2) {Q : Value → Shared → Prop} {f : Value → Value → Sem Value}
    (hf : ∀ v u s2 x y H2, Inv X pins σ H2 s2 → RelV x v → RelV y u → R x y H2 → wpAny (model X.prog X.w) X.A (f v u) Q X.xe s2) :
    wpAny (model X.prog X.w) X.A (eval a X.env) (fun v s₁ => wpAny (model X.prog X.w) X.A (eval b X.env) (fun u s₂ => wpAny (model X.prog X.w) X.A (f v u) Q X.xe s₂) X.xe s₁) X.xe s := by
  refine thn (ha pins s σ H _ I h) fun v s1 ⟨x, H1, I1, r1, q1⟩ => ?_
  refine thn (hb pins s1 σ H1 _ I1 q1) fun u s2 ⟨y, H2, I2, r2, q2⟩ => ?_
  exact hf v u s2 x y H2 I2 r1 r2 q2

theorem pe_op {op : Operator} {r : R2} (ho : OpR X (binaryOp op) r) (ha : PE X a ta) (hb : PE X b tb) : PE X (.BinOp a op b pos) (tOp r ta tb) := by
  intro pins s σ H Q I h
  exact wpAny_BinOp (binT ha hb I h fun v u s2 x y H2 I2 rx ry q => ho pins s2 σ H2 x y v u Q I2 rx ry q)
theorem pe_un {op : UnaryOp} {r : V → Hp → VK → Prop} (ho : UnR X (unaryOp op) r) (ha : PE X a ta) : PE X (.UnaryOp op a pos) (tUn r ta) := by
  intro pins s σ H Q I h
  exact UnaryOp_ (thn (ha pins s σ H _ I h) fun v s1 ⟨x, H1, I1, r1, q1⟩ => ho pins s1 σ H1 x v Q I1 r1 q1)
/-- a op= e at a name: the name's slot i -/
theorem augR {op : Operator} {r : R2} (ho : OpR X (inplaceOp op) r) {pins : List (Addr × Obj)} {s : Shared} {σ : St} {H : Hp} {x y : V} {v u : Value} {Q : VK} (I : Inv X pins σ H s)
    (rx : RelV x v) (ry : RelV y u) (q : r x y H Q) : wpAny (model X.prog X.w) X.A (inplaceOp op v u) (EP X pins σ Q) X.xe s := ho pins s σ H x y v u Q I rx ry q

/-! ### ints -/
theorem opI {f : Value → Value → Sem Value} {C : Int → Int → Prop} {g : Int → Int → Int}
    (rule : ∀ (i j : Int) (t u : Tok) (s : Shared) (Q : Value → Shared → Prop) (E : Value → Shared → Prop), C i j → Q (.int (g i j) s.toks) { s with toks := s.toks + 1 } → wpAny (model X.prog X.w) X.A (f (.int i t) (.int j u)) Q E s) :
    OpR X f (rI C fun i j => .int (g i j)) := by
  intro pins s σ H x y v u Q I rx ry h
  obtain ⟨i, j, rfl, rfl, hc, q⟩ := h
  obtain ⟨t, rfl⟩ := rx
  obtain ⟨t', rfl⟩ := ry
  exact rule i j t t' s _ _ hc ⟨.int (g i j), H, I.tok _, ⟨_, rfl⟩, q⟩
theorem opI0 {f : Value → Value → Sem Value} {g : Int → Int → Int}
    (rule : ∀ (i j : Int) (t u : Tok) (s : Shared) (Q : Value → Shared → Prop) (E : Value → Shared → Prop), Q (.int (g i j) s.toks) { s with toks := s.toks + 1 } → wpAny (model X.prog X.w) X.A (f (.int i t) (.int j u)) Q E s) :
    OpR X f (rI0 fun i j => .int (g i j)) := by
  intro pins s σ H x y v u Q I rx ry h
  obtain ⟨i, j, rfl, rfl, q⟩ := h
  obtain ⟨t, rfl⟩ := rx
  obtain ⟨t', rfl⟩ := ry
  exact rule i j t t' s _ _ ⟨.int (g i j), H, I.tok _, ⟨_, rfl⟩, q⟩
theorem opB0 {f : Value → Value → Sem Value} {g : Int → Int → Bool}
    (rule : ∀ (i j : Int) (t u : Tok) (s : Shared) (Q : Value → Shared → Prop) (E : Value → Shared → Prop), Q (.bool (g i j)) s → wpAny (model X.prog X.w) X.A (f (.int i t) (.int j u)) Q E s) :
    OpR X f (rI0 fun i j => .bl (g i j)) := by
  intro pins s σ H x y v u Q I rx ry h
  obtain ⟨i, j, rfl, rfl, q⟩ := h
  obtain ⟨t, rfl⟩ := rx
  obtain ⟨t', rfl⟩ := ry
  exact rule i j t t' s _ _ ⟨.bl (g i j), H, I, rfl, q⟩

def CDiv (i j : Int) : Prop := 0 < j ∧ j < 1073741824
def CDivN (i j : Int) : Prop := j ≠ 0 ∧ j.natAbs < 1073741824
def CPow (i j : Int) : Prop := 0 ≤ j ∧ j ≤ 1000000 ∧ i.natAbs < 2 ^ 64
def CMul (i j : Int) : Prop := (-(2 ^ 64) < i ∧ i < 2 ^ 64) ∨ (-(2 ^ 64) < j ∧ j < 2 ^ 64)
theorem CMul.ok {i j : Int} (h : CMul i j) : IntMulOk i j := by
  rcases h with ⟨h1, h2⟩ | ⟨h1, h2⟩
  · exact .of_left (intBits_le_64 h1 h2)
  · exact .of_right (intBits_le_64 h1 h2)
theorem two_pow_nn (k : Nat) : (0 : Int) ≤ 2 ^ k := by
  rw [two_pow_cast]
  exact Int.natCast_nonneg _

theorem op_add : OpR X (binaryOp .Add) (rI0 fun i j => .int (i + j)) := opI0 fun _ _ _ _ _ _ _ q => add_int q
theorem op_sub : OpR X (binaryOp .Sub) (rI0 fun i j => .int (i - j)) := opI0 fun _ _ _ _ _ _ _ q => sub_int q
theorem op_mul : OpR X (binaryOp .Mult) (rI CMul fun i j => .int (i * j)) := opI fun _ _ _ _ _ _ _ hc q => mul_int q hc.ok
/-- // by a positive divisor -/
theorem op_fdiv : OpR X (binaryOp .FloorDiv) (rI CDiv fun i j => .int (i / j)) := opI fun i j _ _ _ _ _ hc q => by
  have h1 : (0 : Int) < j := hc.1
  have h2 : j < 1073741824 := hc.2
  exact floordiv_int (by omega) (by rw [Int.fdiv_eq_ediv_of_nonneg i (by omega)]; exact q) (.inl (PyProof.noPylong_small (by omega)))
theorem op_fdivN : OpR X (binaryOp .FloorDiv) (rI CDivN fun i j => .int (i.fdiv j)) := opI fun _ _ _ _ _ _ _ hc q => floordiv_int hc.1 q (.inl (PyProof.noPylong_small hc.2))
/-- % by a positive divisor of any size -/
theorem op_mod : OpR X (binaryOp .Mod) (rI (fun _ j => 0 < j) fun i j => .int (i % j)) := opI fun i j _ _ _ _ _ hc q => by
  have h1 : (0 : Int) < j := hc
  exact mod_int' (by omega) (by rw [Int.fmod_eq_emod_of_nonneg i (by omega)]; exact q)
theorem op_modN : OpR X (binaryOp .Mod) (rI (fun _ j => j ≠ 0) fun i j => .int (i.fmod j)) := opI fun _ _ _ _ _ _ _ hc q => mod_int' hc q
theorem op_pow : OpR X (binaryOp .Pow) (rI CPow fun i j => .int (i ^ j.toNat)) := opI fun _ _ _ _ _ _ _ hc q => pow_int_small hc.1 hc.2.1 hc.2.2 q
theorem op_shl : OpR X (binaryOp .LShift) (rI CPow fun i j => .int (i * 2 ^ j.toNat)) := opI fun _ _ _ _ _ _ _ hc q => lshift_int_small hc.1 hc.2.1 hc.2.2 q
theorem op_shr : OpR X (binaryOp .RShift) (rI (fun _ j => 0 ≤ j) fun i j => .int (i / 2 ^ j.toNat)) := opI fun i j _ _ _ _ _ hc q =>
  rshift_int hc (by rw [Int.fdiv_eq_ediv_of_nonneg i (two_pow_nn _)]; exact q)
theorem op_and : OpR X (binaryOp .BitAnd) (rI0 fun i j => .int (Builtin.bitAnd i j)) := opI0 fun _ _ _ _ _ _ _ q => and_int q
theorem op_or : OpR X (binaryOp .BitOr) (rI0 fun i j => .int (Builtin.bitOr i j)) := opI0 fun _ _ _ _ _ _ _ q => or_int q
theorem op_xor : OpR X (binaryOp .BitXor) (rI0 fun i j => .int (Builtin.bitXor i j)) := opI0 fun _ _ _ _ _ _ _ q => xor_int q

theorem iop_add : OpR X (inplaceOp .Add) (rI0 fun i j => .int (i + j)) := opI0 fun _ _ _ _ _ _ _ q => iadd_int q
theorem iop_sub : OpR X (inplaceOp .Sub) (rI0 fun i j => .int (i - j)) := opI0 fun _ _ _ _ _ _ _ q => isub_int q
theorem iop_mul : OpR X (inplaceOp .Mult) (rI CMul fun i j => .int (i * j)) := opI fun _ _ _ _ _ _ _ hc q => imul_int q hc.ok
theorem iop_fdiv : OpR X (inplaceOp .FloorDiv) (rI CDiv fun i j => .int (i / j)) := opI fun i j _ _ _ _ _ hc q => by
  have h1 : (0 : Int) < j := hc.1
  have h2 : j < 1073741824 := hc.2
  exact ifloordiv_int (by omega) (by rw [Int.fdiv_eq_ediv_of_nonneg i (by omega)]; exact q) (.inl (PyProof.noPylong_small (by omega)))
theorem iop_mod : OpR X (inplaceOp .Mod) (rI (fun _ j => 0 < j) fun i j => .int (i % j)) := opI fun i j _ _ _ _ _ hc q => by
  have h1 : (0 : Int) < j := hc
  exact imod_int (by omega) (by rw [Int.fmod_eq_emod_of_nonneg i (by omega)]; exact q)
theorem iop_shl : OpR X (inplaceOp .LShift) (rI CPow fun i j => .int (i * 2 ^ j.toNat)) := opI fun _ _ _ _ _ _ _ hc q => ilshift_int_small hc.1 hc.2.1 hc.2.2 q
theorem iop_shr : OpR X (inplaceOp .RShift) (rI (fun _ j => 0 ≤ j) fun i j => .int (i / 2 ^ j.toNat)) := opI fun i j _ _ _ _ _ hc q =>
  irshift_int hc (by rw [Int.fdiv_eq_ediv_of_nonneg i (two_pow_nn _)]; exact q)
theorem iop_and : OpR X (inplaceOp .BitAnd) (rI0 fun i j => .int (Builtin.bitAnd i j)) := opI0 fun _ _ _ _ _ _ _ q => iand_int q
theorem iop_or : OpR X (inplaceOp .BitOr) (rI0 fun i j => .int (Builtin.bitOr i j)) := opI0 fun _ _ _ _ _ _ _ q => ior_int q
theorem iop_xor : OpR X (inplaceOp .BitXor) (rI0 fun i j => .int (Builtin.bitXor i j)) := opI0 fun _ _ _ _ _ _ _ q => ixor_int q

theorem unI {f : Value → Sem Value} {g : Int → Int}
    (rule : ∀ (i : Int) (t : Tok) (s : Shared) (Q : Value → Shared → Prop) (E : Value → Shared → Prop), Q (.int (g i) s.toks) { s with toks := s.toks + 1 } → wpAny (model X.prog X.w) X.A (f (.int i t)) Q E s) :
    UnR X f (rU fun i => .int (g i)) := by
  intro pins s σ H x v Q I rx h
  obtain ⟨i, rfl, q⟩ := h
  obtain ⟨t, rfl⟩ := rx
  exact rule i t s _ _ ⟨.int (g i), H, I.tok _, ⟨_, rfl⟩, q⟩
theorem un_neg : UnR X (unaryOp .USub) (rU fun i => .int (-i)) := unI fun _ _ _ _ _ q => neg_int q
theorem un_inv : UnR X (unaryOp .Invert) (rU fun i => .int (Builtin.bitNot i)) := unI fun _ _ _ _ _ q => invert_int q

/-! ### bools among ints: n += (a < b) -/
theorem op_add_ib : OpR X (binaryOp .Add) (fun x y H Q => ∃ i k, x = .int i ∧ y = .bl k ∧ Q (.int (i + b2i k)) H) := by
  intro pins s σ H x y v u Q I rx ry h
  obtain ⟨i, k, rfl, rfl, q⟩ := h
  obtain ⟨t, rfl⟩ := rx
  cases ry
  exact add_int_bool ⟨.int (i + b2i k), H, I.tok _, ⟨_, rfl⟩, q⟩
end

/-! ### comparisons -/
/-- the scalars that == tells apart as data does -/
def scal : V → V → Bool
  | .non, .non => true | .non, .int _ => true | .int _, .non => true | .non, .bl _ => true | .bl _, .non => true | .non, .str _ => true | .str _, .non => true
  | .int _, .int _ => true | .bl _, .bl _ => true | .str _, .str _ => true | .byt _, .byt _ => true
  | .int _, .str _ => true | .str _, .int _ => true | .bl _, .str _ => true | .str _, .bl _ => true
  | _, _ => false
def rEq : R2 := fun x y H Q => scal x y = true ∧ Q (.bl (decide (x = y))) H
def rNe : R2 := fun x y H Q => scal x y = true ∧ Q (.bl (!decide (x = y))) H

theorem dec_int {i j : Int} : decide (V.int i = V.int j) = (i == j) := by
  rw [Bool.eq_iff_iff]
  simp
theorem dec_bl {i j : Bool} : decide (V.bl i = V.bl j) = (i == j) := by
  rw [Bool.eq_iff_iff]
  simp
theorem dec_str {i j : Str} : decide (V.str i = V.str j) = (i == j) := by
  rw [Bool.eq_iff_iff]
  simp
theorem dec_byt {i j : Array UInt8} : decide (V.byt i = V.byt j) = (i.toList == j.toList) := by
  rw [Bool.eq_iff_iff]
  cases i
  cases j
  simp

section
variable {X : Cx} {a b c : Expr} {ta tb tc : TE} {pos : Pos}
theorem fin_bl {pins : List (Addr × Obj)} {σ : St} {H : Hp} {s : Shared} {Q : VK} {k k' : Bool} (I : Inv X pins σ H s) (q : Q (.bl k) H) (e : k = k') : EP X pins σ Q (.bool k') s := by
  subst e
  exact ⟨.bl k, H, I, rfl, q⟩
theorem op_eq : OpR X (compareOp .Eq) rEq := by
  intro pins s σ H x y v u Q I rx ry h
  obtain ⟨hs, q⟩ := h
  cases x with
  | non =>
    cases rx
    cases y with
    | non => cases ry; exact PySem.EqNone.eq_none_none (fin_bl I q (by simp))
    | bl j => cases ry; exact PySem.EqNone.eq_none_bool (fin_bl I q (by simp))
    | int j => obtain ⟨t', rfl⟩ := ry; exact PySem.EqNone.eq_none_int (fin_bl I q (by simp))
    | str j => obtain ⟨t', rfl⟩ := ry; exact PySem.EqNone.eq_none_str (fin_bl I q (by simp))
    | _ => exact absurd (show false = true from hs) Bool.false_ne_true
  | bl i =>
    cases rx
    cases y with
    | non => cases ry; exact PySem.EqNone.eq_bool_none (fin_bl I q (by simp))
    | bl j => cases ry; exact eq_bool (fin_bl I q dec_bl)
    | str j => obtain ⟨t', rfl⟩ := ry; exact PySem.EqMixed.eq_bool_str (fin_bl I q (by simp))
    | _ => exact absurd (show false = true from hs) Bool.false_ne_true
  | int i =>
    obtain ⟨t, rfl⟩ := rx
    cases y with
    | non => cases ry; exact PySem.EqNone.eq_int_none (fin_bl I q (by simp))
    | int j => obtain ⟨t', rfl⟩ := ry; exact eq_int (fin_bl I q dec_int)
    | str j => obtain ⟨t', rfl⟩ := ry; exact PySem.EqMixed.eq_int_str (fin_bl I q (by simp))
    | _ => exact absurd (show false = true from hs) Bool.false_ne_true
  | str i =>
    obtain ⟨t, rfl⟩ := rx
    cases y with
    | non => cases ry; exact PySem.EqNone.eq_str_none (fin_bl I q (by simp))
    | bl j => cases ry; exact PySem.EqMixed.eq_str_bool (fin_bl I q (by simp))
    | int j => obtain ⟨t', rfl⟩ := ry; exact PySem.EqMixed.eq_str_int (fin_bl I q (by simp))
    | str j => obtain ⟨t', rfl⟩ := ry; exact eq_str (fin_bl I q dec_str)
    | _ => exact absurd (show false = true from hs) Bool.false_ne_true
  | byt i =>
    obtain ⟨t, rfl⟩ := rx
    cases y with
    | byt j => obtain ⟨t', rfl⟩ := ry; exact PySem.W.eq_bytes (fin_bl I q dec_byt)
    | _ => exact absurd (show false = true from hs) Bool.false_ne_true
  | _ => cases y <;> exact absurd (show false = true from hs) Bool.false_ne_true
theorem op_ne : OpR X (compareOp .NotEq) rNe := by
  intro pins s σ H x y v u Q I rx ry h
  obtain ⟨hs, q⟩ := h
  cases x with
  | non =>
    cases rx
    cases y with
    | non => cases ry; exact PySem.EqNone.ne_none_none (fin_bl I q (by simp))
    | bl j => cases ry; exact PySem.EqNone.ne_none_bool (fin_bl I q (by simp))
    | int j => obtain ⟨t', rfl⟩ := ry; exact PySem.EqNone.ne_none_int (fin_bl I q (by simp))
    | str j => obtain ⟨t', rfl⟩ := ry; exact PySem.EqNone.ne_none_str (fin_bl I q (by simp))
    | _ => exact absurd (show false = true from hs) Bool.false_ne_true
  | bl i =>
    cases rx
    cases y with
    | non => cases ry; exact PySem.EqNone.ne_bool_none (fin_bl I q (by simp))
    | bl j => cases ry; exact ne_bool (fin_bl I q (congrArg not dec_bl))
    | str j => obtain ⟨t', rfl⟩ := ry; exact PySem.EqMixed.ne_bool_str (fin_bl I q (by simp))
    | _ => exact absurd (show false = true from hs) Bool.false_ne_true
  | int i =>
    obtain ⟨t, rfl⟩ := rx
    cases y with
    | non => cases ry; exact PySem.EqNone.ne_int_none (fin_bl I q (by simp))
    | int j => obtain ⟨t', rfl⟩ := ry; exact ne_int (fin_bl I q (congrArg not dec_int))
    | str j => obtain ⟨t', rfl⟩ := ry; exact PySem.EqMixed.ne_int_str (fin_bl I q (by simp))
    | _ => exact absurd (show false = true from hs) Bool.false_ne_true
  | str i =>
    obtain ⟨t, rfl⟩ := rx
    cases y with
    | non => cases ry; exact PySem.EqNone.ne_str_none (fin_bl I q (by simp))
    | bl j => cases ry; exact PySem.EqMixed.ne_str_bool (fin_bl I q (by simp))
    | int j => obtain ⟨t', rfl⟩ := ry; exact PySem.EqMixed.ne_str_int (fin_bl I q (by simp))
    | str j => obtain ⟨t', rfl⟩ := ry; exact ne_str (fin_bl I q (congrArg not dec_str))
    | _ => exact absurd (show false = true from hs) Bool.false_ne_true
  | byt i =>
    obtain ⟨t, rfl⟩ := rx
    cases y with
    | byt j => obtain ⟨t', rfl⟩ := ry; exact PySem.W.ne_bytes (fin_bl I q (congrArg not dec_byt))
    | _ => exact absurd (show false = true from hs) Bool.false_ne_true
  | _ => cases y <;> exact absurd (show false = true from hs) Bool.false_ne_true

theorem op_lt : OpR X (compareOp .Lt) (rI0 fun i j => .bl (decide (i < j))) := opB0 fun _ _ _ _ _ _ _ q => lt_int q
theorem op_le : OpR X (compareOp .LtE) (rI0 fun i j => .bl (decide (i ≤ j))) := opB0 fun _ _ _ _ _ _ _ q => le_int q
theorem op_gt : OpR X (compareOp .Gt) (rI0 fun i j => .bl (decide (j < i))) := opB0 fun _ _ _ _ _ _ _ q => gt_int q
theorem op_ge : OpR X (compareOp .GtE) (rI0 fun i j => .bl (decide (j ≤ i))) := opB0 fun _ _ _ _ _ _ _ q => ge_int q
theorem op_lt_str : OpR X (compareOp .Lt) (fun x y H Q => ∃ i j, x = .str i ∧ y = .str j ∧ Q (.bl (decide (i.cps.toList < j.cps.toList))) H) := by
  intro pins s σ H x y v u Q I rx ry h
  obtain ⟨i, j, rfl, rfl, q⟩ := h
  obtain ⟨t, rfl⟩ := rx
  obtain ⟨t', rfl⟩ := ry
  exact lt_str (fin_bl I q rfl)
/-- the one string within the other -/
theorem op_in_str : OpR X (compareOp .In) (fun x y H Q => ∃ i j, x = .str i ∧ y = .str j ∧ Q (.bl (!(Builtin.Str.occurrences j i 0 j.length 1).isEmpty)) H) := by
  intro pins s σ H x y v u Q I rx ry h
  obtain ⟨i, j, rfl, rfl, q⟩ := h
  obtain ⟨t, rfl⟩ := rx
  obtain ⟨t', rfl⟩ := ry
  exact in_str (fin_bl I q rfl)

/-- is None, is not None: the right side a value none -/
theorem op_isN : OpR X (compareOp .Is) (fun x y H Q => y = .non ∧ Q (.bl (decide (x = .non))) H) := by
  intro pins s σ H x y v u Q I rx ry h
  obtain ⟨rfl, q⟩ := h
  cases ry
  refine is_none_gen (fin_bl I q ?_)
  cases x <;> first
    | (cases rx; rfl)
    | (obtain ⟨t, rfl⟩ := rx; rfl)
theorem op_notN : OpR X (compareOp .IsNot) (fun x y H Q => y = .non ∧ Q (.bl (!decide (x = .non))) H) := by
  intro pins s σ H x y v u Q I rx ry h
  obtain ⟨rfl, q⟩ := h
  cases ry
  refine isnot_none_gen (fin_bl I q ?_)
  cases x <;> first
    | (cases rx; rfl)
    | (obtain ⟨t, rfl⟩ := rx; rfl)

theorem op_notin_str : OpR X (compareOp .NotIn) (fun x y H Q => ∃ i j, x = .str i ∧ y = .str j ∧ Q (.bl (!(!(Builtin.Str.occurrences j i 0 j.length 1).isEmpty))) H) := by
  intro pins s σ H x y v u Q I rx ry h
  obtain ⟨i, j, rfl, rfl, q⟩ := h
  obtain ⟨t, rfl⟩ := rx
  obtain ⟨t', rfl⟩ := ry
  exact notIn_str (fin_bl I q rfl)
/-- is, is not of two objects that are tracked lists or instances -/
def isObj : HO → Bool
  | .lst _ => true
  | .ins _ _ _ => true
  | _ => false
theorem obj_there {pins : List (Addr × Obj)} {s : Shared} {σ : St} {H : Hp} {a : Addr} {o : HO} (I : Inv X pins σ H s) (h : H a = some o) (p : isObj o = true) : ∃ ob, s.heap.get? a = some ob ∧ ob.cls ≠ .type "tuple" := by
  cases o with
  | lst xs =>
    obtain ⟨_, its, n, _, e⟩ : xs.length ≤ sizeLine ∧ ∃ (its : List Value) (n : Nat), Vals xs its ∧ s.heap.get? a = some { cls := .type "list", data := .seq its.toArray n } := I.hok a _ h
    exact ⟨_, e, (by show Value.type "list" ≠ .type "tuple"; decide +kernel)⟩
  | ins C dx fs =>
    have x := I.hok a _ h
    obtain ⟨_, _, _, e, _⟩ := x
    exact ⟨_, e, (by show Value.ref C ≠ .type "tuple"; exact fun z => by cases z)⟩
  | _ => exact absurd (show false = true from p) Bool.false_ne_true
theorem op_is_ref : OpR X (compareOp .Is) (fun x y H Q => ∃ a b oa ob, x = .ref a ∧ y = .ref b ∧ H a = some oa ∧ isObj oa = true ∧ H b = some ob ∧ isObj ob = true ∧ Q (.bl (decide (a = b))) H) := by
  intro pins s σ H x y v u Q I rx ry h
  obtain ⟨a, b, oa, ob, rfl, rfl, ha, pa, hb, pb, q⟩ := h
  cases rx
  cases ry
  obtain ⟨o1, e1, n1⟩ := obj_there I ha pa
  obtain ⟨o2, e2, _⟩ := obj_there I hb pb
  by_cases z : a = b
  · subst z
    exact wpAny_is_ref_self (fin_bl I q (by simp))
  · exact wpAny_is_ref_other z e1 e2 n1 (fin_bl I q (by simp [z]))
theorem op_isnot_ref : OpR X (compareOp .IsNot) (fun x y H Q => ∃ a b oa ob, x = .ref a ∧ y = .ref b ∧ H a = some oa ∧ isObj oa = true ∧ H b = some ob ∧ isObj ob = true ∧ Q (.bl (!decide (a = b))) H) := by
  intro pins s σ H x y v u Q I rx ry h
  obtain ⟨a, b, oa, ob, rfl, rfl, ha, pa, hb, pb, q⟩ := h
  cases rx
  cases ry
  obtain ⟨o1, e1, n1⟩ := obj_there I ha pa
  obtain ⟨o2, e2, _⟩ := obj_there I hb pb
  by_cases z : a = b
  · subst z
    exact wpAny_isNot_ref_self (fin_bl I q (by simp))
  · exact wpAny_isNot_ref_other z e1 e2 n1 (fin_bl I q (by simp [z]))

/-- two rules for one operation: by cases -/
theorem OpR.or {f : Value → Value → Sem Value} {r r' : R2} (h : OpR X f r) (h' : OpR X f r') : OpR X f (fun x y H Q => r x y H Q ∨ r' x y H Q) := by
  intro pins s σ H x y v u Q I rx ry q
  rcases q with q | q
  · exact h pins s σ H x y v u Q I rx ry q
  · exact h' pins s σ H x y v u Q I rx ry q

theorem nomark (b : Expr) {op : CmpOp} (h : op ≠ .In := by decide) (h2 : op ≠ .NotIn := by decide) : behindInMarks op b = false := by
  have e1 : (op == CmpOp.In) = false := by cases op <;> first | rfl | exact absurd rfl h
  have e2 : (op == CmpOp.NotIn) = false := by cases op <;> first | rfl | exact absurd rfl h2
  cases b <;> simp [behindInMarks, e1, e2]
/-- a comparison as a value; hm: nomark b, or (for in, not in) by with_unfolding_all rfl -/
theorem pe_cmpR {op : CmpOp} {r : R2} (ho : OpR X (compareOp op) r) (ha : PE X a ta) (hb : PE X b tb) (hm : behindInMarks op b = false) : PE X (.Compare a [op] [b] pos) (tOp r ta tb) := by
  intro pins s σ H Q I h
  exact wpAny_Compare1 (binT ha hb I h fun v u s2 x y H2 I2 rx ry q => ho pins s2 σ H2 x y v u Q I2 rx ry q) hm
/-- a reading of a value as a test -/
def tTest (t : TE) : TT := fun σ H Q => t σ H fun x H' => ∃ k, x = .bl k ∧ Q k H'
theorem pt_cmpR {op : CmpOp} {r : R2} (ho : OpR X (compareOp op) r) (ha : PE X a ta) (hb : PE X b tb) (hm : behindInMarks op b = false) : PT X (.Compare a [op] [b] pos) (tTest (tOp r ta tb)) := by
  intro pins s σ H Q I h
  refine wpAny_isTrue_Compare1 (thn (ha pins s σ H _ I h) fun v s1 ⟨x, H1, I1, r1, q1⟩ => thn (hb pins s1 σ H1 _ I1 q1) fun u s2 ⟨y, H2, I2, r2, q2⟩ =>
    thn (ho pins s2 σ H2 x y v u _ I2 r1 r2 q2) fun c s3 ⟨z, H3, I3, r3, k, e, q3⟩ => ?_) hm
  subst e
  cases r3
  exact wpAny_truthy_bool ⟨H3, I3, q3⟩
/-- a op1 b op2 c -/
def tChain (r r' : R2) (ta tb tc : TE) : TE := fun σ H Q => ta σ H fun x H1 => tb σ H1 fun y H2 => r x y H2 fun z H3 => ∃ k, z = .bl k ∧
  (if k = true then tc σ H3 fun w' H4 => r' y w' H4 Q else Q (.bl false) H3)
theorem pe_chain {op op' : CmpOp} {r r' : R2} (ho : OpR X (compareOp op) r) (ho' : OpR X (compareOp op') r') (ha : PE X a ta) (hb : PE X b tb) (hc : PE X c tc)
    (hm : lastMarks [op, op'] [b, c] = false := by with_unfolding_all rfl) : PE X (.Compare a [op, op'] [b, c] pos) (tChain r r' ta tb tc) := by
  intro pins s σ H Q I h
  refine Compare_chain (thn (ha pins s σ H _ I h) fun v s1 ⟨x, H1, I1, r1, q1⟩ => chain_link (thn (hb pins s1 σ H1 _ I1 q1) fun u s2 ⟨y, H2, I2, r2, q2⟩ =>
    thn (ho pins s2 σ H2 x y v u _ I2 r1 r2 q2) fun d s3 ⟨z, H3, I3, r3, k, e, q3⟩ => ?_)) hm
  subst e
  cases r3
  refine wpAny_truthy_bool ?_
  cases k with
  | false => exact ite_ff ⟨.bl false, H3, I3, rfl, q3⟩
  | true => exact ite_tt (chain_last (thn (hc pins s3 σ H3 _ I3 q3) fun w' s4 ⟨z', H4, I4, r4, q4⟩ => ho' pins s4 σ H4 y z' u w' Q I4 r2 r4 q4))
theorem pt_chain {op op' : CmpOp} {r r' : R2} (ho : OpR X (compareOp op) r) (ho' : OpR X (compareOp op') r') (ha : PE X a ta) (hb : PE X b tb) (hc : PE X c tc)
    (hm : lastMarks [op, op'] [b, c] = false := by with_unfolding_all rfl) : PT X (.Compare a [op, op'] [b, c] pos) (tTest (tChain r r' ta tb tc)) := by
  intro pins s σ H Q I h
  refine isTrue_chain (thn (ha pins s σ H _ I h) fun v s1 ⟨x, H1, I1, r1, q1⟩ => test_link (thn (hb pins s1 σ H1 _ I1 q1) fun u s2 ⟨y, H2, I2, r2, q2⟩ =>
    thn (ho pins s2 σ H2 x y v u _ I2 r1 r2 q2) fun d s3 ⟨z, H3, I3, r3, k, e, q3⟩ => ?_)) hm
  subst e
  cases r3
  refine wpAny_truthy_bool ?_
  cases k with
  | false =>
    obtain ⟨k', e', q'⟩ := q3
    cases e'
    exact ite_ff ⟨H3, I3, q'⟩
  | true =>
    refine ite_tt (test_last (thn (hc pins s3 σ H3 _ I3 q3) fun w' s4 ⟨z', H4, I4, r4, q4⟩ => thn (ho' pins s4 σ H4 y z' u w' _ I4 r2 r4 q4) fun d' s5 ⟨z2, H5, I5, r5, k2, e2, q5⟩ => ?_))
    subst e2
    cases r5
    exact wpAny_truthy_bool ⟨H5, I5, q5⟩

/-! ### truth -/
/-- a value's truth by the abstract heap -/
def TruV (K : PySem.W.Frag) (x : V) (H : Hp) (k : Bool) : Prop :=
  match x with
  | .non => k = false
  | .bl b => k = b
  | .int i => k = (i != 0)
  | .str y => y.length ≤ sizeLine ∧ k = ((y.length : Int) != 0)
  | .byt y => y.size ≤ sizeLine ∧ k = ((y.size : Int) != 0)
  | .ref p => (∃ xs, SqL K H p xs ∧ k = !xs.isEmpty) ∨ (∃ xs, SqT K H p xs ∧ k = !xs.isEmpty) ∨ ∃ kvs, H p = some (.dK kvs) ∧ k = !kvs.isEmpty
  | _ => False
theorem isEmpty_kv {κ : Type} {kvs : List (κ × V)} {vs : List (κ × Value)} (r : KV kvs vs) : (!vs.isEmpty) = !kvs.isEmpty := by
  cases r <;> rfl
theorem isEmpty_of {xs : List V} {its : List Value} (r : Vals xs its) : (!its.toArray.isEmpty) = !xs.isEmpty := by
  cases r <;> simp
theorem line63 : (sizeLine : Nat) < 2 ^ 63 := by rw [sizeLine_eq]; decide
theorem tru_ok : TruR X (fun x H Q => ∃ k, TruV X.K x H k ∧ Q k H) := by
  intro pins s σ H x v Q I rx h
  obtain ⟨k, e, q⟩ := h
  have hl := line63
  have hs : sizeLine = 16777216 := sizeLine_eq
  cases x with
  | non =>
    cases rx
    have e' : k = false := e
    subst e'
    exact truthy_none ⟨H, I, q⟩
  | bl b =>
    cases rx
    have e' : k = b := e
    subst e'
    exact wpAny_truthy_bool ⟨H, I, q⟩
  | int i =>
    obtain ⟨t, rfl⟩ := rx
    have e' : k = (i != 0) := e
    subst e'
    exact PySem.P.truthy_int ⟨H, I, q⟩
  | str y =>
    obtain ⟨t, rfl⟩ := rx
    obtain ⟨hy, e'⟩ : y.length ≤ sizeLine ∧ k = ((y.length : Int) != 0) := e
    subst e'
    exact PySem.P.truthy_str (by omega) ⟨H, I.tok _, q⟩
  | byt y =>
    obtain ⟨t, rfl⟩ := rx
    obtain ⟨hy, e'⟩ : y.size ≤ sizeLine ∧ k = ((y.size : Int) != 0) := e
    subst e'
    exact PySem.W.truthy_bytes (by omega) ⟨H, I.tok _, q⟩
  | ref p =>
    cases rx
    have e' : (∃ xs, SqL X.K H p xs ∧ k = !xs.isEmpty) ∨ (∃ xs, SqT X.K H p xs ∧ k = !xs.isEmpty) ∨ ∃ kvs, H p = some (.dK kvs) ∧ k = !kvs.isEmpty := e
    rcases e' with ⟨xs, hx, e'⟩ | ⟨xs, hx, e'⟩ | ⟨kvs, hx, e'⟩
    · subst e'
      obtain ⟨its, r, pl, hz⟩ := I.list hx
      have hlen := r.length
      exact wpAny_truthy_list pl.isList (by simp only [List.size_toArray]; omega) ⟨H, I.tok _, by rw [isEmpty_of r]; exact q⟩
    · subst e'
      obtain ⟨its, r, pl, hz⟩ := I.tuple hx
      have hlen := r.length
      exact truthy_tuple pl (by simp only [List.size_toArray]; omega) ⟨H, I.tok _, by rw [isEmpty_of r]; exact q⟩
    · subst e'
      obtain ⟨hz, hS, vs, r, m⟩ : kvs.length ≤ sizeLine ∧ (p == sysModules) = false ∧ ∃ vs, KV kvs vs ∧ s.heap.DictOf (mixKind X.prog X.w) p vs := I.hok p _ hx
      have hlen : kvs.length = vs.length := Paired.length r
      exact wpAny_truthy_dict hS m (by omega) ⟨H, I.tok _, by rw [isEmpty_kv r]; exact q⟩
  | _ => exact (show False from e).elim
/-- any expression whose test is its value's truth (a name, a call, a subscript, a field ..: he by fun _ => rfl) -/
theorem pt_truth (ha : PE X a ta) (he : ∀ whole, isTrue a X.env whole = (do let v ← whole; standAt a.pos; holding [v] (truthy v))) :
    PT X a (fun σ H Q => ta σ H fun x H' => ∃ k, TruV X.K x H' k ∧ Q k H') := by
  intro pins s σ H Q I h
  exact isTrue_plain (thn (ha pins s σ H _ I h) fun v s1 ⟨x, H1, I1, r1, q1⟩ => tru_ok pins s1 σ H1 x v Q I1 r1 q1) (he _)

/-! ### strs and bytes -/
theorem pe_byt {x : List UInt8} {k : Nat} : PE X (.Constant (.bytes x) k pos) (fun _ H Q => Q (.byt x.toArray) H) := fun _ _ _ H _ I h => PySem.W.Constant_bytes ⟨.byt x.toArray, H, I.tok _, ⟨_, rfl⟩, h⟩
theorem op_add_str : OpR X (binaryOp .Add) (fun x y H Q => ∃ i j, x = .str i ∧ y = .str j ∧ i.length + j.length ≤ sizeLine ∧ Q (.str (i ++ j)) H) := by
  intro pins s σ H x y v u Q I rx ry h
  obtain ⟨i, j, rfl, rfl, hz, q⟩ := h
  obtain ⟨t, rfl⟩ := rx
  obtain ⟨t', rfl⟩ := ry
  exact add_str (fun t' tk => ⟨.str (i ++ j), H, I.tok _, ⟨_, rfl⟩, q⟩) hz
theorem iop_add_str : OpR X (inplaceOp .Add) (fun x y H Q => ∃ i j, x = .str i ∧ y = .str j ∧ i.length + j.length ≤ sizeLine ∧ Q (.str (i ++ j)) H) := by
  intro pins s σ H x y v u Q I rx ry h
  obtain ⟨i, j, rfl, rfl, hz, q⟩ := h
  obtain ⟨t, rfl⟩ := rx
  obtain ⟨t', rfl⟩ := ry
  exact iadd_str (fun t' tk => ⟨.str (i ++ j), H, I.tok _, ⟨_, rfl⟩, q⟩) hz
theorem op_add_byt : OpR X (binaryOp .Add) (fun x y H Q => ∃ i j, x = .byt i ∧ y = .byt j ∧ i.size + j.size ≤ 16777216 ∧ Q (.byt (i ++ j)) H) := by
  intro pins s σ H x y v u Q I rx ry h
  obtain ⟨i, j, rfl, rfl, hz, q⟩ := h
  obtain ⟨t, rfl⟩ := rx
  obtain ⟨t', rfl⟩ := ry
  exact PySem.W.KBy.add_bytes hz (fun t' tk => ⟨.byt (i ++ j), H, I.tok _, ⟨_, rfl⟩, q⟩)

def PlainIxT (b : Expr) : Prop := ∀ o i, subscripted b false o i = operate [o, i] (getItem o i)
/-- s[i], 0 ≤ i < len -/
theorem pe_item_str (ha : PE X a ta) (hb : PE X b tb) (hs : PlainIxT b) :
    PE X (.Subscript a b pos) (tOp (fun x y H Q => ∃ z i c, x = .str z ∧ y = .int i ∧ 0 ≤ i ∧ i < 2 ^ 63 ∧ i < z.length ∧ z.cps[i.toNat]? = some c ∧ Q (.str ⟨#[c]⟩) H) ta tb) := by
  intro pins s σ H Q I h
  refine Subscript_ (binT ha hb I h fun v u s2 x y H2 I2 rx ry q => ?_)
  obtain ⟨z, i, c, rfl, rfl, h0, h63, h1, hc, q⟩ := q
  obtain ⟨t, rfl⟩ := rx
  obtain ⟨t', rfl⟩ := ry
  have e : seqIndex? i z.length = some i.toNat := PySem.StrLaws.seqIndex_nonneg h0 h1
  exact tail_any (typeIs_str s2 z t) slot_str_getitem.lookup (getItem_str (c := c) (by
    have e1 : decide (i < -(2 ^ 63 : Int)) = false := decide_eq_false (by omega)
    have e2 : decide (i ≥ 2 ^ 63) = false := decide_eq_false (by omega)
    rw [e1, e2] <;> rfl) (by rw [e]; exact hc) ⟨.str ⟨#[c]⟩, H2, I2.tok _, ⟨_, rfl⟩, q⟩) (hs _ _)
/-- b[i], 0 ≤ i < len -/
theorem pe_item_byt (ha : PE X a ta) (hb : PE X b tb) (hs : PlainIxT b) :
    PE X (.Subscript a b pos) (tOp (fun x y H Q => ∃ (z : List UInt8) (i : Int), x = .byt z.toArray ∧ y = .int i ∧ z.length ≤ sizeLine ∧ 0 ≤ i ∧ i < z.length ∧ Q (.int ((z.getD i.toNat 0).toNat : Nat)) H) ta tb) := by
  intro pins s σ H Q I h
  refine Subscript_ (binT ha hb I h fun v u s2 x y H2 I2 rx ry q => ?_)
  obtain ⟨z, i, rfl, rfl, hz, h0, h1, q⟩ := q
  obtain ⟨t, rfl⟩ := rx
  obtain ⟨t', rfl⟩ := ry
  have hl : sizeLine = 16777216 := sizeLine_eq
  exact tail_any (PySem.W.typeIs_bytes s2 z.toArray t) PySem.W.FB.slot_bytes_getitem.lookup (PySem.W.getItem_bytes (by omega) h0 h1 ⟨.int ((z.getD i.toNat 0).toNat : Nat), H2, I2.tok _, ⟨_, rfl⟩, q⟩) (hs _ _)

/-! ### scalar builtins, by CallR -/
theorem vals1 {x : V} {us : List Value} (r : Vals [x] us) : ∃ u, us = [u] ∧ RelV x u := by
  cases r with
  | cons r1 r2 => cases r2; exact ⟨_, rfl, r1⟩
theorem vals2 {x y : V} {us : List Value} (r : Vals [x, y] us) : ∃ u w', us = [u, w'] ∧ RelV x u ∧ RelV y w' := by
  cases r with
  | cons r1 r2 =>
    cases r2 with
    | cons r3 r4 => cases r4; exact ⟨_, _, rfl, r1, r3⟩
theorem call_abs : CallR X (.builtin "abs") (fun xs H Q => ∃ i, xs = [.int i] ∧ Q (.int (if i < 0 then -i else i)) H) := by
  intro pins s σ H xs us Q I r h
  obtain ⟨i, rfl, q⟩ := h
  obtain ⟨u, rfl, t, rfl⟩ := vals1 r
  exact call_abs_int fun u tk => ⟨.int (if i < 0 then -i else i), H, I.tok _, ⟨_, rfl⟩, q⟩
theorem call_max2 (hc : X.calm = true) : CallR X (.builtin "max") (fun xs H Q => ∃ i j, xs = [.int i, .int j] ∧ Q (.int (if j > i then j else i)) H) := by
  intro pins s σ H xs us Q I r h
  obtain ⟨i, j, rfl, q⟩ := h
  obtain ⟨u, w', rfl, ⟨t, rfl⟩, ⟨t', rfl⟩⟩ := vals2 r
  refine max_two_ints (I.ok.hd hc) fun h' tk k => ⟨_, H, I.kept k, ?_, q⟩
  by_cases hj : j > i
  · rw [if_pos hj, if_pos hj]; exact ⟨_, rfl⟩
  · rw [if_neg hj, if_neg hj]; exact ⟨_, rfl⟩
theorem call_min2 (hc : X.calm = true) : CallR X (.builtin "min") (fun xs H Q => ∃ i j, xs = [.int i, .int j] ∧ Q (.int (if j < i then j else i)) H) := by
  intro pins s σ H xs us Q I r h
  obtain ⟨i, j, rfl, q⟩ := h
  obtain ⟨u, w', rfl, ⟨t, rfl⟩, ⟨t', rfl⟩⟩ := vals2 r
  refine min_two_ints (I.ok.hd hc) fun h' tk k => ⟨_, H, I.kept k, ?_, q⟩
  by_cases hj : j < i
  · rw [if_pos hj, if_pos hj]; exact ⟨_, rfl⟩
  · rw [if_neg hj, if_neg hj]; exact ⟨_, rfl⟩
theorem call_int1 : CallR X (.type "int") (fun xs H Q => (∃ i, xs = [.int i] ∧ Q (.int i) H) ∨ ∃ k, xs = [.bl k] ∧ Q (.int (if k then 1 else 0)) H) := by
  intro pins s σ H xs us Q I r h
  rcases h with ⟨i, rfl, q⟩ | ⟨k, rfl, q⟩
  · obtain ⟨u, rfl, t, rfl⟩ := vals1 r
    exact call_int_int ⟨.int i, H, I, ⟨_, rfl⟩, q⟩
  · obtain ⟨u, rfl, r1⟩ := vals1 r
    cases r1
    exact call_int_bool ⟨.int (if k then 1 else 0), H, I.tok _, ⟨_, rfl⟩, q⟩
theorem call_bool1 : CallR X (.type "bool") (fun xs H Q => (∃ i, xs = [.int i] ∧ Q (.bl (i != 0)) H) ∨ ∃ k, xs = [.bl k] ∧ Q (.bl k) H) := by
  intro pins s σ H xs us Q I r h
  rcases h with ⟨i, rfl, q⟩ | ⟨k, rfl, q⟩
  · obtain ⟨u, rfl, t, rfl⟩ := vals1 r
    exact call_bool_int ⟨.bl (i != 0), H, I, rfl, q⟩
  · obtain ⟨u, rfl, r1⟩ := vals1 r
    cases r1
    exact call_bool_bool ⟨.bl k, H, I, rfl, q⟩
theorem call_str_int : CallR X (.type "str") (fun xs H Q => ∃ i, xs = [.int i] ∧ i.natAbs.log2 < 1920 ∧ Q (.str (toString i)) H) := by
  intro pins s σ H xs us Q I r h
  obtain ⟨i, rfl, hz, q⟩ := h
  obtain ⟨u, rfl, t, rfl⟩ := vals1 r
  exact PySem.P.str_of_int hz ⟨.str _, H, I.tok _, ⟨_, rfl⟩, q⟩
theorem call_ord : CallR X (.builtin "ord") (fun xs H Q => ∃ x, xs = [.str x] ∧ x.length = 1 ∧ Q (.int (x.cps.getD 0 0 : Nat)) H) := by
  intro pins s σ H xs us Q I r h
  obtain ⟨x, rfl, hz, q⟩ := h
  obtain ⟨u, rfl, t, rfl⟩ := vals1 r
  exact ord_of_one hz ⟨.int _, H, I.tok _, ⟨_, rfl⟩, q⟩
theorem call_chr : CallR X (.builtin "chr") (fun xs H Q => ∃ i, xs = [.int i] ∧ 0 ≤ i ∧ i ≤ 1114111 ∧ Q (.str ⟨#[i.toNat]⟩) H) := by
  intro pins s σ H xs us Q I r h
  obtain ⟨i, rfl, h0, h1, q⟩ := h
  obtain ⟨u, rfl, t, rfl⟩ := vals1 r
  exact chr_of_range h0 h1 ⟨.str _, H, I.tok _, ⟨_, rfl⟩, q⟩
/-- len of a str, a bytes, a list, a tuple -/
def LenV (K : PySem.W.Frag) (x : V) (H : Hp) (n : Nat) : Prop :=
  match x with
  | .str y => y.length ≤ sizeLine ∧ n = y.length
  | .byt y => y.size ≤ sizeLine ∧ n = y.size
  | .ref p => (∃ xs, SqL K H p xs ∧ n = xs.length) ∨ ∃ xs, SqT K H p xs ∧ n = xs.length
  | _ => False
theorem call_len : CallR X (.builtin "len") (fun xs H Q => ∃ x n, xs = [x] ∧ LenV X.K x H n ∧ Q (.int n) H) := by
  intro pins s σ H xs us Q I r h
  obtain ⟨x, n, rfl, e, q⟩ := h
  obtain ⟨u, rfl, rx⟩ := vals1 r
  have hl := line63
  have hs : sizeLine = 16777216 := sizeLine_eq
  cases x with
  | str y =>
    obtain ⟨t, rfl⟩ := rx
    obtain ⟨hy, e'⟩ : y.length ≤ sizeLine ∧ n = y.length := e
    subst e'
    exact len_str (by omega) ⟨.int _, H, I.tok _, ⟨_, rfl⟩, q⟩
  | byt y =>
    obtain ⟨t, rfl⟩ := rx
    obtain ⟨hy, e'⟩ : y.size ≤ sizeLine ∧ n = y.size := e
    subst e'
    exact PySem.W.len_bytes (by omega) ⟨.int _, H, I.tok _, ⟨_, rfl⟩, q⟩
  | ref p =>
    cases rx
    have e' : (∃ xs, SqL X.K H p xs ∧ n = xs.length) ∨ ∃ xs, SqT X.K H p xs ∧ n = xs.length := e
    rcases e' with ⟨xs, hx, e'⟩ | ⟨xs, hx, e'⟩
    · subst e'
      obtain ⟨its, r', pl, hz⟩ := I.list hx
      have hlen := r'.length
      exact Calls.call_len_list pl.isList (by simp only [List.size_toArray]; omega) ⟨.int xs.length, H, I.tok _, ⟨_, by simp only [List.size_toArray]; rw [hlen]⟩, q⟩
    · subst e'
      obtain ⟨its, r', pl, hz⟩ := I.tuple hx
      have hlen := r'.length
      exact len_tuple pl (by simp only [List.size_toArray]; omega) ⟨.int xs.length, H, I.tok _, ⟨_, by simp only [List.size_toArray]; rw [hlen]⟩, q⟩
  | _ => exact (show False from e).elim
/-- divmod: a new tuple -/
theorem call_divmod : CallR X (.builtin "divmod") (fun xs H Q => ∃ i j, xs = [.int i, .int j] ∧ CDiv i j ∧ ∀ p, H p = none → Q (.ref p) (upd H p (.tup [.int (i / j), .int (i % j)]))) := by
  intro pins s σ H xs us Q I r h
  obtain ⟨i, j, rfl, ⟨h1, h2⟩, q⟩ := h
  obtain ⟨u, w', rfl, ⟨t, rfl⟩, ⟨t', rfl⟩⟩ := vals2 r
  refine divmod_int (by omega) ?_ (.inl (PyProof.noPylong_small (by omega)))
  rw [Int.fdiv_eq_ediv_of_nonneg i (by omega), Int.fmod_eq_emod_of_nonneg i (by omega)]
  have hn : H s.heap.objs.size = none := I.hok.fresh (Nat.le_refl _)
  refine ⟨.ref s.heap.objs.size, _, ?_, rfl, q _ hn⟩
  refine I.laid (fun b o e => Heap.get?_push_of_some _ e) (Nat.le_refl _) ⟨by simp only [List.length_cons, List.length_nil]; rw [sizeLine_eq]; decide, [.int (i / j) s.toks, .int (i % j) (s.toks + 1)], .cons ⟨_, rfl⟩ (.cons ⟨_, rfl⟩ .nil), ?_⟩
  exact ⟨_, Heap.get?_push_size s.heap rfl, rfl, 0, rfl⟩
end
end L2

namespace L2
open PySem PySem.Spec PyProof.Rows

/-! ### an instance, its attributes a map -/
structure ObjM (h : Heap) (x dx C : Addr) (mA : Str → Option Value) : Prop where
  obj : h.get? x = some (PySem.W.instObj C dx)
  ns : h.Ns1 dx mA
  ne : dx ≠ x

theorem lookIn_ns {h : Heap} {dx : Addr} {mA : Str → Option Value} (n : h.Ns1 dx mA) : ∃ od, h.get? dx = some od ∧ ∀ name, PySem.W.lookIn name od = some (mA name) := by
  obtain ⟨o, es, ep, ho, hd, hk, _, hm⟩ := n
  refine ⟨o, ho, fun name => ?_⟩
  have e := hm name
  unfold nsFind findBy at e
  rw [← Array.find?_toList] at e
  unfold PySem.W.lookIn
  rw [hd]
  dsimp only
  split
  · rename_i y q
    rw [q] at e
    exact congrArg some e
  · rename_i q
    rw [q] at e
    have a : es.toList.any (·.refKey) = false := by
      rw [List.any_eq_false]
      intro y hy
      obtain ⟨z, t, hkey⟩ := hk y (Array.mem_toList_iff.mp hy)
      simp [DictEntry.refKey, hkey]
    have a' : ¬ es.toList.any (·.refKey) = true := by rw [a]; exact Bool.false_ne_true
    rw [if_neg a']
    exact congrArg some e

theorem ObjM.look {h : Heap} {x dx C : Addr} {mA : Str → Option Value} (I : ObjM h x dx C mA) : ∃ od, PySem.W.InstAt h x (PySem.W.instObj C dx) C (some od) ∧ ∀ name, PySem.W.lookIn name od = some (mA name) :=
  let ⟨od, ho, hl⟩ := lookIn_ns I.ns
  ⟨od, ⟨I.obj, rfl, rfl, ho⟩, hl⟩

section
variable {prog : Program} {w : World} {A : Around} {E : Value → Shared → Prop} {s : Shared} {K : PySem.W.Frag} {x dx C f : Addr} {mA : Str → Option Value} {name : Str} {v : Value}

theorem get_map {expr : Bool} {Q : Value → Shared → Prop} (X : K.In s.heap) (I : ObjM s.heap x dx C mA) (hg : PySem.W.plainGet K C name = true) (hh : PySem.W.hasDictIn K C = true)
    (ha : PySem.W.findIn K (.ref C) name = some none) (hv : mA name = some v) (hv' : PySem.W.handedIn v = true) (h : Q v { s with toks := s.toks + 1 }) :
    wpAny (model prog w) A (getAttr (.ref x) name expr) Q E s := by
  obtain ⟨od, J, hl⟩ := I.look
  exact PySem.W.get_value X J (PySem.W.plainGet_of hg).1 (PySem.W.findObj_own hh ha rfl (by rw [hl, hv])) hv' h

theorem get_const {expr : Bool} {a : Value} {Q : Value → Shared → Prop} (X : K.In s.heap) (I : ObjM s.heap x dx C mA) (hg : PySem.W.plainGet K C name = true) (hh : PySem.W.hasDictIn K C = true)
    (ha : PySem.W.findIn K (.ref C) name = some (some a)) (hn : PySem.W.specialIn K a "__get__" = some none) (hc : PySem.W.copiedNames.contains name = false) (hv : mA name = none) (hv' : PySem.W.handedIn a = true)
    (h : Q a { s with toks := s.toks + 1 }) : wpAny (model prog w) A (getAttr (.ref x) name expr) Q E s := by
  obtain ⟨od, J, hl⟩ := I.look
  exact PySem.W.get_value X J (PySem.W.plainGet_of hg).1 (PySem.W.findObj_cls hh ha hn hv' hc (by rw [hl, hv])) hv' h

theorem get_meth {pl : Sem Bool} {Q : Value × List Value → Shared → Prop} (X : K.In s.heap) (I : ObjM s.heap x dx C mA) (hg : PySem.W.plainGet K C name = true)
    (hf : PySem.W.findIn K (.ref C) name = some (some (.ref f))) (ht : PySem.W.isFn K (.ref f) = true) (hv : mA name = none) (h : Q (.ref f, [.ref x]) s) :
    wpAny (model prog w) A (getMethod (.ref x) name pl) Q E s := by
  obtain ⟨od, J, hl⟩ := I.look
  exact PySem.W.method_fn X J (PySem.W.plainGet_of hg).1 (PySem.W.plainGet_of hg).2 hf (beq_iff_eq.mp ht) (by show (PySem.W.lookIn name od).map (·.isSome) = some false; rw [hl, hv]; rfl) h

theorem set_map {ns : List Str} {Q : Unit → Shared → Prop} (X : K.In s.heap) (I : ObjM s.heap x dx C mA)
    (hs : PySem.W.findIn K (.ref C) "__setattr__" = some (some (.builtin "object.__setattr__"))) (hp : PySem.W.plainOver K C = true) (ht : PySem.W.takerIn K C name = some none) (hh : PySem.W.hasDictIn K C = true)
    (hw : PySem.Within mA ns) (hsz : ns.length ≤ sizeLine)
    (h : ∀ h', ObjM h' x dx C (fun y => if y = name then some v else mA y) → Heap.SameBut dx s.heap h' → Q () { s with heap := h', toks := s.toks + 2 }) :
    wpAny (model prog w) A (setAttr (.ref x) name v) Q E s := by
  obtain ⟨od, J, hl⟩ := I.look
  refine PySem.W.set_plain X J hs (PySem.W.osa_open (s := { s with toks := s.toks + 1 }) (r := none) X J hp ht fun b => ?_)
  obtain ⟨cd, hc, hd'⟩ := PySem.W.any_some hh
  have hx : s.heap.get? x = some ⟨.ref C, some dx, .plain, #[]⟩ := I.obj
  refine wpAny_bind (wpAny_pure (wpAny_bind (wpAny_bind (wpAny_loadPart hx (wpAny_bind (PySem.W.Looks.here (s := { s with toks := s.toks + 1 }) (PySem.W.looks_clsIn X hc) ?_))))))
  rw [hd']
  refine wpAny_pure (a := some dx) (wpAny_bind (wpAny_pure (wpAny_bind ?_)))
  refine wpAny_nsSet1 (s := { s with toks := s.toks + 1 }) I.ns fun h' hn2 hs2 => ?_
  obtain ⟨oD, esD, epD, hoD, hdD, hcD⟩ := hn2.count (PySem.Within.cons name v hw)
  refine wpAny_bind (wpAny_lookBehind hoD (by rw [hdD]; exact pastItsLine_dict (Nat.le_trans hcD (by rw [List.length_cons]; omega))) ?_)
  exact wpAny_pure (h _ ⟨(hs2.2 _ (Ne.symm I.ne)).trans I.obj, hn2, I.ne⟩ hs2)

/-- C(..): the dict at the heap's end, the instance behind it; then its __init__ -/
theorem make_map {R : Result → Shared → Prop} {vs : List Value} {kw : List (Str × Value)} (X : K.In s.heap) (hm : PySem.W.makesIn K C = true)
    (hi : PySem.W.findIn K (.ref C) "__init__" = some (some (.ref f))) (hf : PySem.W.typeIn K (.ref f) = some (.type "function"))
    (h : codeAny (model prog w) (A.under (.builtin "type.__call__" ⟨.ref C :: vs, kw⟩)) (.call (.ref f) ⟨.ref (s.heap.objs.size + 1) :: vs, kw⟩) (PySem.W.InitBack (s.heap.objs.size + 1) R)
      { s with heap := (s.heap.push PySem.W.emptyDict).push (PySem.W.instObj C s.heap.objs.size) }) :
    codeAny (model prog w) A (.call (.ref C) ⟨vs, kw⟩) R s := by
  obtain ⟨hh, g, d, t, os⟩ := s
  exact PySem.W.make_core (PySem.W.makes_of X hm) (PySem.W.looks_findIn X hi) (fun self => PySem.W.bind_fn X self hf) (.inl rfl) h
/-- C() where there is no __init__ but object's -/
theorem make_map0 {R : Result → Shared → Prop} (X : K.In s.heap) (hm : PySem.W.makesIn K C = true)
    (hi : PySem.W.findIn K (.ref C) "__init__" = some (some (.builtin "object.__init__")))
    (hb : ∀ self, PySem.W.Looks (model prog w) s.heap (bindSpecial (.builtin "object.__init__") self) (.builtin "object.__init__", [self]))
    (h : codeAny (model prog w) (A.under (.builtin "type.__call__" ⟨[.ref C], []⟩)) (.call (.builtin "object.__init__") ⟨[.ref (s.heap.objs.size + 1)], []⟩) (PySem.W.InitBack (s.heap.objs.size + 1) R)
      { s with heap := (s.heap.push PySem.W.emptyDict).push (PySem.W.instObj C s.heap.objs.size) }) :
    codeAny (model prog w) A (.call (.ref C) ⟨[], []⟩) R s := by
  obtain ⟨hh, g, d, t, os⟩ := s
  exact PySem.W.make_core (PySem.W.makes_of X hm) (PySem.W.looks_findIn X hi) hb (.inr ⟨rfl, rfl⟩) h
end

/-! ### the attributes as a list of pairs -/
def putF (f : Str) (v : V) : List (Str × V) → List (Str × V)
  | [] => [(f, v)]
  | (g, x) :: r => if g = f then (g, v) :: r else (g, x) :: putF f v r
theorem lookup_putF (f g : Str) (v : V) : ∀ fs : List (Str × V), (putF f v fs).lookup g = if g = f then some v else fs.lookup g
  | [] => by
    show List.lookup g [(f, v)] = _
    by_cases h : g = f
    · have hb : (g == f) = true := beq_iff_eq.mpr h
      simp only [List.lookup, hb, if_pos h]
    · have hb : (g == f) = false := beq_eq_false_iff_ne.mpr h
      simp only [List.lookup, hb, if_neg h]
  | (k, x) :: r => by
    have ih := lookup_putF f g v r
    rw [show putF f v ((k, x) :: r) = (if k = f then (k, v) :: r else (k, x) :: putF f v r) from rfl]
    by_cases hk : k = f
    · rw [if_pos hk]
      by_cases h : g = k
      · have hb : (g == k) = true := beq_iff_eq.mpr h
        simp only [List.lookup, hb, if_pos (h.trans hk)]
      · have hb : (g == k) = false := beq_eq_false_iff_ne.mpr h
        simp only [List.lookup, hb, if_neg (fun e : g = f => h (e.trans hk.symm))]
    · rw [if_neg hk]
      by_cases h : g = k
      · have hb : (g == k) = true := beq_iff_eq.mpr h
        simp only [List.lookup, hb, if_neg (fun e : g = f => hk (h.symm.trans e))]
      · have hb : (g == k) = false := beq_eq_false_iff_ne.mpr h
        simp only [List.lookup, hb]
        exact ih
theorem keys_putF (f : Str) (v : V) : ∀ fs : List (Str × V), f ∈ (putF f v fs).map (·.1) ∧ ∀ g, g ∈ fs.map (·.1) → g ∈ (putF f v fs).map (·.1)
  | [] => ⟨by simp [putF], fun g h => by simp at h⟩
  | (k, x) :: r => by
    obtain ⟨i1, i2⟩ := keys_putF f v r
    rw [show putF f v ((k, x) :: r) = (if k = f then (k, v) :: r else (k, x) :: putF f v r) from rfl]
    by_cases hk : k = f
    · rw [if_pos hk]
      subst hk
      exact ⟨by simp, fun g h => by simpa using h⟩
    · rw [if_neg hk]
      refine ⟨?_, fun g h => ?_⟩
      · rw [List.map_cons]
        exact List.mem_cons_of_mem _ i1
      · rw [List.map_cons] at h ⊢
        rcases List.mem_cons.mp h with e | e
        · exact List.mem_cons.mpr (.inl e)
        · exact List.mem_cons_of_mem _ (i2 g e)
theorem length_putF (f : Str) (v : V) : ∀ fs : List (Str × V), (putF f v fs).length ≤ fs.length + 1
  | [] => by simp [putF]
  | (k, x) :: r => by
    have ih := length_putF f v r
    rw [show putF f v ((k, x) :: r) = (if k = f then (k, v) :: r else (k, x) :: putF f v r) from rfl]
    by_cases hk : k = f
    · rw [if_pos hk, List.length_cons, List.length_cons]; omega
    · rw [if_neg hk, List.length_cons, List.length_cons]; omega

theorem RelO.some_of {v : V} {o : Option Value} (r : RelO (some v) o) : ∃ u, o = some u ∧ RelV v u := by
  cases o with
  | none => exact (show False from r).elim
  | some u => exact ⟨u, rfl, r⟩
theorem RelO.none_of {o : Option Value} (r : RelO none o) : o = none := by
  cases o with
  | none => rfl
  | some u => exact (show False from r).elim
theorem handed_of {v : V} {u : Value} (r : RelV v u) : PySem.W.handedIn u = true := by
  cases v with
  | non => cases (show u = Value.none from r); rfl
  | bl b => cases (show u = Value.bool b from r); rfl
  | int i => obtain ⟨t, e⟩ := (show ∃ t, u = Value.int i t from r); cases e; rfl
  | str x => obtain ⟨t, e⟩ := (show ∃ t, u = Value.str x t from r); cases e; rfl
  | byt b => obtain ⟨t, e⟩ := (show ∃ t, u = Value.bytes b t from r); cases e; rfl
  | flt b => obtain ⟨t, e⟩ := (show ∃ t, u = Value.float b t from r); cases e; rfl
  | ref a => cases (show u = Value.ref a from r); rfl
  | ty n => cases (show u = Value.type n from r); rfl

section
variable {P : Program} {w : World} {H H' : Hp} {h h' : Heap} {a C dx : Addr} {fs fs' : List (Str × V)}
theorem ins_get (hok : HOk P w H h) (e : H a = some (.ins C dx fs)) : ∃ mA, ObjM h a dx C mA ∧ (∀ f, RelO (fs.lookup f) (mA f)) ∧ PySem.Within mA (fs.map (·.1)) ∧ fs.length ≤ 1000 ∧ H dx = some (.own a) := by
  obtain ⟨d, z, ne, ob, mA, n, r, q⟩ := (show ObjOk P w H h a (.ins C dx fs) from hok a _ e)
  exact ⟨mA, ⟨ob, n, ne⟩, r, q, z, d⟩
end

/-! ### what of the text a class must have -/
structure Cls (K : PySem.W.Frag) (C : Addr) : Prop where
  pg : PySem.W.plainGet K C Str.empty = true
  hd : PySem.W.hasDictIn K C = true
  po : PySem.W.plainOver K C = true
  sa : PySem.W.findIn K (.ref C) "__setattr__" = some (some (.builtin "object.__setattr__"))
theorem Cls.get {K : PySem.W.Frag} {C : Addr} (c : Cls K C) (f : Str) : PySem.W.plainGet K C f = true := c.pg
/-- no class of it has the name -/
def NoAttr (K : PySem.W.Frag) (C : Addr) (f : Str) : Prop := PySem.W.findIn K (.ref C) f = some none
theorem NoAttr.taker {K : PySem.W.Frag} {C : Addr} {f : Str} (n : NoAttr K C f) : PySem.W.takerIn K C f = some none := by
  unfold PySem.W.takerIn
  rw [show PySem.W.findIn K (.ref C) f = some none from n]
  rfl
/-- a constant of the class -/
structure Con (K : PySem.W.Frag) (C : Addr) (f : Str) (v : V) (u : Value) : Prop where
  at_ : PySem.W.findIn K (.ref C) f = some (some u)
  rel : RelV v u
  get : PySem.W.specialIn K u "__get__" = some none
  cp : PySem.W.copiedNames.contains f = false
/-- a method: a plain def of the class or of one above it -/
structure Meth (K : PySem.W.Frag) (C : Addr) (m : Str) (f : Addr) : Prop where
  at_ : PySem.W.findIn K (.ref C) m = some (some (.ref f))
  fn : PySem.W.isFn K (.ref f) = true
  kp : PySem.W.keepIn K (.ref f) = true

section
variable {X : Cx} {pins : List (Addr × Obj)} {σ : St} {H : Hp} {s : Shared} {a C dx : Addr} {fs : List (Str × V)} {f : Str} {v : V} {A : Around} {E : Value → Shared → Prop}

theorem getattr_ok {b : Bool} {Q : Value → Shared → Prop} (I : Inv X pins σ H s) (e : H a = some (.ins C dx fs)) (c : Cls X.K C) (n : NoAttr X.K C f) (l : fs.lookup f = some v)
    (h : ∀ u s', Inv X pins σ H s' → RelV v u → Q u s') : wpAny (model X.prog X.w) A (getAttr (.ref a) f b) Q E s := by
  obtain ⟨mA, O, r, _, _, _⟩ := ins_get I.hok e
  obtain ⟨u, hu, ru⟩ := RelO.some_of (v := v) (o := mA f) (by rw [← l]; exact r f)
  exact get_map I.kIn O (c.get f) c.hd n hu (handed_of ru) (h u _ (I.tok _) ru)

theorem getcon_ok {b : Bool} {u : Value} {Q : Value → Shared → Prop} (I : Inv X pins σ H s) (e : H a = some (.ins C dx fs)) (c : Cls X.K C) (k : Con X.K C f v u) (l : fs.lookup f = none)
    (h : ∀ s', Inv X pins σ H s' → Q u s') : wpAny (model X.prog X.w) A (getAttr (.ref a) f b) Q E s := by
  obtain ⟨mA, O, r, _, _, _⟩ := ins_get I.hok e
  have hn : mA f = none := RelO.none_of (by rw [← l]; exact r f)
  exact get_const I.kIn O (c.get f) c.hd k.at_ k.get k.cp hn (handed_of k.rel) (h _ (I.tok _))

theorem getmeth_ok {m : Str} {g : Addr} {pl : Sem Bool} {Q : Value × List Value → Shared → Prop} (I : Inv X pins σ H s) (e : H a = some (.ins C dx fs)) (c : Cls X.K C) (k : Meth X.K C m g) (l : fs.lookup m = none)
    (h : Q (.ref g, [.ref a]) s) : wpAny (model X.prog X.w) A (getMethod (.ref a) m pl) Q E s := by
  obtain ⟨mA, O, r, _, _, _⟩ := ins_get I.hok e
  have hn : mA m = none := RelO.none_of (by rw [← l]; exact r m)
  exact get_meth I.kIn O (c.get m) k.at_ k.fn hn h

theorem setattr_ok {y : V} {u : Value} {Q : Unit → Shared → Prop} (I : Inv X pins σ H s) (e : H a = some (.ins C dx fs)) (c : Cls X.K C) (n : NoAttr X.K C f) (hl : fs.length < 1000) (ry : RelV y u)
    (h : ∀ s', Inv X pins σ (upd H a (.ins C dx (putF f y fs))) s' → Q () s') : wpAny (model X.prog X.w) A (setAttr (.ref a) f u) Q E s := by
  obtain ⟨mA, O, r, wi, _, ho⟩ := ins_get I.hok e
  have hz : (fs.map (·.1)).length ≤ sizeLine := by rw [List.length_map, sizeLine_eq]; omega
  refine set_map I.kIn O c.sa c.po n.taker c.hd wi hz fun h' O' sb => h _ ?_
  have hd : ∃ o, h'.get? dx = some o := let ⟨o, _, _, e', _⟩ := O'.ns; ⟨o, e'⟩
  refine I.write (x := a) (e := dx) (by rw [e]; exact True.intro) (.inr ho) (fun b q hb z => (sb.2 b hb).trans z) hd ?_
  refine ⟨by rw [upd_ne O.ne]; exact ho, ?_, O.ne, O'.obj, _, O'.ns, fun g => ?_, fun g hg => ?_⟩
  · have := length_putF f y fs; omega
  · show RelO ((putF f y fs).lookup g) (if g = f then some u else mA g)
    rw [lookup_putF]
    by_cases q : g = f
    · rw [if_pos q, if_pos q]; exact ry
    · rw [if_neg q, if_neg q]; exact r g
  · by_cases q : g = f
    · rw [q]; exact (keys_putF f y fs).1
    · refine (keys_putF f y fs).2 g (wi g fun z => hg ?_)
      show (if g = f then some u else mA g) = none
      rw [if_neg q]; exact z

/-- a new instance, tracked, without attributes -/
theorem Inv.made (I : Inv X pins σ H s) : Inv X pins σ (upd (upd H s.heap.objs.size (.own (s.heap.objs.size + 1))) (s.heap.objs.size + 1) (.ins C s.heap.objs.size []))
    { s with heap := (s.heap.push PySem.W.emptyDict).push (PySem.W.instObj C s.heap.objs.size) } := by
  have e1 : (s.heap.push PySem.W.emptyDict).get? s.heap.objs.size = some PySem.W.emptyDict := Heap.get?_push_size s.heap rfl
  have e2 : ((s.heap.push PySem.W.emptyDict).push (PySem.W.instObj C s.heap.objs.size)).get? (s.heap.objs.size + 1) = some (PySem.W.instObj C s.heap.objs.size) := by
    have := Heap.get?_push_size (s.heap.push PySem.W.emptyDict) (o := PySem.W.instObj C s.heap.objs.size) rfl
    rwa [Heap.size_push] at this
  have e3 : (s.heap.push PySem.W.emptyDict).Ns s.heap.objs.size (fun _ => none) := ⟨PySem.W.emptyDict, #[], _, e1, rfl, (fun e he => absurd he (by simp)), fun _ => rfl⟩
  have I1 := I.laid (a := s.heap.objs.size) (o := .own (s.heap.objs.size + 1)) (h' := s.heap.push PySem.W.emptyDict) (t' := s.toks) (fun b u q => Heap.get?_push_of_some _ q) (Nat.le_refl _) ⟨_, e1⟩
  refine I1.laid (a := s.heap.objs.size + 1) (o := .ins C s.heap.objs.size []) (t' := s.toks) (fun b u q => Heap.get?_push_of_some _ q) (Nat.le_of_eq (Heap.size_push _ _)) ?_
  have ne : s.heap.objs.size ≠ s.heap.objs.size + 1 := Nat.ne_of_lt (Nat.lt_succ_self _)
  refine ⟨by rw [upd_ne ne, upd_same], Nat.zero_le _, ne, e2, fun _ => none, (Heap.Ns1.of_empty e3).at fun o q => Heap.get?_push_of_some _ q, fun _ => True.intro, fun y hy => absurd rfl hy⟩

/-- e.f where nothing but the object is asked: through attributeBase (super) and the last hold -/
theorem attr_of {prog : Program} {w : World} {env : Env} {e : Expr} {f : Str} {pos : Pos} {s : Shared} {Q : Value → Shared → Prop} (hb : attributeBase e f env (eval e env) = eval e env)
    (h : wpAny (model prog w) A (eval e env) (fun o s₁ => wpAny (model prog w) A (getAttr o f true) Q E s₁) E s) : wpAny (model prog w) A (eval (.Attribute e f pos) env) Q E s :=
  Attribute_any_ h (by rw [arm_eval_Attribute, hb])
end

/-! ### readings and rules -/
/-- e.f, an attribute of the instance -/
def tFld (K : PySem.W.Frag) (ta : TE) (f : Str) : TE := fun σ H Q => ta σ H fun x H1 => ∃ a C dx fs v, x = .ref a ∧ H1 a = some (.ins C dx fs) ∧ Cls K C ∧ NoAttr K C f ∧ fs.lookup f = some v ∧ Q v H1
/-- e.f, a constant of the class -/
def tCon (K : PySem.W.Frag) (ta : TE) (f : Str) : TE := fun σ H Q => ta σ H fun x H1 => ∃ a C dx fs v u, x = .ref a ∧ H1 a = some (.ins C dx fs) ∧ Cls K C ∧ Con K C f v u ∧ fs.lookup f = none ∧ Q v H1
/-- e.f = value -/
def sFld (K : PySem.W.Frag) (ta tv : TE) (f : Str) : TS := fun D σ H => tv σ H fun y H1 => ta σ H1 fun x H2 => ∃ a C dx fs, x = .ref a ∧ H2 a = some (.ins C dx fs) ∧ Cls K C ∧ NoAttr K C f ∧ fs.length < 1000 ∧
  D.nx σ (upd H2 a (.ins C dx (putF f y fs)))
/-- an augmented operator on two values -/
def InOp (X : Cx) (op : Operator) (rd : V → V → Hp → VK → Prop) : Prop :=
  ∀ (pins : List (Addr × Obj)) (s : Shared) (σ : St) (H : Hp) (x y : V) (u v : Value) (Q : VK), Inv X pins σ H s → RelV x u → RelV y v → rd x y H Q → wpAny (model X.prog X.w) X.A (inplaceOp op u v) (EP X pins σ Q) X.xe s
/-- e.f op= value -/
def sFldAug (K : PySem.W.Frag) (ta tv : TE) (rd : V → V → Hp → VK → Prop) (f : Str) : TS := fun D σ H => ta σ H fun x H1 => ∃ a C dx fs v, x = .ref a ∧ H1 a = some (.ins C dx fs) ∧ Cls K C ∧ NoAttr K C f ∧ fs.lookup f = some v ∧
  tv σ H1 fun y H2 => rd v y H2 fun z H3 => ∃ dx' fs', H3 a = some (.ins C dx' fs') ∧ fs'.length < 1000 ∧ D.nx σ (upd H3 a (.ins C dx' (putF f z fs')))

section
variable {X : Cx} {o e value : Expr} {f : Str} {pos pos' tpos : Pos} {ta tv : TE}
theorem pe_fld (he : PE X e ta) (hb : attributeBase e f X.env (eval e X.env) = eval e X.env) : PE X (.Attribute e f pos) (tFld X.K ta f) := by
  intro pins s σ H Q I h
  refine attr_of hb (thn (he pins s σ H _ I h) fun u s1 ⟨x, H1, I1, rx, a, C, dx, fs, v, ex, ea, c, n, l, q⟩ => ?_)
  subst ex
  obtain rfl : u = Value.ref a := rx
  exact getattr_ok I1 ea c n l fun u' s2 I2 ru => ⟨v, H1, I2, ru, q⟩
theorem pe_con (he : PE X e ta) (hb : attributeBase e f X.env (eval e X.env) = eval e X.env) : PE X (.Attribute e f pos) (tCon X.K ta f) := by
  intro pins s σ H Q I h
  refine attr_of hb (thn (he pins s σ H _ I h) fun u s1 ⟨x, H1, I1, rx, a, C, dx, fs, v, u0, ex, ea, c, k, l, q⟩ => ?_)
  subst ex
  obtain rfl : u = Value.ref a := rx
  exact getcon_ok I1 ea c k l fun s2 I2 => ⟨v, H1, I2, k.rel, q⟩
theorem ps_fld (ha : PE X o ta) (hv : PE X value tv) (hs : swapsWith value (some (.Attribute o f pos')) pos.line X.env = pure false) : PS X (.Assign [.Attribute o f pos'] value pos) (sFld X.K ta tv f) := by
  intro pins s σ H D I h
  refine plainObj_wpAny_Assign_Attribute (thn (hv pins s σ H _ I h) fun u s1 ⟨y, H1, I1, ry, q⟩ => thn (ha pins s1 σ H1 _ I1 q) fun ov s2 ⟨x, H2, I2, rx, a, C, dx, fs, ex, ea, c, n, l, q2⟩ => ?_) hs
  subst ex
  obtain rfl : ov = Value.ref a := rx
  exact setattr_ok I2 ea c n l ry fun s3 I3 => ⟨σ, _, I3, q2⟩
theorem ps_fldaug {op : Operator} {rd : V → V → Hp → VK → Prop} (ha : PE X o ta) (hv : PE X value tv) (hop : InOp X op rd) : PS X (.AugAssign (.Attribute o f tpos) op value pos) (sFldAug X.K ta tv rd f) := by
  intro pins s σ H D I h
  refine wpAny_AugAssign_AttributeAny (thn (ha pins s σ H _ I h) fun ov s1 ⟨x, H1, I1, rx, a, C, dx, fs, v, ex, ea, c, n, l, q⟩ => ?_)
  subst ex
  obtain rfl : ov = Value.ref a := rx
  refine getattr_ok I1 ea c n l fun u s2 I2 ru => thn (hv pins s2 σ H1 _ I2 q) fun w3 s3 ⟨y, H2, I3, ry, q3⟩ => thn (hop pins s3 σ H2 v y u w3 _ I3 ru ry q3) fun w4 s4 ⟨z, H3, I4, rz, dx', fs', ea', l', q4⟩ => ?_
  exact setattr_ok I4 ea' c n l' rz fun s5 I5 => ⟨σ, _, I5, q4⟩
def rAdd : V → V → Hp → VK → Prop := fun x y H Q => ∃ i j, x = .int i ∧ y = .int j ∧ Q (.int (i + j)) H
def rSub : V → V → Hp → VK → Prop := fun x y H Q => ∃ i j, x = .int i ∧ y = .int j ∧ Q (.int (i - j)) H
theorem in_add : InOp X .Add rAdd := by
  rintro pins s σ H x y u v Q I rx ry ⟨i, j, rfl, rfl, q⟩
  obtain ⟨t, rfl⟩ := (show ∃ t, u = Value.int i t from rx)
  obtain ⟨t', rfl⟩ := (show ∃ t', v = Value.int j t' from ry)
  exact PyProof.Rows.iadd_int ⟨.int (i + j), H, I.tok _, ⟨_, rfl⟩, q⟩
theorem in_sub : InOp X .Sub rSub := by
  rintro pins s σ H x y u v Q I rx ry ⟨i, j, rfl, rfl, q⟩
  obtain ⟨t, rfl⟩ := (show ∃ t, u = Value.int i t from rx)
  obtain ⟨t', rfl⟩ := (show ∃ t', v = Value.int j t' from ry)
  exact PyProof.Rows.isub_int ⟨.int (i - j), H, I.tok _, ⟨_, rfl⟩, q⟩

/-- what is between an instance and its method: the tree of a method call -/
theorem methcall_of {pl : Sem Bool} {m : Str} {apos : Pos} {args : List Expr} {pins : List (Addr × Obj)} {s : Shared} {σ : St} {H : Hp} {Q : Value → Shared → Prop} {te : TE} (he : PE X e te) (I : Inv X pins σ H s)
    (h : te σ H fun x H1 => ∃ a C dx fs g, x = .ref a ∧ H1 a = some (.ins C dx fs) ∧ Cls X.K C ∧ Meth X.K C m g ∧ fs.lookup m = none ∧
      ∀ s1, Inv X pins σ H1 s1 → wpAny (model X.prog X.w) X.A (callWith pos (.ref g) [.ref a] (backTo pos (starEach args X.env)) (backToKw pos (keywordEach [] X.env))) Q X.xe s1)
    (ht : eval (.Call (.Attribute e m apos) args [] pos) X.env = (do
      let ov ← eval e X.env
      standAt apos.atName
      let (f, first) ← holding [ov] (getMethod ov m pl)
      callWith pos f first (backTo pos (starEach args X.env)) (backToKw pos (keywordEach [] X.env)))) :
    wpAny (model X.prog X.w) X.A (eval (.Call (.Attribute e m apos) args [] pos) X.env) Q X.xe s := by
  refine PySem.W.methodCall_KW (pl := pl) (thn (he pins s σ H _ I h) fun u s1 ⟨x, H1, I1, rx, a, C, dx, fs, g, ex, ea, c, k, l, q⟩ => ?_) ht
  subst ex
  obtain rfl : u = Value.ref a := rx
  exact getmeth_ok I1 ea c k l (q s1 I1)
end

/-! ### isinstance -/
section
variable {X : Cx} {pins : List (Addr × Obj)} {σ : St} {H : Hp} {s : Shared} {A : Around} {E : Value → Shared → Prop} {Q : Value → Shared → Prop} {c : Value} {b : Bool}
/-- the type of a value, as the fragment's deciders take it; for an instance its class -/
inductive TyOf (K : PySem.W.Frag) (H : Hp) : V → Value → Prop where
  | non : TyOf K H .non (.type "NoneType")
  | bl (x : Bool) : TyOf K H (.bl x) (.type "bool")
  | int (i : Int) : TyOf K H (.int i) (.type "int")
  | str (x : Str) : TyOf K H (.str x) (.type "str")
  | flt (x : UInt64) : TyOf K H (.flt x) (.type "float")
  | lst {a : Addr} {xs : List V} (e : H a = some (.lst xs)) : TyOf K H (.ref a) (.type "list")
  | frz {a : Addr} {o : Obj} {xs : List V} (e : H a = some (.frz o (.lst xs))) : TyOf K H (.ref a) (.type "list")
  | tup {a : Addr} {xs : List V} (e : H a = some (.tup xs)) : TyOf K H (.ref a) (.type "tuple")
  | dK {a : Addr} {kvs : List (Key × V)} (e : H a = some (.dK kvs)) : TyOf K H (.ref a) (.type "dict")
  | dT {a : Addr} {kvs : List (List Key × V)} (e : H a = some (.dT kvs)) : TyOf K H (.ref a) (.type "dict")
  | ins {a C dx : Addr} {fs : List (Str × V)} (e : H a = some (.ins C dx fs)) (cl : Cls K C) (ha : PySem.W.findIn K (.ref C) "__class__" = some (some (.builtin "object.__class__")))
      (hn : PySem.W.specialIn K (.builtin "object.__class__") "__get__" = some (some (.builtin "getset_descriptor.__get__"))) (htk : PySem.W.takesIn K (.builtin "object.__class__") = some true)
      (hm : PySem.W.mroIn K C (.type "object") = some true) : TyOf K H (.ref a) (.ref C)
/-- isinstance(x, c) for one class c, a built-in or an own one: kitOne's answer -/
theorem isinst_ok {x : V} {u t : Value} (I : Inv X pins σ H s) (rx : RelV x u) (ty : TyOf X.K H x t) (e : PySem.W.kitOne X.K t c = some b) (h : ∀ tk, Q (.bool b) { s with toks := tk }) :
    wpAny (model X.prog X.w) A (call (.builtin "isinstance") [u, c]) Q E s := by
  cases ty with
  | non => cases (show u = Value.none from rx); exact PySem.W.kia_one PySem.W.kitx_none I.kIn True.intro e (fun z => nomatch z) h
  | bl y => cases (show u = Value.bool y from rx); exact PySem.W.kia_one PySem.W.kitx_bool I.kIn True.intro e (fun z => nomatch z) h
  | int i => obtain ⟨t, q⟩ := (show ∃ t, u = Value.int i t from rx); cases q; exact PySem.W.kia_one PySem.W.kitx_int I.kIn True.intro e (fun z => nomatch z) h
  | str y => obtain ⟨t, q⟩ := (show ∃ t, u = Value.str y t from rx); cases q; exact PySem.W.kia_one PySem.W.kitx_str I.kIn True.intro e (fun z => nomatch z) h
  | flt y => obtain ⟨t, q⟩ := (show ∃ t, u = Value.float y t from rx); cases q; exact PySem.W.kia_one PySem.W.kitx_float I.kIn True.intro e (fun z => nomatch z) h
  | @lst a xs ea =>
    cases (show u = Value.ref a from rx)
    obtain ⟨_, _, n, _, h1⟩ := (show ObjOk X.prog X.w H s.heap a (.lst xs) from I.hok a _ ea)
    exact PySem.W.kia_one PySem.W.kitx_list I.kIn ⟨_, h1, rfl⟩ e (fun z => nomatch z) h
  | @frz a ob xs ea =>
    cases (show u = Value.ref a from rx)
    obtain ⟨_, _, _, n, _, h1⟩ := (show ObjOk X.prog X.w H s.heap a (.frz ob (.lst xs)) from I.hok a _ ea)
    exact PySem.W.kia_one PySem.W.kitx_list I.kIn ⟨_, h1, rfl⟩ e (fun z => nomatch z) h
  | @tup a xs ea =>
    cases (show u = Value.ref a from rx)
    obtain ⟨_, _, _, p⟩ := (show ObjOk X.prog X.w H s.heap a (.tup xs) from I.hok a _ ea)
    obtain ⟨o, h1, h2, _⟩ := p
    exact PySem.W.kia_one PySem.W.kitx_tuple I.kIn ⟨o, h1, h2⟩ e (fun z => nomatch z) h
  | @dK a kvs ea =>
    cases (show u = Value.ref a from rx)
    obtain ⟨_, _, vs, _, p⟩ := (show ObjOk X.prog X.w H s.heap a (.dK kvs) from I.hok a _ ea)
    obtain ⟨o, es, ep, h1, h2, _⟩ := p
    exact PySem.W.kia_one PySem.W.kitx_dict I.kIn ⟨o, h1, h2.1⟩ e (fun z => nomatch z) h
  | @dT a kvs ea =>
    cases (show u = Value.ref a from rx)
    obtain ⟨_, _, xs, _, o, es, ep, h1, h2, _⟩ := (show ObjOk X.prog X.w H s.heap a (.dT kvs) from I.hok a _ ea)
    exact PySem.W.kia_one PySem.W.kitx_dict I.kIn ⟨o, h1, h2.1⟩ e (fun z => nomatch z) h
  | @ins a C dx fs ea cl ha hn htk hm =>
    cases (show u = Value.ref a from rx)
    obtain ⟨mA, O, _⟩ := ins_get I.hok ea
    obtain ⟨od, J, _⟩ := O.look
    exact PySem.W.kia_one (PySem.W.kitx_own (cl.get _) cl.hd ha hn htk hm) I.kIn J e (fun z => nomatch z) h
end
end L2

namespace L2
open PySem PySem.Spec PyProof.Rows

/-! ### room -/
structure Room (k : Nat) (A : Around) : Prop where
  hd : A.handled = none
  dp : A.depth + 3 * k + 5 < recursionLimit
  un : A.units + 16 * k + 200 < cLine
theorem Room.mono {j k : Nat} {A : Around} (r : Room k A) (h : j ≤ k) : Room j A := ⟨r.hd, by have := r.dp; omega, by have := r.un; omega⟩
theorem Room.deeper {k : Nat} {A : Around} (r : Room (k + 1) A) (env : Env) : Room k (A.deeper env) :=
  ⟨r.hd, by have := r.dp; show A.depth + 1 + 3 * k + 5 < _; omega, by have := r.un; show A.units + 3 + 16 * k + 200 < _; omega⟩
theorem Room.in1 {k : Nat} {A : Around} (r : Room (k + 1) A) : Room k A.in1 :=
  ⟨r.hd, by have := r.dp; show A.depth + 3 * k + 5 < _; omega, by have := r.un; show A.units + 1 + 16 * k + 200 < _; omega⟩
theorem make_depth {A : Around} {C : Addr} {us : List Value} {kw : List (Str × Value)} : (A.under (.builtin "type.__call__" ⟨.ref C :: us, kw⟩)).depth = A.depth + 1 := by
  first | rfl | simp [Around.under, Code.weight, Code.isCreation, Code.isGuard, Code.isCaller, Code.frames, Code.isFrame, guardIds]
theorem make_units {A : Around} {C : Addr} {us : List Value} {kw : List (Str × Value)} : (A.under (.builtin "type.__call__" ⟨.ref C :: us, kw⟩)).units = A.units + 1 := by
  first | rfl | simp [Around.under, Code.cUnits, Code.frames, Code.isFrame]
theorem Room.make {k : Nat} {A : Around} (r : Room (k + 1) A) (C : Addr) (us : List Value) (kw : List (Str × Value)) : Room k (A.under (.builtin "type.__call__" ⟨.ref C :: us, kw⟩)) :=
  ⟨r.hd, by have := r.dp; rw [make_depth]; omega, by have := r.un; rw [make_units]; omega⟩
theorem Room.depth {k : Nat} {A : Around} (r : Room k A) : A.depth < recursionLimit := by have := r.dp; omega
theorem Room.units {k : Nat} {A : Around} (r : Room k A) : A.units + 64 < cLine := by have := r.un; omega
theorem Room.units0 {k : Nat} {A : Around} (r : Room k A) : A.units < cLine := by have := r.un; omega

/-! ### argument lists and displays -/
def tNil : TA := fun _ H Q => Q [] H
def tCons (ta : TE) (tr : TA) : TA := fun σ H Q => ta σ H fun x H1 => tr σ H1 fun xs H2 => Q (x :: xs) H2
section
variable {X : Cx} {e : Expr} {es : List Expr} {te : TE} {t : TA} {pos : Pos}
theorem pa_nil : PA X [] tNil := fun _ _ _ _ H Q I h => Calls.spliced_nil ⟨[], H, I, .nil, h⟩
theorem pa_cons (ha : PE X e te) (hr : PA X es t) (hs : starEach (e :: es) X.env = (false, eval e X.env) :: starEach es X.env := by rfl) : PA X (e :: es) (tCons te t) := by
  intro pos pins s σ H Q I h
  rw [hs]
  show wpAny _ _ (spliced ((false, eval e X.env) :: backTo pos (starEach es X.env))) _ _ s
  refine Calls.spliced_cons (thn (ha pins s σ H _ I h) fun u s1 ⟨x, H1, I1, r1, q1⟩ => ?_)
  exact thn (hr pos pins s1 σ H1 _ I1 q1) fun us s2 ⟨xs, H2, I2, r2, q2⟩ => ⟨x :: xs, H2, I2, .cons r1 r2, q2⟩

/-- a tuple, a list of written items -/
def tTup (t : TA) : TE := fun σ H Q => t σ H fun xs H1 => xs.length ≤ sizeLine ∧ ∀ p, H1 p = none → Q (.ref p) (upd H1 p (.tup xs))
def tLst (t : TA) : TE := fun σ H Q => t σ H fun xs H1 => xs.length ≤ sizeLine ∧ ∀ p, H1 p = none → Q (.ref p) (upd H1 p (.lst xs))
theorem pe_tup {x1} (h : PA X es t) : PE X (.Tuple es x1 pos) (tTup t) := by
  intro pins s σ H Q I hq
  refine wpAny_Tuple_spliced (thn (h pos pins s σ H _ I hq) fun us s1 ⟨xs, H1, I1, r, z, q⟩ => ⟨by rw [← r.length]; exact z, ?_⟩)
  have hf : H1 s1.heap.objs.size = none := I1.hok.fresh (Nat.le_refl _)
  refine ⟨.ref s1.heap.objs.size, upd H1 s1.heap.objs.size (.tup xs), I1.laid (t' := s1.toks) (fun b u e => Heap.get?_push_of_some _ e) (Nat.le_refl _) ?_, rfl, q _ hf⟩
  exact ⟨z, us, r, ⟨_, Heap.get?_push_size _ rfl, rfl, _, rfl⟩⟩
theorem pe_lst (h : PA X es t) : PE X (.List es pos) (tLst t) := by
  intro pins s σ H Q I hq
  refine wpAny_List_spliced (thn (h pos pins s σ H _ I hq) fun us s1 ⟨xs, H1, I1, r, z, q⟩ => ⟨by rw [← r.length]; exact z, ?_⟩)
  have hf : H1 s1.heap.objs.size = none := I1.hok.fresh (Nat.le_refl _)
  refine ⟨.ref s1.heap.objs.size, upd H1 s1.heap.objs.size (.lst xs), I1.laid (t' := s1.toks) (fun b u e => Heap.get?_push_of_some _ e) (Nat.le_refl _) ?_, rfl, q _ hf⟩
  exact ⟨z, us, 0, r, Heap.get?_push_size _ rfl⟩
end

/-! ### what a def promises -/
/-- a def's promise: the bound arguments in the parameters' order, the heap, the wanted end, the wanted exception -/
abbrev Sp := List V → Hp → VK → XK → Prop
/-- how an exception lies behind a call (file 08 gives it): the callers' frames, abstract heap and state ahead of the call, the wish, the exception, the state -/
abbrev CXT := List Env → Hp → Shared → XK → Value → Shared → Prop

/-- the state at a call -/
structure Env0 (P : Program) (w : World) (K : PySem.W.Frag) (mg : Str → Option Value) (base : Heap) (A : Around) (outer : List Env) (s : Shared) (H : Hp) : Prop where
  frames : A.frames = some outer
  mod : Mod K mg base
  bs : ∀ b o, base.get? b = some o → s.heap.get? b = some o ∧ H b = none
  bsz : base.objs.size ≤ s.heap.objs.size
  funs : s.heap.FunFrames base outer
  frf : ∀ b ∈ frs outer, H b = none
  hok : HOk P w H s.heap
  bare : AllBare s.gens
/-- a call's end -/
def CE (outer : List Env) (P : Program) (w : World) (H : Hp) (s : Shared) (Q : VK) (u : Value) (s' : Shared) : Prop :=
  ∃ v H', s'.os = s.os ∧ AllBare s'.gens ∧ Un (frs outer) [] H H' s.heap s'.heap ∧ HOk P w H' s'.heap ∧ RelV v u ∧ Q v H'
def CR (CX : CXT) (outer : List Env) (P : Program) (w : World) (H : Hp) (s : Shared) (Q : VK) (E : XK) (r : Result) (s' : Shared) : Prop :=
  match r with
  | .ok (.ret u) => CE outer P w H s Q u s'
  | .ok _ => False
  | .error e => CX outer H s E e s'
structure FnOk (P : Program) (w : World) (K : PySem.W.Frag) (mg : Str → Option Value) (base : Heap) (CX : CXT) (k : Nat) (f : Addr) (fd : FuncData) (ps : List Str) (sp : Sp) : Prop where
  len : ∀ vs H Q E, sp vs H Q E → vs.length = ps.length
  run : ∀ (A : Around) (outer : List Env) (s : Shared) (H : Hp) (args : Args) (us : List Value) (vs : List V) (Q : VK) (E : XK), Room k A → Env0 P w K mg base A outer s H → BindsTo s fd args (ps.zip us) → Vals vs us → sp vs H Q E →
    codeAny (model P w) A (.call (.ref f) args) (CR CX outer P w H s Q E) s
theorem FnOk.mono {P : Program} {w : World} {K : PySem.W.Frag} {mg : Str → Option Value} {base : Heap} {CX : CXT} {j k : Nat} {f : Addr} {fd : FuncData} {ps : List Str} {sp : Sp} (F : FnOk P w K mg base CX j f fd ps sp) (h : j ≤ k) :
    FnOk P w K mg base CX k f fd ps sp := ⟨F.len, fun A outer s H args us vs Q E hr => F.run A outer s H args us vs Q E (hr.mono h)⟩
/-- a weaker promise -/
theorem FnOk.imp {P : Program} {w : World} {K : PySem.W.Frag} {mg : Str → Option Value} {base : Heap} {CX : CXT} {k : Nat} {f : Addr} {fd : FuncData} {ps : List Str} {sp sp' : Sp} (F : FnOk P w K mg base CX k f fd ps sp)
    (h : ∀ vs H Q E, sp' vs H Q E → sp vs H Q E) : FnOk P w K mg base CX k f fd ps sp' :=
  ⟨fun vs H Q E q => F.len vs H Q E (h _ _ _ _ q), fun A outer s H args us vs Q E hr he hb hv hs => F.run A outer s H args us vs Q E hr he hb hv (h _ _ _ _ hs)⟩

theorem Env0.make {P : Program} {w : World} {K : PySem.W.Frag} {mg : Str → Option Value} {base : Heap} {A : Around} {outer : List Env} {s : Shared} {H : Hp} (e : Env0 P w K mg base A outer s H) (C : Addr) (us : List Value) (kw : List (Str × Value)) :
    Env0 P w K mg base (A.under (.builtin "type.__call__" ⟨.ref C :: us, kw⟩)) outer s H := ⟨by first | exact e.frames | (simpa [Around.under, Code.envs, Code.isFrame, pushEnvs] using e.frames), e.mod, e.bs, e.bsz, e.funs, e.frf, e.hok, e.bare⟩
theorem Env0.in1 {P : Program} {w : World} {K : PySem.W.Frag} {mg : Str → Option Value} {base : Heap} {A : Around} {outer : List Env} {s : Shared} {H : Hp} (e : Env0 P w K mg base A outer s H) :
    Env0 P w K mg base A.in1 outer s H := ⟨e.frames, e.mod, e.bs, e.bsz, e.funs, e.frf, e.hok, e.bare⟩

section
variable {X : Cx} {pins : List (Addr × Obj)} {σ : St} {H : Hp} {s s' : Shared}
/-- from a body: what a callee wants -/
theorem Inv.env0 (I : Inv X pins σ H s) : Env0 X.prog X.w X.K X.mg X.base X.A X.stack s H :=
  ⟨I.ok.frames, I.ok.mod, I.bs, Nat.le_trans I.ok.bsz I.sz, I.stack, I.stkFree, I.hok, I.bare⟩
/-- behind a call -/
theorem Inv.after {Q : VK} {u : Value} (I : Inv X pins σ H s) (h : CE X.stack X.prog X.w H s Q u s') : EP X pins σ Q u s' := by
  obtain ⟨v, H', os, bare, un, hok, r, q⟩ := h
  obtain ⟨hh, g, d, t, os'⟩ := s'
  obtain rfl : os' = s.os := os
  exact ⟨v, H', I.call (h' := hh) (g' := g) (d' := d) (t' := t) (ch := []) un hok bare (fun b z => absurd z (by simp)), r, q⟩
end

/-! ### calls -/
/-- f(..): the written arguments, then the defaults dvs; E: what is wanted of an exception -/
def tCall (sp : Sp) (dvs : List V) (E : XK) (t : TA) : TE := fun σ H Q => t σ H fun vs H1 => sp (vs ++ dvs) H1 Q E
/-- o.m(..) of an instance of the class at C -/
def tMeth (C : Addr) (m : Str) (sp : Sp) (dvs : List V) (E : XK) (ta : TE) (t : TA) : TE := fun σ H Q => ta σ H fun x H1 => ∃ a dx fs, x = .ref a ∧ H1 a = some (.ins C dx fs) ∧ fs.lookup m = none ∧
  t σ H1 fun vs H2 => sp (x :: (vs ++ dvs)) H2 Q E
/-- C(..): a new instance and its dict, then __init__ -/
def tMake (C : Addr) (sp : Sp) (dvs : List V) (E : XK) (t : TA) : TE := fun σ H Q => t σ H fun vs H1 => ∀ x dx, H1 x = none → H1 dx = none → dx ≠ x →
  sp (.ref x :: (vs ++ dvs)) (upd (upd H1 dx (.own x)) x (.ins C dx [])) (fun v H2 => v = .non ∧ Q (.ref x) H2) E

/-- how the parameters are bound: us the positional arguments, kw the keywords' values by name, ds the defaults that fill up -/
def Binds (K : PySem.W.Frag) (fd : FuncData) (ps : List Str) (ds : List Value) : Prop :=
  ∀ (s : Shared) (us : List Value), K.In s.heap → (us ++ ds).length = ps.length → BindsTo s fd ⟨us, []⟩ (ps.zip (us ++ ds))
/-- every parameter is given -/
theorem Binds.all {K : PySem.W.Frag} {fd : FuncData} {ps : List Str} (h : ∀ us : List Value, us.length = ps.length → bindArgs fd ⟨us, []⟩ = pure (ps.zip us)) : Binds K fd ps [] := fun s us _ hl => by
  rw [List.append_nil] at hl ⊢
  exact .of_eq (h us hl)

/-- an exception of a callee reaches what this body wants of exceptions -/
def Passes (CX : CXT) (X : Cx) (E : XK) : Prop := ∀ (pins : List (Addr × Obj)) (σ : St) (H : Hp) (s : Shared) (e : Value) (s' : Shared), Inv X pins σ H s → CX X.stack H s E e s' → X.xe e s'

section
variable {X : Cx} {CX : CXT} {k : Nat} {f C : Addr} {fd : FuncData} {ps : List Str} {sp : Sp} {dvs : List V} {ds : List Value} {E : XK} {x m : Str} {p pos apos : Pos} {e o : Expr} {es : List Expr} {ta : TE} {t : TA}

/-- the callee runs -/
theorem run_fn {pins : List (Addr × Obj)} {σ : St} {H : Hp} {s : Shared} {Q : VK} {us : List Value} {vs : List V} (F : FnOk X.prog X.w X.K X.mg X.base CX k f fd ps sp) (hr : Room k X.A) (hb : Binds X.K fd ps ds) (hd : Vals dvs ds) (hx : Passes CX X E)
    (I : Inv X pins σ H s) (r : Vals vs us) (h : sp (vs ++ dvs) H Q E) : wpAny (model X.prog X.w) X.A (call (.ref f) us) (EP X pins σ Q) X.xe s := by
  have r2 : Vals (vs ++ dvs) (us ++ ds) := r.append hd
  have hl : (us ++ ds).length = ps.length := by rw [← r2.length]; exact F.len _ _ _ _ h
  refine wpAny_call (codeAny_mono (F.run X.A X.stack s H ⟨us, []⟩ (us ++ ds) (vs ++ dvs) Q E hr I.env0 (hb s us I.kIn hl) r2 h) fun r s' hq => ?_)
  cases r with
  | error e => exact hx pins σ H s e s' I hq
  | ok fl =>
    cases fl with
    | ret u => exact I.after hq
    | next => exact False.elim hq
    | brk => exact False.elim hq
    | cont => exact False.elim hq

theorem pe_call (F : FnOk X.prog X.w X.K X.mg X.base CX k f fd ps sp) (hr : Room k X.A) (hg : Gl X x) (hm : X.mg x = some (.ref f)) (hk : PySem.W.keepIn X.K (.ref f) = true) (hb : Binds X.K fd ps ds) (hd : Vals dvs ds) (hx : Passes CX X E)
    (ha : PA X (e :: es) t) (hdb : (x == ("__debug__" : Str)) = false := by decide) (he : starEach (e :: es) X.env = (false, eval e X.env) :: starEach es X.env := by rfl) (hpl : (backTo pos (starEach es X.env)).any (·.1) = false := by rfl) :
    PE X (.Call (.Name x p) (e :: es) [] pos) (tCall sp dvs E t) := by
  intro pins s σ H Q I h
  refine wpAny_Call_Name_kw (ld_glob I hg hm ?_ hdb)
  refine PySem.W.callWith_K (h₀ := X.base) I.ok.mod.kin hk (thn (ha pos pins s σ H _ I h) fun us s1 ⟨vs, H1, I1, r, q⟩ => ⟨I1.kIn, ?_⟩) he hpl
  exact run_fn F hr hb hd hx I1 r q
theorem pe_call0 (F : FnOk X.prog X.w X.K X.mg X.base CX k f fd ps sp) (hr : Room k X.A) (hg : Gl X x) (hm : X.mg x = some (.ref f)) (hk : PySem.W.keepIn X.K (.ref f) = true) (hb : Binds X.K fd ps ds) (hd : Vals dvs ds) (hx : Passes CX X E)
    (hdb : (x == ("__debug__" : Str)) = false := by decide) : PE X (.Call (.Name x p) [] [] pos) (tCall sp dvs E tNil) := by
  intro pins s σ H Q I h
  refine wpAny_Call_Name_kw (ld_glob I hg hm ?_ hdb)
  exact PySem.W.callWith_K0 I.kIn hk (run_fn (us := []) F hr hb hd hx I .nil h)

/-- o.m(e, ..) -/
theorem pe_meth {pl : Sem Bool} (he : PE X o ta) (c : Cls X.K C) (hm : Meth X.K C m f) (F : FnOk X.prog X.w X.K X.mg X.base CX k f fd ps sp) (hr : Room k X.A) (hb : Binds X.K fd ps ds) (hd : Vals dvs ds) (hx : Passes CX X E) (ha : PA X (e :: es) t)
    (hst : starEach (e :: es) X.env = (false, eval e X.env) :: starEach es X.env := by rfl) (hpl : (backTo pos (starEach es X.env)).any (·.1) = false := by rfl)
    (ht : eval (.Call (.Attribute o m apos) (e :: es) [] pos) X.env = (do
      let ov ← eval o X.env
      standAt apos.atName
      let (f, first) ← holding [ov] (getMethod ov m pl)
      callWith pos f first (backTo pos (starEach (e :: es) X.env)) (backToKw pos (keywordEach [] X.env))) := by rfl) :
    PE X (.Call (.Attribute o m apos) (e :: es) [] pos) (tMeth C m sp dvs E ta t) := by
  intro pins s σ H Q I h
  refine PySem.W.methodCall_KW (pl := pl) (thn (he pins s σ H _ I h) fun u s1 ⟨x, H1, I1, rx, a, dx, fs, ex, ea, l, q⟩ => ?_) ht
  subst ex
  obtain rfl : u = Value.ref a := rx
  refine getmeth_ok I1 ea c hm l ?_
  refine PySem.W.callWith_K (first := [.ref a]) (h₀ := X.base) I.ok.mod.kin hm.kp (thn (ha pos pins s1 σ H1 _ I1 q) fun us s2 ⟨vs, H2, I2, r, q2⟩ => ⟨I2.kIn, ?_⟩) hst hpl
  exact run_fn (us := .ref a :: us) (vs := .ref a :: vs) F hr hb hd hx I2 (.cons rfl r) q2
/-- o.m() -/
theorem pe_meth0 {pl : Sem Bool} (he : PE X o ta) (c : Cls X.K C) (hm : Meth X.K C m f) (F : FnOk X.prog X.w X.K X.mg X.base CX k f fd ps sp) (hr : Room k X.A) (hb : Binds X.K fd ps ds) (hd : Vals dvs ds) (hx : Passes CX X E)
    (ht : eval (.Call (.Attribute o m apos) [] [] pos) X.env = (do
      let ov ← eval o X.env
      standAt apos.atName
      let (f, first) ← holding [ov] (getMethod ov m pl)
      callWith pos f first (backTo pos (starEach [] X.env)) (backToKw pos (keywordEach [] X.env))) := by rfl) :
    PE X (.Call (.Attribute o m apos) [] [] pos) (tMeth C m sp dvs E ta tNil) := by
  intro pins s σ H Q I h
  refine PySem.W.methodCall_KW (pl := pl) (thn (he pins s σ H _ I h) fun u s1 ⟨x, H1, I1, rx, a, dx, fs, ex, ea, l, q⟩ => ?_) ht
  subst ex
  obtain rfl : u = Value.ref a := rx
  refine getmeth_ok I1 ea c hm l ?_
  exact PySem.W.callWith_K0 (first := [.ref a]) I1.kIn hm.kp (run_fn (us := [.ref a]) (vs := [.ref a]) F hr hb hd hx I1 (.cons rfl .nil) q)

/-- what a class must have to be made -/
structure Mk (K : PySem.W.Frag) (C f : Addr) : Prop where
  makes : PySem.W.makesIn K C = true
  init : PySem.W.findIn K (.ref C) "__init__" = some (some (.ref f))
  fn : PySem.W.isFn K (.ref f) = true
  kp : PySem.W.keepIn K (.ref C) = true

theorem run_make {pins : List (Addr × Obj)} {σ : St} {H : Hp} {s : Shared} {Q : VK} {us : List Value} {vs : List V} (M : Mk X.K C f) (F : FnOk X.prog X.w X.K X.mg X.base CX k f fd ps sp) (hr : Room (k + 1) X.A) (hb : Binds X.K fd ps ds) (hd : Vals dvs ds)
    (hx : Passes CX X E) (I : Inv X pins σ H s) (r : Vals vs us)
    (h : ∀ x dx, H x = none → H dx = none → dx ≠ x → sp (.ref x :: (vs ++ dvs)) (upd (upd H dx (.own x)) x (.ins C dx [])) (fun v H2 => v = .non ∧ Q (.ref x) H2) E) :
    wpAny (model X.prog X.w) X.A (call (.ref C) us) (EP X pins σ Q) X.xe s := by
  have hq := h (s.heap.objs.size + 1) s.heap.objs.size (I.hok.fresh (Nat.le_succ _)) (I.hok.fresh (Nat.le_refl _)) (Nat.ne_of_lt (Nat.lt_succ_self _))
  have I2 := Inv.made (C := C) I
  have r2 : Vals (V.ref (s.heap.objs.size + 1) :: (vs ++ dvs)) (Value.ref (s.heap.objs.size + 1) :: (us ++ ds)) := .cons rfl (r.append hd)
  have hl : (Value.ref (s.heap.objs.size + 1) :: us ++ ds).length = ps.length := by
    have e := r2.length
    rw [F.len _ _ _ _ hq] at e
    exact e.symm
  refine wpAny_call (make_map (f := f) I.kIn M.makes M.init (beq_iff_eq.mp M.fn) (codeAny_mono (F.run _ X.stack _ _ ⟨Value.ref (s.heap.objs.size + 1) :: us, []⟩ (Value.ref (s.heap.objs.size + 1) :: (us ++ ds)) _ _ E (hr.make C us [])
    (I2.env0.make C us []) (hb _ (Value.ref (s.heap.objs.size + 1) :: us) I2.kIn hl) r2 hq) fun r s' hq' => ?_))
  cases r with
  | error e => exact hx pins σ _ _ e s' I2 hq'
  | ok fl =>
    cases fl with
    | ret u =>
      obtain ⟨v, H', I3, rv, ev, q3⟩ := I2.after hq'
      subst ev
      exact ⟨rv, ⟨V.ref (s.heap.objs.size + 1), H', I3, rfl, q3⟩⟩
    | next => exact False.elim hq'
    | brk => exact False.elim hq'
    | cont => exact False.elim hq'
theorem pe_make (M : Mk X.K C f) (F : FnOk X.prog X.w X.K X.mg X.base CX k f fd ps sp) (hr : Room (k + 1) X.A) (hg : Gl X x) (hm : X.mg x = some (.ref C)) (hb : Binds X.K fd ps ds) (hd : Vals dvs ds) (hx : Passes CX X E)
    (ha : PA X (e :: es) t) (hdb : (x == ("__debug__" : Str)) = false := by decide) (he : starEach (e :: es) X.env = (false, eval e X.env) :: starEach es X.env := by rfl) (hpl : (backTo pos (starEach es X.env)).any (·.1) = false := by rfl) :
    PE X (.Call (.Name x p) (e :: es) [] pos) (tMake C sp dvs E t) := by
  intro pins s σ H Q I h
  refine wpAny_Call_Name_kw (ld_glob I hg hm ?_ hdb)
  refine PySem.W.callWith_K (h₀ := X.base) I.ok.mod.kin M.kp (thn (ha pos pins s σ H _ I h) fun us s1 ⟨vs, H1, I1, r, q⟩ => ⟨I1.kIn, ?_⟩) he hpl
  exact run_make M F hr hb hd hx I1 r q
theorem pe_make0 (M : Mk X.K C f) (F : FnOk X.prog X.w X.K X.mg X.base CX k f fd ps sp) (hr : Room (k + 1) X.A) (hg : Gl X x) (hm : X.mg x = some (.ref C)) (hb : Binds X.K fd ps ds) (hd : Vals dvs ds) (hx : Passes CX X E)
    (hdb : (x == ("__debug__" : Str)) = false := by decide) : PE X (.Call (.Name x p) [] [] pos) (tMake C sp dvs E tNil) := by
  intro pins s σ H Q I h
  refine wpAny_Call_Name_kw (ld_glob I hg hm ?_ hdb)
  exact PySem.W.callWith_K0 I.kIn M.kp (run_make (us := []) M F hr hb hd hx I .nil h)
end

/-! ### keywords -/
/-- the values of the keywords, from the left -/
def PK (X : Cx) (kws : List Keyword) (t : TA) : Prop :=
  ∀ (pos : Pos) (pins : List (Addr × Obj)) (s : Shared) (σ : St) (H : Hp) (Q : List V → Hp → Prop), Inv X pins σ H s → t σ H Q → wpAny (model X.prog X.w) X.A (evalAll ((backToKw pos (keywordEach kws X.env)).map (·.2))) (AP X pins σ Q) X.xe s
section
variable {X : Cx} {CX : CXT} {k : Nat} {f C : Addr} {fd : FuncData} {ps ks : List Str} {sp : Sp} {E : XK} {x m : Str} {p pos apos kpos : Pos} {e o : Expr} {es : List Expr} {kws : List Keyword} {te ta : TE} {t tk : TA} {nm : Option Str}
theorem pk_nil : PK X [] tNil := fun _ _ _ _ H Q I h => wpAny_evalAll_nil ⟨[], H, I, .nil, h⟩
theorem pk_cons (ha : PE X e te) (hr : PK X kws t) : PK X (⟨nm, e, kpos⟩ :: kws) (tCons te t) := by
  intro pos pins s σ H Q I h
  show wpAny _ _ (evalAll ((do let v ← eval e X.env; standAt pos; pure v) :: (backToKw pos (keywordEach kws X.env)).map (·.2))) _ _ s
  refine wpAny_evalAll_cons (wpAny_bind (thn (ha pins s σ H _ I h) fun u s1 ⟨x, H1, I1, r1, q1⟩ => wpAny_bind (wpAny_standAt (wpAny_pure ?_))))
  exact thn (hr pos pins s1 σ H1 _ I1 q1) fun us s2 ⟨xs, H2, I2, r2, q2⟩ => ⟨x :: xs, H2, I2, .cons r1 r2, q2⟩

/-- how a call with keywords binds: g puts the positional values us and the keywords' values ws (names ks) in the parameters' order, defaults among them -/
structure KBinds (K : PySem.W.Frag) (fd : FuncData) (ps ks : List Str) (g : List Value → List Value → List Value) (gV : List V → List V → List V) : Prop where
  to : ∀ (s : Shared) (us ws : List Value), K.In s.heap → (g us ws).length = ps.length → BindsTo s fd ⟨us, ks.zip ws⟩ (ps.zip (g us ws))
  rel : ∀ {vs : List V} {us : List Value} {zs : List V} {ws : List Value}, Vals vs us → Vals zs ws → Vals (gV vs zs) (g us ws)
def tCallK (sp : Sp) (gV : List V → List V → List V) (E : XK) (t tk : TA) : TE := fun σ H Q => t σ H fun vs H1 => tk σ H1 fun zs H2 => sp (gV vs zs) H2 Q E
variable {g : List Value → List Value → List Value} {gV : List V → List V → List V}
theorem run_fnk {pins : List (Addr × Obj)} {σ : St} {H : Hp} {s : Shared} {Q : VK} {us ws : List Value} {vs zs : List V} (F : FnOk X.prog X.w X.K X.mg X.base CX k f fd ps sp) (hr : Room k X.A) (hb : KBinds X.K fd ps ks g gV) (hx : Passes CX X E)
    (I : Inv X pins σ H s) (r : Vals vs us) (rz : Vals zs ws) (h : sp (gV vs zs) H Q E) : wpAny (model X.prog X.w) X.A (call (.ref f) us (ks.zip ws)) (EP X pins σ Q) X.xe s := by
  have r2 := hb.rel r rz
  have hl : (g us ws).length = ps.length := by rw [← r2.length]; exact F.len _ _ _ _ h
  refine wpAny_call (codeAny_mono (F.run X.A X.stack s H ⟨us, ks.zip ws⟩ (g us ws) (gV vs zs) Q E hr I.env0 (hb.to s us ws I.kIn hl) r2 h) fun r s' hq => ?_)
  cases r with
  | error e => exact hx pins σ H s e s' I hq
  | ok fl =>
    cases fl with
    | ret u => exact I.after hq
    | next => exact False.elim hq
    | brk => exact False.elim hq
    | cont => exact False.elim hq
/-- f(e, .., k = v, ..) -/
theorem pe_callK (F : FnOk X.prog X.w X.K X.mg X.base CX k f fd ps sp) (hr : Room k X.A) (hg : Gl X x) (hm : X.mg x = some (.ref f)) (hk : PySem.W.keepIn X.K (.ref f) = true) (hb : KBinds X.K fd ps ks g gV) (hx : Passes CX X E)
    (ha : PA X (e :: es) t) (hkw : PK X kws tk) (hall : (backToKw pos (keywordEach kws X.env)).all (·.1.isSome) = true := by rfl) (hks : (backToKw pos (keywordEach kws X.env)).filterMap (·.1) = ks := by rfl)
    (hdb : (x == ("__debug__" : Str)) = false := by decide) (he : starEach (e :: es) X.env = (false, eval e X.env) :: starEach es X.env := by rfl)
    (hpl : ((backTo pos (starEach (e :: es) X.env)).any (·.1) || (backToKw pos (keywordEach kws X.env)).any (·.1.isNone)) = false := by rfl) :
    PE X (.Call (.Name x p) (e :: es) kws pos) (tCallK sp gV E t tk) := by
  intro pins s σ H Q I h
  refine wpAny_Call_Name_kw (ld_glob I hg hm ?_ hdb)
  refine PySem.W.callWith_KW (h₀ := X.base) I.ok.mod.kin hk hall (thn (ha pos pins s σ H _ I h) fun us s1 ⟨vs, H1, I1, r, q⟩ => ?_) hpl he
  refine thn (hkw pos pins s1 σ H1 _ I1 q) fun ws s2 ⟨zs, H2, I2, rz, q2⟩ => ⟨I2.kIn, ?_⟩
  rw [hks]
  exact run_fnk F hr hb hx I2 r rz q2
end

/-! ### a def's body keeps its promise -/
/-- names: the parameters first -/
structure FnScope (N P : List Str) (sc : Scope) : Prop where
  kind : sc.kind = .function
  co : sc.isCoroutine = false
  gen : sc.isGenerator = false
  nd : N.Nodup
  pre : N.take P.length = P
  par : ∀ x ∈ P, sc.names.lookup x = some .local ∨ sc.names.lookup x = some .cell
  nofree : ∀ y ∈ sc.names, y.2 ≠ .free

theorem bindL_out {kindOf : Str → Option NameKind} {x : Str} : ∀ {binds : List (Str × Value)} {m : Str → Option Value}, (∀ v, (x, v) ∉ binds) → bindL kindOf binds m x = m x
  | [], _, _ => rfl
  | (n, v) :: r, m, h => by
    unfold bindL
    rw [bindL_out fun w hw => h w (List.mem_cons_of_mem _ hw)]
    split
    · have : x ≠ n := by rintro rfl; exact h v List.mem_cons_self
      simp [this]
    · rfl
theorem bindC_out {kindOf : Str → Option NameKind} {x : Str} : ∀ {binds : List (Str × Value)} {m : Str → Option Value}, (∀ v, (x, v) ∉ binds) → bindC kindOf binds m x = m x
  | [], _, _ => rfl
  | (n, v) :: r, m, h => by
    unfold bindC
    rw [bindC_out fun w hw => h w (List.mem_cons_of_mem _ hw)]
    split
    · rfl
    · have : x ≠ n := by rintro rfl; exact h v List.mem_cons_self
      simp [this]
theorem bindL_get {kindOf : Str → Option NameKind} {x : Str} {v : Value} : ∀ {P : List Str} {vs : List Value} {i : Nat} {m : Str → Option Value}, P.Nodup → P[i]? = some x → vs[i]? = some v → kindOf x = some .local →
    bindL kindOf (P.zip vs) m x = some v
  | [], _, _, _, _, h, _, _ => by simp at h
  | _ :: _, [], _, _, _, _, h, _ => by simp at h
  | p :: P, w :: vs, 0, m, nd, h1, h2, hk => by
    simp at h1 h2; subst h1; subst h2
    show bindL kindOf ((p, w) :: P.zip vs) m p = _
    unfold bindL
    rw [bindL_out fun v hv => (List.nodup_cons.mp nd).1 (List.of_mem_zip hv).1, if_pos hk]
    simp
  | p :: P, w :: vs, i + 1, m, nd, h1, h2, hk => by
    show bindL kindOf ((p, w) :: P.zip vs) m x = _
    unfold bindL
    exact bindL_get (i := i) (List.nodup_cons.mp nd).2 (by simpa using h1) (by simpa using h2) hk
theorem bindC_get {kindOf : Str → Option NameKind} {x : Str} {v : Value} : ∀ {P : List Str} {vs : List Value} {i : Nat} {m : Str → Option Value}, P.Nodup → P[i]? = some x → vs[i]? = some v → kindOf x ≠ some .local →
    bindC kindOf (P.zip vs) m x = some v
  | [], _, _, _, _, h, _, _ => by simp at h
  | _ :: _, [], _, _, _, _, h, _ => by simp at h
  | p :: P, w :: vs, 0, m, nd, h1, h2, hk => by
    simp at h1 h2; subst h1; subst h2
    show bindC kindOf ((p, w) :: P.zip vs) m p = _
    unfold bindC
    rw [bindC_out fun v hv => (List.nodup_cons.mp nd).1 (List.of_mem_zip hv).1, if_neg hk]
    simp
  | p :: P, w :: vs, i + 1, m, nd, h1, h2, hk => by
    show bindC kindOf ((p, w) :: P.zip vs) m x = _
    unfold bindC
    exact bindC_get (i := i) (List.nodup_cons.mp nd).2 (by simpa using h1) (by simpa using h2) hk

/-- the names' values at the entry -/
def start (N : List Str) (vs : List V) : St := vs.map some ++ List.replicate (N.length - vs.length) none

/-- the context of a def's body, at its entry; an exception leaves the frame, then lies as CX says -/
def cxOf (CX : CXT) (P : Program) (w : World) (K : PySem.W.Frag) (mg : Str → Option Value) (base : Heap) (N : List Str) (qual : Str) (scope : Scope) (f : Addr) (cd : Value) (A : Around) (outer : List Env) (s : Shared) (H : Hp) (E : XK) : Cx where
  prog := P
  w := w
  K := K
  mg := mg
  base := base
  A := A.deeper (envOfC qual scope s.heap.objs.size f cd)
  N := N
  s₀ := s
  H₀ := H
  env := envOfC qual scope s.heap.objs.size f cd
  outer := outer
  stack := envOfC qual scope s.heap.objs.size f cd :: outer
  ex := []
  calm := true
  fn := fun _ => true
  pn := []
  xe := fun e s' => wpAny (model P w) (A.deeper (envOfC qual scope s.heap.objs.size f cd)) (leaving (envOfC qual scope s.heap.objs.size f cd) e) (fun _ s'' => CX outer H s E e s'') (fun e' s'' => CX outer H s E e' s'') s'

theorem cell_has {sc : Scope} {n : Nat} {x : Str} (h : sc.names.lookup x = some .cell) : ∃ c, (cellsFrom n sc.names []).lookup x = some c := by
  have q := PySem.W.cellsFrom_some sc.names n [] (.inl h)
  exact Option.isSome_iff_exists.mp q

theorem inv_start {CX : CXT} {P : Program} {w : World} {K : PySem.W.Frag} {mg : Str → Option Value} {base : Heap} {N ps : List Str} {qual : Str} {scope : Scope} {f : Addr} {cd : Value} {A : Around} {outer : List Env} {s s1 : Shared} {H : Hp} {E : XK} {us : List Value} {vs : List V}
    (S : FnScope N ps scope) (hd : A.handled = none) (e0 : Env0 P w K mg base A outer s H) (hl : vs.length = ps.length) (r : Vals vs us)
    (x : InCallC s s.heap.objs.size (bindL (envOfC qual scope s.heap.objs.size f cd).kindOf (ps.zip us) fun _ => none) (cellsFrom (s.heap.objs.size + 1) scope.names []) (bindC (envOfC qual scope s.heap.objs.size f cd).kindOf (ps.zip us) fun _ => none) s1) :
    Inv (cxOf CX P w K mg base N qual scope f cd A outer s H E) [] (start N vs) H s1 := by
  have hpl : ps.length ≤ N.length := by have := congrArg List.length S.pre; rw [List.length_take] at this; omega
  obtain ⟨h1, tk, rfl, hk⟩ := x.done
  have noA : ∀ b : Addr, b ∉ (cxOf CX P w K mg base N qual scope f cd A outer s H E).ex := fun b z => absurd (show b ∈ ([] : List Addr) from z) (by simp)
  refine ⟨⟨e0.mod, S.kind, rfl, rfl, Nat.le_refl _, fun y z c h1 h2 => ?_, fun y hy => ?_, fun y c _ h => ?_, fun _ => hd, Around.frames_deeper e0.frames, .inr ⟨rfl, rfl⟩, fun b z => absurd z (noA b), e0.bs, e0.bsz, fun b _ _ => noA b, fun b z => absurd z (noA b), e0.funs, e0.frf⟩,
    rfl, e0.bare, Un.kept hk, ⟨_, x.toInCall.ns, fun i y v h1 h2 h3 => ?_⟩, fun y c h => ⟨_, x.cell y c h⟩, e0.hok.fresh (Nat.le_refl _), fun y c h => ?_, fun p hp => absurd (show p ∈ ([] : List (Addr × Obj)) from hp) (by simp), e0.hok.kept hk, ?_⟩
  · exact name_of_addr x.apart (PySem.mem_of_lookup h1) (PySem.mem_of_lookup h2)
  · have hy : scope.names.lookup y = some .cell ∨ scope.names.lookup y = some .free := hy
    rcases hy with hy | hy
    · exact cell_has hy
    · exact absurd rfl (S.nofree _ (PySem.mem_of_lookup hy))
  · exact Nat.le_of_lt (x.above y c (PySem.mem_of_lookup h))
  · have hi : i < vs.length := by
      unfold start at h2
      by_cases hi : i < vs.length
      · exact hi
      · rw [List.getElem?_append_right (by simpa using hi)] at h2
        rw [List.getElem?_replicate] at h2
        split at h2 <;> cases h2
    have ha : vs[i]? = some v := by
      unfold start at h2
      rw [List.getElem?_append_left (by simpa using hi), List.getElem?_map] at h2
      cases e : vs[i]? with
      | none => rw [e] at h2; cases h2
      | some a => rw [e] at h2; cases h2; rfl
    obtain ⟨u, hu, rv⟩ := r.get ha
    have hp : ps[i]? = some y := by
      rw [← S.pre, List.getElem?_take_of_lt (by omega)]; exact h1
    have ndP : ps.Nodup := by rw [← S.pre]; exact S.nd.sublist (List.take_sublist _ _)
    refine ⟨u, rv, ?_⟩
    rcases S.par y (List.mem_of_getElem? hp) with k | k
    · exact .inl ⟨k, bindL_get ndP hp hu k⟩
    · obtain ⟨c, e⟩ := cell_has (n := s.heap.objs.size + 1) k
      refine .inr ⟨.inl k, c, e, ?_⟩
      have q := x.cell y c e
      rw [bindC_get ndP hp hu (by show scope.names.lookup y ≠ _; rw [k]; decide)] at q
      exact q
  · exact e0.hok.fresh (Nat.le_of_lt (x.above y c (PySem.mem_of_lookup h)))
  · unfold start
    show _ = N.length
    rw [List.length_append, List.length_map, List.length_replicate]
    omega

/-- THE RULE: a def (or a method) of the text, by its body. The body's reading t is chosen for each entry; it is run at the parameters' values -/
theorem fn_of {CX : CXT} {P : Program} {w : World} {K : PySem.W.Frag} {mg : Str → Option Value} {base : Heap} {k : Nat} {f : Addr} {name qual : Str} {params : Arguments} {body : List Stmt} {scope : Scope} {dV kV doc pm cdv ct oc : Value} {an od : Option Addr}
    {osl : Array (Option Value)} {N ps : List Str} {sp : Sp} (lk : K.lookup f = some ⟨oc, od, .func (PySem.W.fnOf name qual params body scope dV kV doc pm an cdv ct), osl⟩) (hcd : PySem.W.codeIn K cdv qual = true) (S : FnScope N ps scope)
    (len : ∀ vs H Q E, sp vs H Q E → vs.length = ps.length)
    (hbody : ∀ (A : Around) (outer : List Env) (s : Shared) (H : Hp) (vs : List V) (Q : VK) (E : XK), Room k (A.deeper (envOfC qual scope s.heap.objs.size f cdv)) → sp vs H Q E →
      ∃ t, PSs (cxOf CX P w K mg base N qual scope f cdv A outer s H E) body t ∧ t { nx := fun _ H' => Q .non H', rt := Q } (start N vs) H) :
    FnOk P w K mg base CX (k + 1) f (PySem.W.fnOf name qual params body scope dV kV doc pm an cdv ct) ps sp := by
  refine ⟨len, fun A outer s H args us vs Q E hr e0 hb r hsp => ?_⟩
  have hl := len _ _ _ _ hsp
  have KX : K.In s.heap := e0.mod.kin.keeps fun b o e => (e0.bs b o e).1
  have lim : s.heap.NoLimit := e0.mod.nolimit.keeps fun b o e => (e0.bs b o e).1
  have hkind : ∀ y ∈ ps.zip us, scope.names.lookup y.1 = some .local ∨ (scope.names.lookup y.1 = some .cell ∧ ((cellsFrom (s.heap.objs.size + 1) scope.names []).lookup y.1).isSome = true) := fun ⟨n, v⟩ hy => by
    rcases S.par n (List.of_mem_zip hy).1 with q | q
    · exact .inl q
    · exact .inr ⟨q, PySem.W.cellsFrom_some _ _ _ (.inl q)⟩
  refine codeAny_call_function hr.depth (KX _ _ lk) rfl S.co S.gen rfl (PySem.W.codeRec_of KX hcd) (hb _ _ _ _ ?_)
  refine wpAny_newFunctionEnv_cells S.kind hkind fun env he s1 x => ?_
  subst he
  refine ⟨lim.keeps x.toInCall.keep, codeAny_func ?_⟩
  obtain ⟨t, ht, hq⟩ := hbody A outer s H vs Q E (hr.deeper _) hsp
  have I : Inv (cxOf CX P w K mg base N qual scope f cdv A outer s H E) [] (start N vs) H s1 := inv_start S hr.hd e0 hl r x
  refine wpAny_mono (ht [] s1 (start N vs) H _ I hq) (fun fl s' hs => ?_) fun e s' hs => hs
  have fin : ∀ {σ' : St} {H' : Hp} {v : V} {u : Value}, Inv (cxOf CX P w K mg base N qual scope f cdv A outer s H E) [] σ' H' s' → RelV v u → Q v H' → CE outer P w H s Q u s' :=
    fun {σ' H' v u} J rv q => ⟨v, H', J.os, J.bare, J.base, J.hok, rv, q⟩
  cases fl with
  | ret u =>
    obtain ⟨v, σ', H', J, rv, q⟩ := hs
    exact fin J rv q
  | next =>
    obtain ⟨σ', H', J, q⟩ := hs
    exact fin (v := V.non) (u := Value.none) J rfl q
  | brk =>
    obtain ⟨_, _, _, q⟩ := hs
    exact False.elim q
  | cont =>
    obtain ⟨_, _, _, q⟩ := hs
    exact False.elim q
end L2

namespace L2
open PySem PySem.Spec PyProof.Rows
section
variable {X : Cx} {x : Str} {p pos : Pos} {e : Expr} {es : List Expr} {t : TA} {id T : String} {r : List V → Hp → VK → Prop}

def tCB (r : List V → Hp → VK → Prop) (t : TA) : TE := fun σ H Q => t σ H fun vs H1 => r vs H1 Q
/-- f(e, ..), f a built-in function -/
theorem pe_callB (hc : CallR X (.builtin id) r) (hg : Gl X x) (hm : X.mg x = none) (hv : bootBuiltins x = some (.builtin id)) (ha : PA X (e :: es) t) (hn : x ≠ "__name__" := by decide) (hdb : (x == ("__debug__" : Str)) = false := by decide)
    (he : starEach (e :: es) X.env = (false, eval e X.env) :: starEach es X.env := by rfl) (hpl : (backTo pos (starEach es X.env)).any (·.1) = false := by rfl) : PE X (.Call (.Name x p) (e :: es) [] pos) (tCB r t) := by
  intro pins s σ H Q I h
  refine wpAny_Call_Name_kw (ld_blt I hg hm hv ?_ hn hdb)
  exact PyProof.Rows.callWith_builtin1 (thn (ha pos pins s σ H _ I h) fun us s1 ⟨vs, H1, I1, r1, q1⟩ => hc pins s1 σ H1 vs us Q I1 r1 q1) he hpl
/-- T(e, ..), T a built-in type -/
theorem pe_callTy (hc : CallR X (.type T) r) (hg : Gl X x) (hm : X.mg x = none) (hv : bootBuiltins x = some (.type T)) (ha : PA X (e :: es) t) (hn : x ≠ "__name__" := by decide) (hdb : (x == ("__debug__" : Str)) = false := by decide)
    (he : starEach (e :: es) X.env = (false, eval e X.env) :: starEach es X.env := by rfl) (hpl : (backTo pos (starEach es X.env)).any (·.1) = false := by rfl) : PE X (.Call (.Name x p) (e :: es) [] pos) (tCB r t) := by
  intro pins s σ H Q I h
  refine wpAny_Call_Name_kw (ld_blt I hg hm hv ?_ hn hdb)
  exact PyProof.Rows.callWith_type1 (thn (ha pos pins s σ H _ I h) fun us s1 ⟨vs, H1, I1, r1, q1⟩ => hc pins s1 σ H1 vs us Q I1 r1 q1) he hpl
/-- T() -/
theorem pe_callTy0 (hc : CallR X (.type T) r) (hg : Gl X x) (hm : X.mg x = none) (hv : bootBuiltins x = some (.type T)) (hn : x ≠ "__name__" := by decide) (hdb : (x == ("__debug__" : Str)) = false := by decide) :
    PE X (.Call (.Name x p) [] [] pos) (tCB r tNil) := by
  intro pins s σ H Q I h
  refine wpAny_Call_Name_kw (ld_blt I hg hm hv ?_ hn hdb)
  exact PyProof.Rows.callWith_type0 (hc pins s σ H [] [] Q I .nil h)
end
end L2

namespace HT
open PySem PyProof.Rows

/-- t < u of tuples of ints -/
def lexLt : List Int → List Int → Bool
  | [], [] => false
  | [], _ :: _ => true
  | _ :: _, [] => false
  | x :: xs, y :: ys => if x = y then lexLt xs ys else decide (x < y)
theorem lexLt_cons (x y : Int) (xs ys : List Int) : lexLt (x :: xs) (y :: ys) = if x = y then lexLt xs ys else decide (x < y) := rfl
theorem lexLt_nil_nil : lexLt [] [] = false := rfl
theorem lexLt_nil_cons (y : Int) (ys : List Int) : lexLt [] (y :: ys) = true := rfl
theorem lexLt_cons_nil (x : Int) (xs : List Int) : lexLt (x :: xs) [] = false := rfl

theorem eqAt_int (A : Around) (s : Shared) (a : Int) (t : Tok) (c : Int) (u : Tok) : ∃ e, SeqAt.EqAt A s (.int a t) (.int c u) e ∧ (e = true ↔ a = c) :=
  ⟨(a == c), SeqAt.EqAt.int_int a t c u, by simp⟩
theorem rcLt_int (A : Around) (s : Shared) (a : Int) (t : Tok) (c : Int) (u : Tok) (prog : Program) (w : World) (E : Value → Shared → Prop) (Q : Value → Shared → Prop) (h : Q (.bool (decide (a < c))) s) :
    wpAny (model prog w) A (richCompare .Lt (.int a t) (.int c u)) Q E s :=
  (PyProof.Rows.lt_int h : wpAny (model prog w) A (compareOp .Lt (.int a t) (.int c u)) Q E s)

section
open PySem.SeqAt
open PySem.AutoSeq1 (wpAny_loadPart')
open PySem.MeetsSeq PySem.MeetsSeq2 PySem.MeetsSeq3

theorem tuple_lt_ints (l b : Addr) (items items2 : Array Value) (n n2 : Nat) (dd dd2 : Option Addr) (sl sl2 : Array (Option Value)) (ns ms : List Int) (hi : IntsAre items.toList ns) (hj : IntsAre items2.toList ms) :
    Meets (Builtin.«tuple.__lt__» ⟨[.ref l, .ref b], []⟩)
      (fun _ R s => s.heap.get? l = some { cls := .type "tuple", dict := dd, data := .seq items n, slots := sl } ∧ s.heap.get? b = some { cls := .type "tuple", dict := dd2, data := .seq items2 n2, slots := sl2 } ∧
        R (.ok (.ret (.bool (lexLt ns ms)))) s) :=
  .of_wp fun prog w A R s h => by
    obtain ⟨hp, g, d, tk, os⟩ := s; obtain ⟨hl, hb, h⟩ := h
    have f2 := AutoSeq1.sub_tuple_tuple
    have z1 : items.size = ns.length := by rw [← hi.length]; simp
    have z2 : items2.size = ms.length := by rw [← hj.length]; simp
    wp_walk using wpAny_loadPart' hl, wpAny_loadPart' hb, wpAny_forIn_list _ (fun rest b s' => b.1 = none ∧ s' = ⟨hp, g, d, tk, os⟩ ∧ ∃ (vs ws : List Value) (ns' ms' : List Int), rest = vs.zip ws ∧
      IntsAre vs ns' ∧ IntsAre ws ms' ∧ ns'.length + items2.size = ms'.length + items.size ∧ R (.ok (.ret (.bool (lexLt ns' ms')))) ⟨hp, g, d, tk, os⟩) _
    case turn =>
      rintro ⟨y, x⟩ rest b s' ⟨hb', rfl, vs, ws, ns', ms', hz, hvi, hwi, hlen, hR⟩
      cases hvi with
      | nil => rw [List.zip_nil_left] at hz; cases hz
      | cons a t hvi' =>
        cases hwi with
        | nil => rw [List.zip_nil_right] at hz; cases hz
        | cons c u hwi' =>
          rw [List.zip_cons_cons] at hz
          injection hz with hyx hrest
          injection hyx with hy hx
          subst hy hx
          rw [lexLt_cons] at hR
          simp only [List.length_cons] at hlen
          obtain ⟨e, he, hiff⟩ := eqAt_int A.in1 ⟨hp, g, d, tk, os⟩ a t c u
          refine wpAny_bind (he prog w _ _ ?_)
          cases e with
          | true =>
            rw [if_pos (hiff.mp rfl)] at hR
            wp_walk
            exact ⟨rfl, rfl, _, _, _, _, hrest, hvi', hwi', by omega, hR⟩
          | false =>
            rw [if_neg (fun q => absurd (hiff.mpr q) Bool.false_ne_true)] at hR
            have hri := rcLt_int A.in1 ⟨hp, g, d, tk, os⟩ a t c u prog w
            wp_walk using hri
            exact ⟨_, rfl, by simpa using hR⟩
    case fin =>
      rintro ⟨b1, b2⟩ s' ⟨hb', rfl, vs, ws, ns', ms', hz, hvi, hwi, hlen, hR⟩
      simp only at hb'
      subst hb'
      have hv : lexLt ns' ms' = decide (items.size < items2.size) := by
        cases hvi with
        | nil =>
          cases hwi with
          | nil =>
            simp only [List.length_nil] at hlen
            rw [lexLt_nil_nil]
            exact (decide_eq_false (by omega)).symm
          | cons c u hw =>
            simp only [List.length_nil, List.length_cons] at hlen
            rw [lexLt_nil_cons]
            exact (decide_eq_true (by omega)).symm
        | cons a t hv =>
          cases hwi with
          | nil =>
            simp only [List.length_nil, List.length_cons] at hlen
            rw [lexLt_cons_nil]
            exact (decide_eq_false (by omega)).symm
          | cons c u hw =>
            rw [List.zip_cons_cons] at hz
            cases hz
      rw [hv] at hR
      wp_walk
      exact ⟨_, rfl, by simpa [Builtin.Tuple.tupleCompareSizes] using hR⟩
    case h =>
      exact ⟨rfl, rfl, items.toList, items2.toList, ns, ms, rfl, hi, hj, by omega, h⟩
end

section
variable {prog : Program} {w : World} {A : Around} {E : Value → Shared → Prop} {s : Shared}

theorem lt_tupInts {l b : Addr} {items items2 : Array Value} {ns ms : List Int} {Q : Value → Shared → Prop} (hl : IsTup s.heap l items) (hb : IsTup s.heap b items2) (hi : IntsAre items.toList ns) (hj : IntsAre items2.toList ms)
    (hu : A.units < cLine) (h : Q (.bool (lexLt ns ms)) s) : wpAny (model prog w) A (compareOp .Lt (.ref l) (.ref b)) Q E s := by
  obtain ⟨⟨cls, dd, data, sl⟩, ho, hc, n, hd⟩ := id hl
  obtain ⟨⟨cls2, dd2, data2, sl2⟩, ho2, hc2, n2, hd2⟩ := id hb
  simp only at hc hd hc2 hd2
  subst hc hd hc2 hd2
  exact richCompare_meets_room (op := .Lt) ⟨_, ho, rfl⟩ ⟨_, ho2, rfl⟩ PySem.F.slot_tuple_lt PySem.F.entry_tuple_lt (PySem.F.args_tuple_lt_2 _ _) (tuple_lt_ints l b items items2 n n2 dd dd2 sl sl2 ns ms hi hj)
    ⟨ho, ho2, show Value.bool (lexLt ns ms) ≠ Value.notImplemented ∧ Q (.bool (lexLt ns ms)) s from ⟨(fun x => nomatch x), h⟩⟩ hu

/-- t + u, t not empty -/
theorem cat_tup {t b : Addr} {vs ws : List Value} {Q : Value → Shared → Prop} (ht : IsTup s.heap t vs.toArray) (hb : IsTup s.heap b ws.toArray) (hv : vs ≠ [])
    (h1 : ws = [] → Q (.ref t) s) (h2 : ws ≠ [] → Q (.ref s.heap.objs.size) { s with heap := s.heap.push { cls := .type "tuple", data := .seq (vs ++ ws).toArray } })
    (hsz : vs.length + ws.length ≤ sizeLine) : wpAny (model prog w) A (binaryOp .Add (.ref t) (.ref b)) Q E s := by
  obtain ⟨⟨cls, dd, data, sl⟩, ho, hc, n, hd⟩ := id ht
  obtain ⟨⟨cls2, dd2, data2, sl2⟩, ho2, hc2, n2, hd2⟩ := id hb
  simp only at hc hd hc2 hd2
  subst hc hd hc2 hd2
  have e : vs.toArray ++ ws.toArray = (vs ++ ws).toArray := by simp
  by_cases hw : ws = []
  · exact concat_meets ⟨_, ho, rfl⟩ ⟨_, ho2, rfl⟩ noFill_tuple_add seq_tuple_add PySem.F.slot_tuple_add PySem.F.entry_tuple_add (PySem.F.args_tuple_add_2 _ _)
      (tuple_addW1 t b vs.toArray ws.toArray n n2 dd dd2 sl sl2 (by simpa using hv) (by simp [hw])) ⟨ho, ho2, h1 hw⟩
  · refine concat_meets ⟨_, ho, rfl⟩ ⟨_, ho2, rfl⟩ noFill_tuple_add seq_tuple_add PySem.F.slot_tuple_add PySem.F.entry_tuple_add (PySem.F.args_tuple_add_2 _ _)
      (tuple_addW2 t b vs.toArray ws.toArray n n2 dd dd2 sl sl2 (by simpa using hv) (by simpa using hw) (by rw [List.size_toArray, List.size_toArray]; exact hsz)) ⟨ho, ho2, ?_⟩
    rw [e]
    exact h2 hw

/-! ### t[a:b], not the whole -/
/-- a slice's bound as a place among n (d where it is left out) -/
def sIx (n d : Nat) : Option Int → Nat
  | none => d
  | some v => if v < 0 then (v + (n : Int)).toNat else min v.toNat n
theorem sIx_none (n d : Nat) : sIx n d none = d := rfl
theorem sIx_nat (n d k : Nat) : sIx n d (some (k : Int)) = min k n := by
  show (if (k : Int) < 0 then ((k : Int) + (n : Int)).toNat else min (k : Int).toNat n) = min k n
  rw [if_neg (by omega), Int.toNat_natCast]
theorem sIx_le (n d : Nat) (hd : d ≤ n) (o : Option Int) : sIx n d o ≤ n := by
  cases o with
  | none => exact hd
  | some v =>
    show (if v < 0 then (v + (n : Int)).toNat else min v.toNat n) ≤ n
    by_cases hv : v < 0
    · rw [if_pos hv]; omega
    · rw [if_neg hv]; exact Nat.min_le_right _ _
theorem clip_eq (v : Int) (n d : Nat) : (if v < 0 then max (v + (n : Int)) 0 else min v (n : Int)) = ((sIx n d (some v) : Nat) : Int) := by
  show (if v < 0 then max (v + (n : Int)) 0 else min v (n : Int)) = (((if v < 0 then (v + (n : Int)).toNat else min v.toNat n) : Nat) : Int)
  by_cases hv : v < 0
  · simp only [if_pos hv]; omega
  · simp only [if_neg hv]; omega
theorem adjust_gen (lo hi : Option Int) (n : Nat) : Builtin.Slice.sliceAdjust lo hi 1 (n : Int) = (((sIx n 0 lo : Nat) : Int), ((sIx n n hi : Nat) : Int)) := by
  have h1 : ¬ ((1 : Int) < 0) := by omega
  unfold Builtin.Slice.sliceAdjust
  simp only [h1, if_false]
  refine Prod.ext ?_ ?_
  · cases lo with
    | none => rfl
    | some v => exact clip_eq v n 0
  · cases hi with
    | none => rfl
    | some v => exact clip_eq v n n
theorem places_gen (i j : Nat) : Builtin.Slice.slicePlaces (i : Int) (j : Int) 1 = j - i := by
  unfold Builtin.Slice.slicePlaces
  have h1 : (1 : Int) > 0 := by omega
  simp only [h1, if_true, Int.ediv_one]
  split <;> omega
theorem slicePart_ {v : Value} {o : Option Int} {Q : Option Int → Shared → Prop} (p : IsPart v o) (h : Q o s) : wpAny (model prog w) A (Builtin.Slice.slicePartIndex v) Q E s := by
  cases p with
  | none => exact slicePart_none h
  | int i t => exact slicePart_int h
theorem sliceApplied_gen {sl : Addr} {vl vu : Value} {lo hi : Option Int} {n : Nat} {Q : Int × Int × Nat → Shared → Prop} (hs : s.heap.IsSliceOf sl vl vu .none) (pl : IsPart vl lo) (pu : IsPart vu hi)
    (h : Q (((sIx n 0 lo : Nat) : Int), 1, sIx n n hi - sIx n 0 lo) s) : wpAny (model prog w) A (Builtin.Slice.sliceApplied (.ref sl) (pure (n : Int))) Q E s := by
  obtain ⟨os, hos, hcs, hds⟩ := id hs
  unfold Builtin.Slice.sliceApplied Builtin.Slice.sliceFields
  refine wpAny_bind (wpAny_bind (wpAny_field hos hds (x := vl) rfl (wpAny_bind (wpAny_field hos hds (x := vu) rfl (wpAny_bind (wpAny_field hos hds (x := .none) rfl (wpAny_pure ?_)))))))
  refine wpAny_bind (slicePart_none ?_)
  show wpAny _ _ (if ((1 : Int) == 0) = true then _ else _) _ _ s
  rw [if_neg (by decide)]
  refine wpAny_bind (slicePart_ pl (wpAny_bind (slicePart_ pu (wpAny_bind (wpAny_pure ?_)))))
  show wpAny _ _ (match Builtin.Slice.sliceAdjust lo hi 1 (n : Int) with | (lo, hi) => pure (lo, (1 : Int), Builtin.Slice.slicePlaces lo hi 1)) _ _ s
  rw [adjust_gen lo hi n]
  show wpAny _ _ (pure (((sIx n 0 lo : Nat) : Int), (1 : Int), Builtin.Slice.slicePlaces ((sIx n 0 lo : Nat) : Int) ((sIx n n hi : Nat) : Int) 1)) _ _ s
  rw [places_gen]
  exact wpAny_pure h
theorem pick_gen (xs : Array Value) (i k : Nat) : ((List.range k).filterMap fun (m : Nat) => xs[((i : Int) + (m : Int) * 1).toNat]?).toArray = ((xs.toList.drop i).take k).toArray := by
  have e : (fun (m : Nat) => xs[((i : Int) + (m : Int) * 1).toNat]?) = fun m => xs[i + m]? := by
    funext m
    have : ((i : Int) + (m : Int) * 1).toNat = i + m := by omega
    rw [this]
  rw [e]
  have := pick_run xs i k
  rw [List.filterMap_map] at this
  have e2 : ((fun x => xs[x]?) ∘ fun x => i + x) = fun m => xs[i + m]? := rfl
  rw [e2] at this
  rw [this]

theorem getItem_tuple_cut {t sl : Addr} {items : Array Value} {vl vu : Value} {lo hi : Option Int} {Q : Value → Shared → Prop} (ht : IsTup s.heap t items) (hs : s.heap.IsSliceOf sl vl vu .none) (pl : IsPart vl lo) (pu : IsPart vu hi)
    (hw : ¬ (sIx items.size 0 lo = 0 ∧ sIx items.size items.size hi = items.size))
    (h : Q (.ref s.heap.objs.size) { s with heap := s.heap.push { cls := .type "tuple", data := .seq ((items.toList.drop (sIx items.size 0 lo)).take (sIx items.size items.size hi - sIx items.size 0 lo)).toArray } })
    (hsz : items.size ≤ sizeLine) : wpAny (model prog w) A (getItem (.ref t) (.ref sl)) Q E s := by
  have htake : sizeOk (.seq ((items.toList.drop (sIx items.size 0 lo)).take (sIx items.size items.size hi - sIx items.size 0 lo)).toArray) := by
    show ((items.toList.drop (sIx items.size 0 lo)).take (sIx items.size items.size hi - sIx items.size 0 lo)).toArray.size ≤ sizeLine
    rw [List.size_toArray, List.length_take, List.length_drop, Array.length_toList]
    omega
  have hj : sIx items.size items.size hi ≤ items.size := sIx_le _ _ (Nat.le_refl _) hi
  obtain ⟨os, hos, hcs, hds⟩ := id hs
  have hTs : s.TypeIs (.ref sl) "slice" := ⟨os, hos, hcs⟩
  unfold getItem
  try with_reducible refine wpAny_holding ?_
  first | refine wpAny_bind (wpAny_pure ?_) | skip
  refine wpAny_bind (wpAny_sequenceKey ht.typeIs (by decide) ?_)
  refine wpAny_bind (wpAny_callSpecial?_slot (name := Str.ofString "__getitem__") ht.typeIs PyProof.Rows.slot_tuple_getitem
    (wpAny_call_entry PyProof.Rows.slot_tuple_getitem ht.typeIs entry_tuple_getitem ?_ (args_tuple_getitem _ _)))
  show wpAny _ _ (Builtin.Tuple.tupleItemsOf (.ref t) >>= _) _ _ s
  refine wpAny_bind (tupleItemsOf_ ht ?_)
  refine wpAny_bind (wpAny_typeOf hTs ?_)
  rw [if_pos (by decide)]
  refine wpAny_bind (sliceApplied_gen hs pl pu ?_)
  have hno : ¬ ((((sIx items.size 0 lo : Nat) : Int) == 0 && (1 : Int) == 1 && (sIx items.size items.size hi - sIx items.size 0 lo) == items.size) = true) := by
    intro q
    rw [Bool.and_eq_true, Bool.and_eq_true] at q
    have q1 : ((sIx items.size 0 lo : Nat) : Int) = 0 := eq_of_beq q.1.1
    have q2 : sIx items.size items.size hi - sIx items.size 0 lo = items.size := eq_of_beq q.2
    exact hw ⟨by omega, by omega⟩
  show wpAny _ _ (if (((sIx items.size 0 lo : Nat) : Int) == 0 && (1 : Int) == 1 && (sIx items.size items.size hi - sIx items.size 0 lo) == items.size) = true then _ else _) _ _ s
  rw [if_neg hno, pick_gen]
  first
    | exact wpAny_bind (m := Builtin.Tuple.tupleExact _) (wpAny_newObj_type (wpAny_pure ⟨_, rfl, wpAny_pure h⟩) htake)
    | exact wpAny_bind (m := Builtin.Tuple.tupleExact _) (wpAny_newObj_type (wpAny_bind (wpAny_pure (wpAny_pure ⟨_, rfl, wpAny_pure h⟩))) htake)
    | exact wpAny_bind (wpAny_bind (m := Builtin.Tuple.tupleExact _) (wpAny_newObj_type (wpAny_pure (wpAny_pure ⟨_, rfl, wpAny_pure h⟩)) htake))
    | exact wpAny_bind (wpAny_bind (m := Builtin.Tuple.tupleExact _) (wpAny_newObj_type (wpAny_pure ⟨_, rfl, wpAny_pure h⟩) htake))
end
end HT

namespace L2
open PySem PySem.Spec PyProof.Rows

/-! ### the parts of a slice -/
abbrev TO := St → Hp → (Option Int → Hp → Prop) → Prop
/-- a slice's part (left out, or an int) -/
def PO (X : Cx) (e : Option Expr) (t : TO) : Prop :=
  ∀ (pins : List (Addr × Obj)) (s : Shared) (σ : St) (H : Hp) (Q : Option Int → Hp → Prop), Inv X pins σ H s → t σ H Q →
    wpAny (model X.prog X.w) X.A (evalPart e X.env) (fun u s' => ∃ o H', Inv X pins σ H' s' ∧ IsPart u o ∧ Q o H') X.xe s
def tNoPart : TO := fun _ H Q => Q none H
def tPart (t : TE) : TO := fun σ H Q => t σ H fun x H1 => ∃ i, x = .int i ∧ Q (some i) H1

theorem intsAre_of {ns : List Int} : ∀ {us : List Value}, Vals (ns.map V.int) us → IntsAre us ns := by
  induction ns with
  | nil => intro us r; rw [List.map_nil] at r; cases r; exact .nil
  | cons n ns ih =>
    intro us r
    rw [List.map_cons] at r
    cases r with
    | cons r1 r2 =>
      obtain ⟨t, e⟩ := r1
      subst e
      exact .cons n t (ih r2)

section
variable {X : Cx} {e : Expr} {te : TE} {lo hi : Option Expr} {tl th : TO} {pos p2 : Pos}

theorem po_none : PO X none tNoPart := by
  intro pins s σ H Q I h
  rw [evalPart_none]
  exact wpAny_pure ⟨none, H, I, .none, h⟩
theorem po_some (h : PE X e te) : PO X (some e) (tPart te) := by
  intro pins s σ H Q I hw
  rw [evalPart_some]
  refine thn (h pins s σ H _ I hw) fun u s1 ⟨x, H1, I1, r1, q1⟩ => ?_
  obtain ⟨i, rfl, q⟩ := q1
  obtain ⟨t, rfl⟩ := r1
  exact ⟨some i, H1, I1, .int i t, q⟩

/-- what a slice of a value is, by values: the slice object stands at sl -/
def SlR (X : Cx) (r : V → Option Int → Option Int → Hp → VK → Prop) : Prop :=
  ∀ (pins : List (Addr × Obj)) (s : Shared) (σ : St) (H : Hp) (x : V) (v vl vu : Value) (lo hi : Option Int) (sl : Addr) (Q : VK), Inv X pins σ H s → RelV x v → s.heap.IsSliceOf sl vl vu .none → IsPart vl lo → IsPart vu hi → r x lo hi H Q →
    ∃ T id, typeLookup (.type T) "__getitem__" = pure (some (.builtin id)) ∧ s.TypeIs v T ∧ wpAny (model X.prog X.w) X.A (getItem v (.ref sl)) (EP X pins σ Q) X.xe s
theorem SlR.or {r r' : V → Option Int → Option Int → Hp → VK → Prop} (h : SlR X r) (h' : SlR X r') : SlR X (fun x lo hi H Q => r x lo hi H Q ∨ r' x lo hi H Q) := by
  intro pins s σ H x v vl vu lo hi sl Q I rx hs pl pu q
  rcases q with q | q
  · exact h pins s σ H x v vl vu lo hi sl Q I rx hs pl pu q
  · exact h' pins s σ H x v vl vu lo hi sl Q I rx hs pl pu q
def tSl (r : V → Option Int → Option Int → Hp → VK → Prop) (te : TE) (tl th : TO) : TE := fun σ H Q => te σ H fun x H1 => tl σ H1 fun l H2 => th σ H2 fun u H3 => r x l u H3 Q
/-- a[lo:hi], any a -/
theorem pe_slice {r : V → Option Int → Option Int → Hp → VK → Prop} (hr : SlR X r) (he : PE X e te) (hl : PO X lo tl) (hu : PO X hi th) : PE X (.Subscript e (.Slice lo hi none p2) pos) (tSl r te tl th) := by
  intro pins s σ H Q I h
  refine Subscript_ (thn (he pins s σ H _ I h) fun v s1 ⟨x, H1, I1, r1, q1⟩ => ?_)
  refine wpAny_Slice (thn (hl pins s1 σ H1 _ I1 q1) fun vl s2 ⟨l, H2, I2, pl, q2⟩ => thn (hu pins s2 σ H2 _ I2 q2) fun vu s3 ⟨u, H3, I3, pu, q3⟩ => ?_)
  rw [evalPart_none]
  refine wpAny_pure ?_
  have I4 : Inv X pins σ H3 { s3 with heap := s3.heap.push { cls := .type "slice", data := .fields #[vl, vu, .none] } } := I3.kept (t' := s3.toks) fun b ob q => Heap.get?_push_of_some _ q
  obtain ⟨T, id, hT, ht, hg⟩ := hr pins { s3 with heap := s3.heap.push { cls := .type "slice", data := .fields #[vl, vu, .none] } } σ H3 x v vl vu l u s3.heap.objs.size Q I4 r1 (Heap.IsSliceOf.new ..) pl pu q3
  show wpAny (model X.prog X.w) X.A (subscriptTail e (.Slice lo hi none p2) v (.ref s3.heap.objs.size)) (EP X pins σ Q) X.xe { s3 with heap := s3.heap.push { cls := .type "slice", data := .fields #[vl, vu, .none] } }
  exact tail_any (ops := [.ref s3.heap.objs.size, v]) ht hT hg (by with_unfolding_all rfl)

/-- the items of xs[lo:hi] -/
def cutV (xs : List V) (lo hi : Option Int) : List V := (xs.drop (HT.sIx xs.length 0 lo)).take (HT.sIx xs.length xs.length hi - HT.sIx xs.length 0 lo)
theorem cutV_length (xs : List V) (lo hi : Option Int) : (cutV xs lo hi).length ≤ xs.length := by
  unfold cutV
  rw [List.length_take, List.length_drop]
  omega
/-- t[lo:hi], not the whole of it (the whole would be t itself) -/
def rSlT (K : PySem.W.Frag) : V → Option Int → Option Int → Hp → VK → Prop := fun x lo hi H Q => ∃ a xs, x = .ref a ∧ SqT K H a xs ∧
  ¬ (HT.sIx xs.length 0 lo = 0 ∧ HT.sIx xs.length xs.length hi = xs.length) ∧ ∀ p, H p = none → Q (.ref p) (upd H p (.tup (cutV xs lo hi)))
theorem sl_tup : SlR X (rSlT X.K) := by
  intro pins s σ H x v vl vu lo hi sl Q I rx hs pl pu h
  obtain ⟨a, xs, rfl, hx, hw, q⟩ := h
  cases rx
  obtain ⟨its, r, ht, hz⟩ := I.tuple hx
  have hlen : its.toArray.size = xs.length := by rw [List.size_toArray]; exact r.length.symm
  refine ⟨"tuple", _, PyProof.Rows.slot_tuple_getitem.lookup, ht.typeIs, ?_⟩
  refine HT.getItem_tuple_cut ht hs pl pu (by rw [hlen]; exact hw) ?_ (by rw [hlen]; exact hz)
  rw [hlen]
  refine ⟨.ref s.heap.objs.size, _, I.laid (t' := s.toks) (o := .tup (cutV xs lo hi)) (fun b ob q => Heap.get?_push_of_some _ q) (Nat.le_refl _) ?_, rfl, q _ (I.hok.fresh (Nat.le_refl _))⟩
  exact ⟨Nat.le_trans (cutV_length xs lo hi) hz, _, (r.drop (HT.sIx xs.length 0 lo)).take (HT.sIx xs.length xs.length hi - HT.sIx xs.length 0 lo), IsTup.new _ _⟩

/-! ### t < u, t + u -/
def rLtT (K : PySem.W.Frag) : R2 := fun x y H Q => ∃ a b ns ms, x = .ref a ∧ y = .ref b ∧ SqT K H a (ns.map V.int) ∧ SqT K H b (ms.map V.int) ∧ Q (.bl (HT.lexLt ns ms)) H
theorem op_ltT (hu : X.A.units < cLine) : OpR X (compareOp .Lt) (rLtT X.K) := by
  intro pins s σ H x y v u Q I rx ry h
  obtain ⟨a, b, ns, ms, rfl, rfl, ha, hb, q⟩ := h
  cases rx
  cases ry
  obtain ⟨its, r1, p1, _⟩ := I.tuple ha
  obtain ⟨its2, r2, p2, _⟩ := I.tuple hb
  have i1 : IntsAre its.toArray.toList ns := intsAre_of r1
  have i2 : IntsAre its2.toArray.toList ms := intsAre_of r2
  exact HT.lt_tupInts p1 p2 i1 i2 hu ⟨.bl (HT.lexLt ns ms), H, I, rfl, q⟩
/-- t + u, t not empty: u empty gives t itself -/
def rCatT (K : PySem.W.Frag) : R2 := fun x y H Q => ∃ a b xs ys, x = .ref a ∧ y = .ref b ∧ SqT K H a xs ∧ SqT K H b ys ∧ xs ≠ [] ∧ xs.length + ys.length ≤ sizeLine ∧
  (ys = [] → Q (.ref a) H) ∧ (ys ≠ [] → ∀ p, H p = none → Q (.ref p) (upd H p (.tup (xs ++ ys))))
theorem Vals.nil_iff {xs : List V} {us : List Value} (r : Vals xs us) : us = [] ↔ xs = [] := by
  cases r with
  | nil => simp
  | cons _ _ => simp
theorem op_catT : OpR X (binaryOp .Add) (rCatT X.K) := by
  intro pins s σ H x y v u Q I rx ry h
  obtain ⟨a, b, xs, ys, rfl, rfl, ha, hb, hx, hz, q1, q2⟩ := h
  cases rx
  cases ry
  obtain ⟨its, r1, p1, _⟩ := I.tuple ha
  obtain ⟨its2, r2, p2, _⟩ := I.tuple hb
  refine HT.cat_tup p1 p2 (fun z => hx (r1.nil_iff.mp z)) (fun z => ⟨.ref a, H, I, rfl, q1 (r2.nil_iff.mp z)⟩) (fun z => ?_) (by rw [← r1.length, ← r2.length]; exact hz)
  refine ⟨.ref s.heap.objs.size, _, I.laid (t' := s.toks) (o := .tup (xs ++ ys)) (fun b ob q => Heap.get?_push_of_some _ q) (Nat.le_refl _) ?_, rfl, q2 (fun w => z (r2.nil_iff.mpr w)) _ (I.hok.fresh (Nat.le_refl _))⟩
  exact ⟨by rw [List.length_append]; exact hz, _, r1.append r2, IsTup.new _ _⟩
/-- tuple(t) -/
theorem call_tupleT : CallR X (.type "tuple") (fun xs H Q => ∃ a ys, xs = [.ref a] ∧ SqT X.K H a ys ∧ Q (.ref a) H) := by
  intro pins s σ H xs us Q I r h
  obtain ⟨a, ys, rfl, ha, q⟩ := h
  obtain ⟨u, rfl, ru⟩ := vals1 r
  cases ru
  obtain ⟨its, _, p1, _⟩ := I.tuple ha
  exact call_tuple_same (items := its.toArray) p1 ⟨.ref a, H, I, rfl, q⟩
end
end L2

namespace L2
open PySem PySem.Spec PyProof.Rows

/-! ### places -/
/-- the place that an index of any sign means -/
def ixN (n : Nat) (i : Int) : Option Nat := if 0 ≤ i then (if i < n then some i.toNat else none) else if -(n : Int) ≤ i then some (i + n).toNat else none
def atI {α : Type} (xs : List α) (i : Int) : Option α := (ixN xs.length i).bind fun j => xs[j]?
theorem ixN_seq {n : Nat} {i : Int} {j : Nat} (h : ixN n i = some j) : seqIndex? i n = some j ∧ j < n ∧ -(n : Int) ≤ i ∧ i < n := by
  unfold ixN at h
  by_cases h0 : 0 ≤ i
  · rw [if_pos h0] at h
    by_cases h1 : i < n
    · rw [if_pos h1] at h
      have e : i.toNat = j := Option.some.inj h
      exact ⟨by rw [seqIndex_of h0 h1, e], by omega, by omega, h1⟩
    · rw [if_neg h1] at h; cases h
  · rw [if_neg h0] at h
    by_cases h1 : -(n : Int) ≤ i
    · rw [if_pos h1] at h
      have e : (i + n).toNat = j := Option.some.inj h
      exact ⟨by rw [seqIndex_neg (by omega) h1, e], by omega, h1, by omega⟩
    · rw [if_neg h1] at h; cases h
theorem atI_get {α : Type} {xs : List α} {i : Int} {v : α} (h : atI xs i = some v) : ∃ j, seqIndex? i xs.length = some j ∧ xs[j]? = some v ∧ j < xs.length ∧ -(xs.length : Int) ≤ i ∧ i < xs.length := by
  unfold atI at h
  cases e : ixN xs.length i with
  | none => rw [e] at h; cases h
  | some j =>
    rw [e] at h
    obtain ⟨h1, h2, h3, h4⟩ := ixN_seq e
    exact ⟨j, h1, h, h2, h3, h4⟩
theorem atI_nat {α : Type} {xs : List α} {j : Nat} {v : α} (h : xs[j]? = some v) : atI xs (j : Int) = some v := by
  have hj : j < xs.length := (List.getElem?_eq_some_iff.mp h).1
  have e : ixN xs.length (j : Int) = some j := by
    unfold ixN
    rw [if_pos (by omega), if_pos (by omega)]; simp
  unfold atI; rw [e]; exact h
theorem atI_last {α : Type} (xs : List α) (v : α) : atI (xs ++ [v]) (-1) = some v := by
  have hl : (xs ++ [v]).length = xs.length + 1 := by simp
  have e : ixN (xs ++ [v]).length (-1) = some xs.length := by
    unfold ixN
    rw [hl, if_neg (by decide), if_pos (by omega)]
    congr 1
    omega
  unfold atI
  rw [e]
  show (xs ++ [v])[xs.length]? = some v
  simp

/-! ### what may be subscripted -/
/-- what stands as an index of a plain subscript -/
def PlainIx (b : Expr) : Prop := ∀ o i, subscripted b false o i = operate [o, i] (getItem o i)
/-- a subscript by values -/
def IxR (X : Cx) (r : R2) : Prop :=
  ∀ (value slice : Expr) (pins : List (Addr × Obj)) (s : Shared) (σ : St) (H : Hp) (x y : V) (v u : Value) (Q : VK), Inv X pins σ H s → RelV x v → RelV y u → r x y H Q →
    subscripted slice false v u = operate [v, u] (getItem v u) → wpAny (model X.prog X.w) X.A (subscriptTail value slice v u) (EP X pins σ Q) X.xe s
/-- a call of a builtin's method by values: the receiver, the arguments -/
def MtR (X : Cx) (id : String) (r : V → List V → Hp → VK → Prop) : Prop :=
  ∀ (pins : List (Addr × Obj)) (s : Shared) (σ : St) (H : Hp) (x : V) (xs : List V) (v : Value) (us : List Value) (Q : VK), Inv X pins σ H s → RelV x v → Vals xs us → r x xs H Q →
    wpAny (model X.prog X.w) X.A (call (.builtin id) (v :: us)) (EP X pins σ Q) X.xe s
section
variable {X : Cx} {a b : Expr} {ta tb : TE} {pos : Pos}
theorem IxR.or {r r' : R2} (h : IxR X r) (h' : IxR X r') : IxR X (fun x y H Q => r x y H Q ∨ r' x y H Q) := by
  intro value slice pins s σ H x y v u Q I rx ry q hs
  rcases q with q | q
  · exact h value slice pins s σ H x y v u Q I rx ry q hs
  · exact h' value slice pins s σ H x y v u Q I rx ry q hs
theorem MtR.or {id : String} {r r' : V → List V → Hp → VK → Prop} (h : MtR X id r) (h' : MtR X id r') : MtR X id (fun x xs H Q => r x xs H Q ∨ r' x xs H Q) := by
  intro pins s σ H x xs v us Q I rx rs q
  rcases q with q | q
  · exact h pins s σ H x xs v us Q I rx rs q
  · exact h' pins s σ H x xs v us Q I rx rs q
/-- a[b] -/
theorem pe_ix {r : R2} (hr : IxR X r) (ha : PE X a ta) (hb : PE X b tb) (hs : PlainIx b) : PE X (.Subscript a b pos) (tOp r ta tb) := by
  intro pins s σ H Q I h
  exact Subscript_ (binT ha hb I h fun v u s2 x y H2 I2 rx ry q => hr a b pins s2 σ H2 x y v u Q I2 rx ry q (hs _ _))

def rIxL (K : PySem.W.Frag) : R2 := fun x y H Q => ∃ p xs i v, x = .ref p ∧ y = .int i ∧ SqL K H p xs ∧ atI xs i = some v ∧ Q v H
def rIxT (K : PySem.W.Frag) : R2 := fun x y H Q => ∃ p xs i v, x = .ref p ∧ y = .int i ∧ SqT K H p xs ∧ atI xs i = some v ∧ Q v H
def rIxS : R2 := fun x y H Q => ∃ z i c, x = .str z ∧ y = .int i ∧ z.length ≤ sizeLine ∧ atI z.cps.toList i = some c ∧ Q (.str ⟨#[c]⟩) H
theorem ix_list : IxR X (rIxL X.K) := by
  intro value slice pins s σ H x y v u Q I rx ry h hs
  obtain ⟨p, xs, i, z, rfl, rfl, hq, he, q⟩ := h
  cases rx
  obtain ⟨t, rfl⟩ := ry
  obtain ⟨its, r, pl, hz⟩ := I.list hq
  obtain ⟨j, h1, h2, h3, h4, h5⟩ := atI_get he
  obtain ⟨w, ew, rw'⟩ := r.get h2
  have hl := r.length
  have hn := line63
  have fin : EP X pins σ Q w s := ⟨z, H, I, rw', q⟩
  by_cases h0 : 0 ≤ i
  · have hj : i.toNat = j := by
      rw [seqIndex_of h0 h5] at h1
      exact Option.some.inj h1
    exact item_listR pl.isList h0 (by omega) (by rw [hj]; simpa using ew) fin hs
  · have hj : (i + (its.toArray.size : Int)).toNat = j := by
      rw [seqIndex_neg (by omega) h4] at h1
      rw [List.size_toArray, ← hl]
      exact Option.some.inj h1
    exact subscriptTail_builtinR (x := w) pl.isList.typeIs slot_list_getitem.lookup
      (wpAny_getItem_list_neg (Q := fun r s' => r = w ∧ EP X pins σ Q r s') pl.isList (by omega) (by rw [List.size_toArray] <;> omega) (by omega) (by rw [hj]; simpa using ew) ⟨rfl, fin⟩) hs
theorem ix_tup : IxR X (rIxT X.K) := by
  intro value slice pins s σ H x y v u Q I rx ry h hs
  obtain ⟨p, xs, i, z, rfl, rfl, hq, he, q⟩ := h
  cases rx
  obtain ⟨t, rfl⟩ := ry
  obtain ⟨its, r, pl, hz⟩ := I.tuple hq
  obtain ⟨j, h1, h2, h3, h4, h5⟩ := atI_get he
  obtain ⟨w, ew, rw'⟩ := r.get h2
  have hl := r.length
  have hn := line63
  have fin : EP X pins σ Q w s := ⟨z, H, I, rw', q⟩
  exact subscriptTail_builtinR (x := w) pl.typeIs slot_tuple_getitem.lookup
    (getItem_tuple (j := j) (Q := fun r s' => r = w ∧ EP X pins σ Q r s') pl (by omega) (by omega) (by rw [List.size_toArray, ← hl]; exact h1) (by simpa using ew) ⟨rfl, fin⟩) hs
theorem ix_str : IxR X rIxS := by
  intro value slice pins s σ H x y v u Q I rx ry h hs
  obtain ⟨z, i, c, rfl, rfl, hz, he, q⟩ := h
  obtain ⟨t, rfl⟩ := rx
  obtain ⟨t', rfl⟩ := ry
  obtain ⟨j, h1, h2, h3, h4, h5⟩ := atI_get he
  have hl : z.cps.toList.length = z.length := by simp [Str.length]
  rw [hl] at h1 h4 h5
  have hn := line63
  exact tail_any (typeIs_str s z t) slot_str_getitem.lookup (getItem_str (c := c) (by
    have e1 : decide (i < -(2 ^ 63 : Int)) = false := decide_eq_false (by omega)
    have e2 : decide (i ≥ 2 ^ 63) = false := decide_eq_false (by omega)
    rw [e1, e2, Bool.or_false]) (by rw [h1]; simpa using h2) ⟨.str ⟨#[c]⟩, H, I.tok _, ⟨_, rfl⟩, q⟩) hs
/-- list, tuple or str -/
def rIx (K : PySem.W.Frag) : R2 := fun x y H Q => rIxL K x y H Q ∨ rIxT K x y H Q ∨ rIxS x y H Q
theorem ix_seq : IxR X (rIx X.K) := ix_list.or (ix_tup.or ix_str)

/-! ### xs[i] = v, any sign -/
/-- the list's object behind a store -/
theorem mapSeq_set (its : List Value) (n j : Nat) (u : Value) : Obj.mapSeq (·.setIfInBounds j u) { cls := .type "list", data := .seq its.toArray n } = { cls := .type "list", data := .seq (its.set j u).toArray n } := by
  simp [Obj.mapSeq]
theorem Inv.lst {pins : List (Addr × Obj)} {σ : St} {H : Hp} {s : Shared} {p : Addr} {xs : List V} (I : Inv X pins σ H s) (h : H p = some (.lst xs)) :
    ∃ (its : List Value) (n : Nat), Vals xs its ∧ s.heap.get? p = some { cls := .type "list", data := .seq its.toArray n } ∧ xs.length ≤ sizeLine := by
  obtain ⟨z, its, n, r, e⟩ := I.hok p _ h
  exact ⟨its, n, r, e, z⟩
/-- the list at p is written by an update of its object -/
theorem Inv.lstUpd {pins : List (Addr × Obj)} {σ : St} {H : Hp} {s : Shared} {p : Addr} {xs ys : List V} {its its' : List Value} {n n' : Nat} {f : Obj → Obj} (I : Inv X pins σ H s) (h : H p = some (.lst xs))
    (ho : s.heap.get? p = some { cls := .type "list", data := .seq its.toArray n }) (hf : f { cls := .type "list", data := .seq its.toArray n } = { cls := .type "list", data := .seq its'.toArray n' }) (r : Vals ys its') (hz : ys.length ≤ sizeLine) (t : Nat) :
    Inv X pins σ (upd H p (.lst ys)) { s with heap := s.heap.update p f, toks := t } := by
  have e : (s.heap.update p f).get? p = some { cls := .type "list", data := .seq its'.toArray n' } := by
    rw [Heap.get?_update_self f ho (by rw [hf] <;> rfl), hf]
  refine I.write (x := p) (e := p) (by rw [h]; trivial) (.inl rfl) (fun b u hb q => (Heap.get?_update_other _ _ (Ne.symm hb)).trans q) ⟨_, e⟩ ?_
  exact ⟨hz, its', n', r, e⟩
def rSetL : V → V → V → Hp → (Hp → Prop) → Prop := fun o i v H Q => ∃ p xs k j, o = .ref p ∧ i = .int k ∧ H p = some (.lst xs) ∧ ixN xs.length k = some j ∧ Q (upd H p (.lst (xs.set j v)))
theorem set_list : PSet X rSetL := by
  intro pins s σ H o i v ov iv u Q I ro ri rv h
  obtain ⟨p, xs, k, j, rfl, rfl, hp, hj, q⟩ := h
  cases ro
  obtain ⟨t, rfl⟩ := ri
  obtain ⟨its, n, r, ho, hz⟩ := I.lst hp
  obtain ⟨h1, h2, h3, h4⟩ := ixN_seq hj
  have hl := r.length
  have hn := line63
  have I' : Inv X pins σ (upd H p (.lst (xs.set j v))) { s with heap := s.heap.update p (Obj.mapSeq (·.setIfInBounds j u)) } :=
    I.lstUpd hp ho (mapSeq_set its n j u) (r.set rv j) (by rw [List.length_set]; exact hz) s.toks
  by_cases h0 : 0 ≤ k
  · have hk : k.toNat = j := by
      rw [seqIndex_of h0 h4] at h1
      exact Option.some.inj h1
    exact PySem.W.ki_setAt ho h0 (by omega) (by rw [List.size_toArray, ← hl]; exact h4) (by rw [hk]; exact ⟨_, I', q⟩)
  · have hk : (k + (its.toArray.size : Int)).toNat = j := by
      rw [seqIndex_neg (by omega) h3] at h1
      rw [List.size_toArray, ← hl]
      exact Option.some.inj h1
    exact PySem.W.ki_setBack ho (by omega) (by rw [List.size_toArray, ← hl]; exact h3) (by omega) (by rw [hk]; exact ⟨_, I', q⟩)

/-! ### slices -/
theorem slice_bounds (lo hi : Option Int) (n : Nat) : (sliceBounds lo hi none n).1 = ((HT.sIx n 0 lo : Nat) : Int) ∧ (sliceBounds lo hi none n).2.1 = ((HT.sIx n n hi : Nat) : Int) ∧ (sliceBounds lo hi none n).2.2 = 1 := by
  refine ⟨?_, ?_, rfl⟩
  · cases lo with
    | none => simp [sliceBounds, HT.sIx]
    | some i =>
      simp only [sliceBounds, HT.sIx, Option.getD_none, show (1 : Int) > 0 by decide, if_true]
      by_cases h : i < 0
      · simp only [h, if_true] <;> omega
      · simp only [h, if_false] <;> omega
  · cases hi with
    | none => simp [sliceBounds, HT.sIx]
    | some i =>
      simp only [sliceBounds, HT.sIx, Option.getD_none, show (1 : Int) > 0 by decide, if_true]
      by_cases h : i < 0
      · simp only [h, if_true] <;> omega
      · simp only [h, if_false] <;> omega
theorem slicePick_cut (its : List Value) (lo hi : Option Int) : slicePick its.toArray lo hi none = ((its.drop (HT.sIx its.length 0 lo)).take (HT.sIx its.length its.length hi - HT.sIx its.length 0 lo)).toArray := by
  obtain ⟨h1, h2, h3⟩ := slice_bounds lo hi its.toArray.size
  unfold slicePick
  rw [h1, h2, h3]
  simp only [sliceRange_one, pick_run, List.size_toArray] <;> rfl
/-- xs[lo:hi] of a list: a new list -/
def rSlL (K : PySem.W.Frag) : V → Option Int → Option Int → Hp → VK → Prop := fun x lo hi H Q => ∃ a xs, x = .ref a ∧ SqL K H a xs ∧ ∀ p, H p = none → Q (.ref p) (upd H p (.lst (cutV xs lo hi)))
theorem sl_list : SlR X (rSlL X.K) := by
  intro pins s σ H x v vl vu lo hi sl Q I rx hs pl pu h
  obtain ⟨a, xs, rfl, hx, q⟩ := h
  cases rx
  obtain ⟨its, r, ht, hz⟩ := I.list hx
  have hlen := r.length
  refine ⟨"list", _, slot_list_getitem.lookup, ht.isList.typeIs, ?_⟩
  refine wpAny_getItem_list_slice ht.isList hs pl pu .none (by simp) ?_ (by rw [List.size_toArray] <;> omega)
  rw [slicePick_cut, ← hlen]
  refine ⟨.ref s.heap.objs.size, _, I.laid (t' := s.toks) (o := .lst (cutV xs lo hi)) (fun b ob q => Heap.get?_push_of_some _ q) (Nat.le_refl _) ?_, rfl, q _ (I.hok.fresh (Nat.le_refl _))⟩
  exact ⟨Nat.le_trans (cutV_length xs lo hi) hz, _, 0, (r.drop (HT.sIx xs.length 0 lo)).take (HT.sIx xs.length xs.length hi - HT.sIx xs.length 0 lo), Heap.get?_push_size _ rfl⟩

/-! ### in, not in: flat items -/
def flatV : V → Bool
  | .non => true
  | .bl _ => true
  | .int _ => true
  | .str _ => true
  | _ => false
/-- == of flat values -/
def eqV : V → V → Bool
  | .non, .non => true
  | .bl a, .bl b => a == b
  | .bl a, .int b => (if a then 1 else 0) == b
  | .int a, .bl b => a == (if b then 1 else 0)
  | .int a, .int b => a == b
  | .str a, .str b => a == b
  | _, _ => false
theorem eqAt_V {A : Around} {s : Shared} {y x : V} {u v : Value} (ry : RelV y u) (rx : RelV x v) (fy : flatV y = true) (fx : flatV x = true) : SeqAt.EqAt A s u v (eqV y x) := by
  cases y with
  | non =>
    cases ry
    cases x with
    | non => cases rx; exact SeqAt.EqAt.same _
    | bl b => cases rx; exact SeqAt.EqAt.none_bool b
    | int b => obtain ⟨t, rfl⟩ := rx; exact SeqAt.EqAt.none_int b t
    | str b => obtain ⟨t, rfl⟩ := rx; exact SeqAt.EqAt.none_str b t
    | _ => exact absurd (show false = true from fx) Bool.false_ne_true
  | bl a =>
    cases ry
    cases x with
    | non => cases rx; exact SeqAt.EqAt.bool_none a
    | bl b => cases rx; exact SeqAt.EqAt.bool_bool a b
    | int b => obtain ⟨t, rfl⟩ := rx; exact SeqAt.EqAt.bool_int a b t
    | str b => obtain ⟨t, rfl⟩ := rx; exact SeqAt.EqAt.bool_str a b t
    | _ => exact absurd (show false = true from fx) Bool.false_ne_true
  | int a =>
    obtain ⟨t', rfl⟩ := ry
    cases x with
    | non => cases rx; exact SeqAt.EqAt.int_none a t'
    | bl b => cases rx; exact SeqAt.EqAt.int_bool a t' b
    | int b => obtain ⟨t, rfl⟩ := rx; exact SeqAt.EqAt.int_int a t' b t
    | str b => obtain ⟨t, rfl⟩ := rx; exact SeqAt.EqAt.int_str a t' b t
    | _ => exact absurd (show false = true from fx) Bool.false_ne_true
  | str a =>
    obtain ⟨t', rfl⟩ := ry
    cases x with
    | non => cases rx; exact SeqAt.EqAt.str_none a t'
    | bl b => cases rx; exact SeqAt.EqAt.str_bool a t' b
    | int b => obtain ⟨t, rfl⟩ := rx; exact SeqAt.EqAt.str_int a t' b t
    | str b => obtain ⟨t, rfl⟩ := rx; exact SeqAt.EqAt.str_str a t' b t
    | _ => exact absurd (show false = true from fx) Bool.false_ne_true
  | _ => exact absurd (show false = true from fy) Bool.false_ne_true
/-- the items' answers, read off the values (a value's own answer does not lean on its token) -/
def eqU (x : V) (u : Value) : Bool := match u with
  | .none => eqV .non x
  | .bool b => eqV (.bl b) x
  | .int i _ => eqV (.int i) x
  | .str z _ => eqV (.str z) x
  | _ => false
theorem eqU_of {x y : V} {u : Value} (r : RelV y u) (f : flatV y = true) : eqU x u = eqV y x := by
  cases y with
  | non => cases r; rfl
  | bl b => cases r; rfl
  | int i => obtain ⟨t, rfl⟩ := r; rfl
  | str z => obtain ⟨t, rfl⟩ := r; rfl
  | _ => exact absurd (show false = true from f) Bool.false_ne_true
theorem any_eqU {x : V} : ∀ {xs : List V} {us : List Value}, Vals xs us → xs.all flatV = true → us.any (eqU x) = xs.any fun y => eqV y x
  | _, _, .nil, _ => rfl
  | y :: xs, u :: us, .cons r t, f => by
    rw [List.all_cons, Bool.and_eq_true] at f
    rw [List.any_cons, List.any_cons, eqU_of r f.1, any_eqU t f.2]
theorem mem_eqAt {A : Around} {s : Shared} {x : V} {v : Value} (rx : RelV x v) (fx : flatV x = true) : ∀ {xs : List V} {us : List Value}, Vals xs us → xs.all flatV = true → ∀ u ∈ us, SeqAt.EqAt A s u v (eqU x u)
  | _, _, .nil, _ => fun u hu => by cases hu
  | y :: xs, u :: us, .cons r t, f => fun u' hu => by
    rw [List.all_cons, Bool.and_eq_true] at f
    rcases List.mem_cons.mp hu with rfl | hu
    · rw [eqU_of r f.1]; exact eqAt_V r rx f.1 fx
    · exact mem_eqAt rx fx t f.2 u' hu
def inV (x : V) (xs : List V) : Bool := xs.any fun y => eqV y x
/-- x in a list or tuple of flat items -/
def rIn (K : PySem.W.Frag) (neg : Bool) : R2 := fun x y H Q => ∃ p xs, y = .ref p ∧ (SqL K H p xs ∨ SqT K H p xs) ∧ flatV x = true ∧ xs.all flatV = true ∧ Q (.bl (if neg then !inV x xs else inV x xs)) H
theorem op_in_seq : OpR X (compareOp .In) (rIn X.K false) := by
  intro pins s σ H x y v u Q I rx ry h
  obtain ⟨p, xs, rfl, hq, fx, fs, q⟩ := h
  cases ry
  rcases hq with hq | hq
  · obtain ⟨its, r, pl, hz⟩ := I.list hq
    refine SeqAt.in_listAt (eqU x) pl.isList (fun w hw => mem_eqAt rx fx r fs w (by simpa using hw)) ⟨.bl _, H, I, rfl, ?_⟩
    rw [show its.toArray.any (eqU x) = its.any (eqU x) by simp, any_eqU r fs]
    exact q
  · obtain ⟨its, r, pl, hz⟩ := I.tuple hq
    refine SeqAt.in_tupleAt (eqU x) pl (fun w hw => mem_eqAt rx fx r fs w (by simpa using hw)) ⟨.bl _, H, I, rfl, ?_⟩
    rw [show its.toArray.any (eqU x) = its.any (eqU x) by simp, any_eqU r fs]
    exact q
theorem op_notIn_seq : OpR X (compareOp .NotIn) (rIn X.K true) := by
  intro pins s σ H x y v u Q I rx ry h
  obtain ⟨p, xs, rfl, hq, fx, fs, q⟩ := h
  cases ry
  rcases hq with hq | hq
  · obtain ⟨its, r, pl, hz⟩ := I.list hq
    refine SeqAt.notIn_listAt (eqU x) pl.isList (fun w hw => mem_eqAt rx fx r fs w (by simpa using hw)) ⟨.bl _, H, I, rfl, ?_⟩
    rw [show its.toArray.any (eqU x) = its.any (eqU x) by simp, any_eqU r fs]
    exact q
  · obtain ⟨its, r, pl, hz⟩ := I.tuple hq
    refine SeqAt.notIn_tupleAt (eqU x) pl (fun w hw => mem_eqAt rx fx r fs w (by simpa using hw)) ⟨.bl _, H, I, rfl, ?_⟩
    rw [show its.toArray.any (eqU x) = its.any (eqU x) by simp, any_eqU r fs]
    exact q
theorem op_notIn_str : OpR X (compareOp .NotIn) (fun x y H Q => ∃ i j, x = .str i ∧ y = .str j ∧ Q (.bl (!(!(Builtin.Str.occurrences j i 0 j.length 1).isEmpty))) H) := by
  intro pins s σ H x y v u Q I rx ry h
  obtain ⟨i, j, rfl, rfl, q⟩ := h
  obtain ⟨t, rfl⟩ := rx
  obtain ⟨t', rfl⟩ := ry
  exact notIn_str ⟨.bl _, H, I, rfl, q⟩

/-! ### len, list(x), tuple(x) of any list or tuple that is read -/
theorem call_len_seq : CallR X (.builtin "len") (fun xs H Q => ∃ p ys, xs = [.ref p] ∧ (SqL X.K H p ys ∨ SqT X.K H p ys) ∧ Q (.int ys.length) H) := by
  intro pins s σ H xs us Q I r h
  obtain ⟨p, ys, rfl, hq, q⟩ := h
  obtain ⟨u, rfl, rx⟩ := vals1 r
  cases rx
  have hn := line63
  rcases hq with hq | hq
  · obtain ⟨its, r', pl, hz⟩ := I.list hq
    have hlen := r'.length
    exact Calls.call_len_list pl.isList (by simp only [List.size_toArray] <;> omega) ⟨.int ys.length, H, I.tok _, ⟨s.toks + 1, by rw [List.size_toArray, hlen]⟩, q⟩
  · obtain ⟨its, r', pl, hz⟩ := I.tuple hq
    have hlen := r'.length
    exact len_tuple pl (by simp only [List.size_toArray] <;> omega) ⟨.int ys.length, H, I.tok _, ⟨s.toks + 1, by rw [List.size_toArray, hlen]⟩, q⟩
theorem call_len_str : CallR X (.builtin "len") (fun xs H Q => ∃ z, xs = [.str z] ∧ z.length ≤ sizeLine ∧ Q (.int z.length) H) := by
  intro pins s σ H xs us Q I r h
  obtain ⟨z, rfl, hz, q⟩ := h
  obtain ⟨u, rfl, t, rfl⟩ := vals1 r
  have hn := line63
  exact len_str (by omega) ⟨.int z.length, H, I.tok _, ⟨_, rfl⟩, q⟩
theorem CallR.or {f : Value} {r r' : List V → Hp → VK → Prop} (h : CallR X f r) (h' : CallR X f r') : CallR X f (fun xs H Q => r xs H Q ∨ r' xs H Q) := by
  intro pins s σ H xs us Q I rs q
  rcases q with q | q
  · exact h pins s σ H xs us Q I rs q
  · exact h' pins s σ H xs us Q I rs q
theorem call_list_of : CallR X (.type "list") (fun xs H Q => ∃ p ys, xs = [.ref p] ∧ (SqL X.K H p ys ∨ SqT X.K H p ys) ∧ ∀ l, H l = none → Q (.ref l) (upd H l (.lst ys))) := by
  intro pins s σ H xs us Q I r h
  obtain ⟨p, ys, rfl, hq, q⟩ := h
  obtain ⟨u, rfl, rx⟩ := vals1 r
  cases rx
  have fin : ∀ (its : List Value), Vals ys its → ys.length ≤ sizeLine → ∀ (h' : Heap) (c' : Nat), (∀ b o', s.heap.get? b = some o' → h'.get? b = some o') →
      h'.get? s.heap.objs.size = some { cls := .type "list", dict := none, data := .seq its.toArray c', slots := #[] } → EP X pins σ Q (.ref s.heap.objs.size) { s with heap := h' } := fun its r' hz h' c' kp e =>
    ⟨.ref s.heap.objs.size, _, I.laid (t' := s.toks) kp (Nat.le_refl _) (show ObjOk X.prog X.w _ h' _ (.lst ys) from ⟨hz, its, c', r', e⟩), rfl, q _ (I.hok.fresh (Nat.le_refl _))⟩
  rcases hq with hq | hq
  · obtain ⟨its, r', pl, hz⟩ := I.list hq
    have hlen := r'.length
    obtain ⟨o, ho, hc, n, hd⟩ := pl.isList
    exact call_list_seq p (.inl rfl) ho hc hd (fun h' c' kp e => fin its r' hz h' c' kp e) (by simp only [List.size_toArray] <;> omega)
  · obtain ⟨its, r', pl, hz⟩ := I.tuple hq
    have hlen := r'.length
    obtain ⟨o, ho, hc, n, hd⟩ := pl
    exact call_list_seq p (.inr rfl) ho hc hd (fun h' c' kp e => fin its r' hz h' c' kp e) (by simp only [List.size_toArray] <;> omega)
theorem call_tuple_of : CallR X (.type "tuple") (fun xs H Q => ∃ p ys, xs = [.ref p] ∧ ((SqL X.K H p ys ∧ ∀ l, H l = none → Q (.ref l) (upd H l (.tup ys))) ∨ (SqT X.K H p ys ∧ Q (.ref p) H))) := by
  intro pins s σ H xs us Q I r h
  obtain ⟨p, ys, rfl, h⟩ := h
  obtain ⟨u, rfl, rx⟩ := vals1 r
  cases rx
  rcases h with ⟨hq, q⟩ | ⟨hq, q⟩
  · obtain ⟨its, r', pl, hz⟩ := I.list hq
    have hlen := r'.length
    refine call_tuple_list pl.isList (fun h' kp => ?_) (by simp only [List.size_toArray] <;> omega)
    have I1 : Inv X pins σ H { s with heap := h' } := I.kept (t' := s.toks) kp
    have I2 : Inv X pins σ (upd H h'.objs.size (.tup ys)) { s with heap := h'.push { cls := .type "tuple", data := .seq its.toArray } } :=
      I1.laid (t' := s.toks) (fun b o e => Heap.get?_push_of_some _ e) (Nat.le_refl _) (show ObjOk X.prog X.w _ _ _ (.tup ys) from ⟨hz, its, r', IsTup.new _ _⟩)
    exact ⟨.ref h'.objs.size, _, I2, rfl, q _ (I1.hok.fresh (Nat.le_refl _))⟩
  · obtain ⟨its, r', pl, hz⟩ := I.tuple hq
    exact call_tuple_same pl ⟨.ref p, H, I, rfl, q⟩

/-! ### the call of a builtin's method: o.m(..) -/
/-- the value is of that builtin type -/
def tyV (K : PySem.W.Frag) (T : String) (x : V) (H : Hp) : Prop := match x with
  | .str _ => T = "str"
  | .int _ => T = "int"
  | .ref p => (T = "list" ∧ ∃ xs, SqL K H p xs) ∨ (T = "tuple" ∧ ∃ o, K.lookup p = some o ∧ o.cls = .type "tuple" ∧ o.dict = none) ∨
      (T = "dict" ∧ ((∃ kvs, H p = some (.dK kvs)) ∨ ∃ kvs, H p = some (.dT kvs))) ∨ (T = "set" ∧ ∃ S n, H p = some (.set S n))
  | _ => False
theorem tyV_is {pins : List (Addr × Obj)} {σ : St} {H : Hp} {s : Shared} {T : String} {x : V} {v : Value} (I : Inv X pins σ H s) (r : RelV x v) (ty : tyV X.K T x H) :
    s.TypeIs v T ∧ ∀ a, v = .ref a → ∃ ob, s.heap.get? a = some ob ∧ ob.dict = none := by
  cases x with
  | str z =>
    obtain ⟨t, rfl⟩ := r
    cases (show T = "str" from ty)
    exact ⟨typeIs_str s z t, fun _ e => nomatch e⟩
  | int i =>
    obtain ⟨t, rfl⟩ := r
    cases (show T = "int" from ty)
    exact ⟨typeIs_int s i t, fun _ e => nomatch e⟩
  | ref p =>
    cases r
    rcases ty with ⟨rfl, xs, hq⟩ | ⟨rfl, o, hk, hc, hd⟩ | ⟨rfl, hk⟩ | ⟨rfl, S, n, hk⟩
    · obtain ⟨its, _, pl, _⟩ := I.list hq
      refine ⟨pl.isList.typeIs, fun a e => ?_⟩
      cases e
      obtain ⟨o, n, e, c, hd, _⟩ := pl
      exact ⟨o, e, hd⟩
    · refine ⟨⟨o, I.kIn p o hk, hc⟩, fun a e => ?_⟩
      cases e
      exact ⟨o, I.kIn _ o hk, hd⟩
    · have z : ∃ o, s.heap.get? p = some o ∧ o.ExactDict := by
        rcases hk with ⟨kvs, hk⟩ | ⟨kvs, hk⟩
        · obtain ⟨_, _, _, _, o, _, _, e, ex, _⟩ := I.hok p _ hk
          exact ⟨o, e, ex⟩
        · obtain ⟨_, _, _, _, o, _, _, e, ex, _⟩ := I.hok p _ hk
          exact ⟨o, e, ex⟩
      obtain ⟨o, e, ex⟩ := z
      refine ⟨⟨o, e, ex.1⟩, fun a e2 => ?_⟩
      cases e2
      exact ⟨o, e, ex.2.1⟩
    · obtain ⟨o, _, _, _, e, ex, _⟩ := I.hok p _ hk
      refine ⟨⟨o, e, ex.1⟩, fun a e2 => ?_⟩
      cases e2
      exact ⟨o, e, ex.2.1⟩
  | _ => exact False.elim ty
def tBM0 (K : PySem.W.Frag) (T : String) (r : V → List V → Hp → VK → Prop) (to : TE) : TE := fun σ H Q => to σ H fun x H1 => tyV K T x H1 ∧ r x [] H1 Q
def tBM (K : PySem.W.Frag) (T : String) (r : V → List V → Hp → VK → Prop) (to : TE) (t : TA) : TE := fun σ H Q => to σ H fun x H1 => tyV K T x H1 ∧ t σ H1 fun xs H2 => r x xs H2 Q
variable {o e : Expr} {es : List Expr} {to : TE} {t : TA} {name : Str} {apos cpos : Pos} {T id : String} {r : V → List V → Hp → VK → Prop}
theorem pe_bm0 (pa : PlainAttrs T) (slot : Slot T name id) (hty : typeOf (.builtin id) = pure (.type "method_descriptor")) (hm : MtR X id r) (ho : PE X o to)
    (hbase : attributeBase o name X.env (eval o X.env) = eval o X.env := by rfl) (hline : (apos.endLine == cpos.line) = true := by rfl) : PE X (.Call (.Attribute o name apos) [] [] cpos) (tBM0 X.K T r to) := by
  intro pins s σ H Q I h
  refine wpAny_Call_method0_late hbase hline (thn (ho pins s σ H _ I h) fun v s1 ⟨x, H1, I1, r1, ty, q1⟩ => ?_)
  obtain ⟨h1, h2⟩ := tyV_is I1 r1 ty
  exact ⟨T, id, pa, slot, hty, h1, h2, Calls.callWith_builtin rfl (PySem.evalArgs_none (hm pins s1 σ H1 x [] v [] Q I1 r1 .nil q1))⟩
theorem pe_bm (pa : PlainAttrs T) (slot : Slot T name id) (hty : typeOf (.builtin id) = pure (.type "method_descriptor")) (hm : MtR X id r) (ho : PE X o to) (ha : PA X (e :: es) t)
    (hbase : attributeBase o name X.env (eval o X.env) = eval o X.env := by rfl)
    (hfew : ((backTo cpos (starEach (e :: es) X.env)).all (fun x => !x.1) && (backToKw cpos (keywordEach [] X.env)).all (fun x => x.1.isSome)
      && decide ((e :: es).length + ([] : List Keyword).length + (if ([] : List Keyword).isEmpty then 0 else 1) < 30)) = true := by rfl)
    (hline : (apos.endLine == cpos.line) = true := by rfl) (hs : starEach (e :: es) X.env = (false, eval e X.env) :: starEach es X.env := by rfl) (hplain : (backTo cpos (starEach es X.env)).any (·.1) = false := by rfl) :
    PE X (.Call (.Attribute o name apos) (e :: es) [] cpos) (tBM X.K T r to t) := by
  intro pins s σ H Q I h
  refine wpAny_Call_method_late hbase hfew hline rfl (thn (ho pins s σ H _ I h) fun v s1 ⟨x, H1, I1, r1, ty, q1⟩ => ?_)
  obtain ⟨h1, h2⟩ := tyV_is I1 r1 ty
  refine ⟨T, id, pa, slot, hty, h1, h2, ?_⟩
  have hA := ha cpos pins s1 σ H1 _ I1 q1
  rw [hs] at hA ⊢
  refine Calls.callWith_builtin (by show (false || (backTo cpos (starEach es X.env)).any (·.1)) = false; rw [hplain] <;> rfl) (Calls.evalArgs_plain ?_)
  exact thn hA fun us s2 ⟨vs, H2, I2, r2, q2⟩ => hm pins s2 σ H2 x vs v us Q I2 r1 r2 q2
/- xs.append(e), list.index on a module's tuple .. are MtR facts of 06m -/
end
end L2

namespace L2
open PySem PySem.Spec PyProof.Rows

def MtM (X : Cx) (id : String) (r : V → List V → Hp → VK → Prop) : Prop :=
  ∀ (pins : List (Addr × Obj)) (s : Shared) (σ : St) (H : Hp) (x : V) (xs : List V) (v : Value) (us : List Value) (Q : VK), Inv X pins σ H s → RelV x v → Vals xs us → r x xs H Q →
    wpAny (model X.prog X.w) X.A (call (.builtin id) (v :: us)) (EP X pins σ Q) X.xe s

/-! ### lists of values -/
theorem Vals.one : ∀ {x : V} {us : List Value}, Vals [x] us → ∃ u, us = [u] ∧ RelV x u
  | _, _, .cons r .nil => ⟨_, rfl, r⟩
theorem Vals.two : ∀ {x y : V} {us : List Value}, Vals [x, y] us → ∃ u v, us = [u, v] ∧ RelV x u ∧ RelV y v
  | _, _, _, .cons r (.cons q .nil) => ⟨_, _, rfl, r, q⟩
theorem Vals.zero : ∀ {us : List Value}, Vals [] us → us = []
  | _, .nil => rfl
theorem Vals.dropLast {xs : List V} {us : List Value} (h : Vals xs us) : Vals xs.dropLast us.dropLast := by
  induction h with
  | nil => exact .nil
  | cons r t ih =>
    cases t with
    | nil => exact .nil
    | cons q t' => exact .cons r ih
theorem Vals.eraseIdx : ∀ {xs : List V} {us : List Value} (i : Nat), Vals xs us → Vals (xs.eraseIdx i) (us.eraseIdx i)
  | _, _, _, .nil => .nil
  | _, _, 0, .cons _ t => t
  | _, _, i + 1, .cons r t => .cons r (Vals.eraseIdx i t)
theorem Vals.reverse {xs : List V} {us : List Value} (h : Vals xs us) : Vals xs.reverse us.reverse := by
  induction h with
  | nil => exact .nil
  | cons r t ih => rw [List.reverse_cons, List.reverse_cons]; exact Vals.append ih (.cons r .nil)
theorem Vals.rep {xs : List V} {us : List Value} (h : Vals xs us) : ∀ k : Nat, Vals (List.replicate k xs).flatten (List.replicate k us).flatten
  | 0 => .nil
  | k + 1 => by
    rw [List.replicate_succ, List.replicate_succ, List.flatten_cons, List.flatten_cons]
    exact Vals.append h (Vals.rep h k)
theorem erase_last {α : Type} (l : List α) : l.eraseIdx (l.length - 1) = l.dropLast := by
  induction l with
  | nil => rfl
  | cons a r ih =>
    cases r with
    | nil => rfl
    | cons b r =>
      have e : (a :: b :: r).length - 1 = ((b :: r).length - 1) + 1 := by
        have h1 : (a :: b :: r).length = r.length + 2 := rfl
        have h2 : (b :: r).length = r.length + 1 := rfl
        omega
      rw [e, List.eraseIdx_cons_succ, ih]
      all_goals rfl
theorem len_erase {α : Type} : ∀ (l : List α) (i : Nat), (l.eraseIdx i).length ≤ l.length
  | [], _ => Nat.le_refl _
  | _ :: _, 0 => Nat.le_succ _
  | _ :: r, i + 1 => Nat.succ_le_succ (len_erase r i)
theorem foldl_rep (its : List Value) : ∀ (k : Nat) (acc : List Value),
    List.foldl (fun x1 x2 => x1 ++ x2) acc.toArray (List.replicate k its.toArray) = (acc ++ (List.replicate k its).flatten).toArray
  | 0, acc => by simp
  | k + 1, acc => by
    have e : acc.toArray ++ its.toArray = (acc ++ its).toArray := by simp
    have e2 : (acc ++ its) ++ (List.replicate k its).flatten = acc ++ (List.replicate (k + 1) its).flatten := by
      rw [List.replicate_succ, List.flatten_cons, List.append_assoc]
    rw [← e2, ← foldl_rep its k (acc ++ its), ← e, List.replicate_succ, List.foldl_cons]

section
variable {X : Cx} {pins : List (Addr × Obj)} {σ : St} {H : Hp} {s : Shared} {l b : Addr} {xs ys zs : List V}

/-! ### the two steps: a tracked list is rewritten, a new list is laid -/
theorem Inv.lset {its its' : List Value} {n : Nat} {f : Array Value → Array Value} {t' : Nat} (I : Inv X pins σ H s) (hH : H l = some (.lst xs))
    (e : s.heap.get? l = some { cls := .type "list", data := .seq its.toArray n }) (hf : f its.toArray = its'.toArray) (hv : Vals ys its') (hz : ys.length ≤ sizeLine) :
    Inv X pins σ (upd H l (.lst ys)) { s with heap := s.heap.update l (Obj.mapSeq f), toks := t' } := by
  have q := PySem.IsL.update e f
  rw [hf] at q
  refine I.write (x := l) (e := l) (by rw [hH]; exact trivial) (.inl rfl) (fun b' u hb hu => (Heap.get?_update_other s.heap (Obj.mapSeq f) (Ne.symm hb)).trans hu) ⟨_, q⟩ ?_
  exact ⟨hz, its', _, hv, q⟩
theorem Inv.lnew {its : List Value} {t' : Nat} (I : Inv X pins σ H s) (hv : Vals ys its) (hz : ys.length ≤ sizeLine) :
    Inv X pins σ (upd H s.heap.objs.size (.lst ys)) { s with heap := s.heap.push { cls := .type "list", data := .seq its.toArray }, toks := t' } :=
  I.laid (fun _ _ q => Heap.get?_push_of_some _ q) (Nat.le_refl _) ⟨hz, its, 0, hv, Heap.get?_push_size _ rfl⟩
theorem Inv.fresh (I : Inv X pins σ H s) : H s.heap.objs.size = none := I.hok.fresh (Nat.le_refl _)
theorem Inv.lstM (I : Inv X pins σ H s) (hH : H l = some (.lst xs)) : xs.length ≤ sizeLine ∧ ∃ (its : List Value) (n : Nat), Vals xs its ∧ xs.length = its.length ∧ s.heap.get? l = some { cls := .type "list", data := .seq its.toArray n } := by
  obtain ⟨z, its, n, r, e⟩ := I.hok l _ hH
  exact ⟨z, its, n, r, r.length, e⟩

theorem notLongL {n : Nat} (h : n ≤ sizeLine) : Builtin.List.listTooLong n = false := by
  unfold Builtin.List.listTooLong
  exact decide_eq_false (by omega)
end

section
variable {X : Cx}

/-! ### methods -/
def rAppend : V → List V → Hp → VK → Prop := fun x vs H Q => ∃ l xs y, x = .ref l ∧ vs = [y] ∧ H l = some (.lst xs) ∧ xs.length < sizeLine ∧ Q .non (upd H l (.lst (xs ++ [y])))
theorem mt_append : MtM X "list.append" rAppend := by
  intro pins s σ H x vs v us Q I rx rv h
  obtain ⟨l, xs, y, rfl, rfl, hH, hz, q⟩ := h
  cases rx
  obtain ⟨u, rfl, ru⟩ := rv.one
  obtain ⟨z, its, n, r, hl, e⟩ := I.lstM hH
  refine call_meets F.slot_list_append ⟨_, e, rfl⟩ F.entry_list_append (F.args_list_append_2 _ _) (PySem.list_append l its.toArray n u (by rw [List.size_toArray]; omega)) ⟨e, ?_⟩
  refine ⟨.non, _, I.lset (its' := its ++ [u]) hH e (by simp) (r.append (.cons ru .nil)) ?_, rfl, q⟩
  rw [List.length_append, List.length_singleton]
  omega

def rExtend : V → List V → Hp → VK → Prop := fun x vs H Q => ∃ l b xs zs, x = .ref l ∧ vs = [.ref b] ∧ H l = some (.lst xs) ∧ H b = some (.lst zs) ∧ xs.length + zs.length ≤ sizeLine ∧ Q .non (upd H l (.lst (xs ++ zs)))
theorem mt_extend : MtM X "list.extend" rExtend := by
  intro pins s σ H x vs v us Q I rx rv h
  obtain ⟨l, b, xs, zs, rfl, rfl, hH, hB, hz, q⟩ := h
  cases rx
  obtain ⟨u, rfl, ru⟩ := rv.one
  cases ru
  obtain ⟨z, its, n, r, hl, e⟩ := I.lstM hH
  obtain ⟨z2, its2, n2, r2, hl2, e2⟩ := I.lstM hB
  have hsz : its.toArray.size + its2.toArray.size ≤ sizeLine := by rw [List.size_toArray, List.size_toArray]; omega
  have hlong : ¬ (!its.toArray.isEmpty && Builtin.List.listTooLong (its.toArray.size + its2.toArray.size)) = true := by
    rw [notLongL hsz, Bool.and_false]
    exact Bool.false_ne_true
  refine call_meets F.slot_list_extend ⟨_, e, rfl⟩ F.entry_list_extend (F.args_list_extend_2 _ _)
    (AutoSeq1.list_extend_list_list_0 l its.toArray n b its2.toArray n2 hlong (by rw [List.size_toArray]; omega) (by omega)) ⟨e, e2, ?_⟩
  refine ⟨.non, _, I.lset (its' := its ++ its2) hH e (by simp) (r.append r2) ?_, rfl, q⟩
  rw [List.length_append]
  omega

def rPop : V → List V → Hp → VK → Prop := fun x vs H Q => ∃ l xs y, x = .ref l ∧ vs = [] ∧ H l = some (.lst xs) ∧ xs[xs.length - 1]? = some y ∧ Q y (upd H l (.lst xs.dropLast))
theorem mt_pop : MtM X "list.pop" rPop := by
  intro pins s σ H x vs v us Q I rx rv h
  obtain ⟨l, xs, y, rfl, rfl, hH, hy, q⟩ := h
  cases rx
  have hus := rv.zero
  subst hus
  obtain ⟨z, its, n, r, hl, e⟩ := I.lstM hH
  obtain ⟨u, hu, ru⟩ := r.get hy
  have hy' : its.toArray[its.toArray.size - 1]? = some u := by
    show its.toArray[its.length - 1]? = some u
    rw [← Array.getElem?_toList, ← hl]
    exact hu
  refine call_meets F.slot_list_pop ⟨_, e, rfl⟩ F.entry_list_pop (F.args_list_pop_1 _) (MeetsSeq.list_pop_last l its.toArray n u hy' (by rw [List.size_toArray]; omega)) ⟨e, ?_⟩
  refine ⟨y, _, I.lset (its' := its.dropLast) hH e ?_ r.dropLast ?_, ru, q⟩
  · show its.toArray.eraseIdxIfInBounds (its.toArray.size - 1) = its.dropLast.toArray
    rw [List.size_toArray, List.eraseIdxIfInBounds_toArray, erase_last]
  · rw [List.length_dropLast]
    omega

def rPopAt : V → List V → Hp → VK → Prop := fun x vs H Q => ∃ l xs i k y, x = .ref l ∧ vs = [.int i] ∧ H l = some (.lst xs) ∧ -(2 ^ 63) ≤ i ∧ i < 2 ^ 63 ∧ seqIndex? i xs.length = some k ∧ xs[k]? = some y ∧ Q y (upd H l (.lst (xs.eraseIdx k)))
theorem mt_popAt : MtM X "list.pop" rPopAt := by
  intro pins s σ H x vs v us Q I rx rv h
  obtain ⟨l, xs, i, k, y, rfl, rfl, hH, h1, h2, hk, hy, q⟩ := h
  cases rx
  obtain ⟨u, rfl, ru⟩ := rv.one
  obtain ⟨t, rfl⟩ := ru
  obtain ⟨z, its, n, r, hl, e⟩ := I.lstM hH
  obtain ⟨w, hw, rw'⟩ := r.get hy
  refine call_meets F.slot_list_pop ⟨_, e, rfl⟩ F.entry_list_pop (F.args_list_pop_2 _ _)
    (MeetsSeq.list_pop_at l its.toArray n i t k w (fitsIndex_both h1 h2) (by rw [List.size_toArray, ← hl]; exact hk) (by rw [← Array.getElem?_toList]; exact hw) (by rw [List.size_toArray]; omega)) ⟨e, ?_⟩
  refine ⟨y, _, I.lset (its' := its.eraseIdx k) hH e ?_ (r.eraseIdx k) ?_, rw', q⟩
  · show its.toArray.eraseIdxIfInBounds k = (its.eraseIdx k).toArray
    rw [List.eraseIdxIfInBounds_toArray]
  · have := len_erase xs k
    omega

def rReverse : V → List V → Hp → VK → Prop := fun x vs H Q => ∃ l xs, x = .ref l ∧ vs = [] ∧ H l = some (.lst xs) ∧ Q .non (upd H l (.lst xs.reverse))
theorem mt_reverse : MtM X "list.reverse" rReverse := by
  intro pins s σ H x vs v us Q I rx rv h
  obtain ⟨l, xs, rfl, rfl, hH, q⟩ := h
  cases rx
  have hus := rv.zero
  subst hus
  obtain ⟨z, its, n, r, hl, e⟩ := I.lstM hH
  refine call_meets F.slot_list_reverse ⟨_, e, rfl⟩ F.entry_list_reverse (F.args_list_reverse_1 _) (AutoSeq1.list_reverse_list_0 l its.toArray n (by rw [List.size_toArray]; omega)) ⟨e, ?_⟩
  refine ⟨.non, _, I.lset (its' := its.reverse) hH e (by simp) r.reverse ?_, rfl, q⟩
  rw [List.length_reverse]
  omega

def rClear : V → List V → Hp → VK → Prop := fun x vs H Q => ∃ l xs, x = .ref l ∧ vs = [] ∧ H l = some (.lst xs) ∧ Q .non (upd H l (.lst []))
theorem mt_clear : MtM X "list.clear" rClear := by
  intro pins s σ H x vs v us Q I rx rv h
  obtain ⟨l, xs, rfl, rfl, hH, q⟩ := h
  cases rx
  have hus := rv.zero
  subst hus
  obtain ⟨z, its, n, r, hl, e⟩ := I.lstM hH
  refine call_meets F.slot_list_clear ⟨_, e, rfl⟩ F.entry_list_clear (F.args_list_clear_1 _) (AutoSeq1.list_clear_list_0 l its.toArray n (by rw [List.size_toArray]; omega)) ⟨e, ?_⟩
  exact ⟨.non, _, I.lset (its' := []) (ys := []) hH e rfl .nil (Nat.zero_le _), rfl, q⟩

/-! ### list + list, list += list, list * int -/
def rCat : R2 := fun x y H Q => ∃ l b xs zs, x = .ref l ∧ y = .ref b ∧ H l = some (.lst xs) ∧ H b = some (.lst zs) ∧ xs.length + zs.length ≤ sizeLine ∧ ∀ p, H p = none → Q (.ref p) (upd H p (.lst (xs ++ zs)))
theorem op_cat : OpR X (binaryOp .Add) rCat := by
  intro pins s σ H x y v u Q I rx ry h
  obtain ⟨l, b, xs, zs, rfl, rfl, hH, hB, hz, q⟩ := h
  cases rx
  cases ry
  obtain ⟨z, its, n, r, hl, e⟩ := I.lstM hH
  obtain ⟨z2, its2, n2, r2, hl2, e2⟩ := I.lstM hB
  refine PySem.P.add_list e e2 ?_ (by rw [List.size_toArray, List.size_toArray]; omega)
  have ea : its.toArray ++ its2.toArray = (its ++ its2).toArray := by simp
  rw [ea]
  exact ⟨.ref _, _, I.lnew (t' := s.toks) (r.append r2) (by rw [List.length_append]; omega), rfl, q _ I.fresh⟩
/-- a list times an int (a negative one is nothing) -/
def rRep : R2 := fun x y H Q => ∃ l k xs, x = .ref l ∧ y = .int k ∧ H l = some (.lst xs) ∧ -(2 ^ 63) ≤ k ∧ k < 2 ^ 63 ∧ xs.length * k.toNat ≤ sizeLine ∧
  ∀ p, H p = none → Q (.ref p) (upd H p (.lst (List.replicate k.toNat xs).flatten))
theorem len_rep {α : Type} (xs : List α) (k : Nat) : (List.replicate k xs).flatten.length = k * xs.length := by
  induction k with
  | zero => simp
  | succ k ih => rw [List.replicate_succ, List.flatten_cons, List.length_append, ih, Nat.succ_mul, Nat.add_comm]
theorem op_rep : OpR X (binaryOp .Mult) rRep := by
  intro pins s σ H x y v u Q I rx ry h
  obtain ⟨l, k, xs, rfl, rfl, hH, h1, h2, hz, q⟩ := h
  cases rx
  obtain ⟨t, rfl⟩ := ry
  obtain ⟨z, its, n, r, hl, e⟩ := I.lstM hH
  have hlen : its.toArray.size * k.toNat ≤ sizeLine := by rw [List.size_toArray, ← hl]; exact hz
  have hcap : ¬ its.toArray.size * k.toNat > (2 ^ 63 - 1) / 8 := by
    have : (sizeLine : Nat) ≤ (2 ^ 63 - 1) / 8 := by decide
    omega
  have hfit : ¬ (!Builtin.List.listFitsIndex k) = true := by
    rw [fitsIndex_both h1 h2]
    exact Bool.false_ne_true
  have hlong : ¬ Builtin.List.listTooLong (its.toArray.size * k.toNat) = true := by
    rw [notLongL hlen]
    exact Bool.false_ne_true
  have hnew : List.foldl (fun x1 x2 => x1 ++ x2) #[] (List.replicate (if its.toArray.isEmpty = true then 0 else k.toNat) its.toArray) = (List.replicate k.toNat its).flatten.toArray := by
    have f0 : ∀ m : Nat, List.foldl (fun x1 x2 => x1 ++ x2) #[] (List.replicate m its.toArray) = (List.replicate m its).flatten.toArray := fun m => by
      have := foldl_rep its m []
      rw [List.nil_append] at this
      exact this
    rw [f0]
    cases its with
    | nil => simp
    | cons a r' => rw [if_neg (by simp)]
  refine wpAny_binaryOp_repeat_ref (T := "list") (U := "int") (by decide) ⟨_, e, rfl⟩ (fun s' => typeIs_int s' k t) noFill_list_mul F.fills_int_mul F.slot_int_rmul repeat_list F.slot_int_index.lookup
    (call_meets F.slot_int_rmul (typeIs_int s k t) F.entry_int_rmul (F.args_int_rmul_2 _ _) (int___rmul___int_list k t l its.toArray n)
      ⟨e, rfl, ⟨_, e, rfl⟩, call_meets F.slot_list_mul ⟨_, e, rfl⟩ F.entry_list_mul (F.args_list_mul_2 _ _) (AutoListH.list___mul___list_int_3 l its.toArray n k t hfit hcap hlong) ⟨e, ?_⟩⟩)
  rw [hnew]
  exact ⟨.ref _, _, I.lnew (t' := s.toks) (r.rep k.toNat) (by rw [len_rep, Nat.mul_comm]; exact hz), rfl, q _ I.fresh⟩

/-! ### del xs[i] -/
theorem del_list {pins : List (Addr × Obj)} {s : Shared} {σ : St} {H : Hp} {l : Addr} {xs : List V} {i : Int} {t : Tok} {k : Nat} {Q : Unit → Shared → Prop} (I : Inv X pins σ H s) (hH : H l = some (.lst xs))
    (h1 : -(2 ^ 63) ≤ i) (h2 : i < 2 ^ 63) (hk : seqIndex? i xs.length = some k) (h : ∀ s', Inv X pins σ (upd H l (.lst (xs.eraseIdx k))) s' → Q () s') :
    wpAny (model X.prog X.w) X.A (delItem (.ref l) (.int i t)) Q X.xe s := by
  obtain ⟨z, its, n, r, hl, e⟩ := I.lstM hH
  refine PySem.P.delItem_list (k := k) e (fitsIndex_both h1 h2) (by rw [List.size_toArray, ← hl]; exact hk) (h _ ?_) (by rw [List.size_toArray]; omega)
  refine I.lset (its' := its.eraseIdx k) (t' := s.toks) hH e ?_ (r.eraseIdx k) ?_
  · show its.toArray.eraseIdxIfInBounds k = (its.eraseIdx k).toArray
    rw [List.eraseIdxIfInBounds_toArray]
  · have := len_erase xs k
    omega
end

/-! ### xs[a:b] = ys -/
section
variable {prog : Program} {w : World} {A : Around} {E : Value → Shared → Prop} {s : Shared}
theorem splice_eq (its its2 : List Value) (a c : Nat) : its.toArray.extract 0 a ++ its2.toArray ++ its.toArray.extract c its.toArray.size = (its.take a ++ its2 ++ its.drop c).toArray := by
  apply Array.toList_inj.mp
  first
    | (simp
       exact List.take_of_length_le (by simp))
    | simp [List.take_of_length_le]
    | simp
theorem bounds_run {a c n : Nat} (hac : a ≤ c) (hc : c ≤ n) : sliceBounds (some (a : Int)) (some (c : Int)) none n = ((a : Int), (c : Int), 1) := by
  simp only [sliceBounds, Option.getD_none]
  have h1 : ¬ ((a : Int) < 0) := by omega
  have h2 : ¬ ((c : Int) < 0) := by omega
  simp only [h1, h2, if_false, show (1 : Int) > 0 by decide, if_true]
  congr 1
  · omega
  · congr 1; omega
set_option maxRecDepth 100000 in
/-- list.__setitem__ with a slice of step one and another list -/
theorem setItem_slice {l b sl : Addr} {items new : Array Value} {n n2 : Nat} {vl vu : Value} {a c : Nat} {Q : Unit → Shared → Prop}
    (e : s.heap.get? l = some { cls := .type "list", data := .seq items n }) (e2 : s.heap.get? b = some { cls := .type "list", data := .seq new n2 }) (hne : l ≠ b)
    (hs : s.heap.IsSliceOf sl vl vu .none) (pl : IsPart vl (some (a : Int))) (pu : IsPart vu (some (c : Int))) (hac : a ≤ c) (hc : c ≤ items.size)
    (hsz : items.size + new.size ≤ sizeLine) (h : Q () { s with heap := s.heap.update l (Obj.mapSeq fun xs => xs.extract 0 a ++ new ++ xs.extract c xs.size) }) :
    wpAny (model prog w) A (setItem (.ref l) (.ref sl) (.ref b)) Q E s := by
  have hl : s.heap.IsList l items := PySem.IsL.isList e
  have hb : s.heap.IsList b new := PySem.IsL.isList e2
  obtain ⟨os, hos, hcs, hds⟩ := id hs
  have hTs : s.TypeIs (.ref sl) "slice" := ⟨os, hos, hcs⟩
  have hstep : ¬ ((rawPart none == rawInt 0) = true) := Bool.false_ne_true
  have hsame : Builtin.List.listSameRef (.ref l) (.ref b) = false := by
    unfold Builtin.List.listSameRef
    exact beq_eq_false_iff_ne.mpr hne
  have hmax : (max (a : Int) (c : Int)).toNat = c := by omega
  have hz' : ((fun xs : Array Value => xs.extract 0 a ++ new ++ xs.extract c xs.size) items).size ≤ sizeLine + 1 := by
    simp only [Array.size_append, Array.size_extract]
    omega
  unfold setItem
  try with_reducible refine wpAny_holding ?_
  first | refine wpAny_bind (wpAny_pure ?_) | skip
  refine wpAny_bind (wpAny_sequenceKey hl.typeIs (by decide) ?_)
  refine wpAny_bind (wpAny_callSpecial?_slot (name := Str.ofString "__setitem__") hl.typeIs slot_list_setitem
    (wpAny_call_entry slot_list_setitem hl.typeIs entry_list_setitem ?_ (args_list_setitem _ _ _)))
  show wpAny _ _ (Builtin.List.listSubscript? (.ref sl) >>= _) _ _ s
  refine wpAny_bind ?_
  unfold Builtin.List.listSubscript?
  refine wpAny_bind (wpAny_specialOf hTs slice_no_index ?_)
  simp only [Option.isNone_none, if_true]
  refine wpAny_pure ?_
  show wpAny _ _ (typeOf (.ref sl) >>= _) _ _ s
  refine wpAny_bind (wpAny_typeOf hTs ?_)
  first
    | rw [if_neg (by decide)]
    | refine PySem.W.KFB.if_not (by decide) ?_
  rw [listSliceParts_eq]
  refine wpAny_bind (wpAny_bind (wpAny_field hos hds (x := .none) rfl (wpAny_bind (wpAny_listPart .none ?_))))
  rw [if_neg hstep]
  refine wpAny_bind (wpAny_field hos hds (x := vl) rfl (wpAny_bind (wpAny_listPart pl ?_)))
  refine wpAny_bind (wpAny_field hos hds (x := vu) rfl (wpAny_bind (wpAny_listPart pu (wpAny_pure ?_))))
  first
    | simp only [hsame, Bool.false_eq_true, if_false]
    | refine PySem.W.KFB.if_not hsame ?_
    | (dsimp only
       rw [if_neg (by rw [hsame]; exact Bool.false_ne_true)])
  refine wpAny_bind (m := Builtin.List.listAllItems (.ref b) "must assign iterable to extended slice") ?_
  unfold Builtin.List.listAllItems
  refine wpAny_bind (wpAny_typeOf hb.typeIs ?_)
  first
    | refine PySem.W.KFB.if_so (by decide) ?_
    | rw [if_pos (by decide)]
    | simp only [beq_self_eq_true, Bool.true_or, if_true]
  unfold Builtin.List.listItems
  refine wpAny_bind (wpAny_seqItems e2 rfl (wpAny_pure ?_))
  refine wpAny_bind (wpAny_bind (wpAny_seqItems e rfl (wpAny_pure ?_)))
  refine wpAny_bind (wpAny_of_eq ((sliceIndices_raw (some (a : Int)) (some (c : Int)) none items.size (by simp)).trans (congrArg (pure : Int × Int × Int → Sem (Int × Int × Int)) (bounds_run hac hc))) ?_)
  show wpAny _ _ (if ((1 : Int) == 1) = true then _ else _) _ _ s
  rw [if_pos (by decide)]
  refine wpAny_bind (wpAny_rule ?_)
  first
    | simp only [notLongL hsz, Bool.false_eq_true, if_false]
    | refine PySem.W.KFB.if_not (notLongL hsz) ?_
  first | refine wpAny_bind (wpAny_pure ?_) | skip
  show wpAny _ _ (updateSeq l (fun xs => xs.extract 0 ((a : Int)).toNat ++ new ++ xs.extract (max (a : Int) (c : Int)).toNat xs.size) >>= _) _ _ s
  rw [hmax, Int.toNat_natCast]
  refine wpAny_bind (wpAny_updateSeq (hz := Nat.le_trans (Nat.le_add_right _ _) hsz) (_hz' := hz') e rfl ?_)
  refine wpAny_bind (wpAny_letGo ?_)
  first
    | exact wpAny_bind (wpAny_pure (wpAny_pure ⟨.none, rfl, wpAny_pure h⟩))
    | exact wpAny_pure ⟨.none, rfl, wpAny_pure h⟩
end

section
variable {X : Cx}
/-- xs[a:c] = ys of another list, at the value level: sl is the slice object that was just made -/
theorem set_slice {pins : List (Addr × Obj)} {s : Shared} {σ : St} {H : Hp} {l b sl : Addr} {xs ys : List V} {a c : Int} {vl vu : Value} {Q : Unit → Shared → Prop} (I : Inv X pins σ H s)
    (hH : H l = some (.lst xs)) (hB : H b = some (.lst ys)) (hne : l ≠ b) (hs : s.heap.IsSliceOf sl vl vu .none) (ra : RelV (.int a) vl) (rc : RelV (.int c) vu) (h0 : 0 ≤ a) (hac : a ≤ c) (hc : c ≤ xs.length)
    (hz : xs.length + ys.length ≤ sizeLine) (h : ∀ s', Inv X pins σ (upd H l (.lst (xs.take a.toNat ++ ys ++ xs.drop c.toNat))) s' → Q () s') :
    wpAny (model X.prog X.w) X.A (setItem (.ref l) (.ref sl) (.ref b)) Q X.xe s := by
  obtain ⟨ta, rfl⟩ := ra
  obtain ⟨tc, rfl⟩ := rc
  obtain ⟨z, its, n, r, hl, e⟩ := I.lstM hH
  obtain ⟨z2, its2, n2, r2, hl2, e2⟩ := I.lstM hB
  obtain ⟨a', rfl⟩ := Int.eq_ofNat_of_zero_le h0
  obtain ⟨c', rfl⟩ := Int.eq_ofNat_of_zero_le (Int.le_trans h0 hac)
  simp only [Int.toNat_natCast] at h
  refine setItem_slice (a := a') (c := c') e e2 hne hs (.int _ _) (.int _ _) (by omega) (by rw [List.size_toArray]; omega) (by rw [List.size_toArray, List.size_toArray]; omega) (h _ ?_)
  refine I.lset (its' := its.take a' ++ its2 ++ its.drop c') (t' := s.toks) hH e ?_ (Vals.append (Vals.append (r.take _) r2) (r.drop _)) ?_
  · exact splice_eq its its2 a' c'
  · rw [List.length_append, List.length_append, List.length_take, List.length_drop]
    omega
end
end L2

namespace Att
open PySem PySem.W PySem.Calls PyProof.Rows

/-! ### the script -/
theorem ints_of_wellAll {P : Params} {h : Heap} : ∀ (ns : List Int) (vs : List Value), WellAll P h vs (ns.map WData.int) → IntsAre vs ns := by
  intro ns
  induction ns with
  | nil =>
    intro vs w
    rw [List.map_nil] at w
    cases w
    exact .nil
  | cons n ns ih =>
    intro vs w
    rw [List.map_cons] at w
    cases w with
    | cons a b =>
      cases a
      exact .cons _ _ (ih _ b)

theorem script_of {l : OpenLaw} {n : Nat} (hn : l.most = some n) {P : Params} {h : Heap} {args : List WData} {vals : List Value}
    (hpre : l.row.toRowW.claim.pre args = true) (hwl : WellAll P h vals args) :
    ∃ a vs ns, vals = [Value.ref a] ∧ args = [WData.list (ns.map WData.int)] ∧ h.get? a = some { cls := .type "list", data := .seq vs.toArray } ∧ IntsAre vs ns ∧ ns.length ≤ n := by
  have hsh : WShape.hasAll [] args [.list .int] = true := (pre_splitW hpre).1
  have hc : l.pre.holds [] { args := args } = true := (pre_splitW hpre).2
  obtain ⟨d, r, rfl, h1, h2⟩ := hasAllW_cons hsh
  obtain rfl := hasAllW_nil h2
  obtain ⟨xs, rfl, h3⟩ := hasW_list h1
  obtain ⟨ns, rfl⟩ := items_int h3
  have hlen : ns.length ≤ n := by
    unfold OpenLaw.pre at hc
    have h4 : (WTm.not (.lt (.lit (.int (n : Int))) (.len (.arg 0)))).holds [] { args := [.list (ns.map .int)] } = true := by
      have h4 := (holds_andW hc).1
      rw [hn] at h4
      exact h4
    have h5 := condW_of h4 (w_not (w_lt w_lit (w_len_list (w_arg rfl))))
    rw [List.length_map] at h5
    refine Nat.le_of_not_lt fun q => ?_
    have q' : (n : Int) < ((ns.length : Nat) : Int) := by omega
    first
      | (rw [decide_eq_true q'] at h5; exact absurd h5 (by decide))
      | (simp at h5; omega)
  cases hwl with
  | cons w1 w2 =>
    cases w2
    cases w1 with
    | list ho hall => exact ⟨_, _, ns, rfl, rfl, ho, ints_of_wellAll ns _ hall, hlen⟩

theorem post_true (l : OpenLaw) (args : List WData) : l.row.toRowW.claim.post args (.bool true) args = true :=
  postW_of (r := l.row.toRowW) (X := (true == true))
    (show WShape.has [] (.bool true) .bool = true by first | rfl | decide | simp [WShape.has, WShape.arms, WShape.armsAll])
    (show (WTm.eq .res (.lit (.bool true))).value [] { args := args, res := some (.bool true), after := args } = some (.bool (true == true)) from w_eq_bool (w_res rfl) w_lit) rfl

/-! ### the attachment: holds_open's last premise (the goal 'hc' behind k_head) from a wpAny of the law's body -/
theorem attach {l : OpenLaw} {n : Nat} {q : Program} {loose : List Str} {XP : (Str → Option Value) → Heap → Prop} {YP : World → Heap → Prop} {d : DefRec} {x : Str}
    (hn : l.most = some n) (hdf : d.params.defaults = [])
    (hbind : ∀ pm cd doc v : Value, bindArgs (docDef d.name d.params d.body d.scope pm cd doc) ⟨[v], []⟩ = pure [(x, v)])
    (hx : d.scope.names.lookup x = some .local ∨ d.scope.names.lookup x = some .cell)
    (hk : d.scope.kind = .function) (hco : d.scope.isCoroutine = false) (hgen : d.scope.isGenerator = false)
    (body : ∀ (w : World) (s₀ s₁ s : Shared) (mg mb : Str → Option Value) (fa : Addr) (o : Obj) (pm cd doc : Value) (a : Addr) (vs : List Value) (ns : List Int),
      Ground q loose [] XP w s₀ mg mb s₁.heap → YP w s₁.heap →
      s₁.heap.get? fa = some o → o.data = .func (docDef d.name d.params d.body d.scope pm cd doc) → s₁.heap.CodeRec cd d.name → mg d.name = some (.ref fa) →
      s₁.heap.get? a = some { cls := .type "list", data := .seq vs.toArray } → IntsAre vs ns → ns.length ≤ n →
      s.gens = #[] → s.os = s₁.os →
      Fr s₁.heap s₁.heap.objs.size s.heap (bindL (envOfC d.name d.scope s₁.heap.objs.size fa cd).kindOf [(x, .ref a)] fun _ => none) →
      Cl s₁.heap.objs.size (cellsFrom (s₁.heap.objs.size + 1) d.scope.names []) s.heap (bindC (envOfC d.name d.scope s₁.heap.objs.size fa cd).kindOf [(x, .ref a)] fun _ => none) →
      wpAny (model l.prog w) (callerA.deeper (envOfC d.name d.scope s₁.heap.objs.size fa cd)) (execs d.body (envOfC d.name d.scope s₁.heap.objs.size fa cd))
        (fun f s' => f = .ret (.bool true) ∧ OldK s₁.heap s'.heap ∧ s'.os = s₁.os ∧ AllBare s'.gens) (fun _ _ => False) s) :
    WalkO q loose XP YP l.row.toRowW d [] (fun f vs => PySem.call f vs) := by
  intro w s₀ s₁ mg mb G Y fa o pm cd doc dV kV ho hd hcd hD hmg hg args vals as hpre hlay hrd hwl hlo
  obtain rfl : dV = .none := Dflts.none hD hdf
  obtain rfl : kV = .none := Dflts.noKw hD
  obtain ⟨a, vs, ns, rfl, rfl, hobj, hints, hlen⟩ := script_of hn hpre hwl
  refine enter_call ?_
  refine call_cells_ret (o := o) (by rw [depth_caller]; decide) ho (fd_plain hd) G.T.nolimit hcd (hbind pm cd doc (.ref a)) (fun y hy => ?_) (fun h₁ tk F X => ?_) hco hgen hk
  · obtain rfl : y = (x, Value.ref a) := List.mem_singleton.mp hy
    rcases hx with e | e
    · exact .inl e
    · exact .inr ⟨e, cellsFrom_some _ _ _ (.inl e)⟩
  · refine wpAny_mono (body w s₀ s₁ { s₁ with heap := h₁, toks := tk } mg mb fa o pm cd doc a vs ns G Y ho (fd_plain hd) hcd hmg hobj hints hlen hg rfl F X) (fun f s' hq => ?_) (fun _ _ hq => hq)
    obtain ⟨rfl, h2, h3, h4⟩ := hq
    exact ⟨.inl ⟨.bool true, .bool true, [], rfl, fun _ => rfl, .bool true, post_true l _, fun _ => ⟨List.Pairwise.nil, fun _ hm => (nomatch hm)⟩⟩, h2, h3, h4⟩

/-- the same from a codeAny of the CALL (for a layer whose function contracts speak of calls) -/
theorem attach_call {l : OpenLaw} {n : Nat} {q : Program} {loose : List Str} {XP : (Str → Option Value) → Heap → Prop} {YP : World → Heap → Prop} {d : DefRec}
    (hn : l.most = some n) (hdf : d.params.defaults = [])
    (call : ∀ (w : World) (s₀ s₁ : Shared) (mg mb : Str → Option Value) (fa : Addr) (o : Obj) (pm cd doc : Value) (a : Addr) (vs : List Value) (ns : List Int),
      Ground q loose [] XP w s₀ mg mb s₁.heap → YP w s₁.heap →
      s₁.heap.get? fa = some o → o.data = .func (docDef d.name d.params d.body d.scope pm cd doc) → s₁.heap.CodeRec cd d.name → mg d.name = some (.ref fa) →
      s₁.heap.get? a = some { cls := .type "list", data := .seq vs.toArray } → IntsAre vs ns → ns.length ≤ n → s₁.gens = #[] →
      codeAny (model l.prog w) callerA (.call (.ref fa) ⟨[.ref a], []⟩) (fun r s' => r = .ok (.ret (.bool true)) ∧ OldK s₁.heap s'.heap ∧ s'.os = s₁.os ∧ AllBare s'.gens) s₁) :
    WalkO q loose XP YP l.row.toRowW d [] (fun f vs => PySem.call f vs) := by
  intro w s₀ s₁ mg mb G Y fa o pm cd doc dV kV ho hd hcd hD hmg hg args vals as hpre hlay hrd hwl hlo
  obtain rfl : dV = .none := Dflts.none hD hdf
  obtain rfl : kV = .none := Dflts.noKw hD
  obtain ⟨a, vs, ns, rfl, rfl, hobj, hints, hlen⟩ := script_of hn hpre hwl
  refine enter_call (codeAny_mono (call w s₀ s₁ mg mb fa o pm cd doc a vs ns G Y ho (fd_plain hd) hcd hmg hobj hints hlen hg) fun r s' hq => ?_)
  obtain ⟨rfl, h2, h3, h4⟩ := hq
  exact ⟨.inl ⟨.bool true, .bool true, [], rfl, fun _ => rfl, .bool true, post_true l _, fun _ => ⟨List.Pairwise.nil, fun _ hm => (nomatch hm)⟩⟩, h2, h3, h4⟩

/-- the same where the top left finished generators (o_head chose holds_openN): nothing may have changed at all and no generator may be left -/
theorem attachN {l : OpenLaw} {n : Nat} {q : Program} {loose : List Str} {XP : (Str → Option Value) → Heap → Prop} {YP : World → Heap → Prop} {d : DefRec} {x : Str}
    (hn : l.most = some n) (hdf : d.params.defaults = [])
    (hbind : ∀ pm cd doc v : Value, bindArgs (docDef d.name d.params d.body d.scope pm cd doc) ⟨[v], []⟩ = pure [(x, v)])
    (hx : d.scope.names.lookup x = some .local ∨ d.scope.names.lookup x = some .cell)
    (hk : d.scope.kind = .function) (hco : d.scope.isCoroutine = false) (hgen : d.scope.isGenerator = false)
    (body : ∀ (w : World) (s₀ s₁ s : Shared) (mg mb : Str → Option Value) (fa : Addr) (o : Obj) (pm cd doc : Value) (a : Addr) (vs : List Value) (ns : List Int),
      Ground q loose [] XP w s₀ mg mb s₁.heap → YP w s₁.heap →
      s₁.heap.get? fa = some o → o.data = .func (docDef d.name d.params d.body d.scope pm cd doc) → s₁.heap.CodeRec cd d.name → mg d.name = some (.ref fa) →
      s₁.heap.get? a = some { cls := .type "list", data := .seq vs.toArray } → IntsAre vs ns → ns.length ≤ n →
      s.gens = #[] → s.os = s₁.os →
      Fr s₁.heap s₁.heap.objs.size s.heap (bindL (envOfC d.name d.scope s₁.heap.objs.size fa cd).kindOf [(x, .ref a)] fun _ => none) →
      Cl s₁.heap.objs.size (cellsFrom (s₁.heap.objs.size + 1) d.scope.names []) s.heap (bindC (envOfC d.name d.scope s₁.heap.objs.size fa cd).kindOf [(x, .ref a)] fun _ => none) →
      wpAny (model l.prog w) (callerA.deeper (envOfC d.name d.scope s₁.heap.objs.size fa cd)) (execs d.body (envOfC d.name d.scope s₁.heap.objs.size fa cd))
        (fun f s' => f = .ret (.bool true) ∧ (∀ b o, s₁.heap.get? b = some o → s'.heap.get? b = some o) ∧ s'.os = s₁.os ∧ s'.gens = #[]) (fun _ _ => False) s) :
    WalkN q loose XP YP l.row.toRowW d [] (fun f vs => PySem.call f vs) := by
  intro w s₀ s₁ mg mb G Y fa o pm cd doc dV kV ho hd hcd hD hmg hg args vals as hpre hlay hrd hwl hlo
  obtain rfl : dV = .none := Dflts.none hD hdf
  obtain rfl : kV = .none := Dflts.noKw hD
  obtain ⟨a, vs, ns, rfl, rfl, hobj, hints, hlen⟩ := script_of hn hpre hwl
  refine enter_callW ?_
  refine call_cells_ret (o := o) (by rw [depth_caller]; decide) ho (fd_plain hd) G.T.nolimit hcd (hbind pm cd doc (.ref a)) (fun y hy => ?_) (fun h₁ tk F X => ?_) hco hgen hk
  · obtain rfl : y = (x, Value.ref a) := List.mem_singleton.mp hy
    rcases hx with e | e
    · exact .inl e
    · exact .inr ⟨e, cellsFrom_some _ _ _ (.inl e)⟩
  · refine wpAny_mono (body w s₀ s₁ { s₁ with heap := h₁, toks := tk } mg mb fa o pm cd doc a vs ns G Y ho (fd_plain hd) hcd hmg hobj hints hlen hg rfl F X) (fun f s' hq => ?_) (fun _ _ hq => hq)
    obtain ⟨rfl, h2, h3, h4⟩ := hq
    exact ⟨.inl ⟨.bool true, .bool true, [], rfl, fun _ => rfl, .bool true, post_true l _, fun _ => ⟨List.Pairwise.nil, fun _ hm => (nomatch hm)⟩⟩, h2, h3, h4⟩

/-! ### rules over ANY heap (no ledger) from facts about the written part K: the library's own take a ledger (News) for what they write -/
section
variable {prog : Program} {w : World} {A : Around} {E : Value → Shared → Prop} {s : Shared} {K : Frag}

/-- a def of the module, or a method (qual 'C.m'), entered: the frame is the next address; cells behind it -/
theorem call_fn {R : Result → Shared → Prop} {name qual : Str} {params : Arguments} {body : List Stmt} {scope : Scope} {dV kV doc pm cdv ct oc : Value} {an od : Option Addr} {osl : Array (Option Value)} {f : Addr} {args : Args} {binds : List (Str × Value)}
    (X : K.In s.heap) (hlim : s.heap.NoLimit) (ho : K.lookup f = some ⟨oc, od, .func (fnOf name qual params body scope dV kV doc pm an cdv ct), osl⟩) (hcd : codeIn K cdv qual = true) (hroom : A.depth < recursionLimit)
    (hbind : BindsTo s (fnOf name qual params body scope dV kV doc pm an cdv ct) args binds)
    (hkind : (binds.all fun y => scope.names.lookup y.1 == some .local || scope.names.lookup y.1 == some .cell) = true)
    (h : ∀ s₁, InCallC s s.heap.objs.size (bindL (envOfC qual scope s.heap.objs.size f cdv).kindOf binds fun _ => none) (cellsFrom (s.heap.objs.size + 1) scope.names [])
        (bindC (envOfC qual scope s.heap.objs.size f cdv).kindOf binds fun _ => none) s₁ →
      wpAny (model prog w) (A.deeper (envOfC qual scope s.heap.objs.size f cdv)) (execs body (envOfC qual scope s.heap.objs.size f cdv))
        (fun fl s' => R (.ok (.ret (match fl with | .ret v => v | _ => .none))) s')
        (fun e s' => wpAny (model prog w) (A.deeper (envOfC qual scope s.heap.objs.size f cdv)) (leaving (envOfC qual scope s.heap.objs.size f cdv) e) (fun _ s'' => R (.error e) s'') (fun e' s'' => R (.error e') s'') s') s₁)
    (hco : scope.isCoroutine = false) (hgen : scope.isGenerator = false) (hk : scope.kind = .function) : codeAny (model prog w) A (.call (.ref f) args) R s := by
  refine codeAny_call_function hroom (X _ _ ho) rfl hco hgen rfl (codeRec_of X hcd) (hbind _ _ _ _ ?_)
  refine wpAny_newFunctionEnv_cells hk (kindsX hkind _) fun env he s₁ x => ?_
  subst he
  exact ⟨hlim.keeps x.toInCall.keep, codeAny_func (h s₁ x)⟩

/-- C(..): dict at size, instance at size + 1, then __init__ -/
theorem make_obj {R : Result → Shared → Prop} {C fI : Addr} {rest : List Value} {kw : List (Str × Value)}
    (X : K.In s.heap) (hm : makesIn K C = true) (hi : findIn K (.ref C) "__init__" = some (some (.ref fI))) (hf : isFn K (.ref fI) = true)
    (h : codeAny (model prog w) (A.under (.builtin "type.__call__" ⟨.ref C :: rest, kw⟩)) (.call (.ref fI) ⟨.ref (s.heap.objs.size + 1) :: rest, kw⟩) (InitBack (s.heap.objs.size + 1) R)
      { s with heap := (s.heap.push emptyDict).push (instObj C s.heap.objs.size) }) : codeAny (model prog w) A (.call (.ref C) ⟨rest, kw⟩) R s := by
  obtain ⟨hh, g, d, t, os⟩ := s
  exact make_core (makes_of X hm) (looks_findIn X hi) (fun self => bind_fn X self (beq_iff_eq.mp hf)) (.inl rfl) h

/-- x.name where the instance's dict holds the name and the class does not -/
theorem get_field {x C : Addr} {ox : Obj} {es : List DictEntry} {n : Nat} {name : Str} {expr : Bool} {v : Value} {Q : Value → Shared → Prop}
    (X : K.In s.heap) (I : PySem.W.InstAt s.heap x ox C (some (dictOf es n))) (hg : plainGet K C name = true) (hh : hasDictIn K C = true) (ha : findIn K (.ref C) name = some none)
    (hl : getL name es = some (some v)) (hv : handedIn v = true) (h : Q v { s with toks := s.toks + 1 }) : wpAny (model prog w) A (getAttr (.ref x) name expr) Q E s :=
  get_value X I (plainGet_of hg).1 (findObj_own hh ha rfl hl) hv h

/-- x.m(..): the method found in the class -/
theorem get_method {x C f : Addr} {ox : Obj} {es : List DictEntry} {n : Nat} {name : Str} {pl : Sem Bool} {Q : Value × List Value → Shared → Prop}
    (X : K.In s.heap) (I : PySem.W.InstAt s.heap x ox C (some (dictOf es n))) (hg : plainGet K C name = true) (hf : findIn K (.ref C) name = some (some (.ref f))) (ht : isFn K (.ref f) = true)
    (hl : getL name es = some none) (h : Q (.ref f, [.ref x]) s) : wpAny (model prog w) A (getMethod (.ref x) name pl) Q E s :=
  method_fn X I (plainGet_of hg).1 (plainGet_of hg).2 hf (beq_iff_eq.mp ht) (by show (lookIn name (dictOf es n)).map _ = _; rw [lookIn_dict, hl]; rfl) h

/-! the whole heap as the ledger: makes every rule that writes through a ledger a rule over any heap -/
def noObjs (h : Heap) : Heap := { h with objs := #[] }
theorem noObjs_get (h : Heap) (b : Addr) : (noObjs h).get? b = none := by
  cases e : (noObjs h).get? b with
  | none => rfl
  | some o => exact absurd (Heap.lt_size e) (Nat.not_lt_zero _)
def ledger (h : Heap) (L d : Addr) : List (Addr × Obj) := (List.range h.objs.size).filterMap fun a => if a = L ∨ a = d then none else (h.get? a).map fun o => (a, o)
theorem mem_ledger {h : Heap} {L d a : Addr} {o : Obj} : (a, o) ∈ ledger h L d ↔ a ≠ L ∧ a ≠ d ∧ h.get? a = some o := by
  unfold ledger
  rw [List.mem_filterMap]
  constructor
  · rintro ⟨b, _, e⟩
    split at e
    · cases e
    · rename_i hb
      obtain ⟨o', ho, e'⟩ := Option.map_eq_some_iff.mp e
      cases e'
      exact ⟨fun q => hb (.inl q), fun q => hb (.inr q), ho⟩
  · rintro ⟨n1, n2, ho⟩
    refine ⟨a, List.mem_range.mpr (Heap.lt_size ho), ?_⟩
    rw [if_neg (show ¬ (a = L ∨ a = d) from fun q => q.elim n1 n2), ho] <;> rfl
theorem news_ledger {h : Heap} {L d : Addr} {od : Obj} (hne : d ≠ L) (ho : h.get? d = some od) : News (noObjs h) L h ([] ++ (d, od) :: ledger h L d) := by
  rintro ⟨a, o⟩ hp
  rcases List.mem_cons.mp hp with e | hp
  · cases e
    exact ⟨ho, hne, noObjs_get _ _⟩
  · obtain ⟨n1, n2, e⟩ := mem_ledger.mp hp
    exact ⟨e, n1, noObjs_get _ _⟩
theorem fr_all {h : Heap} {L : Addr} {m : Str → Option Value} (n : h.Ns L m) : Fr (noObjs h) L h m :=
  ⟨n, fun b o e => (by rw [noObjs_get] at e; cases e), Nat.zero_le _⟩
/-- Upd of the head entry (for append_K, setItem_K ..) -/
theorem upd_ledger {h : Heap} {L d : Addr} {o o' : Obj} : Upd d o o' ((d, o) :: ledger h L d) ((d, o') :: ledger h L d) :=
  .head fun ⟨_, _⟩ hp => (mem_ledger.mp hp).2.1

/-- x.name = v over any heap: L is any namespace of the heap (the frame's, say): its map stays, its object is not told; all else but the dict stays -/
theorem set_field {x C dx L : Addr} {ox : Obj} {m : Str → Option Value} {es es' : List DictEntry} {n n' : Nat} {name : Str} {v : Value} {Q : Unit → Shared → Prop}
    (X : K.In s.heap) (I : PySem.W.InstAt s.heap x ox C (some (dictOf es n))) (hd : ox.dict = some dx) (hL : s.heap.Ns L m) (hne : dx ≠ L)
    (hs : findIn K (.ref C) "__setattr__" = some (some (.builtin "object.__setattr__"))) (hp : plainOver K C = true) (ht : takerIn K C name = some none) (hh : hasDictIn K C = true) (hl : (getL name es).isSome = true)
    (e : (putL name (PyData.keyHash w.params name) (.str name (s.toks + 1)) v es, putN name es n) = (es', n')) (hz : es'.length ≤ 1000)
    (h : ∀ h' : Heap, h'.Ns L m → h'.get? dx = some (dictOf es' n') → (∀ b o, b ≠ dx → b ≠ L → s.heap.get? b = some o → h'.get? b = some o) → Q () { s with heap := h', toks := s.toks + 2 }) :
    wpAny (model prog w) A (setAttr (.ref x) name v) Q E s := by
  obtain ⟨e1, e2⟩ := Prod.mk.inj e
  have hdx : s.heap.get? dx = some (dictOf es n) := by
    have := I.dict
    rw [hd] at this
    exact this
  refine set_plain X I hs (osa_dict (s := { s with toks := s.toks + 1 }) (h₀ := noObjs s.heap) (L := L) (m := m) (od := dictOf es n) (od' := dictOf es' n') (es := es') (n := n') (pre := []) (post := ledger s.heap L dx)
    (fr_all hL) (news_ledger hne hdx) X I hd hp ht hh hl (fun _ q => nomatch q) (fun ⟨_, _⟩ q => (mem_ledger.mp q).2.1) (by rw [putName_dict, e1, e2]) rfl hz fun h' F' N' => ?_)
  exact h h' F'.ns (N'.get (List.Mem.head _)) fun b o n1 n2 ho => N'.get (List.Mem.tail _ (mem_ledger.mpr ⟨n2, n1, ho⟩))
end
end Att

namespace L2
open PySem PySem.Spec PyProof.Rows

theorem vals_ints : ∀ {vs : List Value} {ns : List Int}, IntsAre vs ns → Vals (ns.map V.int) vs
  | _, _, .nil => .nil
  | _, _, .cons n t h => .cons ⟨t, rfl⟩ (vals_ints h)

/-- nothing is tracked but the script, known to the object (or it is an object of the module) -/
def Only (H : Hp) : Prop := ∀ b, H b = none ∨ ∃ o xs, H b = some (.frz o (.lst xs))

/-- THE HEAD: the law's promise, at the heap behind the top. F, the promise of the law's def, may use that base is part of the heap (so K.In base, base.Ns mainGlobals mg stand in Mod) -/
theorem law_call {P : Program} {w : World} {K : PySem.W.Frag} {mg mb : Str → Option Value} {CX : CXT} {k : Nat} {fa a : Addr} {fd : FuncData} {x : Str} {sp : Sp} {s₁ : Shared} {vs : List Value} {ns : List Int}
    (KX : K.In s₁.heap) (hns : s₁.heap.Ns mainGlobals mg) (hb : s₁.heap.Ns builtinsNs mb) (hbb : ∀ x : Str, x ≠ "__name__" → mb x = bootBuiltins x) (hlim : s₁.heap.NoLimit) (hg : s₁.gens = #[])
    (ha : s₁.heap.get? a = some { cls := .type "list", data := .seq vs.toArray }) (hi : IntsAre vs ns) (hl : ns.length ≤ sizeLine) (hr : Room k callerA)
    (F : ∀ base : Heap, K.In base → base.Ns mainGlobals mg → FnOk P w K mg base CX k fa fd [x] sp) (hbind : ∀ (s : Shared) (u : Value), BindsTo s fd ⟨[u], []⟩ [(x, u)])
    (hsp : ∀ H : Hp, Only H → SqL K H a (ns.map V.int) → sp [.ref a] H (fun v _ => v = .bl true) fun _ _ _ => False)
    (hCX : ∀ H e s', CX [] H s₁ (fun _ _ _ => False) e s' → False) :
    codeAny (model P w) callerA (.call (.ref fa) ⟨[.ref a], []⟩) (fun r s' => r = .ok (.ret (.bool true)) ∧ OldK s₁.heap s'.heap ∧ s'.os = s₁.os ∧ AllBare s'.gens) s₁ := by
  have rv := vals_ints hi
  have lenV := hi.length
  -- from an abstract heap in which nothing but the script may be tracked
  have core : ∀ H : Hp, Only H → SqL K H a (ns.map V.int) → HOk P w H s₁.heap → (∀ b, H b ≠ none → b = a) → (H a ≠ none → K.lookup a = none) →
      codeAny (model P w) callerA (.call (.ref fa) ⟨[.ref a], []⟩) (fun r s' => r = .ok (.ret (.bool true)) ∧ OldK s₁.heap s'.heap ∧ s'.os = s₁.os ∧ AllBare s'.gens) s₁ := by
    intro H hO hS hok hA hK
    have base_of : ∀ {b : Addr} {o : Obj}, s₁.heap.get? b = some o → H b = none → (hidT s₁.heap H).get? b = some o := fun e n => hidT_get e n
    have noA : ∀ {b : Addr} {o : Obj} {es : Array DictEntry} {ep : Nat}, s₁.heap.get? b = some o → o.data = .dict es ep → H b = none := fun {b o es ep} e d => by
      cases q : H b with
      | none => rfl
      | some u =>
        have e' : b = a := hA b (by rw [q]; simp)
        subst e'
        rw [ha] at e; cases e
        have d' : Data.seq vs.toArray _ = Data.dict es ep := d
        cases d'
    have nsK : ∀ {b : Addr} {m : Str → Option Value}, s₁.heap.Ns b m → (hidT s₁.heap H).Ns b m := fun {b m} ⟨o, es, ep, e, d, r⟩ => ⟨o, es, ep, base_of e (noA e d), d, r⟩
    have hKb : K.In (hidT s₁.heap H) := fun b o e => base_of (KX b o e) (by
      cases q : H b with
      | none => rfl
      | some u =>
        have e' : b = a := hA b (by rw [q]; simp)
        subst e'
        rw [hK (by rw [q]; simp)] at e; cases e)
    have hM : Mod K mg (hidT s₁.heap H) := ⟨hKb, nsK hns, ⟨mb, nsK hb, hbb⟩, let ⟨mc, h1, h2⟩ := hlim; ⟨mc, nsK h1, h2⟩⟩
    have e0 : Env0 P w K mg (hidT s₁.heap H) callerA [] s₁ H := ⟨rfl, hM, fun b o e => of_hidT e, Nat.le_of_eq (hidT_size _ _), trivial, fun b hb => absurd (show b ∈ ([] : List Addr) from hb) (by simp), hok, .of_eq hg⟩
    refine codeAny_mono ((F _ hKb (nsK hns)).run callerA [] s₁ H ⟨[.ref a], []⟩ [.ref a] [.ref a] _ _ hr e0 (hbind s₁ (.ref a)) (.cons rfl .nil) (hsp H hO hS)) fun r s' h => ?_
    cases r with
    | error e => exact (hCX H e s' h).elim
    | ok fl =>
      cases fl with
      | next => exact False.elim h
      | brk => exact False.elim h
      | cont => exact False.elim h
      | ret u =>
        obtain ⟨v, H', os, bare, un, hok', r', q⟩ := h
        have q' : v = .bl true := q
        subst q'
        obtain rfl : u = Value.bool true := r'
        refine ⟨rfl, OldK.of_keep fun b o e => ?_, os, bare⟩
        cases q : H b with
        | none => exact un.keep b o e q (by intro z; exact absurd (show b ∈ ([] : List Addr) from z) (by simp)) (by simp)
        | some u =>
          rcases hO b with z | ⟨ob, xs, z⟩
          · rw [q] at z; cases z
          · have z2 := un.frzs b ob _ z
            obtain ⟨e1, _⟩ := hok b _ z
            obtain ⟨e2, _⟩ := hok' b _ z2
            rw [e] at e1; cases e1
            exact e2
  cases hk : K.lookup a with
  | some o =>
    -- the script is one of the module's own objects
    have e := KX a o hk
    rw [ha] at e
    cases e
    refine core (fun _ => none) (fun _ => .inl rfl) (.inr ⟨_, vs.toArray, _, hk, rfl, rfl, rfl, by rw [List.size_toArray, lenV]; exact hl, by simpa using rv⟩) (fun b u z => by have z' : (none : Option HO) = some u := z; cases z') (fun b z => absurd rfl z) fun z => absurd rfl z
  | none =>
    refine core (fun b => if b = a then some (.frz { cls := .type "list", data := .seq vs.toArray } (.lst (ns.map V.int))) else none) (fun b => ?_) (.inl (.inr ⟨{ cls := .type "list", data := .seq vs.toArray }, if_pos rfl⟩)) (fun b u z => ?_) (fun b z => ?_) fun _ => hk
    · by_cases hb : b = a
      · exact .inr ⟨_, _, if_pos hb⟩
      · exact .inl (if_neg hb)
    · by_cases hb : b = a
      · have z' := (if_pos hb).symm.trans z
        cases z'
        subst hb
        exact ⟨ha, by rw [List.length_map]; exact hl, vs, _, rv, ha⟩
      · have z' := (if_neg hb).symm.trans z
        cases z'
    · by_cases hb : b = a
      · exact hb
      · exact absurd (if_neg hb) z
end L2

namespace L2
open PySem PySem.Spec PyProof.Rows

abbrev KOf {K : PySem.W.Frag} {h : Heap} (_ : K.In h) : PySem.W.Frag := K

/-- the goal that k_head leaves (case hc), from the law's promise. F gives the function object fd (K's own) once, then the promise over every base -/
theorem walk_of {l : PySem.W.OpenLaw} {n k : Nat} {q : Program} {loose : List Str} {XP : (Str → Option Value) → Heap → Prop} {YP : World → Heap → Prop} {d : DefRec} {K : Params → PySem.W.Frag} {CX : World → CXT} {sp : World → Sp} {x : Str}
    (hn : l.most = some n) (hn2 : n ≤ sizeLine) (hdf : d.params.defaults = []) (hr : Room k callerA)
    (hY : ∀ (w : World) (h : Heap), YP w h → (K w.params).In h)
    (F : ∀ (w : World) (mg : Str → Option Value) (fa : Addr) (h : Heap), (K w.params).In h → h.Ns mainGlobals mg → mg d.name = some (.ref fa) →
      ∃ fd : FuncData, (∀ (s : Shared) (u : Value), BindsTo s fd ⟨[u], []⟩ [(x, u)]) ∧
        ∀ base : Heap, (K w.params).In base → base.Ns mainGlobals mg → FnOk l.prog w (K w.params) mg base (CX w) k fa fd [x] (sp w))
    (hsp : ∀ (w : World) (H : Hp) (a : Addr) (ns : List Int), ns.length ≤ n → Only H → SqL (K w.params) H a (ns.map V.int) → sp w [.ref a] H (fun v _ => v = .bl true) fun _ _ _ => False)
    (hCX : ∀ (w : World) (H : Hp) (s : Shared) (e : Value) (s' : Shared), CX w [] H s (fun _ _ _ => False) e s' → False) :
    PySem.W.WalkO q loose XP YP l.row.toRowW d [] (fun f vs => PySem.call f vs) := by
  refine Att.attach_call hn hdf fun w s₀ s₁ mg mb fa o pm cd doc a vs ns G Y ho hd hcd hmg hobj hints hlen hg => ?_
  have KX := hY w _ Y
  obtain ⟨fd, hb, hF⟩ := F w mg fa _ KX G.T.g hmg
  exact law_call KX G.T.g G.T.b G.T.builtins G.T.nolimit hg hobj hints (Nat.le_trans hlen hn2) hr hF hb (fun H hO hS => hsp w H a ns hlen hO hS) fun H e s' => hCX w H s₁ e s'
/-- the same where the promise hangs on the written part alone: (sp := My.sp_law), no hole under a binder -/
theorem walk_ofK {l : PySem.W.OpenLaw} {n k : Nat} {q : Program} {loose : List Str} {XP : (Str → Option Value) → Heap → Prop} {YP : World → Heap → Prop} {d : DefRec} {K : Params → PySem.W.Frag} {CX : CXT} {sp : PySem.W.Frag → Sp} {x : Str}
    (hn : l.most = some n) (hn2 : n ≤ sizeLine) (hdf : d.params.defaults = []) (hr : Room k callerA)
    (hY : ∀ (w : World) (h : Heap), YP w h → (K w.params).In h)
    (F : ∀ (w : World) (mg : Str → Option Value) (fa : Addr) (h : Heap), (K w.params).In h → h.Ns mainGlobals mg → mg d.name = some (.ref fa) →
      ∃ fd : FuncData, (∀ (s : Shared) (u : Value), BindsTo s fd ⟨[u], []⟩ [(x, u)]) ∧
        ∀ base : Heap, (K w.params).In base → base.Ns mainGlobals mg → FnOk l.prog w (K w.params) mg base CX k fa fd [x] (sp (K w.params)))
    (hsp : ∀ (K : PySem.W.Frag) (H : Hp) (a : Addr) (ns : List Int), ns.length ≤ n → Only H → SqL K H a (ns.map V.int) → sp K [.ref a] H (fun v _ => v = .bl true) fun _ _ _ => False)
    (hCX : ∀ (H : Hp) (s : Shared) (e : Value) (s' : Shared), CX [] H s (fun _ _ _ => False) e s' → False) :
    PySem.W.WalkO q loose XP YP l.row.toRowW d [] (fun f vs => PySem.call f vs) :=
  walk_of (K := K) (CX := fun _ => CX) (sp := fun w => sp (K w.params)) hn hn2 hdf hr hY F (fun w H a ns h1 h2 h3 => hsp (K w.params) H a ns h1 h2 h3) fun _ H s e s' => hCX H s e s'
end L2

/- THE LAST THEOREM (shape; LID, My.* are yours):
   My.Adr: a structure of the addresses that your layer names (classes, functions); My.Txt K t: a structure (Prop) of the equations over K;
   My.txt_mk : {K} {implicit addresses ..} (e1 : nsIn K mainGlobals "law" = some (some (.ref f))) (e2 : K.lookup f = some ⟨oc, od, .func (fnOf "law" "law" params body scope dV kV doc pm an cdv ct), sl⟩) (e3 : codeIn K cdv "law" = true) .. : ∃ t, My.Txt K t

set_option maxRecDepth 100000 in
set_option maxHeartbeats 0 in
theorem PySem.Challenge.cw_LID_holds : PySem.Challenge.rw_LID.Holds := by
  w_on; o_law; k_head; (case hw => w_witness2)
  k_fill
  refine L2.walk_of (l := PySem.Challenge.rw_LID) (n := 63) (k := 40) (x := "script") (CX := fun w => ..) (sp := fun _ => My.sp_law) rfl (by decide) rfl ⟨rfl, by decide, by decide⟩ (fun w h Y => PySem.W.kIn_of Y) ?F ?S ?C
  case F =>
    intro w mg fa h KX G hmg
    have T : ∃ t, My.Txt (L2.KOf KX) t := by
      dsimp only [L2.KOf]                          -- K must stand as «<heap const> w.params» for k_is
      refine' My.txt_mk ?e1 ?e2 ?e3 ..
      (case e1 => PySem.W.k_is)                    -- in the order: a name -> its address -> its object -> its parts
      (case e2 => PySem.W.k_is)
      ..
    obtain ⟨t, T⟩ := T
    have e0 := hmg.symm.trans (PySem.W.mg_of KX G T.law)
    cases e0                                       -- fa is the law's own address
    exact ⟨_, fun s u => .of_eq rfl, fun base kb nb => My.law_fn T kb nb⟩     -- if «.of_eq rfl» comes too early: refine' ⟨_, ?b, fun base kb nb => My.law_fn T kb nb⟩; exact fun s u => .of_eq rfl
  case S => exact fun w H a ns hl hO hS => ..
  case C => exact ..
(the tactic k_is has no namespace: write k_is) -/

/-! SHORT WORDS over the layer: a def of the text, its body, what a loop and a test want. -/
namespace L2
open PySem PySem.Spec PyProof.Rows

/-! ### the text by places -/
/-- the j-th statement of a class's body -/
def inClass (s : Stmt) (j : Nat) : Stmt := match s with
  | .ClassDef _ _ _ body _ _ _ _ _ _ _ => body.getD j (.Pass ⟨0, 0, 0, 0⟩)
  | _ => .Pass ⟨0, 0, 0, 0⟩
def defArgs (s : Stmt) : Arguments := match s with
  | .FunctionDef _ a _ _ _ _ _ _ _ _ => a
  | _ => { posonlyargs := [], args := [], vararg := none, kwonlyargs := [], kw_defaults := [], kwarg := none, defaults := [] }
def defBody (s : Stmt) : List Stmt := match s with
  | .FunctionDef _ _ b _ _ _ _ _ _ _ => b
  | _ => []
def defScope (s : Stmt) : Scope := match s with
  | .FunctionDef _ _ _ _ _ _ sc _ _ _ => sc
  | _ => { kind := .function, names := [], isGenerator := false, isCoroutine := false }

/-! ### no exception leaves a def -/
abbrev CX0 : CXT := fun _ _ _ _ _ _ => False
abbrev E0 : XK := fun _ _ _ => False
theorem pass0 {X : Cx} : Passes CX0 X E0 := fun _ _ _ _ _ _ _ h => h.elim

/-! ### a def (or method) of the text as it stands behind the top -/
structure Fun (K : PySem.W.Frag) (x qual : Str) (st : Stmt) (f : Addr) (fd : FuncData) : Prop where
  ex : ∃ (oc : Value) (od : Option Addr) (kV doc pm : Value) (an : Option Addr) (cdv ct : Value) (osl : Array (Option Value)),
    fd = PySem.W.fnOf x qual (defArgs st) (defBody st) (defScope st) .none kV doc pm an cdv ct ∧ K.lookup f = some ⟨oc, od, .func fd, osl⟩ ∧ PySem.W.codeIn K cdv qual = true
  kp : PySem.W.keepIn K (.ref f) = true
section
variable {P : Program} {w : World} {K : PySem.W.Frag} {mg : Str → Option Value} {base : Heap}
/-- THE RULE for a def: its body as a term of rules, and the reading of that term -/
theorem Fun.ok {x qual : Str} {st : Stmt} {f : Addr} {fd : FuncData} {N ps : List Str} {k : Nat} {sp : Sp} (F : Fun K x qual st f fd) (S : FnScope N ps (defScope st)) (len : ∀ vs H Q E, sp vs H Q E → vs.length = ps.length)
    (hbody : ∀ (cdv : Value) (A : Around) (outer : List Env) (s : Shared) (H : Hp) (vs : List V) (Q : VK) (E : XK), Room k (A.deeper (envOfC qual (defScope st) s.heap.objs.size f cdv)) → sp vs H Q E →
      ∃ t, PSs (cxOf CX0 P w K mg base N qual (defScope st) f cdv A outer s H E).nox (defBody st) t ∧ t { nx := fun _ H' => Q .non H', rt := Q } (start N vs) H) : FnOk P w K mg base CX0 (k + 1) f fd ps sp := by
  obtain ⟨oc, od, kV, doc, pm, an, cdv, ct, osl, rfl, lk, hcd⟩ := F.ex
  refine fn_of lk hcd S len fun A outer s H vs Q E hr hsp => ?_
  obtain ⟨t, h, q⟩ := hbody cdv A outer s H vs Q E hr hsp
  exact ⟨t, h.nox, q⟩
/-- how its arguments bind (no defaults): h is «fun _ _ _ _ _ _ us hl => match us, hl with | [_, _], _ => rfl», one _ a parameter -/
theorem Fun.binds {x qual : Str} {st : Stmt} {f : Addr} {fd : FuncData} {ps : List Str} (F : Fun K x qual st f fd)
    (h : ∀ (kV doc pm : Value) (an : Option Addr) (cdv ct : Value) (us : List Value), us.length = ps.length → bindArgs (PySem.W.fnOf x qual (defArgs st) (defBody st) (defScope st) .none kV doc pm an cdv ct) ⟨us, []⟩ = pure (ps.zip us)) : Binds K fd ps [] := by
  obtain ⟨oc, od, kV, doc, pm, an, cdv, ct, osl, rfl, lk, hcd⟩ := F.ex
  exact .all (h kV doc pm an cdv ct)
theorem fun_mk {x qual : Str} {st : Stmt} {f : Addr} {oc : Value} {od an : Option Addr} {osl : Array (Option Value)} {kV doc pm cdv ct : Value} (l : K.lookup f = some ⟨oc, od, .func (PySem.W.fnOf x qual (defArgs st) (defBody st) (defScope st) .none kV doc pm an cdv ct), osl⟩)
    (c : PySem.W.codeIn K cdv qual = true) (k : PySem.W.keepIn K (.ref f) = true) : Fun K x qual st f (PySem.W.fnOf x qual (defArgs st) (defBody st) (defScope st) .none kV doc pm an cdv ct) := ⟨⟨oc, od, kV, doc, pm, an, cdv, ct, osl, rfl, l, c⟩, k⟩
end
theorem hu_of {A : Around} {k : Nat} (hr : Room k A) : A.units + 1 < cLine := Nat.lt_of_le_of_lt (Nat.add_le_add_left (by decide : 1 ≤ 64) _) hr.units
theorem small1000 {n : Nat} (h : n ≤ 1000) : n < sizeLine := Nat.lt_of_le_of_lt h (by decide)

/-! ### expressions in short: the name that stands in the i-th slot -/
section
variable {X : Cx}
theorem pv (i : Nat) {x : Str} {pos : Pos} (hN : X.N[i]? = some x := by rfl) (hv : Vis X.env.scope x := by first | exact Or.inl rfl | exact Or.inr (Or.inl rfl) | exact Or.inr (Or.inr rfl)) (hd : (x == ("__debug__" : Str)) = false := by decide)
    (hcd : (x == ("__classdict__" : Str)) = false := by decide) : PE X (.Name x pos) (tVar i) := pe_var hN hv hd hcd
end

/-! ### tests -/
theorem iteF {A B : Prop} (h : B) : if false = true then A else B := by
  rw [if_neg Bool.false_ne_true]
  exact h
theorem iteT {A B : Prop} (h : A) : if true = true then A else B := by
  rw [if_pos rfl]
  exact h
theorem ite2 {c A B : Prop} [Decidable c] (h1 : c → A) (h2 : ¬ c → B) : if c then A else B := by
  by_cases h : c
  · rw [if_pos h]
    exact h1 h
  · rw [if_neg h]
    exact h2 h
theorem iteNS {c A B : Prop} [Decidable c] (hc : c) (h : B) : if (!decide c) = true then A else B := by
  rw [decide_eq_true hc]
  exact iteF h

/-! ### heaps -/
/-- all that was tracked is as it was -/
def Same (H H' : Hp) : Prop := ∀ b o, H b = some o → H' b = some o
theorem Same.refl (H : Hp) : Same H H := fun _ _ h => h
theorem Same.trans {H H1 H2 : Hp} (a : Same H H1) (b : Same H1 H2) : Same H H2 := fun c o h => b c o (a c o h)
theorem Same.free {H H' : Hp} (e : Same H H') {l : Addr} (h : H' l = Option.none) : H l = Option.none := by
  cases q : H l with
  | none => rfl
  | some o =>
    rw [e l o q] at h
    cases h
theorem Same.seq {K : PySem.W.Frag} {H H' : Hp} {a : Addr} {xs : List V} (e : Same H H') (h : SqL K H a xs) : SqL K H' a xs := by
  rcases h with (h | ⟨o, h⟩) | h
  · exact .inl (.inl (e _ _ h))
  · exact .inl (.inr ⟨o, e _ _ h⟩)
  · exact .inr h

end L2

set_option maxHeartbeats 4000000
/-! ## NETS: neighbours, distances -/
namespace Net
def at0 (s : List Int) (i : Nat) : Int := s.getD i 0
theorem at0_set {s : List Int} {h i : Nat} {x : Int} (hh : h < s.length) : at0 (s.set h x) i = if i = h then x else at0 s i := by
  unfold at0
  rw [List.getD_eq_getElem?_getD, List.getD_eq_getElem?_getD, List.getElem?_set]
  by_cases e : h = i
  · subst e; simp [hh]
  · have e' : ¬ i = h := fun z => e z.symm
    simp [e, e']
theorem ext0 {s u : List Int} (hl : s.length = u.length) (h : ∀ i, i < s.length → at0 s i = at0 u i) : s = u := by
  refine List.ext_getElem hl fun i a b => ?_
  have := h i a
  unfold at0 at this
  rw [List.getD_eq_getElem?_getD, List.getD_eq_getElem?_getD, List.getElem?_eq_getElem a, List.getElem?_eq_getElem b] at this
  exact this
abbrev Edges := List (Nat × Nat)
def adj (E : Edges) (i j : Nat) : Bool := E.any fun e => (e.1 == i && e.2 == j) || (e.1 == j && e.2 == i)
theorem adj_iff {E : Edges} {i j : Nat} : adj E i j = true ↔ (i, j) ∈ E ∨ (j, i) ∈ E := by
  unfold adj
  rw [List.any_eq_true]
  constructor
  · rintro ⟨⟨a, b⟩, he, h⟩
    simp only [Bool.or_eq_true, Bool.and_eq_true, beq_iff_eq] at h
    rcases h with ⟨rfl, rfl⟩ | ⟨rfl, rfl⟩
    · exact .inl he
    · exact .inr he
  · rintro (h | h)
    · exact ⟨_, h, by simp⟩
    · exact ⟨_, h, by simp⟩
theorem adj_comm (E : Edges) (i j : Nat) : adj E i j = adj E j i := by
  rw [Bool.eq_iff_iff, adj_iff, adj_iff]; exact Or.comm
def Valid (n : Nat) (E : Edges) : Prop := ∀ e ∈ E, e.1 < e.2 ∧ e.2 < n
theorem Valid.adj {n : Nat} {E : Edges} (v : Valid n E) {i j : Nat} (h : adj E i j = true) : i < n ∧ j < n ∧ i ≠ j := by
  rcases adj_iff.mp h with h | h
  · have a := (v _ h).1; have b := (v _ h).2
    simp only at a b
    omega
  · have a := (v _ h).1; have b := (v _ h).2
    simp only at a b
    omega
/-- the neighbours, rising -/
def nb (n : Nat) (E : Edges) (h : Nat) : List Nat := (List.range n).filter (adj E h)
theorem mem_nb {n : Nat} {E : Edges} {h j : Nat} : j ∈ nb n E h ↔ j < n ∧ adj E h j = true := by
  unfold nb; rw [List.mem_filter, List.mem_range]
theorem mem_nb' {n : Nat} {E : Edges} (v : Valid n E) {h j : Nat} : j ∈ nb n E h ↔ adj E h j = true := by
  rw [mem_nb]; exact ⟨fun z => z.2, fun z => ⟨(v.adj z).2.1, z⟩⟩
theorem nb_lt {n : Nat} {E : Edges} {h j : Nat} (m : j ∈ nb n E h) : j < n := (mem_nb.mp m).1
theorem nb_nodup (n : Nat) (E : Edges) (h : Nat) : (nb n E h).Nodup := (List.nodup_range (n := n)).filter _
theorem nb_len (n : Nat) (E : Edges) (h : Nat) : (nb n E h).length ≤ n := by
  unfold nb; exact Nat.le_trans (List.length_filter_le _ _) (by rw [List.length_range]; exact Nat.le_refl _)

/-! ### the least of some -/
def least (m : Int) (xs : List Int) : Int := xs.foldl min m
theorem least_le {xs : List Int} : ∀ {m : Int}, least m xs ≤ m ∧ ∀ x ∈ xs, least m xs ≤ x := by
  induction xs with
  | nil => intro m; exact ⟨Int.le_refl _, fun x h => nomatch h⟩
  | cons a r ih =>
    intro m
    have h := @ih (min m a)
    have e : least m (a :: r) = least (min m a) r := rfl
    rw [e]
    refine ⟨by omega, fun x hx => ?_⟩
    rcases List.mem_cons.mp hx with rfl | hx
    · omega
    · exact h.2 x hx
theorem least_or {xs : List Int} : ∀ {m : Int}, least m xs = m ∨ least m xs ∈ xs := by
  induction xs with
  | nil => intro m; exact .inl rfl
  | cons a r ih =>
    intro m
    have e : least m (a :: r) = least (min m a) r := rfl
    rw [e]
    rcases @ih (min m a) with h | h
    · rw [h]
      by_cases z : m ≤ a
      · left; omega
      · right; have : min m a = a := by omega
        rw [this]; exact List.mem_cons_self
    · exact .inr (List.mem_cons_of_mem _ h)
theorem least_eq {m x : Int} {xs : List Int} (h1 : x ≤ m) (h2 : ∀ y ∈ xs, x ≤ y) (h3 : x = m ∨ x ∈ xs) : least m xs = x := by
  have a := @least_le xs m
  rcases @least_or xs m with h | h
  · rcases h3 with h3 | h3
    · omega
    · have := a.2 x h3; omega
  · have b := h2 _ h
    rcases h3 with h3 | h3
    · omega
    · have := a.2 x h3; omega

/-! ### the right number -/
def due (n : Nat) (E : Edges) (f : List Int) (h : Nat) : Int := if h = 0 then 0 else least n ((nb n E h).map fun j => 1 + at0 f j)
theorem due0 (n : Nat) (E : Edges) (f : List Int) : due n E f 0 = 0 := rfl
theorem due_le {n : Nat} {E : Edges} {f : List Int} {h : Nat} : due n E f h ≤ n := by
  unfold due; split
  · omega
  · exact least_le.1
theorem due_nb {n : Nat} {E : Edges} {f : List Int} {h j : Nat} (h0 : h ≠ 0) (m : j ∈ nb n E h) : due n E f h ≤ 1 + at0 f j := by
  unfold due; rw [if_neg h0]; exact least_le.2 _ (List.mem_map.mpr ⟨j, m, rfl⟩)
theorem due_or {n : Nat} {E : Edges} {f : List Int} {h : Nat} (h0 : h ≠ 0) : due n E f h = n ∨ ∃ j ∈ nb n E h, due n E f h = 1 + at0 f j := by
  unfold due; rw [if_neg h0]
  rcases @least_or ((nb n E h).map fun j => 1 + at0 f j) n with e | e
  · exact .inl e
  · obtain ⟨j, m, e⟩ := List.mem_map.mp e
    exact .inr ⟨j, m, e.symm⟩
theorem due_nn {n : Nat} {E : Edges} {f : List Int} {h : Nat} (nn : ∀ j, j < n → 0 ≤ at0 f j) : 0 ≤ due n E f h := by
  by_cases h0 : h = 0
  · subst h0; exact Int.le_refl _
  · rcases due_or (n := n) (E := E) (f := f) h0 with e | ⟨j, m, e⟩
    · omega
    · have := nn j (nb_lt m); omega
theorem due_at {n : Nat} {E : Edges} {f : List Int} {h : Nat} {x : Int} (h0 : h ≠ 0) (h1 : x ≤ n) (h2 : ∀ j ∈ nb n E h, x ≤ 1 + at0 f j) (h3 : x = n ∨ ∃ j ∈ nb n E h, x = 1 + at0 f j) : due n E f h = x := by
  unfold due; rw [if_neg h0]
  refine least_eq h1 (fun y hy => ?_) ?_
  · obtain ⟨j, m, rfl⟩ := List.mem_map.mp hy
    exact h2 j m
  · rcases h3 with h3 | ⟨j, m, e⟩
    · exact .inl h3
    · exact .inr (List.mem_map.mpr ⟨j, m, e.symm⟩)
def mend (n : Nat) (E : Edges) (f : List Int) (h : Nat) : List Int := f.set h (due n E f h)
theorem mend_len (n : Nat) (E : Edges) (f : List Int) (h : Nat) : (mend n E f h).length = f.length := by unfold mend; simp
theorem at0_mend {n : Nat} {E : Edges} {f : List Int} {h i : Nat} (hh : h < f.length) : at0 (mend n E f h) i = if i = h then due n E f h else at0 f i := at0_set hh
def round (n : Nat) (E : Edges) (f : List Int) (order : List Nat) : List Int := order.foldl (mend n E) f
theorem round_len (n : Nat) (E : Edges) : ∀ (order : List Nat) (f : List Int), (round n E f order).length = f.length
  | [], _ => rfl
  | h :: r, f => by
    show (round n E (mend n E f h) r).length = _
    rw [round_len n E r, mend_len]
/-- wrong hands -/
def wrong (n : Nat) (E : Edges) (f : List Int) : List Nat := (List.range n).filter fun h => at0 f h != due n E f h
theorem wrong_nil {n : Nat} {E : Edges} {f : List Int} : wrong n E f = [] ↔ ∀ h, h < n → due n E f h = at0 f h := by
  unfold wrong
  rw [List.filter_eq_nil_iff]
  constructor
  · intro h i hi
    have := h i (List.mem_range.mpr hi)
    simp at this
    exact this.symm
  · intro h i hi
    have := h i (List.mem_range.mp hi)
    simp [this]

/-! ### distances -/
structure Dist (n : Nat) (E : Edges) (d : List Int) : Prop where
  len : d.length = n
  fix : ∀ h, h < n → due n E d h = at0 d h
theorem Dist.le {n : Nat} {E : Edges} {d : List Int} (D : Dist n E d) {h : Nat} (hh : h < n) : at0 d h ≤ n := by rw [← D.fix h hh]; exact due_le
theorem Dist.zero {n : Nat} {E : Edges} {d : List Int} (D : Dist n E d) (hn : 0 < n) : at0 d 0 = 0 := by rw [← D.fix 0 hn, due0]
theorem Dist.step {n : Nat} {E : Edges} {d : List Int} (D : Dist n E d) {h j : Nat} (hh : h < n) (m : j ∈ nb n E h) (nn : 0 ≤ at0 d j) : at0 d h ≤ 1 + at0 d j := by
  by_cases h0 : h = 0
  · rw [h0, D.zero (by omega)]; omega
  · rw [← D.fix h hh]; exact due_nb h0 m
def Inv (n : Nat) (d f : List Int) (k : Nat) : Prop := ∀ h, h < n → (at0 d h < k → at0 f h = at0 d h) ∧ ((k : Int) ≤ at0 d h → (k : Int) ≤ at0 f h)
theorem Inv.low {n : Nat} {d f : List Int} {k : Nat} (I : Inv n d f k) {h : Nat} (hh : h < n) : at0 d h < k ∧ at0 f h = at0 d h ∨ (k : Int) ≤ at0 d h ∧ (k : Int) ≤ at0 f h := by
  by_cases z : at0 d h < k
  · exact .inl ⟨z, (I h hh).1 z⟩
  · exact .inr ⟨by omega, (I h hh).2 (by omega)⟩
/-- one hand made right, in the midst of a round -/
theorem due_inv {n : Nat} {E : Edges} {d f : List Int} {k h : Nat} (D : Dist n E d) (dn : ∀ j, j < n → 0 ≤ at0 d j) (I : Inv n d f k) (hh : h < n) :
    (at0 d h < ((k + 1 : Nat) : Int) → due n E f h = at0 d h) ∧ (((k + 1 : Nat) : Int) ≤ at0 d h → ((k + 1 : Nat) : Int) ≤ due n E f h) := by
  by_cases h0 : h = 0
  · subst h0
    rw [due0, D.zero hh]
    exact ⟨fun _ => rfl, fun z => by omega⟩
  · have up : ∀ j ∈ nb n E h, at0 d h ≤ 1 + at0 d j := fun j m => D.step hh m (dn j (nb_lt m))
    have le := D.le hh
    constructor
    · intro z
      refine due_at h0 le (fun j m => ?_) ?_
      · have u := up j m
        rcases I.low (nb_lt m) with ⟨_, e⟩ | ⟨_, e⟩ <;> omega
      · have f := D.fix h hh
        rcases due_or (n := n) (E := E) (f := d) h0 with e | ⟨j, m, e⟩
        · left; omega
        · right
          refine ⟨j, m, ?_⟩
          have := (I j (nb_lt m)).1 (by omega)
          omega
    · intro z
      rcases due_or (n := n) (E := E) (f := f) h0 with e | ⟨j, m, e⟩
      · omega
      · have u := up j m
        have := (I j (nb_lt m)).2 (by omega)
        omega
theorem round_go {n : Nat} {E : Edges} {d : List Int} {k : Nat} (D : Dist n E d) (dn : ∀ j, j < n → 0 ≤ at0 d j) : ∀ (order : List Nat) (f : List Int) (done : Nat → Prop), f.length = n → (∀ h ∈ order, h < n) → Inv n d f k →
    (∀ h, h < n → done h → (at0 d h < ((k + 1 : Nat) : Int) → at0 f h = at0 d h) ∧ (((k + 1 : Nat) : Int) ≤ at0 d h → ((k + 1 : Nat) : Int) ≤ at0 f h)) →
    ∀ h, h < n → (done h ∨ h ∈ order) → (at0 d h < ((k + 1 : Nat) : Int) → at0 (round n E f order) h = at0 d h) ∧ (((k + 1 : Nat) : Int) ≤ at0 d h → ((k + 1 : Nat) : Int) ≤ at0 (round n E f order) h)
  | [], f, done, hl, _, I, hd, h, hh, q => by
    rcases q with q | q
    · exact hd h hh q
    · exact nomatch q
  | x :: r, f, done, hl, ho, I, hd, h, hh, q => by
    have hx : x < n := ho x List.mem_cons_self
    have hxf : x < f.length := by omega
    have U := due_inv D dn I hx
    refine round_go D dn r (mend n E f x) (fun y => done y ∨ y = x) (by rw [mend_len]; exact hl) (fun y hy => ho y (List.mem_cons_of_mem _ hy)) (fun y hy => ?_) (fun y hy z => ?_) h hh ?_
    · rw [at0_mend hxf]
      by_cases e : y = x
      · subst e
        rw [if_pos rfl]
        refine ⟨fun z => U.1 (by omega), fun z => ?_⟩
        by_cases w : at0 d y < ((k + 1 : Nat) : Int)
        · have := U.1 w; omega
        · have := U.2 (by omega); omega
      · rw [if_neg e]; exact I y hy
    · rw [at0_mend hxf]
      by_cases e : y = x
      · subst e; rw [if_pos rfl]; exact U
      · rw [if_neg e]
        rcases z with z | z
        · exact hd y hy z
        · exact absurd z e
    · rcases q with q | q
      · exact .inl (.inl q)
      · rcases List.mem_cons.mp q with q | q
        · exact .inl (.inr q)
        · exact .inr q
theorem Inv.round {n : Nat} {E : Edges} {d f : List Int} {k : Nat} {order : List Nat} (D : Dist n E d) (dn : ∀ j, j < n → 0 ≤ at0 d j) (hl : f.length = n) (ho : ∀ h, h ∈ order ↔ h < n) (I : Inv n d f k) : Inv n d (Net.round n E f order) (k + 1) := fun h hh =>
  round_go D dn order f (fun _ => False) hl (fun x hx => (ho x).mp hx) I (fun _ _ z => z.elim) h hh (.inr ((ho h).mpr hh))
/-- numbers stay within 0 .. n -/
def InR (n : Nat) (f : List Int) : Prop := ∀ h, h < n → 0 ≤ at0 f h ∧ at0 f h ≤ n
theorem InR.mend {n : Nat} {E : Edges} {f : List Int} {x : Nat} (hl : f.length = n) (hx : x < n) (r : InR n f) : InR n (Net.mend n E f x) := fun h hh => by
  rw [at0_mend (by omega)]
  split
  · exact ⟨due_nn fun j hj => (r j hj).1, due_le⟩
  · exact r h hh
theorem InR.round {n : Nat} {E : Edges} : ∀ {order : List Nat} {f : List Int}, f.length = n → (∀ h ∈ order, h < n) → InR n f → InR n (Net.round n E f order)
  | [], _, _, _, r => r
  | x :: o, f, hl, ho, r => InR.round (order := o) (f := Net.mend n E f x) (by rw [mend_len]; exact hl) (fun y hy => ho y (List.mem_cons_of_mem _ hy)) (r.mend hl (ho x List.mem_cons_self))
theorem Inv.zero {n : Nat} {d f : List Int} (dn : ∀ j, j < n → 0 ≤ at0 d j) (r : InR n f) : Inv n d f 0 := fun h hh => ⟨fun z => by
  have := dn h hh
  omega, fun _ => (r h hh).1⟩
theorem Inv.last {n : Nat} {E : Edges} {d f : List Int} (D : Dist n E d) (hl : f.length = n) (r : InR n f) (I : Inv n d f n) : f = d := by
  refine ext0 (by rw [hl, D.len]) fun h hh => ?_
  have hh' : h < n := by omega
  have a := (r h hh').2
  have b := D.le hh'
  rcases I.low hh' with ⟨_, e⟩ | ⟨e1, e2⟩
  · exact e
  · omega
/-- rounds, one order after the other -/
def rounds (n : Nat) (E : Edges) (f : List Int) (orders : List (List Nat)) : List Int := orders.foldl (Net.round n E) f
/-- numbers that are right everywhere stay -/
theorem mend_fix {n : Nat} {E : Edges} {f : List Int} {x : Nat} (hx : x < f.length) (e : due n E f x = at0 f x) : mend n E f x = f := by
  refine ext0 (mend_len ..) fun i _ => ?_
  rw [at0_mend hx]
  by_cases z : i = x
  · rw [if_pos z, z]; exact e
  · rw [if_neg z]
theorem round_fix {n : Nat} {E : Edges} {f : List Int} (hl : f.length = n) (e : ∀ h, h < n → due n E f h = at0 f h) : ∀ {order : List Nat}, (∀ h ∈ order, h < n) → Net.round n E f order = f
  | [], _ => rfl
  | x :: r, ho => by
    show Net.round n E (mend n E f x) r = f
    rw [mend_fix (by have := ho x List.mem_cons_self; omega) (e x (ho x List.mem_cons_self))]
    exact round_fix hl e fun y hy => ho y (List.mem_cons_of_mem _ hy)
/-- only distances are right everywhere -/
theorem Dist.only {n : Nat} {E : Edges} {d f : List Int} (D : Dist n E d) (dn : ∀ j, j < n → 0 ≤ at0 d j) (hl : f.length = n) (r : InR n f) (e : ∀ h, h < n → due n E f h = at0 f h) : f = d := by
  have all : ∀ k : Nat, Inv n d f k := fun k => by
    induction k with
    | zero => exact Inv.zero dn r
    | succ k ih =>
      have := Inv.round (order := List.range n) D dn hl (fun h => List.mem_range) ih
      rw [round_fix hl e fun h hh => List.mem_range.mp hh] at this
      exact this
  exact (all n).last D hl r

/-! ### there are distances -/
def reach (n : Nat) (E : Edges) : Nat → Nat → Bool
  | 0, h => h == 0
  | k + 1, h => reach n E k h || (nb n E h).any fun j => reach n E k j
theorem reach_succ {n : Nat} {E : Edges} {k h : Nat} (r : reach n E k h = true) : reach n E (k + 1) h = true := by
  show (reach n E k h || _) = true
  rw [r]; rfl
theorem reach_mono {n : Nat} {E : Edges} {j h : Nat} (r : reach n E j h = true) : ∀ {k : Nat}, j ≤ k → reach n E k h = true := fun {k} hk => by
  induction k with
  | zero => have : j = 0 := by omega
            rw [this] at r; exact r
  | succ k ih =>
    by_cases e : j = k + 1
    · rw [e] at r; exact r
    · exact reach_succ (ih (by omega))
theorem reach_nb {n : Nat} {E : Edges} {k h j : Nat} (m : j ∈ nb n E h) (r : reach n E k j = true) : reach n E (k + 1) h = true := by
  show (reach n E k h || (nb n E h).any fun j => reach n E k j) = true
  rw [List.any_eq_true.mpr ⟨j, m, r⟩, Bool.or_true]
theorem reach_from {n : Nat} {E : Edges} {k h : Nat} (r : reach n E (k + 1) h = true) (no : reach n E k h = false) : ∃ j ∈ nb n E h, reach n E k j = true := by
  have r' : (reach n E k h || (nb n E h).any fun j => reach n E k j) = true := r
  rw [no, Bool.false_or, List.any_eq_true] at r'
  exact r'
/-- the first turn below b at which p holds, else b -/
def first (p : Nat → Bool) : Nat → Nat → Nat
  | 0, a => a
  | b + 1, a => if p a = true then a else first p b (a + 1)
theorem first_spec {p : Nat → Bool} : ∀ {b a : Nat}, a ≤ first p b a ∧ first p b a ≤ a + b ∧ (first p b a < a + b → p (first p b a) = true) ∧ ∀ i, a ≤ i → i < first p b a → p i = false
  | 0, a => ⟨Nat.le_refl _, Nat.le_refl _, fun h => absurd h (Nat.lt_irrefl _), fun i h1 h2 => absurd (Nat.lt_of_le_of_lt h1 h2) (Nat.lt_irrefl _)⟩
  | b + 1, a => by
    by_cases h : p a = true
    · have e : first p (b + 1) a = a := if_pos h
      rw [e]
      exact ⟨Nat.le_refl _, by omega, fun _ => h, fun i h1 h2 => by omega⟩
    · have e : first p (b + 1) a = first p b (a + 1) := if_neg h
      rw [e]
      obtain ⟨q1, q2, q3, q4⟩ := @first_spec p b (a + 1)
      refine ⟨by omega, by omega, fun z => q3 (by omega), fun i h1 h2 => ?_⟩
      by_cases z : i = a
      · rw [z]; exact Bool.eq_false_iff.mpr h
      · exact q4 i (by omega) h2
def dst (n : Nat) (E : Edges) (h : Nat) : Nat := first (fun k => reach n E k h) n 0
theorem dst_le (n : Nat) (E : Edges) (h : Nat) : dst n E h ≤ n := by have := (@first_spec (fun k => reach n E k h) n 0).2.1; unfold dst; omega
theorem dst_reach {n : Nat} {E : Edges} {h : Nat} (z : dst n E h < n) : reach n E (dst n E h) h = true := (@first_spec (fun k => reach n E k h) n 0).2.2.1 (by show dst n E h < 0 + n; omega)
theorem dst_min {n : Nat} {E : Edges} {h k : Nat} (r : reach n E k h = true) : dst n E h ≤ k := by
  refine Nat.le_of_not_lt fun z => ?_
  have q := (@first_spec (fun k => reach n E k h) n 0).2.2.2 k (Nat.zero_le _) z
  rw [show reach n E k h = false from q] at r
  cases r
theorem dst_zero {n : Nat} {E : Edges} : dst n E 0 = 0 := Nat.le_zero.mp (dst_min (n := n) (E := E) (k := 0) (by simp [reach]))
theorem dst_step {n : Nat} {E : Edges} {h j : Nat} (m : j ∈ nb n E h) : dst n E h ≤ 1 + dst n E j := by
  by_cases z : dst n E j < n
  · have := dst_min (reach_nb m (dst_reach z)); omega
  · have := dst_le n E h; omega
theorem dst_from {n : Nat} {E : Edges} {h : Nat} (h0 : h ≠ 0) (z : dst n E h < n) : ∃ j ∈ nb n E h, dst n E h = 1 + dst n E j := by
  have r := dst_reach z
  have k0 : dst n E h ≠ 0 := fun e => by
    rw [e] at r
    have : (h == 0) = true := r
    exact h0 (eq_of_beq this)
  obtain ⟨k, hk⟩ : ∃ k, dst n E h = k + 1 := ⟨dst n E h - 1, by omega⟩
  rw [hk] at r
  have no : reach n E k h = false := by
    refine Bool.eq_false_iff.mpr fun q => ?_
    have := dst_min q; omega
  obtain ⟨j, m, q⟩ := reach_from r no
  refine ⟨j, m, ?_⟩
  have a := dst_min q
  have b := dst_step m
  omega
def dist (n : Nat) (E : Edges) : List Int := (List.range n).map fun h => (dst n E h : Int)
theorem dist_len (n : Nat) (E : Edges) : (dist n E).length = n := by unfold dist; simp
theorem at0_dist {n : Nat} {E : Edges} {h : Nat} (hh : h < n) : at0 (dist n E) h = (dst n E h : Int) := by
  unfold at0 dist
  rw [List.getD_eq_getElem?_getD, List.getElem?_map, List.getElem?_range hh] <;> rfl
theorem dist_nn {n : Nat} {E : Edges} : ∀ j, j < n → 0 ≤ at0 (dist n E) j := fun j hj => by rw [at0_dist hj]; omega
theorem dist_in {n : Nat} {E : Edges} : InR n (dist n E) := fun h hh => by
  rw [at0_dist hh]
  have := dst_le n E h
  omega
theorem dist_is (n : Nat) (E : Edges) : Dist n E (dist n E) := by
  refine ⟨dist_len n E, fun h hh => ?_⟩
  rw [at0_dist hh]
  by_cases h0 : h = 0
  · subst h0; rw [due0, dst_zero] <;> rfl
  · refine due_at h0 (by have := dst_le n E h; omega) (fun j m => ?_) ?_
    · rw [at0_dist (nb_lt m)]
      have := dst_step m
      omega
    · by_cases z : dst n E h < n
      · obtain ⟨j, m, e⟩ := dst_from h0 z
        exact .inr ⟨j, m, by rw [at0_dist (nb_lt m)]; omega⟩
      · left
        have := dst_le n E h
        omega

/-! ### the distances along the edges, again and again -/
def relax (g : List Int) (e : Nat × Nat) : List Int :=
  let g1 := g.set e.1 (min (at0 g e.1) (at0 g e.2 + 1))
  g1.set e.2 (min (at0 g1 e.2) (at0 g1 e.1 + 1))
theorem relax_len (g : List Int) (e : Nat × Nat) : (relax g e).length = g.length := by unfold relax; simp
/-- what holds between: never below the distance, and right up to t -/
structure Rel (n : Nat) (E : Edges) (g : List Int) (t : Nat) : Prop where
  len : g.length = n
  low : ∀ h, h < n → (dst n E h : Int) ≤ at0 g h
  top : ∀ h, h < n → at0 g h ≤ n
  ok : ∀ h, h < n → dst n E h ≤ t → at0 g h = dst n E h
theorem relax_at {g : List Int} {a b : Nat} (ha : a < g.length) (hb : b < g.length) (hab : a ≠ b) (i : Nat) :
    at0 (relax g (a, b)) i = if i = b then min (at0 g b) (min (at0 g a) (at0 g b + 1) + 1) else if i = a then min (at0 g a) (at0 g b + 1) else at0 g i := by
  unfold relax
  simp only
  rw [at0_set (by simpa using hb), at0_set ha, at0_set ha, at0_set ha]
  rw [if_neg (Ne.symm hab), if_pos rfl]
theorem mem_adj {E : Edges} {a b : Nat} (h : (a, b) ∈ E) : adj E a b = true := adj_iff.mpr (.inl h)
theorem Rel.relax {n : Nat} {E : Edges} {g : List Int} {t : Nat} (v : Valid n E) (R : Rel n E g t) {e : Nat × Nat} (he : e ∈ E) : Rel n E (Net.relax g e) t := by
  obtain ⟨a, b⟩ := e
  have A := mem_adj he
  obtain ⟨ha, hb, hab⟩ := v.adj A
  have m1 : b ∈ nb n E a := (mem_nb' v).mpr A
  have m2 : a ∈ nb n E b := (mem_nb' v).mpr (by rw [adj_comm]; exact A)
  have s1 := dst_step m1
  have s2 := dst_step m2
  have ia := R.low a ha
  have ib := R.low b hb
  have ta := R.top a ha
  have tb := R.top b hb
  have oa := R.ok a ha
  have ob := R.ok b hb
  have at_ := relax_at (g := g) (by rw [R.len]; exact ha) (by rw [R.len]; exact hb) hab
  refine ⟨by rw [relax_len]; exact R.len, fun h hh => ?_, fun h hh => ?_, fun h hh z => ?_⟩
  · rw [at_]
    by_cases e1 : h = b
    · rw [if_pos e1, e1]; omega
    · rw [if_neg e1]
      by_cases e2 : h = a
      · rw [if_pos e2, e2]; omega
      · rw [if_neg e2]; exact R.low h hh
  · rw [at_]
    by_cases e1 : h = b
    · rw [if_pos e1]; omega
    · rw [if_neg e1]
      by_cases e2 : h = a
      · rw [if_pos e2]; omega
      · rw [if_neg e2]; exact R.top h hh
  · rw [at_]
    by_cases e1 : h = b
    · rw [if_pos e1]; rw [e1] at z ⊢; have := ob z; omega
    · rw [if_neg e1]
      by_cases e2 : h = a
      · rw [if_pos e2]; rw [e2] at z ⊢; have := oa z; omega
      · rw [if_neg e2]; exact R.ok h hh z
/-- one turn over a part of the edges: the ends of those that were taken are right up to t + 1, where the other end gives it -/
theorem relax_all {n : Nat} {E : Edges} (v : Valid n E) {t : Nat} : ∀ (es : Edges) (g : List Int), (∀ e ∈ es, e ∈ E) → Rel n E g t →
    Rel n E (es.foldl Net.relax g) t ∧ (∀ h, h < n → at0 (es.foldl Net.relax g) h ≤ at0 g h) ∧ ∀ e ∈ es, ∀ h j, (e = (h, j) ∨ e = (j, h)) → dst n E j ≤ t → at0 (es.foldl Net.relax g) h ≤ dst n E j + 1
  | [], g, _, R => ⟨R, fun _ _ => Int.le_refl _, fun e he => nomatch he⟩
  | (a, b) :: r, g, hs, R => by
    have he := hs (a, b) List.mem_cons_self
    have R1 := R.relax v he
    obtain ⟨R2, mono, ends⟩ := relax_all v (t := t) r (Net.relax g (a, b)) (fun e h => hs e (List.mem_cons_of_mem _ h)) R1
    obtain ⟨ha, hb, hab⟩ := v.adj (mem_adj he)
    have at_ := relax_at (g := g) (by rw [R.len]; exact ha) (by rw [R.len]; exact hb) hab
    refine ⟨R2, fun h hh => ?_, fun e he' h j hj z => ?_⟩
    · have m := mono h hh
      rw [at_] at m
      refine Int.le_trans m ?_
      by_cases e1 : h = b
      · rw [if_pos e1, e1]; omega
      · rw [if_neg e1]
        by_cases e2 : h = a
        · rw [if_pos e2, e2]; omega
        · rw [if_neg e2]; exact Int.le_refl _
    · rcases List.mem_cons.mp he' with e' | e'
      · rcases hj with q | q
        · rw [e'] at q; cases q
          have m := mono a ha
          rw [at_, if_neg hab, if_pos rfl] at m
          have := R.ok b hb z
          show at0 (r.foldl Net.relax (Net.relax g (a, b))) a ≤ _
          omega
        · rw [e'] at q; cases q
          have m := mono b hb
          rw [at_, if_pos rfl] at m
          have := R.ok a ha z
          show at0 (r.foldl Net.relax (Net.relax g (a, b))) b ≤ _
          omega
      · exact ends e e' h j hj z
theorem Rel.turn {n : Nat} {E : Edges} {g : List Int} {t : Nat} (v : Valid n E) (R : Rel n E g t) : Rel n E (E.foldl Net.relax g) (t + 1) := by
  obtain ⟨R2, _, ends⟩ := relax_all v E g (fun _ h => h) R
  refine ⟨R2.len, R2.low, R2.top, fun h hh z => ?_⟩
  by_cases w : dst n E h ≤ t
  · exact R2.ok h hh w
  · have e : dst n E h = t + 1 := by omega
    by_cases zn : dst n E h < n
    · have h0 : h ≠ 0 := fun q => by rw [q, dst_zero] at e; omega
      obtain ⟨j, m, ej⟩ := dst_from h0 zn
      have A := (mem_nb.mp m).2
      have lo := R2.low h hh
      rcases adj_iff.mp A with q | q
      · have := ends _ q h j (.inl rfl) (by omega); omega
      · have := ends _ q h j (.inr rfl) (by omega); omega
    · have a := R2.low h hh
      have b := R2.top h hh
      have c := dst_le n E h
      omega
def farTurns (E : Edges) (g : List Int) : Nat → List Int
  | 0 => g
  | t + 1 => E.foldl Net.relax (farTurns E g t)
def far0 (n : Nat) : List Int := 0 :: List.replicate (n - 1) (n : Int)
theorem far0_rel {n : Nat} {E : Edges} (hn : 0 < n) : Rel n E (far0 n) 0 := by
  have at_ : ∀ h, h < n → at0 (far0 n) h = if h = 0 then 0 else (n : Int) := fun h hh => by
    cases h with
    | zero => rfl
    | succ h =>
      unfold at0 far0
      rw [List.getD_eq_getElem?_getD, List.getElem?_cons_succ, List.getElem?_replicate, if_pos (by omega)]
      simp
  refine ⟨by unfold far0; simp; omega, fun h hh => ?_, fun h hh => ?_, fun h hh z => ?_⟩
  · rw [at_ h hh]
    by_cases e : h = 0
    · rw [if_pos e, e, dst_zero]; exact Int.le_refl _
    · rw [if_neg e]; have := dst_le n E h; omega
  · rw [at_ h hh]; split <;> omega
  · rw [at_ h hh]
    by_cases e : h = 0
    · rw [if_pos e, e, dst_zero] <;> rfl
    · exfalso
      by_cases zn : dst n E h < n
      · obtain ⟨j, m, ej⟩ := dst_from e zn
        omega
      · omega
theorem farTurns_rel {n : Nat} {E : Edges} (v : Valid n E) (hn : 0 < n) : ∀ t, Rel n E (farTurns E (far0 n) t) t
  | 0 => far0_rel hn
  | t + 1 => (farTurns_rel v hn t).turn v
theorem farTurns_dist {n : Nat} {E : Edges} (v : Valid n E) (hn : 0 < n) : farTurns E (far0 n) n = dist n E := by
  have R := farTurns_rel v hn n
  refine ext0 (by rw [R.len, dist_len]) fun h hh => ?_
  have hh' : h < n := by rw [R.len] at hh; exact hh
  rw [R.ok h hh' (dst_le n E h), at0_dist hh']
end Net

/-! ## COLOURS AND CROWDS -/
namespace Net
theorem nodup_le : ∀ {l m : List Int}, l.Nodup → (∀ x ∈ l, x ∈ m) → l.length ≤ m.length
  | [], _, _, _ => Nat.zero_le _
  | a :: r, m, nd, h => by
    have ha : a ∈ m := h a List.mem_cons_self
    have nd' := List.nodup_cons.mp nd
    have q := nodup_le (l := r) (m := m.erase a) nd'.2 fun x hx => (List.mem_erase_of_ne (fun e : x = a => nd'.1 (by rw [← e]; exact hx))).mpr (h x (List.mem_cons_of_mem _ hx))
    rw [List.length_erase_of_mem ha] at q
    have : 0 < m.length := List.length_pos_of_mem ha
    rw [List.length_cons]; omega
/-- the least number from 0 on that is not among xs -/
def mex (xs : List Int) : Nat := first (fun k => !(xs.contains (k : Int))) (xs.length + 1) 0
theorem mex_spec (xs : List Int) : mex xs ≤ xs.length ∧ ((mex xs : Nat) : Int) ∉ xs ∧ ∀ k, k < mex xs → (k : Int) ∈ xs := by
  obtain ⟨_, q2, q3, q4⟩ := @first_spec (fun k => !(xs.contains (k : Int))) (xs.length + 1) 0
  have low : ∀ k, k < mex xs → (k : Int) ∈ xs := fun k hk => by
    have := q4 k (Nat.zero_le _) hk
    simpa using this
  have le : mex xs ≤ xs.length := by
    have nd : ((List.range (mex xs)).map fun (k : Nat) => (k : Int)).Nodup := by
      refine List.pairwise_map.mpr (List.nodup_range.imp fun h => ?_)
      omega
    have := nodup_le (m := xs) nd fun x hx => by
      obtain ⟨k, hk, rfl⟩ := List.mem_map.mp hx
      exact low k (List.mem_range.mp hk)
    simpa using this
  refine ⟨le, fun h => ?_, low⟩
  have := q3 (by show mex xs < 0 + (xs.length + 1); omega)
  have h' : (!(xs.contains ((mex xs : Nat) : Int))) = true := this
  simp [h] at h'
theorem mex_eq {xs : List Int} {m : Nat} (h1 : (m : Int) ∉ xs) (h2 : ∀ k, k < m → (k : Int) ∈ xs) : mex xs = m := by
  obtain ⟨_, a, b⟩ := mex_spec xs
  by_cases e : mex xs < m
  · exact absurd (h2 _ e) a
  · by_cases e2 : m < mex xs
    · exact absurd (b _ e2) h1
    · omega
theorem countP_le {α : Type} {p q : α → Bool} : ∀ {l : List α}, (∀ x ∈ l, q x = true → p x = true) → l.countP q ≤ l.countP p
  | [], _ => Nat.le_refl _
  | a :: r, h => by
    have ih := countP_le (p := p) (q := q) (l := r) fun x hx => h x (List.mem_cons_of_mem _ hx)
    rw [List.countP_cons, List.countP_cons]
    have := h a List.mem_cons_self
    by_cases e : q a = true
    · rw [if_pos e, if_pos (this e)]; omega
    · rw [if_neg e]; omega
theorem countP_lt {α : Type} {p q : α → Bool} : ∀ {l : List α}, (∀ x ∈ l, q x = true → p x = true) → (∃ x ∈ l, p x = true ∧ q x = false) → l.countP q + 1 ≤ l.countP p
  | [], _, h => by obtain ⟨_, z, _⟩ := h; exact nomatch z
  | a :: r, h, ex => by
    have le := countP_le (p := p) (q := q) (l := r) fun x hx => h x (List.mem_cons_of_mem _ hx)
    rw [List.countP_cons, List.countP_cons]
    obtain ⟨x, hx, px, qx⟩ := ex
    have ha := h a List.mem_cons_self
    rcases List.mem_cons.mp hx with e | hx
    · subst e
      rw [if_pos px, if_neg (by rw [qx]; exact Bool.false_ne_true)]; omega
    · have := countP_lt (p := p) (q := q) (l := r) (fun x hx => h x (List.mem_cons_of_mem _ hx)) ⟨x, hx, px, qx⟩
      by_cases e : q a = true
      · rw [if_pos e, if_pos (ha e)]; omega
      · rw [if_neg e]; omega

/-! ### colours -/
def nbc (n : Nat) (E : Edges) (c : List Int) (h : Nat) : List Int := (nb n E h).map (at0 c)
theorem nbc_len (n : Nat) (E : Edges) (c : List Int) (h : Nat) : (nbc n E c h).length = (nb n E h).length := by unfold nbc; rw [List.length_map]
def clash (n : Nat) (E : Edges) (c : List Int) (h : Nat) : Bool := decide (at0 c h ∈ nbc n E c h) || decide (((nb n E h).length : Int) < at0 c h)
theorem clash_iff {n : Nat} {E : Edges} {c : List Int} {h : Nat} : clash n E c h = true ↔ (∃ j ∈ nb n E h, at0 c j = at0 c h) ∨ ((nb n E h).length : Int) < at0 c h := by
  unfold clash nbc
  rw [Bool.or_eq_true, decide_eq_true_iff, decide_eq_true_iff, List.mem_map]
def clashes (n : Nat) (E : Edges) (c : List Int) : List Nat := (List.range n).filter (clash n E c)
theorem mem_clashes {n : Nat} {E : Edges} {c : List Int} {h : Nat} : h ∈ clashes n E c ↔ h < n ∧ clash n E c h = true := by
  unfold clashes; rw [List.mem_filter, List.mem_range]
def recol (n : Nat) (E : Edges) (c : List Int) (h : Nat) : List Int := c.set h ((mex (nbc n E c h) : Nat) : Int)
theorem recol_len (n : Nat) (E : Edges) (c : List Int) (h : Nat) : (recol n E c h).length = c.length := by unfold recol; simp
theorem at0_recol {n : Nat} {E : Edges} {c : List Int} {h i : Nat} (hh : h < c.length) : at0 (recol n E c h) i = if i = h then ((mex (nbc n E c h) : Nat) : Int) else at0 c i := at0_set hh
/-- behind its move a hand doesn't clash -/
theorem recol_calm {n : Nat} {E : Edges} {c : List Int} {h : Nat} (v : Valid n E) (hl : c.length = n) (hh : h < n) : clash n E (recol n E c h) h = false := by
  refine Bool.eq_false_iff.mpr fun z => ?_
  obtain ⟨m1, m2, _⟩ := mex_spec (nbc n E c h)
  rw [nbc_len] at m1
  rcases clash_iff.mp z with ⟨j, m, e⟩ | e
  · have nj : j ≠ h := fun q => (v.adj (mem_nb.mp m).2).2.2 q.symm
    rw [at0_recol (by omega), if_neg nj, at0_recol (by omega), if_pos rfl] at e
    exact m2 (by rw [← e]; exact List.mem_map.mpr ⟨j, m, rfl⟩)
  · rw [at0_recol (by omega), if_pos rfl] at e
    omega
def mono (c : List Int) (e : Nat × Nat) : Bool := decide (at0 c e.1 = at0 c e.2)
def great (n : Nat) (E : Edges) (c : List Int) (h : Nat) : Bool := decide (((nb n E h).length : Int) < at0 c h)
def cpot (n : Nat) (E : Edges) (c : List Int) : Nat := E.countP (mono c) + (List.range n).countP (great n E c)
theorem cpot_le (n : Nat) (E : Edges) (c : List Int) : cpot n E c ≤ E.length + n := by
  unfold cpot
  have a := List.countP_le_length (p := mono c) (l := E)
  have b := List.countP_le_length (p := great n E c) (l := List.range n)
  rw [List.length_range] at b
  omega
theorem cpot_down {n : Nat} {E : Edges} {c : List Int} {h : Nat} (v : Valid n E) (hl : c.length = n) (hh : h < n) (hc : clash n E c h = true) : cpot n E (recol n E c h) + 1 ≤ cpot n E c := by
  have at_ := fun i => at0_recol (n := n) (E := E) (c := c) (h := h) (i := i) (by omega)
  obtain ⟨m1, m2, _⟩ := mex_spec (nbc n E c h)
  rw [nbc_len] at m1
  have edge : ∀ e ∈ E, mono (recol n E c h) e = true → mono c e = true ∧ e.1 ≠ h ∧ e.2 ≠ h := fun e he q => by
    obtain ⟨a, b⟩ := e
    have A := mem_adj he
    have q' : at0 (recol n E c h) a = at0 (recol n E c h) b := of_decide_eq_true q
    obtain ⟨_, _, hab⟩ := v.adj A
    rw [at_, at_] at q'
    by_cases ea : a = h
    · exfalso
      rw [if_pos ea, if_neg (fun z => hab (ea.trans z.symm))] at q'
      exact m2 (by rw [q']; exact List.mem_map.mpr ⟨b, (mem_nb' v).mpr (ea ▸ A), rfl⟩)
    · by_cases eb : b = h
      · exfalso
        rw [if_neg ea, if_pos eb] at q'
        exact m2 (by rw [← q']; exact List.mem_map.mpr ⟨a, (mem_nb' v).mpr (by rw [adj_comm]; exact eb ▸ A), rfl⟩)
      · rw [if_neg ea, if_neg eb] at q'
        exact ⟨decide_eq_true q', ea, eb⟩
  have gr : ∀ i ∈ List.range n, great n E (recol n E c h) i = true → great n E c i = true := fun i _ q => by
    have q' : ((nb n E i).length : Int) < at0 (recol n E c h) i := of_decide_eq_true q
    rw [at_] at q'
    by_cases e : i = h
    · rw [if_pos e, e] at q'; omega
    · rw [if_neg e] at q'; exact decide_eq_true q'
  have noh : great n E (recol n E c h) h = false := decide_eq_false (by rw [at_, if_pos rfl]; omega)
  have a := countP_le (p := mono c) (q := mono (recol n E c h)) (l := E) fun e he q => (edge e he q).1
  have b := countP_le (p := great n E c) (q := great n E (recol n E c h)) gr
  unfold cpot
  rcases clash_iff.mp hc with ⟨j, m, e⟩ | e
  · have A := (mem_nb.mp m).2
    have : E.countP (mono (recol n E c h)) + 1 ≤ E.countP (mono c) := by
      refine countP_lt (fun e he q => (edge e he q).1) ?_
      rcases adj_iff.mp A with q | q
      · exact ⟨_, q, decide_eq_true e.symm, Bool.eq_false_iff.mpr fun z => (edge _ q z).2.1 rfl⟩
      · exact ⟨_, q, decide_eq_true e, Bool.eq_false_iff.mpr fun z => (edge _ q z).2.2 rfl⟩
    omega
  · have : (List.range n).countP (great n E (recol n E c h)) + 1 ≤ (List.range n).countP (great n E c) := countP_lt gr ⟨h, List.mem_range.mpr hh, decide_eq_true e, noh⟩
    omega
/-- where none clashes -/
theorem calm_edges {n : Nat} {E : Edges} {c : List Int} (v : Valid n E) (h : clashes n E c = []) : ∀ e ∈ E, at0 c e.1 ≠ at0 c e.2 := fun e he q => by
  obtain ⟨a, b⟩ := e
  have A := mem_adj he
  obtain ⟨ha, hb, hab⟩ := v.adj A
  have : a ∈ clashes n E c := mem_clashes.mpr ⟨ha, clash_iff.mpr (.inl ⟨b, (mem_nb' v).mpr A, q.symm⟩)⟩
  rw [h] at this
  exact nomatch this
theorem calm_small {n : Nat} {E : Edges} {c : List Int} (h : clashes n E c = []) {i : Nat} (hi : i < n) : at0 c i ≤ ((nb n E i).length : Int) := by
  refine Int.not_lt.mp fun q => ?_
  have : i ∈ clashes n E c := mem_clashes.mpr ⟨hi, clash_iff.mpr (.inr q)⟩
  rw [h] at this
  exact nomatch this
theorem recol_nn {n : Nat} {E : Edges} {c : List Int} {h : Nat} (hl : c.length = n) (hh : h < n) (nn : ∀ i, i < n → 0 ≤ at0 c i) : ∀ i, i < n → 0 ≤ at0 (recol n E c h) i := fun i hi => by
  rw [at0_recol (by omega)]
  split
  · omega
  · exact nn i hi

/-! ### crowds -/
def someIn (n : Nat) (E : Edges) (c : List Int) (h : Nat) : Bool := (nb n E h).any fun j => at0 c j == 1
theorem someIn_iff {n : Nat} {E : Edges} {c : List Int} {h : Nat} : someIn n E c h = true ↔ ∃ j ∈ nb n E h, at0 c j = 1 := by
  unfold someIn; rw [List.any_eq_true]; simp
def odd (n : Nat) (E : Edges) (c : List Int) (h : Nat) : Bool := (at0 c h == 1) == someIn n E c h
def odds (n : Nat) (E : Edges) (c : List Int) : List Nat := (List.range n).filter (odd n E c)
theorem mem_odds {n : Nat} {E : Edges} {c : List Int} {h : Nat} : h ∈ odds n E c ↔ h < n ∧ odd n E c h = true := by
  unfold odds; rw [List.mem_filter, List.mem_range]
def flip (c : List Int) (h : Nat) : List Int := c.set h (1 - at0 c h)
theorem flip_len (c : List Int) (h : Nat) : (flip c h).length = c.length := by unfold flip; simp
theorem at0_flip {c : List Int} {h i : Nat} (hh : h < c.length) : at0 (flip c h) i = if i = h then 1 - at0 c h else at0 c i := at0_set hh
def Bits (n : Nat) (c : List Int) : Prop := ∀ i, i < n → at0 c i = 0 ∨ at0 c i = 1
theorem Bits.flip {n : Nat} {c : List Int} {h : Nat} (b : Bits n c) (hl : c.length = n) (hh : h < n) : Bits n (Net.flip c h) := fun i hi => by
  rw [at0_flip (by omega)]
  split
  · rcases b h hh with e | e <;> omega
  · exact b i hi
/-- what holds while hands move: moves of each, those that came in by a move -/
structure Went (n : Nat) (E : Edges) (c mv : List Int) (came : List Nat) : Prop where
  len : c.length = n
  mlen : mv.length = n
  bits : Bits n c
  inn : ∀ h ∈ came, h < n ∧ at0 c h = 1 ∧ someIn n E c h = false
  two : ∀ h, h < n → 0 ≤ at0 mv h ∧ at0 mv h ≤ 2
  out : ∀ h, h < n → h ∉ came → at0 mv h = 0 ∨ (at0 mv h = 1 ∧ at0 c h = 0)
theorem Went.fresh {n : Nat} {E : Edges} {c mv : List Int} {came : List Nat} (W : Went n E c mv came) {h : Nat} (ho : h ∈ odds n E c) : h ∉ came := fun q => by
  obtain ⟨_, a, b⟩ := W.inn h q
  have o := (mem_odds.mp ho).2
  unfold odd at o
  rw [a, b] at o
  cases o
/-- a hand at odds moves -/
theorem Went.go {n : Nat} {E : Edges} {c mv : List Int} {came : List Nat} (v : Valid n E) (W : Went n E c mv came) {h : Nat} (ho : h ∈ odds n E c) :
    at0 mv h + 1 ≤ 2 ∧ (at0 (flip c h) h = 1 → Went n E (flip c h) (mv.set h (at0 mv h + 1)) (came ++ [h])) ∧ (¬ at0 (flip c h) h = 1 → Went n E (flip c h) (mv.set h (at0 mv h + 1)) came) := by
  obtain ⟨hh, o⟩ := mem_odds.mp ho
  have nc := W.fresh ho
  have hl := W.len
  have hm := W.mlen
  have atc := fun i => at0_flip (c := c) (h := h) (i := i) (by omega)
  have atm := fun i => at0_set (s := mv) (h := h) (i := i) (x := at0 mv h + 1) (by omega)
  have bt := W.bits h hh
  have ou := W.out h hh nc
  have tw := W.two h hh
  -- one that came in stays, and its neighbours stay out
  have keep : ∀ x ∈ came, x < n ∧ at0 (flip c h) x = 1 ∧ someIn n E (flip c h) x = false := fun x hx => by
    obtain ⟨x1, x2, x3⟩ := W.inn x hx
    have ne : x ≠ h := fun e => nc (e ▸ hx)
    refine ⟨x1, by rw [atc, if_neg ne]; exact x2, Bool.eq_false_iff.mpr fun z => ?_⟩
    obtain ⟨j, m, e⟩ := someIn_iff.mp z
    rw [atc] at e
    have old : ∀ j ∈ nb n E x, at0 c j ≠ 1 := fun j m e => by
      have := someIn_iff.mpr ⟨j, m, e⟩
      rw [x3] at this; cases this
    by_cases ej : j = h
    · rw [if_pos ej] at e
      -- h came in next to x, which is in: it was not at odds then
      have c0 : at0 c h = 0 := by omega
      have s : someIn n E c h = true := someIn_iff.mpr ⟨x, (mem_nb' v).mpr (by rw [adj_comm]; exact ej ▸ (mem_nb.mp m).2), x2⟩
      unfold odd at o
      rw [c0, s] at o
      cases o
    · rw [if_neg ej] at e
      exact old j m e
  have nin : at0 (flip c h) h = 1 → someIn n E (flip c h) h = false := fun z => by
    refine Bool.eq_false_iff.mpr fun q => ?_
    obtain ⟨j, m, e⟩ := someIn_iff.mp q
    have nj : j ≠ h := fun q => (v.adj (mem_nb.mp m).2).2.2 q.symm
    rw [atc, if_neg nj] at e
    rw [atc, if_pos rfl] at z
    have c0 : at0 c h = 0 := by omega
    have s : someIn n E c h = true := someIn_iff.mpr ⟨j, m, e⟩
    unfold odd at o
    rw [c0, s] at o
    cases o
  have step : ∀ i, i < n → 0 ≤ at0 (mv.set h (at0 mv h + 1)) i ∧ at0 (mv.set h (at0 mv h + 1)) i ≤ 2 := fun i hi => by
    rw [atm]
    split
    · omega
    · exact W.two i hi
  refine ⟨by omega, fun z => ?_, fun z => ?_⟩
  · refine ⟨by rw [flip_len]; exact hl, by simpa using hm, W.bits.flip hl hh, fun x hx => ?_, step, fun i hi ni => ?_⟩
    · rcases List.mem_append.mp hx with hx | hx
      · exact keep x hx
      · rw [List.mem_singleton.mp hx]; exact ⟨hh, z, nin z⟩
    · have ne : i ≠ h := fun e => ni (List.mem_append_right _ (by simp [e]))
      rw [atm, if_neg ne, atc, if_neg ne]
      exact W.out i hi fun q => ni (List.mem_append_left _ q)
  · refine ⟨by rw [flip_len]; exact hl, by simpa using hm, W.bits.flip hl hh, keep, step, fun i hi ni => ?_⟩
    rw [atm, atc]
    rw [atc, if_pos rfl] at z
    by_cases e : i = h
    · rw [if_pos e, if_pos e]; right; omega
    · rw [if_neg e, if_neg e]; exact W.out i hi ni
def left (mv : List Int) : Nat → Nat
  | 0 => 0
  | n + 1 => left mv n + (2 - at0 mv n).toNat
theorem left_down {mv : List Int} {h : Nat} (hh : h < mv.length) (h1 : at0 mv h + 1 ≤ 2) : ∀ {n : Nat}, (h < n → left (mv.set h (at0 mv h + 1)) n + 1 ≤ left mv n) ∧ (n ≤ h → left (mv.set h (at0 mv h + 1)) n = left mv n)
  | 0 => ⟨fun z => absurd z (Nat.not_lt_zero _), fun _ => rfl⟩
  | n + 1 => by
    have ih := left_down hh h1 (n := n)
    have e : ∀ l : List Int, left l (n + 1) = left l n + (2 - at0 l n).toNat := fun _ => rfl
    rw [e, e, at0_set hh]
    constructor
    · intro z
      by_cases q : n = h
      · rw [if_pos q, ih.2 (by omega), q]; omega
      · rw [if_neg q]; have := ih.1 (by omega); omega
    · intro z
      rw [if_neg (by omega), ih.2 (by omega)]
/-- where none is at odds -/
theorem even_edges {n : Nat} {E : Edges} {c : List Int} (v : Valid n E) (h : odds n E c = []) : ∀ e ∈ E, ¬ (at0 c e.1 = 1 ∧ at0 c e.2 = 1) := fun e he q => by
  obtain ⟨a, b⟩ := e
  have A := mem_adj he
  obtain ⟨ha, hb, hab⟩ := v.adj A
  have s : someIn n E c a = true := someIn_iff.mpr ⟨b, (mem_nb' v).mpr A, q.2⟩
  have : a ∈ odds n E c := mem_odds.mpr ⟨ha, by unfold odd; rw [s, show at0 c a = 1 from q.1]; rfl⟩
  rw [h] at this
  exact nomatch this
theorem even_out {n : Nat} {E : Edges} {c : List Int} (h : odds n E c = []) {i : Nat} (hi : i < n) (z : at0 c i = 0) : ∃ j ∈ nb n E i, at0 c j = 1 := by
  refine someIn_iff.mp ?_
  cases s : someIn n E c i with
  | true => rfl
  | false =>
    have : i ∈ odds n E c := mem_odds.mpr ⟨hi, by unfold odd; rw [s, z]; rfl⟩
    rw [h] at this
    exact nomatch this
end Net

/-! ## EITHER ORDER, OTHER NUMBERS OF HANDS, THE DRAWN NET -/
namespace Net
/-! ### two hands that are no neighbours -/
section
variable {n : Nat} {E : Edges} {a b : Nat}
theorem map_away {f g : List Int} {l : List Nat} {F : Int → Int} (h : ∀ j ∈ l, at0 g j = at0 f j) : (l.map fun j => F (at0 g j)) = l.map fun j => F (at0 f j) := List.map_congr_left fun j hj => by rw [h j hj]
theorem due_away {f g : List Int} (h : ∀ j ∈ nb n E b, at0 g j = at0 f j) : due n E g b = due n E f b := by
  unfold due
  split
  · rfl
  · rw [map_away (F := fun x => 1 + x) h]
theorem set_swap {c : List Int} {x y : Int} (hab : a ≠ b) : (c.set a x).set b y = (c.set b y).set a x := List.set_comm x y hab
theorem away {c : List Int} {x : Int} (ha : a < c.length) (no : adj E a b = false) : ∀ j ∈ nb n E b, at0 (c.set a x) j = at0 c j := fun j m => by
  rw [at0_set ha, if_neg]
  intro e
  have := (mem_nb.mp m).2
  rw [e, adj_comm, no] at this
  cases this
theorem mend_swap {f : List Int} (ha : a < f.length) (hb : b < f.length) (hab : a ≠ b) (no : adj E a b = false) : mend n E (mend n E f a) b = mend n E (mend n E f b) a := by
  unfold mend
  rw [due_away (away ha no), due_away (away hb (by rw [adj_comm]; exact no)), set_swap hab]
theorem nbc_away {c : List Int} {x : Int} (ha : a < c.length) (no : adj E a b = false) : nbc n E (c.set a x) b = nbc n E c b := List.map_congr_left fun j m => away ha no j m
theorem clash_away {c : List Int} {x : Int} (ha : a < c.length) (hab : a ≠ b) (no : adj E a b = false) : clash n E (c.set a x) b = clash n E c b := by
  unfold clash
  rw [nbc_away ha no, at0_set ha, if_neg (Ne.symm hab)]
theorem recol_swap {c : List Int} (ha : a < c.length) (hb : b < c.length) (hab : a ≠ b) (no : adj E a b = false) : recol n E (recol n E c a) b = recol n E (recol n E c b) a := by
  unfold recol
  rw [nbc_away ha no, nbc_away hb (by rw [adj_comm]; exact no), set_swap hab]
theorem odd_away {c : List Int} {x : Int} (ha : a < c.length) (hab : a ≠ b) (no : adj E a b = false) : odd n E (c.set a x) b = odd n E c b := by
  have s : someIn n E (c.set a x) b = someIn n E c b := by
    rw [Bool.eq_iff_iff, someIn_iff, someIn_iff]
    constructor
    · rintro ⟨j, m, e⟩
      exact ⟨j, m, by rw [← away ha no j m]; exact e⟩
    · rintro ⟨j, m, e⟩
      exact ⟨j, m, by rw [away ha no j m]; exact e⟩
  unfold odd
  rw [s, at0_set ha, if_neg (Ne.symm hab)]
theorem flip_swap {c : List Int} (ha : a < c.length) (hb : b < c.length) (hab : a ≠ b) : flip (flip c a) b = flip (flip c b) a := by
  unfold flip
  rw [at0_set ha, at0_set hb, if_neg (Ne.symm hab), if_neg hab, set_swap hab]
end

/-! ### lists that rise -/
theorem rise_eq : ∀ {l m : List Nat}, l.Pairwise (· < ·) → m.Pairwise (· < ·) → (∀ x, x ∈ l ↔ x ∈ m) → l = m
  | [], [], _, _, _ => rfl
  | [], b :: m, _, _, h => nomatch (h b).mpr List.mem_cons_self
  | a :: l, [], _, _, h => nomatch (h a).mp List.mem_cons_self
  | a :: l, b :: m, hl, hm, h => by
    have hl' := List.pairwise_cons.mp hl
    have hm' := List.pairwise_cons.mp hm
    have e : a = b := by
      rcases List.mem_cons.mp ((h a).mp List.mem_cons_self) with e | e
      · exact e
      · rcases List.mem_cons.mp ((h b).mpr List.mem_cons_self) with e' | e'
        · exact e'.symm
        · have := hm'.1 a e; have := hl'.1 b e'; omega
    subst e
    congr 1
    refine rise_eq hl'.2 hm'.2 fun x => ⟨fun hx => ?_, fun hx => ?_⟩
    · rcases List.mem_cons.mp ((h x).mp (List.mem_cons_of_mem _ hx)) with e | e
      · have := hl'.1 x hx; omega
      · exact e
    · rcases List.mem_cons.mp ((h x).mpr (List.mem_cons_of_mem _ hx)) with e | e
      · have := hm'.1 x hx; omega
      · exact e
theorem range_rise (n : Nat) : (List.range n).Pairwise (· < ·) := List.pairwise_lt_range
theorem filter_rise {n : Nat} {p : Nat → Bool} : ((List.range n).filter p).Pairwise (· < ·) := (range_rise n).filter _
theorem rise_of_le {l : List Nat} (h : l.Pairwise (· ≤ ·)) (nd : l.Nodup) : l.Pairwise (· < ·) := by
  refine (List.pairwise_and_iff.mpr ⟨h, nd⟩).imp fun {a b} z => ?_
  have h1 : a ≤ b := z.1
  have h2 : a ≠ b := z.2
  omega

/-! ### the neighbours, read off the edges -/
def nearL (E : Edges) (h : Nat) : List Nat := ((E.filter fun e => e.1 == h).map fun e => e.2) ++ ((E.filter fun e => e.2 == h).map fun e => e.1)
theorem mem_nearL {E : Edges} {h x : Nat} : x ∈ nearL E h ↔ adj E h x = true := by
  unfold nearL
  rw [adj_iff, List.mem_append, List.mem_map, List.mem_map]
  constructor
  · rintro (⟨⟨a, b⟩, m, e⟩ | ⟨⟨a, b⟩, m, e⟩)
    · obtain ⟨m1, m2⟩ := List.mem_filter.mp m
      have : a = h := eq_of_beq m2
      subst this; have : b = x := e
      subst this; exact .inl m1
    · obtain ⟨m1, m2⟩ := List.mem_filter.mp m
      have : b = h := eq_of_beq m2
      subst this; have : a = x := e
      subst this; exact .inr m1
  · rintro (m | m)
    · exact .inl ⟨(h, x), List.mem_filter.mpr ⟨m, by simp⟩, rfl⟩
    · exact .inr ⟨(x, h), List.mem_filter.mpr ⟨m, by simp⟩, rfl⟩
theorem nearL_nodup {n : Nat} {E : Edges} {h : Nat} (v : Valid n E) (nd : E.Nodup) : (nearL E h).Nodup := by
  unfold nearL
  refine List.nodup_append.mpr ⟨?_, ?_, ?_⟩
  · refine List.pairwise_map.mpr ((nd.filter _).imp_of_mem fun {a b} ha hb hne e => hne ?_)
    have h1 : a.1 = h := eq_of_beq (List.mem_filter.mp ha).2
    have h2 : b.1 = h := eq_of_beq (List.mem_filter.mp hb).2
    exact Prod.ext (h1.trans h2.symm) e
  · refine List.pairwise_map.mpr ((nd.filter _).imp_of_mem fun {a b} ha hb hne e => hne ?_)
    have h1 : a.2 = h := eq_of_beq (List.mem_filter.mp ha).2
    have h2 : b.2 = h := eq_of_beq (List.mem_filter.mp hb).2
    exact Prod.ext e (h1.trans h2.symm)
  · intro x hx y hy e
    obtain ⟨p, hp, e1⟩ := List.mem_map.mp hx
    obtain ⟨q, hq, e2⟩ := List.mem_map.mp hy
    obtain ⟨p1, p2⟩ := List.mem_filter.mp hp
    obtain ⟨q1, q2⟩ := List.mem_filter.mp hq
    have a1 := v p p1
    have a2 := v q q1
    have a3 : p.1 = h := eq_of_beq p2
    have a4 : q.2 = h := eq_of_beq q2
    omega
/-- a list in order, with the members of nearL, is the neighbours -/
theorem near_is {n : Nat} {E : Edges} {h : Nat} {l : List Nat} (v : Valid n E) (nd : E.Nodup) (le : l.Pairwise (· ≤ ·)) (pm : l.Perm (nearL E h)) : l = nb n E h :=
  rise_eq (rise_of_le le (pm.nodup_iff.mpr (nearL_nodup v nd))) filter_rise fun x => by rw [pm.mem_iff, mem_nearL, mem_nb' v]

/-! ### other numbers of hands -/
structure Ren (n : Nat) (E E' : Edges) (p : Nat → Nat) : Prop where
  v : Valid n E
  v' : Valid n E'
  lt : ∀ i, i < n → p i < n
  inj : ∀ i j, i < n → j < n → p i = p j → i = j
  onto : ∀ j, j < n → ∃ i, i < n ∧ p i = j
  adj : ∀ i j, i < n → j < n → adj E' (p i) (p j) = adj E i j
section
variable {n : Nat} {E E' : Edges} {p : Nat → Nat}
theorem Ren.nb (R : Ren n E E' p) {h x : Nat} (hh : h < n) : x ∈ Net.nb n E' (p h) ↔ ∃ j ∈ Net.nb n E h, x = p j := by
  rw [mem_nb]
  constructor
  · rintro ⟨hx, ha⟩
    obtain ⟨j, hj, rfl⟩ := R.onto x hx
    rw [R.adj h j hh hj] at ha
    exact ⟨j, mem_nb.mpr ⟨hj, ha⟩, rfl⟩
  · rintro ⟨j, m, rfl⟩
    obtain ⟨hj, ha⟩ := mem_nb.mp m
    exact ⟨R.lt j hj, by rw [R.adj h j hh hj]; exact ha⟩
theorem nodup_leN : ∀ {l m : List Nat}, l.Nodup → (∀ x ∈ l, x ∈ m) → l.length ≤ m.length
  | [], _, _, _ => Nat.zero_le _
  | a :: r, m, nd, h => by
    have ha : a ∈ m := h a List.mem_cons_self
    have nd' := List.nodup_cons.mp nd
    have q := nodup_leN (l := r) (m := m.erase a) nd'.2 fun x hx => (List.mem_erase_of_ne (fun e : x = a => nd'.1 (by rw [← e]; exact hx))).mpr (h x (List.mem_cons_of_mem _ hx))
    rw [List.length_erase_of_mem ha] at q
    have : 0 < m.length := List.length_pos_of_mem ha
    rw [List.length_cons]; omega
theorem Ren.nb_len (R : Ren n E E' p) {h : Nat} (hh : h < n) : (Net.nb n E' (p h)).length = (Net.nb n E h).length := by
  have nd : ((Net.nb n E h).map p).Nodup := List.pairwise_map.mpr ((nb_nodup n E h).imp_of_mem fun ha hb hne e => hne (R.inj _ _ (nb_lt ha) (nb_lt hb) e))
  have a := nodup_leN nd (m := Net.nb n E' (p h)) fun x hx => by
    obtain ⟨j, m, rfl⟩ := List.mem_map.mp hx
    exact (R.nb hh).mpr ⟨j, m, rfl⟩
  have b := nodup_leN (nb_nodup n E' (p h)) (m := (Net.nb n E h).map p) fun x hx => by
    obtain ⟨j, m, rfl⟩ := (R.nb hh).mp hx
    exact List.mem_map.mpr ⟨j, m, rfl⟩
  rw [List.length_map] at a b
  omega
/-- the things put by the other numbers -/
def Put (n : Nat) (p : Nat → Nat) (c c' : List Int) : Prop := c.length = n ∧ c'.length = n ∧ ∀ i, i < n → at0 c' (p i) = at0 c i
variable {c c' : List Int}
theorem Ren.nbc (R : Ren n E E' p) (P : Put n p c c') {h : Nat} (hh : h < n) {x : Int} : x ∈ Net.nbc n E' c' (p h) ↔ x ∈ Net.nbc n E c h := by
  unfold Net.nbc
  rw [List.mem_map, List.mem_map]
  constructor
  · rintro ⟨y, m, e⟩
    obtain ⟨j, m', rfl⟩ := (R.nb hh).mp m
    exact ⟨j, m', by rw [← P.2.2 j (nb_lt m')]; exact e⟩
  · rintro ⟨j, m, e⟩
    exact ⟨p j, (R.nb hh).mpr ⟨j, m, rfl⟩, by rw [P.2.2 j (nb_lt m)]; exact e⟩
theorem Ren.clash (R : Ren n E E' p) (P : Put n p c c') {h : Nat} (hh : h < n) : Net.clash n E' c' (p h) = Net.clash n E c h := by
  rw [Bool.eq_iff_iff]
  unfold Net.clash
  rw [Bool.or_eq_true, Bool.or_eq_true, decide_eq_true_iff, decide_eq_true_iff, decide_eq_true_iff, decide_eq_true_iff, R.nbc P hh, R.nb_len hh, P.2.2 h hh]
theorem mex_same {xs ys : List Int} (h : ∀ x, x ∈ xs ↔ x ∈ ys) : mex xs = mex ys := by
  obtain ⟨_, a, b⟩ := mex_spec ys
  exact mex_eq (fun q => a ((h _).mp q)) fun k hk => (h _).mpr (b k hk)
theorem Ren.odd (R : Ren n E E' p) (P : Put n p c c') {h : Nat} (hh : h < n) : Net.odd n E' c' (p h) = Net.odd n E c h := by
  have s : someIn n E' c' (p h) = someIn n E c h := by
    rw [Bool.eq_iff_iff, someIn_iff, someIn_iff]
    constructor
    · rintro ⟨y, m, e⟩
      obtain ⟨j, m', rfl⟩ := (R.nb hh).mp m
      exact ⟨j, m', by rw [← P.2.2 j (nb_lt m')]; exact e⟩
    · rintro ⟨j, m, e⟩
      exact ⟨p j, (R.nb hh).mpr ⟨j, m, rfl⟩, by rw [P.2.2 j (nb_lt m)]; exact e⟩
  unfold Net.odd
  rw [s, P.2.2 h hh]
/-- the hands of which something holds, by the other numbers -/
theorem Ren.some (R : Ren n E E' p) {f g : Nat → Bool} (h : ∀ i, i < n → g (p i) = f i) {l : List Nat} (le : l.Pairwise (· ≤ ·)) (pm : l.Perm (((List.range n).filter f).map p)) : (List.range n).filter g = l := by
  have nd : (((List.range n).filter f).map p).Nodup := List.pairwise_map.mpr (((List.nodup_range (n := n)).filter _).imp_of_mem fun ha hb hne e =>
    hne (R.inj _ _ (List.mem_range.mp (List.mem_filter.mp ha).1) (List.mem_range.mp (List.mem_filter.mp hb).1) e))
  refine rise_eq filter_rise (rise_of_le le (pm.nodup_iff.mpr nd)) fun x => ?_
  rw [pm.mem_iff, List.mem_map, List.mem_filter, List.mem_range]
  constructor
  · rintro ⟨hx, gx⟩
    obtain ⟨i, hi, rfl⟩ := R.onto x hx
    exact ⟨i, List.mem_filter.mpr ⟨List.mem_range.mpr hi, by rw [← h i hi]; exact gx⟩, rfl⟩
  · rintro ⟨i, m, rfl⟩
    obtain ⟨hi, fi⟩ := List.mem_filter.mp m
    have hi := List.mem_range.mp hi
    exact ⟨R.lt i hi, by rw [h i hi]; exact fi⟩
theorem Put.set (R : Ren n E E' p) (P : Put n p c c') {h : Nat} {x : Int} (hh : h < n) : Put n p (c.set h x) (c'.set (p h) x) := by
  have l1 := P.1
  have l2 := P.2.1
  have := R.lt h hh
  refine ⟨by simpa using l1, by simpa using l2, fun i hi => ?_⟩
  rw [at0_set (by omega), at0_set (by omega)]
  by_cases e : i = h
  · rw [if_pos e, if_pos (by rw [e])]
  · rw [if_neg e, if_neg fun q => e (R.inj i h hi hh q)]; exact P.2.2 i hi
theorem Put.uniq {c1 : List Int} (R : Ren n E E' p) (P : Put n p c c') (P1 : Put n p c c1) : c1 = c' := by
  refine ext0 (P1.2.1.trans P.2.1.symm) fun j hj => ?_
  obtain ⟨i, hi, rfl⟩ := R.onto j (by rw [P1.2.1] at hj; exact hj)
  rw [P1.2.2 i hi, P.2.2 i hi]
theorem Ren.recol (R : Ren n E E' p) (P : Put n p c c') {h : Nat} (hh : h < n) : Put n p (Net.recol n E c h) (Net.recol n E' c' (p h)) := by
  have e : mex (Net.nbc n E' c' (p h)) = mex (Net.nbc n E c h) := mex_same fun x => R.nbc P hh
  unfold Net.recol
  rw [e]
  exact P.set R hh
theorem Ren.flip (R : Ren n E E' p) (P : Put n p c c') {h : Nat} (hh : h < n) : Put n p (Net.flip c h) (Net.flip c' (p h)) := by
  unfold Net.flip
  rw [P.2.2 h hh]
  exact P.set R hh
theorem Ren.due (R : Ren n E E' p) (p0 : p 0 = 0) (P : Put n p c c') {h : Nat} (hh : h < n) : Net.due n E' c' (p h) = Net.due n E c h := by
  by_cases h0 : h = 0
  · rw [h0, p0, due0, due0]
  · have h0' : p h ≠ 0 := fun e => h0 (R.inj h 0 hh (by omega) (by rw [p0]; exact e))
    refine due_at h0' due_le (fun y m => ?_) ?_
    · obtain ⟨j, m', rfl⟩ := (R.nb hh).mp m
      rw [P.2.2 j (nb_lt m')]
      exact due_nb h0 m'
    · rcases due_or (n := n) (E := E) (f := c) h0 with e | ⟨j, m, e⟩
      · exact .inl e
      · exact .inr ⟨p j, (R.nb hh).mpr ⟨j, m, rfl⟩, by rw [P.2.2 j (nb_lt m)]; exact e⟩
theorem Ren.dist (R : Ren n E E' p) (p0 : p 0 = 0) : Put n p (Net.dist n E) (Net.dist n E') := by
  have re : ∀ k h, h < n → reach n E' k (p h) = reach n E k h := by
    intro k
    induction k with
    | zero =>
      intro h hh
      show (p h == 0) = (h == 0)
      rw [Bool.eq_iff_iff, beq_iff_eq, beq_iff_eq]
      exact ⟨fun e => R.inj h 0 hh (by omega) (by rw [p0]; exact e), fun e => by rw [e]; exact p0⟩
    | succ k ih =>
      intro h hh
      show (reach n E' k (p h) || (Net.nb n E' (p h)).any fun j => reach n E' k j) = (reach n E k h || (Net.nb n E h).any fun j => reach n E k j)
      rw [ih h hh]
      congr 1
      rw [Bool.eq_iff_iff, List.any_eq_true, List.any_eq_true]
      constructor
      · rintro ⟨y, m, e⟩
        obtain ⟨j, m', rfl⟩ := (R.nb hh).mp m
        exact ⟨j, m', by rw [← ih j (nb_lt m')]; exact e⟩
      · rintro ⟨j, m, e⟩
        exact ⟨p j, (R.nb hh).mpr ⟨j, m, rfl⟩, by rw [ih j (nb_lt m)]; exact e⟩
  refine ⟨dist_len n E, dist_len n E', fun i hi => ?_⟩
  rw [at0_dist hi, at0_dist (R.lt i hi)]
  have : (fun k => reach n E' k (p i)) = fun k => reach n E k i := funext fun k => re k i hi
  unfold dst
  rw [this]
end

/-! ### the drawn net -/
def rowE (n : Nat) (q : Nat → Nat → Bool) (i : Nat) : Edges := ((List.range (n - (i + 1))).filter fun k => q i (i + 1 + k)).map fun k => (i, i + 1 + k)
def netE (n : Nat) (q : Nat → Nat → Bool) : Edges := (List.range n).flatMap (rowE n q)
def Lex (a b : Nat × Nat) : Prop := a.1 < b.1 ∨ (a.1 = b.1 ∧ a.2 < b.2)
theorem mem_rowE {n : Nat} {q : Nat → Nat → Bool} {i : Nat} {e : Nat × Nat} (h : e ∈ rowE n q i) : e.1 = i ∧ i < e.2 ∧ e.2 < n := by
  obtain ⟨k, m, rfl⟩ := List.mem_map.mp h
  have := List.mem_range.mp (List.mem_filter.mp m).1
  exact ⟨rfl, by show i < i + 1 + k; omega, by show i + 1 + k < n; omega⟩
theorem rowE_rise (n : Nat) (q : Nat → Nat → Bool) (i : Nat) : (rowE n q i).Pairwise Lex := by
  refine List.pairwise_map.mpr (((range_rise _).filter _).imp fun {a b} h => .inr ⟨rfl, ?_⟩)
  have h' : a < b := h
  show i + 1 + a < i + 1 + b
  omega
theorem netE_valid (n : Nat) (q : Nat → Nat → Bool) : Valid n (netE n q) := fun e he => by
  obtain ⟨i, hi, m⟩ := List.mem_flatMap.mp he
  have := mem_rowE m
  omega
theorem netE_rise (n : Nat) (q : Nat → Nat → Bool) : (netE n q).Pairwise Lex := by
  unfold netE
  rw [List.pairwise_flatMap]
  refine ⟨fun i _ => rowE_rise n q i, (range_rise n).imp fun {a b} h x hx y hy => .inl ?_⟩
  have h' : a < b := h
  have h1 := mem_rowE hx
  have h2 := mem_rowE hy
  omega
theorem Lex.nodup {E : Edges} (h : E.Pairwise Lex) : E.Nodup := h.imp fun {a b} z e => by
  subst e
  rcases z with z | ⟨_, z⟩ <;> omega
theorem netE_nodup (n : Nat) (q : Nat → Nat → Bool) : (netE n q).Nodup := Lex.nodup (netE_rise n q)
theorem netE_len (n : Nat) (q : Nat → Nat → Bool) : (netE n q).length ≤ n * n := by
  unfold netE
  rw [List.length_flatMap]
  have : ∀ (l : List Nat), (l.map fun i => (rowE n q i).length).sum ≤ l.length * n := fun l => by
    induction l with
    | nil => simp
    | cons a r ih =>
      rw [List.map_cons, List.sum_cons, List.length_cons, Nat.add_mul, Nat.one_mul]
      have h : (rowE n q a).length ≤ n := by
        unfold rowE
        rw [List.length_map]
        exact Nat.le_trans (List.length_filter_le _ _) (by rw [List.length_range]; omega)
      omega
  have := this (List.range n)
  rw [List.length_range] at this
  exact this
theorem netE_succ {n : Nat} {q : Nat → Nat → Bool} {i : Nat} : (List.range (i + 1)).flatMap (rowE n q) = (List.range i).flatMap (rowE n q) ++ rowE n q i := by
  rw [List.range_succ, List.flatMap_append]
  simp
end Net

/-! ## NETS: the neighbours as the program takes them; lists by their places -/
namespace Net
def nearP (E : Edges) (h : Nat) : List Nat := ((E.filter fun e => e.2 == h).map fun e => e.1) ++ ((E.filter fun e => e.1 == h).map fun e => e.2)
theorem mem_nearP {E : Edges} {h x : Nat} : x ∈ nearP E h ↔ adj E h x = true := by
  unfold nearP
  rw [List.mem_append, Or.comm, ← List.mem_append]
  exact mem_nearL
theorem nearP_rise {n : Nat} {E : Edges} {h : Nat} (v : Valid n E) (lx : E.Pairwise Lex) : (nearP E h).Pairwise (· < ·) := by
  unfold nearP
  rw [List.pairwise_append]
  refine ⟨?_, ?_, ?_⟩
  · refine List.pairwise_map.mpr ((lx.filter _).imp_of_mem fun {a b} ha hb z => ?_)
    have h1 : a.2 = h := by simpa using (List.mem_filter.mp ha).2
    have h2 : b.2 = h := by simpa using (List.mem_filter.mp hb).2
    rcases z with z | ⟨_, z⟩ <;> omega
  · refine List.pairwise_map.mpr ((lx.filter _).imp_of_mem fun {a b} ha hb z => ?_)
    have h1 : a.1 = h := by simpa using (List.mem_filter.mp ha).2
    have h2 : b.1 = h := by simpa using (List.mem_filter.mp hb).2
    rcases z with z | ⟨_, z⟩ <;> omega
  · intro x hx y hy
    obtain ⟨a, ha, rfl⟩ := List.mem_map.mp hx
    obtain ⟨b, hb, rfl⟩ := List.mem_map.mp hy
    have h1 : a.2 = h := by simpa using (List.mem_filter.mp ha).2
    have h2 : b.1 = h := by simpa using (List.mem_filter.mp hb).2
    have v1 := (v a (List.mem_filter.mp ha).1).1
    have v2 := (v b (List.mem_filter.mp hb).1).1
    omega
theorem nearP_is {n : Nat} {E : Edges} {h : Nat} (v : Valid n E) (lx : E.Pairwise Lex) : nearP E h = nb n E h :=
  rise_eq (nearP_rise v lx) filter_rise fun x => by rw [mem_nearP, mem_nb' v]
theorem range_at {α : Type} (l : List α) (d : α) : (List.range l.length).map (fun i => l.getD i d) = l := by
  refine List.ext_getElem (by simp) fun i h1 h2 => ?_
  simp [List.getElem?_eq_getElem h2]
theorem filt_at {α β : Type} (l : List α) (d : α) (p : α → Bool) (y : α → β) : ((List.range l.length).filter fun i => p (l.getD i d)).map (fun i => y (l.getD i d)) = (l.filter p).map y := by
  have e := congrArg (fun m => (m.filter p).map y) (range_at l d)
  simp only [List.filter_map, List.map_map] at e
  exact e
theorem map_at {α β : Type} (l : List α) (d : α) (y : α → β) : (List.range l.length).map (fun i => y (l.getD i d)) = l.map y := by
  have e := congrArg (fun m => m.map y) (range_at l d)
  simp only [List.map_map] at e
  exact e
end Net

/-! ## A LIST COMPREHENSION (one for, at most one if) over the layer -/
namespace L2
open PySem PySem.Spec PyProof.Rows

/-- the comprehension's own loop, whatever its target; nothing is raised in it -/
theorem compLoop_own {prog : Program} {w : World} {A : Around} {R : Result → Shared → Prop} {s : Shared} {elt target iter : Expr} {ifs : List Expr} {scope : Scope} {pos : Pos} {it acc : Value} {env : Env} (I : Nat → Shared → Prop)
    (turn : ∀ n s, I n s → wpAny (model prog w) A (pyNext it) (fun r s₁ => match r with
      | none => R (.ok .next) s₁
      | some v => wpAny (model prog w) A (letOwnedTupleGo target it v) (fun _ s₁' => wpAny (model prog w) A (assign target env v) (fun _ s₂ =>
          wpAny (model prog w) A (forIn ifs true fun c r => if r = true then do let ok ← isTrue c env (eval c env); pure (ForInStep.yield ok) else pure (ForInStep.yield r)) (fun ok s₃ =>
            if ok = true then wpAny (model prog w) A (eval elt env) (fun x s₄ =>
              wpAny (model prog w) A (call (.builtin "list.append") [acc, x]) (fun _ s₅ => ∃ m, m < n ∧ I m s₅) (fun _ _ => False) s₄) (fun _ _ => False) s₃
            else ∃ m, m < n ∧ I m s₃) (fun _ _ => False) s₂) (fun _ _ => False) s₁') (fun _ _ => False) s₁) (fun _ _ => False) s)
    (n : Nat) (h : I n s) :
    codeAny (model prog w) A (.compLoop (.ListComp elt [⟨target, iter, ifs, 0⟩] scope pos) 0 it acc env) R s := by
  refine codeAny_loop rfl I (fun n s hI => ?_) n h
  show wpAny _ A ((compTurn (.ListComp elt [⟨target, iter, ifs, 0⟩] scope pos) 0 it acc env).onRaise (fun x => do noteFrame x env; theTreesLotGoes x)) _ _ s
  refine wpAny_noted ?_
  rw [compTurn_list]
  have no : ∀ {α : Type} {t : Sem α} {Q : α → Shared → Prop} {E : Value → Shared → Prop} {s : Shared}, wpAny (model prog w) A t Q (fun _ _ => False) s → wpAny (model prog w) A t Q E s := fun h => wpAny_mono h (fun _ _ q => q) fun _ _ z => z.elim
  refine wpAny_bind (wpAny_standAt (wpAny_bind (wpAny_mono (turn n s hI) (fun r s₁ h₁ => ?_) fun _ _ z => z.elim)))
  cases r with
  | none => exact wpAny_pure h₁
  | some v =>
    refine wpAny_bind (wpAny_mono h₁ (fun _ s₁' h₁' => ?_) fun _ _ z => z.elim)
    refine wpAny_bind (wpAny_mono h₁' (fun _ s₂ h₂ => wpAny_bind (wpAny_mono h₂ (fun ok s₃ h₃ => ?_) fun _ _ z => z.elim)) fun _ _ z => z.elim)
    cases ok with
    | false => exact wpAny_pure ⟨rfl, h₃⟩
    | true =>
      exact wpAny_bind (wpAny_bind (wpAny_mono h₃ (fun x s₄ h₄ => wpAny_bind (wpAny_mono h₄ (fun _ s₅ h₅ => wpAny_pure (wpAny_pure ⟨rfl, h₅⟩)) fun _ _ z => z.elim)) fun _ _ z => z.elim))

/-- the tests of a comprehension -/
def PTs (X : Cx) (ifs : List Expr) (t : TT) : Prop :=
  ∀ (pins : List (Addr × Obj)) (s : Shared) (σ : St) (H : Hp) (Q : Bool → Hp → Prop), Inv X pins σ H s → t σ H Q →
    wpAny (model X.prog X.w) X.A (forIn ifs true fun c r => if r = true then do let ok ← isTrue c X.env (eval c X.env); pure (ForInStep.yield ok) else pure (ForInStep.yield r)) (TP X pins σ Q) X.xe s
def tYes : TT := fun _ H Q => Q true H
theorem pts_nil {X : Cx} : PTs X [] tYes := fun _ _ _ H _ I h => wpAny_tests_nil ⟨H, I, h⟩
theorem pts_one {X : Cx} {c : Expr} {t : TT} (h : PT X c t) : PTs X [c] t := fun pins s σ H Q I hw => wpAny_tests_one (h pins s σ H Q I hw)

/-- the cells that are taken along are the ones of the frame around -/
def AllC (cs : List (Str × Addr)) : List (Str × Addr) → Prop
  | [] => True
  | p :: r => cs.lookup p.1 = some p.2 ∧ AllC cs r
theorem AllC.look {cs : List (Str × Addr)} : ∀ {cl : List (Str × Addr)} {x : Str} {c : Addr}, AllC cs cl → cl.lookup x = some c → cs.lookup x = some c
  | [], _, _, _, e => by cases e
  | (n, a) :: r, x, c, h, e => by
    rw [List.lookup_cons] at e
    cases q : x == n with
    | true =>
      rw [q] at e
      have e1 : x = n := eq_of_beq q
      cases e
      rw [e1]; exact h.1
    | false =>
      rw [q] at e
      exact AllC.look h.2 e
/-- the slots of the names that the comprehension takes from around it -/
def SlotsOk (X : Cx) (scope : Scope) : List Str → List Nat → Prop
  | [], [] => True
  | y :: fr, j :: idx => (X.N[j]? = some y ∧ (X.env.scope.names.lookup y = some .cell ∨ X.env.scope.names.lookup y = some .free) ∧ ((relabel scope X.env).names.lookup y = some .cell ∨ (relabel scope X.env).names.lookup y = some .free)) ∧ SlotsOk X scope fr idx
  | _, _ => False
def frSt (idx : List Nat) (σ : St) : St := idx.map fun j => (σ[j]?).join
theorem SlotsOk.get {X : Cx} {scope : Scope} {σ : St} : ∀ {fr : List Str} {idx : List Nat} {i : Nat} {y : Str} {v : V}, SlotsOk X scope fr idx → fr[i]? = some y → (frSt idx σ)[i]? = some (some v) →
    ∃ j : Nat, X.N[j]? = some y ∧ σ[j]? = some (some v) ∧ (X.env.scope.names.lookup y = some .cell ∨ X.env.scope.names.lookup y = some .free) ∧ ((relabel scope X.env).names.lookup y = some .cell ∨ (relabel scope X.env).names.lookup y = some .free)
  | [], [], i, y, v, _, h1, _ => by simp at h1
  | [], _ :: _, i, y, v, h, _, _ => h.elim
  | _ :: _, [], i, y, v, h, _, _ => h.elim
  | z :: fr, j :: idx, 0, y, v, h, h1, h2 => by
    have e : z = y := by simpa using h1
    subst e
    have e2 : (σ[j]?).join = some v := by
      have : (frSt (j :: idx) σ)[0]? = some ((σ[j]?).join) := rfl
      rw [this] at h2
      exact Option.some.inj h2
    refine ⟨j, h.1.1, ?_, h.1.2.1, h.1.2.2⟩
    cases q : σ[j]? with
    | none => rw [q] at e2; cases e2
    | some o => rw [q] at e2; cases o with
      | none => cases e2
      | some u => cases e2; rfl
  | z :: fr, j :: idx, i + 1, y, v, h, h1, h2 => SlotsOk.get (fr := fr) (idx := idx) (i := i) h.2 (by simpa using h1) (by simpa [frSt] using h2)
theorem SlotsOk.len {X : Cx} {scope : Scope} : ∀ {fr : List Str} {idx : List Nat}, SlotsOk X scope fr idx → idx.length = fr.length
  | [], [], _ => rfl
  | [], _ :: _, h => h.elim
  | _ :: _, [], h => h.elim
  | _ :: _, _ :: _, h => by rw [List.length_cons, List.length_cons, h.2.len]

theorem lookup_relabel {env : Env} : ∀ {names : List (Str × NameKind)} {x : Str} {k : NameKind},
    (names.map fun (n, k) => if (k == NameKind.free && env.scope.kind == .function && env.kindOf n == some .cell) then (n, NameKind.cell) else (n, k)).lookup x = some k →
    ∃ k0, (x, k0) ∈ names ∧ (k = k0 ∨ (k0 = .free ∧ k = .cell))
  | [], _, _, h => by simp at h
  | (n, k1) :: r, x, k, h => by
    have ih := @lookup_relabel env r x k
    have h' : List.lookup x ((if (k1 == NameKind.free && env.scope.kind == .function && env.kindOf n == some .cell) = true then (n, NameKind.cell) else (n, k1)) ::
      (r.map fun (n, k) => if (k == NameKind.free && env.scope.kind == .function && env.kindOf n == some .cell) then (n, NameKind.cell) else (n, k))) = some k := h
    by_cases hc : (k1 == NameKind.free && env.scope.kind == .function && env.kindOf n == some .cell) = true
    · rw [if_pos hc, List.lookup_cons] at h'
      cases q : x == n with
      | true =>
        rw [q] at h'
        cases h'
        have e1 : x = n := eq_of_beq q
        have e2 : k1 = .free := by
          rw [Bool.and_eq_true, Bool.and_eq_true] at hc
          exact eq_of_beq hc.1.1
        exact ⟨k1, by rw [e1]; exact List.mem_cons_self, .inr ⟨e2, rfl⟩⟩
      | false =>
        rw [q] at h'
        obtain ⟨k0, m, z⟩ := ih h'
        exact ⟨k0, List.mem_cons_of_mem _ m, z⟩
    · rw [if_neg hc, List.lookup_cons] at h'
      cases q : x == n with
      | true =>
        rw [q] at h'
        cases h'
        have e1 : x = n := eq_of_beq q
        exact ⟨k1, by rw [e1]; exact List.mem_cons_self, .inl rfl⟩
      | false =>
        rw [q] at h'
        obtain ⟨k0, m, z⟩ := ih h'
        exact ⟨k0, List.mem_cons_of_mem _ m, z⟩

/-- what a comprehension must be like: its scope, the cells cl that it takes along, its own names tn, the names fr from around it, these names' slots idx -/
structure CompOk (X : Cx) (scope : Scope) (cl : List (Str × Addr)) (fr : List Str) (idx : List Nat) : Prop where
  clos : closureFor scope X.env = pure cl
  allC : AllC X.env.cells cl
  has : (scope.names.all fun p => p.2 != .free || (cl.lookup p.1).isSome) = true
  cell : ∀ y ∈ scope.names, y.2 ≠ .cell
  kind : scope.kind = .function
  names : ∀ y ∈ scope.names, y.2 = .local → scope.names.lookup y.1 = some .local
  slots : SlotsOk X scope fr idx

/-- the context of a comprehension's block -/
def cxComp (X : Cx) (scope : Scope) (cl : List (Str × Addr)) (N' : List Str) (fp : List Addr) (pins : List (Addr × Obj)) (C : Addr) (s : Shared) (H : Hp) : Cx where
  prog := X.prog
  w := X.w
  K := X.K
  mg := X.mg
  base := X.base
  A := X.A
  N := N'
  s₀ := s
  H₀ := H
  env := compEnvC scope cl C X.env
  outer := X.stack
  stack := X.stack
  ex := fp
  calm := X.calm
  fn := fun _ => false
  pn := X.pn ++ pins
  xe := fun _ _ => False

/-- the loop of a comprehension: W is the invariant (turn, measure); D is the list that is made -/
def CompLoop (J : It) (H1 : Hp) (g : TG) (tc : TT) (te : TE) (σ0 : St) (Q : VK) : Prop := ∀ D, H1 D = none →
  ∃ W : Nat → Nat → St → Hp → Prop, (∃ m, W 0 m σ0 (upd H1 D (.lst []))) ∧ ∀ i m σ1 H2, W i m σ1 H2 →
    (J.stop i H2 ∧ Q (.ref D) H2) ∨ (J.go i H2 ∧ ∃ N : St → Hp → Prop, (∀ σ' H', N σ' H' → ∃ m', m' < m ∧ W (i + 1) m' σ' H') ∧ ∀ x H', J.yld i H2 x H' → g x σ1 H' fun σ2 H3 => tc σ2 H3 fun b H4 =>
      if b = true then te σ2 H4 fun y H5 => ∃ ys, H5 D = some (.lst ys) ∧ ys.length < sizeLine ∧ N σ2 (upd H5 D (.lst (ys ++ [y]))) else N σ2 H4)
def tComp (wi : TI) (g : TG) (tc : TT) (te : TE) (k : Nat) (idx : List Nat) : TE := fun σ H Q => wi σ H fun J H1 => CompLoop J H1 g tc te (List.replicate k none ++ frSt idx σ) Q

theorem pe_comp {X : Cx} {scope : Scope} {cl : List (Str × Addr)} {tn fr : List Str} {idx : List Nat} {tg iter elt : Expr} {ifs : List Expr} {wi : TI} {g : TG} {tc : TT} {te : TE} {pos : Pos}
    (hc : X.calm = true) (ok : CompOk X scope cl fr idx) (hi : PI X tg iter wi)
    (hg : ∀ fp pins C s H, PG (cxComp X scope cl (tn ++ fr) fp pins C s H) tg g)
    (ht : ∀ fp pins C s H, PTs (cxComp X scope cl (tn ++ fr) fp pins C s H) ifs tc)
    (he : ∀ fp pins C s H, PE (cxComp X scope cl (tn ++ fr) fp pins C s H) elt te)
    (hs : ∀ x, foldedSetIterable iter X.env x = pure x := by intro _; rfl) :
    PE X (.ListComp elt [⟨tg, iter, ifs, 0⟩] scope pos) (tComp wi g tc te tn.length idx) := by
  intro pins s σ H Q I h
  rw [eval_ListComp]
  refine wpAny_comprehension_free (use := none) rfl hs ok.clos ok.kind ok.names (thn (hi pins s σ H _ I h) fun v s1 h1 => thn h1 fun itv s2 h2 => ?_)
  obtain ⟨it, fp, tn', J, H2, e, I2, T, st2, f2, hR⟩ := h2
  subst e
  have hD : H2 s2.heap.objs.size = none := I2.hok.fresh (Nat.le_refl _)
  obtain ⟨W, ⟨m0, w0⟩, turn⟩ := hR s2.heap.objs.size hD
  refine wpAny_newObj_type (wpAny_newFunctionEnv ok.cell (by intro y hy; simp at hy) (fun h₁ hns₁ hsb₁ => ?_) ok.kind)
  have I3 : Inv X pins σ (upd H2 s2.heap.objs.size (.lst [])) { s2 with heap := s2.heap.push { cls := .type "list", dict := none, data := .seq ([] : List Value).toArray } } := I2.lnew (t' := s2.toks) (its := []) .nil (Nat.zero_le _)
  generalize hs3 : ({ s2 with heap := s2.heap.push { cls := .type "list", dict := none, data := .seq ([] : List Value).toArray } } : Shared) = s3 at I3 hns₁ hsb₁ ⊢
  generalize hH3 : upd H2 s2.heap.objs.size (.lst []) = H3 at I3 w0
  generalize hDe : s2.heap.objs.size = D at turn
  have hfp3 : ∀ b ∈ fp, ∃ o, s3.heap.get? b = some o ∧ ∀ v, o.data ≠ .cell v := fun b hb => by
    obtain ⟨o, e, d⟩ := T.obj _ _ st2 b hb
    refine ⟨o, ?_, d⟩
    rw [← hs3]
    exact Heap.get?_push_of_some _ e
  have st3 : tn' 0 s3.heap := T.keep _ _ _ st2 fun b hb o e => by rw [← hs3]; exact Heap.get?_push_of_some _ e
  have fH3 : ∀ b ∈ fp, FpOk X pins H3 b := fun b hb => by
    obtain ⟨f0, fr'⟩ := f2 b hb
    refine ⟨?_, fr'⟩
    obtain ⟨o, e, _⟩ := T.obj _ _ st2 b hb
    rw [← hH3, upd_ne (Nat.ne_of_lt (Heap.lt_size e))]
    exact f0
  have kept : ∀ b o, s3.heap.get? b = some o → h₁.get? b = some o := fun b o e => hsb₁.extBut b o (Nat.ne_of_lt (Heap.lt_size e)) (Heap.get?_push_of_some _ e)
  -- the block's context
  let Y : Cx := cxComp X scope cl (tn ++ fr) fp pins s3.heap.objs.size s3 H3
  have hCfresh : H3 s3.heap.objs.size = none := I3.hok.fresh (Nat.le_refl _)
  have clOf : ∀ x c, cl.lookup x = some c → X.env.cells.lookup x = some c := fun x c e => ok.allC.look e
  have frOf : ∀ x, (x, NameKind.free) ∈ scope.names → ∃ c, cl.lookup x = some c := fun x m => by
    have q := List.all_eq_true.mp ok.has _ m
    have q' : (cl.lookup x).isSome = true := by simpa using q
    exact Option.isSome_iff_exists.mp q'
  have stkNo : ∀ {b : Addr}, b ≠ X.env.locals → b ∉ X.fs → b ∉ frs X.stack := fun h1 h2 hb => (List.mem_cons.mp (I3.stkSub _ hb)).elim h1 h2
  have I4 : Inv Y [] (List.replicate tn.length none ++ frSt idx σ) H3 { s3 with heap := h₁, toks := s3.toks + ([] : List (Str × Value)).length } := by
    refine ⟨⟨I3.ok.mod, ok.kind, I3.ok.glob, I3.ok.blt, Nat.le_refl _, fun x y c h1 h2 => I3.ok.inj x y c (clOf x c h1) (clOf y c h2), fun x hx => ?_, fun x c h1 _ => (by cases h1), I3.ok.hd, I3.ok.frames, .inl rfl, fun b hb => ?_, I3.bs, Nat.le_trans I3.ok.bsz I3.sz, fun b o e hb => ?_, fun b hb => ?_, I3.stack, I3.stkFree⟩,
      rfl, I3.bare, Un.kept kept, ⟨_, hns₁, fun i x v h1 h2 h3 => ?_⟩, fun x c e => ?_, hCfresh, fun x c e => I3.freeC x c (clOf x c e), fun p hp => ?_, I3.hok.kept kept, ?_⟩
    · have hx' : (relabel scope X.env).names.lookup x = some .cell ∨ (relabel scope X.env).names.lookup x = some .free := hx
      rcases hx' with hx' | hx'
      · obtain ⟨k0, m, z⟩ := lookup_relabel hx'
        rcases z with z | ⟨z, _⟩
        · exact absurd z.symm (ok.cell _ m)
        · subst z; exact frOf x m
      · obtain ⟨k0, m, z⟩ := lookup_relabel hx'
        rcases z with z | ⟨_, z⟩
        · subst z; exact frOf x m
        · cases z
    · obtain ⟨o, e, _⟩ := hfp3 b hb
      exact ⟨Nat.ne_of_lt (Heap.lt_size e), fun x c q => (fH3 b hb).2.2.2.2.1 x c (clOf x c q)⟩
    · rcases (fH3 b hb).2.2.2.1 with z | z
      · exact I3.ok.noex b o e z
      · exact absurd (Nat.lt_of_lt_of_le (Heap.lt_size e) (Nat.le_trans I3.ok.bsz z)) (Nat.lt_irrefl _)
    · exact stkNo (fH3 b hb).2.1 (fH3 b hb).2.2.1
    · have hge : tn.length ≤ i := by
        refine Nat.le_of_not_lt fun lt => ?_
        rw [List.getElem?_append_left (by simpa using lt), List.getElem?_replicate] at h2
        split at h2 <;> cases h2
      rw [List.getElem?_append_right (by simpa using hge), List.length_replicate] at h2
      have h1' : (tn ++ fr)[i]? = some x := h1
      rw [List.getElem?_append_right hge] at h1'
      obtain ⟨j, q1, q2, q3, q4⟩ := ok.slots.get h1' h2
      obtain ⟨m, hn, hl⟩ := I3.loc
      obtain ⟨u, r, l⟩ := hl j x v q1 q2 (.inr q3)
      refine ⟨u, r, .inr ⟨q4, ?_⟩⟩
      rcases l with ⟨lk, _⟩ | ⟨_, c, lc, cell⟩
      · have lk' : X.env.scope.names.lookup x = some .local := lk
        rcases q3 with z | z <;> rw [z] at lk' <;> cases lk'
      · have free : (x, NameKind.free) ∈ scope.names := by
          rcases q4 with z | z
          · obtain ⟨k0, m', y⟩ := lookup_relabel z
            rcases y with y | ⟨y, _⟩
            · exact absurd y.symm (ok.cell _ m')
            · subst y; exact m'
          · obtain ⟨k0, m', y⟩ := lookup_relabel z
            rcases y with y | ⟨_, y⟩
            · subst y; exact m'
            · cases y
        obtain ⟨c', e'⟩ := frOf x free
        have := clOf x c' e'
        rw [lc] at this; cases this
        obtain ⟨o, ho, hd⟩ := cell
        exact ⟨c, e', o, kept c o ho, hd⟩
    · obtain ⟨v, o, ho, hd⟩ := I3.cell x c (clOf x c e)
      exact ⟨v, o, kept c o ho, hd⟩
    · have hp' : p ∈ X.pn ++ pins := by
        have : p ∈ (X.pn ++ pins) ++ [] := hp
        simpa using this
      obtain ⟨q1, q2, q3, q4, q5⟩ := I3.pin p hp'
      exact ⟨kept _ _ q1, q2, Nat.ne_of_lt (Heap.lt_size q1), stkNo q3 q4, q5⟩
    · show _ = (tn ++ fr).length
      rw [List.length_append, List.length_append, List.length_replicate]
      unfold frSt
      rw [List.length_map, ok.slots.len]
  have stY : tn' 0 h₁ := T.keep _ _ _ st3 fun b _ o e => kept b o e
  have statY : ∀ {H' : Hp}, (∀ b ∈ fp, H' b = none) → ∀ b ∈ fp, FpOk Y [] H' b := fun hn b hb => by
    obtain ⟨o, e, _⟩ := hfp3 b hb
    refine ⟨hn b hb, Nat.ne_of_lt (Heap.lt_size e), stkNo (fH3 b hb).2.1 (fH3 b hb).2.2.1, .inl hb, fun x c q => (fH3 b hb).2.2.2.2.1 x c (clOf x c q), fun p hp => ?_⟩
    have hp' : p ∈ (X.pn ++ pins) ++ [] := hp
    exact (fH3 b hb).2.2.2.2.2 p (by simpa using hp')
  have loop : codeAny (model X.prog X.w) X.A (.compLoop (.ListComp elt [⟨tg, iter, ifs, 0⟩] scope pos) 0 (.ref it) (.ref D) Y.env) (compPost (model X.prog X.w) X.A X.xe none (EP X pins σ Q) (.ref D) s3.heap.objs.size)
      { s3 with heap := h₁, toks := s3.toks + ([] : List (Str × Value)).length } := by
    refine compLoop_own (fun n s' => ∃ i σ' H', Inv Y [] σ' H' s' ∧ tn' i s'.heap ∧ (∀ b ∈ fp, H' b = none) ∧ W i n σ' H') ?_ m0 ⟨0, _, H3, I4, stY, fun b hb => (fH3 b hb).1, w0⟩
    rintro n s4 ⟨i, σ4, H4, J4, st4, fr4, w4⟩
    rcases turn i n σ4 H4 w4 with ⟨stop, qn⟩ | ⟨go, N, hN, step⟩
    · refine thn (T.done Y rfl rfl rfl hc i [] s4 σ4 H4 _ J4 (statY fr4) st4 stop) fun r s5 ⟨hr, J5⟩ => ?_
      subst hr
      obtain ⟨m5, hn5, _⟩ := id J5.loc
      refine ⟨m5, hn5, fun h' hsb => ?_⟩
      have hfreeC : H4 s3.heap.objs.size = none := J5.free
      have old : ∀ b o, s3.heap.get? b = some o → ∀ o', s5.heap.get? b = some o' → h'.get? b = some o' := fun b o e o' e' => (hsb.2 b (Nat.ne_of_lt (Heap.lt_size e))).trans e'
      have un : Un (frs X.stack) fp H3 H4 s3.heap h' := by
        have B : Un (frs X.stack) fp H3 H4 s3.heap s5.heap := J5.base
        refine ⟨fun b o e n hb hx => old b o e _ (B.keep b o e n hb hx), fun b o e n hb hx => ?_, B.free, fun b o e hx => ?_, B.tups, B.frzs, B.tbls⟩
        · obtain ⟨sl, z⟩ := B.slot b o e n hb hx
          exact ⟨sl, old b o e _ z⟩
        · obtain ⟨o', z⟩ := B.there b o e hx
          exact ⟨o', old b o e _ z⟩
      have hok' : HOk X.prog X.w H4 h' := fun b ob e => by
        refine (J5.hok b ob e).stay (fun c u hc' q => (hsb.2 c ?_).trans q) (fun _ q => q) fun _ _ q => q
        rintro rfl
        rcases hc' with rfl | hc'
        · rw [hfreeC] at e; cases e
        · rw [hfreeC] at hc'; cases hc'
      refine ⟨.ref D, H4, I3.call' (s' := { s5 with heap := h' }) (ch := fp) J5.os un hok' J5.bare (fun b hb => ?_), rfl, qn⟩
      exact ⟨(fH3 b hb).2.2.2.1, (fH3 b hb).2.1, (fH3 b hb).2.2.2.2.1, (fH3 b hb).2.2.2.2.2⟩
    · refine thn (T.item Y rfl rfl rfl hc i [] s4 σ4 H4 _ J4 (statY fr4) st4 go) fun r s5 ⟨u, hr, h5⟩ => ?_
      subst hr
      refine thn h5 fun _ s6 ⟨x, H6, J6, r6, y6, st6, fr6⟩ => ?_
      have J6' := J6.pinned (statY fr6) (T.obj _ _ st6)
      refine thn (hg fp pins s3.heap.objs.size s3 H3 _ s6 σ4 H6 x u _ J6' r6 (step x H6 y6)) fun _ s7 ⟨σ7, H7, J7, q7⟩ => ?_
      refine thn (ht fp pins s3.heap.objs.size s3 H3 _ s7 σ7 H7 _ J7 q7) fun b s8 ⟨H8, J8, q8⟩ => ?_
      have again : ∀ {s9 : Shared} {H9 : Hp}, Inv Y ([] ++ pinsAt fp s6.heap) σ7 H9 s9 → N σ7 H9 → ∃ m, m < n ∧ ∃ i σ' H', Inv Y [] σ' H' s9 ∧ tn' i s9.heap ∧ (∀ b ∈ fp, H' b = none) ∧ W i m σ' H' := fun {s9 H9} J9 n9 => by
        obtain ⟨m', hm, w9⟩ := hN σ7 H9 n9
        refine ⟨m', hm, i + 1, σ7, H9, J9.unpinned, T.keep _ _ _ st6 fun b hb o e => (J9.pin (b, o) (List.mem_append_right _ (List.mem_append_right _ (mem_pinsAt hb e)))).1, fun b hb => ?_, w9⟩
        obtain ⟨o, e, d⟩ := T.obj _ _ st6 b hb
        exact (J9.pin (b, o) (List.mem_append_right _ (List.mem_append_right _ (mem_pinsAt hb e)))).2.1
      cases b with
      | false => exact again J8 q8
      | true =>
        refine thn (he fp pins s3.heap.objs.size s3 H3 _ s8 σ7 H8 _ J8 q8) fun y s9 ⟨vy, H9, J9, ry, ys, ey, hz, q9⟩ => ?_
        refine thn (mt_append (X := Y) _ s9 σ7 H9 (.ref D) [vy] (.ref D) [y] (fun _ H' => N σ7 H') J9 rfl (.cons ry .nil) ⟨D, ys, vy, rfl, rfl, ey, hz, q9⟩) fun _ s10 ⟨_, H10, J10, _, q10⟩ => ?_
        exact again J10 q10
  exact codeAny_compStart_list loop (T.self X.A 0 _ _ _ stY loop)
end L2

/-! ## MORE WORDS over the layer -/
namespace L2
open PySem PySem.Spec PyProof.Rows

theorem Same.tup {K : PySem.W.Frag} {H H' : Hp} {a : Addr} {xs : List V} (e : Same H H') (h : SqT K H a xs) : SqT K H' a xs := by
  rcases h with (h | ⟨o, h⟩) | h
  · exact .inl (.inl (e _ _ h))
  · exact .inl (.inr ⟨o, e _ _ h⟩)
  · exact .inr h
theorem Same.new {H : Hp} {p : Addr} (h : H p = Option.none) (o : HO) : Same H (upd H p o) := fun b u q => by rw [upd_ne (ne_of_none q h)]; exact q
theorem lineGe {n : Nat} (h : n ≤ 1000) : n ≤ sizeLine := Nat.le_of_lt (small1000 h)

/-- a tuple comes: a new one, or one that stood there -/
def mkT (K : PySem.W.Frag) (H : Hp) (zs : List V) (Q : VK) : Prop := ∀ r H', Same H H' → SqT K H' r zs → Q (.ref r) H'
theorem mkT.new {K : PySem.W.Frag} {H : Hp} {zs : List V} {Q : VK} (h : mkT K H zs Q) : ∀ p, H p = Option.none → Q (.ref p) (upd H p (.tup zs)) := fun p hp => h p _ (Same.new hp _) (SqT.of upd_same)
theorem mkT.same {K : PySem.W.Frag} {H H1 : Hp} {zs : List V} {Q : VK} (h : mkT K H zs Q) (g : Same H H1) : mkT K H1 zs Q := fun r H' g' e => h r H' (g.trans g') e

section
variable {X : Cx}
/-- t + u -/
def rCatS (K : PySem.W.Frag) : R2 := fun x y H Q => ∃ a b xs ys, x = .ref a ∧ y = .ref b ∧ SqT K H a xs ∧ SqT K H b ys ∧ xs.length + ys.length ≤ sizeLine ∧ mkT K H (xs ++ ys) Q
theorem op_catS : OpR X (binaryOp .Add) (rCatS X.K) := by
  intro pins s σ H x y v u Q I rx ry h
  obtain ⟨a, b, xs, ys, rfl, rfl, ha, hb, hz, q⟩ := h
  by_cases e : xs = []
  · subst e
    cases rx
    cases ry
    obtain ⟨its, r1, p1, _⟩ := I.tuple ha
    obtain ⟨its2, r2, p2, _⟩ := I.tuple hb
    obtain ⟨m, F⟩ := I.fr
    have z : its = [] := by cases r1; rfl
    exact add_tuples (news := []) F (fun p hp => by cases hp) p1 p2 (fun _ => ⟨.ref b, H, I, rfl, q b H (Same.refl H) hb⟩) (fun n _ => absurd z n) (fun n _ => absurd z n) (by rw [← r1.length, ← r2.length]; exact hz)
  · refine op_catT pins s σ H _ _ v u Q I rx ry ⟨a, b, xs, ys, rfl, rfl, ha, hb, e, hz, fun z => ?_, fun _ p hp => mkT.new q p hp⟩
    subst z
    rw [List.append_nil] at q
    exact q a H (Same.refl H) ha
/-- t[lo:hi], not the whole -/
def rSlS (K : PySem.W.Frag) : V → Option Int → Option Int → Hp → VK → Prop := fun x lo hi H Q => ∃ a xs, x = .ref a ∧ SqT K H a xs ∧
  ¬ (HT.sIx xs.length 0 lo = 0 ∧ HT.sIx xs.length xs.length hi = xs.length) ∧ mkT K H (cutV xs lo hi) Q
theorem sl_tupS : SlR X (rSlS X.K) := by
  intro pins s σ H x v vl vu lo hi sl Q I rx hs pl pu h
  obtain ⟨a, xs, e, hx, hw, q⟩ := h
  exact sl_tup pins s σ H x v vl vu lo hi sl Q I rx hs pl pu ⟨a, xs, e, hx, hw, mkT.new q⟩
/-- tuple(xs) of a list -/
theorem call_tupL : CallR X (.type "tuple") (fun xs H Q => ∃ p ys, xs = [.ref p] ∧ SqL X.K H p ys ∧ mkT X.K H ys Q) := by
  intro pins s σ H xs us Q I r h
  obtain ⟨p, ys, e, hs, q⟩ := h
  exact call_tuple_of pins s σ H xs us Q I r ⟨p, ys, e, .inl ⟨hs, mkT.new q⟩⟩

/-! ### == and != of tuples and lists of ints -/
theorem all_range_eq {ns ms : List Int} : (((List.range (min ns.length ms.length)).all fun j => ns.getD j 0 == ms.getD j 0) && ns.length == ms.length) = decide (ns = ms) := by
  rw [Bool.eq_iff_iff, Bool.and_eq_true, List.all_eq_true, decide_eq_true_iff]
  constructor
  · rintro ⟨h1, h2⟩
    have hl : ns.length = ms.length := eq_of_beq h2
    refine List.ext_getElem hl fun i a b => ?_
    have := eq_of_beq (h1 i (List.mem_range.mpr (by omega)))
    rw [List.getD_eq_getElem?_getD, List.getD_eq_getElem?_getD, List.getElem?_eq_getElem a, List.getElem?_eq_getElem b] at this
    exact this
  · rintro rfl
    exact ⟨fun i _ => beq_self_eq_true _, beq_self_eq_true _⟩
theorem valsInt {ns : List Int} {its : List Value} (r : Vals (ns.map V.int) its) : its.toArray.size = ns.length ∧ ∀ j (h : j < its.toArray.size), ∃ t, its.toArray[j] = Value.int (ns.getD j 0) t := by
  have hl := r.length
  rw [List.length_map] at hl
  refine ⟨by rw [List.size_toArray]; exact hl.symm, fun j h => ?_⟩
  have hj : j < ns.length := by rw [List.size_toArray] at h; omega
  obtain ⟨u, hu, t, rfl⟩ := r.get (i := j) (x := V.int (ns.getD j 0)) (by
    rw [List.getElem?_map, List.getElem?_eq_getElem hj, List.getD_eq_getElem?_getD, List.getElem?_eq_getElem hj] <;> rfl)
  refine ⟨t, ?_⟩
  have : its[j]? = some (its.toArray[j]) := by simp
  rw [this] at hu
  exact Option.some.inj hu
theorem eqAt_ints {A : Around} {s : Shared} {ns ms : List Int} {its its2 : List Value} (r1 : Vals (ns.map V.int) its) (r2 : Vals (ms.map V.int) its2) :
    ∀ j (h1 : j < its.toArray.size) (h2 : j < its2.toArray.size), SeqAt.EqAt A s its.toArray[j] its2.toArray[j] (ns.getD j 0 == ms.getD j 0) := fun j h1 h2 => by
  obtain ⟨t, e1⟩ := (valsInt r1).2 j h1
  obtain ⟨u, e2⟩ := (valsInt r2).2 j h2
  rw [e1, e2]
  exact SeqAt.EqAt.int_int _ _ _ _
def rEqT (K : PySem.W.Frag) (neg : Bool) : R2 := fun x y H Q => ∃ (a b : Addr) (ns ms : List Int), x = .ref a ∧ y = .ref b ∧ SqT K H a (ns.map V.int) ∧ SqT K H b (ms.map V.int) ∧ Q (.bl (if neg then !decide (ns = ms) else decide (ns = ms))) H
theorem op_eqT (hu : X.A.units < cLine) : OpR X (compareOp .Eq) (rEqT X.K false) := by
  intro pins s σ H x y v u Q I rx ry h
  obtain ⟨a, b, ns, ms, rfl, rfl, ha, hb, q⟩ := h
  cases rx
  cases ry
  obtain ⟨its, r1, p1, _⟩ := I.tuple ha
  obtain ⟨its2, r2, p2, _⟩ := I.tuple hb
  refine SeqAt.eq_tupleAt p1 p2 hu (eqAt_ints r1 r2) (fin_bl I q ?_)
  rw [(valsInt r1).1, (valsInt r2).1, all_range_eq]
  rfl
theorem op_neT (hu : X.A.units < cLine) : OpR X (compareOp .NotEq) (rEqT X.K true) := by
  intro pins s σ H x y v u Q I rx ry h
  obtain ⟨a, b, ns, ms, rfl, rfl, ha, hb, q⟩ := h
  cases rx
  cases ry
  obtain ⟨its, r1, p1, _⟩ := I.tuple ha
  obtain ⟨its2, r2, p2, _⟩ := I.tuple hb
  refine (SeqAt.RcNeAt.tuples p1 p2 hu (eqAt_ints r1 r2)) X.prog X.w X.xe _ (fin_bl I q ?_)
  rw [(valsInt r1).1, (valsInt r2).1, all_range_eq]
  rfl
/-- isinstance(x, T), T a built-in type -/
theorem call_isi : CallR X (.builtin "isinstance") (fun xs H Q => ∃ x n t b, xs = [x, .ty n] ∧ TyOf X.K H x t ∧ PySem.W.kitOne X.K t (.type n) = some b ∧ Q (.bl b) H) := by
  intro pins s σ H xs us Q I r h
  obtain ⟨x, n, t, b, rfl, ty, e, q⟩ := h
  cases r with
  | cons r1 r2 =>
    cases r2 with
    | cons r2 r3 =>
      cases r3
      cases r2
      exact isinst_ok I r1 ty e fun tk => ⟨.bl b, H, I.tok tk, rfl, q⟩
end

/-! ### what a comprehension over a thing that stays gives -/
/-- J hands out it 0, it 1, .. (n of them), whatever is laid beside -/
def Fixed (J : It) (n : Nat) (it : Nat → V) (H1 : Hp) : Prop := ∀ H2, Same H1 H2 → (∀ i, i < n → J.go i H2 ∧ ∀ x H', J.yld i H2 x H' → x = it i ∧ H' = H2) ∧ J.stop n H2
theorem fixed_range {lo : Int} {n : Nat} {H : Hp} : Fixed (Itr lo n) n (fun i => .int (lo + i)) H := fun H2 _ => ⟨fun i hi => ⟨hi, fun x H' y => ⟨y.2, y.1⟩⟩, Nat.le_refl _⟩
theorem fixed_tup {K : PySem.W.Frag} {a : Addr} {xs : List V} {H : Hp} (h : SqT K H a xs) : Fixed (Itt K a) xs.length (fun i => xs.getD i .non) H := fun H2 g =>
  ⟨fun i hi => ⟨⟨xs, xs[i], g.tup h, by simp [hi]⟩, fun x H' y => ⟨by
    have := y.2 xs (g.tup h)
    show x = xs.getD i V.non
    rw [List.getD_eq_getElem?_getD, this] <;> rfl, y.1⟩⟩, ⟨xs, g.tup h, Nat.le_refl _⟩⟩
theorem fixed_list {K : PySem.W.Frag} {a : Addr} {xs : List V} {H : Hp} (h : SqL K H a xs) : Fixed (Itl K a) xs.length (fun i => xs.getD i .non) H := fun H2 g =>
  ⟨fun i hi => ⟨⟨xs, xs[i], g.seq h, by simp [hi]⟩, fun x H' y => ⟨by
    have := y.2 xs (g.seq h)
    show x = xs.getD i V.non
    rw [List.getD_eq_getElem?_getD, this] <;> rfl, y.1⟩⟩, ⟨xs, g.seq h, Nat.le_refl _⟩⟩
theorem filter_succ {f : Nat → Bool} {y : Nat → V} (i : Nat) : ((List.range (i + 1)).filter f).map y = if f i = true then ((List.range i).filter f).map y ++ [y i] else ((List.range i).filter f).map y := by
  rw [List.range_succ, List.filter_append, List.map_append]
  by_cases h : f i = true
  · rw [if_pos h]; simp [h]
  · rw [if_neg h]; simp [h]
/-- one name as the target: f the test, y the element, both by the turn -/
theorem comp_of {J : It} {tc : TT} {te : TE} {Q : VK} {H1 : Hp} {n : Nat} {it y : Nat → V} {f : Nat → Bool} {rest : St} (fx : Fixed J n it H1) (hn : n ≤ sizeLine)
    (ht : ∀ i H2, i < n → Same H1 H2 → ∀ C : Bool → Hp → Prop, (∀ H4, Same H2 H4 → C (f i) H4) → tc (some (it i) :: rest) H2 C)
    (he : ∀ i H2, i < n → f i = true → Same H1 H2 → ∀ C : VK, (∀ H5, Same H2 H5 → C (y i) H5) → te (some (it i) :: rest) H2 C)
    (hQ : ∀ D H', Same H1 H' → H' D = some (.lst (((List.range n).filter f).map y)) → Q (.ref D) H') :
    CompLoop J H1 (gName 0) tc te (Option.none :: rest) Q := by
  intro D hD
  refine ⟨fun i m σ1 H2 => m = n - i ∧ i ≤ n ∧ (∃ o, σ1 = o :: rest) ∧ Same H1 H2 ∧ H2 D = some (.lst (((List.range i).filter f).map y)), ⟨n, rfl, Nat.zero_le _, ⟨_, rfl⟩, Same.new hD _, upd_same⟩, ?_⟩
  rintro i m σ1 H2 ⟨rfl, hi, ⟨o, rfl⟩, g, e⟩
  obtain ⟨f1, f2⟩ := fx H2 g
  by_cases lt : i < n
  · refine .inr ⟨(f1 i lt).1, fun σ' H' => (∃ o, σ' = o :: rest) ∧ Same H1 H' ∧ H' D = some (.lst (((List.range (i + 1)).filter f).map y)), fun σ' H' q => ⟨n - (i + 1), by omega, rfl, lt, q⟩, fun x H' yl => ?_⟩
    obtain ⟨rfl, rfl⟩ := (f1 i lt).2 x H' yl
    refine ht i _ lt g _ fun H4 g4 => ?_
    have len : (((List.range i).filter f).map y).length ≤ i := by
      rw [List.length_map]
      exact Nat.le_trans (List.length_filter_le _ _) (by rw [List.length_range]; exact Nat.le_refl _)
    by_cases b : f i = true
    · rw [if_pos b]
      refine he i H4 lt b (g.trans g4) _ fun H5 g5 => ?_
      refine ⟨_, g5 _ _ (g4 _ _ e), by omega, ⟨_, rfl⟩, ?_, ?_⟩
      · intro c u q
        have := (g.trans (g4.trans g5)) c u q
        rw [upd_ne (ne_of_none q hD)]
        exact this
      · rw [upd_same, filter_succ, if_pos b]
    · rw [if_neg b]
      exact ⟨⟨_, rfl⟩, g.trans g4, by rw [filter_succ, if_neg b]; exact g4 _ _ e⟩
  · have e' : i = n := by omega
    subst e'
    exact .inl ⟨f2, hQ D H2 g e⟩
/-- without a test -/
theorem map_all {y : Nat → V} {n : Nat} : ((List.range n).filter fun _ => true).map y = (List.range n).map y := by
  rw [List.filter_eq_self.mpr fun _ _ => rfl]
end L2

/-! ## A DEF AS A CALLEE -/
namespace L2
open PySem PySem.Spec PyProof.Rows
/-- a def of the module that keeps its promise -/
def Fn (P : Program) (w : World) (K : PySem.W.Frag) (mg : Str → Option Value) (base : Heap) (x : Str) (k : Nat) (ps : List Str) (sp : Sp) : Prop :=
  ∃ (f : Addr) (fd : FuncData), FnOk P w K mg base CX0 k f fd ps sp ∧ Binds K fd ps [] ∧ PySem.W.keepIn K (.ref f) = true ∧ mg x = some (.ref f)
theorem pe_fn {X : Cx} {x : Str} {j k : Nat} {ps : List Str} {sp : Sp} {e : Expr} {es : List Expr} {t : TA} {p pos : Pos} (F : Fn X.prog X.w X.K X.mg X.base x j ps sp) (hr : Room k X.A) (ha : PA X (e :: es) t) (hjk : j ≤ k := by decide) (hg : Gl X x := by rfl)
    (hdb : (x == ("__debug__" : Str)) = false := by decide) (he : starEach (e :: es) X.env = (false, eval e X.env) :: starEach es X.env := by rfl) (hpl : (backTo pos (starEach es X.env)).any (·.1) = false := by rfl) :
    PE X (.Call (.Name x p) (e :: es) [] pos) (tCall sp [] E0 t) := by
  obtain ⟨f, fd, ok, hb, hk, hm⟩ := F
  exact pe_call (ok.mono hjk) hr hg hm hk hb .nil pass0 ha hdb he hpl
/-- the built-in names that the texts use: none of them is bound by the module -/
structure Bl (mg : Str → Option Value) : Prop where
  len : mg "len" = none
  range : mg "range" = none
  tuple : mg "tuple" = none
  list : mg "list" = none
  int : mg "int" = none
  bool : mg "bool" = none
  isin : mg "isinstance" = none
theorem bLen : bootBuiltins "len" = some (.builtin "len") := by decide +kernel
theorem bRange : bootBuiltins "range" = some (.type "range") := by decide +kernel
theorem bTuple : bootBuiltins "tuple" = some (.type "tuple") := by decide +kernel
theorem bList : bootBuiltins "list" = some (.type "list") := by decide +kernel
theorem bInt : bootBuiltins "int" = some (.type "int") := by decide +kernel
theorem bBool : bootBuiltins "bool" = some (.type "bool") := by decide +kernel
theorem bIsin : bootBuiltins "isinstance" = some (.builtin "isinstance") := by decide +kernel
section
variable {X : Cx} {e : Expr} {te : TE} {p pos : Pos}
/-- len(e) -/
def rLen (K : PySem.W.Frag) : List V → Hp → VK → Prop := fun xs H Q => ∃ p ys, xs = [.ref p] ∧ (SqL K H p ys ∨ SqT K H p ys) ∧ Q (.int ys.length) H
theorem pe_len (b : Bl X.mg) (h : PE X e te) (hg : Gl X "len" := by rfl) (he : starEach [e] X.env = (false, eval e X.env) :: starEach [] X.env := by rfl) (hpl : (backTo pos (starEach [] X.env)).any (·.1) = false := by rfl) :
    PE X (.Call (.Name "len" p) [e] [] pos) (tCB (rLen X.K) (tCons te tNil)) :=
  pe_callB (X := X) (pos := pos) (p := p) call_len_seq hg b.len bLen (pa_cons h pa_nil he) (by decide) (by decide) he hpl
end
/-- a tuple's item by its place -/
theorem atI_int {ns : List Int} {i : Int} (h0 : 0 ≤ i) (h1 : i < (ns.length : Int)) : atI (ns.map V.int) i = some (.int (ns.getD i.toNat 0)) := by
  have hk : i.toNat < ns.length := by omega
  have ek : i = ((i.toNat : Nat) : Int) := by omega
  have q : atI (ns.map V.int) ((i.toNat : Nat) : Int) = some (.int (ns.getD i.toNat 0)) := atI_nat (by
    rw [List.getElem?_map, List.getElem?_eq_getElem hk, List.getD_eq_getElem?_getD, List.getElem?_eq_getElem hk] <;> rfl)
  rw [← ek] at q
  exact q
theorem inV_int {ns : List Int} {x : Int} : inV (.int x) (ns.map V.int) = decide (x ∈ ns) := by
  unfold inV
  rw [Bool.eq_iff_iff, List.any_eq_true, decide_eq_true_iff]
  constructor
  · rintro ⟨v, hv, e⟩
    obtain ⟨n, hn, rfl⟩ := List.mem_map.mp hv
    have : n = x := eq_of_beq (show (n == x) = true from e)
    exact this ▸ hn
  · intro h
    exact ⟨.int x, List.mem_map.mpr ⟨x, h, rfl⟩, beq_self_eq_true x⟩
theorem flat_ints (ns : List Int) : (ns.map V.int).all flatV = true := by
  rw [List.all_eq_true]
  intro v hv
  obtain ⟨n, _, rfl⟩ := List.mem_map.mp hv
  rfl
/-- t[:k] and t[k:] for a place k -/
theorem cut_to {xs : List V} {k : Nat} (h : k ≤ xs.length) : cutV xs none (some (k : Int)) = xs.take k := by
  unfold cutV
  rw [HT.sIx_none, HT.sIx_nat, Nat.min_eq_left h, Nat.sub_zero, List.drop_zero]
theorem cut_from {xs : List V} {k : Nat} (h : k ≤ xs.length) : cutV xs (some (k : Int)) none = xs.drop k := by
  unfold cutV
  rw [HT.sIx_none, HT.sIx_nat, Nat.min_eq_left h]
  exact List.take_of_length_le (by rw [List.length_drop]; exact Nat.le_refl _)
end L2

/-! ## t > u of tuples of ints -/
namespace HT
open PySem PyProof.Rows
theorem rcGt_int (A : Around) (s : Shared) (a : Int) (t : Tok) (c : Int) (u : Tok) (prog : Program) (w : World) (E : Value → Shared → Prop) (Q : Value → Shared → Prop) (h : Q (.bool (decide (c < a))) s) :
    wpAny (model prog w) A (richCompare .Gt (.int a t) (.int c u)) Q E s :=
  (PyProof.Rows.gt_int h : wpAny (model prog w) A (compareOp .Gt (.int a t) (.int c u)) Q E s)
section
open PySem.SeqAt
open PySem.AutoSeq1 (wpAny_loadPart')
open PySem.MeetsSeq PySem.MeetsSeq2 PySem.MeetsSeq3
theorem tuple_gt_ints (l b : Addr) (items items2 : Array Value) (n n2 : Nat) (dd dd2 : Option Addr) (sl sl2 : Array (Option Value)) (ns ms : List Int) (hi : IntsAre items.toList ns) (hj : IntsAre items2.toList ms) :
    Meets (Builtin.«tuple.__gt__» ⟨[.ref l, .ref b], []⟩)
      (fun _ R s => s.heap.get? l = some { cls := .type "tuple", dict := dd, data := .seq items n, slots := sl } ∧ s.heap.get? b = some { cls := .type "tuple", dict := dd2, data := .seq items2 n2, slots := sl2 } ∧
        R (.ok (.ret (.bool (lexLt ms ns)))) s) :=
  .of_wp fun prog w A R s h => by
    obtain ⟨hp, g, d, tk, os⟩ := s; obtain ⟨hl, hb, h⟩ := h
    have f2 := AutoSeq1.sub_tuple_tuple
    have z1 : items.size = ns.length := by rw [← hi.length]; simp
    have z2 : items2.size = ms.length := by rw [← hj.length]; simp
    wp_walk using wpAny_loadPart' hl, wpAny_loadPart' hb, wpAny_forIn_list _ (fun rest b s' => b.1 = none ∧ s' = ⟨hp, g, d, tk, os⟩ ∧ ∃ (vs ws : List Value) (ns' ms' : List Int), rest = vs.zip ws ∧
      IntsAre vs ns' ∧ IntsAre ws ms' ∧ ns'.length + items2.size = ms'.length + items.size ∧ R (.ok (.ret (.bool (lexLt ms' ns')))) ⟨hp, g, d, tk, os⟩) _
    case turn =>
      rintro ⟨y, x⟩ rest b s' ⟨hb', rfl, vs, ws, ns', ms', hz, hvi, hwi, hlen, hR⟩
      cases hvi with
      | nil => rw [List.zip_nil_left] at hz; cases hz
      | cons a t hvi' =>
        cases hwi with
        | nil => rw [List.zip_nil_right] at hz; cases hz
        | cons c u hwi' =>
          rw [List.zip_cons_cons] at hz
          injection hz with hyx hrest
          injection hyx with hy hx
          subst hy hx
          rw [lexLt_cons] at hR
          simp only [List.length_cons] at hlen
          obtain ⟨e, he, hiff⟩ := eqAt_int A.in1 ⟨hp, g, d, tk, os⟩ a t c u
          refine wpAny_bind (he prog w _ _ ?_)
          cases e with
          | true =>
            rw [if_pos (hiff.mp rfl).symm] at hR
            wp_walk
            exact ⟨rfl, rfl, _, _, _, _, hrest, hvi', hwi', by omega, hR⟩
          | false =>
            rw [if_neg (fun q => absurd (hiff.mpr q.symm) Bool.false_ne_true)] at hR
            have hri := rcGt_int A.in1 ⟨hp, g, d, tk, os⟩ a t c u prog w
            wp_walk using hri
            exact ⟨_, rfl, by simpa using hR⟩
    case fin =>
      rintro ⟨b1, b2⟩ s' ⟨hb', rfl, vs, ws, ns', ms', hz, hvi, hwi, hlen, hR⟩
      simp only at hb'
      subst hb'
      have hv : lexLt ms' ns' = decide (items2.size < items.size) := by
        cases hvi with
        | nil =>
          cases hwi with
          | nil =>
            simp only [List.length_nil] at hlen
            rw [lexLt_nil_nil]
            exact (decide_eq_false (by omega)).symm
          | cons c u hw =>
            simp only [List.length_nil, List.length_cons] at hlen
            rw [lexLt_cons_nil]
            exact (decide_eq_false (by omega)).symm
        | cons a t hv =>
          cases hwi with
          | nil =>
            simp only [List.length_nil, List.length_cons] at hlen
            rw [lexLt_nil_cons]
            exact (decide_eq_true (by omega)).symm
          | cons c u hw =>
            rw [List.zip_cons_cons] at hz
            cases hz
      rw [hv] at hR
      wp_walk
      exact ⟨_, rfl, by simpa [Builtin.Tuple.tupleCompareSizes] using hR⟩
    case h =>
      exact ⟨rfl, rfl, items.toList, items2.toList, ns, ms, rfl, hi, hj, by omega, h⟩
end
section
variable {prog : Program} {w : World} {A : Around} {E : Value → Shared → Prop} {s : Shared}
theorem gt_tupInts {l b : Addr} {items items2 : Array Value} {ns ms : List Int} {Q : Value → Shared → Prop} (hl : IsTup s.heap l items) (hb : IsTup s.heap b items2) (hi : IntsAre items.toList ns) (hj : IntsAre items2.toList ms)
    (hu : A.units < cLine) (h : Q (.bool (lexLt ms ns)) s) : wpAny (model prog w) A (richCompare .Gt (.ref l) (.ref b)) Q E s := by
  obtain ⟨⟨cls, dd, data, sl⟩, ho, hc, n, hd⟩ := id hl
  obtain ⟨⟨cls2, dd2, data2, sl2⟩, ho2, hc2, n2, hd2⟩ := id hb
  simp only at hc hd hc2 hd2
  subst hc hd hc2 hd2
  exact richCompare_meets_room (op := .Gt) ⟨_, ho, rfl⟩ ⟨_, ho2, rfl⟩ PySem.F.slot_tuple_gt PySem.F.entry_tuple_gt (PySem.F.args_tuple_gt_2 _ _) (tuple_gt_ints l b items items2 n n2 dd dd2 sl sl2 ns ms hi hj)
    ⟨ho, ho2, show Value.bool (lexLt ms ns) ≠ Value.notImplemented ∧ Q (.bool (lexLt ms ns)) s from ⟨(fun x => nomatch x), h⟩⟩ hu
end
end HT

/-! ## A LAMBDA: made, called; max(t, key=lambda) -/
namespace L2
open PySem PySem.Spec PyProof.Rows

/-- what a def needs that makes functions of its own: its code record c with the table at T, the builtins' module -/
structure TabAt (mg : Str → Option Value) (base : Heap) (c T : Addr) : Prop where
  hd : PySem.W.CodeHd base c T
  bm : ∃ bm ob, mg "__builtins__" = some (.ref bm) ∧ bm ≠ builtinsNs ∧ bm ≠ mainGlobals ∧ base.get? bm = some ob ∧ ob.cls = .type "module" ∧ ob.dict = some builtinsNs ∧ ob.data = .plain
def CodeE (c : Addr) (q : Str) : HO := .ext fun h => h.CodeRec (.ref c) q
def LamE (f : Addr) (fd : FuncData) : HO := .ext fun h => h.get? f = some { cls := .type "function", data := .func fd }
def tLam (T : Addr) (pos : Pos) (q : Str) (fd : Addr → Value → FuncData) : TE := fun _ H Q => ∃ ps, H T = some (.tbl ps) ∧ TriplesOk ps.toList ∧
  ((codeAmong pos ps.toList = none ∧ ∀ c' f ctv, H c' = none → H f = none → f ≠ c' → Q (.ref f) (upd (upd (upd H T (.tbl (ps ++ #[rawInt pos.line, rawInt pos.col, .ref c']))) c' (CodeE c' q)) f (LamE f (fd c' ctv)))) ∨
   ∃ c', codeAmong pos ps.toList = some (.ref c') ∧ ∀ f ctv, H f = none → Q (.ref f) (upd H f (LamE f (fd c' ctv))))
section
variable {X : Cx} {params : Arguments} {body : Expr} {scope : Scope} {pos : Pos} {c T : Addr} {clos : List (Str × Addr)}
theorem lam_ok {P : Program} {w : World} {H : Hp} {h : Heap} {f : Addr} {fd : FuncData} (e : h.get? f = some { cls := .type "function", data := .func fd }) : ObjOk P w H h f (LamE f fd) :=
  ⟨e, ⟨_, e⟩, fun _ _ p k => k _ p⟩
theorem code_ok {P : Program} {w : World} {H : Hp} {h : Heap} {c : Addr} {q : Str} (e : h.CodeRec (.ref c) q) : ObjOk P w H h c (CodeE c q) := by
  refine ⟨e, ?_, fun h1 h2 p k => ?_⟩
  · obtain ⟨_, o, _, _, z, g, _⟩ := e
    cases z
    exact ⟨o, g⟩
  · obtain ⟨c2, o, vs, t, z, g, r⟩ := p
    cases z
    exact ⟨_, o, vs, t, rfl, k o g, r⟩
theorem pe_lam (tb : TabAt X.mg X.base c T) (hcode : X.env.code = .ref c) (hcl : closureFor scope X.env = pure clos) (hdef : defaultsOf params X.env = ([], []) := by rfl) :
    PE X (.Lambda params body scope pos) (tLam T pos (X.env.qual ++ "<lambda>") fun c' ctv => PySem.W.kla_fn "<lambda>" (X.env.qual ++ "<lambda>") params body scope clos ((X.mg "__name__").getD .none) (.ref c') ctv) := by
  intro pins s σ H Q I h
  obtain ⟨ps, hT, ht, h⟩ := h
  refine PySem.W.kla_eval hdef ?_
  have C := tb.hd.keeps I.bk
  have hP : s.heap.get? T = some (PySem.W.tabObj ps) := I.hok T _ hT
  have hg : s.heap.Ns mainGlobals X.mg := I.mod.glob.keeps I.bk
  obtain ⟨bm, ob, b1, b2, b3, b4, b5, b6, b7⟩ := tb.bm
  have hgP : mainGlobals ≠ T := fun q => by
    obtain ⟨o, es, ep, e, hd, _⟩ := hg
    rw [q, hP] at e; cases e; cases hd
  have hbT : bm ≠ T := fun q => by
    have e := I.bk _ _ b4
    rw [q, hP] at e; cases e; cases b5
  have hb : s.heap.BuiltinsAt X.mg T := ⟨bm, ob, b1, b2, b3, hbT, I.bk _ _ b4, b5, b6, b7⟩
  rcases h with ⟨hnf, h⟩ | ⟨c', hit, h⟩
  · refine PySem.W.kla_makeFunction hcl I.ok.glob hg hcode C hP ht hnf hgP hb fun c' ctv h' tk hx hge hlt hrec htb => ?_
    have hsz : s.heap.objs.size ≤ h'.objs.size := Nat.le_trans hge (Nat.le_of_lt hlt)
    have n1 : H c' = none := I.hok.fresh hge
    have n2 : H h'.objs.size = none := I.hok.fresh hsz
    have ne : h'.objs.size ≠ c' := Nat.ne_of_gt hlt
    have old : ∀ {b : Addr} {o : Obj}, s.heap.get? b = some o → b ≠ c' ∧ b ≠ h'.objs.size := fun e => ⟨Nat.ne_of_lt (Nat.lt_of_lt_of_le (Heap.lt_size e) hge), Nat.ne_of_lt (Nat.lt_of_lt_of_le (Heap.lt_size e) hsz)⟩
    have look : ∀ b u, b ≠ T → H b = some u → upd (upd (upd H T (.tbl (ps ++ #[rawInt pos.line, rawInt pos.col, .ref c']))) c' (CodeE c' (X.env.qual ++ "<lambda>"))) h'.objs.size
        (LamE h'.objs.size (PySem.W.kla_fn "<lambda>" (X.env.qual ++ "<lambda>") params body scope clos ((X.mg "__name__").getD .none) (.ref c') ctv)) b = some u := fun b u hb q => by
      rw [upd_ne (ne_of_none q n2), upd_ne (ne_of_none q n1), upd_ne hb]; exact q
    have lookT : upd (upd (upd H T (.tbl (ps ++ #[rawInt pos.line, rawInt pos.col, .ref c']))) c' (CodeE c' (X.env.qual ++ "<lambda>"))) h'.objs.size
        (LamE h'.objs.size (PySem.W.kla_fn "<lambda>" (X.env.qual ++ "<lambda>") params body scope clos ((X.mg "__name__").getD .none) (.ref c') ctv)) T = some (.tbl (ps ++ #[rawInt pos.line, rawInt pos.col, .ref c'])) := by
      rw [upd_ne (ne_of_none hT n2), upd_ne (ne_of_none hT n1), upd_same]
    refine ⟨.ref h'.objs.size, _, I.un (t' := tk) ?_ ?_, rfl, h c' h'.objs.size ctv n1 n2 ne⟩
    · refine ⟨fun b o e n _ _ => Heap.get?_push_of_some _ (hx b o (fun z => by rw [z, hT] at n; cases n) e), fun b o e n _ _ => ⟨o.slots, Heap.get?_push_of_some _ (hx b o (fun z => by rw [z, hT] at n; cases n) e)⟩, fun b o e n _ => ?_, fun b o e _ => ?_, fun b xs q => ?_, fun b o u q => ?_, fun b vs q => ?_⟩
      · rw [upd_ne (old e).2, upd_ne (old e).1, upd_ne (fun z => by rw [z, hT] at n; cases n)]; exact n
      · by_cases z : b = T
        · rw [z]; exact ⟨_, Heap.get?_push_of_some _ htb⟩
        · exact ⟨o, Heap.get?_push_of_some _ (hx b o z e)⟩
      · exact look b _ (fun z => by rw [z, hT] at q; cases q) q
      · exact look b _ (fun z => by rw [z, hT] at q; cases q) q
      · by_cases z : b = T
        · subst z
          rw [hT] at q; cases q
          exact ⟨_, lookT⟩
        · exact ⟨#[], by rw [look b _ z q]; simp⟩
    · intro b u q
      by_cases zf : b = h'.objs.size
      · subst zf
        rw [upd_same] at q; cases q
        exact lam_ok (Heap.get?_push_size _ rfl)
      · rw [upd_ne zf] at q
        by_cases zc : b = c'
        · subst zc
          rw [upd_same] at q; cases q
          exact code_ok (hrec.push _)
        · rw [upd_ne zc] at q
          by_cases zT : b = T
          · subst zT
            rw [upd_same] at q; cases q
            exact Heap.get?_push_of_some _ htb
          · rw [upd_ne zT] at q
            refine (I.hok b u q).stay (fun d v hd e => Heap.get?_push_of_some _ (hx d v (fun z => ?_) e)) (fun d e => look d _ (fun z => by rw [z, hT] at e; cases e) e) fun d xs e => look d _ (fun z => by rw [z, hT] at e; cases e) e
            rcases hd with hd | hd
            · exact zT (hd.symm.trans z)
            · rw [z, hT] at hd; cases hd
  · refine PySem.W.kla_makeFunctionHit hcl I.ok.glob hg hcode C hP ht hit hb fun ctv h' tk hk hsz => ?_
    have n2 : H h'.objs.size = none := I.hok.fresh hsz
    exact ⟨.ref h'.objs.size, _, (I.kept (t' := tk) hk).laid (t' := tk) (fun b o e => Heap.get?_push_of_some _ e) (Nat.le_refl _) (lam_ok (Heap.get?_push_size _ rfl)), rfl, h h'.objs.size ctv n2⟩
end

/-! ### the lambda is called -/
def lamEnv (scope : Scope) (L : Addr) (clos : List (Str × Addr)) (q : Str) (f c : Addr) : Env :=
  { scope := scope, locals := L, globals := mainGlobals, cells := clos, qual := q ++ ".<locals>.", func := some f, code := .ref c, frame := some L, builtins := builtinsNs }
def cxLam (X : Cx) (scope : Scope) (clos : List (Str × Addr)) (N' : List Str) (q : Str) (f c : Addr) (s : Shared) (H : Hp) : Cx where
  prog := X.prog
  w := X.w
  K := X.K
  mg := X.mg
  base := X.base
  A := X.A.deeper (lamEnv scope s.heap.objs.size clos q f c)
  N := N'
  s₀ := s
  H₀ := H
  env := lamEnv scope s.heap.objs.size clos q f c
  outer := X.stack
  stack := lamEnv scope s.heap.objs.size clos q f c :: X.stack
  ex := []
  calm := X.calm
  fn := fun _ => false
  pn := []
  xe := fun _ _ => False
/-- the slots of the names that the lambda takes from around it -/
def SlotsL (X : Cx) (scope : Scope) : List Str → List Nat → Prop
  | [], [] => True
  | y :: fr, j :: idx => (X.N[j]? = some y ∧ (X.env.scope.names.lookup y = some .cell ∨ X.env.scope.names.lookup y = some .free) ∧ scope.names.lookup y = some .free) ∧ SlotsL X scope fr idx
  | _, _ => False
theorem SlotsL.get {X : Cx} {scope : Scope} {σ : St} : ∀ {fr : List Str} {idx : List Nat} {i : Nat} {y : Str} {v : V}, SlotsL X scope fr idx → fr[i]? = some y → (frSt idx σ)[i]? = some (some v) →
    ∃ j : Nat, X.N[j]? = some y ∧ σ[j]? = some (some v) ∧ (X.env.scope.names.lookup y = some .cell ∨ X.env.scope.names.lookup y = some .free) ∧ scope.names.lookup y = some .free
  | [], [], i, y, v, _, h1, _ => by simp at h1
  | [], _ :: _, i, y, v, h, _, _ => h.elim
  | _ :: _, [], i, y, v, h, _, _ => h.elim
  | z :: fr, j :: idx, 0, y, v, h, h1, h2 => by
    have e : z = y := by simpa using h1
    subst e
    have e2 : (σ[j]?).join = some v := by
      have : (frSt (j :: idx) σ)[0]? = some ((σ[j]?).join) := rfl
      rw [this] at h2
      exact Option.some.inj h2
    refine ⟨j, h.1.1, ?_, h.1.2.1, h.1.2.2⟩
    cases q : σ[j]? with
    | none => rw [q] at e2; cases e2
    | some o => rw [q] at e2; cases o with
      | none => cases e2
      | some u => cases e2; rfl
  | z :: fr, j :: idx, i + 1, y, v, h, h1, h2 => SlotsL.get (fr := fr) (idx := idx) (i := i) h.2 (by simpa using h1) (by simpa [frSt] using h2)
theorem SlotsL.len {X : Cx} {scope : Scope} : ∀ {fr : List Str} {idx : List Nat}, SlotsL X scope fr idx → idx.length = fr.length
  | [], [], _ => rfl
  | [], _ :: _, h => h.elim
  | _ :: _, [], h => h.elim
  | _ :: _, _ :: _, h => by rw [List.length_cons, List.length_cons, h.2.len]
structure LamOk (X : Cx) (scope : Scope) (clos : List (Str × Addr)) (x : Str) (fr : List Str) (idx : List Nat) : Prop where
  allC : AllC X.env.cells clos
  has : (scope.names.all fun p => p.2 != .free || (clos.lookup p.1).isSome) = true
  cell : ∀ y ∈ scope.names, y.2 ≠ .cell
  kind : scope.kind = .function
  co : scope.isCoroutine = false
  gen : scope.isGenerator = false
  par : scope.names.lookup x = some .local
  slots : SlotsL X scope fr idx
theorem lam_call {X : Cx} {pins : List (Addr × Obj)} {σ : St} {H : Hp} {s : Shared} {params : Arguments} {body : Expr} {scope : Scope} {clos : List (Str × Addr)} {q x : Str} {f c : Addr} {pm ctv : Value} {fr : List Str} {idx : List Nat} {te : TE} {Q : VK} {v : V} {u : Value} {k : Nat}
    (ok : LamOk X scope clos x fr idx) (I : Inv X pins σ H s) (hr : Room k X.A) (hf : H f = some (LamE f (PySem.W.kla_fn "<lambda>" q params body scope clos pm (.ref c) ctv))) (hc : H c = some (CodeE c q)) (rv : RelV v u)
    (hbind : bindArgs (PySem.W.kla_fn "<lambda>" q params body scope clos pm (.ref c) ctv) ⟨[u], []⟩ = pure [(x, u)])
    (hb : PE (cxLam X scope clos (x :: fr) q f c s H) body te) (h : te (some v :: frSt idx σ) H Q) :
    wpAny (model X.prog X.w) X.A (call (.ref f) [u]) (EP X pins σ Q) (fun _ _ => False) s := by
  have ef : s.heap.get? f = some { cls := .type "function", data := .func (PySem.W.kla_fn "<lambda>" q params body scope clos pm (.ref c) ctv) } := (I.hok f _ hf).1
  have ec : s.heap.CodeRec (.ref c) q := (I.hok c _ hc).1
  refine wpAny_call (codeAny_mono (R := fun r s' => match r with | .ok (.ret v) => EP X pins σ Q v s' | _ => False) ?_ fun r s' hq => ?_)
  rotate_left
  · cases r with
    | error e => exact hq
    | ok fl => cases fl <;> exact hq
  refine PySem.W.kla_callFunE hr.depth ef rfl ok.co ok.gen rfl ec ?_
  rw [hbind]
  refine wpAny_pure (wpAny_newFunctionEnv ok.cell (fun y hy => by
    obtain rfl : y = (x, u) := List.mem_singleton.mp hy
    exact ok.par) (fun h₁ hns hsb => ?_) ok.kind)
  have kept : ∀ b o, s.heap.get? b = some o → h₁.get? b = some o := fun b o e => hsb.extBut b o (Nat.ne_of_lt (Heap.lt_size e)) (Heap.get?_push_of_some _ e)
  refine ⟨I.nolimit.keeps kept, PySem.W.kla_codeExpr ?_⟩
  have clOf : ∀ x c, clos.lookup x = some c → X.env.cells.lookup x = some c := fun x c e => ok.allC.look e
  have frOf : ∀ x, (x, NameKind.free) ∈ scope.names → ∃ c, clos.lookup x = some c := fun x m => by
    have q := List.all_eq_true.mp ok.has _ m
    have q' : (clos.lookup x).isSome = true := by simpa using q
    exact Option.isSome_iff_exists.mp q'
  have noA : ∀ b : Addr, b ∉ (cxLam X scope clos (x :: fr) q f c s H).ex := fun b z => absurd (show b ∈ ([] : List Addr) from z) (by simp)
  have J : Inv (cxLam X scope clos (x :: fr) q f c s H) [] (some v :: frSt idx σ) H { s with heap := h₁, toks := s.toks + ([(x, u)] : List (Str × Value)).length } := by
    refine ⟨⟨I.ok.mod, ok.kind, rfl, rfl, Nat.le_refl _, fun x y c h1 h2 => I.ok.inj x y c (clOf x c h1) (clOf y c h2), fun y hy => ?_, fun y c h1 _ => (by cases h1), I.ok.hd, Around.frames_deeper I.ok.frames, .inr ⟨rfl, rfl⟩, fun b z => absurd z (noA b), I.bs, Nat.le_trans I.ok.bsz I.sz, fun b _ _ => noA b, fun b z => absurd z (noA b), I.stack, I.stkFree⟩,
      rfl, I.bare, Un.kept kept, ⟨_, hns, fun i y w' h1 h2 h3 => ?_⟩, fun y c e => ?_, I.hok.fresh (Nat.le_refl _), fun y c e => I.freeC y c (clOf y c e), fun p hp => absurd (show p ∈ ([] : List (Addr × Obj)) from hp) (by simp), I.hok.kept kept, ?_⟩
    · have hy' : scope.names.lookup y = some .cell ∨ scope.names.lookup y = some .free := hy
      rcases hy' with z | z
      · exact absurd rfl (ok.cell _ (PySem.mem_of_lookup z))
      · exact frOf y (PySem.mem_of_lookup z)
    · cases i with
      | zero =>
        have h1x : (x :: fr)[0]? = some y := h1
        have e1 : x = y := by simpa using h1x
        have e2 : v = w' := by simpa using h2
        subst e1 e2
        refine ⟨u, rv, .inl ⟨ok.par, ?_⟩⟩
        simp
      | succ i =>
        have h1x : (x :: fr)[i + 1]? = some y := h1
        have h1' : fr[i]? = some y := by simpa using h1x
        have h2' : (frSt idx σ)[i]? = some (some w') := by simpa using h2
        obtain ⟨j, q1, q2, q3, q4⟩ := ok.slots.get h1' h2'
        obtain ⟨m, hn, hl⟩ := I.loc
        obtain ⟨u', r, l⟩ := hl j y w' q1 q2 (.inr q3)
        refine ⟨u', r, .inr ⟨.inr q4, ?_⟩⟩
        rcases l with ⟨lk, _⟩ | ⟨_, c', lc, cell⟩
        · have lk' : X.env.scope.names.lookup y = some .local := lk
          rcases q3 with z | z <;> rw [z] at lk' <;> cases lk'
        · obtain ⟨c2, e'⟩ := frOf y (PySem.mem_of_lookup q4)
          have := clOf y c2 e'
          rw [lc] at this; cases this
          obtain ⟨o, ho, hd⟩ := cell
          exact ⟨c', e', o, kept c' o ho, hd⟩
    · obtain ⟨w', o, ho, hd⟩ := I.cell y c (clOf y c e)
      exact ⟨w', o, kept c o ho, hd⟩
    · show _ = (x :: fr).length
      rw [List.length_cons, List.length_cons]
      unfold frSt
      rw [List.length_map, ok.slots.len]
  refine wpAny_mono (hb [] _ _ H Q J h) (fun w' s' hq => ?_) fun _ _ z => z.elim
  obtain ⟨v', H', J', rv', q'⟩ := hq
  exact I.after ⟨v', H', J'.os, J'.bare, J'.base, J'.hok, rv', q'⟩

/-! ### max(t, key=f) over a tuple: one of the items -/
abbrev inA (X : Cx) : Cx := { X with A := X.A.in1 }
theorem Inv.inA {X : Cx} {pins : List (Addr × Obj)} {σ : St} {H : Hp} {s : Shared} (I : Inv X pins σ H s) : Inv (inA X) pins σ H s :=
  ⟨⟨I.ok.mod, I.ok.kind, I.ok.glob, I.ok.blt, I.ok.above, I.ok.inj, I.ok.has, I.ok.cab, I.ok.hd, I.ok.frames, I.ok.stk, I.ok.exf, I.ok.bs, I.ok.bsz, I.ok.noex, I.ok.exfs, I.ok.funs, I.ok.frf⟩, I.os, I.bare, I.base, I.loc, I.cell, I.free, I.freeC, I.pin, I.hok, I.len⟩
theorem Inv.outA {X : Cx} {pins : List (Addr × Obj)} {σ : St} {H : Hp} {s : Shared} (I : Inv (L2.inA X) pins σ H s) : Inv X pins σ H s :=
  ⟨⟨I.ok.mod, I.ok.kind, I.ok.glob, I.ok.blt, I.ok.above, I.ok.inj, I.ok.has, I.ok.cab, I.ok.hd, I.ok.frames, I.ok.stk, I.ok.exf, I.ok.bs, I.ok.bsz, I.ok.noex, I.ok.exfs, I.ok.funs, I.ok.frf⟩, I.os, I.bare, I.base, I.loc, I.cell, I.free, I.freeC, I.pin, I.hok, I.len⟩
end L2

/-! ## max(t, key=f) over a tuple: one of the items -/
namespace L2
open PySem PySem.Spec PyProof.Rows
section
variable {X : Cx}
/-- what the key is, by values, while the best so far is kept: a tuple of ints comes, what stood there stays -/
def KeyR (X : Cx) (f : Addr) (σ : St) (H0 : Hp) (xs : List V) : Prop :=
  ∀ (pins : List (Addr × Obj)) (s : Shared) (H : Hp) (v : V) (u : Value) (Q : VK), Inv (inA X) pins σ H s → Same H0 H → v ∈ xs → RelV v u → (∀ (r : Addr) (H' : Hp) (ks : List Int), Same H H' → SqT X.K H' r (ks.map V.int) → Q (.ref r) H') →
    wpAny (model X.prog X.w) X.A.in1 (call (.ref f) [u]) (EP (inA X) pins σ Q) (fun _ _ => False) s
theorem max_name : (toString "max" ++ toString ".loop" : String) = "max.loop" := by decide
theorem keep_two {its : List Value} {x y : V} (r : Vals [x, y] its) : ∃ a b, its = [a, b] ∧ RelV x a ∧ RelV y b := by
  cases r with
  | cons r1 r2 =>
    cases r2 with
    | cons r2 r3 => cases r3; exact ⟨_, _, rfl, r1, r2⟩
theorem mapSeq_at (its : List Value) (n : Nat) (its' : List Value) : ∃ n', Obj.mapSeq (fun _ => its'.toArray) { cls := .type "list", data := .seq its.toArray n } = { cls := .type "list", data := .seq its'.toArray n' } := ⟨_, rfl⟩
theorem max_loop {pins : List (Addr × Obj)} {σ : St} {xs : List V} {l f it S : Addr} {H0 : Hp} {Q : VK} (hc : X.calm = true) (hu : X.A.in1.units < cLine) (hS0 : H0 S = none) (hl : SqT X.K H0 l xs) (key : KeyR X f σ H0 xs) (hQ : ∀ v ∈ xs, ∀ H', Same H0 H' → Q v H') :
    ∀ (r j : Nat) (s : Shared) (H : Hp) (vb : V) (kb : Addr) (ks : List Int), xs.length - j = r → j ≤ xs.length → Inv (inA X) pins σ H s → s.heap.IsTupleIter it l j → FpOk (inA X) pins H it → Same H0 H → H S = some (.lst [vb, .ref kb]) → vb ∈ xs → SqT X.K H kb (ks.map V.int) →
      codeAny (model X.prog X.w) X.A (.builtin "max.loop" ⟨[.ref it, .ref f, .ref S], []⟩) (fun r s' => match r with | .ok (.ret v) => EP X pins σ Q v s' | _ => False) s := by
  intro r
  have T : Turn X.prog X.w X.K (.Constant .none 0 ⟨0, 0, 0, 0⟩) (Itt X.K l) [it] it (fun i h => h.IsTupleIter it l i) := turn_tuple l it
  induction r with
  | zero =>
    intro j s H vb kb ks hr hj I st fp g eS hm hk
    have hin : j = xs.length := by omega
    obtain ⟨z, its, n, rS, oS⟩ := I.hok S _ eS
    obtain ⟨a, b, rfl, ra, rb⟩ := keep_two rS
    refine codeAny_builtin PySem.F.entry_max_loop ?_
    rw [Around.under_plainId PySem.F.plain_max_loop _]
    show wpAny _ X.A.in1 (seqItems? (.ref S) >>= _) _ _ _
    refine wpAny_bind (wpAny_seqItems oS rfl ?_)
    show wpAny _ X.A.in1 (tryCatch (pyNext (.ref it)) _ >>= _) _ _ _
    refine wpAny_bind (wpAny_tryCatch (thn (T.done (inA X) rfl rfl rfl hc j pins s σ H _ I (fun b hb => by rw [List.mem_singleton.mp hb]; exact fp) st ⟨xs, g.tup hl, by omega⟩) fun r s1 ⟨hr1, I1⟩ => ?_))
    subst hr1
    obtain ⟨z1, its1, n1, rS1, oS1⟩ := I1.hok S _ eS
    show wpAny _ X.A.in1 (updateSeq S (fun _ => #[]) >>= _) _ _ _
    refine wpAny_bind ?_
    refine wpAny_updateSeq oS1 rfl ?_ (by rw [List.size_toArray, ← rS1.length]; exact z1) (by show 0 ≤ _; omega)
    refine wpAny_bind (wpAny_letGo (wpAny_pure ?_))
    obtain ⟨n', hn'⟩ := mapSeq_at its1 n1 []
    have I2 := I1.lstUpd (ys := []) (its' := []) (n' := n') eS oS1 (f := Obj.mapSeq fun _ => ([] : List Value).toArray) hn' .nil (Nat.zero_le _) s1.toks
    refine ⟨vb, _, I2.outA, ra, hQ vb hm _ fun c o q => ?_⟩
    rw [upd_ne (ne_of_none q hS0)]
    exact g c o q
  | succ r ih =>
    intro j s H vb kb ks hr hj I st fp g eS hm hk
    have hlt : j < xs.length := by omega
    obtain ⟨z, its, n, rS, oS⟩ := I.hok S _ eS
    obtain ⟨a, b, rfl, ra, rb⟩ := keep_two rS
    cases rb
    refine codeAny_builtin PySem.F.entry_max_loop ?_
    rw [Around.under_plainId PySem.F.plain_max_loop _]
    show wpAny _ X.A.in1 (seqItems? (.ref S) >>= _) _ _ _
    refine wpAny_bind (wpAny_seqItems oS rfl ?_)
    show wpAny _ X.A.in1 (tryCatch (pyNext (.ref it)) _ >>= _) _ _ _
    obtain ⟨its2, rv, p, hz⟩ := I.tuple (g.tup hl)
    obtain ⟨u, hu2, ru⟩ := rv.get (i := j) (x := xs[j]) (by simp [hlt])
    obtain ⟨f0, f1, f2, f3, f4, f5⟩ := id fp
    refine wpAny_bind (wpAny_tryCatch (wpAny_pyNext_tuple_item st (show s.heap.IsTuple l its2.toArray from p) (x := u) (by simpa using hu2) fun h' st' sb => ?_))
    have I1 : Inv (inA X) pins σ H { s with heap := h' } := I.turned (t' := s.toks) (fun b o hb e => (sb.2 b hb).trans e) f0 f1 f3 f4 f5
    have fpA : ∀ b ∈ [it], FpOk (inA X) pins H b := fun b hb => by rw [List.mem_singleton.mp hb]; exact fp
    have obA : ∀ b ∈ [it], ∃ o, h'.get? b = some o ∧ ∀ v, o.data ≠ .cell v := fun b hb => by
      rw [List.mem_singleton.mp hb]
      obtain ⟨o, e, c, d⟩ := st'
      exact ⟨o, e, fun v z => by rw [d] at z; cases z⟩
    have I1' := I1.pinned fpA obA
    show wpAny _ X.A.in1 (tryCatch (holding [u] (call (.ref f) [u])) _ >>= _) _ _ _
    refine wpAny_bind (wpAny_tryCatch (wpAny_holding (wpAny_mono (key _ _ H xs[j] u (fun v H' => ∃ (r : Addr) (ks : List Int), v = .ref r ∧ Same H H' ∧ SqT X.K H' r (ks.map V.int)) I1' g (List.getElem_mem hlt) ru fun r H' ks g' e => ⟨r, ks, rfl, g', e⟩) (fun x s2 he => ?_) fun _ _ z => z.elim)))
    obtain ⟨v2, H2, I2', rx, kr, ks2, rfl, g2, ek⟩ := he
    cases rx
    obtain ⟨oi, ei, di⟩ := obA it (List.mem_singleton.mpr rfl)
    have pi := I2'.pin (it, oi) (List.mem_append_right _ (List.mem_append_right _ (mem_pinsAt (List.mem_singleton.mpr rfl) ei)))
    have st2 : s2.heap.IsTupleIter it l (j + 1) := by
      obtain ⟨o, e, c, d⟩ := st'
      rw [ei] at e; cases e
      exact ⟨oi, pi.1, c, d⟩
    have fp2 : ∀ {H3 : Hp}, H3 it = none → FpOk (inA X) pins H3 it := fun e => ⟨e, f1, f2, f3, f4, f5⟩
    have I2 := I2'.unpinned
    have eS2 := g2 _ _ eS
    obtain ⟨z2, its3, n2, rS2, oS2⟩ := I2.hok S _ eS2
    obtain ⟨a2, b2, rfl, ra2, rb2⟩ := keep_two rS2
    cases rb2
    obtain ⟨i1, q1, p1, _⟩ := I2.tuple ek
    obtain ⟨i2, q2, p2, _⟩ := I2.tuple (g2.tup hk)
    have ne : it ≠ S := fun e => by rw [e, eS] at f0; cases f0
    show wpAny _ X.A.in1 (tryCatch (holding [u, .ref kr] (richCompare .Gt (.ref kr) (.ref kb) >>= _)) _ >>= _) _ _ _
    refine wpAny_bind (wpAny_tryCatch (wpAny_holding (wpAny_bind (HT.gt_tupInts p1 p2 (intsAre_of q1) (intsAre_of q2) hu ?_))))
    refine wpAny_bind (wpAny_holding (wpAny_truthy_bool ?_))
    refine wpAny_bind (wpAny_letGo (wpAny_pure ?_))
    cases hB : HT.lexLt ks ks2 with
    | true =>
      simp only [if_true]
      refine wpAny_bind ?_
      refine wpAny_updateSeq oS2 rfl (wpAny_bind (wpAny_letGo ?_)) (by rw [List.size_toArray, ← rS2.length]; exact z2) (by show 2 ≤ _; have := lineGe (n := 1) (by decide); omega)
      obtain ⟨n', hn'⟩ := mapSeq_at [a2, .ref kb] n2 [u, .ref kr]
      have I3 := I2.lstUpd (ys := [xs[j], .ref kr]) (its' := [u, .ref kr]) (n' := n') eS2 oS2 (f := Obj.mapSeq fun _ => ([u, .ref kr] : List Value).toArray) hn' (.cons ru (.cons rfl .nil)) (lineGe (by show 2 ≤ 1000; decide)) s2.toks
      rw [max_name]
      have g3 : Same H0 (upd H2 S (.lst [xs[j], .ref kr])) := fun c o q => by
        rw [upd_ne (ne_of_none q hS0)]
        exact g2 _ _ (g c o q)
      refine wpAny_pure ⟨plainId_quiet PySem.F.plain_max_loop _, ih (j + 1) _ _ xs[j] kr ks2 (by omega) (by omega) I3 ?_ (fp2 (by rw [upd_ne ne]; exact pi.2.1)) g3 upd_same (List.getElem_mem hlt) ?_⟩
      · obtain ⟨o, e, c, d⟩ := st2
        exact ⟨o, (Heap.get?_update_other _ _ (Ne.symm ne)).trans e, c, d⟩
      · rcases ek with (e | ⟨o, e⟩) | e
        · exact .inl (.inl (by rw [upd_ne (fun z => by rw [z, eS2] at e; cases e)]; exact e))
        · exact .inl (.inr ⟨o, by rw [upd_ne (fun z => by rw [z, eS2] at e; cases e)]; exact e⟩)
        · exact .inr e
    | false =>
      simp only [Bool.false_eq_true, if_false]
      refine wpAny_bind (wpAny_letGo ?_)
      rw [max_name]
      exact wpAny_pure ⟨plainId_quiet PySem.F.plain_max_loop _, ih (j + 1) _ _ vb kb ks (by omega) (by omega) I2 st2 (fp2 pi.2.1) (g.trans g2) eS2 hm (g2.tup hk)⟩
/-- the first item, then the loop -/
theorem max_call {pins : List (Addr × Obj)} {σ : St} {xs : List V} {l f : Addr} {H : Hp} {s : Shared} {Q : VK} (hc : X.calm = true) (hu : X.A.in1.units < cLine) (I : Inv X pins σ H s) (hl : SqT X.K H l xs) (hne : 0 < xs.length) (key : KeyR X f σ H xs) (hQ : ∀ v ∈ xs, ∀ H', Same H H' → Q v H') :
    wpAny (model X.prog X.w) X.A (call (.builtin "max") [.ref l] [(Str.ofString "key", .ref f)]) (EP X pins σ Q) (fun _ _ => False) s := by
  refine kmk_tree PySem.F.kind_max PySem.F.plain_max PySem.F.entry_max (kmk_max_key _ _) ?_
  show wpAny _ X.A.in1 (Builtin.Builtins.bindParams "max" ["key", "default"] 0 ⟨[], [(Str.ofString "key", .ref f)]⟩ >>= _) _ _ s
  refine wpAny_bind (wpAny_of_eq (show Builtin.Builtins.bindParams "max" ["key", "default"] 0 ⟨[], [(Str.ofString "key", .ref f)]⟩ = pure [some (.ref f), none] from rfl) ?_)
  refine wpAny_bind (wpAny_pure ?_)
  obtain ⟨its, rv, p, hz⟩ := I.tuple hl
  refine wpAny_bind (wpAny_pyIter_tuple (show s.heap.IsTuple l its.toArray from p) ?_)
  refine wpAny_bind (wpAny_newList ?_ (Nat.zero_le _))
  rw [max_name]
  refine wpAny_pure ⟨plainId_quiet PySem.F.plain_max_loop _, ?_⟩
  -- the iterator and the keeper
  have fpI := I.fpOk (b := s.heap.objs.size) (Nat.le_refl _) (I.hok.fresh (Nat.le_refl _))
  have I1 : Inv X pins σ H { s with heap := s.heap.push { cls := .type "tuple_iterator", data := .fields #[.ref l, .int 0 0] } } := I.kept (t' := s.toks) fun b o e => Heap.get?_push_of_some _ e
  have it1 : (s.heap.push { cls := .type "tuple_iterator", data := .fields #[.ref l, .int 0 0] }).IsTupleIter s.heap.objs.size l 0 := ⟨_, Heap.get?_push_size _ rfl, rfl, rfl⟩
  generalize hh : s.heap.push { cls := .type "tuple_iterator", data := .fields #[.ref l, .int 0 0] } = h1 at I1 it1 ⊢
  have lt1 : s.heap.objs.size < h1.objs.size := by rw [← hh, Heap.size_push]; exact Nat.lt_succ_self _
  generalize s.heap.objs.size = it at fpI it1 lt1 ⊢
  have hS0 : H h1.objs.size = none := I1.hok.fresh (Nat.le_refl _)
  have I2 : Inv X pins σ (upd H h1.objs.size (.lst [])) { s with heap := h1.push { cls := .type "list", data := .seq ([] : List Value).toArray } } := I1.lnew (t' := s.toks) (its := []) .nil (Nat.zero_le _)
  have it2 : (h1.push { cls := .type "list", data := .seq ([] : List Value).toArray }).IsTupleIter it l 0 := by
    obtain ⟨o, e, c, d⟩ := it1
    exact ⟨o, Heap.get?_push_of_some _ e, c, d⟩
  have oS : (h1.push { cls := .type "list", data := .seq ([] : List Value).toArray }).get? h1.objs.size = some { cls := .type "list", data := .seq ([] : List Value).toArray } := Heap.get?_push_size _ rfl
  generalize h1.objs.size = S at hS0 I2 oS lt1 ⊢
  generalize h1.push { cls := .type "list", data := .seq ([] : List Value).toArray } = h2 at I2 it2 oS ⊢
  have J2 := I2.inA
  have g : Same H (upd H S (.lst [])) := Same.new hS0 _
  obtain ⟨f0, f1, f2, f3, f4, f5⟩ := id fpI
  have ne : it ≠ S := Nat.ne_of_lt lt1
  have fp : FpOk (inA X) pins (upd H S (.lst [])) it := ⟨by rw [upd_ne ne]; exact f0, f1, f2, f3, f4, f5⟩
  refine codeAny_mono (R := fun r s' => match r with | .ok (.ret v) => EP X pins σ Q v s' | _ => False) ?_ fun r s' hq => ?_
  rotate_left
  · cases r with
    | error e => exact hq
    | ok fl => cases fl <;> exact hq
  refine codeAny_builtin PySem.F.entry_max_loop ?_
  rw [Around.under_plainId PySem.F.plain_max_loop _]
  show wpAny _ X.A.in1 (seqItems? (.ref S) >>= _) _ _ _
  refine wpAny_bind (wpAny_seqItems oS rfl ?_)
  show wpAny _ X.A.in1 (tryCatch (pyNext (.ref it)) _ >>= _) _ _ _
  obtain ⟨its2, rv2, p2, _⟩ := J2.tuple (g.tup hl)
  obtain ⟨u, hu2, ru⟩ := rv2.get (i := 0) (x := xs[0]) (by simp [hne])
  refine wpAny_bind (wpAny_tryCatch (wpAny_pyNext_tuple_item it2 (show h2.IsTuple l its2.toArray from p2) (x := u) (by simpa using hu2) fun h' st' sb => ?_))
  have J3 : Inv (inA X) pins σ (upd H S (.lst [])) { s with heap := h' } := J2.turned (t' := s.toks) (fun b o hb e => (sb.2 b hb).trans e) fp.1 f1 f3 f4 f5
  have fpA : ∀ b ∈ [it], FpOk (inA X) pins (upd H S (.lst [])) b := fun b hb => by rw [List.mem_singleton.mp hb]; exact fp
  have obA : ∀ b ∈ [it], ∃ o, h'.get? b = some o ∧ ∀ v, o.data ≠ .cell v := fun b hb => by
    rw [List.mem_singleton.mp hb]
    obtain ⟨o, e, c, d⟩ := st'
    exact ⟨o, e, fun v z => by rw [d] at z; cases z⟩
  have J3' := J3.pinned fpA obA
  show wpAny _ X.A.in1 (tryCatch (holding [u] (call (.ref f) [u])) _ >>= _) _ _ _
  refine wpAny_bind (wpAny_tryCatch (wpAny_holding (wpAny_mono (key _ _ _ xs[0] u (fun v H' => ∃ (r : Addr) (ks : List Int), v = .ref r ∧ Same (upd H S (.lst [])) H' ∧ SqT X.K H' r (ks.map V.int)) J3' g (List.getElem_mem hne) ru fun r H' ks g' e => ⟨r, ks, rfl, g', e⟩) (fun x s2 he => ?_) fun _ _ z => z.elim)))
  obtain ⟨v2, H2, I4', rx, kr, ks2, rfl, g2, ek⟩ := he
  cases rx
  obtain ⟨oi, ei, di⟩ := obA it (List.mem_singleton.mpr rfl)
  have pi := I4'.pin (it, oi) (List.mem_append_right _ (List.mem_append_right _ (mem_pinsAt (List.mem_singleton.mpr rfl) ei)))
  have I4 := I4'.unpinned
  have eS2 := g2 _ _ upd_same
  obtain ⟨z2, its3, n2, rS2, oS2⟩ := I4.hok S _ eS2
  show wpAny _ X.A.in1 (updateSeq S (fun _ => #[u, .ref kr]) >>= _) _ _ _
  refine wpAny_bind ?_
  refine wpAny_updateSeq oS2 rfl ?_ (by rw [List.size_toArray, ← rS2.length]; exact z2) (by show 2 ≤ _; have := lineGe (n := 1) (by decide); omega)
  obtain ⟨n', hn'⟩ := mapSeq_at its3 n2 [u, .ref kr]
  have I5 := I4.lstUpd (ys := [xs[0], .ref kr]) (its' := [u, .ref kr]) (n' := n') eS2 oS2 (f := Obj.mapSeq fun _ => ([u, .ref kr] : List Value).toArray) hn' (.cons ru (.cons rfl .nil)) (lineGe (by show 2 ≤ 1000; decide)) s2.toks
  rw [max_name]
  have g3 : Same H (upd H2 S (.lst [xs[0], .ref kr])) := fun c o q => by
    rw [upd_ne (ne_of_none q hS0)]
    exact g2 _ _ (g c o q)
  refine wpAny_pure ⟨plainId_quiet PySem.F.plain_max_loop _, max_loop hc hu hS0 hl key hQ _ 1 _ _ xs[0] kr ks2 rfl hne I5 ?_ ⟨by rw [upd_ne ne]; exact pi.2.1, f1, f2, f3, f4, f5⟩ g3 upd_same (List.getElem_mem hne) ?_⟩
  · obtain ⟨o, e, c, d⟩ := st'
    rw [ei] at e; cases e
    exact ⟨oi, (Heap.get?_update_other _ _ (Ne.symm ne)).trans pi.1, c, d⟩
  · rcases ek with (e | ⟨o, e⟩) | e
    · exact .inl (.inl (by rw [upd_ne (fun z => by rw [z, eS2] at e; cases e)]; exact e))
    · exact .inl (.inr ⟨o, by rw [upd_ne (fun z => by rw [z, eS2] at e; cases e)]; exact e⟩)
    · exact .inr e
end
end L2

/-! ## max(t, key=lambda ..) as an expression; a law whose defs make functions -/
namespace L2
open PySem PySem.Spec PyProof.Rows
section
variable {X : Cx}
def tMaxLam (K : PySem.W.Frag) (T : Addr) (lpos : Pos) (q : Str) (fd : Addr → Value → FuncData) (te tbody : TE) (idx : List Nat) : TE := fun σ H Q => te σ H fun x H1 => tLam T lpos q fd σ H1 fun fv H2 =>
  ∃ (l : Addr) (xs : List V) (f c' : Addr) (ctv : Value), x = .ref l ∧ fv = .ref f ∧ SqT K H2 l xs ∧ 0 < xs.length ∧ H2 f = some (LamE f (fd c' ctv)) ∧ H2 c' = some (CodeE c' q) ∧
    (∀ v ∈ xs, ∀ H3, Same H2 H3 → ∀ C : VK, (∀ (r : Addr) (H' : Hp) (ks : List Int), Same H3 H' → SqT K H' r (ks.map V.int) → C (.ref r) H') → tbody (some v :: frSt idx σ) H3 C) ∧ ∀ v ∈ xs, ∀ H', Same H2 H' → Q v H'
theorem bMax : bootBuiltins "max" = some (.builtin "max") := by decide +kernel
theorem pe_maxlam {e body : Expr} {te tbody : TE} {params : Arguments} {lscope : Scope} {lpos p pos kpos : Pos} {c T : Addr} {clos : List (Str × Addr)} {x : Str} {fr : List Str} {idx : List Nat} {k : Nat}
    (hm : X.mg "max" = none) (hg : Gl X "max") (hcalm : X.calm = true) (hr : Room (k + 1) X.A) (he : PE X e te) (tb : TabAt X.mg X.base c T) (hcode : X.env.code = .ref c) (hcl : closureFor lscope X.env = pure clos) (ok : LamOk (inA X) lscope clos x fr idx)
    (hb : ∀ f c' s H, PE (cxLam (inA X) lscope clos (x :: fr) (X.env.qual ++ "<lambda>") f c' s H) body tbody)
    (hbind : ∀ (pm : Value) (c' : Addr) (ctv u : Value), bindArgs (PySem.W.kla_fn "<lambda>" (X.env.qual ++ "<lambda>") params body lscope clos pm (.ref c') ctv) ⟨[u], []⟩ = pure [(x, u)])
    (hdef : defaultsOf params X.env = ([], []) := by rfl)
    (h1 : backTo pos (starEach [e] X.env) = (false, eval e X.env) :: backTo pos (starEach [] X.env) := by rfl) (h2 : starEach [e] X.env = (false, eval e X.env) :: starEach [] X.env := by rfl) (h3 : (backTo pos (starEach [e] X.env)).any (·.1) = false := by rfl) :
    PE X (.Call (.Name "max" p) [e] [⟨some "key", .Lambda params body lscope lpos, kpos⟩] pos)
      (tMaxLam X.K T lpos (X.env.qual ++ "<lambda>") (fun c' ctv => PySem.W.kla_fn "<lambda>" (X.env.qual ++ "<lambda>") params body lscope clos ((X.mg "__name__").getD .none) (.ref c') ctv) te tbody idx) := by
  intro pins s σ H Q I h
  refine wpAny_Call_Name_kw (ld_blt I hg hm bMax ?_)
  refine PyProof.Rows.callWith_kw (thn (pa_cons he pa_nil h2 pos pins s σ H (fun vs H1 => match vs with
    | [x] => tLam T lpos (X.env.qual ++ "<lambda>") (fun c' ctv => PySem.W.kla_fn "<lambda>" (X.env.qual ++ "<lambda>") params body lscope clos ((X.mg "__name__").getD .none) (.ref c') ctv) σ H1 fun fv H2 =>
        ∃ (l : Addr) (xs : List V) (f c' : Addr) (ctv : Value), x = .ref l ∧ fv = .ref f ∧ SqT X.K H2 l xs ∧ 0 < xs.length ∧ H2 f = some (LamE f (PySem.W.kla_fn "<lambda>" (X.env.qual ++ "<lambda>") params body lscope clos ((X.mg "__name__").getD .none) (.ref c') ctv)) ∧ H2 c' = some (CodeE c' (X.env.qual ++ "<lambda>")) ∧
          (∀ v ∈ xs, ∀ H3, Same H2 H3 → ∀ C : VK, (∀ (r : Addr) (H' : Hp) (ks : List Int), Same H3 H' → SqT X.K H' r (ks.map V.int) → C (.ref r) H') → tbody (some v :: frSt idx σ) H3 C) ∧ ∀ v ∈ xs, ∀ H', Same H2 H' → Q v H'
    | _ => False) I h) fun us s1 hus => ?_) h1 h3 rfl rfl
  obtain ⟨vs, H1, I1, r1, q1⟩ := hus
  cases r1 with
  | nil => exact q1.elim
  | @cons x u vs' us' rx r2 =>
    cases r2 with
    | cons _ _ => exact q1.elim
    | nil =>
      refine thn (pk_cons (nm := some "key") (kpos := kpos) (pe_lam tb hcode hcl hdef) pk_nil pos pins s1 σ H1 (fun zs H2 => match zs with
        | [fv] => ∃ (l : Addr) (xs : List V) (f c' : Addr) (ctv : Value), x = .ref l ∧ fv = .ref f ∧ SqT X.K H2 l xs ∧ 0 < xs.length ∧ H2 f = some (LamE f (PySem.W.kla_fn "<lambda>" (X.env.qual ++ "<lambda>") params body lscope clos ((X.mg "__name__").getD .none) (.ref c') ctv)) ∧ H2 c' = some (CodeE c' (X.env.qual ++ "<lambda>")) ∧
          (∀ v ∈ xs, ∀ H3, Same H2 H3 → ∀ C : VK, (∀ (r : Addr) (H' : Hp) (ks : List Int), Same H3 H' → SqT X.K H' r (ks.map V.int) → C (.ref r) H') → tbody (some v :: frSt idx σ) H3 C) ∧ ∀ v ∈ xs, ∀ H', Same H2 H' → Q v H'
        | _ => False) I1 q1) fun ws s2 hws => ?_
      obtain ⟨zs, H2, I2, rz, q2⟩ := hws
      cases rz with
      | nil => exact q2.elim
      | @cons fv fu zs' us2 rf r3 =>
        cases r3 with
        | cons _ _ => exact q2.elim
        | nil =>
          obtain ⟨l, xs, f, c', ctv, rfl, rfl, hl, hne, hf, hc', hkey, hQ⟩ := q2
          cases rx
          cases rf
          have hr1 : Room k X.A.in1 := hr.in1
          refine wpAny_mono (max_call hcalm hr1.units0 I2 hl hne (fun pins' s' H' v' u' Q' J g hv ru hq => ?_) hQ) (fun _ _ q => q) fun _ _ z => z.elim
          exact lam_call (X := inA X) ok J hr1 (g _ _ hf) (g _ _ hc') ru (hbind _ c' ctv u') (hb f c' s' H') (hkey v' hv H' g Q' hq)
end

/-! ### what stands but for the code table at T -/
def SameB (T : Addr) (H H' : Hp) : Prop := ∀ b o, b ≠ T → H b = some o → H' b = some o
theorem Same.but {H H' : Hp} (g : Same H H') (T : Addr) : SameB T H H' := fun b o _ q => g b o q
theorem SameB.refl (T : Addr) (H : Hp) : SameB T H H := fun _ _ _ q => q
theorem SameB.trans {T : Addr} {H H1 H2 : Hp} (a : SameB T H H1) (b : SameB T H1 H2) : SameB T H H2 := fun c o n q => b c o n (a c o n q)
/-- the table: nothing made yet, or the one lambda's record -/
def TabSt (T : Addr) (pos : Pos) (q : Str) (H : Hp) : Prop := H T = some (.tbl #[]) ∨ ∃ c', H T = some (.tbl #[rawInt pos.line, rawInt pos.col, .ref c']) ∧ H c' = some (CodeE c' q)
theorem TabSt.same {T : Addr} {pos : Pos} {q : Str} {H H' : Hp} (g : Same H H') (h : TabSt T pos q H) : TabSt T pos q H' := by
  rcases h with h | ⟨c', h1, h2⟩
  · exact .inl (g _ _ h)
  · exact .inr ⟨c', g _ _ h1, g _ _ h2⟩
theorem TabSt.tbl {T : Addr} {pos : Pos} {q : Str} {H : Hp} (h : TabSt T pos q H) : ∃ ps, H T = some (.tbl ps) := by
  rcases h with h | ⟨c', h1, _⟩
  · exact ⟨_, h⟩
  · exact ⟨_, h1⟩
theorem SameB.tup {K : PySem.W.Frag} {T : Addr} {H H' : Hp} {a : Addr} {xs : List V} (e : SameB T H H') (t : ∃ ps, H T = some (.tbl ps)) (h : SqT K H a xs) : SqT K H' a xs := by
  obtain ⟨ps, t⟩ := t
  rcases h with (h | ⟨o, h⟩) | h
  · exact .inl (.inl (e _ _ (fun z => by rw [z, t] at h; cases h) h))
  · exact .inl (.inr ⟨o, e _ _ (fun z => by rw [z, t] at h; cases h) h⟩)
  · exact .inr h
theorem SameB.seq {K : PySem.W.Frag} {T : Addr} {H H' : Hp} {a : Addr} {xs : List V} (e : SameB T H H') (t : ∃ ps, H T = some (.tbl ps)) (h : SqL K H a xs) : SqL K H' a xs := by
  obtain ⟨ps, t⟩ := t
  rcases h with (h | ⟨o, h⟩) | h
  · exact .inl (.inl (e _ _ (fun z => by rw [z, t] at h; cases h) h))
  · exact .inl (.inr ⟨o, e _ _ (fun z => by rw [z, t] at h; cases h) h⟩)
  · exact .inr h

/-! ### the law's entry with that table tracked -/
theorem law_callT {P : Program} {w : World} {K : PySem.W.Frag} {mg mb : Str → Option Value} {k : Nat} {fa a c T : Addr} {fd : FuncData} {x : Str} {sp : Sp} {s₁ : Shared} {vs : List Value} {ns : List Int}
    (KX : K.In s₁.heap) (hnt : PySem.W.noTabs K = true) (hns : s₁.heap.Ns mainGlobals mg) (hb : s₁.heap.Ns builtinsNs mb) (hbb : ∀ x : Str, x ≠ "__name__" → mb x = bootBuiltins x) (hlim : s₁.heap.NoLimit) (hg : s₁.gens = #[])
    (hC : PySem.W.CodeHd s₁.heap c T) (hT : s₁.heap.get? T = some (PySem.W.tabObj #[]))
    (hbm : ∃ bm ob, mg "__builtins__" = some (.ref bm) ∧ bm ≠ builtinsNs ∧ s₁.heap.get? bm = some ob ∧ ob.cls = .type "module" ∧ ob.dict = some builtinsNs ∧ ob.data = .plain)
    (ha : s₁.heap.get? a = some { cls := .type "list", data := .seq vs.toArray }) (hi : IntsAre vs ns) (hl : ns.length ≤ sizeLine) (hr : Room k callerA)
    (F : ∀ base : Heap, K.In base → base.Ns mainGlobals mg → TabAt mg base c T → FnOk P w K mg base CX0 k fa fd [x] sp) (hbind : ∀ (s : Shared) (u : Value), BindsTo s fd ⟨[u], []⟩ [(x, u)])
    (hsp : ∀ H : Hp, H T = some (.tbl #[]) → SqL K H a (ns.map V.int) → sp [.ref a] H (fun v _ => v = .bl true) fun _ _ _ => False) :
    codeAny (model P w) callerA (.call (.ref fa) ⟨[.ref a], []⟩) (fun r s' => r = .ok (.ret (.bool true)) ∧ OldK s₁.heap s'.heap ∧ s'.os = s₁.os ∧ AllBare s'.gens) s₁ := by
  have rv := vals_ints hi
  have lenV := hi.length
  have aT : a ≠ T := fun e => by
    rw [e, hT] at ha
    have := Option.some.inj ha
    injection this with h1
    cases h1
  have core : ∀ H : Hp, SqL K H a (ns.map V.int) → HOk P w H s₁.heap → H T = some (.tbl #[]) → (∀ b, H b ≠ none → b = a ∨ b = T) → (∀ u, H a = some u → (∃ ob xs, u = .frz ob (.lst xs)) ∧ K.lookup a = none) →
      codeAny (model P w) callerA (.call (.ref fa) ⟨[.ref a], []⟩) (fun r s' => r = .ok (.ret (.bool true)) ∧ OldK s₁.heap s'.heap ∧ s'.os = s₁.os ∧ AllBare s'.gens) s₁ := by
    intro H hS hok eT hA hK
    have base_of : ∀ {b : Addr} {o : Obj}, s₁.heap.get? b = some o → H b = none → (hidT s₁.heap H).get? b = some o := fun e n => hidT_get e n
    -- untracked is what is neither the script's list nor a table
    have noA : ∀ {b : Addr} {o : Obj}, s₁.heap.get? b = some o → (∀ xs n, o.data ≠ .seq xs n) → o.cls ≠ .none → H b = none := fun {b o} e d1 d2 => by
      cases q : H b with
      | none => rfl
      | some u =>
        rcases hA b (by rw [q]; simp) with z | z
        · subst z
          rw [ha] at e; cases e
          exact absurd rfl (d1 _ _)
        · subst z
          rw [hT] at e; cases e
          exact absurd rfl d2
    have nsK : ∀ {b : Addr} {m : Str → Option Value}, s₁.heap.Ns b m → (hidT s₁.heap H).Ns b m := fun {b m} ⟨o, es, ep, e, d, r⟩ => by
      refine ⟨o, es, ep, base_of e ?_, d, r⟩
      cases q : H b with
      | none => rfl
      | some u =>
        rcases hA b (by rw [q]; simp) with z | z
        · subst z
          rw [ha] at e; cases e; cases d
        · subst z
          rw [hT] at e; cases e; cases d
    have hKb : K.In (hidT s₁.heap H) := fun b o e => base_of (KX b o e) (by
      cases q : H b with
      | none => rfl
      | some u =>
        rcases hA b (by rw [q]; simp) with z | z
        · subst z
          rw [(hK u q).2] at e; cases e
        · subst z
          have e2 := KX _ _ e
          rw [hT] at e2; cases e2
          have h2 := List.all_eq_true.mp hnt _ (PySem.W.mem_of_lookupK e)
          exact absurd (show false = true from h2) Bool.false_ne_true)
    have hM : Mod K mg (hidT s₁.heap H) := ⟨hKb, nsK hns, ⟨mb, nsK hb, hbb⟩, let ⟨mc, h1, h2⟩ := hlim; ⟨mc, nsK h1, h2⟩⟩
    have e0 : Env0 P w K mg (hidT s₁.heap H) callerA [] s₁ H := ⟨rfl, hM, fun b o e => of_hidT e, Nat.le_of_eq (hidT_size _ _), trivial, fun b hb => absurd (show b ∈ ([] : List Addr) from hb) (by simp), hok, .of_eq hg⟩
    have hTab : TabAt mg (hidT s₁.heap H) c T := by
      refine ⟨?_, ?_⟩
      · obtain ⟨o, vs, file, tf, flags, tg, inF, text, tt, e1, e2, e3, r⟩ := hC
        refine ⟨o, vs, file, tf, flags, tg, inF, text, tt, base_of e1 (noA e1 (fun xs n z => by rw [e3] at z; cases z) (by rw [e2]; exact fun z => by cases z)), e2, e3, r⟩
      · obtain ⟨bm, ob, b1, b2, b3, b4, b5, b6⟩ := hbm
        have bg : bm ≠ mainGlobals := fun z => by
          obtain ⟨o, es, ep, e, d, _⟩ := hns
          rw [← z, b3] at e; cases e; rw [b6] at d; cases d
        exact ⟨bm, ob, b1, b2, bg, base_of b3 (noA b3 (fun xs n z => by rw [b6] at z; cases z) (by rw [b4]; exact fun z => by cases z)), b4, b5, b6⟩
    refine codeAny_mono ((F _ hKb (nsK hns) hTab).run callerA [] s₁ H ⟨[.ref a], []⟩ [.ref a] [.ref a] _ _ hr e0 (hbind s₁ (.ref a)) (.cons rfl .nil) (hsp H eT hS)) fun r s' h => ?_
    cases r with
    | error e => exact (show False from h).elim
    | ok fl =>
      cases fl with
      | next => exact False.elim h
      | brk => exact False.elim h
      | cont => exact False.elim h
      | ret u =>
        obtain ⟨v, H', os, bare, un, hok', r', q⟩ := h
        have q' : v = .bl true := q
        subst q'
        obtain rfl : u = Value.bool true := r'
        have old : ∀ b o, s₁.heap.get? b = some o → b ≠ T → s'.heap.get? b = some o := fun b o e nT => by
          cases q : H b with
          | none => exact un.keep b o e q (by intro z; exact absurd (show b ∈ ([] : List Addr) from z) (by simp)) (by simp)
          | some u =>
            rcases hA b (by rw [q]; simp) with z | z
            · subst z
              obtain ⟨⟨ob, xs, rfl⟩, _⟩ := hK u q
              have z2 := un.frzs _ ob _ q
              obtain ⟨e1, _⟩ := hok _ _ q
              obtain ⟨e2, _⟩ := hok' _ _ z2
              rw [e] at e1; cases e1
              exact e2
            · exact absurd z nT
        obtain ⟨more, eT'⟩ := un.tbls T #[] eT
        have oT' : s'.heap.get? T = some { cls := .none, data := .fields (#[] ++ more) } := hok' T _ eT'
        refine ⟨rfl, ⟨fun b o e => ?_, fun b o e => ?_⟩, os, bare⟩
        · by_cases z : b = T
          · subst z
            rw [hT] at e; cases e
            exact .inr (.inl ⟨(hC.tab hT).isCodeTable, rfl, #[], more, rfl, oT'⟩)
          · exact .inl (old b o e z)
        · by_cases z : b = T
          · subst z; exact ⟨_, oT'⟩
          · exact ⟨o, old b o e z⟩
  cases hk : K.lookup a with
  | some o =>
    have e := KX a o hk
    rw [ha] at e
    cases e
    refine core (fun b => if b = T then some (.tbl #[]) else none) (.inr ⟨_, vs.toArray, _, hk, rfl, rfl, rfl, by rw [List.size_toArray, lenV]; exact hl, by simpa using rv⟩) (fun b u z => ?_) (if_pos rfl) (fun b z => ?_) fun u z => ?_
    · by_cases hb : b = T
      · have z' := (if_pos hb).symm.trans z
        cases z'
        subst hb
        exact hT
      · have z' := (if_neg hb).symm.trans z
        cases z'
    · by_cases hb : b = T
      · exact .inr hb
      · exact absurd (if_neg hb) z
    · have z' := (if_neg aT).symm.trans z
      cases z'
  | none =>
    refine core (fun b => if b = T then some (.tbl #[]) else if b = a then some (.frz { cls := .type "list", data := .seq vs.toArray } (.lst (ns.map V.int))) else none) (.inl (.inr ⟨{ cls := .type "list", data := .seq vs.toArray }, (if_neg aT).trans (if_pos rfl)⟩)) (fun b u z => ?_) (if_pos rfl) (fun b z => ?_) fun u z => ?_
    · by_cases hb : b = T
      · have z' := (if_pos hb).symm.trans z
        cases z'
        subst hb
        exact hT
      · have z1 := (if_neg hb).symm.trans z
        by_cases hb2 : b = a
        · have z' := (if_pos hb2).symm.trans z1
          cases z'
          subst hb2
          exact ⟨ha, by rw [List.length_map]; exact hl, vs, _, rv, ha⟩
        · have z' := (if_neg hb2).symm.trans z1
          cases z'
    · by_cases hb : b = T
      · exact .inr hb
      · by_cases hb2 : b = a
        · exact .inl hb2
        · exact absurd ((if_neg hb).trans (if_neg hb2)) z
    · have z1 := (if_neg aT).symm.trans z
      have z' := (if_pos rfl).symm.trans z1
      cases z'
      exact ⟨⟨_, _, rfl⟩, hk⟩
theorem walk_ofT {l : PySem.W.OpenLaw} {n k : Nat} {q : Program} {loose : List Str} {XP : (Str → Option Value) → Heap → Prop} {YP : World → Heap → Prop} {d d' : DefRec} {K : Params → PySem.W.Frag} {sp : World → Sp} {x y : Str} {c T : Addr}
    (hn : l.most = some n) (hn2 : n ≤ sizeLine) (hdf : d.params.defaults = []) (hr : Room k callerA)
    (hY : ∀ (w : World) (h : Heap), YP w h → (K w.params).In h) (hrec : (recsOf q).find? (fun e => e.name == y) = some d') (ht : ∀ w : World, PySem.W.tabIn (K w.params) y = some (c, T)) (hnt : ∀ w : World, PySem.W.noTabs (K w.params) = true)
    (F : ∀ (w : World) (mg : Str → Option Value) (fa : Addr) (h : Heap), (K w.params).In h → h.Ns mainGlobals mg → mg d.name = some (.ref fa) →
      ∃ fd : FuncData, (∀ (s : Shared) (u : Value), BindsTo s fd ⟨[u], []⟩ [(x, u)]) ∧
        ∀ base : Heap, (K w.params).In base → base.Ns mainGlobals mg → TabAt mg base c T → FnOk l.prog w (K w.params) mg base CX0 k fa fd [x] (sp w))
    (hsp : ∀ (w : World) (H : Hp) (a : Addr) (ns : List Int), ns.length ≤ n → H T = some (.tbl #[]) → SqL (K w.params) H a (ns.map V.int) → sp w [.ref a] H (fun v _ => v = .bl true) fun _ _ _ => False) :
    PySem.W.WalkO q loose XP YP l.row.toRowW d [] (fun f vs => PySem.call f vs) := by
  refine Att.attach_call hn hdf fun w s₀ s₁ mg mb fa o pm cd doc a vs ns G Y ho hd hcd hmg hobj hints hlen hg => ?_
  have KX := hY w _ Y
  obtain ⟨fd, hb, hF⟩ := F w mg fa _ KX G.T.g hmg
  obtain ⟨hC, hT⟩ := PySem.W.tab_of G.T KX hrec (ht w)
  exact law_callT KX (hnt w) G.T.g G.T.b G.T.builtins G.T.nolimit hg hC hT G.T.bmain hobj hints (Nat.le_trans hlen hn2) hr hF hb fun H eT hS => hsp w H a ns hlen eT hS
end L2

/-! ## MORE WORDS: tuples and lists that come, all, is True, isinstance of any kind, (0,) * k -/
namespace L2
open PySem PySem.Spec PyProof.Rows
theorem szB {n m : Nat} (h : Nat.ble n m = true) : n ≤ m := Nat.le_of_ble_eq_true h
section
variable {X : Cx} {es : List Expr} {t : TA} {pos : Pos}
/-- a reading of arguments, its wish made weaker -/
def upA (t : TA) : TA := fun σ H R => ∃ R' : List V → Hp → Prop, t σ H R' ∧ ∀ xs H', R' xs H' → R xs H'
theorem PA.up (h : PA X es t) : PA X es (upA t) := fun pos pins s σ H R I ⟨R', h', imp⟩ => thn (h pos pins s σ H R' I h') fun _ _ ⟨vs, H', I', r, q⟩ => ⟨vs, H', I', r, imp _ _ q⟩
def tTupS (K : PySem.W.Frag) (t : TA) : TE := fun σ H Q => t σ H fun xs H1 => xs.length ≤ 1000 ∧ mkT K H1 xs Q
theorem pe_tupS {x1} (h : PA X es t) : PE X (.Tuple es x1 pos) (tTupS X.K t) := fun pins s σ H Q I h' =>
  pe_tup h.up pins s σ H Q I ⟨_, h', fun _ _ ⟨a, q⟩ => ⟨lineGe a, mkT.new q⟩⟩
/-- a list comes -/
def mkL (H : Hp) (zs : List V) (Q : VK) : Prop := ∀ r H', Same H H' → H' r = some (.lst zs) → H r = none → Q (.ref r) H'
theorem mkL.new {H : Hp} {zs : List V} {Q : VK} (h : mkL H zs Q) : ∀ p, H p = Option.none → Q (.ref p) (upd H p (.lst zs)) := fun p hp => h p _ (Same.new hp _) upd_same hp
def tLstM (t : TA) : TE := fun σ H Q => t σ H fun xs H1 => xs.length ≤ 1000 ∧ mkL H1 xs Q
theorem pe_lstM (h : PA X es t) : PE X (.List es pos) (tLstM t) := fun pins s σ H Q I h' =>
  pe_lst h.up pins s σ H Q I ⟨_, h', fun _ _ ⟨a, q⟩ => ⟨lineGe a, mkL.new q⟩⟩
def rCatL : R2 := fun x y H Q => ∃ l b xs zs, x = .ref l ∧ y = .ref b ∧ H l = some (.lst xs) ∧ H b = some (.lst zs) ∧ xs.length + zs.length ≤ 1000 ∧ mkL H (xs ++ zs) Q
theorem op_catL : OpR X (binaryOp .Add) rCatL := fun pins s σ H x y v u Q I rx ry h => by
  obtain ⟨l, b, xs, zs, e1, e2, h1, h2, hz, q⟩ := h
  exact op_cat pins s σ H x y v u Q I rx ry ⟨l, b, xs, zs, e1, e2, h1, h2, lineGe hz, mkL.new q⟩
theorem call_listS : CallR X (.type "list") (fun xs H Q => ∃ p ys, xs = [.ref p] ∧ (SqL X.K H p ys ∨ SqT X.K H p ys) ∧ mkL H ys Q) := fun pins s σ H xs us Q I r h => by
  obtain ⟨p, ys, e, hs, q⟩ := h
  exact call_list_of pins s σ H xs us Q I r ⟨p, ys, e, hs, mkL.new q⟩
/-! ### is True, is not False -/
theorem op_isB : OpR X (compareOp .Is) (fun x y H Q => ∃ c d, x = .bl c ∧ y = .bl d ∧ Q (.bl (c == d)) H) := fun pins s σ H x y v u Q I rx ry h => by
  obtain ⟨c, d, rfl, rfl, q⟩ := h
  cases rx
  cases ry
  exact is_bool (fin_bl I q rfl)
theorem op_isnotB : OpR X (compareOp .IsNot) (fun x y H Q => ∃ c d, x = .bl c ∧ y = .bl d ∧ Q (.bl (c != d)) H) := fun pins s σ H x y v u Q I rx ry h => by
  obtain ⟨c, d, rfl, rfl, q⟩ := h
  cases rx
  cases ry
  exact isnot_bool (fin_bl I q rfl)
/-! ### all(list of truths) -/
theorem bAll : bootBuiltins "all" = some (.builtin "all") := by decide +kernel
theorem bAny : bootBuiltins "any" = some (.builtin "any") := by decide +kernel
theorem all_at {bs : List Bool} : ((List.range bs.length).all fun i => (bs[i]?).getD true) = bs.all id := by
  rw [Bool.eq_iff_iff, List.all_eq_true, List.all_eq_true]
  constructor
  · intro h b hb
    obtain ⟨i, hi, e⟩ := List.getElem_of_mem hb
    have := h i (List.mem_range.mpr hi)
    simp only [List.getElem?_eq_getElem hi, Option.getD_some, e] at this
    exact this
  · intro h i hi
    have hi' := List.mem_range.mp hi
    simp only [List.getElem?_eq_getElem hi', Option.getD_some]
    exact h _ (List.getElem_mem hi')
theorem call_all (hc : X.calm = true) : CallR X (.builtin "all") (fun xs H Q => ∃ (p : Addr) (bs : List Bool), xs = [.ref p] ∧ SqL X.K H p (bs.map V.bl) ∧ Q (.bl (bs.all id)) H) := fun pins s σ H xs us Q I r h => by
  obtain ⟨p, bs, rfl, hs, q⟩ := h
  obtain ⟨u, rfl, rx⟩ := vals1 r
  cases rx
  obtain ⟨its, rv, pl, hz⟩ := I.list hs
  have hl := pl.isList
  have hlen := rv.length
  rw [List.length_map] at hlen
  have hlt : p < s.heap.objs.size := by obtain ⟨_, e, _⟩ := hl; exact Heap.lt_size e
  refine call_all_walk (wpAny_pyIter_list hl ?_)
  refine ⟨s.heap.objs.size, [s.heap.objs.size, p], [s.heap.objs.size], its.toArray.size, _, _, fun i => (bs[i]?).getD true, rfl, Walks.list (A := X.A.in1) (I.ok.hd hc) _ p (Nat.ne_of_lt hlt) its.toArray,
    ⟨⟨_, Heap.get?_push_size _ rfl, rfl, rfl⟩, hl.push _⟩, fun i v s' Q' E' hP hQ => ?_, fun h' tk hk => ?_⟩
  · have hP' : its[i]? = some v := by simpa using hP
    have hi : i < bs.length := by have := (List.getElem?_eq_some_iff.mp hP').1; omega
    obtain ⟨u, hu, ru⟩ := rv.get (i := i) (x := .bl bs[i]) (by rw [List.getElem?_map, List.getElem?_eq_getElem hi]; rfl)
    rw [hP'] at hu
    cases hu
    cases ru
    simp only [List.getElem?_eq_getElem hi, Option.getD_some] at hQ
    exact wpAny_truthy_bool hQ
  · have e : ((List.range its.toArray.size).all fun i => (bs[i]?).getD true) = bs.all id := by
      rw [List.size_toArray, ← hlen]; exact all_at
    rw [e]
    refine ⟨.bl _, H, I.kept (t' := tk) fun b o e => hk b o (fun hm => ?_) (Heap.get?_push_of_some _ e), rfl, q⟩
    rw [List.mem_singleton.mp hm] at e
    exact Nat.lt_irrefl _ (Heap.lt_size e)
/-! ### isinstance of a value whose kind is known -/
inductive Kd (K : PySem.W.Frag) (H : Hp) : V → String → Prop where
  | non : Kd K H .non "NoneType"
  | bl (x : Bool) : Kd K H (.bl x) "bool"
  | int (i : Int) : Kd K H (.int i) "int"
  | str (x : Str) : Kd K H (.str x) "str"
  | lst {a : Addr} {xs : List V} (e : SqL K H a xs) : Kd K H (.ref a) "list"
  | tup {a : Addr} {xs : List V} (e : SqT K H a xs) : Kd K H (.ref a) "tuple"
theorem call_isK : CallR X (.builtin "isinstance") (fun xs H Q => ∃ x n t b, xs = [x, .ty n] ∧ Kd X.K H x t ∧ PySem.W.kitOne X.K (.type t) (.type n) = some b ∧ Q (.bl b) H) := fun pins s σ H xs us Q I r h => by
  obtain ⟨x, n, t, b, rfl, kd, e, q⟩ := h
  obtain ⟨u, u2, rfl, r1, r2⟩ := vals2 r
  cases r2
  have fin : ∀ tk, EP X pins σ Q (.bool b) { s with toks := tk } := fun tk => ⟨.bl b, H, I.tok tk, rfl, q⟩
  cases kd with
  | non => exact isinst_ok I r1 .non e fin
  | bl y => exact isinst_ok I r1 (.bl y) e fin
  | int i => exact isinst_ok I r1 (.int i) e fin
  | str y => exact isinst_ok I r1 (.str y) e fin
  | @lst a xs ea =>
    cases r1
    obtain ⟨its, _, pl, _⟩ := I.list ea
    obtain ⟨o, h1, h2, _⟩ := pl.isList
    exact PySem.W.kia_one PySem.W.kitx_list I.kIn ⟨o, h1, h2⟩ e (fun z => nomatch z) fin
  | @tup a xs ea =>
    cases r1
    obtain ⟨its, _, p, _⟩ := I.tuple ea
    obtain ⟨o, h1, h2, _⟩ := p
    exact PySem.W.kia_one PySem.W.kitx_tuple I.kIn ⟨o, h1, h2⟩ e (fun z => nomatch z) fin
theorem Kd.same {K : PySem.W.Frag} {H H' : Hp} {x : V} {t : String} (g : Same H H') (h : Kd K H x t) : Kd K H' x t := by
  cases h with
  | non => exact .non
  | bl y => exact .bl y
  | int i => exact .int i
  | str y => exact .str y
  | lst e => exact .lst (g.seq e)
  | tup e => exact .tup (g.tup e)
end
/-! ### (0,) * k -/
section
open PySem.AutoSeq1 (wpAny_loadPart')
theorem noFill_tuple_mul : fillsNumberSlot (.type "tuple") "mul" = pure false :=
  PySem.fillsNumberSlot_seq (id := "tuple.__mul__") (r := some (.builtin "tuple.__rmul__")) PySem.F.slot_tuple_mul.lookup (by decide +kernel) PySem.F.slot_tuple_rmul.lookup (by decide +kernel)
theorem repeat_tuple : seqRepeat? (.type "tuple") = pure (some (.builtin "tuple.__mul__")) := by
  unfold seqRepeat?
  rw [PySem.seqSlot_of (T := "tuple") (name := "__mul__") (id := "tuple.__mul__") PySem.F.slot_tuple_mul.lookup (by decide +kernel), PySem.seqSlot_of (T := "tuple") (name := "__rmul__") (id := "tuple.__rmul__") PySem.F.slot_tuple_rmul.lookup (by decide +kernel)]
  rfl
theorem rmul_int_tuple (a : Int) (t : Tok) (l : Addr) (items : Array Value) (n : Nat) (dd : Option Addr) (sl : Array (Option Value)) :
    Meets (Builtin.«int.__rmul__» ⟨[.int a t, .ref l], []⟩) (fun _ R s => s.heap.get? l = some { cls := .type "tuple", dict := dd, data := .seq items n, slots := sl } ∧ R (.ok (.ret Value.notImplemented)) s) :=
  .of_wp fun prog w A R s h => by obtain ⟨hp, g, d, tk, os⟩ := s; obtain ⟨hl, h⟩ := h; wp_walk; exact ⟨_, rfl, h⟩
theorem mul_tuple_int (l : Addr) (items : Array Value) (n : Nat) (dd : Option Addr) (sl : Array (Option Value)) (k : Nat) (t : Tok) (h1 : 2 ≤ k) (h2 : k ≤ 1000) (h3 : items.isEmpty = false) (h4 : items.size * k ≤ 1000)
    (h5 : (List.foldl (fun x1 x2 => x1 ++ x2) #[] (List.replicate k items)).size ≤ sizeLine) :
    Meets (Builtin.«tuple.__mul__» ⟨[.ref l, .int (k : Int) t], []⟩) (fun _ R s => s.heap.get? l = some { cls := .type "tuple", dict := dd, data := .seq items n, slots := sl } ∧
      R (.ok (.ret (Value.ref s.heap.objs.size))) { s with heap := s.heap.push { cls := Value.type "tuple", data := Data.seq (List.foldl (fun x1 x2 => x1 ++ x2) #[] (List.replicate k items)) }, toks := s.toks }) :=
  .of_wp fun prog w A R s h => by
    obtain ⟨hp, g, d, tk, os⟩ := s; obtain ⟨hl, h⟩ := h
    have f2 := AutoSeq1.sub_tuple_tuple
    have c1 : ¬ ((decide ((k : Int) < -(2 ^ 63)) || decide ((k : Int) ≥ 2 ^ 63)) = true) := by
      rw [decide_eq_false (by omega), decide_eq_false (by omega)]; decide
    have c2 : ¬ ((items.isEmpty || ((k : Int) == 1)) = true) := by
      rw [h3, Bool.false_or, beq_iff_eq]; omega
    have c3 : ¬ ((decide ((k : Int) ≤ 0) || items.isEmpty) = true) := by
      rw [h3, decide_eq_false (by omega)]; decide
    have c0 : ((items.size : Int) * (k : Int)) ≤ 1000 := by
      have : ((items.size * k : Nat) : Int) ≤ 1000 := by omega
      rw [Int.natCast_mul] at this
      exact this
    have c4 : ¬ ((items.size : Int) * (k : Int) > (2 ^ 63 - 1) / 8) := by omega
    have c5 : ¬ (Builtin.Tuple.tupleTooMany ((items.size : Int) * (k : Int)) = true) := by
      unfold Builtin.Tuple.tupleTooMany
      have hz : (sizeLine : Int) = 16777216 := by rw [sizeLine_eq]; rfl
      rw [hz, decide_eq_false (by omega)]; decide
    wp_walk using wpAny_loadPart' hl
    rw [if_neg c1]
    wp_walk using wpAny_loadPart' hl
    rw [if_neg c2]
    wp_walk using wpAny_loadPart' hl
    rw [if_neg c3]
    wp_walk using wpAny_loadPart' hl
    rw [if_neg c4]
    wp_walk using wpAny_loadPart' hl
    rw [Int.toNat_natCast]
    exact ⟨_, rfl, h⟩
end
def rRepT (K : PySem.W.Frag) : R2 := fun x y H Q => ∃ (l : Addr) (k : Nat) (xs : List V), x = .ref l ∧ y = .int (k : Int) ∧ SqT K H l xs ∧ 2 ≤ k ∧ k ≤ 1000 ∧ 1 ≤ xs.length ∧ xs.length * k ≤ 1000 ∧ mkT K H (List.replicate k xs).flatten Q
section
variable {X : Cx}
theorem op_repT : OpR X (binaryOp .Mult) (rRepT X.K) := fun pins s σ H x y v u Q I rx ry h => by
  obtain ⟨l, k, xs, rfl, rfl, hs, h1, h2, h3, h4, q⟩ := h
  cases rx
  obtain ⟨t, rfl⟩ := ry
  obtain ⟨its, rv, p, hz⟩ := I.tuple hs
  have hlen := rv.length
  obtain ⟨⟨cls, dd, data, sl⟩, ho, hc, n, hd⟩ := id p
  simp only at hc hd
  subst hc hd
  have hne : its.toArray.isEmpty = false := by
    cases its with
    | nil => rw [hlen] at h3; exact absurd h3 (by decide)
    | cons _ _ => rfl
  have hnew : List.foldl (fun x1 x2 => x1 ++ x2) #[] (List.replicate k its.toArray) = (List.replicate k its).flatten.toArray := by
    have := foldl_rep its k []
    rw [List.nil_append] at this
    exact this
  refine wpAny_binaryOp_repeat_ref (T := "tuple") (U := "int") (by decide) ⟨_, ho, rfl⟩ (fun s' => typeIs_int s' k t) noFill_tuple_mul PySem.F.fills_int_mul PySem.F.slot_int_rmul repeat_tuple PySem.F.slot_int_index.lookup
    (call_meets PySem.F.slot_int_rmul (typeIs_int s k t) PySem.F.entry_int_rmul (PySem.F.args_int_rmul_2 _ _) (rmul_int_tuple k t l its.toArray n dd sl)
      ⟨ho, rfl, ⟨_, ho, rfl⟩, call_meets PySem.F.slot_tuple_mul ⟨_, ho, rfl⟩ PySem.F.entry_tuple_mul (PySem.F.args_tuple_mul_2 _ _) (mul_tuple_int l its.toArray n dd sl k t h1 h2 hne (by rw [List.size_toArray, ← hlen]; exact h4) (by rw [hnew, List.size_toArray, len_rep, ← hlen, Nat.mul_comm]; exact lineGe h4)) ⟨ho, ?_⟩⟩)
  rw [hnew]
  have hz2 : (List.replicate k xs).flatten.length ≤ sizeLine := lineGe (by rw [len_rep, Nat.mul_comm]; exact h4)
  exact ⟨.ref _, _, I.laid (o := .tup (List.replicate k xs).flatten) (t' := s.toks) (fun b o e => Heap.get?_push_of_some _ e) (Nat.le_refl _) (show ObjOk X.prog X.w _ _ _ (.tup _) from ⟨hz2, _, rv.rep k, IsTup.new _ _⟩), rfl, q.new _ I.fresh⟩
end
end L2

/-! ## THE SAME RULES WITH THE WRITTEN PART NAMED (inside a comprehension or a lambda, where the context stands under a binder) -/
namespace L2
open PySem PySem.Spec PyProof.Rows
section
variable {X : Cx} {e : Expr} {es : List Expr} {te : TE} {t : TA} {p pos : Pos}
theorem ix_tupK (K : PySem.W.Frag) (h : X.K = K) : IxR X (rIxT K) := h ▸ ix_tup
theorem ix_listK (K : PySem.W.Frag) (h : X.K = K) : IxR X (rIxL K) := h ▸ ix_list
theorem op_catSK (K : PySem.W.Frag) (h : X.K = K) : OpR X (binaryOp .Add) (rCatS K) := h ▸ op_catS
theorem op_eqTK (K : PySem.W.Frag) (h : X.K = K) (hu : X.A.units < cLine) : OpR X (compareOp .Eq) (rEqT K false) := h ▸ op_eqT hu
theorem op_neTK (K : PySem.W.Frag) (h : X.K = K) (hu : X.A.units < cLine) : OpR X (compareOp .NotEq) (rEqT K true) := h ▸ op_neT hu
theorem op_ltTK (K : PySem.W.Frag) (h : X.K = K) (hu : X.A.units < cLine) : OpR X (compareOp .Lt) (rLtT K) := h ▸ op_ltT hu
theorem op_inK (K : PySem.W.Frag) (h : X.K = K) : OpR X (compareOp .In) (rIn K false) := h ▸ op_in_seq
theorem op_notInK (K : PySem.W.Frag) (h : X.K = K) : OpR X (compareOp .NotIn) (rIn K true) := h ▸ op_notIn_seq
theorem sl_tupSK (K : PySem.W.Frag) (h : X.K = K) : SlR X (rSlS K) := h ▸ sl_tupS
theorem sl_listK (K : PySem.W.Frag) (h : X.K = K) : SlR X (rSlL K) := h ▸ sl_list
theorem pe_lenK (K : PySem.W.Frag) (h : X.K = K) (b : Bl X.mg) (he : PE X e te) (hg : Gl X "len" := by rfl) (hs : starEach [e] X.env = (false, eval e X.env) :: starEach [] X.env := by rfl) (hpl : (backTo pos (starEach [] X.env)).any (·.1) = false := by rfl) :
    PE X (.Call (.Name "len" p) [e] [] pos) (tCB (rLen K) (tCons te tNil)) := h ▸ pe_len b he hg hs hpl
theorem pe_tupSK {x1} (K : PySem.W.Frag) (h : X.K = K) (ha : PA X es t) : PE X (.Tuple es x1 pos) (tTupS K t) := h ▸ pe_tupS ha
def rIsK (K : PySem.W.Frag) : List V → Hp → VK → Prop := fun xs H Q => ∃ x n t b, xs = [x, .ty n] ∧ Kd K H x t ∧ PySem.W.kitOne K (.type t) (.type n) = some b ∧ Q (.bl b) H
theorem call_isKK (K : PySem.W.Frag) (h : X.K = K) : CallR X (.builtin "isinstance") (rIsK K) := h ▸ call_isK
def rTupL (K : PySem.W.Frag) : List V → Hp → VK → Prop := fun xs H Q => ∃ p ys, xs = [.ref p] ∧ SqL K H p ys ∧ mkT K H ys Q
theorem call_tupLK (K : PySem.W.Frag) (h : X.K = K) : CallR X (.type "tuple") (rTupL K) := h ▸ call_tupL
def tTru (K : PySem.W.Frag) (ta : TE) : TT := fun σ H Q => ta σ H fun x H' => ∃ k, TruV K x H' k ∧ Q k H'
theorem pt_truthK (K : PySem.W.Frag) (h : X.K = K) (ha : PE X e te) (he : ∀ whole, isTrue e X.env whole = (do let v ← whole; standAt e.pos; holding [v] (truthy v))) : PT X e (tTru K te) := h ▸ pt_truth ha he
theorem pg_tupK {es : List Expr} {k : Nat} {t : TGs} {n : Nat} (K : PySem.W.Frag) (h : X.K = K) (hc : X.calm = true) (ht : PGs X es t) (hn : (assignEach es X.env).length = n := by rfl) (hst : (assignEach es X.env).findIdx? (·.1) = none := by rfl) : PG X (.Tuple es k pos) (gTup K n t) := h ▸ pg_tup hc ht hn hst
end
end L2

/-! ## sorted, min of a list of ints -/
namespace L2
open PySem PySem.Spec PyProof.Rows
section
variable {X : Cx}
theorem bSorted : bootBuiltins "sorted" = some (.builtin "sorted") := by decide +kernel
theorem bMin : bootBuiltins "min" = some (.builtin "min") := by decide +kernel
def rSortI (K : PySem.W.Frag) : List V → Hp → VK → Prop := fun xs H Q => ∃ (p : Addr) (ns : List Int), xs = [.ref p] ∧ SqL K H p (ns.map V.int) ∧ ns.length < 64 ∧ ∀ ms : List Int, ms.Perm ns → ms.Pairwise (· ≤ ·) → mkL H (ms.map V.int) Q
theorem call_sortedI (K : PySem.W.Frag) (hK : X.K = K) : CallR X (.builtin "sorted") (rSortI K) := fun pins s σ H xs us Q I r h => by
  subst hK
  obtain ⟨p, ns, rfl, hs, h64, q⟩ := h
  obtain ⟨u, rfl, rx⟩ := vals1 r
  cases rx
  obtain ⟨its, rv, pl, hz⟩ := I.list hs
  have hlen := rv.length
  rw [List.length_map] at hlen
  refine sorted_ints pl.isList (intsAre_of rv) (by omega) fun out ms hi hp ho => ?_
  obtain ⟨e, he⟩ := sortedAll_at s.heap its out
  have hml := hp.length_eq
  have rm := vals_ints hi
  refine ⟨.ref _, _, I.laid (o := .lst (ms.map V.int)) (t' := s.toks) (fun b o e => sortedAll_old e) (Nat.le_succ _) (show ObjOk X.prog X.w _ _ _ (.lst _) from ⟨lineGe (by rw [List.length_map]; omega), out.toList, e, rm, ?_⟩), rfl, (q ms hp ho).new _ (I.hok.fresh (Nat.le_succ _))⟩
  rw [Array.toArray_toList]
  exact he
def rMinL (K : PySem.W.Frag) : List V → Hp → VK → Prop := fun xs H Q => ∃ (p : Addr) (ns : List Int), xs = [.ref p] ∧ SqL K H p (ns.map V.int) ∧ 0 < ns.length ∧ ∀ M : Int, M ∈ ns → (∀ a ∈ ns, M ≤ a) → Q (.int M) H
theorem call_minL (K : PySem.W.Frag) (hK : X.K = K) (hc : X.calm = true) : CallR X (.builtin "min") (rMinL K) := fun pins s σ H xs us Q I r h => by
  subst hK
  obtain ⟨p, ns, rfl, hs, hne, q⟩ := h
  obtain ⟨u, rfl, rx⟩ := vals1 r
  cases rx
  obtain ⟨its, rv, pl, hz⟩ := I.list hs
  have hi := intsAre_of rv
  obtain ⟨ys, e⟩ := hi.allInts.items
  have hns : ns = ys.toList.map (·.1) := by rw [← hi.numsOf, ← nums_intItems, ← e]
  have hsz : 0 < ys.size := by
    have h3 := hne; rw [hns, List.length_map, Array.length_toList] at h3; exact h3
  have hl := pl.isList
  rw [e] at hl
  refine min_intList (I.ok.hd hc) hl hsz fun v h' tk hv hk => ?_
  obtain ⟨t, rfl⟩ := intItems_at hv
  obtain ⟨h1, h2⟩ := argBest_lt (numAt ys) (ys.size - 1)
  refine ⟨.int (numAt ys (argBest (fun i j => decide (numAt ys i < numAt ys j)) (ys.size - 1))), H, I.kept (t' := tk) hk, ⟨t, rfl⟩, q _ ?_ fun a ha => ?_⟩
  · rw [hns, numAt_eq]
    have hk : argBest (fun i j => decide (numAt ys i < numAt ys j)) (ys.size - 1) < (ys.toList.map (·.1)).length := by rw [List.length_map, Array.length_toList]; omega
    rw [List.getD_eq_getElem?_getD, List.getElem?_eq_getElem hk]
    exact List.getElem_mem hk
  · rw [hns] at ha
    obtain ⟨j, hj, rfl⟩ := mem_getD ha
    rw [List.length_map, Array.length_toList] at hj
    rw [← numAt_eq]; exact h2 j (by omega)
end
end L2

/-! ## AN ERROR OF THE PROGRAM'S OWN: raised, leaving a def -/
namespace L2
open PySem PySem.Spec PyProof.Rows
/-- the exception of the class at C lies at a, with its first entry; both are new since h0 -/
def Lies (h0 : Heap) (C a : Addr) (H : Hp) (h : Heap) : Prop := h0.get? a = none ∧ H a = none ∧ ∃ (oe : Obj) (vs : Array Value) (T : Addr) (oT : Obj) (ts : Array Value) (a0 : Value), h.get? a = some oe ∧ (oe.cls = .ref C ∧ vs[0]? = some a0) ∧ oe.data = .fields vs ∧ vs[1]? = some (.ref T) ∧
  h0.get? T = none ∧ H T = none ∧ T ≠ a ∧ h.get? T = some oT ∧ oT.data = .fields ts ∧ ts[3]? = some Value.none
theorem ObjOk.there {P : Program} {w : World} {H : Hp} {h : Heap} {a : Addr} {o : HO} (x : ObjOk P w H h a o) : ∃ ob, h.get? a = some ob := by
  cases o with
  | lst xs => obtain ⟨_, _, _, _, e⟩ := x; exact ⟨_, e⟩
  | tup xs => obtain ⟨_, _, _, ob, e, _⟩ := x; exact ⟨_, e⟩
  | dK kvs => obtain ⟨_, _, _, _, ob, _, _, e, _⟩ := x; exact ⟨_, e⟩
  | dT kvs => obtain ⟨_, _, _, _, ob, _, _, e, _⟩ := x; exact ⟨_, e⟩
  | set S n => obtain ⟨ob, _, _, _, e, _⟩ := x; exact ⟨_, e⟩
  | ins C dx fs => obtain ⟨_, _, _, e, _⟩ := x; exact ⟨_, e⟩
  | own y => exact x
  | xd fs => obtain ⟨_, ⟨_, _, _, e, _⟩, _⟩ := x; exact ⟨_, e⟩
  | rng lo hi => obtain ⟨_, _, _, e⟩ := x; exact ⟨_, e⟩
  | frz ob u => obtain ⟨e, _⟩ := x; exact ⟨_, e⟩
  | tbl ps => exact ⟨_, x⟩
  | met f y => exact ⟨_, x⟩
  | ext φ => exact x.2.1
theorem HOk.new {P : Program} {w : World} {H : Hp} {h : Heap} {a : Addr} (x : HOk P w H h) (e : h.get? a = none) : H a = none := by
  cases q : H a with
  | none => rfl
  | some u => obtain ⟨o, z⟩ := (x a u q).there; rw [e] at z; cases z
section
variable {X : Cx} {pins : List (Addr × Obj)} {σ : St} {H : Hp} {s : Shared}
/-- the frames' slots, the records at ch (new since s0) may have turned; nothing else -/
theorem Inv.noted {h' : Heap} {ch : List Addr} {s0 : Shared} {σ0 : St} {H0 : Hp} (I0 : Inv X pins σ0 H0 s0) (new : ∀ b ∈ ch, s0.heap.get? b = none) (I : Inv X pins σ H s) (hH : ∀ b ∈ ch, H b = none)
    (k1 : ∀ b o, s.heap.get? b = some o → b ∉ frs X.stack → b ∉ ch → h'.get? b = some o) (k2 : ∀ b o, b ∈ frs X.stack → s.heap.get? b = some o → ∃ sl, h'.get? b = some { o with slots := sl }) : Inv X pins σ H { s with heap := h' } := by
  have tr : ∀ b u, H b = some u → b ∉ frs X.stack ∧ b ∉ ch := fun b u e => ⟨fun z => (by rw [I.stkFree b z] at e; cases e), fun z => (by rw [hH b z] at e; cases e)⟩
  have out : ∀ b o, s0.heap.get? b = some o → b ∉ ch := fun b o e z => by rw [new b z] at e; cases e
  have neC : ∀ b o, X.s₀.heap.get? b = some o → b ∉ X.ex → b ∉ ch := fun b o e hx => by
    obtain ⟨o', q⟩ := I0.base.there b o e hx
    exact out b o' q
  have neL : ∀ b o, X.s₀.heap.get? b = some o → b ≠ X.env.locals := fun b o e => Nat.ne_of_lt (Nat.lt_of_lt_of_le (Heap.lt_size e) I.ok.above)
  have sub : ∀ b, b ∈ X.fs → b ∈ frs X.stack := fun b hb => by
    rcases I.ok.stk with e | ⟨e, hf⟩
    · rw [e]; exact hb
    · rw [e]; unfold frs; rw [List.filterMap_cons, hf]; exact List.mem_cons_of_mem _ hb
  have nst : ∀ b, b ≠ X.env.locals → b ∉ X.fs → b ∉ frs X.stack := fun b h1 h2 z => (List.mem_cons.mp (I.stkSub b z)).elim h1 h2
  -- whatever is not at ch is there with its data
  have any : ∀ b o, s.heap.get? b = some o → b ∉ ch → ∃ sl, h'.get? b = some { o with slots := sl } := fun b o e hc => by
    by_cases z : b ∈ frs X.stack
    · exact k2 b o z e
    · exact ⟨o.slots, k1 b o e z hc⟩
  have cellK : ∀ x c, X.env.cells.lookup x = some c → ∀ v, s.heap.IsCell c v → h'.IsCell c v := fun x c e v ⟨o, ho, hd⟩ => by
    obtain ⟨_, o0, h0, _⟩ := I0.cell x c e
    obtain ⟨sl, q⟩ := any c o ho (out c o0 h0)
    exact ⟨_, q, hd⟩
  refine ⟨I.ok, I.os, I.bare, ⟨fun b o e n hb hx => ?_, fun b o e n hb hx => ?_, I.base.free, fun b o e hx => ?_, I.base.tups, I.base.frzs, I.base.tbls⟩, ?_, fun x c e => ?_, I.free, I.freeC, fun p hp => ?_, fun b u e => ?_, I.len⟩
  · exact k1 b o (I.base.keep b o e n hb hx) (nst b (neL b o e) hb) (neC b o e hx)
  · obtain ⟨sl, e1⟩ := I.base.slot b o e n hb hx
    obtain ⟨sl', e2⟩ := k2 b _ (sub b hb) e1
    exact ⟨sl', e2⟩
  · obtain ⟨o', e1⟩ := I.base.there b o e hx
    obtain ⟨sl, e2⟩ := any b o' e1 (neC b o e hx)
    exact ⟨_, e2⟩
  · obtain ⟨m0, ⟨oL, _, _, hoL, _⟩, _⟩ := I0.loc
    obtain ⟨m, ⟨o, es, ep, ho, r⟩, hl⟩ := I.loc
    obtain ⟨sl, hL⟩ := any _ o ho (out _ oL hoL)
    refine ⟨m, ⟨_, es, ep, hL, r⟩, fun i x v e1 e2 e3 => ?_⟩
    obtain ⟨u, ru, l⟩ := hl i x v e1 e2 e3
    refine ⟨u, ru, ?_⟩
    rcases l with l | ⟨k, c, e, z⟩
    · exact .inl l
    · exact .inr ⟨k, c, e, cellK x c e _ z⟩
  · obtain ⟨v, z⟩ := I.cell x c e
    exact ⟨v, cellK x c e v z⟩
  · obtain ⟨e, n, ne, nf, d⟩ := I.pin p hp
    obtain ⟨e0, _⟩ := I0.pin p hp
    exact ⟨k1 p.1 p.2 e (nst p.1 ne nf) (out _ _ e0), n, ne, nf, d⟩
  · refine (I.hok b u e).stay (fun c v hc q => ?_) (fun _ q => q) fun _ _ q => q
    rcases hc with hc | hc
    · rw [hc] at q ⊢; exact k1 b v q (tr b u e).1 (tr b u e).2
    · exact k1 c v q (tr c _ hc).1 (tr c _ hc).2
/-- a new exception leaves the frame -/
theorem lies_leave {h' : Heap} {e C : Addr} {args : List Value} {Q : Unit → Shared → Prop} {E : Value → Shared → Prop} (I : Inv X pins σ H s) (stk : X.stack = X.env :: X.outer) (hf : X.env.frame = some X.env.locals) (hm : Heap.MadeExcOf s.heap h' e (.ref C) args)
    (k : ∀ h'', (∀ b o, s.heap.get? b = some o → b ∉ frs X.stack → h''.get? b = some o) → (∀ b o, b ∈ frs X.stack → s.heap.get? b = some o → ∃ sl, h''.get? b = some { o with slots := sl }) → Lies s.heap C e H h'' → Q () { s with heap := h'' }) :
    wpAny (model X.prog X.w) X.A (leaving X.env (.ref e)) Q E { s with heap := h' } := by
  obtain ⟨t, he, _, _⟩ := hm.there
  have FF : h'.FunFrames X.base X.stack := I.stack.of_keeps fun b o q _ => ⟨o, hm.keeps b o q, rfl⟩
  have ine : ∀ b o, s.heap.get? b = some o → b ≠ e := fun b o q z => by rw [z, hm.new] at q; cases q
  have hid : h'.FunFrames (PySem.W.hideAll h' (e :: frs X.stack)) X.stack := PySem.W.funFrames_hide FF fun env hv a ha => List.mem_cons_of_mem _ (List.mem_filterMap.mpr ⟨env, hv, ha⟩)
  have hfr : X.A.frames = some (X.env :: X.outer) := by rw [I.ok.frames, stk]
  have hid' : h'.FunFrames (PySem.W.hideAll h' (e :: frs X.stack)) (X.env :: X.outer) := Eq.mp (congrArg (fun l => h'.FunFrames (PySem.W.hideAll h' (e :: frs X.stack)) l) stk) hid
  refine wpAny_leaving_firstW (base := PySem.W.hideAll h' (e :: frs X.stack)) hfr hid' hf he (fun b o q => PySem.W.of_hideAll _ q) (PySem.W.hideAll_none _ List.mem_cons_self) rfl rfl rfl fun h'' L => ?_
  obtain ⟨L1, L2', ⟨oe, vs, T, oT, ts, q1, q2, q3, q4, q5, q6, q7, q8, q9⟩, L4⟩ := L
  have kp : ∀ b o, s.heap.get? b = some o → b ∉ frs X.stack → h''.get? b = some o := fun b o q hb =>
    L1 b o (PySem.W.hideAll_get _ (hm.keeps b o q) fun z => (List.mem_cons.mp z).elim (fun y => ine b o q y) hb)
  have ks : ∀ b o, b ∈ frs X.stack → s.heap.get? b = some o → ∃ sl, h''.get? b = some { o with slots := sl } := fun b o hb q => by
    obtain ⟨_, o', ho', nf⟩ := I.stack.mem hb
    rw [q] at ho'; cases ho'
    exact L4 b o (hm.keeps b o q) nf
  suffices nT : s.heap.get? T = none from k h'' kp ks ⟨hm.new, I.hok.new hm.new, oe, vs, T, oT, ts, _, q1, q2, q3, q4, nT, I.hok.new nT, q6, q7, q8, q9⟩
  cases z : s.heap.get? T with
  | none => rfl
  | some o =>
    exfalso
    by_cases hb : T ∈ frs X.stack
    · obtain ⟨sl, y⟩ := ks T o hb z
      obtain ⟨_, o', ho', nf⟩ := I.stack.mem hb
      rw [z] at ho'; cases ho'
      rw [q7] at y
      have e1 := Option.some.inj y
      rw [e1] at q8
      exact nf ts q8
    · have y := PySem.W.hideAll_get (e :: frs X.stack) (hm.keeps T o z) fun w => (List.mem_cons.mp w).elim (fun y => q6 y) hb
      rw [q5] at y; cases y
end
/-- how an error of the class at C lies behind a call -/
def CXn (P : Program) (w : World) (C : Addr) : CXT := fun outer H s E e s' => ∃ (a : Addr) (H' : Hp), e = .ref a ∧ s'.os = s.os ∧ AllBare s'.gens ∧ Un (frs outer) [] H H' s.heap s'.heap ∧ HOk P w H' s'.heap ∧ Lies s.heap C a H' s'.heap ∧ E e none H'
/-- a def that may raise -/
theorem Fun.okX {P : Program} {w : World} {K : PySem.W.Frag} {mg : Str → Option Value} {base : Heap} {C : Addr} {x qual : Str} {st : Stmt} {f : Addr} {fd : FuncData} {N ps : List Str} {k : Nat} {sp : Sp} (F : Fun K x qual st f fd) (S : FnScope N ps (defScope st)) (len : ∀ vs H Q E, sp vs H Q E → vs.length = ps.length)
    (hbody : ∀ (cdv : Value) (A : Around) (outer : List Env) (s : Shared) (H : Hp) (vs : List V) (Q : VK) (E : XK), Room k (A.deeper (PyProof.Rows.envOfC qual (defScope st) s.heap.objs.size f cdv)) → sp vs H Q E →
      ∃ t, PSs (cxOf (CXn P w C) P w K mg base N qual (defScope st) f cdv A outer s H E) (defBody st) t ∧ t { nx := fun _ H' => Q .non H', rt := Q } (start N vs) H) : FnOk P w K mg base (CXn P w C) (k + 1) f fd ps sp := by
  obtain ⟨oc, od, kV, doc, pm, an, cdv, ct, osl, rfl, lk, hcd⟩ := F.ex
  exact fn_of lk hcd S len fun A outer s H vs Q E hr hsp => hbody cdv A outer s H vs Q E hr hsp
/-- what a raise in such a def comes to -/
theorem raise_out {P : Program} {w : World} {K : PySem.W.Frag} {mg : Str → Option Value} {base : Heap} {C : Addr} {N : List Str} {qual : Str} {scope : Scope} {f : Addr} {cdv : Value} {A : Around} {outer : List Env} {s₀ : Shared} {H₀ : Hp} {E : XK}
    (pins : List (Addr × Obj)) (σ : St) (H : Hp) (s : Shared) (h' : Heap) (e : Addr) (args : List Value) (I : Inv (cxOf (CXn P w C) P w K mg base N qual scope f cdv A outer s₀ H₀ E) pins σ H s) (hw : ∀ a, E (.ref a) none H) (hm : Heap.MadeExcOf s.heap h' e (.ref C) args) :
    (cxOf (CXn P w C) P w K mg base N qual scope f cdv A outer s₀ H₀ E).xe (.ref e) { s with heap := h' } := by
  have ub : Un (frs outer) [] H₀ H s₀.heap s.heap := I.base
  have nst : ∀ b o, s₀.heap.get? b = some o → b ∉ frs outer → b ∉ s₀.heap.objs.size :: frs outer := fun b o e hb z =>
    (List.mem_cons.mp z).elim (fun q => by rw [q] at e; exact absurd (Heap.lt_size e) (Nat.lt_irrefl _)) hb
  refine lies_leave I rfl rfl hm fun h'' kp ks L => ?_
  have kp' : ∀ b o, s.heap.get? b = some o → b ∉ s₀.heap.objs.size :: frs outer → h''.get? b = some o := kp
  have ks' : ∀ b o, b ∈ s₀.heap.objs.size :: frs outer → s.heap.get? b = some o → ∃ sl, h''.get? b = some { o with slots := sl } := ks
  obtain ⟨l1, l2, oe, vs, T, oT, ts, a0, q1, q2, q3, q4, q5, q5', q6, q7, q8, q9⟩ := L
  have old : ∀ b, s.heap.get? b = none → s₀.heap.get? b = none := fun b e => by
    cases q : s₀.heap.get? b with
    | none => rfl
    | some o => obtain ⟨o', z⟩ := ub.there b o q (by simp); rw [e] at z; cases z
  have tr : ∀ b u, H b = some u → b ∉ s₀.heap.objs.size :: frs outer := fun b u e z => by
    have z' := I.stkFree b z
    rw [z'] at e; cases e
  refine ⟨e, H, rfl, I.os, I.bare, ⟨fun b o e n hb hx => kp' b o (ub.keep b o e n hb hx) (nst b o e hb), fun b o e n hb hx => ?_, ub.free, fun b o e hx => ?_, ub.tups, ub.frzs, ub.tbls⟩, fun b u e => ?_, ⟨old _ l1, l2, oe, vs, T, oT, ts, a0, q1, q2, q3, q4, old _ q5, q5', q6, q7, q8, q9⟩, hw e⟩
  · obtain ⟨sl, e1⟩ := ub.slot b o e n hb hx
    obtain ⟨sl', e2⟩ := ks' b _ (List.mem_cons_of_mem _ hb) e1
    exact ⟨sl', e2⟩
  · obtain ⟨o', e1⟩ := ub.there b o e hx
    by_cases z : b ∈ s₀.heap.objs.size :: frs outer
    · obtain ⟨sl, e2⟩ := ks' b o' z e1; exact ⟨_, e2⟩
    · exact ⟨_, kp' b o' e1 z⟩
  · refine (I.hok b u e).stay (fun c v hc q => ?_) (fun _ q => q) fun _ _ q => q
    rcases hc with hc | hc
    · rw [hc] at q ⊢; exact kp' b v q (tr b u e)
    · exact kp' c v q (tr c _ hc)
/-- the class, as the written part has it -/
structure XCls (K : PySem.W.Frag) (C N : Addr) (bm : List Value) : Prop where
  look : ∃ nm q bs hdct sn sub ab col dd k0 k1 k2 k3 k5, K.lookup C = some (excClassObj nm q C N bs bm hdct sn sub ab col dd k0 k1 k2 k3 k5 "ValueError.__new__")
  ok : PySem.W.nsOkIn K N = true
  ni : PySem.W.nsIn K N "__init__" = some none
  tail : PySem.W.tailIn K [.type "ValueError", .type "Exception", .type "BaseException", .type "object"] bm = true
section
variable {X : Cx} {x : Str} {e₀ : Expr} {te : TE} {np cpos pos : Pos} {C N : Addr} {bm : List Value} {W : Hp → Prop}
def tRaise (te : TE) (W : Hp → Prop) : TS := fun _ σ H => te σ H fun x H1 => ([x] : List V).length = 1 ∧ W H1
theorem ps_raise (xc : XCls X.K C N bm) (hm : X.mg x = some (.ref C)) (hg : Gl X x) (hc : X.calm = true) (he : PE X e₀ te)
    (hx : ∀ (pins : List (Addr × Obj)) (σ : St) (H : Hp) (s : Shared) (h' : Heap) (e : Addr) (args : List Value), Inv X pins σ H s → W H → Heap.MadeExcOf s.heap h' e (.ref C) args → X.xe (.ref e) { s with heap := h' })
    (hdb : (x == ("__debug__" : Str)) = false := by decide) (hs : starEach [e₀] X.env = (false, eval e₀ X.env) :: starEach [] X.env := by rfl) (hpl : (backTo cpos (starEach [e₀] X.env)).any (·.1) = false := by rfl) :
    PS X (.Raise (some (.Call (.Name x np) [e₀] [] cpos)) none pos) (tRaise te W) := by
  intro pins s σ H D I h
  obtain ⟨nm, q, bs, hdct, sn, sub, ab, col, dd, k0, k1, k2, k3, k5, lk⟩ := xc.look
  have kin := I.mod.kin
  have hN : X.base.Ns N (X.base.nsMap N) := .of_isNs (PySem.W.isNs_of_in kin xc.ok)
  have hni := PySem.W.nsMap_none_of_in kin xc.ok xc.ni
  have T := PySem.W.tail_of_in kin xc.tail
  refine wpAny_Raise_call_subU (C := C) (nm := nm) (q := q) (N := N) (bs := bs) (bm := bm) (hdct := hdct) (sn := sn) (sub := sub) (ab := ab) (col := col) (dd := dd) (k0 := k0) (k1 := k1) (k2 := k2) (k3 := k3) (k5 := k5)
    PySem.F.excBase_ValueError (by decide) PySem.F.excBase_ValueError (mN := X.base.nsMap N) (T.hasType PySem.F.excBase_ValueError.hasBase) (I.ok.hd hc) hpl hni (ld_glob I hg hm ⟨rfl, ?_⟩ hdb)
  have hp := pa_cons he pa_nil hs cpos pins s σ H (fun vs H1 => vs.length = 1 ∧ W H1) I h
  rw [hs] at hp ⊢
  refine Calls.evalArgs_plain (thn hp fun us s1 hus => ?_)
  obtain ⟨vs, H1, I1, r1, hl, w1⟩ := hus
  have hl' : us.length = 1 := by rw [← r1.length]; exact hl
  exact ⟨rfl, lineGe (by show us.length ≤ 1000; omega), I1.bk _ _ (kin _ _ lk), hN.keeps I1.bk, T.keeps I1.bk, fun h' e hm' => hx pins σ H1 s1 h' e us I1 w1 hm'⟩
end
end L2

/-! ## TRY, one except clause with a name, over an error of the program's own -/
namespace L2
open PySem PySem.Spec PyProof.Rows
/-- an exception of the class at C -/
def isX (C a : Addr) : HO := .ext fun h => ∃ o, h.get? a = some o ∧ o.cls = .ref C
theorem isX_ok {P : Program} {w : World} {H : Hp} {h : Heap} {C a : Addr} {o : Obj} (e : h.get? a = some o) (c : o.cls = .ref C) : ObjOk P w H h a (isX C a) :=
  ⟨⟨o, e, c⟩, ⟨o, e⟩, fun _ _ ⟨o', e', c'⟩ k => ⟨o', k o' e', c'⟩⟩
theorem isX_at {P : Program} {w : World} {H : Hp} {h : Heap} {C a : Addr} (x : HOk P w H h) (e : H a = some (isX C a)) : ∃ o, h.get? a = some o ∧ o.cls = .ref C := (x a _ e).1
section
variable {X : Cx}
/-- isinstance(e, C) of an exception, where it is so -/
theorem call_isX : CallR X (.builtin "isinstance") (fun xs H Q => ∃ C a y u, xs = [.ref a, y] ∧ H a = some (isX C a) ∧ RelV y u ∧ (∀ u', RelV y u' → u' = u) ∧ PySem.W.kitOne X.K (.ref C) u = some true ∧ Q (.bl true) H) := fun pins s σ H xs us Q I r h => by
  obtain ⟨C, a, y, u, rfl, ha, _, hu, e, q⟩ := h
  obtain ⟨u1, u2, rfl, r1, r2⟩ := vals2 r
  cases r1
  cases hu u2 r2
  obtain ⟨o, ho, hc⟩ := isX_at I.hok ha
  have kin := I.kIn
  have fin : EP X pins σ Q (.bool true) s := ⟨.bl true, H, I, rfl, q⟩
  clear I hu r r2
  obtain ⟨h0, g, d, tt, os⟩ := s
  have LT : PySem.W.Looks (model X.prog X.w) h0 (typeOf (.ref a)) (.ref C) := by rw [← hc]; exact (PySem.W.Looks.ld ho).andThen .now
  refine call_isinstance_of ?_ (fun z => nomatch z)
  unfold Builtin.«isinstance.nested»
  refine wpAny_bind (LT.at ?_)
  unfold PySem.W.kitOne at e
  by_cases z : (Value.ref C == u) = true
  · rw [if_pos z]
    exact wpAny_bind (wpAny_rule (wpAny_pure fin))
  · rw [if_neg z] at e ⊢
    obtain ⟨hty, his, hsub⟩ := PySem.W.kit_cls (M := model X.prog X.w) kin e
    have LI : PySem.W.Looks (model X.prog X.w) h0 (isInstance (.ref a) u) true := LT.andThen hsub
    refine wpAny_bind (hty.at ?_)
    rw [if_pos (by decide)]
    k_delta "plainIsInstance"
    refine wpAny_bind (wpAny_bind (his.at ?_))
    simp only [Bool.not_true, Bool.false_eq_true, if_false]
    refine wpAny_bind (LI.at ?_)
    rw [if_pos rfl]
    exact wpAny_pure (wpAny_pure fin)
end

/-- caught: where the error of the class at C lies, what holds then -/
def Caught (X : Cx) (pins : List (Addr × Obj)) (C : Addr) (R : Hp → Prop) : Value → Shared → Prop := fun e s' => ∃ (a : Addr) (H' : Hp) (σ' σ0 : St) (H0 : Hp) (s0 : Shared),
  e = .ref a ∧ Inv X pins σ' H' s' ∧ Inv X pins σ0 H0 s0 ∧ Lies s0.heap C a H' s'.heap ∧ R H'
/-- the body of a try -/
abbrev Cx.trying (X : Cx) (pins : List (Addr × Obj)) (C : Addr) (R : Hp → Prop) : Cx := { X with pn := X.pn ++ pins, xe := Caught X pins C R }
/-- the suite of an except clause -/
abbrev Cx.suite (X : Cx) (e : Value) : Cx := { X with A := X.A.mark (some e), calm := false, xe := fun _ _ => False }
section
variable {X : Cx} {pins pins' : List (Addr × Obj)} {σ : St} {H : Hp} {s : Shared} {C : Addr} {R : Hp → Prop}
theorem Cx.Ok.toTry (ok : X.Ok) : (X.trying pins C R).Ok :=
  ⟨ok.mod, ok.kind, ok.glob, ok.blt, ok.above, ok.inj, ok.has, ok.cab, ok.hd, ok.frames, ok.stk, ok.exf, ok.bs, ok.bsz, ok.noex, ok.exfs, ok.funs, ok.frf⟩
theorem Cx.Ok.ofTry (ok : (X.trying pins C R).Ok) : X.Ok :=
  ⟨ok.mod, ok.kind, ok.glob, ok.blt, ok.above, ok.inj, ok.has, ok.cab, ok.hd, ok.frames, ok.stk, ok.exf, ok.bs, ok.bsz, ok.noex, ok.exfs, ok.funs, ok.frf⟩
theorem Cx.Ok.toSuite {e : Value} (ok : X.Ok) : (X.suite e).Ok :=
  ⟨ok.mod, ok.kind, ok.glob, ok.blt, ok.above, ok.inj, ok.has, ok.cab, (fun z => nomatch z), ok.frames, ok.stk, ok.exf, ok.bs, ok.bsz, ok.noex, ok.exfs, ok.funs, ok.frf⟩
theorem Inv.toTry (I : Inv X pins σ H s) : Inv (X.trying pins C R) [] σ H s :=
  ⟨I.ok.toTry, I.os, I.bare, I.base, I.loc, I.cell, I.free, I.freeC, fun p hp => I.pin p (by simpa [Cx.trying] using hp), I.hok, I.len⟩
theorem Inv.ofTry (I : Inv (X.trying pins C R) pins' σ H s) : Inv X pins σ H s :=
  ⟨I.ok.ofTry, I.os, I.bare, I.base, I.loc, I.cell, I.free, I.freeC, fun p hp => I.pin p (List.mem_append_left _ hp), I.hok, I.len⟩
theorem Inv.toSuite {e : Value} (I : Inv X pins σ H s) : Inv (X.suite e) pins σ H s :=
  ⟨I.ok.toSuite, I.os, I.bare, I.base, I.loc, I.cell, I.free, I.freeC, I.pin, I.hok, I.len⟩
theorem Inv.ofSuite {e : Value} (ok : X.Ok) (I : Inv (X.suite e) pins σ H s) : Inv X pins σ H s :=
  ⟨ok, I.os, I.bare, I.base, I.loc, I.cell, I.free, I.freeC, I.pin, I.hok, I.len⟩
theorem SP.ofTry {D : Ends} {f : Flow} {s' : Shared} (h : SP (X.trying pins C R) [] D f s') : SP X pins D f s' := by
  cases f with
  | next => obtain ⟨σ', H', I, q⟩ := h; exact ⟨σ', H', I.ofTry, q⟩
  | brk => obtain ⟨σ', H', I, q⟩ := h; exact ⟨σ', H', I.ofTry, q⟩
  | cont => obtain ⟨σ', H', I, q⟩ := h; exact ⟨σ', H', I.ofTry, q⟩
  | ret u => obtain ⟨v, σ', H', I, r, q⟩ := h; exact ⟨v, σ', H', I.ofTry, r, q⟩
/-- a def that may raise, called in the body of a try -/
theorem passTry {P : Program} {w : World} : (X.prog = P ∧ X.w = w) → Passes (CXn P w C) (X.trying pins C R) (fun _ _ H' => R H') := fun ⟨hP, hw⟩ pins' σ H s e s' I h => by
  obtain ⟨a, H', rfl, os, br, un, hok, L, r⟩ := h
  subst hP hw
  have I' : Inv (X.trying pins C R) pins' σ H' s' := I.call' (ch := []) os un hok br fun _ z => nomatch z
  exact ⟨a, H', σ, σ, H, s, rfl, I'.ofTry, I.ofTry, L, r⟩
end
end L2

/-! ## list(range(n)) -/
namespace L2
open PySem PySem.Spec PyProof.Rows
section
variable {X : Cx}
theorem call_rng1 : CallR X (.type "range") (fun xs H Q => ∃ j, xs = [.int j] ∧ ∀ p, H p = Option.none → Q (.ref p) (upd H p (.rng 0 j))) := fun pins s σ H xs us Q I r h => by
  obtain ⟨j, rfl, q⟩ := h
  obtain ⟨u, rfl, t, rfl⟩ := vals1 r
  refine call_range_1 ⟨.ref s.heap.objs.size, upd H s.heap.objs.size (.rng 0 j), I.laid (fun b o e => Heap.get?_push_of_some _ e) (Nat.le_refl _) ⟨_, _, _, Heap.get?_push_size _ rfl⟩, rfl, q _ (I.hok.fresh (Nat.le_refl _))⟩
theorem vals_items {acc : Array Value} {n : Nat} (h : ItemsOf (fun i v => ∃ t, v = .int (0 + i * 1) t) acc n) : Vals ((List.range n).map fun (i : Nat) => V.int (i : Int)) acc.toList := by
  have go : ∀ (l : List Value) (k : Nat), (∀ j v, l[j]? = some v → ∃ t, v = Value.int ((k + j : Nat) : Int) t) → Vals ((List.range' k l.length).map fun (i : Nat) => V.int (i : Int)) l := by
    intro l
    induction l with
    | nil => intro k _; exact .nil
    | cons x xs ih =>
      intro k hk
      rw [List.length_cons, List.range'_succ, List.map_cons]
      refine .cons (hk 0 x rfl) (ih (k + 1) fun j v e => ?_)
      obtain ⟨t, z⟩ := hk (j + 1) v e
      exact ⟨t, by rw [z]; congr 1; omega⟩
  have e : n = acc.toList.length := by rw [Array.length_toList]; exact h.1.symm
  rw [e, List.range_eq_range']
  refine go acc.toList 0 fun j v e => ?_
  obtain ⟨t, z⟩ := h.2 j v (by rw [← Array.getElem?_toList]; exact e)
  exact ⟨t, by rw [z]; congr 1; omega⟩
theorem call_listRng (hc : X.calm = true) : CallR X (.type "list") (fun xs H Q => ∃ p j, xs = [.ref p] ∧ H p = some (.rng 0 j) ∧ 0 ≤ j ∧ j ≤ 1000 ∧ mkL H ((List.range j.toNat).map fun (i : Nat) => V.int (i : Int)) Q) := fun pins s σ H xs us Q I r h => by
  obtain ⟨p, j, rfl, hp, h0, h1, q⟩ := h
  obtain ⟨u, rfl, rx⟩ := vals1 r
  cases rx
  obtain ⟨t, u, v, e⟩ := I.hok p _ hp
  refine call_list_range (n := j.toNat) (I.ok.hd hc) e (small_one (by omega) (by omega) (by omega) (by omega)) (by rw [rangeSize_one]; split <;> omega) (by omega) fun h' tk acc' c' kp e' hi => ?_
  have rv := vals_items hi
  refine ⟨.ref s.heap.objs.size, _, I.laid (t' := tk) kp (Nat.le_refl _) (show ObjOk X.prog X.w _ h' _ (.lst _) from ⟨?_, acc'.toList, c', rv, by rw [e', Array.toArray_toList]⟩), rfl, mkL.new q _ (I.hok.fresh (Nat.le_refl _))⟩
  rw [List.length_map, List.length_range]
  exact lineGe (by omega)
theorem call_isXK (K : PySem.W.Frag) (h : X.K = K) : CallR X (.builtin "isinstance") (fun xs H Q => ∃ C a y u, xs = [.ref a, y] ∧ H a = some (isX C a) ∧ RelV y u ∧ (∀ u', RelV y u' → u' = u) ∧ PySem.W.kitOne K (.ref C) u = some true ∧ Q (.bl true) H) := h ▸ call_isX
end
end L2

/-! ## for k, x in enumerate(a tuple) -/
namespace L2
open PySem PySem.Spec PyProof.Rows
section
variable {prog : Program} {w : World} {A : Around} {E : Value → Shared → Prop} {s : Shared} {it t : Addr} {i : Nat} {items : Array Value}
theorem nxt_tup {x : Value} {Q : Value → Shared → Prop} (hit : s.heap.IsTupleIter it t i) (ht : s.heap.IsTuple t items) (hx : items[i]? = some x)
    (hQ : ∀ h', h'.IsTupleIter it t (i + 1) → Heap.SameBut it s.heap h' → Q x { s with heap := h' }) : wpAny (model prog w) A (Builtin.SmallTypes.nextOf (.ref it)) Q E s := by
  obtain ⟨o, ho, hc, hd⟩ := id hit
  obtain ⟨ot, hot, _, nt, hdt⟩ := ht
  unfold Builtin.SmallTypes.nextOf
  refine wpAny_bind (wpAny_callSpecial?_slot (name := Str.ofString "__next__") hit.typeIs F.slot_tuple_iterator_next (wpAny_call_entry F.slot_tuple_iterator_next hit.typeIs F.entry_tuple_iterator_next ?_ (F.args_tuple_iterator_next_1 _)))
  show wpAny (model prog w) _ (field (.ref it) 0 >>= fun q => _) _ _ s
  refine wpAny_bind (wpAny_field (x := .ref t) ho hd rfl ?_)
  show wpAny (model prog w) _ (if (Value.ref t == Value.none) = true then _ else _) _ _ s
  rw [if_neg (show ¬ (Value.ref t == Value.none) = true from fun z => Bool.false_ne_true z)]
  show wpAny (model prog w) _ (field (.ref it) 1 >>= fun q => _) _ _ s
  refine wpAny_bind (wpAny_field (x := .int i 0) ho hd rfl ?_)
  show wpAny (model prog w) _ (seqItems? (.ref t) >>= fun q => _) _ _ s
  refine wpAny_bind (wpAny_seqItems hot hdt ?_)
  simp only [Int.toNat_natCast, hx]
  refine wpAny_bind (wpAny_setField ho hd (by simp) (wpAny_pure ⟨x, rfl, wpAny_pure (hQ _ ⟨_, Heap.get?_update_self _ ho (Obj.isFreed_of_fields (Obj.data_mapFields hd _)), (Obj.cls_mapFields ..).trans hc, ?_⟩ (Heap.SameBut.update ..))⟩))
  rw [Obj.data_mapFields hd]
  simp [rawInt]
theorem nxt_tup_end {Q : Value → Shared → Prop} (hh : A.handled = none) (hit : s.heap.IsTupleIter it t i) (ht : s.heap.IsTuple t items) (hx : items[i]? = none)
    (hE : ∀ h' e, Heap.ExtBut it s.heap h' → (∃ o, h'.get? e = some o ∧ o.cls = .type "StopIteration") → E (.ref e) { s with heap := h' }) : wpAny (model prog w) A (Builtin.SmallTypes.nextOf (.ref it)) Q E s := by
  obtain ⟨o, ho, hc, hd⟩ := id hit
  obtain ⟨ot, hot, _, nt, hdt⟩ := ht
  unfold Builtin.SmallTypes.nextOf
  refine wpAny_bind (wpAny_callSpecial?_slot (name := Str.ofString "__next__") hit.typeIs F.slot_tuple_iterator_next (wpAny_call_entry F.slot_tuple_iterator_next hit.typeIs F.entry_tuple_iterator_next ?_ (F.args_tuple_iterator_next_1 _)))
  show wpAny (model prog w) _ (field (.ref it) 0 >>= fun q => _) _ _ s
  refine wpAny_bind (wpAny_field (x := .ref t) ho hd rfl ?_)
  show wpAny (model prog w) _ (if (Value.ref t == Value.none) = true then _ else _) _ _ s
  rw [if_neg (show ¬ (Value.ref t == Value.none) = true from fun z => Bool.false_ne_true z)]
  show wpAny (model prog w) _ (field (.ref it) 1 >>= fun q => _) _ _ s
  refine wpAny_bind (wpAny_field (x := .int i 0) ho hd rfl ?_)
  show wpAny (model prog w) _ (seqItems? (.ref t) >>= fun q => _) _ _ s
  refine wpAny_bind (wpAny_seqItems hot hdt ?_)
  simp only [Int.toNat_natCast, hx]
  refine wpAny_bind (wpAny_rule (wpAny_bind (wpAny_setField ho hd (by simp) (show wpAny (model prog w) _ (newExc (.type "StopIteration") [] >>= fun q => _) _ _ _ from wpAny_bind ?_))))
  simp only [newExc, newTuple]
  refine wpAny_bind (wpAny_newObj_type (wpAny_bind (m := firstArgMember _ _) (wpAny_of_eq (a := Value.none) (by first | rfl | (simp only [firstArgMember]; rfl)) (wpAny_newObj_type ?_ (by size_fits)))) (by size_fits))
  simp only [raiseNew]
  refine wpAny_bind (wpAny_handled ?_)
  rw [show A.in1.handled = none from hh]
  refine wpAny_bind (wpAny_pure (wpAny_throw (hE _ _ (((Heap.SameBut.update ..).extBut.push _).push _) ⟨_, Heap.get?_push_size _ rfl, rfl⟩)))
theorem drawsTup (hh : A.handled = none) (it t : Addr) (hne : t ≠ it) (items : Array Value) : Draws prog w A it [it, t] items.size (fun i v => items[i]? = some v) (fun i h => h.IsTupleIter it t i ∧ h.IsTuple t items) where
  live := fun _ _ st => let ⟨o, ho, _⟩ := st.1; ⟨o, ho⟩
  frame := fun _ _ _ ⟨⟨o, e, c⟩, ⟨ot, et, ct⟩⟩ hk => ⟨⟨o, hk it (by simp) o e, c⟩, ⟨ot, hk t (by simp) ot et, ct⟩⟩
  item := fun i s Q E hi st hQ => nxt_tup st.1 st.2 (x := items[i]) (by simp [hi]) fun h' hit' hs' => hQ _ h' s.toks (by simp [hi]) ⟨hit', let ⟨ot, et, ct⟩ := st.2; ⟨ot, (hs'.2 t hne).trans et, ct⟩⟩ hs'
  done := fun s Q E st hE => nxt_tup_end hh st.1 st.2 (by simp) hE
theorem new_enumT (items : Array Value) (o : Obj) (hc : o.cls = .type "tuple") {n : Nat} (hd : o.data = .seq items n) :
    Meets (Builtin.«enumerate.__new__» ⟨[.type "enumerate", .ref t], []⟩) (fun _ R s => s.heap.get? t = some o ∧
      R (.ok (.ret (.ref (s.heap.push { cls := .type "tuple_iterator", data := .fields #[.ref t, .int 0 0] }).objs.size)))
        { s with heap := (s.heap.push { cls := .type "tuple_iterator", data := .fields #[.ref t, .int 0 0] }).push { cls := .type "enumerate", data := .fields #[.none, .bool false, .ref s.heap.objs.size, rawInt 0, .none, .none] } }) :=
  .of_wp fun prog w A R s h => by
    obtain ⟨c, dct, dt, sl⟩ := o
    cases hc; cases hd
    obtain ⟨hp, g, d, tk, os⟩ := s
    obtain ⟨hl, h⟩ := h
    have hsub := sub_enumerate
    have hT : Heap.IsTuple (Shared.heap ⟨hp, g, d, tk, os⟩) t items := ⟨_, hl, rfl, n, rfl⟩
    wp_walk using AutoSeq1.wpAny_loadPart' hl
    refine wpAny_stack_any fun st => wpAny_pure ?_
    split
    · rename_i c _ _ _ _ _
      cases (c == Value.type "enumerate") <;> (wp_walk using AutoSeq1.wpAny_loadPart' hl, wpAny_pyIter_tuple hT; exact ⟨_, rfl, h⟩)
    · (wp_walk using AutoSeq1.wpAny_loadPart' hl, wpAny_pyIter_tuple hT; exact ⟨_, rfl, h⟩)
theorem call_enumT {Q : Value → Shared → Prop} (ht : s.heap.IsTuple t items) (h : ∀ h', IsEnum h' (s.heap.objs.size + 1) s.heap.objs.size 0 .none → h'.IsTupleIter s.heap.objs.size t 0 → (∀ b o, s.heap.get? b = some o → h'.get? b = some o) → Q (.ref (s.heap.objs.size + 1)) { s with heap := h' }) :
    wpAny (model prog w) A (call (.type "enumerate") [.ref t]) Q E s := by
  obtain ⟨o, ho, hc, n, hd⟩ := ht
  refine callType_new F.called_enumerate (by decide) (F.typeCall_enumerate_1 _) (F.newCall_enumerate_1 _) (fun obj => F.args_object_init_2 obj _) F.entry_enumerate_new (new_enumT items o hc hd) ⟨ho, ?_⟩
  have hz : (s.heap.push { cls := .type "tuple_iterator", data := .fields #[.ref t, .int 0 0] }).objs.size = s.heap.objs.size + 1 := Heap.size_push ..
  show _ ∧ _
  rw [hz]
  have he : IsEnum ((s.heap.push { cls := .type "tuple_iterator", data := .fields #[.ref t, .int 0 0] }).push { cls := .type "enumerate", data := .fields #[.none, .bool false, .ref s.heap.objs.size, rawInt 0, .none, .none] }) (s.heap.objs.size + 1) s.heap.objs.size 0 .none := by
    have q := Heap.get?_push_size (s.heap.push { cls := .type "tuple_iterator", data := .fields #[.ref t, .int 0 0] }) (o := { cls := .type "enumerate", data := .fields #[.none, .bool false, .ref s.heap.objs.size, rawInt 0, .none, .none] }) rfl
    rw [hz] at q; exact q
  exact ⟨⟨_, he, rfl⟩, h _ he ⟨_, Heap.get?_push_of_some _ (Heap.get?_push_size _ rfl), rfl, rfl⟩ fun b o x => Heap.get?_push_of_some _ (Heap.get?_push_of_some _ x)⟩
end
/-- (0, x), (1, y), .. over the tuple at a -/
def Ite (K : PySem.W.Frag) (a : Addr) : It :=
  ⟨fun i H => ∃ xs x, SqT K H a xs ∧ xs[i]? = some x, fun i H x H' => ∃ T y, x = .ref T ∧ H T = Option.none ∧ H' = upd H T (.tup [.int (i : Int), y]) ∧ ∀ xs, SqT K H a xs → xs[i]? = some y, fun i H => ∃ xs, SqT K H a xs ∧ xs.length = i⟩
theorem turn_enum {P : Program} {w : World} {K : PySem.W.Frag} {elts : List Expr} {kx : Nat} {px : Pos} (a e it : Addr) (hei : e ≠ it) (hae : a ≠ e) (hai : a ≠ it) :
    Turn P w K (.Tuple elts kx px) (Ite K a) [e, it] e (fun i h => (∃ old, IsEnum h e it (i : Int) old) ∧ h.IsTupleIter it a i) where
  mem := by simp
  obj := fun i h st b hb => by
    obtain ⟨⟨old, he⟩, o, ho, hc, hd⟩ := st
    rcases List.mem_cons.mp hb with z | z
    · exact ⟨_, z ▸ he, fun v q => (by have q' : Data.fields _ = Data.cell v := q; cases q')⟩
    · rw [List.mem_singleton.mp z]
      exact ⟨o, ho, fun v q => by rw [hd] at q; cases q⟩
  keep := fun i h h' st k => by
    obtain ⟨⟨old, he⟩, o, ho, r⟩ := st
    exact ⟨⟨old, k e (by simp) _ he⟩, o, k it (by simp) o ho, r⟩
  item := by
    intro X hP hw hK hc i pins s σ H E I hf st hg
    subst hP hw hK
    obtain ⟨⟨old, he⟩, hit⟩ := st
    obtain ⟨xs, x, hq, hx⟩ := hg
    obtain ⟨its, rv, p, hz⟩ := I.tuple hq
    obtain ⟨u, hu, ru⟩ := rv.get hx
    have hlt : i < its.toArray.size := by rw [List.size_toArray]; exact (List.getElem?_eq_some_iff.mp hu).1
    have D := drawsTup (prog := X.prog) (w := X.w) (A := X.A.in1) (I.ok.hd hc) it a hai its.toArray
    refine wpAny_pyNext_enum_itemD D he ⟨hit, p⟩ hlt hei (by simp [hei, Ne.symm hae]) fun v h' tk hv ho hs' hT hsz hk => ⟨_, rfl, wpAny_letOwnedTupleGo_enum ho fun h'' he'' hs'' => ?_⟩
    have ev : v = u := by
      have hv' : its[i]? = some v := by simpa using hv
      rw [hu] at hv'; exact (Option.some.inj hv').symm
    subst ev
    have helt : e < s.heap.objs.size := Heap.lt_size he
    have keep : ∀ b o, b ≠ e → b ≠ it → s.heap.get? b = some o → h''.get? b = some o := fun b o h1 h2 q => (hs''.2 b h1).trans (hk b o h1 h2 q)
    have hT' : h''.get? s.heap.objs.size = some { cls := .type "tuple", data := .seq #[.int i tk, v] } := (hs''.2 _ (Nat.ne_of_gt helt)).trans hT
    have hTn : H s.heap.objs.size = Option.none := I.hok.fresh (Nat.le_refl _)
    have fe := hf e (by simp)
    have fi := hf it (by simp)
    have tr : ∀ b w', H b = some w' → b ≠ e ∧ b ≠ it := fun b w' q => ⟨fun z => (by rw [z, fe.1] at q; cases q), fun z => (by rw [z, fi.1] at q; cases q)⟩
    have nT : ∀ b w', H b = some w' → b ≠ s.heap.objs.size := fun b w' q => ne_of_none q hTn
    have hnc : ∀ b, b ∉ [e, it] → b ≠ e ∧ b ≠ it := fun b hb => ⟨fun z => hb (by simp [z]), fun z => hb (by simp [z])⟩
    obtain ⟨m0, ⟨oL, _, _, hoL, _⟩, _⟩ := id I.loc
    have I2 := I.step (h' := h'') (H' := upd H s.heap.objs.size (.tup [.int (i : Int), x])) (g' := s.gens) (t' := tk + 1) (d' := s.drawn) (ch := [e, it]) (fun b hb => by
        rcases List.mem_cons.mp hb with z | z
        · rw [z]; exact ⟨fe.2.2.2.1, fe.2.1, fe.2.2.2.2.1, fe.2.2.2.2.2⟩
        · rw [List.mem_singleton.mp z]; exact ⟨fi.2.2.2.1, fi.2.1, fi.2.2.2.2.1, fi.2.2.2.2.2⟩)
      (fun b o _ _ hb q _ => keep b o (hnc b hb).1 (hnc b hb).2 q) (fun b o _ _ hb q _ => ⟨o.slots, keep b o (hnc b hb).1 (hnc b hb).2 q⟩)
      (fun b o hb q n => by rw [upd_ne (Nat.ne_of_lt (Heap.lt_size q))]; exact n) (fun b o hb q => ⟨o, keep b o (hnc b hb).1 (hnc b hb).2 q⟩)
      (fun b ys q => by rw [upd_ne (nT b _ q)]; exact q) (fun b o w' q => by rw [upd_ne (nT b _ q)]; exact q) (fun b ps q => ⟨#[], by rw [upd_ne (nT b _ q), q]; simp⟩)
      (fun m hm => by
        obtain ⟨o, es, ep, q, r⟩ := hm
        exact ⟨o, es, ep, keep _ o (Ne.symm fe.2.1) (Ne.symm fi.2.1) q, r⟩)
      (fun b w' q => by
        by_cases hb : b = s.heap.objs.size
        · subst hb
          rw [upd_same] at q; cases q
          exact ⟨lineGe (by show 2 ≤ 1000; decide), [.int i tk, v], .cons ⟨tk, rfl⟩ (.cons ru .nil), ⟨_, hT', rfl, _, rfl⟩⟩
        · rw [upd_ne hb] at q
          refine (I.hok b w' q).stay (fun c y hcc z => ?_) (fun c z => by rw [upd_ne (nT c _ z)]; exact z) fun c ys z => by rw [upd_ne (nT c _ z)]; exact z
          rcases hcc with hcc | hcc
          · rw [hcc] at z ⊢; exact keep b y (tr b w' q).1 (tr b w' q).2 z
          · exact keep c y (tr c _ hcc).1 (tr c _ hcc).2 z) I.bare
    refine ⟨.ref s.heap.objs.size, _, I2, rfl, ⟨_, x, rfl, hTn, rfl, fun ys hy => by rw [I.tuple_inj hy hq]; exact hx⟩, ⟨⟨_, he''⟩, ?_⟩, fun b hb => ?_⟩
    · obtain ⟨o, q, r⟩ := hs'.1
      exact ⟨o, (hs''.2 it (Ne.symm hei)).trans q, r⟩
    · obtain ⟨h1, _⟩ := hf b hb
      obtain ⟨ob, hob, _⟩ : ∃ o, s.heap.get? b = some o ∧ True := by
        rcases List.mem_cons.mp hb with z | z
        · exact ⟨_, z ▸ he, trivial⟩
        · obtain ⟨o, q, _⟩ := hit
          exact ⟨o, List.mem_singleton.mp z ▸ q, trivial⟩
      rw [upd_ne (Nat.ne_of_lt (Heap.lt_size hob))]; exact h1
  done := by
    intro X hP hw hK hc i pins s σ H E I hf st hg
    subst hP hw hK
    obtain ⟨⟨old, he⟩, hit⟩ := st
    obtain ⟨xs, hq, hx⟩ := hg
    obtain ⟨its, rv, p, hz⟩ := I.tuple hq
    have hl := rv.length
    have D := drawsTup (prog := X.prog) (w := X.w) (A := X.A.in1) (I.ok.hd hc) it a hai its.toArray
    obtain ⟨f0, f1, f2, f3, f4, f5⟩ := hf it (by simp)
    have hi : i = its.toArray.size := by rw [List.size_toArray]; omega
    subst hi
    exact wpAny_pyNext_enum_endD D he ⟨hit, p⟩ fun h' eb => ⟨rfl, I.turned (t' := s.toks) (fun b o hb q => eb b o hb q) f0 f1 f3 f4 f5⟩
  self := fun _ _ _ _ _ st h => wpAny_pyIter_enum st.1.choose_spec h
def iEnum (K : PySem.W.Frag) (ta : TA) : TI := fun σ H R => ta σ H fun vs H1 => ∃ a, vs = [.ref a] ∧ (∃ xs, SqT K H1 a xs) ∧ R (Ite K a) H1
theorem bEnum : bootBuiltins "enumerate" = some (.type "enumerate") := by decide +kernel
theorem pi_enum {X : Cx} {l : Expr} {ta : TA} {p pos px : Pos} {elts : List Expr} {kx : Nat} (hg : Gl X "enumerate") (hm : X.mg "enumerate" = Option.none) (ha : PA X [l] ta) (hs : starEach [l] X.env = [(false, eval l X.env)] := by rfl) : PI X (.Tuple elts kx px) (.Call (.Name "enumerate" p) [l] [] pos) (iEnum X.K ta) := by
  intro pins s σ H R I h
  refine Call_ (ld_blt I hg hm bEnum (PyProof.Rows.callWith_type1 (thn (ha pos pins s σ H _ I h) fun us s1 ⟨vs, H1, I1, r1, q1⟩ => ?_) hs rfl))
  obtain ⟨a, e, ⟨xs, hq⟩, q⟩ := q1
  subst e
  obtain ⟨u, rfl, rx⟩ := vals1 r1
  cases rx
  obtain ⟨its, rv, pt, hz⟩ := I1.tuple hq
  obtain ⟨oa, hoa, _⟩ := id pt
  have la := Heap.lt_size hoa
  refine call_enumT (show s1.heap.IsTuple a its.toArray from pt) fun h' he hit kp => wpAny_pyIter_enum he ?_
  refine ⟨s1.heap.objs.size + 1, [s1.heap.objs.size + 1, s1.heap.objs.size], _, _, H1, rfl, I1.kept (t' := s1.toks) kp, turn_enum a _ s1.heap.objs.size (Nat.succ_ne_self _) (Nat.ne_of_lt (Nat.lt_succ_of_lt la)) (Nat.ne_of_lt la), ⟨⟨_, he⟩, hit⟩, fun b hb => ?_, q⟩
  have hb' : s1.heap.objs.size ≤ b := by
    rcases List.mem_cons.mp hb with z | z
    · rw [z]; exact Nat.le_succ _
    · rw [List.mem_singleton.mp z]; exact Nat.le_refl _
  exact I1.fpOk hb' (I1.hok.fresh hb')
theorem for_enum {K : PySem.W.Frag} {a : Addr} {xs : List V} {g : TG} {tb : TS} {D : Ends} {σ : St} {H : Hp} (Pv : Nat → St → Hp → Prop) (h0 : Pv 0 σ H) (hl : ∀ i σ H, i ≤ xs.length → Pv i σ H → SqT K H a xs)
    (hs : ∀ i x T σ H, xs[i]? = some x → H T = Option.none → Pv i σ H → g (.ref T) σ (upd H T (.tup [.int (i : Int), x])) fun σ2 H2 => tb { D with nx := Pv (i + 1), ct := Pv (i + 1), bk := D.nx } σ2 H2) (hd : ∀ σ H, Pv xs.length σ H → D.nx σ H) :
    ∃ W : Nat → Nat → St → Hp → Prop, (∃ m, W 0 m σ H) ∧ ∀ i m σ H, W i m σ H →
      ((Ite K a).stop i H ∧ D.nx σ H) ∨ ((Ite K a).go i H ∧ ∃ N : St → Hp → Prop, (∀ σ' H', N σ' H' → ∃ m', m' < m ∧ W (i + 1) m' σ' H') ∧ ∀ x H', (Ite K a).yld i H x H' → g x σ H' fun σ2 H2 => tb { D with nx := N, ct := N, bk := D.nx } σ2 H2) := by
  refine ⟨fun i m σ H => m = xs.length - i ∧ i ≤ xs.length ∧ Pv i σ H, ⟨xs.length, by simp, Nat.zero_le _, h0⟩, fun i m σ H h => ?_⟩
  obtain ⟨hm, hi, p⟩ := h
  have q := hl i σ H hi p
  by_cases hlt : i < xs.length
  · refine .inr ⟨⟨xs, xs[i], q, List.getElem?_eq_getElem hlt⟩, Pv (i + 1), fun σ' H' p' => ⟨xs.length - (i + 1), by omega, rfl, hlt, p'⟩, fun x H' y => ?_⟩
    obtain ⟨T, z, rfl, hT, rfl, hz⟩ := y
    exact hs i z T σ H (hz xs q) hT p
  · have e : i = xs.length := by omega
    subst e
    exact .inl ⟨⟨xs, q, rfl⟩, hd σ H p⟩
end L2

/-! ## a comprehension whose element changes what is there (a pop) -/
namespace L2
open PySem PySem.Spec PyProof.Rows
/-- over a range, without a test: Pv i ys H, ys what has been gathered -/
theorem comp_inv {lo : Int} {n : Nat} {te : TE} {Q : VK} {H1 : Hp} {rest : St} (Pv : Nat → List V → Hp → Prop) (hn : n ≤ sizeLine) (h0 : Pv 0 [] H1) (hp : ∀ i ys H D zs, H1 D = Option.none → Pv i ys H → Pv i ys (upd H D (.lst zs)))
    (he : ∀ i ys H D, i < n → ys.length = i → Pv i ys H → H1 D = Option.none → H D = some (.lst ys) → ∀ C : VK, (∀ v H5, Pv (i + 1) (ys ++ [v]) H5 → H5 D = some (.lst ys) → C v H5) → te (some (.int (lo + i)) :: rest) H C)
    (hQ : ∀ D ys H', ys.length = n → Pv n ys H' → H' D = some (.lst ys) → H1 D = Option.none → Q (.ref D) H') :
    CompLoop (Itr lo n) H1 (gName 0) tYes te (Option.none :: rest) Q := by
  intro D hD
  refine ⟨fun i m σ1 H2 => m = n - i ∧ i ≤ n ∧ (∃ o, σ1 = o :: rest) ∧ ∃ ys, ys.length = i ∧ Pv i ys H2 ∧ H2 D = some (.lst ys), ⟨n, rfl, Nat.zero_le _, ⟨_, rfl⟩, [], rfl, hp _ _ _ _ _ hD h0, upd_same⟩, ?_⟩
  rintro i m σ1 H2 ⟨rfl, hi, ⟨o, rfl⟩, ys, hy, p, e⟩
  by_cases lt : i < n
  · refine .inr ⟨lt, fun σ' H' => (∃ o, σ' = o :: rest) ∧ ∃ ys, ys.length = i + 1 ∧ Pv (i + 1) ys H' ∧ H' D = some (.lst ys), fun σ' H' q => ⟨n - (i + 1), by omega, rfl, lt, q⟩, fun x H' yl => ?_⟩
    obtain ⟨rfl, rfl⟩ := yl
    unfold tYes gName
    dsimp only
    rw [if_pos rfl]
    refine he i ys H' D lt hy p hD e _ fun v H5 p5 e5 => ?_
    exact ⟨_, e5, by omega, ⟨_, rfl⟩, ys ++ [v], by rw [List.length_append, hy] <;> rfl, hp _ _ _ _ _ hD p5, upd_same⟩
  · have e' : i = n := by omega
    subst e'
    exact .inl ⟨Nat.le_refl _, hQ D ys H2 hy p e hD⟩
end L2

/-! ## the tree of questions of a sort, under keys that are all different -/
namespace L2
open PySem PySem.W PyProof.Rows
section
variable {cmp : Nat → Nat → (Bool → Shared → Prop) → Shared → Prop} {Good : Shared → Prop} {N : Nat} {key : Nat → Int}
/-- the questions are answered by the keys -/
structure Asks (cmp : Nat → Nat → (Bool → Shared → Prop) → Shared → Prop) (Good : Shared → Prop) (N : Nat) (key : Nat → Int) : Prop where
  mono : ∀ i j (C C' : Bool → Shared → Prop) s, (∀ b s', C b s' → C' b s') → cmp i j C s → cmp i j C' s
  ans : ∀ i j (C : Bool → Shared → Prop) s, i < N → j < N → Good s → (∀ s', Good s' → C (decide (key i < key j)) s') → cmp i j C s
  inj : ∀ i j, i < N → j < N → key i = key j → i = j
def Wt {α : Type} (cmp : Nat → Nat → (Bool → Shared → Prop) → Shared → Prop) (Good : Shared → Prop) (t : KasT α) (Φ : α → Prop) : Prop := ∀ s, Good s → t.kasWp cmp (fun a s' => Good s' ∧ Φ a) s
theorem kasMono {α : Type} (K : Asks cmp Good N key) {Q Q' : α → Shared → Prop} (h : ∀ a s, Q a s → Q' a s) : ∀ (t : KasT α) (s : Shared), t.kasWp cmp Q s → t.kasWp cmp Q' s
  | .ret _, _, q => h _ _ q
  | .ask i j k, s, q => K.mono i j _ _ s (fun b s' z => kasMono K h (k b) s' z) q
theorem Wt.ret {α : Type} {Φ : α → Prop} {a : α} (h : Φ a) : Wt cmp Good (.ret a) Φ := fun _ g => ⟨g, h⟩
theorem Wt.ask {α : Type} {Φ : α → Prop} {i j : Nat} {k : Bool → KasT α} (K : Asks cmp Good N key) (hi : i < N) (hj : j < N) (h : Wt cmp Good (k (decide (key i < key j))) Φ) : Wt cmp Good (.ask i j k) Φ :=
  fun s g => K.ans i j _ s hi hj g fun s' g' => h s' g'
theorem Wt.bind {α β : Type} {Φ : α → Prop} {Ψ : β → Prop} {t : KasT α} {f : α → KasT β} (K : Asks cmp Good N key) (h : Wt cmp Good t Φ) (hf : ∀ a, Φ a → Wt cmp Good (f a) Ψ) : Wt cmp Good (t.bind f) Ψ := fun s g => by
  rw [KasT.kasWp_bind]
  exact kasMono K (fun a s' ⟨g', p⟩ => hf a p s' g') t s (h s g)
theorem Wt.mono {α : Type} {Φ Ψ : α → Prop} {t : KasT α} (K : Asks cmp Good N key) (h : Wt cmp Good t Φ) (hf : ∀ a, Φ a → Ψ a) : Wt cmp Good t Ψ := fun s g => kasMono K (fun a _ ⟨g', p⟩ => ⟨g', hf a p⟩) t s (h s g)
/-- an arrangement of 0 .. N - 1 -/
structure Arr (N : Nat) (p : Array Nat) : Prop where
  perm : p.Perm (List.range N).toArray
theorem Arr.size {p : Array Nat} (a : Arr N p) : p.size = N := by have := a.perm.size_eq; simpa using this
theorem Arr.lt {p : Array Nat} (a : Arr N p) {i : Nat} (h : i < N) : p.getD i 0 < N := by
  have hs := a.size
  have hm : p[i]'(by omega) ∈ p := Array.getElem_mem (by omega)
  have := (a.perm.mem_iff).mp hm
  have e : p.getD i 0 = p[i]'(by omega) := by simp [Array.getD, hs, h]
  rw [e]
  simpa using this
theorem Arr.inj {p : Array Nat} (a : Arr N p) {i j : Nat} (hi : i < N) (hj : j < N) (e : p.getD i 0 = p.getD j 0) : i = j := by
  have hs := a.size
  have nd : p.toList.Nodup := (a.perm.toList.nodup_iff).mpr (by simpa using List.nodup_range)
  have e1 : p.getD i 0 = p.toList[i]'(by simpa [hs] using hi) := by simp [Array.getD, hs, hi]
  have e2 : p.getD j 0 = p.toList[j]'(by simpa [hs] using hj) := by simp [Array.getD, hs, hj]
  exact (List.getElem_inj nd).mp (by rw [← e1, ← e2]; exact e)
abbrev kAt (key : Nat → Int) (p : Array Nat) (i : Nat) : Int := key (p.getD i 0)
def Inc (key : Nat → Int) (p : Array Nat) (n : Nat) : Prop := ∀ i j, i < j → j < n → kAt key p i < kAt key p j
def Dec (key : Nat → Int) (p : Array Nat) (n : Nat) : Prop := ∀ i j, i < j → j < n → kAt key p j < kAt key p i
theorem kAt_ne (K : Asks cmp Good N key) {p : Array Nat} (a : Arr N p) {i j : Nat} (hi : i < N) (hj : j < N) (h : i ≠ j) : kAt key p i ≠ kAt key p j := fun e => h (a.inj hi hj (K.inj _ _ (a.lt hi) (a.lt hj) e))
theorem Inc.step {p : Array Nat} {n : Nat} (h : Inc key p n) (h1 : 1 ≤ n) (hl : kAt key p (n - 1) < kAt key p n) : Inc key p (n + 1) := fun i j hij hj => by
  by_cases e : j = n
  · subst e
    by_cases e2 : i = j - 1
    · rw [e2]; exact hl
    · exact Int.lt_trans (h i (j - 1) (by omega) (by omega)) hl
  · exact h i j hij (by omega)
theorem Dec.step {p : Array Nat} {n : Nat} (h : Dec key p n) (h1 : 1 ≤ n) (hl : kAt key p n < kAt key p (n - 1)) : Dec key p (n + 1) := fun i j hij hj => by
  by_cases e : j = n
  · subst e
    by_cases e2 : i = j - 1
    · rw [e2]; exact hl
    · exact Int.lt_trans hl (h i (j - 1) (by omega) (by omega))
  · exact h i j hij (by omega)
theorem asc_ok (K : Asks cmp Good N key) {p : Array Nat} (a : Arr N p) : ∀ (f n : Nat), 1 ≤ n → n + f ≤ N → Inc key p n → Wt cmp Good (kas_asc p f n) fun m => n ≤ m ∧ m ≤ n + f ∧ Inc key p m ∧ (m < n + f → kAt key p m < kAt key p (m - 1))
  | 0, n, _, _, h => .ret ⟨Nat.le_refl _, Nat.le_refl _, h, fun z => absurd z (Nat.lt_irrefl _)⟩
  | f + 1, n, h1, hN, h => by
    unfold kas_asc
    refine Wt.ask K (a.lt (by omega)) (a.lt (by omega)) ?_
    by_cases c : key (p.getD n 0) < key (p.getD (n - 1) 0)
    · rw [decide_eq_true c, if_pos rfl]
      exact .ret ⟨Nat.le_refl _, by omega, h, fun _ => c⟩
    · rw [decide_eq_false c, if_neg Bool.false_ne_true]
      have ne := kAt_ne K a (i := n) (j := n - 1) (by omega) (by omega) (by omega)
      have lt : kAt key p (n - 1) < kAt key p n := by unfold kAt at ne ⊢; omega
      refine (asc_ok K a f (n + 1) (by omega) (by omega) (h.step h1 lt)).mono K fun m q => ⟨by omega, by omega, q.2.2.1, fun z => q.2.2.2 (by omega)⟩
theorem desc_ok (K : Asks cmp Good N key) {p : Array Nat} (a : Arr N p) : ∀ (f n : Nat), 1 ≤ n → n + f ≤ N → Dec key p n → Wt cmp Good (kas_desc f p n 0) fun r => r.1 = p ∧ r.2.2 = 0 ∧ n ≤ r.2.1 ∧ r.2.1 ≤ n + f ∧ Dec key p r.2.1
  | 0, n, _, _, h => .ret ⟨rfl, rfl, Nat.le_refl _, Nat.le_refl _, h⟩
  | f + 1, n, h1, hN, h => by
    unfold kas_desc
    refine Wt.ask K (a.lt (by omega)) (a.lt (by omega)) ?_
    by_cases c : key (p.getD n 0) < key (p.getD (n - 1) 0)
    · rw [decide_eq_true c, if_pos rfl, if_neg (by decide)]
      refine (desc_ok K a f (n + 1) (by omega) (by omega) (h.step h1 c)).mono K fun m q => ⟨q.1, q.2.1, by omega, by omega, q.2.2.2.2⟩
    · rw [decide_eq_false c, if_neg Bool.false_ne_true]
      have ne := kAt_ne K a (i := n) (j := n - 1) (by omega) (by omega) (by omega)
      have lt : key (p.getD (n - 1) 0) < key (p.getD n 0) := by unfold kAt at ne; omega
      refine Wt.ask K (a.lt (by omega)) (a.lt (by omega)) ?_
      rw [decide_eq_true lt, if_pos rfl]
      exact .ret ⟨rfl, rfl, Nat.le_refl _, by show n ≤ n + (f + 1); omega, h⟩
theorem rev_arr {p : Array Nat} (a : Arr N p) (i j : Nat) : Arr N (kas_rev p i j) := ⟨(mirror_perm ..).trans a.perm⟩
theorem getD_of? {p q : Array Nat} {i j : Nat} (h : p[i]? = q[j]?) : p.getD i 0 = q.getD j 0 := by
  rw [Array.getD_eq_getD_getElem?, Array.getD_eq_getD_getElem?, h]
theorem rev_inc {p : Array Nat} (a : Arr N p) {n : Nat} (hn : n ≤ N) (h : Dec key p n) : Inc key (kas_rev p 0 n) n := fun i j hij hj => by
  have hs := a.size
  have g : ∀ k, k < n → (kas_rev p 0 n).getD k 0 = p.getD (n - 1 - k) 0 := fun k hk => getD_of? (by
    have := getElem?_mirror_all (xs := p) (i := 0) (j := n) (by omega) k
    unfold kas_rev
    rw [this, if_pos (by omega)]
    congr 1; omega)
  unfold kAt
  rw [g i (by omega), g j hj]
  exact h (n - 1 - j) (n - 1 - i) (by omega) (by omega)
theorem tail_ok (K : Asks cmp Good N key) {p : Array Nat} (a : Arr N p) {n : Nat} (h1 : 1 ≤ n) (hn : n ≤ N) (h : Dec key p n) : Wt cmp Good (kas_tail3 n N p) fun r => Arr N r.2 ∧ 1 ≤ r.1 ∧ r.1 ≤ N ∧ Inc key r.2 r.1 := by
  unfold kas_tail3
  refine Wt.bind K (asc_ok K (rev_arr a 0 n) (N - n) n h1 (by omega) (rev_inc a hn h)) fun m q => .ret ⟨rev_arr a 0 n, by show 1 ≤ m; omega, by show m ≤ N; omega, q.2.2.1⟩
theorem count_ok (K : Asks cmp Good N key) {p : Array Nat} (a : Arr N p) (hN : 2 ≤ N) : Wt cmp Good (kas_count N p) fun r => Arr N r.2 ∧ 1 ≤ r.1 ∧ r.1 ≤ N ∧ Inc key r.2 r.1 := by
  unfold kas_count
  refine Wt.bind K (asc_ok K a (N - 1) 1 (Nat.le_refl _) (by omega) fun i j hij hj => by omega) fun n q => ?_
  obtain ⟨q1, q2, q3, q4⟩ := q
  by_cases e : (n == N) = true
  · rw [if_pos e]
    have e' := eq_of_beq e
    exact .ret ⟨a, q1, by show n ≤ N; omega, q3⟩
  · rw [if_neg e]
    have e' : n ≠ N := fun z => e (by rw [z]; exact beq_self_eq_true _)
    by_cases g : n > 1
    · rw [if_pos g]
      refine Wt.ask K (a.lt (by omega)) (a.lt (by omega)) ?_
      rw [decide_eq_true (q3 0 (n - 1) (by omega) (by omega)), if_pos rfl]
      exact .ret ⟨a, q1, by show n ≤ N; omega, q3⟩
    · rw [if_neg g]
      have n1 : n = 1 := by omega
      subst n1
      have lt := q4 (by omega)
      unfold kas_descPart
      refine Wt.bind K (desc_ok K a (N - (1 + 1)) (1 + 1) (by omega) (by omega) (Dec.step (n := 1) (fun i j hij hj => by omega) (Nat.le_refl _) lt)) fun r q => ?_
      obtain ⟨r0, r1, r2⟩ := r
      obtain ⟨z1, z2, z3, z4, z5⟩ := q
      have z1' : r0 = p := z1
      have z2' : r2 = 0 := z2
      subst z1' z2'
      rw [if_neg (show ¬ (0 : Nat) > 0 by decide)]
      exact tail_ok K a (by show 1 ≤ r1; exact Nat.le_trans (by omega) z3) (by show r1 ≤ N; have : r1 ≤ 1 + 1 + (N - (1 + 1)) := z4; omega) z5
theorem place_ok (K : Asks cmp Good N key) {p : Array Nat} (a : Arr N p) {k : Nat} (hk : k < N) (h : Inc key p k) : ∀ (f l r : Nat), r - l ≤ f → l ≤ r → r ≤ k → (∀ i, i < l → kAt key p i < kAt key p k) → (∀ i, r ≤ i → i < k → kAt key p k < kAt key p i) →
    Wt cmp Good (kas_place p k f l r) fun m => m ≤ k ∧ (∀ i, i < m → kAt key p i < kAt key p k) ∧ ∀ i, m ≤ i → i < k → kAt key p k < kAt key p i
  | 0, l, r, hf, hl, hr, h1, h2 => .ret ⟨by omega, h1, fun i a b => h2 i (by omega) b⟩
  | f + 1, l, r, hf, hl, hr, h1, h2 => by
    unfold kas_place
    by_cases g : l ≥ r
    · rw [if_pos g]
      exact .ret ⟨by omega, h1, fun i a b => h2 i (by omega) b⟩
    · rw [if_neg g]
      have m1 : l ≤ (l + r) / 2 := by omega
      have m2 : (l + r) / 2 < r := by omega
      refine Wt.ask K (a.lt hk) (a.lt (by omega)) ?_
      by_cases c : key (p.getD k 0) < key (p.getD ((l + r) / 2) 0)
      · rw [decide_eq_true c, if_pos rfl]
        refine place_ok K a hk h f l _ (by omega) m1 (by omega) h1 fun i a b => ?_
        by_cases e : i = (l + r) / 2
        · rw [e]; exact c
        · exact Int.lt_trans c (h _ i (by omega) b)
      · rw [decide_eq_false c, if_neg Bool.false_ne_true]
        have ne := kAt_ne K a (i := k) (j := (l + r) / 2) hk (by omega) (by omega)
        have lt : kAt key p ((l + r) / 2) < kAt key p k := by unfold kAt at ne ⊢; omega
        refine place_ok K a hk h f _ r (by omega) (by omega) hr (fun i hi => ?_) h2
        by_cases e : i = (l + r) / 2
        · rw [e]; exact lt
        · exact Int.lt_trans (h i _ (by omega) (by omega)) lt
theorem bin_ok (K : Asks cmp Good N key) : ∀ (f : Nat) (p : Array Nat) (k : Nat), Arr N p → f + k = N → Inc key p k → Wt cmp Good (kas_bin f p k) fun q => Arr N q ∧ Inc key q N
  | 0, p, k, a, e, h => .ret ⟨a, by rw [← e, Nat.zero_add]; exact h⟩
  | f + 1, p, k, a, e, h => by
    unfold kas_bin
    refine Wt.bind K (place_ok K a (by omega) h k 0 k (by omega) (Nat.zero_le _) (Nat.le_refl _) (fun i hi => absurd hi (Nat.not_lt_zero _)) fun i a b => by omega) fun l q => ?_
    obtain ⟨q1, q2, q3⟩ := q
    have hs := a.size
    have a' : Arr N (bubble p k (k - l)) := ⟨(bubble_perm ..).trans a.perm⟩
    refine bin_ok K f _ (k + 1) a' (by omega) fun i j hij hj => ?_
    have g : ∀ m, kAt key (bubble p k (k - l)) m = if m = l then kAt key p k else if l < m ∧ m ≤ k then kAt key p (m - 1) else kAt key p m := fun m => by
      have := getElem?_bubble (xs := p) (src := k) (by omega) (k - l) (by omega) m
      rw [show k - (k - l) = l by omega] at this
      unfold kAt
      by_cases c1 : m = l
      · rw [if_pos c1] at this ⊢; rw [getD_of? this]
      · rw [if_neg c1] at this ⊢
        by_cases c2 : l < m ∧ m ≤ k
        · rw [if_pos c2] at this ⊢; rw [getD_of? this]
        · rw [if_neg c2] at this ⊢; rw [getD_of? this]
    rw [g i, g j]
    by_cases i1 : i = l
    · rw [if_pos i1, if_neg (by omega), if_pos (by omega)]
      exact q3 (j - 1) (by omega) (by omega)
    · rw [if_neg i1]
      by_cases i2 : i < l
      · rw [if_neg (by omega)]
        by_cases j1 : j = l
        · rw [if_pos j1]; exact q2 i i2
        · rw [if_neg j1]
          by_cases j2 : j < l
          · rw [if_neg (by omega)]; exact h i j hij (by omega)
          · rw [if_pos (by omega)]; exact h i (j - 1) (by omega) (by omega)
      · rw [if_pos (by omega), if_neg (by omega), if_pos (by omega)]
        exact h (i - 1) (j - 1) (by omega) (by omega)
theorem sort_ok (K : Asks cmp Good N key) (hN : 2 ≤ N) : Wt cmp Good (kas_sort N) fun q => Arr N q ∧ Inc key q N := by
  unfold kas_sort
  refine Wt.bind K (count_ok K (p := (List.range N).toArray) ⟨Array.Perm.refl _⟩ hN) fun r q => ?_
  obtain ⟨q1, q2, q3, q4⟩ := q
  by_cases g : r.1 < N
  · rw [if_pos g, Nat.max_eq_left q2]
    exact bin_ok K _ _ _ q1 (by omega) q4
  · rw [if_neg g]
    have e : r.1 = N := by omega
    exact .ret ⟨q1, e ▸ q4⟩
end
end L2

/-! ## any(list of truths) -/
namespace L2
open PySem PySem.Spec PyProof.Rows
section
variable {X : Cx}
theorem any_at {bs : List Bool} : ((List.range bs.length).any fun i => (bs[i]?).getD false) = bs.any id := by
  rw [Bool.eq_iff_iff, List.any_eq_true, List.any_eq_true]
  constructor
  · rintro ⟨i, hi, h⟩
    have hi' := List.mem_range.mp hi
    simp only [List.getElem?_eq_getElem hi', Option.getD_some] at h
    exact ⟨_, List.getElem_mem hi', h⟩
  · rintro ⟨b, hb, h⟩
    obtain ⟨i, hi, e⟩ := List.getElem_of_mem hb
    refine ⟨i, List.mem_range.mpr hi, ?_⟩
    simp only [List.getElem?_eq_getElem hi, Option.getD_some, e]
    exact h
def rAnyL (K : PySem.W.Frag) : List V → Hp → VK → Prop := fun xs H Q => ∃ (p : Addr) (bs : List Bool), xs = [.ref p] ∧ SqL K H p (bs.map V.bl) ∧ Q (.bl (bs.any id)) H
theorem call_any (K : PySem.W.Frag) (hK : X.K = K) (hc : X.calm = true) : CallR X (.builtin "any") (rAnyL K) := fun pins s σ H xs us Q I r h => by
  subst hK
  obtain ⟨p, bs, rfl, hs, q⟩ := h
  obtain ⟨u, rfl, rx⟩ := vals1 r
  cases rx
  obtain ⟨its, rv, pl, hz⟩ := I.list hs
  have hl := pl.isList
  have hlen := rv.length
  rw [List.length_map] at hlen
  have hlt : p < s.heap.objs.size := by obtain ⟨_, e, _⟩ := hl; exact Heap.lt_size e
  refine call_any_walk (wpAny_pyIter_list hl ?_)
  refine ⟨s.heap.objs.size, [s.heap.objs.size, p], [s.heap.objs.size], its.toArray.size, _, _, fun i => (bs[i]?).getD false, rfl, Walks.list (A := X.A.in1) (I.ok.hd hc) _ p (Nat.ne_of_lt hlt) its.toArray,
    ⟨⟨_, Heap.get?_push_size _ rfl, rfl, rfl⟩, hl.push _⟩, fun i v s' Q' E' hP hQ => ?_, fun h' tk hk => ?_⟩
  · have hP' : its[i]? = some v := by simpa using hP
    have hi : i < bs.length := by have := (List.getElem?_eq_some_iff.mp hP').1; omega
    obtain ⟨u, hu, ru⟩ := rv.get (i := i) (x := .bl bs[i]) (by rw [List.getElem?_map, List.getElem?_eq_getElem hi]; rfl)
    rw [hP'] at hu
    cases hu
    cases ru
    simp only [List.getElem?_eq_getElem hi, Option.getD_some] at hQ
    exact wpAny_truthy_bool hQ
  · have e : ((List.range its.toArray.size).any fun i => (bs[i]?).getD false) = bs.any id := by
      rw [List.size_toArray, ← hlen]; exact any_at
    rw [e]
    refine ⟨.bl _, H, I.kept (t' := tk) fun b o e => hk b o (fun hm => ?_) (Heap.get?_push_of_some _ e), rfl, q⟩
    rw [List.mem_singleton.mp hm] at e
    exact Nat.lt_irrefl _ (Heap.lt_size e)
end
end L2

/-! ## name = a comprehension: the name is stored ahead of letting the block's own names go -/
namespace L2
open PySem PySem.Spec PyProof.Rows
theorem comp_run {X : Cx} {scope : Scope} {cl : List (Str × Addr)} {tn fr : List Str} {idx : List Nat} {tg iter elt : Expr} {ifs : List Expr} {wi : TI} {g : TG} {tc : TT} {te : TE} {pos : Pos}
    (hc : X.calm = true) (ok : CompOk X scope cl fr idx) (hi : PI X tg iter wi)
    (hg : ∀ fp pins C s H, PG (cxComp X scope cl (tn ++ fr) fp pins C s H) tg g)
    (ht : ∀ fp pins C s H, PTs (cxComp X scope cl (tn ++ fr) fp pins C s H) ifs tc)
    (he : ∀ fp pins C s H, PE (cxComp X scope cl (tn ++ fr) fp pins C s H) elt te)
    (hs : ∀ x, foldedSetIterable iter X.env x = pure x) {pins : List (Addr × Obj)} {s : Shared} {σ : St} {H : Hp} {Q : VK} (I : Inv X pins σ H s) (h : tComp wi g tc te tn.length idx σ H Q) {ipos : Pos} {use : Option (Value → Sem Unit)} {Q' : Value → Shared → Prop}
    (fin : ∀ (C D : Addr) (H4 : Hp) (s5 : Shared) (m5 : Str → Option Value) (r : Flow), s5.heap.Ns C m5 → (∀ h', Heap.SameBut C s5.heap h' → Inv X pins σ H4 { s5 with heap := h' }) → FpOk X pins H4 C → Q (.ref D) H4 → compPost (model X.prog X.w) X.A X.xe use Q' (.ref D) C (.ok r) s5) :
    wpAny (model X.prog X.w) X.A (comprehension (.ListComp elt [⟨tg, iter, ifs, 0⟩] scope pos) scope X.env ipos (newList []) false (eval iter X.env) use) Q' X.xe s := by
  refine wpAny_comprehension_free (use := use) rfl hs ok.clos ok.kind ok.names (thn (hi pins s σ H _ I h) fun v s1 h1 => thn h1 fun itv s2 h2 => ?_)
  obtain ⟨it, fp, tn', J, H2, e, I2, T, st2, f2, hR⟩ := h2
  subst e
  have hD : H2 s2.heap.objs.size = none := I2.hok.fresh (Nat.le_refl _)
  obtain ⟨W, ⟨m0, w0⟩, turn⟩ := hR s2.heap.objs.size hD
  refine wpAny_newObj_type (wpAny_newFunctionEnv ok.cell (by intro y hy; simp at hy) (fun h₁ hns₁ hsb₁ => ?_) ok.kind)
  have I3 : Inv X pins σ (upd H2 s2.heap.objs.size (.lst [])) { s2 with heap := s2.heap.push { cls := .type "list", dict := none, data := .seq ([] : List Value).toArray } } := I2.lnew (t' := s2.toks) (its := []) .nil (Nat.zero_le _)
  generalize hs3 : ({ s2 with heap := s2.heap.push { cls := .type "list", dict := none, data := .seq ([] : List Value).toArray } } : Shared) = s3 at I3 hns₁ hsb₁ ⊢
  generalize hH3 : upd H2 s2.heap.objs.size (.lst []) = H3 at I3 w0
  generalize hDe : s2.heap.objs.size = D at turn
  have hfp3 : ∀ b ∈ fp, ∃ o, s3.heap.get? b = some o ∧ ∀ v, o.data ≠ .cell v := fun b hb => by
    obtain ⟨o, e, d⟩ := T.obj _ _ st2 b hb
    refine ⟨o, ?_, d⟩
    rw [← hs3]
    exact Heap.get?_push_of_some _ e
  have st3 : tn' 0 s3.heap := T.keep _ _ _ st2 fun b hb o e => by rw [← hs3]; exact Heap.get?_push_of_some _ e
  have fH3 : ∀ b ∈ fp, FpOk X pins H3 b := fun b hb => by
    obtain ⟨f0, fr'⟩ := f2 b hb
    refine ⟨?_, fr'⟩
    obtain ⟨o, e, _⟩ := T.obj _ _ st2 b hb
    rw [← hH3, upd_ne (Nat.ne_of_lt (Heap.lt_size e))]
    exact f0
  have kept : ∀ b o, s3.heap.get? b = some o → h₁.get? b = some o := fun b o e => hsb₁.extBut b o (Nat.ne_of_lt (Heap.lt_size e)) (Heap.get?_push_of_some _ e)
  -- the block's context
  let Y : Cx := cxComp X scope cl (tn ++ fr) fp pins s3.heap.objs.size s3 H3
  have hCfresh : H3 s3.heap.objs.size = none := I3.hok.fresh (Nat.le_refl _)
  have clOf : ∀ x c, cl.lookup x = some c → X.env.cells.lookup x = some c := fun x c e => ok.allC.look e
  have frOf : ∀ x, (x, NameKind.free) ∈ scope.names → ∃ c, cl.lookup x = some c := fun x m => by
    have q := List.all_eq_true.mp ok.has _ m
    have q' : (cl.lookup x).isSome = true := by simpa using q
    exact Option.isSome_iff_exists.mp q'
  have stkNo : ∀ {b : Addr}, b ≠ X.env.locals → b ∉ X.fs → b ∉ frs X.stack := fun h1 h2 hb => (List.mem_cons.mp (I3.stkSub _ hb)).elim h1 h2
  have I4 : Inv Y [] (List.replicate tn.length none ++ frSt idx σ) H3 { s3 with heap := h₁, toks := s3.toks + ([] : List (Str × Value)).length } := by
    refine ⟨⟨I3.ok.mod, ok.kind, I3.ok.glob, I3.ok.blt, Nat.le_refl _, fun x y c h1 h2 => I3.ok.inj x y c (clOf x c h1) (clOf y c h2), fun x hx => ?_, fun x c h1 _ => (by cases h1), I3.ok.hd, I3.ok.frames, .inl rfl, fun b hb => ?_, I3.bs, Nat.le_trans I3.ok.bsz I3.sz, fun b o e hb => ?_, fun b hb => ?_, I3.stack, I3.stkFree⟩,
      rfl, I3.bare, Un.kept kept, ⟨_, hns₁, fun i x v h1 h2 h3 => ?_⟩, fun x c e => ?_, hCfresh, fun x c e => I3.freeC x c (clOf x c e), fun p hp => ?_, I3.hok.kept kept, ?_⟩
    · have hx' : (relabel scope X.env).names.lookup x = some .cell ∨ (relabel scope X.env).names.lookup x = some .free := hx
      rcases hx' with hx' | hx'
      · obtain ⟨k0, m, z⟩ := lookup_relabel hx'
        rcases z with z | ⟨z, _⟩
        · exact absurd z.symm (ok.cell _ m)
        · subst z; exact frOf x m
      · obtain ⟨k0, m, z⟩ := lookup_relabel hx'
        rcases z with z | ⟨_, z⟩
        · subst z; exact frOf x m
        · cases z
    · obtain ⟨o, e, _⟩ := hfp3 b hb
      exact ⟨Nat.ne_of_lt (Heap.lt_size e), fun x c q => (fH3 b hb).2.2.2.2.1 x c (clOf x c q)⟩
    · rcases (fH3 b hb).2.2.2.1 with z | z
      · exact I3.ok.noex b o e z
      · exact absurd (Nat.lt_of_lt_of_le (Heap.lt_size e) (Nat.le_trans I3.ok.bsz z)) (Nat.lt_irrefl _)
    · exact stkNo (fH3 b hb).2.1 (fH3 b hb).2.2.1
    · have hge : tn.length ≤ i := by
        refine Nat.le_of_not_lt fun lt => ?_
        rw [List.getElem?_append_left (by simpa using lt), List.getElem?_replicate] at h2
        split at h2 <;> cases h2
      rw [List.getElem?_append_right (by simpa using hge), List.length_replicate] at h2
      have h1' : (tn ++ fr)[i]? = some x := h1
      rw [List.getElem?_append_right hge] at h1'
      obtain ⟨j, q1, q2, q3, q4⟩ := ok.slots.get h1' h2
      obtain ⟨m, hn, hl⟩ := I3.loc
      obtain ⟨u, r, l⟩ := hl j x v q1 q2 (.inr q3)
      refine ⟨u, r, .inr ⟨q4, ?_⟩⟩
      rcases l with ⟨lk, _⟩ | ⟨_, c, lc, cell⟩
      · have lk' : X.env.scope.names.lookup x = some .local := lk
        rcases q3 with z | z <;> rw [z] at lk' <;> cases lk'
      · have free : (x, NameKind.free) ∈ scope.names := by
          rcases q4 with z | z
          · obtain ⟨k0, m', y⟩ := lookup_relabel z
            rcases y with y | ⟨y, _⟩
            · exact absurd y.symm (ok.cell _ m')
            · subst y; exact m'
          · obtain ⟨k0, m', y⟩ := lookup_relabel z
            rcases y with y | ⟨_, y⟩
            · subst y; exact m'
            · cases y
        obtain ⟨c', e'⟩ := frOf x free
        have := clOf x c' e'
        rw [lc] at this; cases this
        obtain ⟨o, ho, hd⟩ := cell
        exact ⟨c, e', o, kept c o ho, hd⟩
    · obtain ⟨v, o, ho, hd⟩ := I3.cell x c (clOf x c e)
      exact ⟨v, o, kept c o ho, hd⟩
    · have hp' : p ∈ X.pn ++ pins := by
        have : p ∈ (X.pn ++ pins) ++ [] := hp
        simpa using this
      obtain ⟨q1, q2, q3, q4, q5⟩ := I3.pin p hp'
      exact ⟨kept _ _ q1, q2, Nat.ne_of_lt (Heap.lt_size q1), stkNo q3 q4, q5⟩
    · show _ = (tn ++ fr).length
      rw [List.length_append, List.length_append, List.length_replicate]
      unfold frSt
      rw [List.length_map, ok.slots.len]
  have stY : tn' 0 h₁ := T.keep _ _ _ st3 fun b _ o e => kept b o e
  have statY : ∀ {H' : Hp}, (∀ b ∈ fp, H' b = none) → ∀ b ∈ fp, FpOk Y [] H' b := fun hn b hb => by
    obtain ⟨o, e, _⟩ := hfp3 b hb
    refine ⟨hn b hb, Nat.ne_of_lt (Heap.lt_size e), stkNo (fH3 b hb).2.1 (fH3 b hb).2.2.1, .inl hb, fun x c q => (fH3 b hb).2.2.2.2.1 x c (clOf x c q), fun p hp => ?_⟩
    have hp' : p ∈ (X.pn ++ pins) ++ [] := hp
    exact (fH3 b hb).2.2.2.2.2 p (by simpa using hp')
  have loop : codeAny (model X.prog X.w) X.A (.compLoop (.ListComp elt [⟨tg, iter, ifs, 0⟩] scope pos) 0 (.ref it) (.ref D) Y.env) (compPost (model X.prog X.w) X.A X.xe use Q' (.ref D) s3.heap.objs.size)
      { s3 with heap := h₁, toks := s3.toks + ([] : List (Str × Value)).length } := by
    refine compLoop_own (fun n s' => ∃ i σ' H', Inv Y [] σ' H' s' ∧ tn' i s'.heap ∧ (∀ b ∈ fp, H' b = none) ∧ W i n σ' H') ?_ m0 ⟨0, _, H3, I4, stY, fun b hb => (fH3 b hb).1, w0⟩
    rintro n s4 ⟨i, σ4, H4, J4, st4, fr4, w4⟩
    rcases turn i n σ4 H4 w4 with ⟨stop, qn⟩ | ⟨go, N, hN, step⟩
    · refine thn (T.done Y rfl rfl rfl hc i [] s4 σ4 H4 _ J4 (statY fr4) st4 stop) fun r s5 ⟨hr, J5⟩ => ?_
      subst hr
      obtain ⟨m5, hn5, _⟩ := id J5.loc
      have hC0 : H4 s3.heap.objs.size = none := J5.free
      refine fin s3.heap.objs.size D H4 s5 m5 _ hn5 (fun h' hsb => ?_) (I3.fpOk (Nat.le_refl _) hC0) qn
      have hfreeC : H4 s3.heap.objs.size = none := J5.free
      have old : ∀ b o, s3.heap.get? b = some o → ∀ o', s5.heap.get? b = some o' → h'.get? b = some o' := fun b o e o' e' => (hsb.2 b (Nat.ne_of_lt (Heap.lt_size e))).trans e'
      have un : Un (frs X.stack) fp H3 H4 s3.heap h' := by
        have B : Un (frs X.stack) fp H3 H4 s3.heap s5.heap := J5.base
        refine ⟨fun b o e n hb hx => old b o e _ (B.keep b o e n hb hx), fun b o e n hb hx => ?_, B.free, fun b o e hx => ?_, B.tups, B.frzs, B.tbls⟩
        · obtain ⟨sl, z⟩ := B.slot b o e n hb hx
          exact ⟨sl, old b o e _ z⟩
        · obtain ⟨o', z⟩ := B.there b o e hx
          exact ⟨o', old b o e _ z⟩
      have hok' : HOk X.prog X.w H4 h' := fun b ob e => by
        refine (J5.hok b ob e).stay (fun c u hc' q => (hsb.2 c ?_).trans q) (fun _ q => q) fun _ _ q => q
        rintro rfl
        rcases hc' with rfl | hc'
        · rw [hfreeC] at e; cases e
        · rw [hfreeC] at hc'; cases hc'
      refine I3.call' (s' := { s5 with heap := h' }) (ch := fp) J5.os un hok' J5.bare (fun b hb => ?_)
      exact ⟨(fH3 b hb).2.2.2.1, (fH3 b hb).2.1, (fH3 b hb).2.2.2.2.1, (fH3 b hb).2.2.2.2.2⟩
    · refine thn (T.item Y rfl rfl rfl hc i [] s4 σ4 H4 _ J4 (statY fr4) st4 go) fun r s5 ⟨u, hr, h5⟩ => ?_
      subst hr
      refine thn h5 fun _ s6 ⟨x, H6, J6, r6, y6, st6, fr6⟩ => ?_
      have J6' := J6.pinned (statY fr6) (T.obj _ _ st6)
      refine thn (hg fp pins s3.heap.objs.size s3 H3 _ s6 σ4 H6 x u _ J6' r6 (step x H6 y6)) fun _ s7 ⟨σ7, H7, J7, q7⟩ => ?_
      refine thn (ht fp pins s3.heap.objs.size s3 H3 _ s7 σ7 H7 _ J7 q7) fun b s8 ⟨H8, J8, q8⟩ => ?_
      have again : ∀ {s9 : Shared} {H9 : Hp}, Inv Y ([] ++ pinsAt fp s6.heap) σ7 H9 s9 → N σ7 H9 → ∃ m, m < n ∧ ∃ i σ' H', Inv Y [] σ' H' s9 ∧ tn' i s9.heap ∧ (∀ b ∈ fp, H' b = none) ∧ W i m σ' H' := fun {s9 H9} J9 n9 => by
        obtain ⟨m', hm, w9⟩ := hN σ7 H9 n9
        refine ⟨m', hm, i + 1, σ7, H9, J9.unpinned, T.keep _ _ _ st6 fun b hb o e => (J9.pin (b, o) (List.mem_append_right _ (List.mem_append_right _ (mem_pinsAt hb e)))).1, fun b hb => ?_, w9⟩
        obtain ⟨o, e, d⟩ := T.obj _ _ st6 b hb
        exact (J9.pin (b, o) (List.mem_append_right _ (List.mem_append_right _ (mem_pinsAt hb e)))).2.1
      cases b with
      | false => exact again J8 q8
      | true =>
        refine thn (he fp pins s3.heap.objs.size s3 H3 _ s8 σ7 H8 _ J8 q8) fun y s9 ⟨vy, H9, J9, ry, ys, ey, hz, q9⟩ => ?_
        refine thn (mt_append (X := Y) _ s9 σ7 H9 (.ref D) [vy] (.ref D) [y] (fun _ H' => N σ7 H') J9 rfl (.cons ry .nil) ⟨D, ys, vy, rfl, rfl, ey, hz, q9⟩) fun _ s10 ⟨_, H10, J10, _, q10⟩ => ?_
        exact again J10 q10
  exact codeAny_compStart_list loop (T.self X.A 0 _ _ _ stY loop)
theorem ps_setC {X : Cx} {scope : Scope} {cl : List (Str × Addr)} {tn fr : List Str} {idx : List Nat} {tg iter elt : Expr} {ifs : List Expr} {wi : TI} {g : TG} {tc : TT} {te : TE} {pos pos' posc : Pos} {i : Nat} {x : Str}
    (hN : X.N.Nodup) (hix : X.N[i]? = some x) (hx : Loc X.env.scope x) (hc : X.calm = true) (ok : CompOk X scope cl fr idx) (hi : PI X tg iter wi)
    (hg : ∀ fp pins C s H, PG (cxComp X scope cl (tn ++ fr) fp pins C s H) tg g)
    (ht : ∀ fp pins C s H, PTs (cxComp X scope cl (tn ++ fr) fp pins C s H) ifs tc)
    (he : ∀ fp pins C s H, PE (cxComp X scope cl (tn ++ fr) fp pins C s H) elt te)
    (hs : ∀ x, foldedSetIterable iter X.env x = pure x := by intro _; rfl)
    (hsw : swapsWith (.ListComp elt [⟨tg, iter, ifs, 0⟩] scope posc) (some (.Name x pos')) pos.line X.env = pure true := by rfl)
    (hf : X.fn x = true ∨ X.env.scope.names.lookup x = some .local := by first | exact .inl rfl | exact .inr rfl | assumption) :
    PS X (.Assign [.Name x pos'] (.ListComp elt [⟨tg, iter, ifs, 0⟩] scope posc) pos) (tAsg (tComp wi g tc te tn.length idx) (gName i)) := by
  intro pins s σ H D I h
  rw [exec_Assign_Name_used _ _ _ _ hsw]
  refine wpAny_bind (wpAny_standAt (wpAny_bind ?_))
  show wpAny _ X.A (do let _ ← comprehension (.ListComp elt [⟨tg, iter, ifs, 0⟩] scope posc) scope X.env _ (newList []) false (eval iter X.env) (some (assign (.Name x pos') X.env))) _ _ s
  refine wpAny_bind (wpAny_mono (comp_run (Q' := fun _ s' => SP X pins D .next s') hc ok hi hg ht he hs I h fun C Dl H4 s5 m5 r hn5 all fo q => ?_) (fun _ s' hq => wpAny_pure (wpAny_pure hq)) fun _ _ e => e)
  have I5 : Inv X pins σ H4 s5 := all s5.heap (.refl _ _)
  have hob : ∀ b ∈ [C], ∃ o, s5.heap.get? b = some o ∧ ∀ v, o.data ≠ .cell v := fun b hb => by
    rw [List.mem_singleton.mp hb]
    obtain ⟨o, es, n, e, d, _⟩ := hn5
    exact ⟨o, e, fun v z => by rw [d] at z; cases z⟩
  have I6 := I5.pinned (fp := [C]) (fun b hb => by rw [List.mem_singleton.mp hb]; exact fo) hob
  obtain ⟨o, e5, _⟩ := hob C (List.mem_singleton.mpr rfl)
  refine thn (pg_name (pos := pos') hN hix hx hf _ s5 σ H4 (.ref Dl) (.ref Dl) D.nx I6 rfl q) fun _ s6 ⟨σ', H', I7, q7⟩ => ?_
  have p7 := I7.pin (C, o) (List.mem_append_right _ (List.mem_append_right _ (mem_pinsAt (List.mem_singleton.mpr rfl) e5)))
  have n7 : s6.heap.Ns C m5 := by
    obtain ⟨o', es, n, e, rest⟩ := hn5
    rw [e5] at e; cases e
    exact ⟨o, es, n, p7.1, rest⟩
  refine ⟨m5, n7, fun h' hsb => ⟨σ', H', ?_, q7⟩⟩
  have kp : ∀ b, b ≠ C → ∀ ob, s6.heap.get? b = some ob → h'.get? b = some ob := fun b hb ob e => (hsb.2 b hb).trans e
  have ne : ∀ {b : Addr}, b ∉ [C] → b ≠ C := fun hb z => hb (List.mem_singleton.mpr z)
  refine I7.unpinned.call' (s' := { s6 with heap := h' }) (ch := [C]) rfl ⟨fun b ob e _ _ hx => kp b (ne hx) ob e, fun b ob e _ _ hx => ⟨ob.slots, kp b (ne hx) ob e⟩, fun _ _ _ n _ => n, fun b ob e hx => ⟨ob, kp b (ne hx) ob e⟩, fun _ _ q => q, fun _ _ _ q => q, fun b ps q => ⟨#[], by rw [Array.append_empty]; exact q⟩⟩ (fun b ob e => ?_) I7.bare (fun b hb => ?_)
  · refine (I7.hok b ob e).stay (fun c u hc' q => (hsb.2 c ?_).trans q) (fun _ q => q) fun _ _ q => q
    rintro rfl
    have n0 : H' c = none := p7.2.1
    rcases hc' with rfl | hc'
    · rw [n0] at e; cases e
    · rw [n0] at hc'; cases hc'
  · rw [List.mem_singleton.mp hb]
    exact ⟨fo.2.2.2.1, fo.2.1, fo.2.2.2.2.1, fo.2.2.2.2.2⟩
end L2

/-! ## a comprehension with a pair of names as its target -/
namespace L2
open PySem PySem.Spec PyProof.Rows
theorem comp2_of {J : It} {K : PySem.W.Frag} {tc : TT} {te : TE} {Q : VK} {H1 : Hp} {n : Nat} {it u v y : Nat → V} {f : Nat → Bool} {rest : St} (fx : Fixed J n it H1) (hn : n ≤ sizeLine)
    (hp : ∀ i, i < n → ∃ p, it i = .ref p ∧ SqT K H1 p [u i, v i])
    (ht : ∀ i H2, i < n → Same H1 H2 → ∀ C : Bool → Hp → Prop, (∀ H4, Same H2 H4 → C (f i) H4) → tc (some (u i) :: some (v i) :: rest) H2 C)
    (he : ∀ i H2, i < n → f i = true → Same H1 H2 → ∀ C : VK, (∀ H5, Same H2 H5 → C (y i) H5) → te (some (u i) :: some (v i) :: rest) H2 C)
    (hQ : ∀ D H', Same H1 H' → H' D = some (.lst (((List.range n).filter f).map y)) → Q (.ref D) H') :
    CompLoop J H1 (gTup K 2 (gCons (gName 0) (gCons (gName 1) gNil))) tc te (Option.none :: Option.none :: rest) Q := by
  intro D hD
  refine ⟨fun i m σ1 H2 => m = n - i ∧ i ≤ n ∧ (∃ o o', σ1 = o :: o' :: rest) ∧ Same H1 H2 ∧ H2 D = some (.lst (((List.range i).filter f).map y)), ⟨n, rfl, Nat.zero_le _, ⟨_, _, rfl⟩, Same.new hD _, upd_same⟩, ?_⟩
  rintro i m σ1 H2 ⟨rfl, hi, ⟨o, o', rfl⟩, g, e⟩
  obtain ⟨f1, f2⟩ := fx H2 g
  by_cases lt : i < n
  · refine .inr ⟨(f1 i lt).1, fun σ' H' => (∃ o o', σ' = o :: o' :: rest) ∧ Same H1 H' ∧ H' D = some (.lst (((List.range (i + 1)).filter f).map y)), fun σ' H' q => ⟨n - (i + 1), by omega, rfl, lt, q⟩, fun x H' yl => ?_⟩
    obtain ⟨rfl, rfl⟩ := (f1 i lt).2 x H' yl
    obtain ⟨p, ep, hs⟩ := hp i lt
    refine ⟨p, _, ep, g.tup hs, rfl, _, _, rfl, _, _, rfl, rfl, ?_⟩
    refine ht i _ lt g _ fun H4 g4 => ?_
    have len : (((List.range i).filter f).map y).length ≤ i := by
      rw [List.length_map]
      exact Nat.le_trans (List.length_filter_le _ _) (by rw [List.length_range]; exact Nat.le_refl _)
    by_cases b : f i = true
    · rw [if_pos b]
      refine he i H4 lt b (g.trans g4) _ fun H5 g5 => ?_
      refine ⟨_, g5 _ _ (g4 _ _ e), by omega, ⟨_, _, rfl⟩, ?_, ?_⟩
      · intro c u q
        have := (g.trans (g4.trans g5)) c u q
        rw [upd_ne (ne_of_none q hD)]
        exact this
      · rw [upd_same, filter_succ, if_pos b]
    · rw [if_neg b]
      exact ⟨⟨_, _, rfl⟩, g.trans g4, by rw [filter_succ, if_neg b]; exact g4 _ _ e⟩
  · have e' : i = n := by omega
    subst e'
    exact .inl ⟨f2, hQ D H2 g e⟩
end L2
namespace L2
open PySem PySem.Spec PyProof.Rows
/-- as comp_of; the list is new -/
theorem comp_ofN {J : It} {tc : TT} {te : TE} {Q : VK} {H1 : Hp} {n : Nat} {it y : Nat → V} {f : Nat → Bool} {rest : St} (fx : Fixed J n it H1) (hn : n ≤ sizeLine)
    (ht : ∀ i H2, i < n → Same H1 H2 → ∀ C : Bool → Hp → Prop, (∀ H4, Same H2 H4 → C (f i) H4) → tc (some (it i) :: rest) H2 C)
    (he : ∀ i H2, i < n → f i = true → Same H1 H2 → ∀ C : VK, (∀ H5, Same H2 H5 → C (y i) H5) → te (some (it i) :: rest) H2 C)
    (hQ : ∀ D H', Same H1 H' → H' D = some (.lst (((List.range n).filter f).map y)) → H1 D = Option.none → Q (.ref D) H') :
    CompLoop J H1 (gName 0) tc te (Option.none :: rest) Q := fun D hD => by
  obtain ⟨W, h0, h⟩ := comp_of (Q := fun v H' => v = .ref D → Q v H') fx hn ht he (fun D' H' g e ed => by cases ed; exact hQ D H' g e hD) D hD
  exact ⟨W, h0, fun i m σ1 H2 w => (h i m σ1 H2 w).imp (fun z => ⟨z.1, z.2 rfl⟩) id⟩
end L2
namespace L2
open PySem PySem.Spec PyProof.Rows
/-- not of any value, by its truth -/
def tNotT (K : PySem.W.Frag) (ta : TE) : TE := fun σ H Q => ta σ H fun x H1 => ∃ k, TruV K x H1 k ∧ Q (.bl (!k)) H1
theorem pe_notT {X : Cx} {a : Expr} {ta : TE} {pos : Pos} (K : PySem.W.Frag) (hK : X.K = K) (ha : PE X a ta) : PE X (.UnaryOp .Not a pos) (tNotT K ta) := by
  subst hK
  intro pins s σ H Q I h
  refine UnaryOp_ (thn (ha pins s σ H _ I h) fun v s1 ⟨x, H1, I1, r1, k, tr, q1⟩ => ?_)
  exact not_of (thn (tru_ok pins s1 σ H1 x v (fun k H' => Q (.bl (!k)) H') I1 r1 ⟨k, tr, q1⟩) fun c s2 ⟨H2, I2, q2⟩ => ⟨.bl (!c), H2, I2, rfl, q2⟩)
end L2

/-! ## a built-in method, the table named -/
namespace L2
open PySem PySem.Spec PyProof.Rows
section
variable {X : Cx} {o e : Expr} {es : List Expr} {to : TE} {t : TA} {name : Str} {apos cpos : Pos} {T id : String} {r : V → List V → Hp → VK → Prop}
theorem pe_bmK (K : PySem.W.Frag) (hK : X.K = K) (pa : PlainAttrs T) (slot : Slot T name id) (hty : typeOf (.builtin id) = pure (.type "method_descriptor")) (hm : MtM X id r) (ho : PE X o to) (ha : PA X (e :: es) t)
    (h0 : attributeBase o name X.env (eval o X.env) = eval o X.env := by rfl)
    (h1 : ((backTo cpos (starEach (e :: es) X.env)).all (fun x => !x.1) && (backToKw cpos (keywordEach [] X.env)).all (fun x => x.1.isSome) && decide ((e :: es).length + ([] : List Keyword).length + (if ([] : List Keyword).isEmpty then 0 else 1) < 30)) = true := by rfl)
    (h2 : (apos.endLine == cpos.line) = true := by rfl) (h3 : starEach (e :: es) X.env = (false, eval e X.env) :: starEach es X.env := by rfl) (h4 : (backTo cpos (starEach es X.env)).any (·.1) = false := by rfl) :
    PE X (.Call (.Attribute o name apos) (e :: es) [] cpos) (tBM K T r to t) := by
  subst hK
  exact pe_bm pa slot hty hm ho ha h0 h1 h2 h3 h4
end
end L2

/-! ## sorted of a list of pairs of ints -/
namespace L2
open PySem PySem.Spec PyProof.Rows
section
variable {prog : Program} {w : World} {A : Around} {E : Value → Shared → Prop} {s : Shared}
def TupI (h : Heap) (v : Value) (x y : Int) : Prop := ∃ a o n t u, v = .ref a ∧ h.get? a = some o ∧ o.cls = .type "tuple" ∧ o.data = .seq #[.int x t, .int y u] n
theorem lt_pair {v u : Value} {x1 x2 y1 y2 : Int} {Q : Bool → Shared → Prop} (hv : TupI s.heap v x1 x2) (hu : TupI s.heap u y1 y2) (h2 : 0 ≤ x2 ∧ x2 < 16) (k2 : 0 ≤ y2 ∧ y2 < 16)
    (h : Q (decide (16 * x1 + x2 < 16 * y1 + y2)) s) : wpAny (model prog w) A (keyLt' (tuples' true) v u) Q E s := by
  obtain ⟨a, o, n, t, t', rfl, ho, _, hd⟩ := hv
  obtain ⟨b, p, k, r, r', rfl, hp, _, kd⟩ := hu
  refine PySem.W.kat_lt ho hd hp kd (PySem.W.kat_cons (wpAny_eqBool_int (PySem.W.kat_go (fun e => PySem.W.kat_yes (PySem.W.kat_cons (wpAny_eqBool_int (PySem.W.kat_go (fun e2 => PySem.W.kat_yes (PySem.W.kat_nil ?_)) (fun e2 => PySem.W.kat_no ?_))))) (fun e => PySem.W.kat_no ?_))))
  · have e' := eq_of_beq e
    have e2' := eq_of_beq e2
    rw [decide_eq_false (by omega)] at h
    exact h
  · have e' := eq_of_beq e
    have e2' : ¬ x2 = y2 := beq_eq_false_iff_ne.mp e2
    have ed : decide (16 * x1 + x2 < 16 * y1 + y2) = decide (x2 < y2) := by
      by_cases z : x2 < y2
      · rw [decide_eq_true z, decide_eq_true (by omega)]
      · rw [decide_eq_false z, decide_eq_false (by omega)]
    rw [ed] at h
    exact PySem.W.kat_one _ _ (lt_int h)
  · have e' : ¬ x1 = y1 := beq_eq_false_iff_ne.mp e
    have ed : decide (16 * x1 + x2 < 16 * y1 + y2) = decide (x1 < y1) := by
      by_cases z : x1 < y1
      · rw [decide_eq_true z, decide_eq_true (by omega)]
      · rw [decide_eq_false z, decide_eq_false (by omega)]
    rw [ed] at h
    exact oneLt_int h
theorem ask_pairs {ks : List Value} {N : Nat} {x y : Nat → Int} (hk : ∀ i, i < N → TupI s.heap (ks.getD i Value.none) (x i) (y i) ∧ 0 ≤ y i ∧ y i < 16) (inj : ∀ i j, i < N → j < N → x i = x j → y i = y j → i = j) :
    Asks (PySem.W.kas_ask prog w A (tuples' true) ks) (fun s' => s' = s) N (fun i => 16 * x i + y i) := by
  refine ⟨fun i j C C' s' hc h => wpAny_mono h hc fun _ _ z => z, fun i j C s' hi hj e h => ?_, fun i j hi hj e => ?_⟩
  · subst e
    obtain ⟨a1, a2, a3⟩ := hk i hi
    obtain ⟨b1, b2, b3⟩ := hk j hj
    exact lt_pair a1 b1 ⟨a2, a3⟩ ⟨b2, b3⟩ (h _ rfl)
  · obtain ⟨_, a2, a3⟩ := hk i hi
    obtain ⟨_, b2, b3⟩ := hk j hj
    exact inj i j hi hj (by omega) (by omega)
theorem kat_all {h : Heap} : ∀ {ks : List Value}, (∀ v ∈ ks, ∃ x y, TupI h v x y) → ∃ fs, PySem.W.KatTups h ks fs ∧ fs.length = ks.length ∧ ∀ f ∈ fs, ∃ x t, f = Value.int x t
  | [], _ => ⟨[], PySem.W.KatTups.nil, rfl, fun f hf => nomatch hf⟩
  | v :: ks, hv => by
    obtain ⟨fs, k1, k2, k3⟩ := kat_all fun u hu => hv u (List.mem_cons_of_mem _ hu)
    obtain ⟨x, y, a, o, n, t, u, rfl, ho, hc, hd⟩ := hv v List.mem_cons_self
    refine ⟨.int x t :: fs, PySem.W.KatTups.cons ho hc hd rfl k1, by rw [List.length_cons, List.length_cons, k2], fun f hf => ?_⟩
    rcases List.mem_cons.mp hf with rfl | hf
    · exact ⟨x, t, rfl⟩
    · exact k3 f hf
theorem kind_pairs {ks : List Value} {Q : SortKind → Shared → Prop} (hv : ∀ v ∈ ks, ∃ x y, TupI s.heap v x y) (hne : 0 < ks.length) (h : Q (tuples' true) s) : wpAny (model prog w) A (keyKind' ks.toArray) Q E s := by
  obtain ⟨fs, k1, k2, k3⟩ := kat_all hv
  refine PySem.W.kat_kind (T := .type "int") k1 (by omega) (fun f hf => ?_) rfl h
  obtain ⟨x, t, rfl⟩ := k3 f hf
  exact PySem.W.Looks.of_pure rfl
theorem ns_uniq {h : Heap} {a : Addr} {m m' : Str → Option Value} (x : h.Ns a m) (y : h.Ns a m') : m = m' := by
  obtain ⟨o, es, ep, e, d, _, f⟩ := x
  obtain ⟨o', es', ep', e', d', _, f'⟩ := y
  rw [e] at e'; cases e'
  rw [d] at d'; cases d'
  funext z
  rw [← f, ← f']
/-- a new object laid; the frame's own object said by its names alone -/
theorem Inv.laidL {X : Cx} {pins : List (Addr × Obj)} {σ : St} {H : Hp} {a : Addr} {o : HO} {h' : Heap} {m : Str → Option Value} (I : Inv X pins σ H s) (k : ∀ b u, b ≠ X.env.locals → s.heap.get? b = some u → h'.get? b = some u)
    (n1 : s.heap.Ns X.env.locals m) (n2 : h'.Ns X.env.locals m) (hp : s.heap.get? a = none) (new : ObjOk X.prog X.w (upd H a o) h' a o) : Inv X pins σ (upd H a o) { s with heap := h' } := by
  have ha : H a = none := I.hok.new hp
  have hL : H X.env.locals = none := I.free
  have ne : ∀ {b : Addr} {u : Obj}, s.heap.get? b = some u → b ≠ a := fun e z => by rw [z, hp] at e; cases e
  refine I.step (g' := s.gens) (d' := s.drawn) (t' := s.toks) (ch := []) (fun b hb => nomatch hb) (fun b u h1 _ _ e _ => k b u h1 e) (fun b u h1 _ _ e _ => ⟨u.slots, k b u h1 e⟩) (fun b u _ e n => by rw [upd_ne (ne e)]; exact n)
    (fun b u _ e => ?_) (fun b xs e => by rw [upd_ne (ne_of_none e ha)]; exact e) (fun b u v e => by rw [upd_ne (ne_of_none e ha)]; exact e) (fun b ps e => ⟨#[], by rw [upd_ne (ne_of_none e ha), Array.append_empty]; exact e⟩) (fun m' hm => by rw [ns_uniq hm n1]; exact n2) (fun b u e => ?_) I.bare
  · by_cases z : b = X.env.locals
    · obtain ⟨o', _, _, e', _⟩ := n2
      exact ⟨o', by rw [z]; exact e'⟩
    · exact ⟨u, k b u z e⟩
  · by_cases z : b = a
    · subst z
      rw [upd_same] at e; cases e
      exact new
    · rw [upd_ne z] at e
      refine (I.hok b u e).stay (fun c v hc q => k c v ?_ q) (fun c q => ?_) fun c v q => ?_
      · intro zc
        rcases hc with rfl | hc
        · rw [zc, hL] at e; cases e
        · rw [zc, hL] at hc; cases hc
      · rw [upd_ne (ne_of_none q ha)]; exact q
      · rw [upd_ne (ne_of_none q ha)]; exact q
end
end L2

/-! ## sorted of pairs, as a rule -/
namespace L2
open PySem PySem.Spec PyProof.Rows
def PairsAt (K : PySem.W.Frag) (H : Hp) (ps : List V) (es : List (Nat × Nat)) : Prop := ps.length = es.length ∧ ∀ (i : Nat) (e : Nat × Nat), es[i]? = some e → ∃ p, ps[i]? = some (.ref p) ∧ SqT K H p [.int (e.1 : Int), .int (e.2 : Int)]
def k16 (e : Nat × Nat) : Nat := 16 * e.1 + e.2
def rSortT (K : PySem.W.Frag) : List V → Hp → VK → Prop := fun xs H Q => ∃ (p : Addr) (ps : List V) (es : List (Nat × Nat)), xs = [.ref p] ∧ SqL K H p ps ∧ PairsAt K H ps es ∧ es.length < 64 ∧ es.Nodup ∧ (∀ e ∈ es, e.2 < 16) ∧
  ∀ (qs : List V) (fs : List (Nat × Nat)), fs.Perm es → fs.Pairwise (fun a b => k16 a < k16 b) → PairsAt K H qs fs → mkL H qs Q
section
variable {X : Cx} {prog : Program} {w : World} {A : Around} {E : Value → Shared → Prop} {s : Shared} {pins : List (Addr × Obj)} {σ : St} {H : Hp}
theorem tup_at {p : Addr} {x y : Int} (I : Inv X pins σ H s) (h : SqT X.K H p [.int x, .int y]) : TupI s.heap (.ref p) x y := by
  obtain ⟨its, rv, ⟨o, h1, h2, n, h3⟩, _⟩ := I.tuple h
  obtain ⟨u, u', rfl, r1, r2⟩ := vals2 rv
  obtain ⟨t, rfl⟩ := r1
  obtain ⟨t', rfl⟩ := r2
  exact ⟨p, o, n, t, t', rfl, h1, h2, h3⟩
theorem snd_zip : ∀ l : List Value, (l.zip l).map (fun x => x.snd) = l
  | [] => rfl
  | a :: l => by rw [List.zip_cons_cons, List.map_cons, snd_zip l]
/-- sorted of none or one: as it was -/
theorem sort_few {a : Addr} {vs : List Value} {n : Nat} {P : PySem.Fin → Shared → Prop} (ho : s.heap.get? a = some (seqObj "list" vs.toArray n)) (h1 : vs.length < 2) (h : P (.done (.ret .none)) { s with heap := sortedHeap s.heap a vs vs.toArray }) :
    wpAny (model prog w) A (Builtin.«list.sort» ⟨[.ref a], []⟩) P E s := by
  have ha : a < s.heap.objs.size := Heap.lt_size ho
  obtain ⟨c, hc⟩ : ∃ c, (s.heap.update a (Obj.mapSeq fun _ => #[])).get? a = some (seqObj "list" #[] c) := ⟨_, get?_update_seq ho (fun _ => #[])⟩
  have hq : (((s.heap.update a (Obj.mapSeq fun _ => #[])).push (seqObj "tuple" vs.toArray 0)).push (seqObj "list" #[] 0)).get? a = some (seqObj "list" #[] c) := Heap.get?_push_of_some _ (Heap.get?_push_of_some _ hc)
  have hs : vs.toArray.size < 2 := by rw [List.size_toArray]; exact h1
  have hz : vs.length ≤ sizeLine := lineGe (by omega)
  have ez : ((vs.toArray.zip vs.toArray).map (·.2)) = vs.toArray := by
    apply Array.toList_inj.mp
    simp
    exact snd_zip vs
  rw [list_sort_plain]
  refine wpAny_bind (listItems_at ho rfl (wpAny_bind (listUpdate_at ho rfl (wpAny_bind (seqEpoch_at hc rfl (wpAny_bind (wpAny_newTuple (wpAny_bind (wpAny_newList (wpAny_holding ?_) (Nat.zero_le _))) hz)))) (by rw [List.size_toArray]; exact hz) (Nat.zero_le _))))
  dsimp only
  rw [if_pos hs, if_pos hs]
  refine wpAny_bind (wpAny_pure ?_)
  rw [StateT.run_pure]
  refine wpAny_bind (wpAny_pure ?_)
  dsimp only
  refine wpAny_bind (seqEpoch_at hq rfl (wpAny_bind (listUpdate_at hq rfl ?_ (Nat.zero_le _) (by show ((vs.toArray.zip vs.toArray).map (·.2)).size ≤ _; rw [ez, List.size_toArray]; omega))))
  have e : (arrOf (SortSt.mk' general' (vs.toArray.zip vs.toArray) #[] 7 none)).map (·.2) = vs.toArray := ez
  rw [e]
  simp only [bne_self_eq_false, Bool.false_eq_true, if_false]
  exact wpAny_pure h
theorem sorted_few {l : Addr} {vs : List Value} {Q : Value → Shared → Prop} (hl : s.heap.IsList l vs.toArray) (h1 : vs.length < 2) (h : Q (.ref (s.heap.objs.size + 1)) { s with heap := sortedAll s.heap vs vs.toArray }) :
    wpAny (model prog w) A (call (.builtin "sorted") [.ref l]) Q E s := by
  have hz : vs.length ≤ sizeLine := lineGe (by omega)
  have n1 : ((s.heap.push (seqObj "list" #[] 0)).update s.heap.objs.size (Obj.mapSeq (· ++ vs.toArray))).objs.size = s.heap.objs.size + 1 := (Heap.size_update ..).trans (size_push' ..)
  have n2 : (((s.heap.push (seqObj "list" #[] 0)).update s.heap.objs.size (Obj.mapSeq (· ++ vs.toArray))).push (seqObj "list" vs.toArray 0)).get? (s.heap.objs.size + 1) = some (seqObj "list" vs.toArray 0) := n1 ▸ Heap.get?_push_size _ rfl
  refine Calls.call_function_entry kind_sorted plain_sorted entry_sorted (args_sorted1 _) ?_
  unfold Builtin.«sorted»
  refine wpAny_bind (m := checkCount "sorted" 1 1 _) (wpAny_pure (wpAny_bind (collect_list hl (wpAny_bind (wpAny_newList ?_ hz)))))
  show wpAny _ _ _ _ _ { s with heap := ((s.heap.push (seqObj "list" #[] 0)).update s.heap.objs.size (Obj.mapSeq (· ++ vs.toArray))).push (seqObj "list" vs.toArray 0) }
  rw [n1]
  refine wpAny_bind (wpAny_holding (wpAny_call_entry slot_list_sort ⟨_, n2, rfl⟩ entry_list_sort (sort_few n2 h1 ⟨_, rfl, ?_⟩) (args_list_sort _)))
  exact wpAny_pure ⟨_, rfl, h⟩
theorem arr_list {N : Nat} {p : Array Nat} (a : Arr N p) : p.toList.Perm (List.range N) := by
  have := a.perm.toList
  simpa using this
theorem inc_list {N : Nat} {p : Array Nat} {key : Nat → Int} (a : Arr N p) (h : Inc key p N) : p.toList.Pairwise fun i j => key i < key j := by
  rw [List.pairwise_iff_getElem]
  intro i j hi hj hij
  have hs := a.size
  have hi' : i < N := by simpa [hs] using hi
  have hj' : j < N := by simpa [hs] using hj
  have := h i j hij hj'
  have e1 : p.getD i 0 = p.toList[i] := by simp [Array.getD, hs, hi']
  have e2 : p.getD j 0 = p.toList[j] := by simp [Array.getD, hs, hj']
  unfold kAt at this
  rw [e1, e2] at this
  exact this
theorem vals_pick {ps : List V} {its : List Value} (rv : Vals ps its) : ∀ {l : List Nat}, (∀ i ∈ l, i < ps.length) → Vals (l.map fun i => ps.getD i V.non) (l.map fun i => its.getD i Value.none)
  | [], _ => .nil
  | i :: l, h => by
    have hi := h i List.mem_cons_self
    obtain ⟨u, hu, ru⟩ := rv.get (i := i) (x := ps[i]) (List.getElem?_eq_getElem hi)
    have e1 : ps.getD i V.non = ps[i] := by rw [List.getD_eq_getElem?_getD, List.getElem?_eq_getElem hi]; rfl
    have e2 : its.getD i Value.none = u := by rw [List.getD_eq_getElem?_getD, hu]; rfl
    rw [List.map_cons, List.map_cons, e1, e2]
    exact .cons ru (vals_pick rv fun j hj => h j (List.mem_cons_of_mem _ hj))
theorem call_sortedT (K : PySem.W.Frag) (hK : X.K = K) : CallR X (.builtin "sorted") (rSortT K) := fun pins s σ H xs us Q I r h => by
  subst hK
  obtain ⟨p, ps, es, rfl, hs, pa, h64, nd, h16, q⟩ := h
  obtain ⟨u, rfl, rx⟩ := vals1 r
  cases rx
  obtain ⟨its, rv, pl, hz⟩ := I.list hs
  have hlen := rv.length
  have hpe := pa.1
  by_cases few : its.length < 2
  · refine sorted_few pl.isList few ?_
    obtain ⟨e, he⟩ := sortedAll_at s.heap its its.toArray
    have pw : es.Pairwise fun a b => k16 a < k16 b := by
      match es, hpe with
      | [], _ => exact List.Pairwise.nil
      | [_], _ => exact List.pairwise_singleton _ _
      | _ :: _ :: _, h => exact absurd few (by rw [← hlen, h]; simp)
    refine ⟨.ref _, _, I.laid (o := .lst ps) (t' := s.toks) (fun b o e => sortedAll_old e) (Nat.le_succ _) (show ObjOk X.prog X.w _ _ _ (.lst _) from ⟨hz, its, e, rv, he⟩), rfl, (q ps es (List.Perm.refl _) pw pa).new _ (I.hok.fresh (Nat.le_succ _))⟩
  have h2 : 2 ≤ its.length := by omega
  obtain ⟨m, hn, _⟩ := id I.loc
  have F : Fr X.base X.env.locals s.heap m := ⟨hn, I.bk, Nat.le_trans I.ok.bsz I.ok.above⟩
  refine PySem.W.kat_sorted F news_all pl.isList h2 (by omega) fun D e1 h' F' N' hlt => ?_
  have kp : ∀ b o, b ≠ X.env.locals → s.heap.get? b = some o → h'.get? b = some o := fun b o hb e => by
    cases z : X.base.get? b with
    | some u =>
      have := I.bk b u z
      rw [e] at this; cases this
      exact F'.keep b _ z
    | none => exact (N' (b, o) (List.mem_cons_of_mem _ (mem_allNews hb z e))).1
  have nD : s.heap.get? D = none := by
    cases z : s.heap.get? D with
    | none => rfl
    | some o =>
      have z1 := N' (D, seqObj "list" #[] e1) List.mem_cons_self
      exact absurd (hlt (D, o) (mem_allNews z1.2.1 z1.2.2 z)) (Nat.lt_irrefl _)
  have tup : ∀ i, i < es.length → TupI h' (its.getD i Value.none) ((es.getD i (0, 0)).1 : Int) ((es.getD i (0, 0)).2 : Int) := fun i hi => by
    obtain ⟨b, hb, hq⟩ := pa.2 i (es.getD i (0, 0)) (by rw [List.getD_eq_getElem?_getD, List.getElem?_eq_getElem hi]; rfl)
    obtain ⟨u, hu, ru⟩ := rv.get hb
    cases ru
    obtain ⟨a, o, n, t, t', ea, ho, hc, hd⟩ := tup_at I hq
    injection ea with ea
    subst ea
    refine ⟨b, o, n, t, t', by rw [List.getD_eq_getElem?_getD, hu]; rfl, kp b o (fun z => ?_) ho, hc, hd⟩
    obtain ⟨o', _, _, e', d', _⟩ := hn
    rw [← z, ho] at e'; cases e'
    rw [hd] at d'; cases d'
  have lt16 : ∀ i, i < es.length → (es.getD i (0, 0)).2 < 16 := fun i hi => h16 _ (by
    rw [List.getD_eq_getElem?_getD, List.getElem?_eq_getElem hi]
    exact List.getElem_mem hi)
  have inj : ∀ i j, i < its.length → j < its.length → ((es.getD i (0, 0)).1 : Int) = ((es.getD j (0, 0)).1 : Int) → ((es.getD i (0, 0)).2 : Int) = ((es.getD j (0, 0)).2 : Int) → i = j := fun i j hi hj a1 a2 => by
    have hi' : i < es.length := by omega
    have hj' : j < es.length := by omega
    rw [List.getD_eq_getElem?_getD, List.getD_eq_getElem?_getD, List.getElem?_eq_getElem hi', List.getElem?_eq_getElem hj'] at a1 a2
    simp only [Option.getD_some] at a1 a2
    exact (List.getElem_inj nd).mp (Prod.ext (by omega) (by omega))
  refine kind_pairs (s := { s with heap := h' }) (fun v hv => ?_) (by omega) ?_
  · obtain ⟨i, hi, rfl⟩ := List.getElem_of_mem hv
    have := tup i (by omega)
    rw [List.getD_eq_getElem?_getD, List.getElem?_eq_getElem hi] at this
    exact ⟨_, _, this⟩
  have K := ask_pairs (prog := X.prog) (w := X.w) (A := X.A.in1.in1) (s := { s with heap := h' }) (ks := its) (N := its.length) (x := fun i => ((es.getD i (0, 0)).1 : Int)) (y := fun i => ((es.getD i (0, 0)).2 : Int))
    (fun i hi => ⟨tup i (by omega), by omega, by have := lt16 i (by omega); omega⟩) inj
  refine kasMono K (fun ar s'' ⟨g, arr, inc⟩ => ?_) _ _ (sort_ok K h2 _ rfl)
  subst g
  have pm := arr_list arr
  have lts : ∀ i ∈ ar.toList, i < its.length := fun i hi => List.mem_range.mp (pm.mem_iff.mp hi)
  refine PySem.W.KasFin.intro F' N' (PySem.W.UpdF.head fun q hq => Nat.ne_of_lt (hlt q hq)) fun h2' c F2 N2 => ?_
  have kp2 : ∀ b o, b ≠ X.env.locals → s.heap.get? b = some o → h2'.get? b = some o := fun b o hb e => by
    cases z : X.base.get? b with
    | some u =>
      have := I.bk b u z
      rw [e] at this; cases this
      exact F2.keep b _ z
    | none => exact (N2 (b, o) (List.mem_cons_of_mem _ (mem_allNews hb z e))).1
  have rv2 := vals_pick rv (l := ar.toList) fun i hi => by have := lts i hi; omega
  have lq : (ar.toList.map fun i => ps.getD i V.non).length = ps.length := by rw [List.length_map, pm.length_eq, List.length_range]; omega
  have wish := q (ar.toList.map fun i => ps.getD i V.non) (ar.toList.map fun i => es.getD i (0, 0)) ?_ ?_ ?_
  · exact ⟨.ref D, upd H D (.lst (ar.toList.map fun i => ps.getD i V.non)), I.laidL kp2 hn F2.ns nD (show ObjOk X.prog X.w _ _ _ (.lst _) from ⟨by rw [lq]; exact hz, _, c, rv2, (N2 _ List.mem_cons_self).1⟩), rfl, wish.new _ (I.hok.new nD)⟩
  · have e : (List.range its.length).map (fun i => es.getD i (0, 0)) = es := by
      rw [show its.length = es.length by omega]
      refine List.ext_getElem (by simp) fun i h1 h2 => ?_
      simp [List.getElem?_eq_getElem h2]
    have := pm.map fun i => es.getD i (0, 0)
    rw [e] at this
    exact this
  · refine List.pairwise_map.mpr ((inc_list arr inc).imp fun {i j} z => ?_)
    unfold k16
    have z' : 16 * ((es.getD i (0, 0)).1 : Int) + ((es.getD i (0, 0)).2 : Int) < 16 * ((es.getD j (0, 0)).1 : Int) + ((es.getD j (0, 0)).2 : Int) := z
    omega
  · refine ⟨by rw [List.length_map, List.length_map], fun i e he => ?_⟩
    rw [List.getElem?_map] at he ⊢
    cases z : ar.toList[i]? with
    | none => rw [z] at he; cases he
    | some j =>
      rw [z] at he
      have ej : es.getD j (0, 0) = e := by simpa using he
      have hj := lts j (List.mem_of_getElem? z)
      obtain ⟨b, hb, hq⟩ := pa.2 j e (by rw [← ej, List.getD_eq_getElem?_getD, List.getElem?_eq_getElem (by omega)]; rfl)
      exact ⟨b, by rw [Option.map_some, List.getD_eq_getElem?_getD, hb]; rfl, hq⟩
end
end L2

/-! ## sorted(range(n), key=f) -/
namespace L2
open PySem PySem.Spec PyProof.Rows
theorem SqT.keepL {K : PySem.W.Frag} {H : Hp} {D p : Addr} {xs ys : List V} {o : HO} (h : SqT K H p xs) (hD : H D = some (.lst ys)) : SqT K (upd H D o) p xs := by
  rcases h with (h | ⟨o', h⟩) | h
  · exact .inl (.inl (by rw [upd_ne (fun z => by rw [z, hD] at h; cases h)]; exact h))
  · exact .inl (.inr ⟨o', by rw [upd_ne (fun z => by rw [z, hD] at h; cases h)]; exact h⟩)
  · exact .inr h
section
variable {prog : Program} {w : World} {A : Around} {E : Value → Shared → Prop} {s : Shared}
theorem collect_rng {r : Addr} {a b c : Int} {t u v : Tok} {n : Nat} {R : List Value → Shared → Prop} (hh : A.handled = none) (hr : IsRange s.heap r a b c t u v) (hsmall : Builtin.Range.small a b c = true)
    (hn : Builtin.Range.rangeSize a b c = n) (hlen : n ≤ 2 ^ 24) (h : ∀ (h' : Heap) (tk : Nat) (acc : Array Value), (∀ b o, s.heap.get? b = some o → h'.get? b = some o) → ItemsOf (fun i v => ∃ t, v = .int (a + i * c) t) acc n → R acc.toList { s with heap := h', toks := tk }) :
    wpAny (model prog w) A (collect (.ref r)) R E s := by
  unfold collect; refine wpAny_bind (wpAny_runValue (codeAny_builtin F.entry_proto_collect ?_))
  rw [Around.under_plainId F.plain_proto_collect _]; show wpAny _ A.in1 (newList [] >>= fun l => again (.builtin "list.__iadd__" ⟨[l, .ref r], []⟩)) _ _ s
  refine wpAny_bind (wpAny_newObj_type (wpAny_pure ⟨plainId_quiet F.plain_list_iadd _, codeAny_builtin F.entry_list_iadd ?_⟩))
  rw [Around.under_plainId F.plain_list_iadd _]; show wpAny _ A.in1 (Builtin.List.listExtendWith (.ref s.heap.objs.size) (.ref r) (.ref s.heap.objs.size)) _ _ _
  have key := wpAny_extend_range (prog := prog) (w := w) (A := A) (s := { s with heap := s.heap.push { cls := .type "list", data := .seq ([] : List Value).toArray } })
    (R := fun (q : Result) (s' : Shared) => ∃ (h' : Heap) (tk : Nat) (acc : Array Value) (c' : Nat), q = .ok (.ret (.ref s.heap.objs.size)) ∧ s' = { s with heap := h', toks := tk } ∧ (∀ b o, s.heap.get? b = some o → h'.get? b = some o) ∧
      h'.get? s.heap.objs.size = some { cls := .type "list", dict := none, data := .seq acc c', slots := #[] } ∧ ItemsOf (fun i v => ∃ t, v = .int (a + i * c) t) acc n)
    hh (Heap.get?_push_of_some _ hr) hsmall hn hlen s.heap.objs.size (.ref s.heap.objs.size) 0 (Heap.get?_push_size _ rfl) (fun h' tk acc c' hk hS hi => ⟨h', tk, acc, c', rfl, rfl, fun b o e => hk b o (Nat.ne_of_lt (Heap.lt_size e)) (Heap.get?_push_of_some _ e), hS, hi⟩)
  refine wpAny_mono key (fun fin s' x => ?_) fun e s' x => ?_
  · cases fin with
    | done f =>
      obtain ⟨h', tk, acc, c', e, rfl, hk, hS, hi⟩ := x
      cases e
      show wpAny _ A (load s.heap.objs.size >>= _) _ _ _; exact wpAny_bind (wpAny_load hS (wpAny_pure (h h' tk acc hk hi)))
    | again c1 =>
      refine ⟨x.1, codeAny_mono x.2 fun q s2 y => ?_⟩
      obtain ⟨h', tk, acc, c', rfl, rfl, hk, hS, hi⟩ := y
      show wpAny _ A (load s.heap.objs.size >>= _) _ _ _; exact wpAny_bind (wpAny_load hS (wpAny_pure (h h' tk acc hk hi)))
  · obtain ⟨_, _, _, _, e', _⟩ := x
    cases e'
end
end L2

/-! ## sorting by a key, over tracked things -/
namespace L2
open PySem PySem.Spec PyProof.Rows
def KeyP (Y : Cx) (f : Addr) (σ : St) (H0 : Hp) (n : Nat) (kx ky : Nat → Int) : Prop := ∀ (pins : List (Addr × Obj)) (s : Shared) (H : Hp) (i : Nat) (t : Tok) (Q : VK), Inv Y pins σ H s → Same H0 H → i < n →
  (∀ (r : Addr) (H' : Hp), Same H H' → SqT Y.K H' r [.int (kx i), .int (ky i)] → Q (.ref r) H') → wpAny (model Y.prog Y.w) Y.A (call (.ref f) [.int (i : Int) t]) (EP Y pins σ Q) (fun _ _ => False) s
/-- keys made so far -/
def Keyed' (K : PySem.W.Frag) (H : Hp) (kS : Addr) (ks : List V) (kx ky : Nat → Int) : Prop := H kS = some (.lst ks) ∧ ∀ j, j < ks.length → ∃ q, ks[j]? = some (.ref q) ∧ SqT K H q [.int (kx j), .int (ky j)]
section
variable {Y : Cx} {pins : List (Addr × Obj)} {σ : St} {H0 H : Hp} {s : Shared} {n : Nat} {kx ky : Nat → Int} {f kS : Addr} {E : Value → Shared → Prop}
theorem keys_fold (kp : KeyP Y f σ H0 n kx ky) (h64 : n < 64) (hS0 : H0 kS = none) {body : Value → PUnit → Sem (ForInStep PUnit)}
    (hb : ∀ (x : Value) (s : Shared) (C : Value → Shared → Prop), wpAny (model Y.prog Y.w) Y.A (call (.ref f) [x]) (fun k s' => ∃ o xs m, s'.heap.get? kS = some o ∧ o.data = .seq xs m ∧ xs.size < 64 ∧ C k { s' with heap := s'.heap.update kS (Obj.mapSeq (·.push k)) }) (fun _ _ => False) s →
      wpAny (model Y.prog Y.w) Y.A (body x ⟨⟩) (fun r s' => r = .yield ⟨⟩ ∧ ∃ k, C k s') E s) :
    ∀ (us : List Value) (i : Nat) (s : Shared) (H : Hp) (ks : List V), i + us.length = n → (∀ (j : Nat) (v : Value), us[j]? = some v → ∃ t, v = Value.int ((i + j : Nat) : Int) t) → Inv Y pins σ H s → Same H0 H → ks.length = i → Keyed' Y.K H kS ks kx ky →
      wpAny (model Y.prog Y.w) Y.A (forIn us PUnit.unit body) (fun _ s' => ∃ H' ks', Inv Y pins σ H' s' ∧ Same H0 H' ∧ ks'.length = n ∧ Keyed' Y.K H' kS ks' kx ky) E s
  | [], i, s, H, ks, hl, _, I, g, hk, kd => by
    rw [List.forIn_nil]
    exact wpAny_pure ⟨H, ks, I, g, by simpa using hk.trans hl, kd⟩
  | x :: us, i, s, H, ks, hl, hv, I, g, hk, kd => by
    rw [List.length_cons] at hl
    rw [List.forIn_cons]
    obtain ⟨t, rfl⟩ := hv 0 x rfl
    rw [Nat.add_zero]
    have one : wpAny (model Y.prog Y.w) Y.A (call (.ref f) [.int (i : Int) t]) (fun k s' => ∃ o xs m, s'.heap.get? kS = some o ∧ o.data = .seq xs m ∧ xs.size < 64 ∧
        (fun _ s2 => ∃ H' ks', Inv Y pins σ H' s2 ∧ Same H0 H' ∧ ks'.length = i + 1 ∧ Keyed' Y.K H' kS ks' kx ky) k { s' with heap := s'.heap.update kS (Obj.mapSeq (·.push k)) }) (fun _ _ => False) s := by
      refine wpAny_mono (kp pins s H i t (fun v H' => ∃ r, v = .ref r ∧ Same H H' ∧ SqT Y.K H' r [.int (kx i), .int (ky i)]) I g (by omega) fun r H' g' hq => ⟨r, rfl, g', hq⟩) (fun k s' hx => ?_) fun _ _ z => z
      obtain ⟨v, H', I', rv, r, rfl, g', hq⟩ := hx
      have e' : H' kS = some (.lst ks) := g' _ _ kd.1
      obtain ⟨hz, its, m, rvs, hlen, he⟩ := I'.lstM e'
      refine ⟨_, _, _, he, rfl, by rw [List.size_toArray]; omega, ?_⟩
      have vs' : Vals (ks ++ [.ref r]) (its ++ [k]) := Paired.snoc rvs rv
      have I2 := I'.lset (f := (·.push k)) (its' := its ++ [k]) (t' := s'.toks) e' he (by simp) vs' (lineGe (by rw [List.length_append]; show ks.length + 1 ≤ 1000; omega))
      refine ⟨upd H' kS (.lst (ks ++ [.ref r])), ks ++ [.ref r], I2, ?_, by rw [List.length_append]; show ks.length + 1 = _; omega, upd_same, fun j hj => ?_⟩
      · intro b o q
        rw [upd_ne (ne_of_none q hS0)]
        exact g' b o (g b o q)
      · rw [List.length_append] at hj
        have hj' : j < ks.length + 1 := hj
        by_cases z : j < ks.length
        · obtain ⟨q, q1, q2⟩ := kd.2 j z
          exact ⟨q, by rw [List.getElem?_append_left z]; exact q1, (g'.tup q2).keepL e'⟩
        · have ej : j = ks.length := by omega
          subst ej
          refine ⟨r, by rw [List.getElem?_append_right (Nat.le_refl _), Nat.sub_self]; rfl, ?_⟩
          rw [hk]
          exact hq.keepL e'
    refine wpAny_bind (wpAny_mono (hb _ s (fun _ s2 => ∃ H' ks', Inv Y pins σ H' s2 ∧ Same H0 H' ∧ ks'.length = i + 1 ∧ Keyed' Y.K H' kS ks' kx ky) one) (fun q s' hq => ?_) fun _ _ z => z)
    obtain ⟨rfl, _, H', ks', I', g', hk', kd'⟩ := hq
    show wpAny _ _ (forIn us PUnit.unit body) _ E s'
    exact keys_fold kp h64 hS0 hb us (i + 1) s' H' ks' (by omega) (fun j v e => by
      obtain ⟨t, z⟩ := hv (j + 1) v e
      exact ⟨t, by rw [z]; congr 2; omega⟩) I' g' hk' kd'
end
end L2

/-! ## sorting by a key: its end -/
namespace L2
open PySem PySem.Spec PyProof.Rows
section
variable {Y : Cx} {pins pl : List (Addr × Obj)} {σ : St} {H : Hp} {s : Shared} {D kS : Addr} {E : Value → Shared → Prop}
/-- a list that was not tracked is written, and tracked from then on -/
theorem Inv.relist {its its' : List Value} {n : Nat} {g : Array Value → Array Value} {ys : List V} (I : Inv Y pins σ H s) {H0 : Hp} (fo : FpOk Y pins H0 D) (hD : H D = none) (e : s.heap.get? D = some { cls := .type "list", data := .seq its.toArray n }) (hg : g its.toArray = its'.toArray) (hv : Vals ys its') (hz : ys.length ≤ sizeLine) :
    Inv Y pins σ (upd H D (.lst ys)) { s with heap := s.heap.update D (Obj.mapSeq g) } := by
  have q := PySem.IsL.update e g
  rw [hg] at q
  have kp : ∀ b, b ≠ D → ∀ ob, s.heap.get? b = some ob → (s.heap.update D (Obj.mapSeq g)).get? b = some ob := fun b hb ob e => (Heap.get?_update_other s.heap (Obj.mapSeq g) (Ne.symm hb)).trans e
  have ne : ∀ {b : Addr}, b ∉ [D] → b ≠ D := fun hb z => hb (List.mem_singleton.mpr z)
  refine I.call' (s' := { s with heap := s.heap.update D (Obj.mapSeq g) }) (ch := [D]) rfl ⟨fun b ob e _ _ hx => kp b (ne hx) ob e, fun b ob e _ _ hx => ⟨ob.slots, kp b (ne hx) ob e⟩, fun b ob _ n hx => by rw [upd_ne (ne hx)]; exact n, fun b ob e hx => ⟨ob, kp b (ne hx) ob e⟩,
    fun b xs e => by rw [upd_ne (ne_of_none e hD)]; exact e, fun b o u e => by rw [upd_ne (ne_of_none e hD)]; exact e, fun b ps e => ⟨#[], by rw [upd_ne (ne_of_none e hD), Array.append_empty]; exact e⟩⟩ (fun b ob eb => ?_) I.bare (fun b hb => ?_)
  · by_cases z : b = D
    · subst z
      rw [upd_same] at eb; cases eb
      exact ⟨hz, its', _, hv, q⟩
    · rw [upd_ne z] at eb
      refine (I.hok b ob eb).stay (fun c u hc q => kp c ?_ u q) (fun c q => ?_) fun c v q => ?_
      · intro zc
        rcases hc with rfl | hc
        · exact z zc
        · rw [zc, hD] at hc; cases hc
      · rw [upd_ne (ne_of_none q hD)]; exact q
      · rw [upd_ne (ne_of_none q hD)]; exact q
  · rw [List.mem_singleton.mp hb]
    exact ⟨fo.2.2.2.1, fo.2.1, fo.2.2.2.2.1, fo.2.2.2.2.2⟩
theorem keyTail_ok {e1 : Nat} {ks outV : List V} {out : List Value} {st : SortSt} {H0 : Hp} {P : PySem.Fin → Shared → Prop} (I : Inv Y (pins ++ pl) σ H s) (hp : (D, seqObj "list" #[] e1) ∈ pl) (fo : FpOk Y pins H0 D) (eS : H kS = some (.lst ks)) (hks : ks.length < 64)
    (hout : (arrOf st).map (·.2) = List.toArray out) (hf : failedOf st = none) (hz : out.length < 64) (rv : Vals outV out) (h : ∀ s', Inv Y pins σ (upd (upd H kS (.lst [])) D (.lst outV)) s' → P (.done (.ret .none)) s') :
    wpAny (model Y.prog Y.w) Y.A (ksk_tail D false e1 (.ref kS) st) P E s := by
  obtain ⟨hzS, its, m, rvs, hlen, he⟩ := I.lstM eS
  have I1 := I.lset (f := fun _ => #[]) (its' := []) (ys := []) (t' := s.toks) eS he rfl .nil (Nat.zero_le _)
  have p1 := I1.pin (D, seqObj "list" #[] e1) (List.mem_append_right _ (List.mem_append_right _ hp))
  have hov : outV.length = out.length := rv.length
  have I2 := I1.unpinned.relist (its := []) (g := fun _ => List.toArray out) fo p1.2.1 p1.1 rfl rv (lineGe (by omega))
  unfold ksk_tail
  dsimp only
  rw [hout]
  simp only [Bool.false_eq_true, if_false]
  refine wpAny_bind (listUpdate_at he rfl (wpAny_bind (wpAny_letGo (wpAny_bind (seqEpoch_at p1.1 rfl (wpAny_bind (listUpdate_at p1.1 rfl ?_ (Nat.zero_le _) (by rw [List.size_toArray]; have := lineGe (show out.length ≤ 1000 by omega); omega))))))) (by rw [List.size_toArray]; omega) (Nat.zero_le _))
  rw [hf]
  simp only [bne_self_eq_false, Bool.false_eq_true, if_false]
  exact wpAny_pure (h _ I2)
end
end L2

/-! ## sorting by a key: the whole -/
namespace L2
open PySem PySem.Spec PyProof.Rows
section
variable {Y : Cx} {pins pl : List (Addr × Obj)} {σ : St} {H : Hp} {s : Shared} {D kS f : Addr} {E : Value → Shared → Prop} {n : Nat} {kx ky : Nat → Int}
abbrev upTo (n : Nat) : List V := (List.range n).map fun (i : Nat) => V.int (i : Int)
theorem upTo_len (n : Nat) : (upTo n).length = n := by rw [List.length_map, List.length_range]
theorem upTo_at {n i : Nat} (hi : i < n) : (upTo n).getD i V.non = .int (i : Int) := by
  rw [List.getD_eq_getElem?_getD, List.getElem?_map, List.getElem?_range hi]
  rfl
theorem zip_snd : ∀ {l m : List Value}, l.length = m.length → (l.zip m).map (fun x => x.snd) = m
  | [], [], _ => rfl
  | [], _ :: _, h => by simp at h
  | _ :: _, [], h => by simp at h
  | a :: l, b :: m, h => by rw [List.zip_cons_cons, List.map_cons, zip_snd (by simpa using h)]
theorem keyEnd_ok {e1 : Nat} {ks : List V} {us kv : List Value} {H0 : Hp} {P : PySem.Fin → Shared → Prop} (I : Inv Y (pins ++ pl) σ H s) (hp : (D, seqObj "list" #[] e1) ∈ pl) (fo : FpOk Y pins H0 D) (kd : Keyed' Y.K H kS ks kx ky) (hks : ks.length = n) (h64 : n < 64) (rk : Vals ks kv) (rv : Vals (upTo n) us)
    (bd : ∀ i, i < n → 0 ≤ ky i ∧ ky i < 16) (inj : ∀ i j, i < n → j < n → kx i = kx j → ky i = ky j → i = j) (h : ∀ p : List Nat, p.Perm (List.range n) → ∀ s', Inv Y pins σ (upd (upd H kS (.lst [])) D (.lst (p.map fun (i : Nat) => V.int (i : Int)))) s' → P (.done (.ret .none)) s') :
    wpAny (model Y.prog Y.w) Y.A (ksk_end D false us.toArray e1 (.ref kS) kv.toArray) P E s := by
  have lk := rk.length
  have lu := rv.length
  rw [upTo_len] at lu
  have hl : kv.length = us.length := by omega
  unfold ksk_end
  dsimp only
  simp only [Bool.false_eq_true, if_false]
  by_cases few : us.toArray.size < 2
  · rw [if_pos few, if_pos few]
    refine wpAny_bind (wpAny_pure ?_)
    rw [StateT.run_pure]
    refine wpAny_bind (wpAny_pure ?_)
    dsimp only
    refine keyTail_ok I hp fo kd.1 (by omega) (out := us) ?_ rfl (by omega) rv (h (List.range n) (List.Perm.refl _))
    show (kv.toArray.zip us.toArray).map (·.2) = us.toArray
    apply Array.toList_inj.mp
    simp
    exact zip_snd hl
  · rw [if_neg few, if_neg few]
    have h2 : 2 ≤ us.length := by rw [List.size_toArray] at few; omega
    have tup : ∀ i, i < n → TupI s.heap (kv.getD i Value.none) (kx i) (ky i) := fun i hi => by
      obtain ⟨q, q1, q2⟩ := kd.2 i (by omega)
      obtain ⟨u, hu, ru⟩ := rk.get q1
      cases ru
      have := tup_at I q2
      rw [List.getD_eq_getElem?_getD, hu]
      exact this
    refine wpAny_bind (kind_pairs (fun v hv => ?_) (by omega) ?_)
    · obtain ⟨i, hi, rfl⟩ := List.getElem_of_mem hv
      have := tup i (by omega)
      rw [List.getD_eq_getElem?_getD, List.getElem?_eq_getElem hi] at this
      exact ⟨_, _, this⟩
    have K := ask_pairs (prog := Y.prog) (w := Y.w) (A := Y.A) (s := s) (ks := kv) (N := us.length) (x := kx) (y := ky) (fun i hi => ⟨tup i (by omega), bd i (by omega)⟩) (fun i j hi hj => inj i j (by omega) (by omega))
    refine wpAny_bind (wpAny_mono (PySem.W.kat_run (G := fun p s' => s' = s ∧ Arr us.length p) (Q := fun st' s' => ∃ p : Array Nat, arrOf st' = p.map (PySem.W.kas_item (kv.toArray.zip us.toArray)) ∧ failedOf st' = none ∧ s' = s ∧ Arr us.length p) hl h2 (by omega) (fun p st' s' _ a2 a3 a4 => ⟨p, a2, a3, a4.1, a4.2⟩)
      (kasMono K (fun ar s'' ⟨g, arr, _⟩ => ⟨g, arr⟩) _ _ (sort_ok K h2 s rfl))) ?_ fun _ _ z => z)
    rintro ⟨⟨⟩, st'⟩ s' ⟨p, har, hf, rfl, arr⟩
    dsimp only
    have pm := arr_list arr
    have lts : ∀ i ∈ p.toList, i < n := fun i hi => by have := List.mem_range.mp (pm.mem_iff.mp hi); omega
    have rv2 := vals_pick rv (l := p.toList) fun i hi => by rw [upTo_len]; exact lts i hi
    have e : (p.toList.map fun i => (upTo n).getD i V.non) = p.toList.map fun (i : Nat) => V.int (i : Int) := List.map_congr_left fun i hi => upTo_at (lts i hi)
    rw [e] at rv2
    refine keyTail_ok I hp fo kd.1 (by omega) (PySem.W.kat_snds hl har) hf (by rw [List.length_map, pm.length_eq, List.length_range]; omega) rv2 (h p.toList ?_)
    rw [show us.length = n by omega] at pm
    exact pm
theorem keyed_ok {us : List Value} {c0 : Nat} {H0 : Hp} {P : PySem.Fin → Shared → Prop} (I : Inv Y pins σ H s) (fo : FpOk Y pins H0 D) (hD : H D = none) (ho : s.heap.get? D = some (seqObj "list" us.toArray c0)) (h64 : n < 64) (rv : Vals (upTo n) us) (kp : KeyP Y f σ H n kx ky)
    (bd : ∀ i, i < n → 0 ≤ ky i ∧ ky i < 16) (inj : ∀ i j, i < n → j < n → kx i = kx j → ky i = ky j → i = j) (h : ∀ p : List Nat, p.Perm (List.range n) → ∀ H' s', Same H H' → Inv Y pins σ (upd H' D (.lst (p.map fun (i : Nat) => V.int (i : Int)))) s' → P (.done (.ret .none)) s') :
    wpAny (model Y.prog Y.w) Y.A (ksk_tree D (.ref f) false) P E s := by
  have lu := rv.length
  rw [upTo_len] at lu
  have hz : us.length ≤ sizeLine := lineGe (by omega)
  obtain ⟨e1, h1⟩ : ∃ c, (s.heap.update D (Obj.mapSeq fun _ => #[])).get? D = some (seqObj "list" #[] c) := ⟨_, get?_update_seq ho (fun _ => #[])⟩
  have I1 : Inv Y pins σ H { s with heap := s.heap.update D (Obj.mapSeq fun _ => #[]), toks := s.toks } := I.turned (it := D) (fun b o hb e => (Heap.get?_update_other s.heap (Obj.mapSeq fun _ => #[]) (Ne.symm hb)).trans e) hD fo.2.1 fo.2.2.2.1 fo.2.2.2.2.1 fo.2.2.2.2.2
  generalize hh1 : s.heap.update D (Obj.mapSeq fun _ => #[]) = g1 at h1 I1
  have I2 : Inv Y pins σ H { s with heap := g1.push { cls := .type "tuple", data := .seq us.toArray }, toks := s.toks } := I1.kept (t' := s.toks) fun b o e => Heap.get?_push_of_some _ e
  have I3 := I2.lnew (its := []) (ys := []) (t' := s.toks) .nil (Nat.zero_le _)
  generalize hg2 : g1.push { cls := .type "tuple", data := .seq us.toArray } = g2 at I2 I3
  have lt1 : D < g2.objs.size := by rw [← hg2, size_push']; exact Nat.lt_succ_of_lt (Heap.lt_size h1)
  have hS : H g2.objs.size = none := I2.hok.fresh (Nat.le_refl _)
  have h3 : (g2.push { cls := .type "list", data := .seq ([] : List Value).toArray }).get? D = some (seqObj "list" #[] e1) := Heap.get?_push_of_some _ (by rw [← hg2]; exact Heap.get?_push_of_some _ h1)
  have nD3 : (upd H g2.objs.size (.lst [])) D = none := by rw [upd_ne (Nat.ne_of_lt lt1)]; exact hD
  have I4 := I3.pinned (fp := [D]) (fun b hb => by rw [List.mem_singleton.mp hb]; exact ⟨nD3, fo.2⟩) (fun b hb => by rw [List.mem_singleton.mp hb]; exact ⟨_, h3, fun v z => by cases z⟩)
  have mp : (D, seqObj "list" #[] e1) ∈ pinsAt [D] (g2.push { cls := .type "list", data := .seq ([] : List Value).toArray }) := mem_pinsAt (List.mem_singleton.mpr rfl) h3
  generalize pinsAt [D] (g2.push { cls := .type "list", data := .seq ([] : List Value).toArray }) = pl at I4 mp
  unfold ksk_tree
  refine wpAny_bind (listItems_at ho rfl (wpAny_bind (listUpdate_at ho rfl ?_ (by rw [List.size_toArray]; exact hz) (Nat.zero_le _))))
  rw [hh1]
  refine wpAny_bind (seqEpoch_at h1 rfl (wpAny_bind (wpAny_newTuple ?_ (by show us.toArray.toList.length ≤ _; rw [List.toList_toArray]; exact hz))))
  show wpAny _ _ _ _ _ { s with heap := g1.push { cls := .type "tuple", data := .seq us.toArray } }
  rw [hg2]
  refine wpAny_bind (wpAny_newList (wpAny_holding ?_) (Nat.zero_le _))
  show wpAny _ _ (ksk_rest D (.ref f) false us.toArray e1 (.ref g2.objs.size)) _ _ { s with heap := g2.push { cls := .type "list", data := .seq ([] : List Value).toArray } }
  unfold ksk_rest
  refine wpAny_bind (wpAny_rule ?_)
  rw [List.forIn_toArray]
  have kp' : KeyP Y f σ H n kx ky := kp
  refine wpAny_bind (wpAny_mono (keys_fold (pins := pins ++ pl) (kS := g2.objs.size) kp' h64 hS (fun x s1 C hx => ?_) us 0 _ _ [] (by omega) (fun j v e => ?_) I4 (Same.new hS _) rfl ⟨upd_same, fun j hj => absurd hj (Nat.not_lt_zero _)⟩) (fun _ s2 hx => ?_) fun _ _ z => z)
  · refine wpAny_bind (wpAny_attempt (wpAny_mono hx (fun k s2 hk => ?_) fun _ _ z => z.elim))
    obtain ⟨o, xs, m, q1, q2, q3, q4⟩ := hk
    dsimp only
    have := lineGe (show xs.size + 1 ≤ 1000 by omega)
    exact wpAny_bind (listUpdate_at q1 q2 (wpAny_pure ⟨rfl, k, q4⟩) (by omega) (by rw [Array.size_push]; omega))
  · have hj : j < us.length := (List.getElem?_eq_some_iff.mp e).1
    obtain ⟨u, hu, ru⟩ := rv.get (i := j) (x := .int (j : Int)) (by rw [List.getElem?_map, List.getElem?_range (by omega)]; rfl)
    rw [e] at hu
    cases hu
    obtain ⟨t, rfl⟩ := ru
    exact ⟨t, by rw [Nat.zero_add]⟩
  · obtain ⟨H', ks, I', g', hl', kd⟩ := hx
    obtain ⟨_, kv, m, rk, _, he⟩ := I'.lstM kd.1
    refine wpAny_bind (listItems_at he rfl ?_)
    refine keyEnd_ok I' mp fo kd hl' h64 rk rv bd inj fun p pm s3 I3 => h p pm _ s3 ?_ I3
    intro b o q
    rw [upd_ne (ne_of_none q hS)]
    exact g' b o q
end
end L2

/-! ## sorted(range(n), key=lambda ..) as an expression -/
namespace L2
open PySem PySem.Spec PyProof.Rows
section
variable {X : Cx} {pins : List (Addr × Obj)} {σ : St} {H : Hp} {s : Shared}
theorem sorted_rngK {r f : Addr} {n : Nat} {kx ky : Nat → Int} {Q : VK} (hc : X.calm = true) (I : Inv X pins σ H s) (hr : H r = some (.rng 0 (n : Int))) (hn : n < 60) (kp : KeyP (inA (inA X)) f σ H n kx ky)
    (bd : ∀ i, i < n → 0 ≤ ky i ∧ ky i < 16) (inj : ∀ i j, i < n → j < n → kx i = kx j → ky i = ky j → i = j) (h : ∀ p : List Nat, p.Perm (List.range n) → mkL H (p.map fun (i : Nat) => V.int (i : Int)) Q) :
    wpAny (model X.prog X.w) X.A (call (.builtin "sorted") [.ref r] [(Str.ofString "key", .ref f)]) (EP X pins σ Q) X.xe s := by
  obtain ⟨t, u, v, e⟩ := I.hok r _ hr
  refine call_function_entry_kw kind_sorted plain_sorted entry_sorted (ksk_s1 _ _) ?_
  unfold Builtin.«sorted»
  refine wpAny_bind (m := checkCount "sorted" 1 1 _) (wpAny_pure (wpAny_bind (collect_rng (A := X.A.in1) (n := n) (I.ok.hd hc) e (small_one (by omega) (by omega) (by omega) (by omega)) (by rw [rangeSize_one]; split <;> omega) (by omega) fun h' tk acc kp' hi => ?_)))
  have rv : Vals (upTo n) acc.toList := vals_items hi
  have lu := rv.length
  rw [upTo_len] at lu
  have I1 : Inv X pins σ H { s with heap := h', toks := tk } := I.kept (t' := tk) kp'
  have hD : H h'.objs.size = none := I1.hok.fresh (Nat.le_refl _)
  have fo : FpOk X pins H h'.objs.size := I1.fpOk (Nat.le_refl _) hD
  have I2 : Inv X pins σ H { s with heap := h'.push { cls := .type "list", data := .seq acc.toList.toArray }, toks := tk } := I1.kept (t' := tk) fun b o e => Heap.get?_push_of_some _ e
  have hoL : (h'.push { cls := .type "list", data := .seq acc.toList.toArray }).get? h'.objs.size = some (seqObj "list" acc.toList.toArray 0) := Heap.get?_push_size _ rfl
  refine wpAny_bind (wpAny_newList ?_ (lineGe (by omega)))
  refine wpAny_bind (wpAny_holding (wpAny_call_entry_kw slot_list_sort ⟨_, hoL, rfl⟩ entry_list_sort ?_ (ksk_l1 _ _)))
  show wpAny _ X.A.in1.in1 (Builtin.«list.sort» ⟨[.ref h'.objs.size], [(Str.ofString "key", .ref f)]⟩) _ _ _
  rw [ksk_t1]
  refine keyed_ok (Y := inA (inA X)) (D := h'.objs.size) I2.inA.inA fo hD hoL (by omega) rv kp bd inj fun p pm H' s' g I' => ⟨_, rfl, wpAny_pure ⟨_, rfl, .ref h'.objs.size, _, I'.outA.outA, rfl, h p pm _ _ (fun b o q => ?_) upd_same hD⟩⟩
  rw [upd_ne (ne_of_none q hD)]
  exact g b o q
def tSortLam (K : PySem.W.Frag) (T : Addr) (lpos : Pos) (q : Str) (fd : Addr → Value → FuncData) (te tbody : TE) (idx : List Nat) : TE := fun σ H Q => te σ H fun x H1 => tLam T lpos q fd σ H1 fun fv H2 =>
  ∃ (r : Addr) (n : Nat) (f c' : Addr) (ctv : Value) (kx ky : Nat → Int), x = .ref r ∧ fv = .ref f ∧ H2 r = some (.rng 0 (n : Int)) ∧ n < 60 ∧ H2 f = some (LamE f (fd c' ctv)) ∧ H2 c' = some (CodeE c' q) ∧ (∀ i, i < n → 0 ≤ ky i ∧ ky i < 16) ∧ (∀ i j, i < n → j < n → kx i = kx j → ky i = ky j → i = j) ∧
    (∀ i, i < n → ∀ H3, Same H2 H3 → ∀ C : VK, (∀ (r : Addr) (H' : Hp), Same H3 H' → SqT K H' r [.int (kx i), .int (ky i)] → C (.ref r) H') → tbody (some (.int (i : Int)) :: frSt idx σ) H3 C) ∧ ∀ p : List Nat, p.Perm (List.range n) → mkL H2 (p.map fun (i : Nat) => V.int (i : Int)) Q
theorem pe_sortlam {e body : Expr} {te tbody : TE} {params : Arguments} {lscope : Scope} {lpos p pos kpos : Pos} {c T : Addr} {clos : List (Str × Addr)} {x : Str} {fr : List Str} {idx : List Nat} {k : Nat}
    (hm : X.mg "sorted" = none) (hg : Gl X "sorted") (hcalm : X.calm = true) (hr : Room (k + 2) X.A) (he : PE X e te) (tb : TabAt X.mg X.base c T) (hcode : X.env.code = .ref c) (hcl : closureFor lscope X.env = pure clos) (ok : LamOk (inA (inA X)) lscope clos x fr idx)
    (hb : ∀ f c' s H, PE (cxLam (inA (inA X)) lscope clos (x :: fr) (X.env.qual ++ "<lambda>") f c' s H) body tbody)
    (hbind : ∀ (pm : Value) (c' : Addr) (ctv u : Value), bindArgs (PySem.W.kla_fn "<lambda>" (X.env.qual ++ "<lambda>") params body lscope clos pm (.ref c') ctv) ⟨[u], []⟩ = pure [(x, u)])
    (hdef : defaultsOf params X.env = ([], []) := by rfl)
    (h1 : backTo pos (starEach [e] X.env) = (false, eval e X.env) :: backTo pos (starEach [] X.env) := by rfl) (h2 : starEach [e] X.env = (false, eval e X.env) :: starEach [] X.env := by rfl) (h3 : (backTo pos (starEach [e] X.env)).any (·.1) = false := by rfl) :
    PE X (.Call (.Name "sorted" p) [e] [⟨some "key", .Lambda params body lscope lpos, kpos⟩] pos)
      (tSortLam X.K T lpos (X.env.qual ++ "<lambda>") (fun c' ctv => PySem.W.kla_fn "<lambda>" (X.env.qual ++ "<lambda>") params body lscope clos ((X.mg "__name__").getD .none) (.ref c') ctv) te tbody idx) := by
  intro pins s σ H Q I h
  refine wpAny_Call_Name_kw (ld_blt I hg hm bSorted ?_)
  let W : V → V → Hp → Prop := fun x fv H2 => ∃ (r : Addr) (n : Nat) (f c' : Addr) (ctv : Value) (kx ky : Nat → Int), x = .ref r ∧ fv = .ref f ∧ H2 r = some (.rng 0 (n : Int)) ∧ n < 60 ∧ H2 f = some (LamE f (PySem.W.kla_fn "<lambda>" (X.env.qual ++ "<lambda>") params body lscope clos ((X.mg "__name__").getD .none) (.ref c') ctv)) ∧ H2 c' = some (CodeE c' (X.env.qual ++ "<lambda>")) ∧ (∀ i, i < n → 0 ≤ ky i ∧ ky i < 16) ∧ (∀ i j, i < n → j < n → kx i = kx j → ky i = ky j → i = j) ∧
    (∀ i, i < n → ∀ H3, Same H2 H3 → ∀ C : VK, (∀ (r : Addr) (H' : Hp), Same H3 H' → SqT X.K H' r [.int (kx i), .int (ky i)] → C (.ref r) H') → tbody (some (.int (i : Int)) :: frSt idx σ) H3 C) ∧ ∀ p : List Nat, p.Perm (List.range n) → mkL H2 (p.map fun (i : Nat) => V.int (i : Int)) Q
  refine PyProof.Rows.callWith_kw (thn (pa_cons he pa_nil h2 pos pins s σ H (fun vs H1 => match vs with
    | [x] => tLam T lpos (X.env.qual ++ "<lambda>") (fun c' ctv => PySem.W.kla_fn "<lambda>" (X.env.qual ++ "<lambda>") params body lscope clos ((X.mg "__name__").getD .none) (.ref c') ctv) σ H1 fun fv H2 => W x fv H2
    | _ => False) I h) fun us s1 hus => ?_) h1 h3 rfl rfl
  obtain ⟨vs, H1, I1, r1, q1⟩ := hus
  cases r1 with
  | nil => exact q1.elim
  | @cons x u vs' us' rx r2 =>
    cases r2 with
    | cons _ _ => exact q1.elim
    | nil =>
      refine thn (pk_cons (nm := some "key") (kpos := kpos) (pe_lam tb hcode hcl hdef) pk_nil pos pins s1 σ H1 (fun zs H2 => match zs with
        | [fv] => W x fv H2
        | _ => False) I1 q1) fun ws s2 hws => ?_
      obtain ⟨zs, H2, I2, rz, q2⟩ := hws
      cases rz with
      | nil => exact q2.elim
      | @cons fv fu zs' us2 rf r3 =>
        cases r3 with
        | cons _ _ => exact q2.elim
        | nil =>
          obtain ⟨r, n, f, c', ctv, kx, ky, rfl, rfl, hrn, hn, hf, hc', bd, inj, hkey, hQ⟩ := q2
          cases rx
          cases rf
          have hr2 : Room k X.A.in1.in1 := hr.in1.in1
          refine sorted_rngK hcalm I2 hrn hn (fun pins' s' H' i t Q' J g hi hq => ?_) bd inj hQ
          exact lam_call (X := inA (inA X)) ok J hr2 (g _ _ hf) (g _ _ hc') (v := .int (i : Int)) ⟨t, rfl⟩ (hbind _ c' ctv _) (hb f c' s' H') (hkey i hi H' g Q' hq)
end
end L2

/-! ## tuple(reversed(range(n))) -/
namespace L2
open PySem PySem.Spec PyProof.Rows
section
variable {prog : Program} {w : World} {A : Around} {E : Value → Shared → Prop} {s : Shared}
abbrev rvObj (n : Int) : Obj := { cls := .type "range_iterator", dict := none, data := .fields #[rawInt (n - 1), rawInt n, rawInt (-1)], slots := #[] }
theorem call_range_rev {r : Addr} {n : Int} {t u v : Tok} {Q : Value → Shared → Prop} (hr : IsRange s.heap r 0 n 1 t u v) (h0 : 0 ≤ n) (h1 : n ≤ 1000)
    (h : Q (.ref s.heap.objs.size) { s with heap := s.heap.push (rvObj n) }) : wpAny (model prog w) A (call (.builtin "range.__reversed__") [.ref r]) Q E s := by
  refine wpAny_call_entry F.slot_range_reversed ⟨_, hr, rfl⟩ F.entry_range_reversed ?_ (F.args_range_reversed_1 _)
  have hz : Builtin.Range.rangeSize 0 n 1 = n := by rw [rangeSize_one]; split <;> omega
  obtain ⟨hp, g, d, tk, os⟩ := s
  wp_walk using wpAny_loadPart' hr
  have fn : Builtin.Range.rangeFitsLong n = true := by unfold Builtin.Range.rangeFitsLong; simp; omega
  rw [hz, fn, show Builtin.Range.rangeFitsLong 0 = true from by decide, show Builtin.Range.rangeFitsLong 1 = true from by decide, show Builtin.Range.rangeFitsLong (-1) = true from by decide, show Builtin.Range.rangeFitsLong (0 - 1) = true from by decide]
  simp only [Bool.and_self, Bool.not_true, Bool.false_eq_true, if_false, if_true]
  have e : (0 : Int) + (n - 1) * 1 = n - 1 := by omega
  rw [e]
  exact wpAny_bind (wpAny_newObj_type (wpAny_pure ⟨_, rfl, h⟩))
theorem code_rev_new {r : Addr} {n : Int} {t u v : Tok} {Q : Value → Shared → Prop} (hr : IsRange s.heap r 0 n 1 t u v) (h0 : 0 ≤ n) (h1 : n ≤ 1000) (h : Q (.ref s.heap.objs.size) { s with heap := s.heap.push (rvObj n) }) :
    codeAny (model prog w) A (.call (.builtin "reversed.__new__") ⟨[.type "reversed", .ref r], []⟩) (wants Q E) s := by
  have hT : s.TypeIs (.ref r) "range" := ⟨_, hr, rfl⟩
  refine codeAny_of_tree ?_
  show wpAny _ A.in1 (do checkBuiltinCall "reversed.__new__" ⟨[.type "reversed", .ref r], []⟩; again (.builtin "reversed.__new__" ⟨[.type "reversed", .ref r], []⟩)) _ _ s
  refine wpAny_bind (wpAny_of_eq (F.newCall_reversed_1 _) (wpAny_pure ⟨plainId_quiet F.plain_reversed_new _, codeAny_builtin F.entry_reversed_new ?_⟩)); rw [Around.under_plainId F.plain_reversed_new _]; unfold Builtin.«reversed.__new__»
  refine wpAny_bind (wpAny_of_eq (newClass_reversed _) ?_); try dsimp only
  refine wpAny_bind (wpAny_of_eq (a := ()) (by first | rfl | kernel_rfl) (wpAny_bind (wpAny_of_eq (a := ()) (by first | rfl | kernel_rfl) ?_))); try dsimp only
  refine wpAny_bind (wpAny_specialOf hT F.slot_range_reversed.lookup ?_); try dsimp only
  refine wpAny_bind (wpAny_of_eq (F.slot_range_reversed.bind _) ?_); try dsimp only
  rw [if_neg (show ¬ ((Value.builtin "range.__reversed__" == Value.none) = true) from Bool.false_ne_true)]
  refine wpAny_bind (wpAny_rule (wpAny_bind (m := runValue (.call (.builtin "range.__reversed__") ⟨[.ref r], []⟩)) (show wpAny _ _ (call (.builtin "range.__reversed__") [.ref r]) _ _ _ from call_range_rev hr h0 h1 ?_)))
  first
  | exact wpAny_pure h
  | exact wpAny_bind (wpAny_pure (wpAny_pure h))
theorem sub_ri_reversed : isSubtype (.type "range_iterator") (.type "reversed") = pure false := by rw [isSubtype_type]; kernel_rfl
theorem call_reversed_rng {r : Addr} {n : Int} {t u v : Tok} {Q : Value → Shared → Prop} (hr : IsRange s.heap r 0 n 1 t u v) (h0 : 0 ≤ n) (h1 : n ≤ 1000) (h : Q (.ref s.heap.objs.size) { s with heap := s.heap.push (rvObj n) }) :
    wpAny (model prog w) A (call (.type "reversed") [.ref r]) Q E s := by
  refine callType_other (U := "range_iterator") (Q₁ := fun obj s₁ => obj = .ref s.heap.objs.size ∧ s₁ = { s with heap := s.heap.push (rvObj n) }) (by decide +kernel) F.create_reversed ⟨_, _, F.mro_reversed⟩ F.made_reversed sub_ri_reversed (F.typeCall_reversed_1 _) (code_rev_new hr h0 h1 ⟨rfl, rfl⟩) ?_
  rintro obj s₁ ⟨rfl, rfl⟩
  exact ⟨⟨_, Heap.get?_push_size _ rfl, rfl⟩, h⟩
theorem call_ri_hint {it : Addr} {x left step : Int} {Q : Value → Shared → Prop} (hi : IsRangeIter s.heap it x left step) (hl : 0 ≤ left ∧ left ≤ 1000) (h : ∀ k u tk, s.toks ≤ tk → Builtin.List.listTooLong (Int.toNat k) = false → Q (.int k u) { s with toks := tk }) :
    wpAny (model prog w) A (call (.builtin "range_iterator.__length_hint__") [.ref it]) Q E s := by
  refine wpAny_call_entry F.slot_range_iterator_length_hint ⟨_, hi, rfl⟩ F.entry_range_iterator_length_hint ?_ (F.args_range_iterator_length_hint_1 _)
  obtain ⟨hp, g, d, tk, os⟩ := s
  wp_walk using wpAny_loadPart' hi
  exact ⟨_, rfl, h left tk (tk + 1) (Nat.le_succ _) (by simp [Builtin.List.listTooLong, sizeLine]; omega)⟩
theorem call_tuple_ri {it : Addr} {x step : Int} {n : Nat} {Q : Value → Shared → Prop} (hh : A.handled = none) (hi : IsRangeIter s.heap it x n step) (hn : n ≤ 1000)
    (h : ∀ (h' : Heap) (tk : Nat) (acc : Array Value), (∀ b o, b ≠ it → s.heap.get? b = some o → h'.get? b = some o) → ItemsOf (fun i v => ∃ t, v = .int (x + i * step) t) acc n → Q (.ref h'.objs.size) { s with heap := h'.push { cls := .type "tuple", data := .seq acc }, toks := tk }) :
    wpAny (model prog w) A (call (.type "tuple") [.ref it]) Q E s := by
  have W := (Walks.range (prog := prog) (w := w) (A := A.in1.in1.in1) hh it x step n).toS
  have st0 : IsRangeIter s.heap it (x + ((0 : Nat) : Int) * step) ((n : Int) - ((0 : Nat) : Int)) step := by
    rw [show x + ((0 : Nat) : Int) * step = x by simp, show (n : Int) - ((0 : Nat) : Int) = n by simp]; exact hi
  have hsz : n ≤ sizeLine := lineGe hn
  have new : codeAny (model prog w) A.in1 (.call (.builtin "tuple.__new__") ⟨[.type "tuple", .ref it], []⟩) (wants (fun obj s₁ => s₁.TypeIs obj "tuple" ∧ Q obj s₁) E) s := by
    refine codeAny_of_tree ?_
    show wpAny _ A.in1.in1 (do checkBuiltinCall "tuple.__new__" ⟨[.type "tuple", .ref it], []⟩; again (.builtin "tuple.__new__" ⟨[.type "tuple", .ref it], []⟩)) _ _ s
    refine wpAny_bind (wpAny_of_eq (F.newCall_tuple_1 _) (wpAny_pure ⟨plainId_quiet F.plain_tuple_new _, codeAny_builtin F.entry_tuple_new ?_⟩)); rw [Around.under_plainId F.plain_tuple_new _]
    have hsub := sub_tuple_self
    have hinit := init_tuple_lookup
    have hmh := madeHere_tuple
    have hTI : s.TypeIs (.ref it) "range_iterator" := ⟨_, hi, rfl⟩
    have col : ∀ {R : List Value → Shared → Prop} {E' : Value → Shared → Prop}, (∀ s' acc, Moved [it] (fun a b => b = a) s s' → ItemsOf (fun i v => ∃ t, v = .int (x + i * step) t) acc n → R acc.toList s') → wpAny (model prog w) A.in1.in1 (collect (.ref it)) R E' s := fun {R E'} hR =>
      wpAny_collect_iter_range (hn := hsz) W (fun i s st => ⟨_, st, rfl⟩) st0 (fun b hb => by rw [List.mem_singleton.mp hb]; exact Heap.lt_size hi) (List.mem_singleton.mpr rfl) (fun s1 Q' E' st hq => call_ri_hint st (by constructor <;> omega) hq) hR
    wp_walk using wpAny_typeOf hTI, col
    intro s' acc hm hacc
    show wpAny _ _ (Builtin.Tuple.tupleExact acc.toList.toArray >>= fun v => ret v) _ _ _
    unfold Builtin.Tuple.tupleExact
    refine wpAny_bind (wpAny_newObj_type (wpAny_pure ?_) (by show acc.toList.toArray.size ≤ sizeLine; rw [Array.toArray_toList, hacc.1]; exact hsz))
    rw [Array.toArray_toList, Moved.eq_with hm]
    refine ⟨⟨_, Heap.get?_push_size _ rfl, rfl⟩, h s'.heap s'.toks acc (fun b o hb e => hm.heap b o (fun z => hb (List.mem_singleton.mp z)) e) hacc⟩
  refine callType_codes (Q₁ := fun obj s₁ => s₁.TypeIs obj "tuple" ∧ Q obj s₁) F.called_tuple (F.typeCall_tuple_1 _) F.entry_object_init new fun obj s₁ h₁ => ?_
  exact ⟨h₁.1, F.args_object_init_2 obj _, object_init_meets F.called_tuple.init.lookup F.called_tuple.made (by decide) prog w A.in1 _ s₁ ⟨h₁.1, rfl, h₁.2⟩⟩
end
section
variable {X : Cx}
theorem vals_of {g : Nat → V} : ∀ (l : List Value) (k : Nat), (∀ j v, l[j]? = some v → RelV (g (k + j)) v) → Vals ((List.range' k l.length).map g) l
  | [], _, _ => .nil
  | x :: xs, k, h => by
    rw [List.length_cons, List.range'_succ, List.map_cons]
    refine .cons (h 0 x rfl) (vals_of xs (k + 1) fun j v e => ?_)
    have := h (j + 1) v e
    rwa [show k + (j + 1) = k + 1 + j by omega] at this
theorem rev_range (n : Nat) : ((List.range n).reverse.map fun (i : Nat) => V.int (i : Int)) = (List.range' 0 n).map fun (i : Nat) => V.int ((n : Int) - 1 + (i : Int) * -1) := by
  refine List.ext_getElem (by simp) fun i a b => ?_
  simp at a ⊢
  omega
theorem vals_rev {acc : Array Value} {n : Nat} (h : ItemsOf (fun i v => ∃ t, v = .int ((n : Int) - 1 + i * -1) t) acc n) : Vals ((List.range n).reverse.map fun (i : Nat) => V.int (i : Int)) acc.toList := by
  have e : n = acc.toList.length := by rw [Array.length_toList]; exact h.1.symm
  have := vals_of (g := fun (i : Nat) => V.int ((n : Int) - 1 + (i : Int) * -1)) acc.toList 0 fun j v ev => by
    obtain ⟨t, z⟩ := h.2 j v (by rw [← Array.getElem?_toList]; exact ev)
    exact ⟨t, by rw [z, Nat.zero_add]⟩
  rw [← e] at this
  rw [rev_range]
  exact this
theorem bReversed : bootBuiltins "reversed" = some (.type "reversed") := by decide +kernel
def tTupRev (K : PySem.W.Frag) (te : TE) : TE := fun σ H Q => te σ H fun x H1 => ∃ (r : Addr) (n : Nat), x = .ref r ∧ H1 r = some (.rng 0 (n : Int)) ∧ n ≤ 1000 ∧ mkT K H1 ((List.range n).reverse.map fun (i : Nat) => V.int (i : Int)) Q
theorem pe_tuprev {e : Expr} {te : TE} {p p2 pos pos2 : Pos} (hcalm : X.calm = true) (hg : Gl X "tuple") (hm : X.mg "tuple" = none) (hg2 : Gl X "reversed") (hm2 : X.mg "reversed" = none) (he : PE X e te)
    (h1 : starEach [.Call (.Name "reversed" p2) [e] [] pos2] X.env = (false, eval (.Call (.Name "reversed" p2) [e] [] pos2) X.env) :: starEach [] X.env := by rfl) (h2 : starEach [e] X.env = (false, eval e X.env) :: starEach [] X.env := by rfl) :
    PE X (.Call (.Name "tuple" p) [.Call (.Name "reversed" p2) [e] [] pos2] [] pos) (tTupRev X.K te) := by
  intro pins s σ H Q I h
  refine wpAny_Call_Name_kw (ld_blt I hg hm bTuple ?_)
  refine PyProof.Rows.callWith_type1 ?_ h1 rfl
  rw [h1]
  show wpAny _ _ (spliced ((false, eval (.Call (.Name "reversed" p2) [e] [] pos2) X.env) :: backTo pos (starEach [] X.env))) _ _ s
  refine Calls.spliced_cons ?_
  refine wpAny_Call_Name_kw (ld_blt I hg2 hm2 bReversed ?_)
  refine PyProof.Rows.callWith_type1 (thn (pa_cons he pa_nil h2 pos2 pins s σ H (fun vs H1 => match vs with
    | [x] => ∃ (r : Addr) (n : Nat), x = .ref r ∧ H1 r = some (.rng 0 (n : Int)) ∧ n ≤ 1000 ∧ mkT X.K H1 ((List.range n).reverse.map fun (i : Nat) => V.int (i : Int)) Q
    | _ => False) I h) fun us s1 hus => ?_) h2 rfl
  obtain ⟨vs, H1, I1, r1, q1⟩ := hus
  cases r1 with
  | nil => exact q1.elim
  | @cons x u vs' us' rx r2 =>
    cases r2 with
    | cons _ _ => exact q1.elim
    | nil =>
      obtain ⟨r, n, rfl, hr, hn, q⟩ := q1
      cases rx
      obtain ⟨t, u, v, er⟩ := I1.hok r _ hr
      refine call_reversed_rng er (by omega) (by omega) ?_
      refine Calls.spliced_nil ?_
      refine call_tuple_ri (it := s1.heap.objs.size) (x := (n : Int) - 1) (step := -1) (n := n) (I1.ok.hd hcalm) (Heap.get?_push_size _ rfl) hn fun h' tk acc kp hi => ?_
      have rv := vals_rev hi
      have I2 : Inv X pins σ H1 { s1 with heap := h', toks := tk } := I1.kept (t' := tk) fun b o e => kp b o (fun z => by rw [z] at e; exact absurd (Heap.lt_size e) (Nat.lt_irrefl _)) (Heap.get?_push_of_some _ e)
      refine ⟨.ref h'.objs.size, _, I2.laid (t' := tk) (fun b o e => Heap.get?_push_of_some _ e) (Nat.le_refl _) (show ObjOk X.prog X.w _ _ _ (.tup _) from ⟨?_, acc.toList, rv, ?_⟩), rfl, mkT.new q _ (I2.hok.fresh (Nat.le_refl _))⟩
      · rw [List.length_map, List.length_reverse, List.length_range]
        exact lineGe hn
      · rw [Array.toArray_toList]
        exact ⟨_, Heap.get?_push_size _ rfl, rfl, _, rfl⟩
end
end L2

namespace Odd
open PySem L2
def top (i : Nat) : Stmt := PySem.Challenge.pw_oddreel_k06_whole_rounds_bring_distances.main.body.getD i (.Pass ⟨0, 0, 0, 0⟩)
abbrev sWithNumber : Stmt := top 1
abbrev sNeighbours : Stmt := top 3
abbrev sRightNumber : Stmt := top 5
abbrev sWrongFar : Stmt := top 6
abbrev sMendedFar : Stmt := top 7
abbrev sRoundFar : Stmt := top 8
abbrev sCell : Stmt := top 10
abbrev sMix : Stmt := top 11
abbrev sLNet : Stmt := top 12
abbrev sLPerm : Stmt := top 13
abbrev sLFar : Stmt := top 14
abbrev sLOrder : Stmt := top 15
abbrev lamPos : Pos := ⟨54, 50, 54, 105⟩
abbrev sLaw : Stmt := top 16
end Odd
/-! ## COMMON -/
namespace Odd
open PySem L2
abbrev vI (ns : List Int) : List V := ns.map V.int
abbrev vN (ns : List Nat) : List V := ns.map fun (h : Nat) => V.int (h : Int)
theorem vN_vI (ns : List Nat) : vN ns = vI (ns.map fun (h : Nat) => (h : Int)) := by unfold vN vI; rw [List.map_map]; rfl
theorem mem_vN {h : Nat} {ns : List Nat} : ((h : Int) ∈ ns.map fun (h : Nat) => (h : Int)) ↔ h ∈ ns := by
  rw [List.mem_map]
  exact ⟨fun ⟨x, hx, e⟩ => by rw [show h = x by omega]; exact hx, fun z => ⟨h, z, rfl⟩⟩
theorem vI_len (ns : List Int) : (vI ns).length = ns.length := by unfold vI; rw [List.length_map]
theorem vN_len (ns : List Nat) : (vN ns).length = ns.length := by unfold vN; rw [List.length_map]
theorem set_cut {ns : List Int} {h : Nat} {x : Int} (hh : h < ns.length) : (vI ns).take h ++ [V.int x] ++ (vI ns).drop (h + 1) = vI (ns.set h x) := by
  unfold vI
  rw [List.set_eq_take_append_cons_drop, if_pos hh, List.map_append, List.map_cons, List.map_take, List.map_drop, List.append_assoc]
  rfl
/-- p or q, and what is done then -/
theorem two_ways {p c : Bool} {T U R : Prop} (hp : p = true → c = true) (main : p = false → (c = true → T) → R) (kp : c = true → T) : if p = true then (if true = true then T else U) else R := by
  cases p with
  | true => rw [if_pos rfl, if_pos rfl]; exact kp (hp rfl)
  | false => rw [if_neg Bool.false_ne_true]; exact main rfl kp
end Odd

/-! ## one number in the place of another -/
namespace Odd
open PySem L2
def spWith (K : PySem.W.Frag) : Sp := fun vs H Q _ => ∃ (a : Addr) (ns : List Int) (h : Nat) (x : Int), vs = [.ref a, .int h, .int x] ∧ SqT K H a (vI ns) ∧ ns.length ≤ 100 ∧ mkT K H (vI (ns.set h x)) Q
theorem set_map {ns : List Int} {h : Nat} {x : Int} : (List.range ns.length).map (fun i : Nat => V.int (if (i : Int) = (h : Int) then x else ns.getD i 0)) = vI (ns.set h x) := by
  unfold vI
  refine List.ext_getElem (by simp) fun i h1 h2 => ?_
  have h3 : i < ns.length := by simpa using h1
  rw [List.getElem_map, List.getElem_map, List.getElem_range, List.getElem_set, List.getD_eq_getElem?_getD, List.getElem?_eq_getElem h3]
  by_cases e : h = i
  · rw [if_pos e, if_pos (by omega)]
  · rw [if_neg e, if_neg (by omega)]; rfl
section
variable {P : Program} {w : World} {K : PySem.W.Frag} {mg : Str → Option Value} {base : Heap} {f : Addr} {fd : FuncData}
theorem sc_with_number : FnScope ["numbers", "hand", "number"] ["numbers", "hand", "number"] (defScope sWithNumber) := ⟨rfl, rfl, rfl, by decide +kernel, rfl, by decide +kernel, by decide +kernel⟩
theorem ok_with (b : Bl mg) (F : Fun K "with_number" "with_number" sWithNumber f fd) (hm : mg "with_number" = some (.ref f)) : Fn P w K mg base "with_number" 1 ["numbers", "hand", "number"] (spWith K) := by
  refine ⟨f, fd, F.ok sc_with_number (fun vs H Q E h => ?_) (fun cdv A outer s H vs Q E hr h => ?_), F.binds (ps := ["numbers", "hand", "number"]) fun _ _ _ _ _ _ us hl => match us, hl with | [_, _, _], _ => rfl, F.kp, hm⟩
  · obtain ⟨a, ns, h', x, rfl, _⟩ := h
    rfl
  obtain ⟨a, ns, h, x, rfl, hS, h100, q⟩ := h
  have hl : ((vI ns).length : Int).toNat = ns.length := by rw [vI_len]; omega
  have hl' : ((vI ns).length : Int) = (ns.length : Int) := by rw [vI_len]
  refine ⟨_, (pss_one (ps_ret (pe_callTy call_tupL (by rfl) b.tuple bTuple (pa_cons (pe_comp (tn := ["at"]) (fr := ["number", "hand", "numbers"]) (idx := [2, 1, 0]) rfl (by exact ⟨rfl, ⟨rfl, rfl, rfl, trivial⟩, rfl, by decide +kernel, rfl, by decide +kernel, ⟨⟨rfl, .inl rfl, .inl rfl⟩, ⟨rfl, .inl rfl, .inl rfl⟩, ⟨rfl, .inl rfl, .inl rfl⟩, trivial⟩⟩) (pi_range1 rfl b.range (pa_cons (pe_len b (pv 0)) pa_nil)) (fun _ _ _ _ _ => (pg_name (i := 0) (show (["at", "number", "hand", "numbers"] : List Str).Nodup by decide +kernel) rfl (Or.inl rfl))) (fun _ _ _ _ _ => pts_nil) (fun _ _ _ _ _ => (pe_ifExp (pt_cmpR op_eq (pv 0) (pv 2) (nomark _)) (pv 1) (pe_ix (ix_tupK K (by rfl)) (pv 3) (pv 0) (fun _ _ => rfl))))) pa_nil)))), ?_⟩
  refine ⟨_, rfl, a, _, rfl, .inr hS, _, rfl, by omega, by omega, ?_⟩
  refine comp_of (f := fun _ => true) (y := fun i => .int (if (i : Int) = (h : Int) then x else ns.getD i 0)) (n := ((vI ns).length : Int).toNat) fixed_range (lineGe (by omega)) (fun i H2 hi g C hC => hC H2 (Same.refl _)) (fun i H2 hi _ g C hC => ?_) (fun D H' g e => ?_)
  · have z0 : (0 : Int) + (i : Int) = (i : Int) := Int.zero_add _
    refine ⟨_, rfl, _, rfl, rfl, _, rfl, ?_⟩
    refine ite2 (fun c => ?_) (fun c => ?_)
    · have c' : (i : Int) = (h : Int) := by have := of_decide_eq_true c; injection this with this; omega
      refine ⟨_, rfl, ?_⟩
      have := hC H2 (Same.refl _)
      rw [if_pos c'] at this
      exact this
    · have c' : ¬ (i : Int) = (h : Int) := fun z => c (decide_eq_true (congrArg V.int (by omega)))
      refine ⟨_, rfl, _, rfl, a, _, _, _, rfl, rfl, g.tup hS, atI_int (by omega) (by omega), ?_⟩
      have := hC H2 (Same.refl _)
      rw [if_neg c'] at this
      rw [show ((0 : Int) + (i : Int)).toNat = i by omega]
      exact this
  · rw [map_all, hl, set_map] at e
    exact ⟨D, _, rfl, SqL.of e, q.same g⟩
end
end Odd

/-! ## THE LAW'S OWN HELPERS: a cell, a mix -/
namespace Odd
open PySem L2
def cellV (ns : List Int) (k : Nat) : Int := ns.getD k 0
def mixV (c p m : Int) : Int := c * 48271 % p % m
theorem mix_range {c p m : Int} (h : 0 < m) : 0 ≤ mixV c p m ∧ mixV c p m < m := ⟨Int.emod_nonneg _ (by omega), Int.emod_lt_of_pos _ h⟩
def spCell (K : PySem.W.Frag) : Sp := fun vs H Q _ => ∃ (a : Addr) (ns : List Int) (k : Nat), vs = [.ref a, .int k] ∧ SqL K H a (vI ns) ∧ Q (.int (cellV ns k)) H
def spMix : Sp := fun vs H Q _ => ∃ (c p m : Int), vs = [.int c, .int p, .int m] ∧ 0 < p ∧ 0 < m ∧ Q (.int (mixV c p m)) H
section
variable {P : Program} {w : World} {K : PySem.W.Frag} {mg : Str → Option Value} {base : Heap} {f : Addr} {fd : FuncData}
theorem scCell : FnScope ["_law_script", "_law_k"] ["_law_script", "_law_k"] (defScope sCell) := ⟨rfl, rfl, rfl, by decide +kernel, rfl, by decide +kernel, by decide +kernel⟩
theorem ok_cell (b : Bl mg) (F : Fun K "_law_cell" "_law_cell" sCell f fd) (hm : mg "_law_cell" = some (.ref f)) : Fn P w K mg base "_law_cell" 1 ["_law_script", "_law_k"] (spCell K) := by
  refine ⟨f, fd, F.ok scCell (fun vs H Q E h => ?_) (fun cdv A outer s H vs Q E hr h => ?_), F.binds (ps := ["_law_script", "_law_k"]) fun _ _ _ _ _ _ us hl => match us, hl with | [_, _], _ => rfl, F.kp, hm⟩
  · obtain ⟨a, ns, k, rfl, _⟩ := h
    rfl
  obtain ⟨a, ns, k, rfl, hS, q⟩ := h
  have hl : ((vI ns).length : Int) = (ns.length : Int) := by unfold vI; rw [List.length_map]
  refine ⟨_, pss_cons (ps_if (pt_cmpR op_lt (pv 1) (pe_len b (pv 0)) (nomark _)) (pss_one (ps_ret (pe_ix ix_list (pv 0) (pv 1) (fun _ _ => rfl)))) pss_nil) (pss_one (ps_ret pe_int)), ?_⟩
  refine ⟨_, rfl, _, rfl, a, _, rfl, .inl hS, _, _, rfl, rfl, _, rfl, ?_⟩
  refine ite2 (fun c => ?_) (fun c => ?_)
  · have c' := of_decide_eq_true c
    exact ⟨_, rfl, _, rfl, a, _, _, _, rfl, rfl, hS, atI_int (by omega) (by omega), q⟩
  · have c' := of_decide_eq_false (Bool.eq_false_iff.mpr c)
    have e : cellV ns k = 0 := by
      unfold cellV
      rw [List.getD_eq_getElem?_getD, List.getElem?_eq_none (by omega)] <;> rfl
    rw [e] at q
    exact q
theorem scMix : FnScope ["_law_cell_here", "_law_prime", "_law_many"] ["_law_cell_here", "_law_prime", "_law_many"] (defScope sMix) := ⟨rfl, rfl, rfl, by decide +kernel, rfl, by decide +kernel, by decide +kernel⟩
theorem ok_mix (F : Fun K "_law_mix" "_law_mix" sMix f fd) (hm : mg "_law_mix" = some (.ref f)) : Fn P w K mg base "_law_mix" 1 ["_law_cell_here", "_law_prime", "_law_many"] spMix := by
  refine ⟨f, fd, F.ok scMix (fun vs H Q E h => ?_) (fun cdv A outer s H vs Q E hr h => ?_), F.binds (ps := ["_law_cell_here", "_law_prime", "_law_many"]) fun _ _ _ _ _ _ us hl => match us, hl with | [_, _, _], _ => rfl, F.kp, hm⟩
  · obtain ⟨c, p, m, rfl, _⟩ := h
    rfl
  obtain ⟨c, p, m, rfl, hp, hM, q⟩ := h
  refine ⟨_, pss_one (ps_ret (pe_op op_mod (pe_op op_mod (pe_op op_mul (pv 0) pe_int) (pv 1)) (pv 2))), ?_⟩
  exact ⟨_, rfl, _, _, rfl, rfl, .inr ⟨by decide, by decide⟩, _, rfl, _, _, rfl, rfl, hp, _, rfl, _, _, rfl, rfl, hM, q⟩
end
end Odd

/-! ## pairs that stand in a tuple -/
namespace Odd
open PySem L2
/-- the values ps are the pairs es -/
def EdgesAt (K : PySem.W.Frag) (H : Hp) (ps : List V) (es : List (Nat × Nat)) : Prop := ps.length = es.length ∧ ∀ (i : Nat) (e : Nat × Nat), es[i]? = some e → ∃ p, ps[i]? = some (.ref p) ∧ SqT K H p [.int (e.1 : Int), .int (e.2 : Int)]
theorem EdgesAt.same {K : PySem.W.Frag} {H H' : Hp} {ps : List V} {es : List (Nat × Nat)} (g : Same H H') (h : EdgesAt K H ps es) : EdgesAt K H' ps es := ⟨h.1, fun i e he => let ⟨p, h1, h2⟩ := h.2 i e he; ⟨p, h1, g.tup h2⟩⟩
theorem EdgesAt.nil {K : PySem.W.Frag} {H : Hp} : EdgesAt K H [] [] := ⟨rfl, fun i e he => by simp at he⟩
theorem EdgesAt.snoc {K : PySem.W.Frag} {H : Hp} {ps : List V} {es : List (Nat × Nat)} {p : Addr} {e : Nat × Nat} (h : EdgesAt K H ps es) (hp : SqT K H p [.int (e.1 : Int), .int (e.2 : Int)]) : EdgesAt K H (ps ++ [.ref p]) (es ++ [e]) := by
  refine ⟨by rw [List.length_append, List.length_append, h.1] <;> rfl, fun i e' he => ?_⟩
  by_cases lt : i < es.length
  · rw [List.getElem?_append_left lt] at he
    obtain ⟨p', h1, h2⟩ := h.2 i e' he
    exact ⟨p', by rw [List.getElem?_append_left (by rw [h.1]; exact lt)]; exact h1, h2⟩
  · have hi : i = es.length := by
      have := (List.getElem?_eq_some_iff.mp he).1
      rw [List.length_append] at this
      have : i < es.length + 1 := this
      omega
    subst hi
    rw [List.getElem?_append_right (Nat.le_refl _), Nat.sub_self] at he
    have e1 : e = e' := by simpa using he
    subst e1
    exact ⟨p, by rw [List.getElem?_append_right (by rw [h.1]; exact Nat.le_refl _), h.1, Nat.sub_self]; rfl, hp⟩
end Odd

/-! ## THE DRAWN NET -/
namespace L2
open PySem PySem.Spec PyProof.Rows
theorem SqT.keep {K : PySem.W.Frag} {H : Hp} {D p : Addr} {xs ys : List V} {o : HO} (h : SqT K H p xs) (hD : H D = some (.lst ys)) : SqT K (upd H D o) p xs := by
  rcases h with (h | ⟨o', h⟩) | h
  · exact .inl (.inl (by rw [upd_ne (fun z => by rw [z, hD] at h; cases h)]; exact h))
  · exact .inl (.inr ⟨o', by rw [upd_ne (fun z => by rw [z, hD] at h; cases h)]; exact h⟩)
  · exact .inr h
theorem Same.updNew {H H' : Hp} {D : Addr} {o : HO} (g : Same H H') (hD : H D = Option.none) : Same H (upd H' D o) := fun b u q => by
  rw [upd_ne (ne_of_none q hD)]; exact g b u q
theorem range_snoc {α : Type} {f : Nat → Bool} {y : Nat → α} (i : Nat) : ((List.range (i + 1)).filter f).map y = if f i = true then ((List.range i).filter f).map y ++ [y i] else ((List.range i).filter f).map y := by
  rw [List.range_succ, List.filter_append, List.map_append]
  by_cases h : f i = true
  · rw [if_pos h]; simp [h]
  · rw [if_neg h]; simp [h]
end L2
namespace Odd
open PySem L2
theorem EdgesAt.keep {K : PySem.W.Frag} {H : Hp} {D : Addr} {ps ys : List V} {es : List (Nat × Nat)} {o : HO} (h : EdgesAt K H ps es) (hD : H D = some (.lst ys)) : EdgesAt K (upd H D o) ps es := ⟨h.1, fun i e he => let ⟨p, h1, h2⟩ := h.2 i e he; ⟨p, h1, h2.keep hD⟩⟩
def nV (ns : List Int) : Nat := (1 + mixV (cellV ns 0) 9973 8).toNat
theorem nV_int (ns : List Int) : 1 + mixV (cellV ns 0) 9973 8 = (nV ns : Int) := by
  have := mix_range (c := cellV ns 0) (p := 9973) (m := 8) (by decide)
  unfold nV; omega
theorem nV_range (ns : List Int) : 1 ≤ nV ns ∧ nV ns ≤ 8 := by
  have := mix_range (c := cellV ns 0) (p := 9973) (m := 8) (by decide)
  unfold nV; omega
def shareV (ns : List Int) : Int := mixV (cellV ns 0) 9967 8
def drawnV (ns : List Int) (i j : Nat) : Bool := decide (mixV (cellV ns 1 + 131 * (i : Int) + 17 * (j : Int)) 9949 9 < shareV ns)
def edgesV (ns : List Int) : List (Nat × Nat) := Net.netE (nV ns) (drawnV ns)
def NetAt (K : PySem.W.Frag) (H : Hp) (r : Addr) (n : Nat) (es : List (Nat × Nat)) : Prop := ∃ (eT : Addr) (ps : List V), SqT K H r [.int (n : Int), .ref eT] ∧ SqT K H eT ps ∧ EdgesAt K H ps es
theorem NetAt.same {K : PySem.W.Frag} {H H' : Hp} {r : Addr} {n : Nat} {es : List (Nat × Nat)} (g : Same H H') (h : NetAt K H r n es) : NetAt K H' r n es := let ⟨eT, ps, h1, h2, h3⟩ := h; ⟨eT, ps, g.tup h1, g.tup h2, h3.same g⟩
def spNet (K : PySem.W.Frag) : Sp := fun vs H Q _ => ∃ (a : Addr) (ns : List Int), vs = [.ref a] ∧ SqL K H a (vI ns) ∧ ∀ r H', Same H H' → NetAt K H' r (nV ns) (edgesV ns) → Q (.ref r) H'
abbrev stN (a : Addr) (n : Nat) (sh : Int) (D : Addr) (x4 x5 : Option V) : St := [some (.ref a), some (.int (n : Int)), some (.int sh), some (.ref D), x4, x5]
section
variable {P : Program} {w : World} {K : PySem.W.Frag} {mg : Str → Option Value} {base : Heap} {f : Addr} {fd : FuncData}
theorem sc__law_net : FnScope ["_law_script", "_law_many", "_law_share", "_law_edges", "_law_one", "_law_other"] ["_law_script"] (defScope sLNet) := ⟨rfl, rfl, rfl, by decide +kernel, rfl, by decide +kernel, by decide +kernel⟩
theorem ok_net (b : Bl mg) (F : Fun K "_law_net" "_law_net" sLNet f fd) (hm : mg "_law_net" = some (.ref f)) (G__law_cell : Fn P w K mg base "_law_cell" 1 ["_law_script", "_law_k"] (spCell K)) (G__law_mix : Fn P w K mg base "_law_mix" 1 ["_law_cell_here", "_law_prime", "_law_many"] spMix) : Fn P w K mg base "_law_net" 2 ["_law_script"] (spNet K) := by
  refine ⟨f, fd, F.ok sc__law_net (fun vs H Q E h => ?_) (fun cdv A outer s H vs Q E hr h => ?_), F.binds (ps := ["_law_script"]) fun _ _ _ _ _ _ us hl => match us, hl with | [_], _ => rfl, F.kp, hm⟩
  · obtain ⟨a, ns, rfl, _⟩ := h
    rfl
  obtain ⟨a, ns, rfl, hS, q⟩ := h
  have hn := nV_range ns
  refine ⟨_, (pss_cons (ps_set (i := 1) sc__law_net.nd rfl (Or.inl rfl) (pe_op op_add pe_int (pe_fn G__law_mix hr (pa_cons (pe_fn G__law_cell hr (pa_cons (pv 0) (pa_cons pe_int pa_nil))) (pa_cons pe_int (pa_cons pe_int pa_nil))))))
    (pss_cons (ps_set (i := 2) sc__law_net.nd rfl (Or.inl rfl) (pe_fn G__law_mix hr (pa_cons (pe_fn G__law_cell hr (pa_cons (pv 0) (pa_cons pe_int pa_nil))) (pa_cons pe_int (pa_cons pe_int pa_nil)))))
    (pss_cons (ps_set (i := 3) sc__law_net.nd rfl (Or.inl rfl) (pe_lstM pa_nil))
    (pss_cons (ps_for PassesOwn.never rfl (pi_range1 rfl b.range (pa_cons (pv 1) pa_nil)) (pg_name (i := 4) sc__law_net.nd rfl (Or.inl rfl)) (pss_one (ps_for PassesOwn.never rfl (pi_range2 rfl b.range (pa_cons (pe_op op_add (pv 4) pe_int) (pa_cons (pv 1) pa_nil))) (pg_name (i := 5) sc__law_net.nd rfl (Or.inl rfl)) (pss_one (ps_if (pt_cmpR op_lt (pe_fn G__law_mix hr (pa_cons (pe_op op_add (pe_op op_add (pe_fn G__law_cell hr (pa_cons (pv 0) (pa_cons pe_int pa_nil))) (pe_op op_mul pe_int (pv 4))) (pe_op op_mul pe_int (pv 5))) (pa_cons pe_int (pa_cons pe_int pa_nil)))) (pv 2) (nomark _)) (pss_one (ps_expr (pe_bm PySem.F.plainAttrs_list PySem.F.slot_list_append PySem.F.type_list_append mt_append (pv 3) (pa_cons (pe_tupS (pa_cons (pv 4) (pa_cons (pv 5) pa_nil))) pa_nil)))) pss_nil)))))
    (pss_one (ps_ret (pe_tupS (pa_cons (pv 1) (pa_cons (pe_callTy call_tupL (by rfl) b.tuple bTuple (pa_cons (pv 3) pa_nil)) pa_nil))))))))), ?_⟩
  refine ⟨_, rfl, a, ns, 0, rfl, hS, _, _, _, rfl, by decide, by decide, _, _, rfl, rfl, ?_⟩
  refine ⟨_, rfl, a, ns, 0, rfl, hS, _, _, _, rfl, by decide, by decide, ?_⟩
  refine ⟨szB rfl, fun D H1 g1 e1 n1 => ?_⟩
  dsimp only
  rw [nV_int]
  refine ⟨_, rfl, _, rfl, by omega, by omega, ?_⟩
  rw [Int.toNat_natCast]
  refine for_range (fun i σ H' => ∃ x4 x5 ps, σ = stN a (nV ns) (shareV ns) D x4 x5 ∧ Same H H' ∧ H' D = some (.lst ps) ∧ ps.length ≤ 8 * i ∧ EdgesAt K H' ps ((List.range i).flatMap (Net.rowE (nV ns) (drawnV ns)))) ⟨Option.none, Option.none, [], rfl, g1, e1, Nat.le_refl _, .nil⟩ (fun i σ H' hi hP => ?_) (fun σ H' hP => ?_)
  · obtain ⟨x4, x5, ps, rfl, gi, eD, lp, ea⟩ := hP
    refine ⟨_, rfl, _, _, rfl, rfl, _, rfl, _, _, rfl, ⟨by omega, by omega, by omega, by omega⟩, ?_⟩
    have eN : ((nV ns : Int) - (0 + (i : Int) + 1)).toNat = nV ns - (i + 1) := by omega
    rw [eN]
    refine for_range (fun k σ H'' => ∃ x5 ps, σ = stN a (nV ns) (shareV ns) D (some (.int (0 + (i : Int)))) x5 ∧ Same H H'' ∧ H'' D = some (.lst ps) ∧ ps.length ≤ 8 * i + k ∧ EdgesAt K H'' ps ((List.range i).flatMap (Net.rowE (nV ns) (drawnV ns)) ++ ((List.range k).filter fun k => drawnV ns i (i + 1 + k)).map fun k => (i, i + 1 + k)))
      ⟨x5, ps, rfl, gi, eD, lp, by rw [show ((List.range 0).filter fun k => drawnV ns i (i + 1 + k)).map (fun k => (i, i + 1 + k)) = [] from rfl, List.append_nil]; exact ea⟩ (fun k σ H'' hk hP => ?_) (fun σ H'' hP => ?_)
    · obtain ⟨x5, ps, rfl, gj, eD, lp, ea⟩ := hP
      refine ⟨_, rfl, a, ns, 1, rfl, gj.seq hS, _, rfl, _, _, rfl, rfl, .inl ⟨by decide, by decide⟩, _, _, rfl, rfl, _, rfl, _, _, rfl, rfl, .inl ⟨by decide, by decide⟩, _, _, rfl, rfl, _, _, _, rfl, by decide, by decide, _, rfl, _, _, rfl, rfl, _, rfl, ?_⟩
      have i0 : (0 : Int) + (i : Int) = (i : Int) := by omega
      have ik : (0 : Int) + (i : Int) + 1 + (k : Int) = ((i + 1 + k : Nat) : Int) := by omega
      have ed : decide (mixV (cellV ns 1 + 131 * (0 + (i : Int)) + 17 * (0 + (i : Int) + 1 + (k : Int))) 9949 9 < mixV (cellV ns 0) 9967 8) = drawnV ns i (i + 1 + k) := by
        rw [ik, i0]; rfl
      refine ite2 (fun c => ?_) (fun c => ?_)
      · have c' : drawnV ns i (i + 1 + k) = true := by rw [← ed]; exact c
        refine ⟨_, rfl, .inl ⟨rfl, _, SqL.of eD⟩, _, rfl, _, rfl, szB rfl, fun p H3 g3 e3 => ?_⟩
        refine ⟨D, ps, .ref p, rfl, rfl, g3 _ _ eD, small1000 (by omega), ?_⟩
        refine ⟨_, ps ++ [.ref p], rfl, (gj.trans g3).updNew n1, upd_same, by rw [List.length_append]; show ps.length + 1 ≤ _; omega, ?_⟩
        rw [range_snoc, if_pos c', ← List.append_assoc]
        rw [ik, i0] at e3
        exact ((ea.same g3).snoc (e := (i, i + 1 + k)) e3).keep (g3 _ _ eD)
      · have c' : ¬ drawnV ns i (i + 1 + k) = true := by rw [← ed]; exact c
        refine ⟨_, ps, rfl, gj, eD, by omega, ?_⟩
        rw [range_snoc, if_neg c']
        exact ea
    · obtain ⟨x5, ps, rfl, gj, eD, lp, ea⟩ := hP
      refine ⟨_, _, ps, rfl, gj, eD, by omega, ?_⟩
      rw [Net.netE_succ]
      exact ea
  · obtain ⟨x4, x5, ps, rfl, gi, eD, lp, ea⟩ := hP
    exact ⟨_, rfl, _, rfl, D, ps, rfl, SqL.of eD, fun r H2 g2 e2 => ⟨szB rfl, fun r3 H3 g3 e3 => q r3 H3 (gi.trans (g2.trans g3)) ⟨r, ps, e3, g3.tup e2, ea.same (g2.trans g3)⟩⟩⟩
end
end Odd

/-! ## NEIGHBOURS -/
namespace Odd
open PySem L2
structure GoodN (n : Nat) (E : List (Nat × Nat)) : Prop where
  v : Net.Valid n E
  lx : E.Pairwise Net.Lex
  n1 : 1 ≤ n
  n8 : n ≤ 8
  len : E.length ≤ 64
theorem goodV (ns : List Int) : GoodN (nV ns) (edgesV ns) := ⟨Net.netE_valid _ _, Net.netE_rise _ _, (nV_range ns).1, (nV_range ns).2, by
  have a := Net.netE_len (nV ns) (drawnV ns)
  have h := (nV_range ns).2
  exact Nat.le_trans a (Nat.mul_le_mul h h)⟩
theorem EdgesAt.at {K : PySem.W.Frag} {H : Hp} {ps : List V} {es : List (Nat × Nat)} {i : Nat} (h : EdgesAt K H ps es) (hi : i < es.length) : ∃ p, ps.getD i V.non = .ref p ∧ SqT K H p [.int ((es.getD i (0, 0)).1 : Int), .int ((es.getD i (0, 0)).2 : Int)] := by
  obtain ⟨p, h1, h2⟩ := h.2 i (es.getD i (0, 0)) (by rw [List.getD_eq_getElem?_getD, List.getElem?_eq_getElem hi]; rfl)
  exact ⟨p, by rw [List.getD_eq_getElem?_getD, h1]; rfl, h2⟩
theorem dec_nat {a h : Nat} : decide (V.int (a : Int) = V.int (h : Int)) = (a == h) := by
  rw [dec_int]
  rw [Bool.eq_iff_iff, beq_iff_eq, beq_iff_eq]
  omega
def spNb (K : PySem.W.Frag) : Sp := fun vs H Q _ => ∃ (r : Addr) (n : Nat) (E : List (Nat × Nat)) (h : Nat), vs = [.ref r, .int (h : Int)] ∧ NetAt K H r n E ∧ GoodN n E ∧ mkT K H (vN (Net.nb n E h)) Q
section
variable {P : Program} {w : World} {K : PySem.W.Frag} {mg : Str → Option Value} {base : Heap} {f : Addr} {fd : FuncData}
theorem sc_neighbours : FnScope ["net", "hand", "edges", "lesser", "greater"] ["net", "hand"] (defScope sNeighbours) := ⟨rfl, rfl, rfl, by decide +kernel, rfl, by decide +kernel, by decide +kernel⟩
theorem ok_nb (b : Bl mg) (F : Fun K "neighbours" "neighbours" sNeighbours f fd) (hm : mg "neighbours" = some (.ref f)) : Fn P w K mg base "neighbours" 1 ["net", "hand"] (spNb K) := by
  refine ⟨f, fd, F.ok sc_neighbours (fun vs H Q E h => ?_) (fun cdv A outer s H vs Q E hr h => ?_), F.binds (ps := ["net", "hand"]) fun _ _ _ _ _ _ us hl => match us, hl with | [_, _], _ => rfl, F.kp, hm⟩
  · obtain ⟨r, n, E, h', rfl, _⟩ := h
    rfl
  obtain ⟨r, n, E, h, rfl, ⟨eT, ps, h1, h2, h3⟩, G, q⟩ := h
  have hlp := h3.1
  have hlE := G.len
  refine ⟨_, (pss_cons (ps_set (i := 2) sc_neighbours.nd rfl (Or.inl rfl) (pe_ix ix_tup (pv 0) pe_int (fun _ _ => rfl)))
    (pss_cons (ps_setC (i := 3) (tn := ["edge"]) (fr := ["hand"]) (idx := [1]) sc_neighbours.nd rfl (Or.inl rfl) rfl (by exact ⟨rfl, ⟨rfl, trivial⟩, rfl, by decide +kernel, rfl, by decide +kernel, ⟨⟨rfl, .inl rfl, .inl rfl⟩, trivial⟩⟩) (pi_tup (pv 2)) (fun _ _ _ _ _ => (pg_name (i := 0) (show (["edge", "hand"] : List Str).Nodup by decide +kernel) rfl (Or.inl rfl))) (fun _ _ _ _ _ => (pts_one (pt_cmpR op_eq (pe_ix (ix_tupK K (by rfl)) (pv 0) pe_int (fun _ _ => rfl)) (pv 1) (nomark _)))) (fun _ _ _ _ _ => (pe_ix (ix_tupK K (by rfl)) (pv 0) pe_int (fun _ _ => rfl))))
    (pss_cons (ps_setC (i := 4) (tn := ["edge"]) (fr := ["hand"]) (idx := [1]) sc_neighbours.nd rfl (Or.inl rfl) rfl (by exact ⟨rfl, ⟨rfl, trivial⟩, rfl, by decide +kernel, rfl, by decide +kernel, ⟨⟨rfl, .inl rfl, .inl rfl⟩, trivial⟩⟩) (pi_tup (pv 2)) (fun _ _ _ _ _ => (pg_name (i := 0) (show (["edge", "hand"] : List Str).Nodup by decide +kernel) rfl (Or.inl rfl))) (fun _ _ _ _ _ => (pts_one (pt_cmpR op_eq (pe_ix (ix_tupK K (by rfl)) (pv 0) pe_int (fun _ _ => rfl)) (pv 1) (nomark _)))) (fun _ _ _ _ _ => (pe_ix (ix_tupK K (by rfl)) (pv 0) pe_int (fun _ _ => rfl))))
    (pss_one (ps_ret (pe_callTy call_tupL (by rfl) b.tuple bTuple (pa_cons (pe_op op_catL (pv 3) (pv 4)) pa_nil))))))), ?_⟩
  refine ⟨_, rfl, r, _, 1, _, rfl, rfl, h1, rfl, ?_⟩
  refine ⟨_, rfl, eT, rfl, ⟨_, h2⟩, ?_⟩
  refine comp_of (f := fun i => (E.getD i (0, 0)).2 == h) (y := fun i => .int ((E.getD i (0, 0)).1 : Int)) (fixed_tup h2) (lineGe (by omega)) (fun i H2 hi g C hC => ?_) (fun i H2 hi _ g C hC => ?_) (fun D1 H1 g1 e1 => ?_)
  · obtain ⟨p, e1, e2⟩ := h3.at (i := i) (by omega)
    refine ⟨_, rfl, p, _, 1, _, e1, rfl, g.tup e2, rfl, _, rfl, rfl, _, rfl, ?_⟩
    rw [dec_nat]
    exact hC H2 (Same.refl _)
  · obtain ⟨p, e1, e2⟩ := h3.at (i := i) (by omega)
    exact ⟨_, rfl, p, _, 0, _, e1, rfl, g.tup e2, rfl, hC H2 (Same.refl _)⟩
  refine ⟨_, rfl, eT, rfl, ⟨_, g1.tup h2⟩, ?_⟩
  refine comp_of (f := fun i => (E.getD i (0, 0)).1 == h) (y := fun i => .int ((E.getD i (0, 0)).2 : Int)) (fixed_tup (g1.tup h2)) (lineGe (by omega)) (fun i H2 hi g C hC => ?_) (fun i H2 hi _ g C hC => ?_) (fun D2 H2 g2 e2 => ?_)
  · obtain ⟨p, e1, e2⟩ := h3.at (i := i) (by omega)
    refine ⟨_, rfl, p, _, 0, _, e1, rfl, g.tup (g1.tup e2), rfl, _, rfl, rfl, _, rfl, ?_⟩
    rw [dec_nat]
    exact hC H2 (Same.refl _)
  · obtain ⟨p, e1, e2⟩ := h3.at (i := i) (by omega)
    exact ⟨_, rfl, p, _, 1, _, e1, rfl, g.tup (g1.tup e2), rfl, hC H2 (Same.refl _)⟩
  rw [hlp, Net.filt_at E (0, 0) (fun e => e.2 == h) (fun e => V.int (e.1 : Int))] at e1
  rw [hlp, Net.filt_at E (0, 0) (fun e => e.1 == h) (fun e => V.int (e.2 : Int))] at e2
  have l1 := List.length_filter_le (fun e : Nat × Nat => e.2 == h) E
  have l2 := List.length_filter_le (fun e : Nat × Nat => e.1 == h) E
  refine ⟨_, rfl, _, rfl, D1, D2, _, _, rfl, rfl, g2 _ _ e1, e2, by rw [List.length_map, List.length_map]; omega, fun D3 H3 g3 e3 n3 => ?_⟩
  have e : (E.filter fun e => e.2 == h).map (fun e => V.int (e.1 : Int)) ++ (E.filter fun e => e.1 == h).map (fun e => V.int (e.2 : Int)) = vN (Net.nb n E h) := by
    rw [← Net.nearP_is G.v G.lx]
    unfold vN Net.nearP
    rw [List.map_append, List.map_map, List.map_map]
    rfl
  rw [e] at e3
  exact ⟨D3, _, rfl, SqL.of e3, q.same (g1.trans (g2.trans g3))⟩
end
end Odd

/-! ## numbers by their places -/
namespace Odd
open PySem L2
theorem vN_at {ns : List Nat} {i : Nat} (hi : i < ns.length) : (vN ns).getD i V.non = V.int ((ns.getD i 0 : Nat) : Int) := by
  unfold vN
  rw [List.getD_eq_getElem?_getD, List.getD_eq_getElem?_getD, List.getElem?_map, List.getElem?_eq_getElem hi]
  rfl
theorem getD_mem {ns : List Nat} {i : Nat} (hi : i < ns.length) : ns.getD i 0 ∈ ns := by
  rw [List.getD_eq_getElem?_getD, List.getElem?_eq_getElem hi]
  exact List.getElem_mem hi
theorem atI_nat0 {ns : List Int} {j : Nat} (h : j < ns.length) : atI (vI ns) (j : Int) = some (.int (Net.at0 ns j)) := by
  have := atI_int (ns := ns) (i := (j : Int)) (by omega) (by omega)
  rw [show ((j : Int)).toNat = j by omega] at this
  exact this
end Odd

namespace Odd
open PySem L2
/-- a net and numbers of its hands -/
def NumAt (K : PySem.W.Frag) (H : Hp) (r a : Addr) (n : Nat) (E : List (Nat × Nat)) (f : List Int) : Prop := NetAt K H r n E ∧ GoodN n E ∧ SqT K H a (vI f) ∧ f.length = n
theorem NumAt.same {K : PySem.W.Frag} {H H' : Hp} {r a : Addr} {n : Nat} {E : List (Nat × Nat)} {f : List Int} (g : Same H H') (h : NumAt K H r a n E f) : NumAt K H' r a n E f := ⟨h.1.same g, h.2.1, g.tup h.2.2.1, h.2.2.2⟩
/-- a list of these comes -/
def mkS (K : PySem.W.Frag) (H : Hp) (zs : List V) (Q : VK) : Prop := ∀ r H', Same H H' → SqL K H' r zs → Q (.ref r) H'
theorem mkS.same {K : PySem.W.Frag} {H H1 : Hp} {zs : List V} {Q : VK} (h : mkS K H zs Q) (g : Same H H1) : mkS K H1 zs Q := fun r H' g' e => h r H' (g.trans g') e
end Odd

/-! ## THE RIGHT NUMBER, and a hand that is made right -/
namespace Odd
open PySem L2
def spRight (K : PySem.W.Frag) : Sp := fun vs H Q _ => ∃ (r a : Addr) (n : Nat) (E : List (Nat × Nat)) (f : List Int) (h : Nat), vs = [.ref r, .ref a, .int (h : Int)] ∧ NetAt K H r n E ∧ GoodN n E ∧ SqT K H a (vI f) ∧ f.length = n ∧ h < n ∧ ∀ H', Same H H' → Q (.int (Net.due n E f h)) H'
section
variable {P : Program} {w : World} {K : PySem.W.Frag} {mg : Str → Option Value} {base : Heap} {f : Addr} {fd : FuncData}
theorem sc_right_number : FnScope ["net", "numbers", "hand", "many"] ["net", "numbers", "hand"] (defScope sRightNumber) := ⟨rfl, rfl, rfl, by decide +kernel, rfl, by decide +kernel, by decide +kernel⟩
theorem ok_right (b : Bl mg) (b_min : mg "min" = none) (F : Fun K "right_number" "right_number" sRightNumber f fd) (hm : mg "right_number" = some (.ref f)) (G_neighbours : Fn P w K mg base "neighbours" 1 ["net", "hand"] (spNb K)) : Fn P w K mg base "right_number" 2 ["net", "numbers", "hand"] (spRight K) := by
  refine ⟨f, fd, F.ok sc_right_number (fun vs H Q E h => ?_) (fun cdv A outer s H vs Q E hr h => ?_), F.binds (ps := ["net", "numbers", "hand"]) fun _ _ _ _ _ _ us hl => match us, hl with | [_, _, _], _ => rfl, F.kp, hm⟩
  · obtain ⟨r, a, n, E, f, h', rfl, _⟩ := h
    rfl
  obtain ⟨r, a, n, E, f, h, rfl, N, G, hS, hf, hh, q⟩ := h
  have hn8 := G.n8
  refine ⟨_, (pss_cons (ps_if (pt_cmpR op_eq (pv 2) pe_int (nomark _)) (pss_one (ps_ret pe_int)) pss_nil)
    (pss_cons (ps_set (i := 3) sc_right_number.nd rfl (Or.inl rfl) (pe_ix ix_tup (pv 0) pe_int (fun _ _ => rfl)))
    (pss_one (ps_ret (pe_callB (call_minL K (by rfl) (by rfl)) (by rfl) b_min bMin (pa_cons (pe_op op_catL (pe_lstM (pa_cons (pv 3) pa_nil)) (pe_comp (tn := ["other"]) (fr := ["numbers"]) (idx := [1]) rfl (by exact ⟨rfl, ⟨rfl, trivial⟩, rfl, by decide +kernel, rfl, by decide +kernel, ⟨⟨rfl, .inl rfl, .inl rfl⟩, trivial⟩⟩) (pi_tup (pe_fn G_neighbours hr (pa_cons (pv 0) (pa_cons (pv 2) pa_nil)))) (fun _ _ _ _ _ => (pg_name (i := 0) (show (["other", "numbers"] : List Str).Nodup by decide +kernel) rfl (Or.inl rfl))) (fun _ _ _ _ _ => pts_nil) (fun _ _ _ _ _ => (pe_op op_add (pe_ix (ix_tupK K (by rfl)) (pv 1) (pv 0) (fun _ _ => rfl)) pe_int)))) pa_nil)))))), ?_⟩
  refine ⟨_, rfl, rfl, _, rfl, ?_⟩
  refine ite2 (fun c => ?_) (fun c => ?_)
  · have c' : h = 0 := by have := of_decide_eq_true c; injection this with this; omega
    subst c'
    exact q H (Same.refl _)
  have c' : ¬ h = 0 := fun z => c (decide_eq_true (congrArg V.int (by omega)))
  obtain ⟨eT, ps, h1, h2, h3⟩ := id N
  refine ⟨_, rfl, r, _, 0, _, rfl, rfl, h1, rfl, ?_⟩
  refine ⟨_, rfl, szB rfl, fun l H1 g1 e1 n1 => ?_⟩
  refine ⟨_, rfl, _, rfl, r, n, E, h, rfl, N.same g1, G, fun r1 H2 g2 e2 => ⟨r1, rfl, ⟨_, e2⟩, ?_⟩⟩
  have hln := Net.nb_len n E h
  refine comp_of (f := fun _ => true) (y := fun i => .int (Net.at0 f ((Net.nb n E h).getD i 0) + 1)) (fixed_tup e2) (lineGe (by rw [vN_len]; omega)) (fun i H2 hi g C hC => hC H2 (Same.refl _)) (fun i H3 hi _ g C hC => ?_) (fun D H3 g3 e3 => ?_)
  · rw [vN_len] at hi
    have hj := Net.nb_lt (getD_mem hi)
    refine ⟨_, rfl, _, rfl, a, _, _, _, rfl, vN_at hi, g.tup (g2.tup (g1.tup hS)), atI_nat0 (by omega), _, _, rfl, rfl, hC H3 (Same.refl _)⟩
  rw [map_all, vN_len, Net.map_at (Net.nb n E h) 0 (fun j => V.int (Net.at0 f j + 1))] at e3
  refine ⟨l, D, _, _, rfl, rfl, g3 _ _ (g2 _ _ e1), e3, by rw [List.length_map]; show 1 + _ ≤ 1000; omega, fun L H4 g4 e4 n4 => ?_⟩
  have e : [V.int (n : Int)] ++ (Net.nb n E h).map (fun j => V.int (Net.at0 f j + 1)) = vI ((n : Int) :: (Net.nb n E h).map fun j => Net.at0 f j + 1) := by
    unfold vI
    rw [List.map_cons, List.map_map]
    rfl
  rw [e] at e4
  refine ⟨L, _, rfl, SqL.of e4, by rw [List.length_cons]; omega, fun M hM hle => ?_⟩
  have eM : Net.due n E f h = M := by
    refine Net.due_at c' (hle _ List.mem_cons_self) (fun j hj => ?_) ?_
    · have := hle _ (List.mem_cons_of_mem _ (List.mem_map.mpr ⟨j, hj, rfl⟩))
      omega
    · rcases List.mem_cons.mp hM with z | z
      · exact .inl z
      · obtain ⟨j, hj, z⟩ := List.mem_map.mp z
        exact .inr ⟨j, hj, by omega⟩
  rw [← eM]
  exact q _ (g1.trans (g2.trans (g3.trans g4)))
end
end Odd

/-! ## a hand that is made right -/
namespace Odd
open PySem L2
def spMend (K : PySem.W.Frag) : Sp := fun vs H Q _ => ∃ (r a : Addr) (n : Nat) (E : List (Nat × Nat)) (f : List Int) (h : Nat), vs = [.ref r, .ref a, .int (h : Int)] ∧ NetAt K H r n E ∧ GoodN n E ∧ SqT K H a (vI f) ∧ f.length = n ∧ h < n ∧ mkT K H (vI (Net.mend n E f h)) Q
section
variable {P : Program} {w : World} {K : PySem.W.Frag} {mg : Str → Option Value} {base : Heap} {f : Addr} {fd : FuncData}
theorem sc_mended_far : FnScope ["net", "numbers", "hand"] ["net", "numbers", "hand"] (defScope sMendedFar) := ⟨rfl, rfl, rfl, by decide +kernel, rfl, by decide +kernel, by decide +kernel⟩
theorem ok_mend (F : Fun K "mended_far" "mended_far" sMendedFar f fd) (hm : mg "mended_far" = some (.ref f)) (G_with_number : Fn P w K mg base "with_number" 1 ["numbers", "hand", "number"] (spWith K)) (G_right_number : Fn P w K mg base "right_number" 2 ["net", "numbers", "hand"] (spRight K)) : Fn P w K mg base "mended_far" 3 ["net", "numbers", "hand"] (spMend K) := by
  refine ⟨f, fd, F.ok sc_mended_far (fun vs H Q E h => ?_) (fun cdv A outer s H vs Q E hr h => ?_), F.binds (ps := ["net", "numbers", "hand"]) fun _ _ _ _ _ _ us hl => match us, hl with | [_, _, _], _ => rfl, F.kp, hm⟩
  · obtain ⟨r, a, n, E, f, h', rfl, _⟩ := h
    rfl
  obtain ⟨r, a, n, E, f, h, rfl, N, G, hS, hf, hh, q⟩ := h
  have hn8 := G.n8
  refine ⟨_, (pss_one (ps_ret (pe_fn G_with_number hr (pa_cons (pv 1) (pa_cons (pv 2) (pa_cons (pe_fn G_right_number hr (pa_cons (pv 0) (pa_cons (pv 1) (pa_cons (pv 2) pa_nil)))) pa_nil)))))), ?_⟩
  refine ⟨_, rfl, _, rfl, _, rfl, _, rfl, _, rfl, r, a, n, E, f, h, rfl, N, G, hS, hf, hh, fun H1 g1 => ?_⟩
  exact ⟨a, f, h, _, rfl, g1.tup hS, by omega, q.same g1⟩
end
end Odd

/-! ## the wrong ones -/
namespace Odd
open PySem L2
def spWrong (K : PySem.W.Frag) : Sp := fun vs H Q _ => ∃ (r a : Addr) (n : Nat) (E : List (Nat × Nat)) (f : List Int), vs = [.ref r, .ref a] ∧ NumAt K H r a n E f ∧ mkT K H (vN (Net.wrong n E f)) Q
section
variable {P : Program} {w : World} {K : PySem.W.Frag} {mg : Str → Option Value} {base : Heap} {f : Addr} {fd : FuncData}
theorem sc_wrong_far : FnScope ["net", "numbers"] ["net", "numbers"] (defScope sWrongFar) := ⟨rfl, rfl, rfl, by decide +kernel, rfl, by decide +kernel, by decide +kernel⟩
theorem ok_wrong (b : Bl mg) (F : Fun K "wrong_far" "wrong_far" sWrongFar f fd) (hm : mg "wrong_far" = some (.ref f)) (G_right_number : Fn P w K mg base "right_number" 2 ["net", "numbers", "hand"] (spRight K)) : Fn P w K mg base "wrong_far" 3 ["net", "numbers"] (spWrong K) := by
  refine ⟨f, fd, F.ok sc_wrong_far (fun vs H Q E h => ?_) (fun cdv A outer s H vs Q E hr h => ?_), F.binds (ps := ["net", "numbers"]) fun _ _ _ _ _ _ us hl => match us, hl with | [_, _], _ => rfl, F.kp, hm⟩
  · obtain ⟨r, a, n, E, c, rfl, _⟩ := h
    rfl
  obtain ⟨r, a, n, E, c, rfl, N, q⟩ := h
  obtain ⟨⟨eT, ps, h1, _, _⟩, G, hS, hf⟩ := id N
  have hn8 := G.n8
  have hl : ((n : Nat) : Int).toNat = n := Int.toNat_natCast n
  refine ⟨_, (pss_one (ps_ret (pe_callTy call_tupL (by rfl) b.tuple bTuple (pa_cons (pe_comp (tn := ["hand"]) (fr := ["numbers", "net"]) (idx := [1, 0]) rfl (by exact ⟨rfl, ⟨rfl, rfl, trivial⟩, rfl, by decide +kernel, rfl, by decide +kernel, ⟨⟨rfl, .inl rfl, .inl rfl⟩, ⟨rfl, .inl rfl, .inl rfl⟩, trivial⟩⟩) (pi_range1 rfl b.range (pa_cons (pe_ix ix_tup (pv 0) pe_int (fun _ _ => rfl)) pa_nil)) (fun _ _ _ _ _ => (pg_name (i := 0) (show (["hand", "numbers", "net"] : List Str).Nodup by decide +kernel) rfl (Or.inl rfl))) (fun _ _ _ _ _ => (pts_one (pt_cmpR op_ne (pe_ix (ix_tupK K (by rfl)) (pv 1) (pv 0) (fun _ _ => rfl)) (pe_fn G_right_number hr (pa_cons (pv 2) (pa_cons (pv 1) (pa_cons (pv 0) pa_nil)))) (nomark _)))) (fun _ _ _ _ _ => (pv 0))) pa_nil)))), ?_⟩
  refine ⟨_, rfl, r, _, 0, _, rfl, rfl, h1, rfl, _, rfl, by omega, by omega, ?_⟩
  refine comp_of (n := ((n : Nat) : Int).toNat) (f := fun i => Net.at0 c i != Net.due n E c i) (y := fun i => .int (0 + (i : Int))) fixed_range (lineGe (by omega)) (fun i H2 hi g C hC => ?_) (fun i H2 hi _ g C hC => ?_) (fun D H' g e => ?_)
  · rw [hl] at hi
    have N2 := N.same g
    refine ⟨_, rfl, _, rfl, a, _, (i : Int), _, rfl, congrArg V.int (Int.zero_add _), N2.2.2.1, atI_nat0 (by omega), _, rfl, _, rfl, _, rfl, r, a, n, E, c, i, by rw [Int.zero_add] <;> rfl, N2.1, G, N2.2.2.1, hf, hi, fun H3 g3 => ⟨rfl, _, rfl, ?_⟩⟩
    rw [dec_int]
    exact hC H3 g3
  · exact ⟨_, rfl, hC H2 (Same.refl _)⟩
  · have e2 : ((List.range ((n : Nat) : Int).toNat).filter fun i => Net.at0 c i != Net.due n E c i).map (fun i : Nat => V.int (0 + (i : Int))) = vN (Net.wrong n E c) := by
      rw [hl]
      unfold vN Net.wrong
      exact List.map_congr_left fun i _ => by rw [Int.zero_add]
    rw [e2] at e
    exact ⟨D, _, rfl, SqL.of e, q.same g⟩
end
end Odd

/-! ## a round -/
namespace Odd
open PySem L2
def spRound (K : PySem.W.Frag) : Sp := fun vs H Q _ => ∃ (r a o : Addr) (n : Nat) (E : List (Nat × Nat)) (f : List Int) (order : List Nat), vs = [.ref r, .ref a, .ref o] ∧ NumAt K H r a n E f ∧ SqT K H o (vN order) ∧ (∀ h ∈ order, h < n) ∧ mkT K H (vI (Net.round n E f order)) Q
theorem round_take {n : Nat} {E : List (Nat × Nat)} {f : List Int} {order : List Nat} {i h : Nat} (e : order[i]? = some h) : Net.round n E f (order.take (i + 1)) = Net.mend n E (Net.round n E f (order.take i)) h := by
  have hi := (List.getElem?_eq_some_iff.mp e).1
  have e' := (List.getElem?_eq_some_iff.mp e).2
  rw [List.take_succ_eq_append_getElem hi, e']
  unfold Net.round
  rw [List.foldl_append]
  rfl
section
variable {P : Program} {w : World} {K : PySem.W.Frag} {mg : Str → Option Value} {base : Heap} {f : Addr} {fd : FuncData}
theorem sc_round_far : FnScope ["net", "numbers", "order", "mended", "hand"] ["net", "numbers", "order"] (defScope sRoundFar) := ⟨rfl, rfl, rfl, by decide +kernel, rfl, by decide +kernel, by decide +kernel⟩
theorem ok_round (F : Fun K "round_far" "round_far" sRoundFar f fd) (hm : mg "round_far" = some (.ref f)) (G_mended_far : Fn P w K mg base "mended_far" 3 ["net", "numbers", "hand"] (spMend K)) : Fn P w K mg base "round_far" 4 ["net", "numbers", "order"] (spRound K) := by
  refine ⟨f, fd, F.ok sc_round_far (fun vs H Q E h => ?_) (fun cdv A outer s H vs Q E hr h => ?_), F.binds (ps := ["net", "numbers", "order"]) fun _ _ _ _ _ _ us hl => match us, hl with | [_, _, _], _ => rfl, F.kp, hm⟩
  · obtain ⟨r, a, o, n, E, c, order, rfl, _⟩ := h
    rfl
  obtain ⟨r, a, o, n, E, c, order, rfl, N, hO, hlt, q⟩ := h
  obtain ⟨N0, G, hS, hf⟩ := id N
  refine ⟨_, (pss_cons (ps_set (i := 3) sc_round_far.nd rfl (Or.inl rfl) (pv 1))
    (pss_cons (ps_for PassesOwn.never rfl (pi_tup (pv 2)) (pg_name (i := 4) sc_round_far.nd rfl (Or.inl rfl)) (pss_one (ps_set (i := 3) sc_round_far.nd rfl (Or.inl rfl) (pe_fn G_mended_far hr (pa_cons (pv 0) (pa_cons (pv 3) (pa_cons (pv 4) pa_nil)))))))
    (pss_one (ps_ret (pv 3))))), ?_⟩
  refine ⟨_, rfl, ?_⟩
  refine ⟨_, rfl, o, rfl, ⟨_, hO⟩, ?_⟩
  refine for_tup (xs := vN order) (fun i σ H' => ∃ rm x4, σ = [some (.ref r), some (.ref a), some (.ref o), some (.ref rm), x4] ∧ Same H H' ∧ SqT K H' rm (vI (Net.round n E c (order.take i)))) ⟨a, Option.none, rfl, Same.refl _, hS⟩ (fun i σ H' _ hP => ?_) (fun i x σ H' hx hP => ?_) (fun σ H' hP => ?_)
  · obtain ⟨_, _, _, g, _⟩ := hP
    exact g.tup hO
  · obtain ⟨rm, x4, rfl, g, e⟩ := hP
    unfold vN at hx
    rw [List.getElem?_map] at hx
    obtain ⟨h, eh, rfl⟩ : ∃ h, order[i]? = some h ∧ V.int (h : Int) = x := by
      cases z : order[i]? with
      | none => rw [z] at hx; cases hx
      | some h => rw [z] at hx; exact ⟨h, rfl, by injection hx⟩
    have hh := hlt h (List.mem_of_getElem? eh)
    refine ⟨_, rfl, _, rfl, _, rfl, r, rm, n, E, _, h, rfl, N0.same g, G, e, (Net.round_len ..).trans hf, hh, fun r2 H2 g2 e2 => ?_⟩
    rw [← round_take eh] at e2
    exact ⟨r2, _, rfl, g.trans g2, e2⟩
  · obtain ⟨rm, x4, rfl, g, e⟩ := hP
    rw [vN_len, List.take_length] at e
    exact ⟨_, rfl, q rm _ g e⟩
end
end Odd

/-! ## the distances as the laws find them -/
namespace Odd
open PySem L2
theorem ixN_nat {n h : Nat} (hh : h < n) : ixN n (h : Int) = some h := by
  unfold ixN
  rw [if_pos (by omega), if_pos (by omega)]
  simp
def spLFar (K : PySem.W.Frag) : Sp := fun vs H Q _ => ∃ (r : Addr) (n : Nat) (E : List (Nat × Nat)), vs = [.ref r] ∧ NetAt K H r n E ∧ GoodN n E ∧ mkT K H (vI (Net.dist n E)) Q
theorem min_if (i j : Int) : (if j < i then j else i) = min i j := by
  split <;> omega
theorem far0_list {n : Nat} (hn : 1 ≤ n) : [V.int 0] ++ (List.range (n - 1)).map (fun _ => V.int (n : Int)) = vI (Net.far0 n) := by
  unfold vI Net.far0
  rw [List.map_cons, List.map_replicate]
  show V.int 0 :: _ = _
  congr 1
  refine List.ext_getElem (by simp) fun i h1 h2 => by simp
theorem relax_take {E : List (Nat × Nat)} {g : List Int} {i : Nat} (hi : i < E.length) : (E.take (i + 1)).foldl Net.relax g = Net.relax ((E.take i).foldl Net.relax g) (E.getD i (0, 0)) := by
  rw [List.take_succ_eq_append_getElem hi, List.foldl_append, List.getD_eq_getElem?_getD, List.getElem?_eq_getElem hi]
  rfl
theorem fold_len : ∀ (E : List (Nat × Nat)) (g : List Int), (E.foldl Net.relax g).length = g.length
  | [], _ => rfl
  | e :: E, g => by
    show (E.foldl Net.relax (Net.relax g e)).length = _
    rw [fold_len E, Net.relax_len]
theorem turns_len {E : List (Nat × Nat)} {g : List Int} : ∀ t, (Net.farTurns E g t).length = g.length
  | 0 => rfl
  | t + 1 => by
    show (E.foldl Net.relax (Net.farTurns E g t)).length = _
    rw [fold_len, turns_len t]
theorem vI_set {ns : List Int} {h : Nat} {x : Int} : (vI ns).set h (V.int x) = vI (ns.set h x) := by unfold vI; rw [List.map_set]
section
variable {P : Program} {w : World} {K : PySem.W.Frag} {mg : Str → Option Value} {base : Heap} {f : Addr} {fd : FuncData}
theorem sc__law_far : FnScope ["_law_net_here", "_law_found", "_law_turn", "_law_a", "_law_b"] ["_law_net_here"] (defScope sLFar) := ⟨rfl, rfl, rfl, by decide +kernel, rfl, by decide +kernel, by decide +kernel⟩
theorem ok_lfar (b : Bl mg) (b_min : mg "min" = none) (F : Fun K "_law_far" "_law_far" sLFar f fd) (hm : mg "_law_far" = some (.ref f)) : Fn P w K mg base "_law_far" 1 ["_law_net_here"] (spLFar K) := by
  refine ⟨f, fd, F.ok sc__law_far (fun vs H Q E h => ?_) (fun cdv A outer s H vs Q E hr h => ?_), F.binds (ps := ["_law_net_here"]) fun _ _ _ _ _ _ us hl => match us, hl with | [_], _ => rfl, F.kp, hm⟩
  · obtain ⟨r, n, E, rfl, _⟩ := h
    rfl
  obtain ⟨r, n, E, rfl, N, G, q⟩ := h
  have hn1 := G.n1
  have hn8 := G.n8
  have hE := G.len
  obtain ⟨eT, ps, h1, h2, h3⟩ := id N
  have hlp := h3.1
  refine ⟨_, (pss_cons (ps_set (i := 1) sc__law_far.nd rfl (Or.inl rfl) (pe_op op_catL (pe_lstM (pa_cons pe_int pa_nil)) (pe_comp (tn := ["_law_k"]) (fr := ["_law_net_here"]) (idx := [0]) rfl (by exact ⟨rfl, ⟨rfl, trivial⟩, rfl, by decide +kernel, rfl, by decide +kernel, ⟨⟨rfl, .inl rfl, .inl rfl⟩, trivial⟩⟩) (pi_range1 rfl b.range (pa_cons (pe_op op_sub (pe_ix ix_tup (pv 0) pe_int (fun _ _ => rfl)) pe_int) pa_nil)) (fun _ _ _ _ _ => (pg_name (i := 0) (show (["_law_k", "_law_net_here"] : List Str).Nodup by decide +kernel) rfl (Or.inl rfl))) (fun _ _ _ _ _ => pts_nil) (fun _ _ _ _ _ => (pe_ix (ix_tupK K (by rfl)) (pv 1) pe_int (fun _ _ => rfl))))))
    (pss_cons (ps_for PassesOwn.never rfl (pi_range1 rfl b.range (pa_cons (pe_ix ix_tup (pv 0) pe_int (fun _ _ => rfl)) pa_nil)) (pg_name (i := 2) sc__law_far.nd rfl (Or.inl rfl)) (pss_one (ps_for PassesOwn.never rfl (pi_tup (pe_ix ix_tup (pv 0) pe_int (fun _ _ => rfl))) (pg_tup (n := 2) rfl (pgs_cons (pg_name (i := 3) sc__law_far.nd rfl (Or.inl rfl)) (pgs_cons (pg_name (i := 4) sc__law_far.nd rfl (Or.inl rfl)) pgs_nil))) (pss_cons (ps_asg (pe_callB (call_min2 rfl) (by rfl) b_min bMin (pa_cons (pe_ix ix_list (pv 1) (pv 3) (fun _ _ => rfl)) (pa_cons (pe_op op_add (pe_ix ix_list (pv 1) (pv 4) (fun _ _ => rfl)) pe_int) pa_nil))) (pg_sub (pv 1) (pv 3) set_list))
    (pss_one (ps_asg (pe_callB (call_min2 rfl) (by rfl) b_min bMin (pa_cons (pe_ix ix_list (pv 1) (pv 4) (fun _ _ => rfl)) (pa_cons (pe_op op_add (pe_ix ix_list (pv 1) (pv 3) (fun _ _ => rfl)) pe_int) pa_nil))) (pg_sub (pv 1) (pv 4) set_list)))))))
    (pss_one (ps_ret (pe_callTy call_tupL (by rfl) b.tuple bTuple (pa_cons (pv 1) pa_nil)))))), ?_⟩
  refine ⟨szB rfl, fun l1 H1 g1 e1 n1 => ?_⟩
  refine ⟨_, rfl, r, _, 0, _, rfl, rfl, g1.tup h1, rfl, _, _, rfl, rfl, _, rfl, by omega, by omega, ?_⟩
  rw [show ((n : Int) - 1).toNat = n - 1 by omega]
  refine comp_of (f := fun _ => true) (y := fun _ => .int (n : Int)) (n := n - 1) fixed_range (lineGe (by omega)) (fun i H2 hi g C hC => hC H2 (Same.refl _)) (fun i H2 hi _ g C hC => ?_) (fun D H2 g2 e2 => ?_)
  · exact ⟨_, rfl, r, _, 0, _, rfl, rfl, g.tup (g1.tup h1), rfl, hC H2 (Same.refl _)⟩
  rw [map_all] at e2
  refine ⟨l1, D, _, _, rfl, rfl, g2 _ _ e1, e2, by rw [List.length_map, List.length_range]; show 1 + _ ≤ 1000; omega, fun L H3 g3 e3 n3 => ?_⟩
  rw [far0_list hn1] at e3
  have g03 := g1.trans (g2.trans g3)
  have nL : H L = Option.none := by
    cases e : H L with
    | none => rfl
    | some o => rw [(g1.trans g2) _ _ e] at n3; cases n3
  have l0 : (Net.far0 n).length = n := by unfold Net.far0; rw [List.length_cons, List.length_replicate]; omega
  refine ⟨_, rfl, r, _, 0, _, rfl, rfl, g03.tup h1, rfl, _, rfl, by omega, by omega, ?_⟩
  rw [Int.toNat_natCast]
  refine for_range (fun t σ H' => ∃ x2 x3 x4, σ = [some (.ref r), some (.ref L), x2, x3, x4] ∧ Same H H' ∧ H' L = some (.lst (vI (Net.farTurns E (Net.far0 n) t)))) ⟨Option.none, Option.none, Option.none, rfl, g03, e3⟩ (fun t σ H' ht hP => ?_) (fun σ H' hP => ?_)
  rotate_left
  · obtain ⟨_, _, _, rfl, g, e⟩ := hP
    rw [Net.farTurns_dist G.v (by omega)] at e
    exact ⟨_, rfl, L, _, rfl, SqL.of e, q.same g⟩
  obtain ⟨x2, x3, x4, rfl, g4, e4⟩ := hP
  have lt := turns_len (E := E) (g := Net.far0 n) t
  generalize hg0 : Net.farTurns E (Net.far0 n) t = gg at e4 lt
  refine ⟨_, rfl, r, _, 1, _, rfl, rfl, g4.tup h1, rfl, eT, rfl, ⟨_, g4.tup h2⟩, ?_⟩
  refine for_tup (xs := ps) (fun i σ H' => ∃ x3 x4, σ = [some (.ref r), some (.ref L), some (.int (0 + (t : Int))), x3, x4] ∧ Same H H' ∧ H' L = some (.lst (vI ((E.take i).foldl Net.relax gg)))) ⟨x3, x4, rfl, g4, e4⟩ (fun i σ H' _ hP => ?_) (fun i x σ H' hx hP => ?_) (fun σ H' hP => ?_)
  · obtain ⟨_, _, _, g, _⟩ := hP
    exact g.tup h2
  rotate_left
  · obtain ⟨_, _, rfl, g, e⟩ := hP
    rw [hlp, List.take_length] at e
    refine ⟨_, _, _, rfl, g, ?_⟩
    rw [e, ← hg0]
    rfl
  obtain ⟨x3, x4, rfl, g5, e5⟩ := hP
  have hi : i < E.length := by rw [← hlp]; exact (List.getElem?_eq_some_iff.mp hx).1
  obtain ⟨p, p1, p2⟩ := h3.at hi
  have ex : x = .ref p := by
    rw [List.getD_eq_getElem?_getD, hx] at p1
    exact p1
  subst ex
  have mem : E.getD i (0, 0) ∈ E := by
    rw [List.getD_eq_getElem?_getD, List.getElem?_eq_getElem hi]
    exact List.getElem_mem hi
  have v := G.v _ mem
  have lg := fold_len (E.take i) gg
  have rt := relax_take (g := gg) hi
  generalize hg1 : (E.take i).foldl Net.relax gg = u at e5 lg rt
  generalize E.getD i (0, 0) = ed at p2 v rt
  obtain ⟨ea, eb⟩ := ed
  have va : ea < n := Nat.lt_trans v.1 v.2
  have vb : eb < n := v.2
  refine ⟨p, _, rfl, g5.tup p2, rfl, _, _, rfl, _, _, rfl, rfl, ?_⟩
  refine ⟨_, rfl, _, rfl, L, _, _, _, rfl, rfl, SqL.of e5, atI_nat0 (by omega), _, rfl, _, rfl, L, _, _, _, rfl, rfl, SqL.of e5, atI_nat0 (by omega), _, _, rfl, rfl, _, _, rfl, ?_⟩
  refine ⟨_, rfl, _, rfl, L, _, _, ea, rfl, rfl, e5, ixN_nat (by rw [vI_len]; omega), ?_⟩
  rw [min_if, vI_set]
  refine ⟨_, rfl, _, rfl, L, _, _, _, rfl, rfl, SqL.of upd_same, atI_nat0 (by rw [List.length_set]; omega), _, rfl, _, rfl, L, _, _, _, rfl, rfl, SqL.of upd_same, atI_nat0 (by rw [List.length_set]; omega), _, _, rfl, rfl, _, _, rfl, ?_⟩
  refine ⟨_, rfl, _, rfl, L, _, _, eb, rfl, rfl, upd_same, ixN_nat (by rw [vI_len, List.length_set]; omega), ?_⟩
  rw [min_if, vI_set]
  refine ⟨_, _, rfl, (g5.updNew nL).updNew nL, ?_⟩
  rw [upd_same, rt]
  rfl
end
end Odd

/-! ## numbers that are drawn, one for each hand -/
namespace Odd
open PySem L2
def numV (ns : List Int) (k : Nat) (p m : Int) (n : Nat) : List Int := (List.range n).map fun (i : Nat) => mixV (cellV ns k + 31 * (i : Int)) p m
theorem numV_len (ns : List Int) (k : Nat) (p m : Int) (n : Nat) : (numV ns k p m n).length = n := by unfold numV; rw [List.length_map, List.length_range]
theorem numV_at {ns : List Int} {k : Nat} {p m : Int} {n i : Nat} (hi : i < n) : Net.at0 (numV ns k p m n) i = mixV (cellV ns k + 31 * (i : Int)) p m := by
  unfold numV Net.at0
  rw [List.getD_eq_getElem?_getD, List.getElem?_map, List.getElem?_range hi]
  rfl
theorem numV_range {ns : List Int} {k : Nat} {p m : Int} {n i : Nat} (hm : 0 < m) (hi : i < n) : 0 ≤ Net.at0 (numV ns k p m n) i ∧ Net.at0 (numV ns k p m n) i < m := by
  rw [numV_at hi]
  exact mix_range hm
theorem numV_bits (ns : List Int) (k : Nat) (p : Int) (n : Nat) : Net.Bits n (numV ns k p 2 n) := fun i hi => by
  have := numV_range (ns := ns) (k := k) (p := p) (m := 2) (by decide) hi
  omega
theorem numV_list {ns : List Int} {k : Nat} {p m : Int} {n : Nat} : (List.range n).map (fun i : Nat => V.int (mixV (cellV ns k + 31 * (0 + (i : Int))) p m)) = vI (numV ns k p m n) := by
  unfold vI numV
  rw [List.map_map]
  exact List.map_congr_left fun i _ => by rw [Int.zero_add] <;> rfl
end Odd

/-! ## an order of all hands, by a cell -/
namespace Odd
open PySem L2
def spPerm (K : PySem.W.Frag) : Sp := fun vs H Q _ => ∃ (c : Int) (n : Nat), vs = [.int c, .int (n : Int)] ∧ n ≤ 100 ∧ ∀ p : List Nat, p.Perm (List.range n) → mkT K H (vN p) Q
section
variable {P : Program} {w : World} {K : PySem.W.Frag} {mg : Str → Option Value} {base : Heap} {f : Addr} {fd : FuncData}
theorem perm_out : ∀ {l : List Nat} {k : Nat} (hk : k < l.length), (l[k] :: l.eraseIdx k).Perm l
  | [], k, hk => absurd hk (Nat.not_lt_zero _)
  | a :: l, 0, _ => List.Perm.refl _
  | a :: l, k + 1, hk => by
    have ih := perm_out (l := l) (k := k) (Nat.lt_of_succ_lt_succ hk)
    show (l[k]'(Nat.lt_of_succ_lt_succ hk) :: a :: l.eraseIdx k).Perm (a :: l)
    exact (List.Perm.swap a _ _).trans (ih.cons a)
theorem vN_erase : ∀ (l : List Nat) (k : Nat), (vN l).eraseIdx k = vN (l.eraseIdx k)
  | [], _ => rfl
  | a :: l, 0 => rfl
  | a :: l, k + 1 => by
    show V.int (a : Int) :: (vN l).eraseIdx k = V.int (a : Int) :: vN (l.eraseIdx k)
    rw [vN_erase l k]
theorem perm_pop {l d : List Nat} {k : Nat} (hk : k < l.length) : ((d ++ [l[k]]) ++ l.eraseIdx k).Perm (d ++ l) := by
  rw [List.append_assoc]
  exact List.Perm.append_left d (perm_out hk)
theorem sc__law_perm : FnScope ["_law_cell_here", "_law_many", "_law_left"] ["_law_cell_here", "_law_many"] (defScope sLPerm) := ⟨rfl, rfl, rfl, by decide +kernel, rfl, by decide +kernel, by decide +kernel⟩
theorem ok_perm (b : Bl mg) (F : Fun K "_law_perm" "_law_perm" sLPerm f fd) (hm : mg "_law_perm" = some (.ref f)) (G__law_mix : Fn P w K mg base "_law_mix" 1 ["_law_cell_here", "_law_prime", "_law_many"] spMix) : Fn P w K mg base "_law_perm" 2 ["_law_cell_here", "_law_many"] (spPerm K) := by
  refine ⟨f, fd, F.ok sc__law_perm (fun vs H Q E h => ?_) (fun cdv A outer s H vs Q E hr h => ?_), F.binds (ps := ["_law_cell_here", "_law_many"]) fun _ _ _ _ _ _ us hl => match us, hl with | [_, _], _ => rfl, F.kp, hm⟩
  · obtain ⟨c, n, rfl, _⟩ := h
    rfl
  obtain ⟨c, n, rfl, h100, q⟩ := h
  refine ⟨_, (pss_cons (ps_set (i := 2) sc__law_perm.nd rfl (Or.inr rfl) (pe_callTy (call_listRng rfl) (by rfl) b.list bList (pa_cons (pe_callTy call_rng1 (by rfl) b.range bRange (pa_cons (pv 1) pa_nil)) pa_nil)))
    (pss_one (ps_ret (pe_callTy call_tupL (by rfl) b.tuple bTuple (pa_cons (pe_comp (tn := ["_law_k"]) (fr := ["_law_left", "_law_cell_here", "_law_many"]) (idx := [2, 0, 1]) rfl (by exact ⟨rfl, ⟨rfl, rfl, rfl, trivial⟩, rfl, by decide +kernel, rfl, by decide +kernel, ⟨⟨rfl, .inl rfl, .inl rfl⟩, ⟨rfl, .inl rfl, .inl rfl⟩, ⟨rfl, .inl rfl, .inl rfl⟩, trivial⟩⟩) (pi_range1 rfl b.range (pa_cons (pv 1) pa_nil)) (fun _ _ _ _ _ => (pg_name (i := 0) (show (["_law_k", "_law_left", "_law_cell_here", "_law_many"] : List Str).Nodup by decide +kernel) rfl (Or.inl rfl))) (fun _ _ _ _ _ => pts_nil) (fun _ _ _ _ _ => (pe_bmK K (by rfl) PySem.F.plainAttrs_list PySem.F.slot_list_pop PySem.F.type_list_pop mt_popAt (pv 1) (pa_cons (pe_fn G__law_mix hr (pa_cons (pe_op op_add (pv 2) (pe_op op_mul pe_int (pv 0))) (pa_cons pe_int (pa_cons (pe_op op_sub (pv 3) (pv 0)) pa_nil)))) pa_nil)))) pa_nil))))), ?_⟩
  refine ⟨_, rfl, _, rfl, fun p0 hp0 => ⟨p0, _, rfl, upd_same, by omega, by omega, fun l H1 g1 e1 n1 => ?_⟩⟩
  have g01 : Same H H1 := (Same.new hp0 _).trans g1
  rw [Int.toNat_natCast] at e1
  refine ⟨_, rfl, _, rfl, by omega, by omega, ?_⟩
  rw [Int.toNat_natCast]
  refine comp_inv (n := n) (fun i ys H' => Same H H' ∧ ∃ left done : List Nat, ys = vN done ∧ H' l = some (.lst (vN left)) ∧ (done ++ left).Perm (List.range n) ∧ left.length = n - i) (lineGe (by omega)) ⟨g01, List.range n, [], rfl, e1, List.Perm.refl _, by rw [List.length_range]; omega⟩ (fun i ys H2 D zs hD hP => ?_) (fun i ys H2 D hi hy hP hD eD C hC => ?_) (fun D ys H2 hy hP eD hD => ?_)
  · obtain ⟨g, left, done, rfl, el, pm, ll⟩ := hP
    have nD : H D = Option.none := by
      cases e : H D with
      | none => rfl
      | some o => rw [g01 _ _ e] at hD; cases hD
    refine ⟨g.updNew nD, left, done, rfl, ?_, pm, ll⟩
    rw [upd_ne (fun z => by rw [← z, e1] at hD; cases hD)]
    exact el
  · obtain ⟨g, left, done, rfl, el, pm, ll⟩ := hP
    have hX := mix_range (c := c + 5 * (0 + (i : Int))) (p := 9941) (m := (n : Int) - (0 + (i : Int))) (by omega)
    generalize hx : mixV (c + 5 * (0 + (i : Int))) 9941 ((n : Int) - (0 + (i : Int))) = x at hX
    have hk : x.toNat < left.length := by omega
    refine ⟨_, rfl, .inl ⟨rfl, _, SqL.of el⟩, _, rfl, _, rfl, _, _, rfl, rfl, .inl ⟨by decide, by decide⟩, _, _, rfl, rfl, _, rfl, _, rfl, _, _, rfl, rfl, _, _, _, rfl, by decide, by omega, ?_⟩
    refine ⟨l, _, x, x.toNat, .int ((left[x.toNat] : Nat) : Int), rfl, by rw [← hx], el, by omega, by omega, ?_, ?_, ?_⟩
    · rw [vN_len]
      unfold seqIndex?
      have e0 : x = ((x.toNat : Nat) : Int) := by omega
      rw [e0]
      simp
      omega
    · unfold vN
      rw [List.getElem?_map, List.getElem?_eq_getElem hk]
      rfl
    · have nl : H l = Option.none := by
        cases e : H l with
        | none => rfl
        | some o => rw [(Same.new hp0 _) _ _ e] at n1; cases n1
      refine hC _ _ ⟨g.updNew nl, left.eraseIdx x.toNat, done ++ [left[x.toNat]], ?_, ?_, (perm_pop hk).trans pm, by rw [List.length_eraseIdx_of_lt hk]; omega⟩ ?_
      · unfold vN; rw [List.map_append]; rfl
      · rw [upd_same, vN_erase]
      · rw [upd_ne (fun z => by rw [z, e1] at hD; cases hD)]
        exact eD
  · obtain ⟨g, left, done, rfl, el, pm, ll⟩ := hP
    have e0 : left = [] := List.eq_nil_of_length_eq_zero (by omega)
    rw [e0, List.append_nil] at pm
    exact ⟨D, _, rfl, SqL.of eD, (q done pm).same g⟩
end
end Odd

/-! ## a def that makes a lambda; the code table -/
namespace L2
open PySem PySem.Spec PyProof.Rows
/-- a def whose code record is known -/
theorem Fun.okC {P : Program} {w : World} {K : PySem.W.Frag} {mg : Str → Option Value} {base : Heap} {x qual : Str} {st : Stmt} {f c : Addr} {fd : FuncData} {N ps : List Str} {k : Nat} {sp : Sp} (F : Fun K x qual st f fd) (hc : fd.code = .ref c) (S : FnScope N ps (defScope st))
    (len : ∀ vs H Q E, sp vs H Q E → vs.length = ps.length)
    (hbody : ∀ (A : Around) (outer : List Env) (s : Shared) (H : Hp) (vs : List V) (Q : VK) (E : XK), Room k (A.deeper (PyProof.Rows.envOfC qual (defScope st) s.heap.objs.size f (.ref c))) → sp vs H Q E →
      ∃ t, PSs (cxOf CX0 P w K mg base N qual (defScope st) f (.ref c) A outer s H E).nox (defBody st) t ∧ t { nx := fun _ H' => Q .non H', rt := Q } (start N vs) H) : FnOk P w K mg base CX0 (k + 1) f fd ps sp := by
  obtain ⟨oc, od, kV, doc, pm, an, cdv, ct, osl, rfl, lk, hcd⟩ := F.ex
  have e : cdv = .ref c := hc
  subst e
  refine fn_of lk hcd S len fun A outer s H vs Q E hr hsp => ?_
  obtain ⟨t, h, q⟩ := hbody A outer s H vs Q E hr hsp
  exact ⟨t, h.nox, q⟩
theorem tLam_tab {T : Addr} {pos : Pos} {q : Str} {fd : Addr → Value → FuncData} {σ : St} {H : Hp} {Q : VK} (h : TabSt T pos q H)
    (hQ : ∀ c' f ctv H2, SameB T H H2 → TabSt T pos q H2 → H2 f = some (LamE f (fd c' ctv)) → H2 c' = some (CodeE c' q) → Q (.ref f) H2) : tLam T pos q fd σ H Q := by
  rcases h with h | ⟨c', h1, h2⟩
  · refine ⟨_, h, trivial, .inl ⟨rfl, fun c' f ctv hc hf ne => ?_⟩⟩
    have nT : T ≠ c' := ne_of_none h hc
    have nF : T ≠ f := ne_of_none h hf
    refine hQ c' f ctv _ (fun b o n e => ?_) (.inr ⟨c', ?_, ?_⟩) upd_same ?_
    · rw [upd_ne (ne_of_none e hf), upd_ne (ne_of_none e hc), upd_ne n]; exact e
    · rw [upd_ne nF, upd_ne nT, upd_same] <;> rfl
    · rw [upd_ne (Ne.symm ne), upd_same]
    · rw [upd_ne (Ne.symm ne), upd_same]
  · refine ⟨_, h1, trivial, .inr ⟨c', ?_, fun f ctv hf => ?_⟩⟩
    · simp [codeAmong, rawInt]
    · refine hQ c' f ctv _ (fun b o _ e => ?_) (TabSt.same (Same.new hf _) (.inr ⟨c', h1, h2⟩)) upd_same ?_
      · rw [upd_ne (ne_of_none e hf)]; exact e
      · rw [upd_ne (ne_of_none h2 hf)]; exact h2
theorem ite_either {c : Prop} [Decidable c] {A B R : Prop} (hA : c → R → A) (hB : ¬ c → R → B) (h : R) : if c then A else B := by
  by_cases z : c
  · rw [if_pos z]; exact hA z h
  · rw [if_neg z]; exact hB z h
end L2
namespace Odd
open PySem L2
abbrev lamQ : Str := (PyProof.Rows.envOfC "_law_order" (defScope sLOrder) 0 0 .none).qual ++ "<lambda>"
/-- the code table's place -/
theorem tab_mk {K : PySem.W.Frag} {x : Str} {f c T : Addr} {oc oc' : Value} {od od' : Option Addr} {fd : FuncData} {sl sl' : Array (Option Value)} {vs : Array Value} (a : PySem.W.nsIn K mainGlobals x = some (some (.ref f))) (l : K.lookup f = some ⟨oc, od, .func fd, sl⟩) (hc : fd.code = .ref c)
    (lc : K.lookup c = some ⟨oc', od', .fields vs, sl'⟩) (hv : vs[11]? = some (.ref T)) : PySem.W.tabIn K x = some (c, T) := by
  unfold PySem.W.tabIn
  rw [a]
  dsimp only
  rw [l]
  dsimp only
  rw [hc]
  dsimp only
  rw [lc]
  dsimp only
  rw [hv]
end Odd

/-! ## the order of a round -/
namespace Odd
open PySem L2
theorem EdgesAt.sameB {K : PySem.W.Frag} {T : Addr} {H H' : Hp} {ps : List V} {es : List (Nat × Nat)} (g : SameB T H H') (t : ∃ ps, H T = some (.tbl ps)) (h : EdgesAt K H ps es) : EdgesAt K H' ps es := ⟨h.1, fun i e he => let ⟨p, h1, h2⟩ := h.2 i e he; ⟨p, h1, g.tup t h2⟩⟩
theorem NetAt.sameB {K : PySem.W.Frag} {T : Addr} {H H' : Hp} {r : Addr} {n : Nat} {es : List (Nat × Nat)} (g : SameB T H H') (t : ∃ ps, H T = some (.tbl ps)) (h : NetAt K H r n es) : NetAt K H' r n es := let ⟨eT, ps, h1, h2, h3⟩ := h; ⟨eT, ps, g.tup t h1, g.tup t h2, h3.sameB g t⟩
theorem NumAt.sameB {K : PySem.W.Frag} {T : Addr} {H H' : Hp} {r a : Addr} {n : Nat} {E : List (Nat × Nat)} {f : List Int} (g : SameB T H H') (t : ∃ ps, H T = some (.tbl ps)) (h : NumAt K H r a n E f) : NumAt K H' r a n E f := ⟨h.1.sameB g t, h.2.1, g.tup t h.2.2.1, h.2.2.2⟩
theorem NumAt.put {K : PySem.W.Frag} {H H' : Hp} {r a a' : Addr} {n : Nat} {E : List (Nat × Nat)} {f f' : List Int} (h : NumAt K H r a n E f) (g : Same H H') (e : SqT K H' a' (vI f')) (l : f'.length = f.length) : NumAt K H' r a' n E f' := ⟨h.1.same g, h.2.1, e, l.trans h.2.2.2⟩
def spOrder (K : PySem.W.Frag) (T : Addr) : Sp := fun vs H Q _ => ∃ (a ra : Addr) (ns : List Int) (n : Nat) (f : List Int) (t : Nat), vs = [.ref a, .int (n : Int), .ref ra, .int (t : Int)] ∧ SqL K H a (vI ns) ∧ SqT K H ra (vI f) ∧ f.length = n ∧ n ≤ 8 ∧ TabSt T lamPos lamQ H ∧
  ∀ (p : List Nat) r H', p.Perm (List.range n) → SameB T H H' → TabSt T lamPos lamQ H' → SqT K H' r (vN p) → Q (.ref r) H'
def spLaw3 (K : PySem.W.Frag) (T : Addr) : Sp := fun vs H Q _ => ∃ (a : Addr) (ns : List Int), vs = [.ref a] ∧ SqL K H a (ns.map V.int) ∧ ns.length ≤ 63 ∧ H T = some (.tbl #[]) ∧ ∀ H', Q (.bl true) H'
section
variable {P : Program} {w : World} {K : PySem.W.Frag} {mg : Str → Option Value} {base : Heap} {f : Addr} {fd : FuncData} {c T : Addr}
theorem sc__law_order : FnScope ["_law_script", "_law_many", "_law_numbers", "_law_turn", "_law_cell_here"] ["_law_script", "_law_many", "_law_numbers", "_law_turn"] (defScope sLOrder) := ⟨rfl, rfl, rfl, by decide +kernel, rfl, by decide +kernel, by decide +kernel⟩
theorem ok_order (b : Bl mg) (b_sorted : mg "sorted" = none) (b_rev : mg "reversed" = none) (tb : TabAt mg base c T) (F : Fun K "_law_order" "_law_order" sLOrder f fd) (hc : fd.code = .ref c) (hm : mg "_law_order" = some (.ref f))
    (G__law_cell : Fn P w K mg base "_law_cell" 1 ["_law_script", "_law_k"] (spCell K)) (G__law_perm : Fn P w K mg base "_law_perm" 2 ["_law_cell_here", "_law_many"] (spPerm K)) : Fn P w K mg base "_law_order" 6 ["_law_script", "_law_many", "_law_numbers", "_law_turn"] (spOrder K T) := by
  refine ⟨f, fd, F.okC hc sc__law_order (fun vs H Q E h => ?_) (fun A outer s H vs Q E hr h => ?_), F.binds (ps := ["_law_script", "_law_many", "_law_numbers", "_law_turn"]) fun _ _ _ _ _ _ us hl => match us, hl with | [_, _, _, _], _ => rfl, F.kp, hm⟩
  · obtain ⟨a, ra, ns, n, f, t, rfl, _⟩ := h
    rfl
  obtain ⟨a, ra, ns, n, f, t, rfl, hA, hF, hl, hn, hT, q⟩ := h
  refine' ⟨_, pss_cons (ps_set (i := 4) sc__law_order.nd rfl (Or.inl rfl) (pe_fn G__law_cell hr (pa_cons (pv 0) (pa_cons (pe_op op_add pe_int (pv 3)) pa_nil))))
    (pss_cons (ps_if (pt_cmpR op_eq (pe_op op_mod (pv 4) pe_int) pe_int (nomark _)) (pss_one (ps_ret (pe_callTy call_tupL (by rfl) b.tuple bTuple (pa_cons (pe_sortlam (k := 3) (x := "_law_hand") (fr := ["_law_numbers"]) (idx := [2]) b_sorted rfl rfl hr (pe_callTy call_rng1 (by rfl) b.range bRange (pa_cons (pv 1) pa_nil)) tb rfl rfl
        ⟨⟨rfl, trivial⟩, rfl, by decide +kernel, rfl, rfl, rfl, rfl, ⟨⟨rfl, .inl rfl, rfl⟩, trivial⟩⟩
        ?hb
        (fun _ _ _ _ => rfl)) pa_nil)))) pss_nil)
    (pss_cons (ps_if (pt_cmpR op_eq (pe_op op_mod (pv 4) pe_int) pe_int (nomark _)) (pss_one (ps_ret (pe_tuprev rfl (by rfl) b.tuple (by rfl) b_rev (pe_callTy call_rng1 (by rfl) b.range bRange (pa_cons (pv 1) pa_nil))))) pss_nil)
    (pss_one (ps_ret (pe_fn G__law_perm hr (pa_cons (pe_op op_fdiv (pv 4) pe_int) (pa_cons (pv 1) pa_nil))))))), ?rd⟩
  case hb =>
    intro f' c' s' H'
    exact pe_tup (pa_cons (pe_un un_neg (pe_ix (ix_tupK K (by rfl)) (pv 1) (pv 0) (fun _ _ => rfl))) (pa_cons (pv 0) pa_nil))
  refine ⟨_, rfl, _, rfl, _, _, rfl, rfl, a, ns, 3 + t, congrArg (fun i : Int => [V.ref a, V.int i]) (show (3 + (t : Int)) = ((3 + t : Nat) : Int) by omega), hA, ?_⟩
  refine ⟨_, rfl, _, _, rfl, rfl, (by show (0 : Int) < 4; decide), rfl, _, rfl, ?_⟩
  refine ite2 (fun _ => ?_) (fun _ => ?_)
  · refine ⟨_, rfl, _, rfl, fun r1 hr1 => ?_⟩
    have g1 : Same H (upd H r1 (.rng 0 (n : Int))) := Same.new hr1 _
    have hT1 := hT.same g1
    refine tLam_tab hT1 fun c' fl ctv H2 gB t2 ef ec => ⟨r1, n, fl, c', ctv, fun i => - Net.at0 f i, fun i => (i : Int), rfl, rfl, ?_, by omega, ef, ec, fun i hi => (show (0 : Int) ≤ (i : Int) ∧ (i : Int) < 16 by omega), fun i j _ _ _ e => Int.ofNat.inj e, fun i hi H3 g3 C hC => ?_, fun p pm D H4 g4 e4 _ => ?_⟩
    · exact gB _ _ (fun z => by obtain ⟨ps, e⟩ := hT.tbl; rw [← z, hr1] at e; cases e) upd_same
    · have hF3 := g3.tup (gB.tup hT1.tbl (g1.tup hF))
      refine ⟨_, rfl, _, rfl, ra, _, _, _, rfl, rfl, hF3, atI_nat0 (by omega), _, rfl, _, rfl, lineGe (by show 2 ≤ 1000; decide), fun p hp => ?_⟩
      exact hC p _ (Same.new hp _) (SqT.of upd_same)
    · refine ⟨D, _, rfl, SqL.of e4, fun r H' g' e' => ?_⟩
      exact q p r H' pm ((g1.but T).trans (gB.trans ((g4.trans g').but T))) (t2.same (g4.trans g')) e'
  refine ⟨_, rfl, _, _, rfl, rfl, (by show (0 : Int) < 4; decide), rfl, _, rfl, ?_⟩
  refine ite2 (fun _ => ?_) (fun _ => ?_)
  · refine ⟨_, rfl, _, rfl, fun r1 hr1 => ?_⟩
    have g1 : Same H (upd H r1 (.rng 0 (n : Int))) := Same.new hr1 _
    refine ⟨r1, n, rfl, upd_same, by omega, fun r H' g' e' => ?_⟩
    exact q _ r H' (List.reverse_perm _) ((g1.trans g').but T) (hT.same (g1.trans g')) e'
  · refine ⟨_, rfl, _, _, rfl, rfl, ⟨(by show (0 : Int) < 4; decide), (by show (4 : Int) < 1073741824; decide)⟩, _, rfl, _, n, rfl, by omega, fun p pm r H' g' e' => ?_⟩
    exact q p r H' pm (g'.but T) (hT.same g') e'
end
end Odd

/-! ## LAW k06 -/
namespace Odd
open PySem L2
abbrev st6 (a r : Addr) (n : Nat) (rd rn : Addr) (x5 x6 : Option V) : St := [some (.ref a), some (.ref r), some (.int (n : Int)), some (.ref rd), some (.ref rn), x5, x6]
section
variable {P : Program} {w : World} {K : PySem.W.Frag} {mg : Str → Option Value} {base : Heap} {f : Addr} {fd : FuncData} {T : Addr}
theorem sc_law : FnScope ["_law_script", "_law_net_here", "_law_many", "_law_due", "_law_numbers", "_law_turn", "_law_hand"] ["_law_script"] (defScope sLaw) := ⟨rfl, rfl, rfl, by decide +kernel, rfl, by decide +kernel, by decide +kernel⟩
theorem ok_law6 (b : Bl mg) (F : Fun K "law" "law" sLaw f fd) (G__law_cell : Fn P w K mg base "_law_cell" 1 ["_law_script", "_law_k"] (spCell K)) (G__law_mix : Fn P w K mg base "_law_mix" 1 ["_law_cell_here", "_law_prime", "_law_many"] spMix) (G__law_net : Fn P w K mg base "_law_net" 2 ["_law_script"] (spNet K)) (G__law_far : Fn P w K mg base "_law_far" 1 ["_law_net_here"] (spLFar K)) (G_wrong_far : Fn P w K mg base "wrong_far" 3 ["net", "numbers"] (spWrong K)) (G_round_far : Fn P w K mg base "round_far" 4 ["net", "numbers", "order"] (spRound K)) (G__law_order : Fn P w K mg base "_law_order" 6 ["_law_script", "_law_many", "_law_numbers", "_law_turn"] (spOrder K T)) :
    FnOk P w K mg base CX0 10 f fd ["_law_script"] (spLaw3 K T) := by
  refine F.ok sc_law (fun vs H Q E h => ?_) (fun cdv A outer s H vs Q E hr h => ?_)
  · obtain ⟨a, ns, rfl, _⟩ := h
    rfl
  obtain ⟨a, ns, rfl, hS, _, hT, q⟩ := h
  have hu := hr.units0
  have hn := nV_range ns
  have G := goodV ns
  refine ⟨_, (pss_cons (ps_set (i := 1) sc_law.nd rfl (Or.inl rfl) (pe_fn G__law_net hr (pa_cons (pv 0) pa_nil)))
    (pss_cons (ps_set (i := 2) sc_law.nd rfl (Or.inr rfl) (pe_ix ix_tup (pv 1) pe_int (fun _ _ => rfl)))
    (pss_cons (ps_set (i := 3) sc_law.nd rfl (Or.inl rfl) (pe_fn G__law_far hr (pa_cons (pv 1) pa_nil)))
    (pss_cons (ps_set (i := 4) sc_law.nd rfl (Or.inl rfl) (pe_callTy call_tupL (by rfl) b.tuple bTuple (pa_cons (pe_comp (tn := ["_law_k"]) (fr := ["_law_many", "_law_script"]) (idx := [2, 0]) rfl (by exact ⟨rfl, ⟨rfl, rfl, trivial⟩, rfl, by decide +kernel, rfl, by decide +kernel, ⟨⟨rfl, .inl rfl, .inl rfl⟩, ⟨rfl, .inl rfl, .inl rfl⟩, trivial⟩⟩) (pi_range1 rfl b.range (pa_cons (pv 2) pa_nil)) (fun _ _ _ _ _ => (pg_name (i := 0) (show (["_law_k", "_law_many", "_law_script"] : List Str).Nodup by decide +kernel) rfl (Or.inl rfl))) (fun _ _ _ _ _ => pts_nil) (fun _ _ _ _ _ => (pe_fn G__law_mix hr (pa_cons (pe_op op_add (pe_fn G__law_cell hr (pa_cons (pv 2) (pa_cons pe_int pa_nil))) (pe_op op_mul pe_int (pv 0))) (pa_cons pe_int (pa_cons (pe_op op_add (pv 1) pe_int) pa_nil)))))) pa_nil)))
    (pss_cons (ps_for PassesOwn.never rfl (pi_range1 rfl b.range (pa_cons (pv 2) pa_nil)) (pg_name (i := 5) sc_law.nd rfl (Or.inl rfl)) (pss_cons (ps_if (pw_and (pt_cmpR (op_eqT hu) (pe_fn G_wrong_far hr (pa_cons (pv 1) (pa_cons (pv 4) pa_nil))) (pe_tupS pa_nil) (nomark _)) (pw_and1 (pt_cmpR (op_neT hu) (pv 4) (pv 3) (nomark _)))).pt pss_never pss_nil)
    (pss_cons (ps_set (i := 4) sc_law.nd rfl (Or.inl rfl) (pe_fn G_round_far hr (pa_cons (pv 1) (pa_cons (pv 4) (pa_cons (pe_fn G__law_order hr (pa_cons (pv 0) (pa_cons (pv 2) (pa_cons (pv 4) (pa_cons (pv 5) pa_nil))))) pa_nil)))))
    (pss_one (ps_for PassesOwn.never rfl (pi_range1 rfl b.range (pa_cons (pv 2) pa_nil)) (pg_name (i := 6) sc_law.nd rfl (Or.inl rfl)) (pss_one (ps_if (pw_or (pw_and (pt_cmpR op_le (pe_ix ix_tup (pv 3) (pv 6) (fun _ _ => rfl)) (pv 5) (nomark _)) (pw_and1 (pt_cmpR op_ne (pe_ix ix_tup (pv 4) (pv 6) (fun _ _ => rfl)) (pe_ix ix_tup (pv 3) (pv 6) (fun _ _ => rfl)) (nomark _)))).pt (pw_or1 (pw_and (pt_cmpR op_gt (pe_ix ix_tup (pv 3) (pv 6) (fun _ _ => rfl)) (pv 5) (nomark _)) (pw_and1 (pt_cmpR op_le (pe_ix ix_tup (pv 4) (pv 6) (fun _ _ => rfl)) (pv 5) (nomark _)))).pt)).pt pss_never pss_nil)))))))
    (pss_one (ps_ret (pe_cmpR (op_eqT hu) (pv 4) (pv 3) (nomark _))))))))), ?_⟩
  refine ⟨_, rfl, a, ns, rfl, hS, fun r H3 g3 N => ?_⟩
  obtain ⟨eT, ps, h1, _, _⟩ := id N
  refine ⟨_, rfl, r, _, 0, _, rfl, rfl, h1, rfl, ?_⟩
  refine ⟨_, rfl, r, _, _, rfl, N, G, fun rd H4 g4 e4 => ?_⟩
  -- numbers
  refine ⟨_, rfl, _, rfl, by omega, by omega, ?_⟩
  rw [Int.toNat_natCast]
  refine comp_of (f := fun _ => true) (y := fun i => .int (mixV (cellV ns 2 + 31 * (0 + (i : Int))) 9931 ((nV ns : Int) + 1))) (n := nV ns) fixed_range (lineGe (by omega)) (fun i H2 hi g C hC => hC H2 (Same.refl _)) (fun i H2 hi _ g C hC => ?_) (fun Dn H5 g5 e5 => ?_)
  · have g' := g.seq ((g3.trans g4).seq hS)
    exact ⟨_, rfl, a, ns, 2, rfl, g', _, rfl, _, _, rfl, rfl, .inl ⟨by decide, by decide⟩, _, _, rfl, rfl, _, rfl, _, _, rfl, rfl, _, _, _, rfl, by decide, by omega, hC H2 (Same.refl _)⟩
  rw [map_all, numV_list] at e5
  refine ⟨Dn, _, rfl, SqL.of e5, fun rn H6 g6 e6 => ?_⟩
  have N6 : NumAt K H6 r rn (nV ns) (edgesV ns) (numV ns 2 9931 ((nV ns : Int) + 1) (nV ns)) := ⟨N.same (g4.trans (g5.trans g6)), G, e6, numV_len ..⟩
  have R6 : Net.InR (nV ns) (numV ns 2 9931 ((nV ns : Int) + 1) (nV ns)) := fun i hi => by
    have := numV_range (ns := ns) (k := 2) (p := 9931) (m := (nV ns : Int) + 1) (by omega) hi
    omega
  generalize numV ns 2 9931 ((nV ns : Int) + 1) (nV ns) = c0 at N6 R6
  have g06 := g3.trans (g4.trans (g5.trans g6))
  have T6 : TabSt T lamPos lamQ H6 := .inl (g06 _ _ hT)
  have hS6 := g06.seq hS
  have D6 := (g5.trans g6).tup e4
  generalize nV ns = n at *
  generalize edgesV ns = Es at *
  have DI := Net.dist_is n Es
  have dn : ∀ j, j < n → 0 ≤ Net.at0 (Net.dist n Es) j := Net.dist_nn
  have dl := Net.dist_len n Es
  generalize Net.dist n Es = d at *
  refine ⟨_, rfl, _, rfl, by omega, by omega, ?_⟩
  rw [Int.toNat_natCast]
  refine for_range (fun i σ H' => ∃ rn x5 x6 c, σ = st6 a r n rd rn x5 x6 ∧ SameB T H6 H' ∧ TabSt T lamPos lamQ H' ∧ NumAt K H' r rn n Es c ∧ Net.InR n c ∧ Net.Inv n d c i) ⟨rn, Option.none, Option.none, c0, rfl, SameB.refl _ _, T6, N6, R6, Net.Inv.zero dn R6⟩ (fun i σ H' hi hP => ?_) (fun σ H' hP => ?_)
  · obtain ⟨rn, x5, x6, c, rfl, gi, Ti, Ni, Ri, Ii⟩ := hP
    rw [show (0 : Int) + (i : Int) = (i : Int) by omega]
    have hl := Ni.2.2.2
    have Di := gi.tup T6.tbl D6
    refine ⟨_, rfl, _, rfl, r, rn, n, Es, c, rfl, Ni, fun rw' H7 g7 e7 => ?_⟩
    rw [vN_vI] at e7
    refine ⟨by show 0 ≤ 1000; decide, fun r0 H8 g8 e8 => ?_⟩
    have g78 := g7.trans g8
    have N8 := Ni.same g78
    refine ⟨rw', r0, _, [], rfl, rfl, g8.tup e7, e8, _, rfl, ?_⟩
    rw [if_neg Bool.false_ne_true]
    refine ite_either (fun z k => ?_) (fun _ => iteF) ?_
    · have z' := of_decide_eq_true z
      have wn : Net.wrong n Es c = [] := List.map_eq_nil_iff.mp z'
      have ec := DI.only dn hl Ri (Net.wrong_nil.mp wn)
      refine ⟨_, rfl, _, rfl, rn, rd, _, _, rfl, rfl, N8.2.2.1, g78.tup Di, _, rfl, ?_⟩
      rw [if_pos rfl, decide_eq_true ec]
      exact iteF k
    have T8 := Ti.same g78
    refine ⟨_, rfl, _, rfl, _, rfl, _, rfl, _, rfl, _, rfl, a, rn, ns, n, c, i, rfl, g78.seq (gi.seq T6.tbl hS6), N8.2.2.1, hl, by omega, T8, fun p ro H9 pm g9 T9 e9 => ?_⟩
    have N9 := N8.sameB g9 T8.tbl
    have hp : ∀ h, h ∈ p ↔ h < n := fun h => by rw [pm.mem_iff, List.mem_range]
    refine ⟨r, rn, ro, n, Es, c, p, rfl, N9, e9, fun h hh => (hp h).mp hh, fun rm H10 g10 e10 => ?_⟩
    have N10 := N9.put g10 e10 (Net.round_len ..)
    have R10 := Ri.round (E := Es) hl fun h hh => (hp h).mp hh
    have I10 := Net.Inv.round (E := Es) DI dn hl hp Ii
    have D10 := g10.tup (g9.tup T8.tbl (g78.tup Di))
    have gA : SameB T H6 H10 := gi.trans ((g78.but T).trans (g9.trans (g10.but T)))
    have TA := T9.same g10
    have l10 := N10.2.2.2
    generalize Net.round n Es c p = c2 at *
    refine ⟨_, rfl, _, rfl, by omega, by omega, ?_⟩
    rw [Int.toNat_natCast]
    refine for_range (fun j σ H' => ∃ x6, σ = st6 a r n rd rm (some (.int (i : Int))) x6 ∧ H' = H10) ⟨_, rfl, rfl⟩ (fun j σ H' hj hP => ?_) (fun σ H' hP => ?_)
    · obtain ⟨x6, rfl, rfl⟩ := hP
      rw [show (0 : Int) + (j : Int) = (j : Int) by omega]
      have ij := I10 j hj
      have eD := atI_nat0 (ns := d) (j := j) (by omega)
      have eM := atI_nat0 (ns := c2) (j := j) (by omega)
      refine ⟨_, rfl, _, rfl, rd, _, _, _, rfl, rfl, D10, eD, _, rfl, _, _, rfl, rfl, _, rfl, ?_⟩
      by_cases z : Net.at0 d j ≤ (i : Int)
      · rw [decide_eq_true z]
        refine iteT ?_
        refine ⟨_, rfl, _, rfl, rm, _, _, _, rfl, rfl, N10.2.2.1, eM, _, rfl, _, rfl, rd, _, _, _, rfl, rfl, D10, eD, rfl, _, rfl, ?_⟩
        rw [ij.1 (by omega), decide_eq_true rfl]
        refine iteF ?_
        refine ⟨_, rfl, _, rfl, rd, _, _, _, rfl, rfl, D10, eD, _, rfl, _, _, rfl, rfl, _, rfl, ?_⟩
        rw [decide_eq_false (by omega)]
        refine iteF (iteF ?_)
        exact ⟨_, rfl, rfl⟩
      · rw [decide_eq_false z]
        refine iteF (iteF ?_)
        refine ⟨_, rfl, _, rfl, rd, _, _, _, rfl, rfl, D10, eD, _, rfl, _, _, rfl, rfl, _, rfl, ?_⟩
        rw [decide_eq_true (by omega)]
        refine iteT ?_
        have := ij.2 (by omega)
        refine ⟨_, rfl, _, rfl, rm, _, _, _, rfl, rfl, N10.2.2.1, eM, _, rfl, _, _, rfl, rfl, _, rfl, ?_⟩
        rw [decide_eq_false (by omega)]
        refine iteF ?_
        exact ⟨_, rfl, rfl⟩
    · obtain ⟨x6, rfl, rfl⟩ := hP
      exact ⟨rm, _, _, c2, rfl, gA, TA, N10, R10, I10⟩
  · obtain ⟨rn, x5, x6, c, rfl, gi, Ti, Ni, Ri, Ii⟩ := hP
    have ec := Net.Inv.last DI Ni.2.2.2 Ri Ii
    refine ⟨_, rfl, _, rfl, rn, rd, _, _, rfl, rfl, Ni.2.2.1, gi.tup T6.tbl D6, ?_⟩
    rw [if_neg Bool.false_ne_true, decide_eq_true ec]
    exact q _
end
end Odd

namespace Odd
open PySem L2
theorem all_mk {l : PySem.W.OpenLaw} {w : World} {K : PySem.W.Frag} {h : Heap} {mg : Str → Option Value} {fa f1 f2 f3 f4 f5 f6 f7 f8 f9 f10 f11 f12 f13 cT tT : Addr} (X : K.In h) (G : h.Ns mainGlobals mg) (hfa : mg "law" = some (.ref fa))
    {od1 an1 od2 an2 od3 an3 od4 an4 od5 an5 od6 an6 od7 an7 od8 an8 od9 an9 od10 an10 od11 an11 od12 an12 od13 an13 : Option Addr} {sl1 sl2 sl3 sl4 sl5 sl6 sl7 sl8 sl9 sl10 sl11 sl12 sl13 : Array (Option Value)} {oc1 kV1 dc1 pm1 ct1 cd1 oc2 kV2 dc2 pm2 ct2 cd2 oc3 kV3 dc3 pm3 ct3 cd3 oc4 kV4 dc4 pm4 ct4 cd4 oc5 kV5 dc5 pm5 ct5 cd5 oc6 kV6 dc6 pm6 ct6 cd6 oc7 kV7 dc7 pm7 ct7 cd7 oc8 kV8 dc8 pm8 ct8 cd8 oc9 kV9 dc9 pm9 ct9 cd9 oc10 kV10 dc10 pm10 ct10 cd10 oc11 kV11 dc11 pm11 ct11 cd11 oc12 kV12 dc12 pm12 ct12 oc13 kV13 dc13 pm13 ct13 cd13 : Value}
    (a1 : PySem.W.nsIn K mainGlobals "with_number" = some (some (.ref f1))) (l1 : K.lookup f1 = some ⟨oc1, od1, .func (PySem.W.fnOf "with_number" "with_number" (defArgs sWithNumber) (defBody sWithNumber) (defScope sWithNumber) .none kV1 dc1 pm1 an1 cd1 ct1), sl1⟩) (c1 : PySem.W.codeIn K cd1 "with_number" = true) (k1 : PySem.W.keepIn K (.ref f1) = true)
    (a2 : PySem.W.nsIn K mainGlobals "neighbours" = some (some (.ref f2))) (l2 : K.lookup f2 = some ⟨oc2, od2, .func (PySem.W.fnOf "neighbours" "neighbours" (defArgs sNeighbours) (defBody sNeighbours) (defScope sNeighbours) .none kV2 dc2 pm2 an2 cd2 ct2), sl2⟩) (c2 : PySem.W.codeIn K cd2 "neighbours" = true) (k2 : PySem.W.keepIn K (.ref f2) = true)
    (a3 : PySem.W.nsIn K mainGlobals "right_number" = some (some (.ref f3))) (l3 : K.lookup f3 = some ⟨oc3, od3, .func (PySem.W.fnOf "right_number" "right_number" (defArgs sRightNumber) (defBody sRightNumber) (defScope sRightNumber) .none kV3 dc3 pm3 an3 cd3 ct3), sl3⟩) (c3 : PySem.W.codeIn K cd3 "right_number" = true) (k3 : PySem.W.keepIn K (.ref f3) = true)
    (a4 : PySem.W.nsIn K mainGlobals "wrong_far" = some (some (.ref f4))) (l4 : K.lookup f4 = some ⟨oc4, od4, .func (PySem.W.fnOf "wrong_far" "wrong_far" (defArgs sWrongFar) (defBody sWrongFar) (defScope sWrongFar) .none kV4 dc4 pm4 an4 cd4 ct4), sl4⟩) (c4 : PySem.W.codeIn K cd4 "wrong_far" = true) (k4 : PySem.W.keepIn K (.ref f4) = true)
    (a5 : PySem.W.nsIn K mainGlobals "mended_far" = some (some (.ref f5))) (l5 : K.lookup f5 = some ⟨oc5, od5, .func (PySem.W.fnOf "mended_far" "mended_far" (defArgs sMendedFar) (defBody sMendedFar) (defScope sMendedFar) .none kV5 dc5 pm5 an5 cd5 ct5), sl5⟩) (c5 : PySem.W.codeIn K cd5 "mended_far" = true) (k5 : PySem.W.keepIn K (.ref f5) = true)
    (a6 : PySem.W.nsIn K mainGlobals "round_far" = some (some (.ref f6))) (l6 : K.lookup f6 = some ⟨oc6, od6, .func (PySem.W.fnOf "round_far" "round_far" (defArgs sRoundFar) (defBody sRoundFar) (defScope sRoundFar) .none kV6 dc6 pm6 an6 cd6 ct6), sl6⟩) (c6 : PySem.W.codeIn K cd6 "round_far" = true) (k6 : PySem.W.keepIn K (.ref f6) = true)
    (a7 : PySem.W.nsIn K mainGlobals "_law_cell" = some (some (.ref f7))) (l7 : K.lookup f7 = some ⟨oc7, od7, .func (PySem.W.fnOf "_law_cell" "_law_cell" (defArgs sCell) (defBody sCell) (defScope sCell) .none kV7 dc7 pm7 an7 cd7 ct7), sl7⟩) (c7 : PySem.W.codeIn K cd7 "_law_cell" = true) (k7 : PySem.W.keepIn K (.ref f7) = true)
    (a8 : PySem.W.nsIn K mainGlobals "_law_mix" = some (some (.ref f8))) (l8 : K.lookup f8 = some ⟨oc8, od8, .func (PySem.W.fnOf "_law_mix" "_law_mix" (defArgs sMix) (defBody sMix) (defScope sMix) .none kV8 dc8 pm8 an8 cd8 ct8), sl8⟩) (c8 : PySem.W.codeIn K cd8 "_law_mix" = true) (k8 : PySem.W.keepIn K (.ref f8) = true)
    (a9 : PySem.W.nsIn K mainGlobals "_law_net" = some (some (.ref f9))) (l9 : K.lookup f9 = some ⟨oc9, od9, .func (PySem.W.fnOf "_law_net" "_law_net" (defArgs sLNet) (defBody sLNet) (defScope sLNet) .none kV9 dc9 pm9 an9 cd9 ct9), sl9⟩) (c9 : PySem.W.codeIn K cd9 "_law_net" = true) (k9 : PySem.W.keepIn K (.ref f9) = true)
    (a10 : PySem.W.nsIn K mainGlobals "_law_perm" = some (some (.ref f10))) (l10 : K.lookup f10 = some ⟨oc10, od10, .func (PySem.W.fnOf "_law_perm" "_law_perm" (defArgs sLPerm) (defBody sLPerm) (defScope sLPerm) .none kV10 dc10 pm10 an10 cd10 ct10), sl10⟩) (c10 : PySem.W.codeIn K cd10 "_law_perm" = true) (k10 : PySem.W.keepIn K (.ref f10) = true)
    (a11 : PySem.W.nsIn K mainGlobals "_law_far" = some (some (.ref f11))) (l11 : K.lookup f11 = some ⟨oc11, od11, .func (PySem.W.fnOf "_law_far" "_law_far" (defArgs sLFar) (defBody sLFar) (defScope sLFar) .none kV11 dc11 pm11 an11 cd11 ct11), sl11⟩) (c11 : PySem.W.codeIn K cd11 "_law_far" = true) (k11 : PySem.W.keepIn K (.ref f11) = true)
    (a12 : PySem.W.nsIn K mainGlobals "_law_order" = some (some (.ref f12))) (l12 : K.lookup f12 = some ⟨oc12, od12, .func (PySem.W.fnOf "_law_order" "_law_order" (defArgs sLOrder) (defBody sLOrder) (defScope sLOrder) .none kV12 dc12 pm12 an12 (.ref cT) ct12), sl12⟩) (c12 : PySem.W.codeIn K (.ref cT) "_law_order" = true) (k12 : PySem.W.keepIn K (.ref f12) = true)
    (a13 : PySem.W.nsIn K mainGlobals "law" = some (some (.ref f13))) (l13 : K.lookup f13 = some ⟨oc13, od13, .func (PySem.W.fnOf "law" "law" (defArgs sLaw) (defBody sLaw) (defScope sLaw) .none kV13 dc13 pm13 an13 cd13 ct13), sl13⟩) (c13 : PySem.W.codeIn K cd13 "law" = true) (k13 : PySem.W.keepIn K (.ref f13) = true)
    (z1 : PySem.W.nsIn K mainGlobals "len" = some none) (z2 : PySem.W.nsIn K mainGlobals "range" = some none) (z3 : PySem.W.nsIn K mainGlobals "tuple" = some none) (z4 : PySem.W.nsIn K mainGlobals "list" = some none) (z5 : PySem.W.nsIn K mainGlobals "int" = some none) (z6 : PySem.W.nsIn K mainGlobals "bool" = some none) (z7 : PySem.W.nsIn K mainGlobals "isinstance" = some none) (z8 : PySem.W.nsIn K mainGlobals "min" = some none) (z9 : PySem.W.nsIn K mainGlobals "sorted" = some none) (z10 : PySem.W.nsIn K mainGlobals "reversed" = some none) :
    ∃ fd : FuncData, (∀ (s : Shared) (v : Value), BindsTo s fd ⟨[v], []⟩ [("_law_script", v)]) ∧ ∀ base : Heap, K.In base → base.Ns mainGlobals mg → TabAt mg base cT tT → FnOk l.prog w K mg base CX0 10 fa fd ["_law_script"] (spLaw3 K tT) := by
  have e := hfa.symm.trans (PySem.W.mg_of X G a13)
  cases e
  have b : Bl mg := ⟨PySem.W.mg_none_of X G z1, PySem.W.mg_none_of X G z2, PySem.W.mg_none_of X G z3, PySem.W.mg_none_of X G z4, PySem.W.mg_none_of X G z5, PySem.W.mg_none_of X G z6, PySem.W.mg_none_of X G z7⟩
  have b_min := PySem.W.mg_none_of X G z8
  have b_sorted := PySem.W.mg_none_of X G z9
  have b_reversed := PySem.W.mg_none_of X G z10
  have F1 := fun_mk (st := sWithNumber) l1 c1 k1
  have m1 := PySem.W.mg_of X G a1
  have F2 := fun_mk (st := sNeighbours) l2 c2 k2
  have m2 := PySem.W.mg_of X G a2
  have F3 := fun_mk (st := sRightNumber) l3 c3 k3
  have m3 := PySem.W.mg_of X G a3
  have F4 := fun_mk (st := sWrongFar) l4 c4 k4
  have m4 := PySem.W.mg_of X G a4
  have F5 := fun_mk (st := sMendedFar) l5 c5 k5
  have m5 := PySem.W.mg_of X G a5
  have F6 := fun_mk (st := sRoundFar) l6 c6 k6
  have m6 := PySem.W.mg_of X G a6
  have F7 := fun_mk (st := sCell) l7 c7 k7
  have m7 := PySem.W.mg_of X G a7
  have F8 := fun_mk (st := sMix) l8 c8 k8
  have m8 := PySem.W.mg_of X G a8
  have F9 := fun_mk (st := sLNet) l9 c9 k9
  have m9 := PySem.W.mg_of X G a9
  have F10 := fun_mk (st := sLPerm) l10 c10 k10
  have m10 := PySem.W.mg_of X G a10
  have F11 := fun_mk (st := sLFar) l11 c11 k11
  have m11 := PySem.W.mg_of X G a11
  have F12 := fun_mk (st := sLOrder) l12 c12 k12
  have m12 := PySem.W.mg_of X G a12
  have F13 := fun_mk (st := sLaw) l13 c13 k13
  have m13 := PySem.W.mg_of X G a13
  refine ⟨PySem.W.fnOf "law" "law" (defArgs sLaw) (defBody sLaw) (defScope sLaw) .none kV13 dc13 pm13 an13 cd13 ct13, fun s v => .of_eq rfl, fun base _ _ tb => ?_⟩
  have c1 := ok_cell (P := l.prog) (w := w) (base := base) b F7 m7
  have c2 := ok_mix (P := l.prog) (w := w) (base := base) F8 m8
  have u2 := ok_with (P := l.prog) (w := w) (base := base) b F1 m1
  have n1 := ok_net b F9 m9 c1 c2
  have n2 := ok_nb (P := l.prog) (w := w) (base := base) b F2 m2
  have f1 := ok_right b b_min F3 m3 n2
  have d1 := ok_mend F5 m5 u2 f1
  have d2 := ok_wrong b F4 m4 f1
  have d3 := ok_lfar (P := l.prog) (w := w) (base := base) b b_min F11 m11
  have d4 := ok_round F6 m6 d1
  have d5 := ok_perm b F10 m10 c2
  have d6 := ok_order b b_sorted b_reversed tb F12 rfl m12 c1 d5
  exact ok_law6 b F13 c1 c2 n1 d3 d2 d4 d6
theorem walk {l : PySem.W.OpenLaw} {q : Program} {loose : List Str} {XP : (Str → Option Value) → Heap → Prop} {YP : World → Heap → Prop} {d d' : DefRec} {K : Params → PySem.W.Frag} {cT tT : Addr} (hn : l.most = some 63) (hdf : d.params.defaults = [])
    (hY : ∀ (w : World) (h : Heap), YP w h → (K w.params).In h) (hrec : (PyProof.Rows.recsOf q).find? (fun e => e.name == ("_law_order" : Str)) = some d') (ht : ∀ w : World, PySem.W.tabIn (K w.params) "_law_order" = some (cT, tT)) (hnt : ∀ w : World, PySem.W.noTabs (K w.params) = true)
    (F : ∀ (w : World) (mg : Str → Option Value) (fa : Addr) (h : Heap), (K w.params).In h → h.Ns mainGlobals mg → mg d.name = some (.ref fa) →
      ∃ fd : FuncData, (∀ (s : Shared) (u : Value), BindsTo s fd ⟨[u], []⟩ [("_law_script", u)]) ∧ ∀ base : Heap, (K w.params).In base → base.Ns mainGlobals mg → TabAt mg base cT tT → FnOk l.prog w (K w.params) mg base CX0 10 fa fd ["_law_script"] (spLaw3 (K w.params) tT)) :
    PySem.W.WalkO q loose XP YP l.row.toRowW d [] (fun f vs => PySem.call f vs) :=
  L2.walk_ofT (n := 63) (k := 10) (x := "_law_script") (y := "_law_order") (sp := fun w => spLaw3 (K w.params) tT) hn (by decide) hdf ⟨rfl, by decide, by decide⟩ hY hrec ht hnt F (fun _ _ a ns hl eT hS => ⟨a, ns, rfl, hS, hl, eT, fun _ => rfl⟩)
end Odd
open PySem PySem.W PyProof.Rows
set_option maxRecDepth 100000 in
set_option maxHeartbeats 0 in
theorem PySem.Challenge.cw_oddreel_k06_whole_rounds_bring_distances_holds : PySem.Challenge.rw_oddreel_k06_whole_rounds_bring_distances.Holds := by
  w_on; o_law; k_head; (case hw => w_witness2)
  k_fill
  refine' Odd.walk (l := PySem.Challenge.rw_oddreel_k06_whole_rounds_bring_distances) rfl rfl (fun w h Y => PySem.W.km_in_of Y) rfl ?ht ?hnt ?F
  case ht =>
    intro w
    refine' Odd.tab_mk ?a ?l ?c ?m ?v
    (case a => k_is); (case l => k_is); (case c => rfl); (case m => k_is); (case v => rfl)
  case hnt => exact fun w => by kernel_rfl
  case F =>
    intro w mg fa h KX G hmg
    refine' Odd.all_mk KX G hmg ?a1 ?l1 ?c1 ?k1 ?a2 ?l2 ?c2 ?k2 ?a3 ?l3 ?c3 ?k3 ?a4 ?l4 ?c4 ?k4 ?a5 ?l5 ?c5 ?k5 ?a6 ?l6 ?c6 ?k6 ?a7 ?l7 ?c7 ?k7 ?a8 ?l8 ?c8 ?k8 ?a9 ?l9 ?c9 ?k9 ?a10 ?l10 ?c10 ?k10 ?a11 ?l11 ?c11 ?k11 ?a12 ?l12 ?c12 ?k12 ?a13 ?l13 ?c13 ?k13 ?z1 ?z2 ?z3 ?z4 ?z5 ?z6 ?z7 ?z8 ?z9 ?z10
    (case a1 => k_is); (case l1 => k_is); (case c1 => k_is); (case k1 => k_is); (case a2 => k_is); (case l2 => k_is); (case c2 => k_is); (case k2 => k_is)
    (case a3 => k_is); (case l3 => k_is); (case c3 => k_is); (case k3 => k_is); (case a4 => k_is); (case l4 => k_is); (case c4 => k_is); (case k4 => k_is)
    (case a5 => k_is); (case l5 => k_is); (case c5 => k_is); (case k5 => k_is); (case a6 => k_is); (case l6 => k_is); (case c6 => k_is); (case k6 => k_is)
    (case a7 => k_is); (case l7 => k_is); (case c7 => k_is); (case k7 => k_is); (case a8 => k_is); (case l8 => k_is); (case c8 => k_is); (case k8 => k_is)
    (case a9 => k_is); (case l9 => k_is); (case c9 => k_is); (case k9 => k_is); (case a10 => k_is); (case l10 => k_is); (case c10 => k_is); (case k10 => k_is)
    (case a11 => k_is); (case l11 => k_is); (case c11 => k_is); (case k11 => k_is); (case a12 => k_is); (case l12 => k_is); (case c12 => k_is); (case k12 => k_is)
    (case a13 => k_is); (case l13 => k_is); (case c13 => k_is); (case k13 => k_is); (case z1 => k_is); (case z2 => k_is); (case z3 => k_is); (case z4 => k_is)
    (case z5 => k_is); (case z6 => k_is); (case z7 => k_is); (case z8 => k_is); (case z9 => k_is); (case z10 => k_is)
