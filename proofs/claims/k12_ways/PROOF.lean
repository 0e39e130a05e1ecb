import PyProof.Rows.All
import Wide.All
import OpenK.AllK
import Wide.FinOn
import Lean
import PyProof.EqAt
import PyProof.EqKinds
import PyProof.TupleCall
import PySem.Challenge.RW_mightever_k12_ways_met
set_option Elab.async false
set_option linter.all false
set_option maxRecDepth 100000
/-! THE HAND LAYER, for ints, bools, texts, own classes, LISTS and tuples (index, slices, in, append, pop ..), calls, loops. Paste it whole ahead of your own text; what your proof does not reach may be deleted. -/
namespace L2
open PySem PySem.Spec PyProof.Rows

/-- a key: an int or a str -/
abbrev Key := Sum Int Str
def keyIs : Key → Value → Bool
  | .inl k, v => Value.isInt k v
  | .inr x, v => Value.isStrOf x v
def keyH (w : World) : Key → Int
  | .inl k => hashInt k
  | .inr x => hashStr w x
theorem keyIs_shape : ∀ {k : Key} {v : Value}, keyIs k v = true → (∃ i t, k = Sum.inl i ∧ v = Value.int i t) ∨ (∃ x t, k = Sum.inr x ∧ v = Value.str x t)
  | .inl i, v, h => by
    obtain ⟨t, e⟩ := Value.isInt_shape (k := i) (v := v) h
    exact .inl ⟨i, t, rfl, e⟩
  | .inr x, v, h => by
    obtain ⟨t, e⟩ := Value.isStrOf_shape (x := x) (v := v) h
    exact .inr ⟨x, t, rfl, e⟩
theorem keyIs_int (i : Int) (t : Tok) : keyIs (.inl i) (.int i t) = true := by simp [keyIs, Value.isInt]
theorem keyIs_str (x : Str) (t : Tok) : keyIs (.inr x) (.str x t) = true := by simp [keyIs, Value.isStrOf]
theorem key_ll (a b : Int) : decide ((Sum.inl a : Key) = Sum.inl b) = (a == b) := by
  by_cases e : a = b
  · subst e; simp
  · have h : ¬ (Sum.inl a : Key) = Sum.inl b := fun q => e (Sum.inl.inj q)
    rw [decide_eq_false h]
    exact (beq_eq_false_iff_ne.mpr e).symm
theorem key_rr (a b : Str) : decide ((Sum.inr a : Key) = Sum.inr b) = decide (a = b) := by
  by_cases e : a = b
  · subst e; simp
  · have h : ¬ (Sum.inr a : Key) = Sum.inr b := fun q => e (Sum.inr.inj q)
    rw [decide_eq_false h, decide_eq_false e]
theorem key_lr (a : Int) (b : Str) : decide ((Sum.inl a : Key) = Sum.inr b) = false := decide_eq_false (fun q => nomatch q)
theorem key_rl (a : Str) (b : Int) : decide ((Sum.inr a : Key) = Sum.inl b) = false := decide_eq_false (fun q => nomatch q)

def mixKind (prog : Program) (w : World) : PySem.KeyKind prog w Key where
  is := keyIs
  hash := keyH w
  inj := fun v a b ha hb => by
    rcases keyIs_shape ha with ⟨i, t, rfl, rfl⟩ | ⟨x, t, rfl, rfl⟩
    · rcases keyIs_shape hb with ⟨j, u, rfl, e⟩ | ⟨y, u, rfl, e⟩
      · injection e with e1 _; rw [e1]
      · exact nomatch e
    · rcases keyIs_shape hb with ⟨j, u, rfl, e⟩ | ⟨y, u, rfl, e⟩
      · exact nomatch e
      · injection e with e1 _; rw [e1]
  byValue := fun k v h => by
    rcases keyIs_shape h with ⟨i, t, rfl, rfl⟩ | ⟨x, t, rfl, rfl⟩ <;> rfl
  pyHash := fun hv h => by
    rcases keyIs_shape hv with ⟨i, t, rfl, rfl⟩ | ⟨x, t, rfl, rfl⟩
    · exact wpAny_pyHash_int h
    · exact wpAny_pyHash_str h
  eqBool := fun hu hv h => by
    rcases keyIs_shape hu with ⟨i, t, rfl, rfl⟩ | ⟨x, t, rfl, rfl⟩
    · rcases keyIs_shape hv with ⟨j, u, rfl, rfl⟩ | ⟨y, u, rfl, rfl⟩
      · rw [key_ll] at h; exact wpAny_eqBool_int h
      · rw [key_lr] at h; exact SeqAt.EqAt.int_str i t y u _ _ _ _ h
    · rcases keyIs_shape hv with ⟨j, u, rfl, rfl⟩ | ⟨y, u, rfl, rfl⟩
      · rw [key_rl] at h; exact SeqAt.EqAt.str_int x t j u _ _ _ _ h
      · rw [key_rr] at h; exact wpAny_eqBool_str h
  «strs» := fun k x t v h => by
    rcases keyIs_shape h with ⟨i, u, rfl, e⟩ | ⟨y, u, rfl, e⟩
    · exact nomatch e
    · injection e with e1 _
      subst e1
      cases v <;> rfl

theorem mixKind_is (prog : Program) (w : World) (k : Key) (v : Value) : (mixKind prog w).is k v = keyIs k v := rfl
theorem mixKind_int (prog : Program) (w : World) (i : Int) (t : Tok) : (mixKind prog w).is (.inl i) (.int i t) = true := keyIs_int i t
theorem mixKind_str (prog : Program) (w : World) (x : Str) (t : Tok) : (mixKind prog w).is (.inr x) (.str x t) = true := keyIs_str x t
end L2

namespace L2
open PySem PySem.Spec PyProof.Rows

/-- a value, without the heap -/
inductive V where
  | non | bl (b : Bool) | int (i : Int) | str (x : Str) | byt (b : Array UInt8) | flt (b : UInt64) | ref (a : Addr) | ty (n : String)
  deriving DecidableEq

def RelV : V → Value → Prop
  | .non, u => u = Value.none
  | .bl b, u => u = Value.bool b
  | .int i, u => ∃ t, u = Value.int i t
  | .str x, u => ∃ t, u = Value.str x t
  | .byt b, u => ∃ t, u = Value.bytes b t
  | .flt b, u => ∃ t, u = Value.float b t
  | .ref a, u => u = Value.ref a
  | .ty n, u => u = Value.type n

abbrev Vals : List V → List Value → Prop := Paired RelV
theorem Vals.length {xs : List V} {us : List Value} (r : Vals xs us) : xs.length = us.length := Paired.length r
theorem Vals.get : ∀ {xs : List V} {us : List Value} {i : Nat} {x : V}, Vals xs us → xs[i]? = some x → ∃ u, us[i]? = some u ∧ RelV x u
  | _, _, _, _, .nil, e => by simp at e
  | _, _, 0, _, .cons r _, e => by simp at e; subst e; exact ⟨_, rfl, r⟩
  | _, _, i + 1, x, .cons _ t, e => by
    obtain ⟨u, h1, h2⟩ := Vals.get (i := i) (x := x) t (by simpa using e)
    exact ⟨u, by simpa using h1, h2⟩
theorem Vals.set {x : V} {u : Value} (r : RelV x u) : ∀ {xs : List V} {us : List Value} (i : Nat), Vals xs us → Vals (xs.set i x) (us.set i u)
  | _, _, _, .nil => .nil
  | _, _, 0, .cons _ t => .cons r t
  | _, _, i + 1, .cons q t => .cons q (Vals.set r i t)
theorem Vals.append : ∀ {xs ys : List V} {us ws : List Value}, Vals xs us → Vals ys ws → Vals (xs ++ ys) (us ++ ws)
  | _, _, _, _, .nil, s => s
  | _, _, _, _, .cons r t, s => .cons r (Vals.append t s)
theorem Vals.take : ∀ {xs : List V} {us : List Value} (n : Nat), Vals xs us → Vals (xs.take n) (us.take n)
  | _, _, 0, _ => .nil
  | _, _, _ + 1, .nil => .nil
  | _, _, n + 1, .cons r t => .cons r (Vals.take n t)
theorem Vals.drop : ∀ {xs : List V} {us : List Value} (n : Nat), Vals xs us → Vals (xs.drop n) (us.drop n)
  | _, _, 0, r => r
  | _, _, _ + 1, .nil => .nil
  | _, _, n + 1, .cons _ t => Vals.drop n t
theorem Vals.none_of : ∀ {xs : List V} {us : List Value} {i : Nat}, Vals xs us → xs[i]? = none → us[i]? = none := fun {xs us i} r e => by
  have h1 := r.length
  have h2 : xs.length ≤ i := List.getElem?_eq_none_iff.mp e
  exact List.getElem?_eq_none_iff.mpr (by omega)

def RelO : Option V → Option Value → Prop
  | some v, some u => RelV v u
  | none, none => True
  | _, _ => False
def KV {κ : Type} : List (κ × V) → List (κ × Value) → Prop := Paired fun (p : κ × V) (q : κ × Value) => p.1 = q.1 ∧ RelV p.2 q.2

/-- a key of a dict (00_mix): an int or a text -/
def kV : Key → V
  | .inl i => .int i
  | .inr x => .str x

/-- what stands at a tracked address -/
inductive HO where
  /-- a list -/
  | lst (xs : List V)
  /-- a tuple (never changes) -/
  | tup (xs : List V)
  /-- a dict whose keys are ints and texts; one whose keys are tuples of ints and texts (the empty one is both) -/
  | dK (kvs : List (Key × V)) | dT (kvs : List (List Key × V))
  /-- a set of ints: its members, its size -/
  | set (S : Int → Bool) (n : Nat)
  /-- an instance of the class at C, its dict at dx, its attributes -/
  | ins (C dx : Addr) (fs : List (Str × V))
  /-- the dict of the instance at x -/
  | own (x : Addr)
  /-- the dict of an exception -/
  | xd (fs : List (Str × V))
  /-- a bound method, f of x -/
  | met (f x : Addr)
  /-- a range object lo, lo + 1, .. below hi -/
  | rng (lo hi : Int)
  /-- a thing that is known to the object (the script; a dict while a loop walks it): read, never written while it is so -/
  | frz (o : Obj) (u : HO)
  /-- a code object's table -/
  | tbl (ps : Array Value)
  /-- any other thing, by what is true of its one object (a def of one's own: SetO a S n := HO.ext fun h => ..) -/
  | ext (φ : Heap → Prop)

abbrev Hp := Addr → Option HO
def upd (H : Hp) (a : Addr) (o : HO) : Hp := fun b => if b = a then some o else H b
theorem upd_same {H : Hp} {a : Addr} {o : HO} : upd H a o a = some o := by unfold upd; rw [if_pos rfl]
theorem upd_ne {H : Hp} {a b : Addr} {o : HO} (h : b ≠ a) : upd H a o b = H b := by unfold upd; rw [if_neg h]
theorem upd_upd {H : Hp} {a : Addr} {o u : HO} : upd (upd H a o) a u = upd H a u := by
  funext b; unfold upd; split <;> rfl
/-- two objects of different content stand apart -/
theorem ne_of {H : Hp} {a b : Addr} {o u : HO} (h : H a = some o) (h' : H b = some u) (d : o ≠ u) : a ≠ b := by
  intro e; subst e; rw [h] at h'; exact d (Option.some.inj h')
theorem ne_of_none {H : Hp} {a b : Addr} {o : HO} (h : H a = some o) (h' : H b = none) : a ≠ b := by
  intro e; subst e; rw [h] at h'; cases h'

section
variable (P : Program) (w : World)
def ObjOk (H : Hp) (h : Heap) (a : Addr) : HO → Prop
  | .lst xs => xs.length ≤ sizeLine ∧ ∃ (its : List Value) (n : Nat), Vals xs its ∧ h.get? a = some { cls := .type "list", data := .seq its.toArray n }
  | .tup xs => xs.length ≤ sizeLine ∧ ∃ its : List Value, Vals xs its ∧ IsTup h a its.toArray
  | .dK kvs => kvs.length ≤ sizeLine ∧ (a == sysModules) = false ∧ ∃ vs, KV kvs vs ∧ h.DictOf (mixKind P w) a vs
  | .dT kvs => kvs.length ≤ sizeLine ∧ (a == sysModules) = false ∧ ∃ xs : List (List Key × Addr × Value),
      Paired (fun (p : List Key × V) (q : List Key × Addr × Value) => p.1 = q.1 ∧ H q.2.1 = some (.tup (p.1.map kV)) ∧ RelV p.2 q.2.2) kvs xs ∧
      ∃ o es ep, h.get? a = some o ∧ o.ExactDict ∧ o.data = .dict es ep ∧ es.toList = xs.map (entryOfKey (tupleKind (mixKind P w))) ∧ (xs.map (·.1)).Nodup
  | .set S n => h.SetOf (intKind P w) a S n
  | .ins C dx fs => H dx = some (.own a) ∧ fs.length ≤ 1000 ∧ dx ≠ a ∧ h.get? a = some (PySem.W.instObj C dx) ∧
      ∃ mA, h.Ns1 dx mA ∧ (∀ f, RelO (fs.lookup f) (mA f)) ∧ PySem.Within mA (fs.map (·.1))
  | .own _ => ∃ o, h.get? a = some o
  | .xd fs => ∃ mA, h.Ns1 a mA ∧ ∀ f, RelO (fs.lookup f) (mA f)
  | .rng lo hi => ∃ t u v, h.get? a = some { cls := .type "range", data := .fields #[.int lo t, .int hi u, .int 1 v] }
  | .frz o u => h.get? a = some o ∧ ObjOk H h a u
  | .tbl ps => h.get? a = some { cls := .none, data := .fields ps }
  | .met f x => h.get? a = some (PySem.W.methodObj (.ref f) (.ref x))
  | .ext φ => φ h ∧ (∃ o, h.get? a = some o) ∧ ∀ h1 h2 : Heap, φ h1 → (∀ o, h1.get? a = some o → h2.get? a = some o) → φ h2
/-- the abstract heap is held -/
def HOk (H : Hp) (h : Heap) : Prop := ∀ a o, H a = some o → ObjOk P w H h a o
end

section
variable {P : Program} {w : World} {H H' : Hp} {h h' : Heap} {a : Addr} {o : HO}
theorem ObjOk.lt (x : ObjOk P w H h a o) : a < h.objs.size := by
  cases o with
  | lst xs => obtain ⟨_, _, _, _, e⟩ := x; exact Heap.lt_size e
  | tup xs => obtain ⟨_, _, _, p⟩ := x; exact p.lt
  | dK kvs => obtain ⟨_, _, _, _, o, _, _, e, _⟩ := x; exact Heap.lt_size e
  | dT kvs => obtain ⟨_, _, _, _, o, _, _, e, _⟩ := x; exact Heap.lt_size e
  | set S n => obtain ⟨o, _, _, _, e, _⟩ := x; exact Heap.lt_size e
  | ins C dx fs => obtain ⟨_, _, _, e, _⟩ := x; exact Heap.lt_size e
  | own y => obtain ⟨_, e⟩ := x; exact Heap.lt_size e
  | xd fs => obtain ⟨_, ⟨_, _, _, e, _⟩, _⟩ := x; exact Heap.lt_size e
  | rng lo hi => obtain ⟨_, _, _, e⟩ := x; exact Heap.lt_size e
  | frz ob u => obtain ⟨e, _⟩ := x; exact Heap.lt_size e
  | tbl ps => exact Heap.lt_size (show h.get? a = some _ from x)
  | met f y => exact Heap.lt_size (show h.get? a = some _ from x)
  | ext φ => obtain ⟨_, ⟨_, e⟩, _⟩ := x; exact Heap.lt_size e
theorem Paired.mapP {α β : Type} {F G : α → β → Prop} : ∀ {l₁ : List α} {l₂ : List β}, Paired F l₁ l₂ → (∀ a b, F a b → G a b) → Paired G l₁ l₂
  | _, _, .nil, _ => .nil
  | _, _, .cons r t, f => .cons (f _ _ r) (Paired.mapP t f)
theorem Paired.imp' {α β : Type} {F G : α → β → Prop} (f : ∀ a b, F a b → G a b) {l₁ : List α} {l₂ : List β} (r : Paired F l₁ l₂) : Paired G l₁ l₂ := Paired.mapP r f
/-- what an object's description leans on: its own object, its own dict, the tuples -/
theorem ObjOk.stay (x : ObjOk P w H h a o) (k : ∀ b u, (b = a ∨ H b = some (.own a)) → h.get? b = some u → h'.get? b = some u)
    (ho : ∀ b, H b = some (.own a) → H' b = some (.own a)) (ht : ∀ b xs, H b = some (.tup xs) → H' b = some (.tup xs)) : ObjOk P w H' h' a o := by
  induction o with
  | lst xs => obtain ⟨z, its, n, r, e⟩ := x; exact ⟨z, its, n, r, k _ _ (.inl rfl) e⟩
  | tup xs => obtain ⟨z, its, r, ob, e, c⟩ := x; exact ⟨z, its, r, ob, k _ _ (.inl rfl) e, c⟩
  | dK kvs => obtain ⟨z, y, vs, r, ob, es, ep, e, c⟩ := x; exact ⟨z, y, vs, r, ob, es, ep, k _ _ (.inl rfl) e, c⟩
  | dT kvs =>
    obtain ⟨z, y, xs, r, ob, es, ep, e, c⟩ := x
    exact ⟨z, y, xs, Paired.mapP r fun p q z => ⟨z.1, ht _ _ z.2.1, z.2.2⟩, ob, es, ep, k _ _ (.inl rfl) e, c⟩
  | set S n => obtain ⟨ob, es, ep, t, e, c⟩ := x; exact ⟨ob, es, ep, t, k _ _ (.inl rfl) e, c⟩
  | ins C dx fs =>
    obtain ⟨d, z, ne, e, mA, ⟨od, es, ep, e2, c⟩, r⟩ := x
    exact ⟨ho _ d, z, ne, k _ _ (.inl rfl) e, mA, ⟨od, es, ep, k _ _ (.inr d) e2, c⟩, r⟩
  | own y => obtain ⟨ob, e⟩ := x; exact ⟨ob, k _ _ (.inl rfl) e⟩
  | xd fs => obtain ⟨mA, ⟨od, es, ep, e, c⟩, r⟩ := x; exact ⟨mA, ⟨od, es, ep, k _ _ (.inl rfl) e, c⟩, r⟩
  | rng lo hi => obtain ⟨t, u, v, e⟩ := x; exact ⟨t, u, v, k _ _ (.inl rfl) e⟩
  | frz ob u ih => obtain ⟨e, q⟩ := x; exact ⟨k _ _ (.inl rfl) e, ih q⟩
  | tbl ps =>
    have e : h.get? a = some { cls := .none, data := .fields ps } := x
    show h'.get? a = some { cls := .none, data := .fields ps }
    exact k a _ (.inl rfl) e
  | met f y =>
    have e : h.get? a = some (PySem.W.methodObj (.ref f) (.ref y)) := x
    show h'.get? a = some (PySem.W.methodObj (.ref f) (.ref y))
    exact k a _ (.inl rfl) e
  | ext φ => obtain ⟨p, ⟨o, e⟩, st⟩ := x; exact ⟨st _ _ p fun o q => k _ _ (.inl rfl) q, ⟨o, k _ _ (.inl rfl) e⟩, st⟩
theorem HOk.lt (x : HOk P w H h) (e : H a = some o) : a < h.objs.size := (x a o e).lt
theorem HOk.fresh (x : HOk P w H h) (e : h.objs.size ≤ a) : H a = none := by
  cases q : H a with
  | none => rfl
  | some u => exact absurd (Nat.lt_of_lt_of_le (x.lt q) e) (Nat.lt_irrefl _)
/-- every object of the heap is kept -/
theorem HOk.kept (x : HOk P w H h) (k : ∀ b u, h.get? b = some u → h'.get? b = some u) : HOk P w H h' := fun a o e =>
  (x a o e).stay (fun b u _ q => k b u q) (fun _ q => q) fun _ _ q => q
/-- a new object is laid and tracked -/
theorem HOk.laid (x : HOk P w H h) (k : ∀ b u, h.get? b = some u → h'.get? b = some u) (hp : h.objs.size ≤ a) (new : ObjOk P w (upd H a o) h' a o) : HOk P w (upd H a o) h' := fun b u e => by
  have hn := x.fresh hp
  by_cases hb : b = a
  · subst hb; rw [upd_same] at e; cases e; exact new
  · rw [upd_ne hb] at e
    exact (x b u e).stay (fun c v _ q => k c v q) (fun c q => by rw [upd_ne (ne_of_none q hn)]; exact q) fun c xs q => by rw [upd_ne (ne_of_none q hn)]; exact q
end

/-- what may be read as u: it is u, or a known u -/
def Rd (H : Hp) (a : Addr) (u : HO) : Prop := H a = some u ∨ ∃ o, H a = some (.frz o u)
theorem Rd.of {H : Hp} {a : Addr} {u : HO} (h : H a = some u) : Rd H a u := .inl h
theorem Rd.ok {P : Program} {w : World} {H : Hp} {h : Heap} {a : Addr} {u : HO} (r : Rd H a u) (x : HOk P w H h) : ObjOk P w H h a u := by
  rcases r with r | ⟨o, r⟩
  · exact x a u r
  · obtain ⟨_, q⟩ := x a _ r
    exact q
/-- what may be written -/
def Mut : Option HO → Prop
  | some (.lst _) => True
  | some (.dK _) => True
  | some (.dT _) => True
  | some (.set _ _) => True
  | some (.ins _ _ _) => True
  | some (.ext _) => True
  | _ => False
section
variable {P : Program} {w : World} {H : Hp} {h h' : Heap} {x e : Addr} {o' : HO}
/-- the object at e is changed: x itself, or the dict of the instance x -/
theorem HOk.write (ok : HOk P w H h) (mu : Mut (H x)) (he : e = x ∨ H e = some (.own x)) (k : ∀ b u, b ≠ e → h.get? b = some u → h'.get? b = some u) (heo : ∃ u, h'.get? e = some u)
    (new : ObjOk P w (upd H x o') h' x o') : HOk P w (upd H x o') h' := fun b u q => by
  have nown : ∀ c y, H c = some (.own y) → c ≠ x := fun c y r z => by subst z; rw [r] at mu; exact mu
  have ntup : ∀ c xs, H c = some (.tup xs) → c ≠ x := fun c xs r z => by subst z; rw [r] at mu; exact mu
  by_cases hb : b = x
  · subst hb; rw [upd_same] at q; cases q; exact new
  · rw [upd_ne hb] at q
    by_cases hbe : b = e
    · have q' : H b = some (.own x) := by
        rcases he with z | z
        · exact absurd (hbe.trans z) hb
        · rw [hbe]; exact z
      rw [q] at q'; cases q'
      obtain ⟨v, hv⟩ := heo
      exact ⟨v, by rw [hbe]; exact hv⟩
    · refine (ok b u q).stay (fun c v hc r => k c v ?_ r) (fun c r => by rw [upd_ne (nown c b r)]; exact r) fun c xs r => by rw [upd_ne (ntup c xs r)]; exact r
      rcases hc with rfl | hc
      · exact hbe
      · rintro rfl
        rcases he with z | z
        · exact nown c b hc z
        · rw [hc] at z; cases z; exact hb rfl
end

/-! ### kept unless tracked; of the frames at fs (the callers') the slots may change (an exception that passes writes there); of the records at ex (iterators) nothing is said -/
structure Un (fs ex : List Addr) (H H' : Hp) (h h' : Heap) : Prop where
  keep : ∀ b o, h.get? b = some o → H b = none → b ∉ fs → b ∉ ex → h'.get? b = some o
  slot : ∀ b o, h.get? b = some o → H b = none → b ∈ fs → b ∉ ex → ∃ sl, h'.get? b = some { o with slots := sl }
  free : ∀ b o, h.get? b = some o → H b = none → b ∉ ex → H' b = none
  there : ∀ b o, h.get? b = some o → b ∉ ex → ∃ o', h'.get? b = some o'
  tups : ∀ b xs, H b = some (.tup xs) → H' b = some (.tup xs)
  frzs : ∀ b o u, H b = some (.frz o u) → H' b = some (.frz o u)
  tbls : ∀ b ps, H b = some (.tbl ps) → ∃ more, H' b = some (.tbl (ps ++ more))
section
variable {fs fs' ex ex' : List Addr} {H H1 H2 : Hp} {h h1 h2 h' : Heap} {a x e : Addr} {o : HO}
theorem Un.any (u : Un fs ex H H1 h h1) {b : Addr} {ob : Obj} (q : h.get? b = some ob) (n : H b = none) (hx : b ∉ ex) : ∃ sl, h1.get? b = some { ob with slots := sl } := by
  by_cases hb : b ∈ fs
  · exact u.slot b ob q n hb hx
  · exact ⟨ob.slots, u.keep b ob q n hb hx⟩
theorem Un.trans (a : Un fs ex H H1 h h1) (b : Un fs ex H1 H2 h1 h2) : Un fs ex H H2 h h2 where
  keep := fun c ob q n hc hx => b.keep c ob (a.keep c ob q n hc hx) (a.free c ob q n hx) hc hx
  slot := fun c ob q n hc hx => by
    obtain ⟨sl, e1⟩ := a.slot c ob q n hc hx
    obtain ⟨sl', e2⟩ := b.slot c _ e1 (a.free c ob q n hx) hc hx
    exact ⟨sl', e2⟩
  free := fun c ob q n hx => by
    obtain ⟨o', e1⟩ := a.there c ob q hx
    exact b.free c o' e1 (a.free c ob q n hx) hx
  there := fun c ob q hx => by
    obtain ⟨o', e1⟩ := a.there c ob q hx
    exact b.there c o' e1 hx
  tups := fun c xs q => b.tups c xs (a.tups c xs q)
  frzs := fun c ob xs q => b.frzs c ob xs (a.frzs c ob xs q)
  tbls := fun c ps q => by
    obtain ⟨m1, e1⟩ := a.tbls c ps q
    obtain ⟨m2, e2⟩ := b.tbls c _ e1
    exact ⟨m1 ++ m2, by rw [e2, Array.append_assoc]⟩
theorem Un.kept (k : ∀ b u, h.get? b = some u → h'.get? b = some u) : Un fs ex H H h h' :=
  ⟨fun b ob q _ _ _ => k b ob q, fun b ob q _ _ _ => ⟨ob.slots, k b ob q⟩, fun _ _ _ n _ => n, fun b ob q _ => ⟨ob, k b ob q⟩, fun _ _ q => q, fun _ _ _ q => q, fun _ ps q => ⟨#[], by rw [q]; simp⟩⟩
theorem Un.refl : Un fs ex H H h h := Un.kept fun _ _ q => q
theorem Un.laid (k : ∀ b u, h.get? b = some u → h'.get? b = some u) (hp : h.objs.size ≤ a) (hn : H a = none) : Un fs ex H (upd H a o) h h' where
  keep := fun b u q _ _ _ => k b u q
  slot := fun b u q _ _ _ => ⟨u.slots, k b u q⟩
  free := fun b u q n _ => by rw [upd_ne (Nat.ne_of_lt (Nat.lt_of_lt_of_le (Heap.lt_size q) hp))]; exact n
  there := fun b u q _ => ⟨u, k b u q⟩
  tups := fun b xs q => by rw [upd_ne (ne_of_none q hn)]; exact q
  frzs := fun b u xs q => by rw [upd_ne (ne_of_none q hn)]; exact q
  tbls := fun b ps q => ⟨#[], by rw [upd_ne (ne_of_none q hn), q]; simp⟩
theorem Un.write (mu : Mut (H x)) (he : e = x ∨ H e = some (.own x)) (k : ∀ b u, b ≠ e → h.get? b = some u → h'.get? b = some u) (heo : ∃ u, h'.get? e = some u) : Un fs ex H (upd H x o) h h' := by
  have hx : ∀ b, H b = none → b ≠ x := fun b n z => by subst z; rw [n] at mu; exact mu
  have hb : ∀ b, H b = none → b ≠ e := fun b n z => by
    subst z
    rcases he with r | r
    · exact hx b n r
    · rw [n] at r; cases r
  have hm : ∀ b u, H b = some u → ¬ Mut (some u) → b ≠ x := fun b u q nm z => by subst z; rw [q] at mu; exact nm mu
  refine ⟨fun b u q n _ _ => k b u (hb b n) q, fun b u q n _ _ => ⟨u.slots, k b u (hb b n) q⟩, fun b u q n _ => by rw [upd_ne (hx b n)]; exact n, fun b u q _ => ?_,
    fun b xs q => by rw [upd_ne (hm b _ q fun z => z)]; exact q, fun b u xs q => by rw [upd_ne (hm b _ q fun z => z)]; exact q, fun b ps q => ⟨#[], by rw [upd_ne (hm b _ q fun z => z), q]; simp⟩⟩
  by_cases hbe : b = e
  · subst hbe; exact heo
  · exact ⟨u, k b u hbe q⟩
theorem Un.mono (u : Un fs ex H H1 h h1) (hs : ∀ b ∈ fs, b ∈ fs') (hx : ∀ b ∈ ex, b ∈ ex') : Un fs' ex' H H1 h h1 :=
  ⟨fun b ob q n hb he => u.keep b ob q n (fun z => hb (hs b z)) fun z => he (hx b z), fun _ _ q n _ he => u.any q n fun z => he (hx _ z), fun b ob q n he => u.free b ob q n fun z => he (hx b z), fun b ob q he => u.there b ob q fun z => he (hx b z), u.tups, u.frzs, u.tbls⟩
end

/-! ### the heap without what is tracked -/
def trk (h : Heap) (H : Hp) : List Addr := (List.range h.objs.size).filter fun a => (H a).isSome
def hidT (h : Heap) (H : Hp) : Heap := PySem.W.hideAll h (trk h H)
theorem hidT_size (h : Heap) (H : Hp) : (hidT h H).objs.size = h.objs.size := PySem.W.hideAll_size _ _
theorem hidT_get {h : Heap} {H : Hp} {b : Addr} {o : Obj} (e : h.get? b = some o) (n : H b = none) : (hidT h H).get? b = some o :=
  PySem.W.hideAll_get _ e fun hm => by
    have q : (H b).isSome = true := (List.mem_filter.mp hm).2
    rw [n] at q; simp at q
theorem of_hidT {h : Heap} {H : Hp} {b : Addr} {o : Obj} (e : (hidT h H).get? b = some o) : h.get? b = some o ∧ H b = none := by
  have e' : h.get? b = some o := PySem.W.of_hideAll (trk h H) e
  refine ⟨e', ?_⟩
  cases q : H b with
  | none => rfl
  | some x =>
    have hm : b ∈ trk h H := List.mem_filter.mpr ⟨List.mem_range.mpr (Heap.lt_size e'), by simp [q]⟩
    have z : (hidT h H).get? b = none := PySem.W.hideAll_none (trk h H) hm
    rw [z] at e; cases e

/-! ### OpenK's ledger, filled with every new object but one -/
def allNews (g h : Heap) (L : Addr) : List (Addr × Obj) := (List.range h.objs.size).filterMap fun a => if a = L ∨ (g.get? a).isSome = true then none else (h.get? a).map fun o => (a, o)
theorem mem_allNews {g h : Heap} {L a : Addr} {o : Obj} (h1 : a ≠ L) (h2 : g.get? a = none) (h3 : h.get? a = some o) : (a, o) ∈ allNews g h L :=
  List.mem_filterMap.mpr ⟨a, List.mem_range.mpr (Heap.lt_size h3), by simp [h1, h2, h3]⟩
theorem of_mem_allNews {g h : Heap} {L : Addr} {p : Addr × Obj} (hp : p ∈ allNews g h L) : p.1 ≠ L ∧ g.get? p.1 = none ∧ h.get? p.1 = some p.2 := by
  obtain ⟨b, _, e⟩ := List.mem_filterMap.mp hp
  split at e
  · cases e
  · rename_i hn
    cases q : h.get? b with
    | none => rw [q] at e; simp at e
    | some u =>
      rw [q] at e
      simp only [Option.map_some, Option.some.injEq] at e
      subst e
      refine ⟨fun z => hn (.inl z), ?_, q⟩
      show g.get? b = none
      cases r : g.get? b with
      | none => rfl
      | some v => exact (hn (.inr (by simp [r]))).elim
def rest (g h : Heap) (L d : Addr) : List (Addr × Obj) := (allNews g h L).filter fun p => decide (p.1 ≠ d)
theorem rest_ne {g h : Heap} {L d : Addr} : ∀ p ∈ rest g h L d, p.1 ≠ d := fun p hp => of_decide_eq_true (List.mem_filter.mp hp).2
theorem mem_rest {g h : Heap} {L d a : Addr} {o : Obj} (h1 : a ≠ L) (h2 : g.get? a = none) (h3 : h.get? a = some o) (h4 : a ≠ d) : (a, o) ∈ rest g h L d :=
  List.mem_filter.mpr ⟨mem_allNews h1 h2 h3, decide_eq_true h4⟩
theorem news_all {g h : Heap} {L : Addr} : News g L h (allNews g h L) := fun p hp => let ⟨a, b, c⟩ := of_mem_allNews hp; ⟨c, a, b⟩
theorem news_at {g h : Heap} {L d : Addr} {o : Obj} (h1 : d ≠ L) (h2 : g.get? d = none) (h3 : h.get? d = some o) : News g L h ((d, o) :: rest g h L d) := fun p hp => by
  rcases List.mem_cons.mp hp with rfl | hp
  · exact ⟨h3, h1, h2⟩
  · exact news_all p (List.mem_filter.mp hp).1
/-- behind a rule that changed d alone: all else but the frame is kept -/
theorem kept_of_news {g h h' : Heap} {L d : Addr} {m : Str → Option Value} (k : ∀ b o, g.get? b = some o → h.get? b = some o) (F : Fr g L h' m) (N : News g L h' (rest g h L d)) :
    ∀ b o, b ≠ L → b ≠ d → h.get? b = some o → h'.get? b = some o := fun b o h1 h2 e => by
  cases q : g.get? b with
  | some u =>
    have := k b u q
    rw [e] at this; cases this
    exact F.keep b _ q
  | none => exact (N (b, o) (mem_rest h1 q e h2)).1
end L2

namespace L2
open PySem PySem.Spec PyProof.Rows

/-- the module's facts, over the base: the heap at the law's entry without what is tracked there -/
structure Mod (K : PySem.W.Frag) (mg : Str → Option Value) (base : Heap) : Prop where
  kin : K.In base
  glob : base.Ns mainGlobals mg
  blt : ∃ mb, base.Ns builtinsNs mb ∧ ∀ x : Str, x ≠ "__name__" → mb x = bootBuiltins x
  nolimit : base.NoLimit

/-- the context: a def's body (or a comprehension's block) running. base: fixed through the whole law; s₀, H₀: the entry; outer: the frames whose slots others may change (a def's callers); stack: all frames that run;
   ex: iterators that were made ahead of the entry and are walked here (a comprehension's); fn: the names whose cells were made at the entry (a def: all; a comprehension's block: its own); calm: not within an except suite; pn: pins that every state bears; xe: what is wanted of an exception that leaves the code -/
structure Cx where
  prog : Program
  w : World
  K : PySem.W.Frag
  mg : Str → Option Value
  base : Heap
  A : Around
  N : List Str
  s₀ : Shared
  H₀ : Hp
  env : Env
  outer : List Env
  stack : List Env
  ex : List Addr
  fn : Str → Bool
  calm : Bool
  pn : List (Addr × Obj)
  xe : Value → Shared → Prop
/-- the callers' frames -/
def frs (l : List Env) : List Addr := l.filterMap (·.frame)
abbrev Cx.fs (X : Cx) : List Addr := frs X.outer

def Vis (sc : Scope) (x : Str) : Prop := sc.names.lookup x = some .local ∨ sc.names.lookup x = some .cell ∨ sc.names.lookup x = some .free
def Loc (sc : Scope) (x : Str) : Prop := sc.names.lookup x = some .local ∨ sc.names.lookup x = some .cell
def Look (env : Env) (h : Heap) (m : Str → Option Value) (x : Str) (u : Value) : Prop :=
  (env.kindOf x = some .local ∧ m x = some u) ∨ ((env.kindOf x = some .cell ∨ env.kindOf x = some .free) ∧ ∃ c, env.cells.lookup x = some c ∧ h.IsCell c (some u))

structure Cx.Ok (X : Cx) : Prop where
  mod : Mod X.K X.mg X.base
  kind : X.env.scope.kind = .function
  glob : X.env.globals = mainGlobals
  blt : X.env.builtins = builtinsNs
  above : X.s₀.heap.objs.size ≤ X.env.locals
  inj : ∀ x y c, X.env.cells.lookup x = some c → X.env.cells.lookup y = some c → x = y
  has : ∀ x, (X.env.kindOf x = some .cell ∨ X.env.kindOf x = some .free) → ∃ c, X.env.cells.lookup x = some c
  cab : ∀ x c, X.fn x = true → X.env.cells.lookup x = some c → X.s₀.heap.objs.size ≤ c
  hd : X.calm = true → X.A.handled = none
  frames : X.A.frames = some X.stack
  stk : X.stack = X.outer ∨ (X.stack = X.env :: X.outer ∧ X.env.frame = some X.env.locals)
  exf : ∀ b ∈ X.ex, b ≠ X.env.locals ∧ ∀ x c, X.env.cells.lookup x = some c → c ≠ b
  bs : ∀ b o, X.base.get? b = some o → X.s₀.heap.get? b = some o ∧ X.H₀ b = none
  bsz : X.base.objs.size ≤ X.s₀.heap.objs.size
  noex : ∀ b o, X.base.get? b = some o → b ∉ X.ex
  exfs : ∀ b ∈ X.ex, b ∉ X.fs
  funs : X.s₀.heap.FunFrames X.base X.outer
  frf : ∀ b ∈ X.fs, X.H₀ b = none

structure Inv (X : Cx) (pins : List (Addr × Obj)) (σ : List (Option V)) (H : Hp) (s : Shared) : Prop where
  ok : X.Ok
  os : s.os = X.s₀.os
  bare : AllBare s.gens
  base : Un X.fs X.ex X.H₀ H X.s₀.heap s.heap
  loc : ∃ m, s.heap.Ns X.env.locals m ∧ ∀ (i : Nat) (x : Str) (v : V), X.N[i]? = some x → σ[i]? = some (some v) → Vis X.env.scope x → ∃ u, RelV v u ∧ Look X.env s.heap m x u
  cell : ∀ x c, X.env.cells.lookup x = some c → ∃ v, s.heap.IsCell c v
  free : H X.env.locals = none
  freeC : ∀ x c, X.env.cells.lookup x = some c → H c = none
  pin : ∀ p ∈ X.pn ++ pins, s.heap.get? p.1 = some p.2 ∧ H p.1 = none ∧ p.1 ≠ X.env.locals ∧ p.1 ∉ X.fs ∧ ∀ v, p.2.data ≠ .cell v
  hok : HOk X.prog X.w H s.heap
  len : σ.length = X.N.length

section
variable {X : Cx} {pins : List (Addr × Obj)} {σ : List (Option V)} {H H' : Hp} {s : Shared} {h' : Heap}

theorem Cx.Ok.nofr (ok : X.Ok) {b : Addr} {o : Obj} (e : X.base.get? b = some o) : b ∉ X.fs := fun hb => by
  have := (ok.funs.mem hb).1
  rw [e] at this; cases this
theorem Inv.bs (I : Inv X pins σ H s) : ∀ b o, X.base.get? b = some o → s.heap.get? b = some o ∧ H b = none := fun b o e =>
  ⟨I.base.keep b o (I.ok.bs b o e).1 (I.ok.bs b o e).2 (I.ok.nofr e) (I.ok.noex b o e), I.base.free b o (I.ok.bs b o e).1 (I.ok.bs b o e).2 (I.ok.noex b o e)⟩
theorem Inv.bk (I : Inv X pins σ H s) : ∀ b o, X.base.get? b = some o → s.heap.get? b = some o := fun b o e => (I.bs b o e).1
theorem Inv.mod (I : Inv X pins σ H s) : Mod X.K X.mg X.base := I.ok.mod
theorem Inv.kIn (I : Inv X pins σ H s) : X.K.In s.heap := I.ok.mod.kin.keeps I.bk
theorem Inv.nolimit (I : Inv X pins σ H s) : s.heap.NoLimit := I.ok.mod.nolimit.keeps I.bk
/-- the frame over the base: for OpenK's rules (K.In X.base is I.mod.kin) -/
theorem Inv.fr (I : Inv X pins σ H s) : ∃ m, Fr X.base X.env.locals s.heap m :=
  let ⟨m, hn, _⟩ := I.loc
  ⟨m, hn, I.bk, Nat.le_trans I.ok.bsz I.ok.above⟩
theorem Inv.lt (I : Inv X pins σ H s) : X.env.locals < s.heap.objs.size := let ⟨_, hn, _⟩ := I.loc; hn.lt
theorem Inv.sz (I : Inv X pins σ H s) : X.s₀.heap.objs.size ≤ s.heap.objs.size := Nat.le_trans I.ok.above (Nat.le_of_lt I.lt)
theorem Inv.nofs (I : Inv X pins σ H s) {a : Addr} (h : s.heap.objs.size ≤ a) : a ∉ X.fs := fun hb => by
  obtain ⟨_, o, ho, _⟩ := I.ok.funs.mem hb
  exact absurd (Nat.lt_of_lt_of_le (Heap.lt_size ho) (Nat.le_trans I.sz h)) (Nat.lt_irrefl _)
theorem Inv.cne (I : Inv X pins σ H s) : ∀ x c, X.env.cells.lookup x = some c → c ≠ X.env.locals := fun x c e z => by
  obtain ⟨v, o, ho, hd⟩ := I.cell x c e
  obtain ⟨m, ⟨o', es, ep, ho', hd', _⟩, _⟩ := I.loc
  rw [z, ho'] at ho; cases ho; rw [hd'] at hd; cases hd
theorem Inv.funs (I : Inv X pins σ H s) : s.heap.FunFrames X.base X.outer := by
  have all : ∀ (l : List Env), (∀ b ∈ frs l, b ∈ X.fs) → X.s₀.heap.FunFrames X.base l → s.heap.FunFrames X.base l := by
    intro l
    induction l with
    | nil => intro _ _; trivial
    | cons env r ih =>
      intro hs hl
      obtain ⟨hk, ⟨L, o, hf, hn, ho, hd⟩, hr⟩ := hl
      have hL : L ∈ X.fs := hs L (by unfold frs; rw [List.filterMap_cons, hf]; exact List.mem_cons_self)
      obtain ⟨sl, e⟩ := I.base.slot L o ho (I.ok.frf L hL) hL fun z => I.ok.exfs L z hL
      exact ⟨hk, ⟨L, _, hf, hn, e, hd⟩, ih (fun b hb => hs b (by unfold frs; rw [List.filterMap_cons, hf]; exact List.mem_cons_of_mem _ hb)) hr⟩
  exact all X.outer (fun _ hb => hb) I.ok.funs

/-- the frames that run, for a call -/
theorem Inv.stack (I : Inv X pins σ H s) : s.heap.FunFrames X.base X.stack := by
  rcases I.ok.stk with e | ⟨e, hf⟩
  · rw [e]; exact I.funs
  · rw [e]
    obtain ⟨m, hn, _⟩ := I.loc
    refine .cons (by rw [I.ok.kind]; decide) hf hn ?_ I.funs
    exact Heap.get?_none_of_le (Nat.le_trans I.ok.bsz I.ok.above)
theorem Inv.stkSub (I : Inv X pins σ H s) : ∀ b ∈ frs X.stack, b ∈ X.env.locals :: X.fs := fun b hb => by
  rcases I.ok.stk with e | ⟨e, hf⟩
  · rw [e] at hb; exact List.mem_cons_of_mem _ hb
  · rw [e] at hb
    unfold frs at hb
    rw [List.filterMap_cons, hf] at hb
    exact hb
theorem Inv.stkFree (I : Inv X pins σ H s) : ∀ b ∈ frs X.stack, H b = none := fun b hb => by
  rcases List.mem_cons.mp (I.stkSub b hb) with e | hb
  · rw [e]; exact I.free
  · obtain ⟨_, o, ho, _⟩ := I.ok.funs.mem hb
    exact I.base.free b o ho (I.ok.frf b hb) fun z => I.ok.exfs b z hb

/-- THE STEP: the untracked objects but the frame and the records at ch are kept (the callers' frames up to slots), the frame's map is kept, the new abstract heap is held -/
theorem Inv.step {g' : Array GenState} {t' : Nat} {d' : Drawn} {ch : List Addr} (I : Inv X pins σ H s)
    (hch : ∀ b ∈ ch, (b ∈ X.ex ∨ X.s₀.heap.objs.size ≤ b) ∧ b ≠ X.env.locals ∧ (∀ x c, X.env.cells.lookup x = some c → c ≠ b) ∧ ∀ p ∈ X.pn ++ pins, p.1 ≠ b)
    (keep : ∀ b o, b ≠ X.env.locals → b ∉ X.fs → b ∉ ch → s.heap.get? b = some o → H b = none → h'.get? b = some o)
    (slot : ∀ b o, b ≠ X.env.locals → b ∈ X.fs → b ∉ ch → s.heap.get? b = some o → H b = none → ∃ sl, h'.get? b = some { o with slots := sl }) (free : ∀ b o, b ∉ ch → s.heap.get? b = some o → H b = none → H' b = none)
    (there : ∀ b o, b ∉ ch → s.heap.get? b = some o → ∃ o', h'.get? b = some o')
    (tups : ∀ b xs, H b = some (.tup xs) → H' b = some (.tup xs)) (frzs : ∀ b o u, H b = some (.frz o u) → H' b = some (.frz o u)) (tbls : ∀ b ps, H b = some (.tbl ps) → ∃ more, H' b = some (.tbl (ps ++ more)))
    (ns : ∀ m, s.heap.Ns X.env.locals m → h'.Ns X.env.locals m) (hok : HOk X.prog X.w H' h') (hg : AllBare g') :
    Inv X pins σ H' { s with heap := h', gens := g', drawn := d', toks := t' } := by
  have neL : ∀ b o, X.s₀.heap.get? b = some o → b ≠ X.env.locals := fun b o e => Nat.ne_of_lt (Nat.lt_of_lt_of_le (Heap.lt_size e) I.ok.above)
  have neC : ∀ b o, X.s₀.heap.get? b = some o → b ∉ X.ex → b ∉ ch := fun b o e hx hb => by
    rcases (hch b hb).1 with z | z
    · exact hx z
    · exact absurd (Nat.lt_of_lt_of_le (Heap.lt_size e) z) (Nat.lt_irrefl _)
  have cellK : ∀ x c, X.env.cells.lookup x = some c → ∀ v, s.heap.IsCell c v → h'.IsCell c v := fun x c e v ⟨o, ho, hd⟩ => by
    have nch : c ∉ ch := fun z => (hch c z).2.2.1 x c e rfl
    by_cases hc : c ∈ X.fs
    · obtain ⟨sl, q⟩ := slot c o (I.cne x c e) hc nch ho (I.freeC x c e)
      exact ⟨_, q, hd⟩
    · exact ⟨o, keep c o (I.cne x c e) hc nch ho (I.freeC x c e), hd⟩
  refine ⟨I.ok, I.os, hg, ⟨fun b o e n hb hx => ?_, fun b o e n hb hx => ?_, fun b o e n hx => ?_, fun b o e hx => ?_, fun b xs e => tups b xs (I.base.tups b xs e), fun b o xs e => frzs b o xs (I.base.frzs b o xs e), fun b ps e => ?_⟩, ?_, fun x c e => ?_, ?_, fun x c e => ?_, fun p hp => ?_, hok, I.len⟩
  · exact keep b o (neL b o e) hb (neC b o e hx) (I.base.keep b o e n hb hx) (I.base.free b o e n hx)
  · obtain ⟨sl, e1⟩ := I.base.slot b o e n hb hx
    obtain ⟨sl', e2⟩ := slot b _ (neL b o e) hb (neC b o e hx) e1 (I.base.free b o e n hx)
    exact ⟨sl', e2⟩
  · obtain ⟨o', e1⟩ := I.base.there b o e hx
    exact free b o' (neC b o e hx) e1 (I.base.free b o e n hx)
  · obtain ⟨o', e1⟩ := I.base.there b o e hx
    exact there b o' (neC b o e hx) e1
  · obtain ⟨m1, e1⟩ := I.base.tbls b ps e
    obtain ⟨m2, e2⟩ := tbls b _ e1
    exact ⟨m1 ++ m2, by rw [e2, Array.append_assoc]⟩
  · obtain ⟨m, hn, hl⟩ := I.loc
    refine ⟨m, ns m hn, fun i x v e1 e2 e3 => ?_⟩
    obtain ⟨u, r, l⟩ := hl i x v e1 e2 e3
    refine ⟨u, r, ?_⟩
    rcases l with l | ⟨k, c, e, z⟩
    · exact .inl l
    · exact .inr ⟨k, c, e, cellK x c e _ z⟩
  · obtain ⟨v, z⟩ := I.cell x c e
    exact ⟨v, cellK x c e v z⟩
  · obtain ⟨m, ⟨o, _, _, ho, _⟩, _⟩ := I.loc
    exact free _ o (fun z => (hch _ z).2.1 rfl) ho I.free
  · obtain ⟨v, o, ho, hd⟩ := I.cell x c e
    exact free c o (fun z => (hch c z).2.2.1 x c e rfl) ho (I.freeC x c e)
  · obtain ⟨e, n, ne, nf, d⟩ := I.pin p hp
    have nch : p.1 ∉ ch := fun z => (hch p.1 z).2.2.2 p hp rfl
    exact ⟨keep p.1 p.2 ne nf nch e n, free p.1 p.2 nch e n, ne, nf, d⟩
/-- .. where the frame's own object is kept too -/
theorem Inv.un {t' : Nat} (I : Inv X pins σ H s) (u : Un X.fs [] H H' s.heap h') (hok : HOk X.prog X.w H' h') : Inv X pins σ H' { s with heap := h', toks := t' } := by
  obtain ⟨m, ⟨o, es, ep, ho, r⟩, _⟩ := id I.loc
  obtain ⟨sl, hL⟩ := u.any ho I.free (by simp)
  exact I.step (g' := s.gens) (d' := s.drawn) (ch := []) (fun _ z => nomatch z) (fun b o _ hb _ e n => u.keep b o e n hb (by simp)) (fun b o _ hb _ e n => u.slot b o e n hb (by simp)) (fun b o _ e n => u.free b o e n (by simp)) (fun b o _ e => u.there b o e (by simp)) u.tups u.frzs u.tbls (fun m' hm => by
    obtain ⟨o', es', ep', ho', r'⟩ := hm
    rw [ho] at ho'; cases ho'
    exact ⟨_, es', ep', hL, r'⟩) hok I.bare
/-- behind a call (or a comprehension's block): the slots of this frame may have changed too, the records at ch may have turned -/
theorem Inv.call {g' : Array GenState} {t' : Nat} {d' : Drawn} {ch : List Addr} (I : Inv X pins σ H s) (u : Un (frs X.stack) ch H H' s.heap h') (hok : HOk X.prog X.w H' h') (hg : AllBare g')
    (hch : ∀ b ∈ ch, (b ∈ X.ex ∨ X.s₀.heap.objs.size ≤ b) ∧ b ≠ X.env.locals ∧ (∀ x c, X.env.cells.lookup x = some c → c ≠ b) ∧ ∀ p ∈ X.pn ++ pins, p.1 ≠ b) :
    Inv X pins σ H' { s with heap := h', gens := g', drawn := d', toks := t' } := by
  obtain ⟨m, ⟨o, es, ep, ho, r⟩, _⟩ := id I.loc
  obtain ⟨sl, hL⟩ := u.any ho I.free fun z => (hch _ z).2.1 rfl
  exact I.step (ch := ch) hch (fun b o hL hb hc e n => u.keep b o e n (fun z => (List.mem_cons.mp (I.stkSub b z)).elim hL hb) hc) (fun b o _ _ hc e n => u.any e n hc) (fun b o hc e n => u.free b o e n hc) (fun b o hc e => u.there b o e hc) u.tups u.frzs u.tbls (fun m' hm => by
    obtain ⟨o', es', ep', ho', r'⟩ := hm
    rw [ho] at ho'; cases ho'
    exact ⟨_, es', ep', hL, r'⟩) hok hg
/-- an untracked record of ours (an iterator) has turned -/
theorem Inv.turned {t' : Nat} {it : Addr} (I : Inv X pins σ H s) (k : ∀ b o, b ≠ it → s.heap.get? b = some o → h'.get? b = some o) (hn : H it = none) (hL : it ≠ X.env.locals)
    (h1 : it ∈ X.ex ∨ X.s₀.heap.objs.size ≤ it) (h2 : ∀ x c, X.env.cells.lookup x = some c → c ≠ it) (h3 : ∀ p ∈ X.pn ++ pins, p.1 ≠ it) : Inv X pins σ H { s with heap := h', toks := t' } := by
  have nit : ∀ b u, H b = some u → b ≠ it := fun b u e z => by rw [z, hn] at e; cases e
  refine I.step (g' := s.gens) (d' := s.drawn) (ch := [it]) (fun b hb => ?_) (fun b o _ _ hc e _ => k b o (fun z => hc (by simp [z])) e) (fun b o _ _ hc e _ => ⟨o.slots, k b o (fun z => hc (by simp [z])) e⟩) (fun _ _ _ _ n => n)
    (fun b o hc e => ⟨o, k b o (fun z => hc (by simp [z])) e⟩) (fun _ _ e => e) (fun _ _ _ e => e) (fun b ps e => ⟨#[], by rw [e]; simp⟩) (fun m hm => ?_) (fun b u e => ?_) I.bare
  · have e : b = it := by simpa using hb
    subst e
    exact ⟨h1, hL, h2, h3⟩
  · obtain ⟨o, es, ep, ho, r⟩ := hm
    exact ⟨o, es, ep, k _ o (Ne.symm hL) ho, r⟩
  · refine (I.hok b u e).stay (fun c v hc q => k c v ?_ q) (fun _ q => q) fun _ _ q => q
    rcases hc with z | z
    · rw [z]; exact nit b u e
    · exact nit c _ z
theorem Inv.tok (I : Inv X pins σ H s) (t : Nat) : Inv X pins σ H { s with toks := t } := I.un (h' := s.heap) (t' := t) Un.refl I.hok
/-- all objects kept -/
theorem Inv.kept {t' : Nat} (I : Inv X pins σ H s) (k : ∀ b u, s.heap.get? b = some u → h'.get? b = some u) : Inv X pins σ H { s with heap := h', toks := t' } := I.un (Un.kept k) (I.hok.kept k)
/-- a new object laid and tracked -/
theorem Inv.laid {a : Addr} {o : HO} {t' : Nat} (I : Inv X pins σ H s) (k : ∀ b u, s.heap.get? b = some u → h'.get? b = some u) (hp : s.heap.objs.size ≤ a) (new : ObjOk X.prog X.w (upd H a o) h' a o) :
    Inv X pins σ (upd H a o) { s with heap := h', toks := t' } := I.un (Un.laid k hp (I.hok.fresh hp)) (I.hok.laid k hp new)
/-- an object written -/
theorem Inv.write {x e : Addr} {o : HO} {t' : Nat} (I : Inv X pins σ H s) (mu : Mut (H x)) (he : e = x ∨ H e = some (.own x)) (k : ∀ b u, b ≠ e → s.heap.get? b = some u → h'.get? b = some u) (heo : ∃ u, h'.get? e = some u)
    (new : ObjOk X.prog X.w (upd H x o) h' x o) : Inv X pins σ (upd H x o) { s with heap := h', toks := t' } := I.un (Un.write mu he k heo) (I.hok.write mu he k heo new)
/-- forgetting slots, pins -/
theorem Inv.weak {σ' : List (Option V)} (I : Inv X pins σ H s) (hl : σ'.length = σ.length) (w : ∀ (i : Nat) v, σ'[i]? = some (some v) → σ[i]? = some (some v)) : Inv X pins σ' H s :=
  ⟨I.ok, I.os, I.bare, I.base, let ⟨m, hn, hl'⟩ := I.loc; ⟨m, hn, fun i x v e1 e2 e3 => hl' i x v e1 (w i v e2) e3⟩, I.cell, I.free, I.freeC, I.pin, I.hok, hl.trans I.len⟩
theorem Inv.pins_of {pins' : List (Addr × Obj)} (I : Inv X pins σ H s) (h : ∀ p ∈ pins', s.heap.get? p.1 = some p.2 ∧ H p.1 = none ∧ p.1 ≠ X.env.locals ∧ p.1 ∉ X.fs ∧ ∀ v, p.2.data ≠ .cell v) : Inv X pins' σ H s :=
  ⟨I.ok, I.os, I.bare, I.base, I.loc, I.cell, I.free, I.freeC, fun p hp => (List.mem_append.mp hp).elim (fun z => I.pin p (List.mem_append_left _ z)) (h p), I.hok, I.len⟩

theorem nodup_ix {N : List Str} (hN : N.Nodup) {i j : Nat} {x : Str} (a : N[i]? = some x) (b : N[j]? = some x) : i = j := by
  obtain ⟨h1, e1⟩ := List.getElem?_eq_some_iff.mp a
  obtain ⟨h2, e2⟩ := List.getElem?_eq_some_iff.mp b
  exact (List.getElem_inj hN).mp (e1.trans e2.symm)

/-- a name is stored; what changed -/
theorem store_ok2 {M : Model} {A : Around} {E : Value → Shared → Prop} {i : Nat} {x : Str} {v : V} {u : Value} {Q : Unit → Shared → Prop} (I : Inv X pins σ H s) (hN : X.N.Nodup) (hi : X.N[i]? = some x) (hx : Loc X.env.scope x) (r : RelV v u)
    (h : ∀ s', Inv X pins (σ.set i (some v)) H s' → (∃ a, Heap.SameBut a s.heap s'.heap ∧ (a = X.env.locals ∨ X.env.cells.lookup x = some a)) → Q () s') (hf : X.fn x = true ∨ X.env.scope.names.lookup x = some .local := by first | exact .inl rfl | exact .inr rfl | assumption) : wpAny M A (storeName X.env x u) Q E s := by
  obtain ⟨m, hn, hl⟩ := id I.loc
  have hcls : (X.env.scope.kind == .class || (X.env.scope.kind == .module && X.env.locals != X.env.globals)) = false := by rw [I.ok.kind]; rfl
  have hiσ : i < σ.length := by rw [I.len]; exact (List.getElem?_eq_some_iff.mp hi).1
  have cne := I.cne
  have tracked : ∀ {a : Addr} {h' : Heap}, (∃ o, s.heap.get? a = some o ∧ H a = none) → Heap.SameBut a s.heap h' → HOk X.prog X.w H h' := fun {a h'} ha hs b ob e => by
    obtain ⟨_, _, hfree⟩ := ha
    refine (I.hok b ob e).stay (fun c w' hc q => (hs.2 c ?_).trans q) (fun _ q => q) fun _ _ q => q
    rintro rfl
    rcases hc with rfl | hc
    · rw [hfree] at e; cases e
    · rw [hfree] at hc; cases hc
  rcases hx with hk | hk
  · refine wpAny_storeName_local hk hn (fun h' hn' hs => ?_) hcls
    obtain ⟨oL, _, _, hoL, _⟩ := id hn
    refine h _ ⟨I.ok, I.os, I.bare, ⟨fun b o e n hb hx => ?_, fun b o e n hb hx => ?_, I.base.free, fun b o e hx => ?_, I.base.tups, I.base.frzs, I.base.tbls⟩, ⟨_, hn', fun j y v' e1 e2 e3 => ?_⟩, fun y c e => ?_, I.free, I.freeC, fun p hp => ?_, tracked ⟨oL, hoL, I.free⟩ hs, by simpa using I.len⟩ ⟨_, hs, .inl rfl⟩
    · exact (hs.2 b (Nat.ne_of_lt (Nat.lt_of_lt_of_le (Heap.lt_size e) I.ok.above))).trans (I.base.keep b o e n hb hx)
    · obtain ⟨sl, e1⟩ := I.base.slot b o e n hb hx
      exact ⟨sl, (hs.2 b (Nat.ne_of_lt (Nat.lt_of_lt_of_le (Heap.lt_size e) I.ok.above))).trans e1⟩
    · obtain ⟨o', e1⟩ := I.base.there b o e hx
      exact ⟨o', (hs.2 b (Nat.ne_of_lt (Nat.lt_of_lt_of_le (Heap.lt_size e) I.ok.above))).trans e1⟩
    · by_cases hj : j = i
      · subst hj
        rw [hi] at e1; cases e1
        rw [List.getElem?_set_self hiσ] at e2
        cases e2
        exact ⟨u, r, .inl ⟨hk, by simp⟩⟩
      · rw [List.getElem?_set_ne (Ne.symm hj)] at e2
        obtain ⟨u', r', q⟩ := hl j y v' e1 e2 e3
        refine ⟨u', r', ?_⟩
        rcases q with ⟨k, e⟩ | ⟨k, c, e, z⟩
        · refine .inl ⟨k, ?_⟩
          have : y ≠ x := fun e => hj (nodup_ix hN e1 (e ▸ hi))
          simp [this, e]
        · exact .inr ⟨k, c, e, z.sameBut hs (cne y c e)⟩
    · obtain ⟨w', z⟩ := I.cell y c e
      exact ⟨w', z.sameBut hs (cne y c e)⟩
    · obtain ⟨e, n, ne, nf, d⟩ := I.pin p hp
      exact ⟨(hs.2 p.1 ne).trans e, n, ne, nf, d⟩
  · have hfn : X.fn x = true := by
      rcases hf with z | z
      · exact z
      · rw [z] at hk; cases hk
    obtain ⟨c, hc⟩ := I.ok.has x (.inl hk)
    obtain ⟨w', z⟩ := I.cell x c hc
    refine wpAny_storeName_cell I.ok.kind hk hc z (fun h' hc' hs => ?_)
    obtain ⟨oc, hoc, hocd⟩ := id z
    refine h { s with heap := h' } ⟨I.ok, I.os, I.bare, ⟨fun b o e n hb hx => ?_, fun b o e n hb hx => ?_, I.base.free, fun b o e hx => ?_, I.base.tups, I.base.frzs, I.base.tbls⟩, ⟨m, hn.sameBut hs (Ne.symm (cne x c hc)), fun j y v' e1 e2 e3 => ?_⟩, fun y c' e => ?_, I.free, I.freeC, fun p hp => ?_, tracked ⟨oc, hoc, I.freeC x c hc⟩ hs, by simpa using I.len⟩ ⟨c, hs, .inr hc⟩
    · exact (hs.2 b (Nat.ne_of_lt (Nat.lt_of_lt_of_le (Heap.lt_size e) (I.ok.cab x c hfn hc)))).trans (I.base.keep b o e n hb hx)
    · obtain ⟨sl, e1⟩ := I.base.slot b o e n hb hx
      exact ⟨sl, (hs.2 b (Nat.ne_of_lt (Nat.lt_of_lt_of_le (Heap.lt_size e) (I.ok.cab x c hfn hc)))).trans e1⟩
    · obtain ⟨o', e1⟩ := I.base.there b o e hx
      exact ⟨o', (hs.2 b (Nat.ne_of_lt (Nat.lt_of_lt_of_le (Heap.lt_size e) (I.ok.cab x c hfn hc)))).trans e1⟩
    · by_cases hj : j = i
      · subst hj
        rw [hi] at e1; cases e1
        rw [List.getElem?_set_self hiσ] at e2
        cases e2
        exact ⟨u, r, .inr ⟨.inl hk, c, hc, hc'⟩⟩
      · rw [List.getElem?_set_ne (Ne.symm hj)] at e2
        obtain ⟨u', r', q⟩ := hl j y v' e1 e2 e3
        refine ⟨u', r', ?_⟩
        rcases q with q | ⟨k, c', e, z'⟩
        · exact .inl q
        · refine .inr ⟨k, c', e, z'.sameBut hs ?_⟩
          rintro rfl
          exact hj (nodup_ix hN e1 (I.ok.inj _ _ _ e hc ▸ hi))
    · by_cases hcc : c' = c
      · subst hcc; exact ⟨_, hc'⟩
      · obtain ⟨w2, z2⟩ := I.cell y c' e
        exact ⟨w2, z2.sameBut hs hcc⟩
    · obtain ⟨e, n, ne, nf, d⟩ := I.pin p hp
      refine ⟨(hs.2 p.1 ?_).trans e, n, ne, nf, d⟩
      intro q
      rw [q, hoc] at e
      have q' : oc = p.2 := Option.some.inj e
      exact d w' (by rw [← q']; exact hocd)
theorem store_ok {M : Model} {A : Around} {E : Value → Shared → Prop} {i : Nat} {x : Str} {v : V} {u : Value} {Q : Unit → Shared → Prop} (I : Inv X pins σ H s) (hN : X.N.Nodup) (hi : X.N[i]? = some x) (hx : Loc X.env.scope x) (r : RelV v u)
    (h : ∀ s', Inv X pins (σ.set i (some v)) H s' → Q () s') (hf : X.fn x = true ∨ X.env.scope.names.lookup x = some .local := by first | exact .inl rfl | exact .inr rfl | assumption) : wpAny M A (storeName X.env x u) Q E s :=
  store_ok2 I hN hi hx r (fun s' I' _ => h s' I') hf
/-- behind a call or a block, the state as it is -/
theorem Inv.call' {s' : Shared} {ch : List Addr} (I : Inv X pins σ H s) (ho : s'.os = s.os) (u : Un (frs X.stack) ch H H' s.heap s'.heap) (hok : HOk X.prog X.w H' s'.heap) (hg : AllBare s'.gens)
    (hch : ∀ b ∈ ch, (b ∈ X.ex ∨ X.s₀.heap.objs.size ≤ b) ∧ b ≠ X.env.locals ∧ (∀ x c, X.env.cells.lookup x = some c → c ≠ b) ∧ ∀ p ∈ X.pn ++ pins, p.1 ≠ b) : Inv X pins σ H' s' := by
  obtain ⟨h', g', d', t', o'⟩ := s'
  have e : o' = s.os := ho
  subst e
  exact I.call (g' := g') (t' := t') (d' := d') u hok hg hch
end

/-! ### the judgements -/
/-- an exception: its class, its own dict's address (where it has one), the abstract heap behind it -/
abbrev XK := Value → Option Addr → Hp → Prop
abbrev St := List (Option V)
abbrev VK := V → Hp → Prop
/-- an expression's reading; a test's; an argument list's -/
abbrev TE := St → Hp → VK → Prop
abbrev TT := St → Hp → (Bool → Hp → Prop) → Prop
abbrev TA := St → Hp → (List V → Hp → Prop) → Prop
/-- what is wanted behind a statement -/
structure Ends where
  nx : St → Hp → Prop
  rt : VK
  bk : St → Hp → Prop := fun _ _ => False
  ct : St → Hp → Prop := fun _ _ => False
abbrev TS := Ends → St → Hp → Prop

def EP (X : Cx) (pins : List (Addr × Obj)) (σ : St) (Q : VK) (u : Value) (s' : Shared) : Prop := ∃ v H', Inv X pins σ H' s' ∧ RelV v u ∧ Q v H'
def TP (X : Cx) (pins : List (Addr × Obj)) (σ : St) (Q : Bool → Hp → Prop) (b : Bool) (s' : Shared) : Prop := ∃ H', Inv X pins σ H' s' ∧ Q b H'
def AP (X : Cx) (pins : List (Addr × Obj)) (σ : St) (Q : List V → Hp → Prop) (us : List Value) (s' : Shared) : Prop := ∃ vs H', Inv X pins σ H' s' ∧ Vals vs us ∧ Q vs H'
def SP (X : Cx) (pins : List (Addr × Obj)) (D : Ends) (f : Flow) (s' : Shared) : Prop :=
  match f with
  | .next => ∃ σ' H', Inv X pins σ' H' s' ∧ D.nx σ' H'
  | .brk => ∃ σ' H', Inv X pins σ' H' s' ∧ D.bk σ' H'
  | .cont => ∃ σ' H', Inv X pins σ' H' s' ∧ D.ct σ' H'
  | .ret u => ∃ v σ' H', Inv X pins σ' H' s' ∧ RelV v u ∧ D.rt v H'

def PE (X : Cx) (e : Expr) (t : TE) : Prop :=
  ∀ (pins : List (Addr × Obj)) (s : Shared) (σ : St) (H : Hp) (Q : VK), Inv X pins σ H s → t σ H Q → wpAny (model X.prog X.w) X.A (eval e X.env) (EP X pins σ Q) X.xe s
def PT (X : Cx) (e : Expr) (t : TT) : Prop :=
  ∀ (pins : List (Addr × Obj)) (s : Shared) (σ : St) (H : Hp) (Q : Bool → Hp → Prop), Inv X pins σ H s → t σ H Q → wpAny (model X.prog X.w) X.A (isTrue e X.env (eval e X.env)) (TP X pins σ Q) X.xe s
/-- a test whatever its 'whole' is (and, or) -/
def PW (X : Cx) (e : Expr) (t : TT) : Prop :=
  ∀ (whole : Sem Value) (pins : List (Addr × Obj)) (s : Shared) (σ : St) (H : Hp) (Q : Bool → Hp → Prop), Inv X pins σ H s → t σ H Q → wpAny (model X.prog X.w) X.A (isTrue e X.env whole) (TP X pins σ Q) X.xe s
theorem PW.pt {X : Cx} {e : Expr} {t : TT} (h : PW X e t) : PT X e t := h _
/-- an argument list (no star), from the left -/
def PA (X : Cx) (es : List Expr) (t : TA) : Prop :=
  ∀ (pos : Pos) (pins : List (Addr × Obj)) (s : Shared) (σ : St) (H : Hp) (Q : List V → Hp → Prop), Inv X pins σ H s → t σ H Q → wpAny (model X.prog X.w) X.A (spliced (backTo pos (starEach es X.env))) (AP X pins σ Q) X.xe s
def PS (X : Cx) (st : Stmt) (t : TS) : Prop :=
  ∀ (pins : List (Addr × Obj)) (s : Shared) (σ : St) (H : Hp) (D : Ends), Inv X pins σ H s → t D σ H → wpAny (model X.prog X.w) X.A (exec st X.env) (SP X pins D) X.xe s
def PSs (X : Cx) (st : List Stmt) (t : TS) : Prop :=
  ∀ (pins : List (Addr × Obj)) (s : Shared) (σ : St) (H : Hp) (D : Ends), Inv X pins σ H s → t D σ H → wpAny (model X.prog X.w) X.A (execs st X.env) (SP X pins D) X.xe s
/-- weaken the end -/
theorem thn {α : Type} {t : Sem α} {Q Q' : α → Shared → Prop} {M : Model} {A : Around} {E : Value → Shared → Prop} {s : Shared} (h : wpAny M A t Q E s) (hQ : ∀ a s, Q a s → Q' a s) : wpAny M A t Q' E s := wpAny_mono h hQ fun _ _ x => x
end L2

namespace L2
open PySem PySem.Spec PyProof.Rows
section
variable {X : Cx}

/-- two expressions in a row -/
theorem bin {a b : Expr} {ta tb : TE} (ha : PE X a ta) (hb : PE X b tb) {pins : List (Addr × Obj)} {s : Shared} {σ : St} {H : Hp} {R : V → V → Hp → Prop} (I : Inv X pins σ H s) (h : ta σ H fun x H1 => tb σ H1 fun y H2 => R x y H2)
    {α : Type} {Q : α → Shared → Prop} {f : Value → Value → Sem α}
    (hf : ∀ v u s2 x y H2, Inv X pins σ H2 s2 → RelV x v → RelV y u → R x y H2 → wpAny (model X.prog X.w) X.A (f v u) Q X.xe s2) :
    wpAny (model X.prog X.w) X.A (eval a X.env) (fun v s₁ => wpAny (model X.prog X.w) X.A (eval b X.env) (fun u s₂ => wpAny (model X.prog X.w) X.A (f v u) Q X.xe s₂) X.xe s₁) X.xe s := by
  refine thn (ha pins s σ H _ I h) fun v s1 ⟨x, H1, I1, r1, q1⟩ => ?_
  refine thn (hb pins s1 σ H1 _ I1 q1) fun u s2 ⟨y, H2, I2, r2, q2⟩ => ?_
  exact hf v u s2 x y H2 I2 r1 r2 q2

/-! ### names and constants -/
def tVar (i : Nat) : TE := fun σ H Q => ∃ v, σ[i]? = some (some v) ∧ Q v H
def tC (v : V) : TE := fun _ H Q => Q v H
theorem pe_var {i : Nat} {x : Str} {pos : Pos} (hN : X.N[i]? = some x) (hv : Vis X.env.scope x) (hd : (x == ("__debug__" : Str)) = false := by decide) (hcd : (x == ("__classdict__" : Str)) = false := by decide) : PE X (.Name x pos) (tVar i) := by
  intro pins s σ H Q I h
  obtain ⟨v, e, h⟩ := h
  obtain ⟨m, hn, hl⟩ := I.loc
  obtain ⟨u, r, l⟩ := hl i x v hN e hv
  have fin : EP X pins σ Q u s := ⟨v, H, I, r, h⟩
  rcases l with ⟨hk, hm⟩ | ⟨hk, c, hc, hcell⟩
  · exact wpAny_Name (wpAny_loadName_local I.ok.kind hk hn hm fin) hd
  · rcases hk with hk | hk
    · exact wpAny_Name (wpAny_loadName_cell I.ok.kind hk hc hcell fin) hd
    · exact wpAny_Name (wpAny_loadName_free I.ok.kind hk hc hcell fin hcd) hd
theorem pe_int {i j pos} : PE X (.Constant (.int i) j pos) (tC (.int i)) := fun _ _ _ H _ I h => wpAny_Constant_int ⟨.int i, H, I.tok _, ⟨_, rfl⟩, h⟩
theorem pe_bl {b j pos} : PE X (.Constant (.bool b) j pos) (tC (.bl b)) := fun _ _ _ H _ I h => Constant_bool ⟨.bl b, H, I, rfl, h⟩
theorem pe_non {j pos} : PE X (.Constant .none j pos) (tC .non) := fun _ _ _ H _ I h => Constant_none ⟨.non, H, I, rfl, h⟩
theorem pe_str {x j pos} : PE X (.Constant (.str x) j pos) (tC (.str x)) := fun _ _ _ H _ I h => Calls.Constant_str ⟨.str x, H, I.tok _, ⟨_, rfl⟩, h⟩

/-- a global name of the def -/
def Gl (X : Cx) (x : Str) : Prop := X.env.kindOf x = some .globalImplicit
theorem ld_glob {E : Value → Shared → Prop} {pins : List (Addr × Obj)} {s : Shared} {σ : St} {H : Hp} {x : Str} {u : Value} {pos : Pos} {Q : Value → Shared → Prop} (I : Inv X pins σ H s) (hg : Gl X x) (hm : X.mg x = some u) (h : Q u s)
    (hd : (x == ("__debug__" : Str)) = false := by decide) : wpAny (model X.prog X.w) X.A (eval (.Name x pos) X.env) Q E s :=
  Calls.Name_function_global I.ok.kind hg (Calls.loadGlobal_global (by rw [I.ok.glob]; exact I.mod.glob.keeps I.bk) hm h) hd
theorem ld_blt {E : Value → Shared → Prop} {pins : List (Addr × Obj)} {s : Shared} {σ : St} {H : Hp} {x : Str} {u : Value} {pos : Pos} {Q : Value → Shared → Prop} (I : Inv X pins σ H s) (hg : Gl X x) (hm : X.mg x = none) (hv : bootBuiltins x = some u) (h : Q u s)
    (hn : x ≠ "__name__" := by decide) (hd : (x == ("__debug__" : Str)) = false := by decide) : wpAny (model X.prog X.w) X.A (eval (.Name x pos) X.env) Q E s := by
  obtain ⟨mb, h1, h2⟩ := I.mod.blt
  exact Calls.Name_function_global I.ok.kind hg (Calls.loadGlobal_builtin (by rw [I.ok.glob]; exact I.mod.glob.keeps I.bk) hm (by rw [I.ok.blt]; exact h1.keeps I.bk) ((h2 x hn).trans hv) h) hd
/-- a module's constant, a class, a function, as a value -/
theorem pe_glob {x : Str} {v : V} {u : Value} {pos : Pos} (hg : Gl X x) (hm : X.mg x = some u) (r : RelV v u) (hd : (x == ("__debug__" : Str)) = false := by decide) : PE X (.Name x pos) (tC v) :=
  fun _ _ _ H _ I h => ld_glob I hg hm ⟨v, H, I, r, h⟩ hd
theorem pe_bltn {x : Str} {v : V} {u : Value} {pos : Pos} (hg : Gl X x) (hm : X.mg x = none) (hv : bootBuiltins x = some u) (r : RelV v u) (hn : x ≠ "__name__" := by decide) (hd : (x == ("__debug__" : Str)) = false := by decide) : PE X (.Name x pos) (tC v) :=
  fun _ _ _ H _ I h => ld_blt I hg hm hv ⟨v, H, I, r, h⟩ hn hd

/-! ### arithmetic -/
/-- two ints -/
def t2I (ta tb : TE) (k : Int → Int → Hp → Prop) : St → Hp → Prop := fun σ H => ta σ H fun x H1 => tb σ H1 fun y H2 => ∃ i j, x = .int i ∧ y = .int j ∧ k i j H2
def tAdd (ta tb : TE) : TE := fun σ H Q => t2I ta tb (fun i j H2 => Q (.int (i + j)) H2) σ H
def tSub (ta tb : TE) : TE := fun σ H Q => t2I ta tb (fun i j H2 => Q (.int (i - j)) H2) σ H
/-- the left factor below 2^64 -/
def tMul (ta tb : TE) : TE := fun σ H Q => t2I ta tb (fun i j H2 => (-(2 ^ 64) < i ∧ i < 2 ^ 64) ∧ Q (.int (i * j)) H2) σ H
variable {a b : Expr} {ta tb : TE} {pos : Pos}
theorem pe_add (ha : PE X a ta) (hb : PE X b tb) : PE X (.BinOp a .Add b pos) (tAdd ta tb) := by
  intro pins s σ H Q I h
  refine wpAny_BinOp (bin ha hb I h fun v u s2 x y H2 I2 rx ry q => ?_)
  obtain ⟨i, j, rfl, rfl, q⟩ := q
  obtain ⟨t, rfl⟩ := rx
  obtain ⟨t', rfl⟩ := ry
  exact add_int ⟨.int _, H2, I2.tok _, ⟨_, rfl⟩, q⟩
theorem pe_sub (ha : PE X a ta) (hb : PE X b tb) : PE X (.BinOp a .Sub b pos) (tSub ta tb) := by
  intro pins s σ H Q I h
  refine wpAny_BinOp (bin ha hb I h fun v u s2 x y H2 I2 rx ry q => ?_)
  obtain ⟨i, j, rfl, rfl, q⟩ := q
  obtain ⟨t, rfl⟩ := rx
  obtain ⟨t', rfl⟩ := ry
  exact sub_int ⟨.int _, H2, I2.tok _, ⟨_, rfl⟩, q⟩
theorem pe_mul (ha : PE X a ta) (hb : PE X b tb) : PE X (.BinOp a .Mult b pos) (tMul ta tb) := by
  intro pins s σ H Q I h
  refine wpAny_BinOp (bin ha hb I h fun v u s2 x y H2 I2 rx ry q => ?_)
  obtain ⟨i, j, rfl, rfl, ⟨q1, q2⟩, q⟩ := q
  obtain ⟨t, rfl⟩ := rx
  obtain ⟨t', rfl⟩ := ry
  exact mul_int ⟨.int _, H2, I2.tok _, ⟨_, rfl⟩, q⟩ (.of_left (intBits_le_64 q1 q2))

/-! ### comparisons -/
def PC (X : Cx) (op : CmpOp) (a b : Expr) (t : TE) : Prop :=
  ∀ (pins : List (Addr × Obj)) (s : Shared) (σ : St) (H : Hp) (Q : VK), Inv X pins σ H s → t σ H Q →
    wpAny (model X.prog X.w) X.A (eval a X.env) (fun v s₁ => wpAny (model X.prog X.w) X.A (eval b X.env) (fun u s₂ => wpAny (model X.prog X.w) X.A (compareOp op v u) (EP X pins σ Q) X.xe s₂) X.xe s₁) X.xe s
theorem nobehind (b : Expr) {op : CmpOp} (h : op ≠ .In) (h2 : op ≠ .NotIn) : behindInMarks op b = false := by
  have e1 : (op == CmpOp.In) = false := by cases op <;> first | rfl | exact absurd rfl h
  have e2 : (op == CmpOp.NotIn) = false := by cases op <;> first | rfl | exact absurd rfl h2
  cases b <;> simp [behindInMarks, e1, e2]
def tCmp (p : Int → Int → Bool) (ta tb : TE) : TE := fun σ H Q => t2I ta tb (fun i j H2 => Q (.bl (p i j)) H2) σ H
abbrev tLt : TE → TE → TE := tCmp fun i j => decide (i < j)
abbrev tLe : TE → TE → TE := tCmp fun i j => decide (i ≤ j)
abbrev tGt : TE → TE → TE := tCmp fun i j => decide (j < i)
abbrev tGe : TE → TE → TE := tCmp fun i j => decide (j ≤ i)
abbrev tEqI : TE → TE → TE := tCmp fun i j => decide (i = j)
abbrev tNeI : TE → TE → TE := tCmp fun i j => !decide (i = j)
/-- a comparison of two ints, by its rule -/
theorem pc_int {op : CmpOp} {p : Int → Int → Bool} (ha : PE X a ta) (hb : PE X b tb)
    (rule : ∀ (i j : Int) (t u : Tok) (Q : Value → Shared → Prop) (s : Shared), Q (.bool (p i j)) s → wpAny (model X.prog X.w) X.A (compareOp op (.int i t) (.int j u)) Q X.xe s) : PC X op a b (tCmp p ta tb) := by
  intro pins s σ H Q I h
  refine bin ha hb I h fun v u s2 x y H2 I2 rx ry q => ?_
  obtain ⟨i, j, rfl, rfl, q⟩ := q
  obtain ⟨t, rfl⟩ := rx
  obtain ⟨t', rfl⟩ := ry
  exact rule i j t t' _ s2 ⟨.bl _, H2, I2, rfl, q⟩
theorem pc_lt (ha : PE X a ta) (hb : PE X b tb) : PC X .Lt a b (tLt ta tb) := pc_int ha hb fun _ _ _ _ _ _ h => lt_int h
theorem pc_le (ha : PE X a ta) (hb : PE X b tb) : PC X .LtE a b (tLe ta tb) := pc_int ha hb fun _ _ _ _ _ _ h => le_int h
theorem pc_gt (ha : PE X a ta) (hb : PE X b tb) : PC X .Gt a b (tGt ta tb) := pc_int ha hb fun _ _ _ _ _ _ h => gt_int h
theorem pc_ge (ha : PE X a ta) (hb : PE X b tb) : PC X .GtE a b (tGe ta tb) := pc_int ha hb fun _ _ _ _ _ _ h => ge_int h
theorem pc_eqI (ha : PE X a ta) (hb : PE X b tb) : PC X .Eq a b (tEqI ta tb) := pc_int ha hb fun _ _ _ _ _ _ h => eq_int (by rw [Bool.beq_eq_decide_eq]; exact h)
theorem pc_neI (ha : PE X a ta) (hb : PE X b tb) : PC X .NotEq a b (tNeI ta tb) := pc_int ha hb fun _ _ _ _ _ _ h => ne_int (by rw [bne, Bool.beq_eq_decide_eq]; exact h)
/-- is None -/
def tIsN (ta : TE) : TE := fun σ H Q => ta σ H fun x H1 => Q (.bl (decide (x = .non))) H1
def tNotN (ta : TE) : TE := fun σ H Q => ta σ H fun x H1 => Q (.bl (!decide (x = .non))) H1
theorem RelV.none_iff {x : V} {v : Value} (r : RelV x v) : (v == Value.none) = decide (x = .non) := by
  cases x with
  | non => cases r; rfl
  | bl _ => cases r; rfl
  | int _ => obtain ⟨t, rfl⟩ := r; rfl
  | str _ => obtain ⟨t, rfl⟩ := r; rfl
  | byt _ => obtain ⟨t, rfl⟩ := r; rfl
  | flt _ => obtain ⟨t, rfl⟩ := r; rfl
  | ref _ => cases r; rfl
  | ty _ => cases r; rfl
theorem pc_isN {j pos'} (ha : PE X a ta) : PC X .Is a (.Constant .none j pos') (tIsN ta) := by
  intro pins s σ H Q I h
  refine thn (ha pins s σ H _ I h) fun v s1 ⟨x, H1, I1, r1, q1⟩ => ?_
  exact Constant_none (is_none_gen ⟨.bl _, H1, I1, by rw [r1.none_iff]; rfl, q1⟩)
theorem pc_notN {j pos'} (ha : PE X a ta) : PC X .IsNot a (.Constant .none j pos') (tNotN ta) := by
  intro pins s σ H Q I h
  refine thn (ha pins s σ H _ I h) fun v s1 ⟨x, H1, I1, r1, q1⟩ => ?_
  exact Constant_none (isnot_none_gen ⟨.bl _, H1, I1, by rw [r1.none_iff]; rfl, q1⟩)
/-- a comparison as a value, as a test -/
def tB (t : TE) : TT := fun σ H Q => t σ H fun x H1 => ∃ c, x = .bl c ∧ Q c H1
theorem pe_cmp {op : CmpOp} {t : TE} (h : PC X op a b t) (h1 : behindInMarks op b = false := by first | exact nobehind _ (by decide) (by decide) | rfl) : PE X (.Compare a [op] [b] pos) t := fun pins s σ H Q I hw => wpAny_Compare1 (h pins s σ H Q I hw) h1
theorem pt_cmp {op : CmpOp} {t : TE} (h : PC X op a b t) (h1 : behindInMarks op b = false := by first | exact nobehind _ (by decide) (by decide) | rfl) : PT X (.Compare a [op] [b] pos) (tB t) := by
  intro pins s σ H Q I hw
  refine wpAny_isTrue_Compare1 (thn (h pins s σ H _ I hw) fun v s1 h1 => thn h1 fun u s2 h2 => thn h2 fun c s3 ⟨x, H1, I1, r1, q1⟩ => ?_) h1
  obtain ⟨d, rfl, q⟩ := q1
  cases r1
  exact wpAny_truthy_bool ⟨H1, I1, q⟩
/-- an expression whose value is a bool, as a test -/
theorem pt_val {e : Expr} {t : TE} (h : PE X e t) (he : ∀ whole, isTrue e X.env whole = (do let v ← whole; standAt e.pos; holding [v] (truthy v)) := by intro _; rfl) : PT X e (tB t) := by
  intro pins s σ H Q I hw
  refine isTrue_plain (thn (h pins s σ H _ I hw) fun v s1 ⟨x, H1, I1, r1, q1⟩ => ?_) (he _)
  obtain ⟨d, rfl, q⟩ := q1
  cases r1
  exact wpAny_truthy_bool ⟨H1, I1, q⟩

/-! ### and, or, not -/
variable {tA tB' : TT} {rest : List Expr}
def tAnd (t u : TT) : TT := fun σ H Q => t σ H fun c H1 => if c = true then u σ H1 Q else Q false H1
def tOr (t u : TT) : TT := fun σ H Q => t σ H fun c H1 => if c = true then Q true H1 else u σ H1 Q
def tNot (t : TT) : TT := fun σ H Q => t σ H fun c H1 => Q (!c) H1
theorem pw_and1 (ha : PT X a tA) : PW X (.BoolOp .And [a] pos) tA := by
  intro wh pins s σ H Q I h
  refine isTrue_and (thn (ha pins s σ H Q I h) fun c s1 e => ?_)
  cases c with
  | true => exact isTrue_and_nil e
  | false => exact e
theorem pw_or1 (ha : PT X a tA) : PW X (.BoolOp .Or [a] pos) tA := by
  intro wh pins s σ H Q I h
  refine isTrue_or (thn (ha pins s σ H Q I h) fun c s1 e => ?_)
  cases c with
  | false => exact isTrue_or_nil e
  | true => exact e
theorem pw_and (ha : PT X a tA) (hb : PW X (.BoolOp .And (b :: rest) pos) tB') : PW X (.BoolOp .And (a :: b :: rest) pos) (tAnd tA tB') := by
  intro wh pins s σ H Q I h
  refine isTrue_and (thn (ha pins s σ H _ I h) fun c s1 ⟨H1, I1, q1⟩ => ?_)
  cases c with
  | true => exact hb wh pins s1 σ H1 Q I1 q1
  | false => exact ⟨H1, I1, q1⟩
theorem pw_or (ha : PT X a tA) (hb : PW X (.BoolOp .Or (b :: rest) pos) tB') : PW X (.BoolOp .Or (a :: b :: rest) pos) (tOr tA tB') := by
  intro wh pins s σ H Q I h
  refine isTrue_or (thn (ha pins s σ H _ I h) fun c s1 ⟨H1, I1, q1⟩ => ?_)
  cases c with
  | true => exact ⟨H1, I1, q1⟩
  | false => exact hb wh pins s1 σ H1 Q I1 q1
theorem pt_not (ha : PT X a tA) : PT X (.UnaryOp .Not a pos) (tNot tA) := by
  intro pins s σ H Q I h
  exact isTrue_not (ha pins s σ H (fun c H1 => Q (!c) H1) I h)
/-- .. as values (bools) -/
def tAndV (ta tb : TE) : TE := fun σ H Q => ta σ H fun x H1 => ∃ c, x = .bl c ∧ if c = true then tb σ H1 Q else Q (.bl false) H1
def tOrV (ta tb : TE) : TE := fun σ H Q => ta σ H fun x H1 => ∃ c, x = .bl c ∧ if c = true then Q (.bl true) H1 else tb σ H1 Q
def tNotV (ta : TE) : TE := fun σ H Q => ta σ H fun x H1 => ∃ c, x = .bl c ∧ Q (.bl (!c)) H1
theorem pe_one {op} {t : TE} (h : PE X a t) : PE X (.BoolOp op [a] pos) t := fun pins s σ H Q I hw => BoolOp_one (h pins s σ H Q I hw)
theorem pe_and (ha : PE X a ta) (hb : PE X (.BoolOp .And (b :: rest) pos) tb) : PE X (.BoolOp .And (a :: b :: rest) pos) (tAndV ta tb) := by
  intro pins s σ H Q I h
  refine BoolOp_and (thn (ha pins s σ H _ I h) fun v s1 ⟨x, H1, I1, r1, q1⟩ => ?_)
  obtain ⟨c, rfl, q1⟩ := q1
  cases r1
  refine wpAny_truthy_bool ?_
  cases c with
  | true => exact hb pins s1 σ H1 Q I1 q1
  | false => exact ⟨.bl false, H1, I1, rfl, q1⟩
theorem pe_or (ha : PE X a ta) (hb : PE X (.BoolOp .Or (b :: rest) pos) tb) : PE X (.BoolOp .Or (a :: b :: rest) pos) (tOrV ta tb) := by
  intro pins s σ H Q I h
  refine BoolOp_or (thn (ha pins s σ H _ I h) fun v s1 ⟨x, H1, I1, r1, q1⟩ => ?_)
  obtain ⟨c, rfl, q1⟩ := q1
  cases r1
  refine wpAny_truthy_bool ?_
  cases c with
  | false => exact hb pins s1 σ H1 Q I1 q1
  | true => exact ⟨.bl true, H1, I1, rfl, q1⟩
theorem pe_not (ha : PE X a ta) : PE X (.UnaryOp .Not a pos) (tNotV ta) := by
  intro pins s σ H Q I h
  refine UnaryOp_ (thn (ha pins s σ H _ I h) fun v s1 ⟨x, H1, I1, r1, q1⟩ => ?_)
  obtain ⟨c, rfl, q1⟩ := q1
  cases r1
  exact not_of (wpAny_truthy_bool ⟨.bl (!c), H1, I1, rfl, q1⟩)
/-- a if t else b -/
def tIf (t : TT) (ta tb : TE) : TE := fun σ H Q => t σ H fun c H1 => if c = true then ta σ H1 Q else tb σ H1 Q
theorem pe_ifExp {c : Expr} (hc : PT X c tA) (ha : PE X a ta) (hb : PE X b tb) : PE X (.IfExp c a b pos) (tIf tA ta tb) := by
  intro pins s σ H Q I h
  refine wpAny_IfExp (thn (hc pins s σ H _ I h) fun d s1 ⟨H1, I1, q1⟩ => ?_)
  cases d with
  | true => exact ha pins s1 σ H1 Q I1 q1
  | false => exact hb pins s1 σ H1 Q I1 q1
end
end L2

namespace L2
open PySem PySem.Spec PyProof.Rows

/-! ### a list, a tuple that is read: tracked, frozen, or an object of the module -/
def SqL (K : PySem.W.Frag) (H : Hp) (a : Addr) (xs : List V) : Prop :=
  Rd H a (.lst xs) ∨
    ∃ (o : Obj) (its : Array Value) (n : Nat), K.lookup a = some o ∧ o.cls = .type "list" ∧ o.dict = none ∧ o.data = .seq its n ∧ its.size ≤ sizeLine ∧ Vals xs its.toList
def SqT (K : PySem.W.Frag) (H : Hp) (a : Addr) (xs : List V) : Prop :=
  Rd H a (.tup xs) ∨
    ∃ (o : Obj) (its : Array Value) (n : Nat), K.lookup a = some o ∧ o.cls = .type "tuple" ∧ o.data = .seq its n ∧ its.size ≤ sizeLine ∧ Vals xs its.toList
def absV : Value → Option V
  | .none => some .non
  | .bool b => some (.bl b)
  | .int i _ => some (.int i)
  | .str x _ => some (.str x)
  | .bytes b _ => some (.byt b)
  | .float b _ => some (.flt b)
  | .ref a => some (.ref a)
  | .type n => some (.ty n)
  | _ => none
theorem RelV.abs {x : V} {u : Value} (r : RelV x u) : absV u = some x := by
  cases x with
  | non => cases r; rfl
  | bl _ => cases r; rfl
  | int _ => obtain ⟨t, rfl⟩ := r; rfl
  | str _ => obtain ⟨t, rfl⟩ := r; rfl
  | byt _ => obtain ⟨t, rfl⟩ := r; rfl
  | flt _ => obtain ⟨t, rfl⟩ := r; rfl
  | ref _ => cases r; rfl
  | ty _ => cases r; rfl
theorem RelV.inj {x y : V} {u : Value} (r : RelV x u) (q : RelV y u) : x = y := Option.some.inj (r.abs.symm.trans q.abs)
theorem Vals.inj : ∀ {xs ys : List V} {us : List Value}, Vals xs us → Vals ys us → xs = ys
  | _, _, _, .nil, .nil => rfl
  | _, _, _, .cons r t, .cons r' t' => by rw [r.inj r', Vals.inj t t']
section
variable {X : Cx} {pins : List (Addr × Obj)} {σ : St} {H : Hp} {s : Shared} {a : Addr} {xs ys : List V}
theorem SqL.of {K : PySem.W.Frag} (h : H a = some (.lst xs)) : SqL K H a xs := .inl (.inl h)
theorem SqT.of {K : PySem.W.Frag} (h : H a = some (.tup xs)) : SqT K H a xs := .inl (.inl h)
theorem Inv.list (I : Inv X pins σ H s) (h : SqL X.K H a xs) : ∃ its : List Value, Vals xs its ∧ PlainL s.heap a its.toArray ∧ xs.length ≤ sizeLine := by
  rcases h with h | ⟨o, its, n, hk, hc, hd, hs, hz, r⟩
  · obtain ⟨z, its, n, r, e⟩ := h.ok I.hok
    exact ⟨its, r, ⟨_, n, e, rfl, rfl, rfl⟩, z⟩
  · refine ⟨its.toList, r, ⟨o, n, I.kIn a o hk, hc, hd, by simpa using hs⟩, ?_⟩
    have e := r.length
    simp only [Array.length_toList] at e
    omega
theorem Inv.tuple (I : Inv X pins σ H s) (h : SqT X.K H a xs) : ∃ its : List Value, Vals xs its ∧ IsTup s.heap a its.toArray ∧ xs.length ≤ sizeLine := by
  rcases h with h | ⟨o, its, n, hk, hc, hs, hz, r⟩
  · obtain ⟨z, its, r, p⟩ := h.ok I.hok
    exact ⟨its, r, p, z⟩
  · refine ⟨its.toList, r, ⟨o, I.kIn a o hk, hc, n, by simpa using hs⟩, ?_⟩
    have e := r.length
    simp only [Array.length_toList] at e
    omega
theorem Inv.list_inj (I : Inv X pins σ H s) (h : SqL X.K H a xs) (h' : SqL X.K H a ys) : xs = ys := by
  obtain ⟨its, r, ⟨o, n, e, _, _, d⟩, _⟩ := I.list h
  obtain ⟨its', r', ⟨o', n', e', _, _, d'⟩, _⟩ := I.list h'
  rw [e] at e'; cases e'
  rw [d] at d'
  injection d' with d1 _
  have : its = its' := by simpa using congrArg Array.toList d1
  subst this
  exact r.inj r'
theorem Inv.tuple_inj (I : Inv X pins σ H s) (h : SqT X.K H a xs) (h' : SqT X.K H a ys) : xs = ys := by
  obtain ⟨its, r, ⟨o, e, _, n, d⟩, _⟩ := I.tuple h
  obtain ⟨its', r', ⟨o', e', _, n', d'⟩, _⟩ := I.tuple h'
  rw [e] at e'; cases e'
  rw [d] at d'
  injection d' with d1 _
  have : its = its' := by simpa using congrArg Array.toList d1
  subst this
  exact r.inj r'
end

/-! ### another wish about exceptions -/
abbrev Cx.wish (X : Cx) (E : Value → Shared → Prop) : Cx := { X with xe := E }
/-- no exception leaves -/
abbrev Cx.nox (X : Cx) : Cx := X.wish fun _ _ => False
theorem Cx.Ok.wish {X : Cx} (ok : X.Ok) (E : Value → Shared → Prop) : (X.wish E).Ok :=
  ⟨ok.mod, ok.kind, ok.glob, ok.blt, ok.above, ok.inj, ok.has, ok.cab, ok.hd, ok.frames, ok.stk, ok.exf, ok.bs, ok.bsz, ok.noex, ok.exfs, ok.funs, ok.frf⟩
theorem Cx.Ok.unwish {X : Cx} {E : Value → Shared → Prop} (ok : (X.wish E).Ok) : X.Ok :=
  ⟨ok.mod, ok.kind, ok.glob, ok.blt, ok.above, ok.inj, ok.has, ok.cab, ok.hd, ok.frames, ok.stk, ok.exf, ok.bs, ok.bsz, ok.noex, ok.exfs, ok.funs, ok.frf⟩
section
variable {X : Cx} {pins : List (Addr × Obj)} {σ : St} {H : Hp} {s : Shared} {E : Value → Shared → Prop}
theorem Inv.wish (I : Inv X pins σ H s) (E : Value → Shared → Prop) : Inv (X.wish E) pins σ H s := ⟨I.ok.wish E, I.os, I.bare, I.base, I.loc, I.cell, I.free, I.freeC, I.pin, I.hok, I.len⟩
theorem Inv.unwish (I : Inv (X.wish E) pins σ H s) : Inv X pins σ H s := ⟨I.ok.unwish, I.os, I.bare, I.base, I.loc, I.cell, I.free, I.freeC, I.pin, I.hok, I.len⟩
theorem SP.unwish {D : Ends} {f : Flow} {s' : Shared} (h : SP (X.wish E) pins D f s') : SP X pins D f s' := by
  cases f with
  | next => obtain ⟨σ', H', I, q⟩ := h; exact ⟨σ', H', I.unwish, q⟩
  | brk => obtain ⟨σ', H', I, q⟩ := h; exact ⟨σ', H', I.unwish, q⟩
  | cont => obtain ⟨σ', H', I, q⟩ := h; exact ⟨σ', H', I.unwish, q⟩
  | ret u => obtain ⟨v, σ', H', I, r, q⟩ := h; exact ⟨v, σ', H', I.unwish, r, q⟩
theorem PE.nox {e : Expr} {t : TE} (h : PE X.nox e t) : PE X e t := fun pins s σ H Q I hw =>
  wpAny_mono (h pins s σ H Q (I.wish _) hw) (fun _ _ ⟨v, H', I', r, q⟩ => ⟨v, H', I'.unwish, r, q⟩) fun _ _ z => False.elim z
theorem PT.nox {e : Expr} {t : TT} (h : PT X.nox e t) : PT X e t := fun pins s σ H Q I hw =>
  wpAny_mono (h pins s σ H Q (I.wish _) hw) (fun _ _ ⟨H', I', q⟩ => ⟨H', I'.unwish, q⟩) fun _ _ z => False.elim z
theorem PSs.nox {st : List Stmt} {t : TS} (h : PSs X.nox st t) : PSs X st t := fun pins s σ H D I hw =>
  wpAny_mono (h pins s σ H D (I.wish _) hw) (fun _ _ q => q.unwish) fun _ _ z => False.elim z
end

/-! ### blocks and small statements -/
section
variable {X : Cx} {st : Stmt} {rest : List Stmt} {t u : TS} {e : Expr} {te : TE} {pos : Pos}
def tNext : TS := fun D σ H => D.nx σ H
def tSeq (t u : TS) : TS := fun D σ H => t { D with nx := u D } σ H
theorem pss_nil : PSs X [] tNext := fun _ _ σ H _ I h => wpAny_execs_nil ⟨σ, H, I, h⟩
theorem pss_cons (h1 : PS X st t) (h2 : PSs X rest u) : PSs X (st :: rest) (tSeq t u) := by
  intro pins s σ H D I h
  refine wpAny_execs_cons (thn (h1 pins s σ H { D with nx := u D } I h) fun f s1 q => ?_)
  cases f with
  | next =>
    obtain ⟨σ', H', I', q⟩ := q
    exact h2 pins s1 σ' H' D I' q
  | ret v => exact q
  | brk => exact q
  | cont => exact q
theorem pss_one (h1 : PS X st t) : PSs X [st] t := by
  intro pins s σ H D I h
  refine wpAny_execs_cons (thn (h1 pins s σ H D I h) fun f s1 q => ?_)
  cases f with
  | next => exact wpAny_execs_nil q
  | ret v => exact q
  | brk => exact q
  | cont => exact q
def tBreak : TS := fun D σ H => D.bk σ H
def tCont : TS := fun D σ H => D.ct σ H
theorem ps_pass : PS X (.Pass pos) tNext := fun _ _ σ H _ I h => wpAny_Pass ⟨σ, H, I, h⟩
theorem ps_break : PS X (.Break pos) tBreak := fun _ _ σ H _ I h => wpAny_Break ⟨σ, H, I, h⟩
theorem ps_continue : PS X (.Continue pos) tCont := fun _ _ σ H _ I h => wpAny_Continue ⟨σ, H, I, h⟩
/-- in a def's body nothing is shown -/
theorem Inv.quiet {pins : List (Addr × Obj)} {σ : St} {H : Hp} {s : Shared} (I : Inv X pins σ H s) : interactive X.env = false := by simp [interactive, I.ok.kind]
/-- a docstring -/
theorem ps_doc {x j pos pos'} : PS X (.Expr (.Constant (.str x) j pos) pos') tNext := fun _ s σ H _ I h => wpAny_Expr (Calls.Constant_str (show SP X _ _ .next { s with toks := s.toks + 1 } from ⟨σ, H, I.tok _, h⟩)) I.quiet
/-- an expression whose value is dropped -/
def tDrop (te : TE) : TS := fun D σ H => te σ H fun _ H1 => D.nx σ H1
theorem ps_expr (he : PE X e te) (hs : swapsWith e none pos.line X.env = pure false := by rfl) : PS X (.Expr e pos) (tDrop te) := by
  intro pins s σ H D I h
  exact wpAny_Expr_any (thn (he pins s σ H _ I h) fun v s1 ⟨x, H1, I1, r1, q1⟩ => ⟨σ, H1, I1, q1⟩) I.quiet hs
def tRet (te : TE) : TS := fun D σ H => te σ H D.rt
theorem ps_ret (he : PE X e te) : PS X (.Return (some e) pos) (tRet te) := by
  intro pins s σ H D I h
  exact wpAny_Return_some (thn (he pins s σ H _ I h) fun v s1 ⟨x, H1, I1, r1, q1⟩ => ⟨x, σ, H1, I1, r1, q1⟩)
def tRetN : TS := fun D _ H => D.rt .non H
theorem ps_retN : PS X (.Return none pos) tRetN := fun _ _ σ H _ I h => wpAny_Return_none ⟨.non, σ, H, I, rfl, h⟩
def tIfS (c : TT) (t u : TS) : TS := fun D σ H => c σ H fun b H1 => if b = true then t D σ H1 else u D σ H1
theorem ps_if {c : Expr} {a b : List Stmt} {tc : TT} (hc : PT X c tc) (ha : PSs X a t) (hb : PSs X b u) : PS X (.If c a b pos) (tIfS tc t u) := by
  intro pins s σ H D I h
  refine wpAny_If (thn (hc pins s σ H _ I h) fun d s1 ⟨H1, I1, q1⟩ => ?_)
  cases d with
  | true => exact ha pins s1 σ H1 D I1 q1
  | false => exact hb pins s1 σ H1 D I1 q1
/-- code that the proof never comes to -/
def tNever : TS := fun _ _ _ => False
theorem ps_never : PS X st tNever := fun _ _ _ _ _ _ h => h.elim
theorem pss_never {sts : List Stmt} : PSs X sts tNever := fun _ _ _ _ _ _ h => h.elim
end

/-! ### targets -/
abbrev TG := V → St → Hp → (St → Hp → Prop) → Prop
abbrev TGs := List V → St → Hp → (St → Hp → Prop) → Prop
def PG (X : Cx) (target : Expr) (t : TG) : Prop :=
  ∀ (pins : List (Addr × Obj)) (s : Shared) (σ : St) (H : Hp) (v : V) (u : Value) (Q : St → Hp → Prop), Inv X pins σ H s → RelV v u → t v σ H Q →
    wpAny (model X.prog X.w) X.A (assign target X.env u) (fun _ s' => ∃ σ' H', Inv X pins σ' H' s' ∧ Q σ' H') X.xe s
/-- several targets, one after another -/
def PGs (X : Cx) (ts : List Expr) (t : TGs) : Prop :=
  ∀ (pins : List (Addr × Obj)) (s : Shared) (σ : St) (H : Hp) (vs : List V) (us : List Value) (Q : St → Hp → Prop), Inv X pins σ H s → Vals vs us → t vs σ H Q →
    wpAny (model X.prog X.w) X.A (assignInOrder ((assignEach ts X.env).map (·.2)) us) (fun _ s' => ∃ σ' H', Inv X pins σ' H' s' ∧ Q σ' H') X.xe s
/-- o[i] = v, by values -/
abbrev TSet := V → V → V → Hp → (Hp → Prop) → Prop
def PSet (X : Cx) (t : TSet) : Prop :=
  ∀ (pins : List (Addr × Obj)) (s : Shared) (σ : St) (H : Hp) (o i v : V) (ov iv u : Value) (Q : Hp → Prop), Inv X pins σ H s → RelV o ov → RelV i iv → RelV v u → t o i v H Q →
    wpAny (model X.prog X.w) X.A (setItem ov iv u) (fun _ s' => ∃ H', Inv X pins σ H' s' ∧ Q H') X.xe s
/-- a op= b, by values -/
abbrev TIp := V → V → Hp → VK → Prop
def PIp (X : Cx) (op : Operator) (t : TIp) : Prop :=
  ∀ (pins : List (Addr × Obj)) (s : Shared) (σ : St) (H : Hp) (x y : V) (v u : Value) (Q : VK), Inv X pins σ H s → RelV x v → RelV y u → t x y H Q →
    wpAny (model X.prog X.w) X.A (inplaceOp op v u) (EP X pins σ Q) X.xe s
section
variable {X : Cx} {pos : Pos}
def gName (i : Nat) : TG := fun v σ H Q => Q (σ.set i (some v)) H
theorem pg_name {i : Nat} {x : Str} (hN : X.N.Nodup) (hi : X.N[i]? = some x) (hx : Loc X.env.scope x) (hf : X.fn x = true ∨ X.env.scope.names.lookup x = some .local := by first | exact .inl rfl | exact .inr rfl | assumption) : PG X (.Name x pos) (gName i) := by
  intro pins s σ H v u Q I r h
  exact wpAny_assign_Name (store_ok I hN hi hx r (fun s' I' => ⟨_, H, I', h⟩) hf)
def gNil : TGs := fun vs σ H Q => vs = [] ∧ Q σ H
def gCons (t : TG) (u : TGs) : TGs := fun vs σ H Q => ∃ v r, vs = v :: r ∧ t v σ H fun σ' H' => u r σ' H' Q
theorem pgs_nil : PGs X [] gNil := by
  intro pins s σ H vs us Q I r h
  obtain ⟨e, h⟩ := h
  subst e
  cases r
  exact assignInOrder_nil ⟨σ, H, I, h⟩
theorem pgs_cons {e : Expr} {es : List Expr} {t : TG} {u : TGs} (h1 : PG X e t) (h2 : PGs X es u)
    (hs : (assignEach (e :: es) X.env).map (·.2) = assign e X.env :: (assignEach es X.env).map (·.2) := by rfl) : PGs X (e :: es) (gCons t u) := by
  intro pins s σ H vs us Q I r h
  obtain ⟨v, vr, e1, h⟩ := h
  subst e1
  cases r with
  | cons r rr =>
    rw [hs]
    refine assignInOrder_cons (thn (h1 pins s σ H _ _ _ I r h) fun _ s1 ⟨σ1, H1, I1, q1⟩ => ?_)
    exact h2 pins s1 σ1 H1 _ _ Q I1 rr q1
/-- (a, b, ..) = a tuple of that length -/
def gTup (K : PySem.W.Frag) (n : Nat) (t : TGs) : TG := fun v σ H Q => ∃ a xs, v = .ref a ∧ SqT K H a xs ∧ xs.length = n ∧ t xs σ H Q
theorem pg_tup {es : List Expr} {k : Nat} {t : TGs} {n : Nat} (hc : X.calm = true) (h : PGs X es t)
    (hn : (assignEach es X.env).length = n := by rfl) (hst : (assignEach es X.env).findIdx? (·.1) = none := by rfl) : PG X (.Tuple es k pos) (gTup X.K n t) := by
  intro pins s σ H v u Q I r hw
  obtain ⟨a, xs, e1, hq, hl, hw⟩ := hw
  subst e1
  cases r
  obtain ⟨its, rv, ht, hz⟩ := I.tuple hq
  refine assign_Tuple_tuple (I.ok.hd hc) ht (by simp [hn, ← hl, rv.length]) hst fun h' hx => ?_
  have I1 : Inv X pins σ H { s with heap := h' } := I.kept (t' := s.toks) fun b o e => hx b o (Nat.ne_of_lt (Heap.lt_size e)) e
  exact h pins _ σ H xs _ Q I1 (by simpa using rv) hw
/-- o[i] = .. -/
def gSub (to ti : TE) (t : TSet) : TG := fun v σ H Q => to σ H fun o H1 => ti σ H1 fun i H2 => t o i v H2 fun H3 => Q σ H3
theorem pg_sub {o i : Expr} {to ti : TE} {t : TSet} (ho : PE X o to) (hi : PE X i ti) (hs : PSet X t)
    (ha : ∀ v, assign (.Subscript o i pos) X.env v = (do
      let ov ← holding [v] (eval o X.env)
      let iv ← holding [v, ov] (eval i X.env)
      standAt pos
      holding [v, ov, iv] (setItem ov iv v)
      release [v, ov, iv] []) := by intro _; rfl) : PG X (.Subscript o i pos) (gSub to ti t) := by
  intro pins s σ H v u Q I r h
  rw [ha]
  refine wpAny_bind (wpAny_holding (thn (ho pins s σ H _ I h) fun ov s1 ⟨x, H1, I1, r1, q1⟩ => ?_))
  refine wpAny_bind (wpAny_holding (thn (hi pins s1 σ H1 _ I1 q1) fun iv s2 ⟨y, H2, I2, r2, q2⟩ => ?_))
  refine wpAny_bind (wpAny_standAt (wpAny_bind (wpAny_holding (thn (hs pins s2 σ H2 x y v ov iv u _ I2 r1 r2 r q2) fun _ s3 ⟨H3, I3, q3⟩ => ?_))))
  exact wpAny_release ⟨σ, H3, I3, q3⟩
/-- target = value -/
def tAsg (te : TE) (g : TG) : TS := fun D σ H => te σ H fun x H1 => g x σ H1 D.nx
theorem ps_asg {tg e : Expr} {te : TE} {g : TG} (he : PE X e te) (hg : PG X tg g) (hs : swapsWithSole [tg] e pos.line X.env = pure false := by rfl) (hw : swappedStores [tg] e X.env = pure none := by rfl)
    (h1 : (assignEach [tg] X.env).map (·.2) = [assign tg X.env] := by rfl) : PS X (.Assign [tg] e pos) (tAsg te g) := by
  intro pins s σ H D I h
  refine wpAny_Assign_stores (thn (he pins s σ H _ I h) fun v s1 ⟨x, H1, I1, r1, q1⟩ => ?_) hs hw
  rw [h1]
  exact thn (hg pins s1 σ H1 x v _ I1 r1 q1) fun _ s2 q => q
/-- name = value -/
theorem ps_set {i : Nat} {x : Str} {e : Expr} {te : TE} {pos' : Pos} (hN : X.N.Nodup) (hi : X.N[i]? = some x) (hx : Loc X.env.scope x) (he : PE X e te) (hs : swapsWith e (some (.Name x pos')) pos.line X.env = pure false := by rfl) (hf : X.fn x = true ∨ X.env.scope.names.lookup x = some .local := by first | exact .inl rfl | exact .inr rfl | assumption) :
    PS X (.Assign [.Name x pos'] e pos) (tAsg te (gName i)) := by
  intro pins s σ H D I h
  refine wpAny_Assign_Name (thn (he pins s σ H _ I h) fun v s1 ⟨y, H1, I1, r1, q1⟩ => ?_) hs
  exact store_ok I1 hN hi hx r1 (fun s2 I2 => ⟨_, H1, I2, q1⟩) hf
/-- a, b = x, y with plain local names: stored from the right; the pair itself is not tracked (the opening rows as in PyProof/Rows/TupAssign.lean:23) -/
def tPar (i j : Nat) (ta : TA) : TS := fun D σ H => ta σ H fun vs H1 => ∃ v w, vs = [v, w] ∧ D.nx ((σ.set i (some v)).set j (some w)) H1
theorem ps_par {i j : Nat} {x y : Str} {a b : Expr} {ta : TA} {px py pt : Pos} {kt k2 pt2} (hc : X.calm = true) (hN : X.N.Nodup) (hi : X.N[i]? = some x) (hj : X.N[j]? = some y) (hij : i ≠ j)
    (hx : X.env.scope.names.lookup x = some .local) (hy : X.env.scope.names.lookup y = some .local) (ha : PA X [a, b] ta)
    (hw : swappedStores [.Tuple [.Name x px, .Name y py] kt pt] (.Tuple [a, b] k2 pt2) X.env = pure (some [x, y]))
    (hs : swapsWithSole [.Tuple [.Name x px, .Name y py] kt pt] (.Tuple [a, b] k2 pt2) pos.line X.env = pure false := by rfl) :
    PS X (.Assign [.Tuple [.Name x px, .Name y py] kt pt] (.Tuple [a, b] k2 pt2) pos) (tPar i j ta) := by
  intro pins s σ H D I h
  rw [exec_Assign_arm]
  refine wpAny_bind (wpAny_standAt ?_)
  rw [hs]
  refine wpAny_bind (wpAny_pure ?_)
  rw [if_neg (by decide)]
  refine wpAny_bind (Tuple_ (thn (ha _ pins s σ H _ I h) fun us s1 ⟨vs, H1, I1, r1, q1⟩ => ?_))
  obtain ⟨v, w, e1, q1⟩ := q1
  subst e1
  obtain ⟨u1, u2, rfl, rv, rw'⟩ : ∃ u1 u2, us = [u1, u2] ∧ RelV v u1 ∧ RelV w u2 := by
    cases r1 with
    | cons p q =>
      cases q with
      | cons p' q' =>
        cases q'
        exact ⟨_, _, rfl, p, p'⟩
  refine wpAny_newObj_type ?_ (by show 2 ≤ sizeLine; decide)
  have I2 : Inv X pins σ H1 { s1 with heap := s1.heap.push { cls := .type "tuple", data := .seq [u1, u2].toArray } } := I1.kept (t' := s1.toks) fun b o e => Heap.get?_push_of_some _ e
  rw [hw]
  refine wpAny_bind (wpAny_pure ?_)
  show wpAny (model X.prog X.w) X.A (do rule "assign.swapped-stores"; let items ← unpackItems (.ref s1.heap.objs.size) 2 none; assignInOrder [fun v => bindName X.env y v, fun v => bindName X.env x v] items.reverse; pure Flow.next) _ _ _
  refine wpAny_bind (wpAny_rule (wpAny_bind (unpackItems_tuple (items := #[u1, u2]) (I.ok.hd hc) (IsTup.new s1.heap _) fun h' hx' => ?_)))
  have I3 := I2.kept (h' := h') (t' := s1.toks) fun b o e => hx' b o (Nat.ne_of_lt (Heap.lt_size e)) e
  show wpAny _ _ (assignInOrder [fun v => bindName X.env y v, fun v => bindName X.env x v] [u2, u1] >>= fun _ => pure Flow.next) _ _ _
  refine wpAny_bind (assignInOrder_cons (wpAny_bindName (store_ok I3 hN hj (.inl hy) rw' (fun s2 I4 => ?_) (.inr hy))))
  refine assignInOrder_cons (wpAny_bindName (store_ok I4 hN hi (.inl hx) rv (fun s3 I5 => assignInOrder_nil (wpAny_pure ?_)) (.inr hx)))
  rw [List.set_comm _ _ (Ne.symm hij)] at I5
  exact ⟨_, H1, I5, q1⟩
/-- name op= e -/
def tAug (i : Nat) (te : TE) (ti : TIp) : TS := fun D σ H => ∃ x, σ[i]? = some (some x) ∧ te σ H fun y H1 => ti x y H1 fun z H2 => D.nx (σ.set i (some z)) H2
theorem ps_aug {i : Nat} {x : Str} {e : Expr} {te : TE} {op : Operator} {ti : TIp} {pos' : Pos} (hN : X.N.Nodup) (hi : X.N[i]? = some x) (hx : Loc X.env.scope x) (he : PE X e te) (ho : PIp X op ti) (hf : X.fn x = true ∨ X.env.scope.names.lookup x = some .local := by first | exact .inl rfl | exact .inr rfl | assumption) :
    PS X (.AugAssign (.Name x pos') op e pos) (tAug i te ti) := by
  intro pins s σ H D I h
  obtain ⟨v, e1, h⟩ := h
  obtain ⟨m, hn, hl⟩ := I.loc
  have vis : Vis X.env.scope x := by rcases hx with k | k; exact .inl k; exact .inr (.inl k)
  obtain ⟨u, r, l⟩ := hl i x v hi e1 vis
  refine wpAny_AugAssign_Name ?_
  have go : wpAny (model X.prog X.w) X.A (eval e X.env) (fun w s₂ => wpAny (model X.prog X.w) X.A (inplaceOp op u w) (fun r s₃ => wpAny (model X.prog X.w) X.A (storeName X.env x r) (fun _ => SP X pins D .next) X.xe s₃) X.xe s₂) X.xe s := by
    refine thn (he pins s σ H _ I h) fun w s1 ⟨y, H1, I1, r1, q1⟩ => ?_
    refine thn (ho pins s1 σ H1 v y u w _ I1 r r1 q1) fun z s2 ⟨zv, H2, I2, r2, q2⟩ => ?_
    exact store_ok I2 hN hi hx r2 (fun s3 I3 => ⟨_, H2, I3, q2⟩) hf
  rcases l with ⟨hk, hm⟩ | ⟨hk, c, hc, hcell⟩
  · exact wpAny_loadName_local I.ok.kind hk hn hm go
  · rcases hk with hk | hk
    · exact wpAny_loadName_cell I.ok.kind hk hc hcell go
    · rcases hx with k | k
      · have : X.env.scope.names.lookup x = some .free := hk
        rw [k] at this; cases this
      · have : X.env.scope.names.lookup x = some .free := hk
        rw [k] at this; cases this
/-- o[i] op= e -/
def tAugS (to ti te : TE) (tget : V → V → Hp → VK → Prop) (tip : TIp) (tset : TSet) : TS := fun D σ H => to σ H fun o H1 => ti σ H1 fun i H2 => tget o i H2 fun x H3 => te σ H3 fun y H4 => tip x y H4 fun z H5 => tset o i z H5 fun H6 => D.nx σ H6
/-- o[i], by values -/
def PGet (X : Cx) (t : V → V → Hp → VK → Prop) : Prop :=
  ∀ (pins : List (Addr × Obj)) (s : Shared) (σ : St) (H : Hp) (o i : V) (ov iv : Value) (Q : VK), Inv X pins σ H s → RelV o ov → RelV i iv → t o i H Q →
    wpAny (model X.prog X.w) X.A (getItem ov iv) (EP X pins σ Q) X.xe s
theorem ps_augS {o i e : Expr} {to ti te : TE} {tget : V → V → Hp → VK → Prop} {tip : TIp} {tset : TSet} {op : Operator} {tpos : Pos} (ho : PE X o to) (hi : PE X i ti) (hg : PGet X tget) (he : PE X e te) (hp : PIp X op tip) (hs : PSet X tset)
    (ha : ∀ ov iv new, augStore i ov iv new = (do holding [new, ov, iv] (setItem ov iv new); release [new, ov, iv] []; pure .next) := by intros; rfl) : PS X (.AugAssign (.Subscript o i tpos) op e pos) (tAugS to ti te tget tip tset) := by
  intro pins s σ H D I h
  refine wpAny_AugAssign_SubscriptAny (thn (ho pins s σ H _ I h) fun ov s1 ⟨x1, H1, I1, r1, q1⟩ => ?_) ha
  refine thn (hi pins s1 σ H1 _ I1 q1) fun iv s2 ⟨x2, H2, I2, r2, q2⟩ => ?_
  refine thn (hg pins s2 σ H2 x1 x2 ov iv _ I2 r1 r2 q2) fun old s3 ⟨x3, H3, I3, r3, q3⟩ => ?_
  refine thn (he pins s3 σ H3 _ I3 q3) fun v s4 ⟨x4, H4, I4, r4, q4⟩ => ?_
  refine thn (hp pins s4 σ H4 x3 x4 old v _ I4 r3 r4 q4) fun new s5 ⟨x5, H5, I5, r5, q5⟩ => ?_
  exact thn (hs pins s5 σ H5 x1 x2 x5 ov iv new _ I5 r1 r2 r5 q5) fun _ s6 ⟨H6, I6, q6⟩ => ⟨σ, H6, I6, q6⟩
/-- ints -/
def ipI (f : Int → Int → Int) : TIp := fun x y H Q => ∃ i j, x = .int i ∧ y = .int j ∧ Q (.int (f i j)) H
theorem ip_add : PIp X .Add (ipI fun i j => i + j) := by
  intro pins s σ H x y v u Q I r1 r2 h
  obtain ⟨i, j, e1, e2, q⟩ := h
  subst e1; subst e2
  obtain ⟨t, rfl⟩ := r1
  obtain ⟨t', rfl⟩ := r2
  exact iadd_int ⟨.int _, H, I.tok _, ⟨_, rfl⟩, q⟩
theorem ip_sub : PIp X .Sub (ipI fun i j => i - j) := by
  intro pins s σ H x y v u Q I r1 r2 h
  obtain ⟨i, j, e1, e2, q⟩ := h
  subst e1; subst e2
  obtain ⟨t, rfl⟩ := r1
  obtain ⟨t', rfl⟩ := r2
  exact isub_int ⟨.int _, H, I.tok _, ⟨_, rfl⟩, q⟩
end

/-! ### while -/
section
variable {X : Cx} {pos : Pos}
/-- the invariant W with its measure -/
def tWhile (c : TT) (tb : TS) : TS := fun D σ H => ∃ W : Nat → St → Hp → Prop, (∃ m, W m σ H) ∧ ∀ m σ H, W m σ H →
  c σ H fun b H1 => if b = true then ∃ N : St → Hp → Prop, (∀ σ' H', N σ' H' → ∃ m', m' < m ∧ W m' σ' H') ∧ tb { D with nx := N, ct := N, bk := D.nx } σ H1 else D.nx σ H1
theorem ps_while {c : Expr} {body : List Stmt} {tc : TT} {tb : TS} (hp : PassesOwn (model X.prog X.w) X.A X.env X.xe) (hc : PT X c tc) (hb : PSs X body tb) : PS X (.While c body [] pos) (tWhile tc tb) := by
  intro pins s σ H D I h
  obtain ⟨W, ⟨m0, w0⟩, turn⟩ := h
  refine wpAny_While (codeAny_whileLoop (fun n s' => ∃ σ' H', Inv X pins σ' H' s' ∧ W n σ' H') ?_ m0 ⟨σ, H, I, w0⟩)
  rintro n s1 ⟨σ1, H1, I1, w1⟩
  refine wpAny_passesOwn hp (thn (hc pins s1 σ1 H1 _ I1 (turn n σ1 H1 w1)) fun b s2 ⟨H2, I2, q2⟩ => ?_)
  cases b with
  | true =>
    obtain ⟨N, hN, q2⟩ := q2
    rw [if_pos rfl]
    refine wpAny_passesOwn hp (thn (hb pins s2 σ1 H2 _ I2 q2) fun f s3 q3 => ?_)
    cases f with
    | next =>
      obtain ⟨σ3, H3, I3, n3⟩ := q3
      obtain ⟨m', hm, w3⟩ := hN σ3 H3 n3
      exact ⟨m', hm, σ3, H3, I3, w3⟩
    | cont =>
      obtain ⟨σ3, H3, I3, n3⟩ := q3
      obtain ⟨m', hm, w3⟩ := hN σ3 H3 n3
      exact ⟨m', hm, σ3, H3, I3, w3⟩
    | brk => exact q3
    | ret v => exact q3
  | false =>
    rw [if_neg Bool.false_ne_true]
    exact wpAny_execs_nil ⟨σ1, H2, I2, q2⟩
end

/-! ### what a loop or a comprehension walks -/
/-- at turn i: it yields x (the heap may grow), or it stops -/
structure It where
  go : Nat → Hp → Prop
  yld : Nat → Hp → V → Hp → Prop
  stop : Nat → Hp → Prop
/-- the iterator's own objects may turn: they are not the frame's, not pinned, younger than the entry (or a comprehension's own) -/
def FpOk (X : Cx) (pins : List (Addr × Obj)) (H : Hp) (b : Addr) : Prop :=
  H b = none ∧ b ≠ X.env.locals ∧ b ∉ X.fs ∧ (b ∈ X.ex ∨ X.s₀.heap.objs.size ≤ b) ∧ (∀ x c, X.env.cells.lookup x = some c → c ≠ b) ∧ ∀ p ∈ X.pn ++ pins, p.1 ≠ b
theorem Inv.fpOk {X : Cx} {pins : List (Addr × Obj)} {σ : St} {H H' : Hp} {s : Shared} {b : Addr} (I : Inv X pins σ H s) (hb : s.heap.objs.size ≤ b) (hn : H' b = none) : FpOk X pins H' b := by
  refine ⟨hn, Nat.ne_of_gt (Nat.lt_of_lt_of_le I.lt hb), I.nofs hb, .inr (Nat.le_trans I.sz hb), fun x c e z => ?_, fun p hp z => ?_⟩
  · obtain ⟨v, q⟩ := I.cell x c e
    exact absurd (Nat.lt_of_lt_of_le q.lt (by rw [z]; exact hb)) (Nat.lt_irrefl _)
  · exact absurd (Nat.lt_of_lt_of_le (Heap.lt_size (I.pin p hp).1) (by rw [z]; exact hb)) (Nat.lt_irrefl _)
structure Turn (P : Program) (w : World) (K : PySem.W.Frag) (tg : Expr) (J : It) (fp : List Addr) (it : Addr) (tn : Nat → Heap → Prop) : Prop where
  mem : it ∈ fp
  obj : ∀ i h, tn i h → ∀ b ∈ fp, ∃ o, h.get? b = some o ∧ ∀ v, o.data ≠ .cell v
  keep : ∀ i h h', tn i h → (∀ b ∈ fp, ∀ o, h.get? b = some o → h'.get? b = some o) → tn i h'
  item : ∀ (X : Cx), X.prog = P → X.w = w → X.K = K → X.calm = true → ∀ (i : Nat) (pins : List (Addr × Obj)) (s : Shared) (σ : St) (H : Hp) (E : Value → Shared → Prop), Inv X pins σ H s → (∀ b ∈ fp, FpOk X pins H b) → tn i s.heap → J.go i H →
    wpAny (model P w) X.A (pyNext (.ref it)) (fun r s1 => ∃ u, r = some u ∧
      wpAny (model P w) X.A (letOwnedTupleGo tg (.ref it) u) (fun _ s2 => ∃ x H', Inv X pins σ H' s2 ∧ RelV x u ∧ J.yld i H x H' ∧ tn (i + 1) s2.heap ∧ ∀ b ∈ fp, H' b = none) E s1) E s
  done : ∀ (X : Cx), X.prog = P → X.w = w → X.K = K → X.calm = true → ∀ (i : Nat) (pins : List (Addr × Obj)) (s : Shared) (σ : St) (H : Hp) (E : Value → Shared → Prop), Inv X pins σ H s → (∀ b ∈ fp, FpOk X pins H b) → tn i s.heap → J.stop i H →
    wpAny (model P w) X.A (pyNext (.ref it)) (fun r s1 => r = none ∧ Inv X pins σ H s1) E s
  self : ∀ (A : Around) (i : Nat) (s : Shared) (Q : Value → Shared → Prop) (E : Value → Shared → Prop), tn i s.heap → Q (.ref it) s → wpAny (model P w) A (pyIter (.ref it)) Q E s
abbrev TI := St → Hp → (It → Hp → Prop) → Prop
/-- an iterator has come -/
def PIE (X : Cx) (pins : List (Addr × Obj)) (σ : St) (tg : Expr) (R : It → Hp → Prop) (itv : Value) (s2 : Shared) : Prop :=
  ∃ (it : Addr) (fp : List Addr) (tn : Nat → Heap → Prop) (J : It) (H' : Hp), itv = .ref it ∧ Inv X pins σ H' s2 ∧ Turn X.prog X.w X.K tg J fp it tn ∧ tn 0 s2.heap ∧ (∀ b ∈ fp, FpOk X pins H' b) ∧ R J H'
def PI (X : Cx) (tg iter : Expr) (wi : TI) : Prop :=
  ∀ (pins : List (Addr × Obj)) (s : Shared) (σ : St) (H : Hp) (R : It → Hp → Prop), Inv X pins σ H s → wi σ H R →
    wpAny (model X.prog X.w) X.A (eval iter X.env) (fun v s1 => wpAny (model X.prog X.w) X.A (pyIter v) (PIE X pins σ tg R) X.xe s1) X.xe s

/-- the step ahead of the store is nothing for an iterator that keeps no tuple -/
theorem go_of {M : Model} {A : Around} {E : Value → Shared → Prop} {s : Shared} {tg : Expr} {it : Addr} {u : Value} {o : Obj} {n : String} {vs : Array Value} {Q : Unit → Shared → Prop} (ho : s.heap.get? it = some o) (hc : o.cls = .type n) (hd : o.data = .fields vs)
    (hn : ["enumerate", "zip", "dict_itemiterator", "dict_reverseitemiterator", "odict_iterator", "itertools.zip_longest", "itertools.pairwise"].contains n = false) (hQ : Q () s) : wpAny M A (letOwnedTupleGo tg (.ref it) u) Q E s := by
  unfold letOwnedTupleGo
  cases tg <;> first
    | exact wpAny_pure hQ
    | (cases u <;> first
        | exact wpAny_pure hQ
        | (refine wpAny_bind (wpAny_load ho ?_)
           rw [hc, hd]
           show wpAny M A (if (["enumerate", "zip", "dict_itemiterator", "dict_reverseitemiterator", "odict_iterator", "itertools.zip_longest", "itertools.pairwise"].contains n && vs[0]? == some (rawInt _)) = true then _ else _) Q E s
           rw [if_neg (by intro h; rw [hn, Bool.false_and] at h; cases h)]
           exact wpAny_pure hQ))

/-- the list at a, as it stands at each turn (a loop may append to it) -/
def Itl (K : PySem.W.Frag) (a : Addr) : It :=
  ⟨fun i H => ∃ xs x, SqL K H a xs ∧ xs[i]? = some x, fun i H x H' => H' = H ∧ ∀ xs, SqL K H a xs → xs[i]? = some x, fun i H => ∃ xs, SqL K H a xs ∧ xs.length ≤ i⟩
def Itt (K : PySem.W.Frag) (a : Addr) : It :=
  ⟨fun i H => ∃ xs x, SqT K H a xs ∧ xs[i]? = some x, fun i H x H' => H' = H ∧ ∀ xs, SqT K H a xs → xs[i]? = some x, fun i H => ∃ xs, SqT K H a xs ∧ xs.length ≤ i⟩
/-- lo, lo + 1, .. (n of them) -/
def Itr (lo : Int) (n : Nat) : It := ⟨fun i _ => i < n, fun i H x H' => H' = H ∧ x = .int (lo + i), fun i _ => n ≤ i⟩
theorem turn_list {P : Program} {w : World} {K : PySem.W.Frag} {tg : Expr} (a it : Addr) : Turn P w K tg (Itl K a) [it] it (fun i h => h.IsListIter it a i) where
  mem := by simp
  obj := fun i h st b hb => by
    have e : b = it := by simpa using hb
    subst e
    obtain ⟨o, e, c, d⟩ := st
    exact ⟨o, e, fun v z => by rw [d] at z; cases z⟩
  keep := fun i h h' st k => st.at fun o e => k it (by simp) o e
  item := by
    intro X hP hw hK hc i pins s σ H E I hf st hg
    subst hP hw hK
    obtain ⟨xs, x, hq, hx⟩ := hg
    obtain ⟨its, rv, p, hz⟩ := I.list hq
    obtain ⟨u, hu, ru⟩ := rv.get hx
    obtain ⟨f0, f1, f2, f3, f4, f5⟩ := hf it (by simp)
    refine wpAny_pyNext_list_item st p.isList (x := u) (by simpa using hu) fun h' st' sb => ?_
    have I1 : Inv X pins σ H { s with heap := h' } := I.turned (t' := s.toks) (fun b o hb e => (sb.2 b hb).trans e) f0 f1 f3 f4 f5
    obtain ⟨o, e, c, d⟩ := id st'
    exact ⟨u, rfl, go_of (s := { s with heap := h' }) e c d (by decide) ⟨x, H, I1, ru, ⟨rfl, fun ys hy => by rw [I.list_inj hy hq]; exact hx⟩, st', fun b hb => (hf b hb).1⟩⟩
  done := by
    intro X hP hw hK hc i pins s σ H E I hf st hg
    subst hP hw hK
    obtain ⟨xs, hq, hx⟩ := hg
    obtain ⟨its, rv, p, hz⟩ := I.list hq
    obtain ⟨f0, f1, f2, f3, f4, f5⟩ := hf it (by simp)
    have hl := rv.length
    exact wpAny_pyNext_list_end (I.ok.hd hc) st p.isList (by simp; omega) fun h' eb => ⟨rfl, I.turned (t' := s.toks) (fun b o hb e => eb b o hb e) f0 f1 f3 f4 f5⟩
  self := fun _ _ _ _ _ st h => wpAny_pyIter_listiter st h
theorem turn_tuple {P : Program} {w : World} {K : PySem.W.Frag} {tg : Expr} (a it : Addr) : Turn P w K tg (Itt K a) [it] it (fun i h => h.IsTupleIter it a i) where
  mem := by simp
  obj := fun i h st b hb => by
    have e : b = it := by simpa using hb
    subst e
    obtain ⟨o, e, c, d⟩ := st
    exact ⟨o, e, fun v z => by rw [d] at z; cases z⟩
  keep := fun i h h' st k => st.at fun o e => k it (by simp) o e
  item := by
    intro X hP hw hK hc i pins s σ H E I hf st hg
    subst hP hw hK
    obtain ⟨xs, x, hq, hx⟩ := hg
    obtain ⟨its, rv, p, hz⟩ := I.tuple hq
    obtain ⟨u, hu, ru⟩ := rv.get hx
    obtain ⟨f0, f1, f2, f3, f4, f5⟩ := hf it (by simp)
    refine wpAny_pyNext_tuple_item st (show s.heap.IsTuple a its.toArray from p) (x := u) (by simpa using hu) fun h' st' sb => ?_
    have I1 : Inv X pins σ H { s with heap := h' } := I.turned (t' := s.toks) (fun b o hb e => (sb.2 b hb).trans e) f0 f1 f3 f4 f5
    obtain ⟨o, e, c, d⟩ := id st'
    exact ⟨u, rfl, go_of (s := { s with heap := h' }) e c d (by decide) ⟨x, H, I1, ru, ⟨rfl, fun ys hy => by rw [I.tuple_inj hy hq]; exact hx⟩, st', fun b hb => (hf b hb).1⟩⟩
  done := by
    intro X hP hw hK hc i pins s σ H E I hf st hg
    subst hP hw hK
    obtain ⟨xs, hq, hx⟩ := hg
    obtain ⟨its, rv, p, hz⟩ := I.tuple hq
    obtain ⟨f0, f1, f2, f3, f4, f5⟩ := hf it (by simp)
    have hl := rv.length
    exact wpAny_pyNext_tuple_end (I.ok.hd hc) st (show s.heap.IsTuple a its.toArray from p) (by simp; omega) fun h' eb => ⟨rfl, I.turned (t' := s.toks) (fun b o hb e => eb b o hb e) f0 f1 f3 f4 f5⟩
  self := fun _ _ _ _ _ st h => wpAny_pyIter_tupleiter st h
theorem turn_range {P : Program} {w : World} {K : PySem.W.Frag} {tg : Expr} (it : Addr) (lo : Int) (n : Nat) : Turn P w K tg (Itr lo n) [it] it (fun i h => IsRangeIter h it (lo + (i : Nat) * 1) ((n : Int) - (i : Nat)) 1) where
  mem := by simp
  obj := fun i h st b hb => by
    have e : b = it := by simpa using hb
    subst e
    exact ⟨_, st, fun v z => by
      have z' : Data.fields _ = Data.cell v := z
      cases z'⟩
  keep := fun i h h' st k => k it (by simp) _ st
  item := by
    intro X hP hw hK hc i pins s σ H E I hf st hg
    subst hP hw hK
    obtain ⟨f0, f1, f2, f3, f4, f5⟩ := hf it (by simp)
    have W := Walks.range (prog := X.prog) (w := X.w) (I.ok.hd hc) it lo 1 n
    refine W.item i s _ _ hg st fun v h' tk hv st' kk => ?_
    obtain ⟨t, rfl⟩ := hv
    have I1 : Inv X pins σ H { s with heap := h', toks := tk } := I.turned (fun b o hb e => kk b o (by simpa using hb) e) f0 f1 f3 f4 f5
    refine ⟨_, rfl, go_of (s := { s with heap := h', toks := tk }) (n := "range_iterator") st' rfl rfl (by decide) ⟨.int (lo + i), H, I1, ⟨t, ?_⟩, ⟨rfl, rfl⟩, st', fun b hb => (hf b hb).1⟩⟩
    rw [Int.mul_one]
  done := by
    intro X hP hw hK hc i pins s σ H E I hf st hg
    subst hP hw hK
    obtain ⟨f0, f1, f2, f3, f4, f5⟩ := hf it (by simp)
    exact wpAny_pyNext_range_end (I.ok.hd hc) st (by have : n ≤ i := hg; omega) fun h' eb => ⟨rfl, I.turned (t' := s.toks) (fun b o hb e => eb b o hb e) f0 f1 f3 f4 f5⟩
  self := fun _ _ _ _ _ st h => wpAny_pyIter_rangeiter st h
end L2

namespace L2
open PySem PySem.Spec PyProof.Rows
section
variable {X : Cx} {tg : Expr}
def iList (K : PySem.W.Frag) (tl : TE) : TI := fun σ H R => tl σ H fun x H1 => ∃ a, x = .ref a ∧ (∃ xs, SqL K H1 a xs) ∧ R (Itl K a) H1
def iTup (K : PySem.W.Frag) (tl : TE) : TI := fun σ H R => tl σ H fun x H1 => ∃ a, x = .ref a ∧ (∃ xs, SqT K H1 a xs) ∧ R (Itt K a) H1
theorem pi_list {l : Expr} {tl : TE} (hl : PE X l tl) : PI X tg l (iList X.K tl) := by
  intro pins s σ H R I h
  refine thn (hl pins s σ H _ I h) fun v s1 ⟨x, H1, I1, r1, q1⟩ => ?_
  obtain ⟨a, e, ⟨xs, hq⟩, q⟩ := q1
  subst e
  cases r1
  obtain ⟨its, rv, p, hz⟩ := I1.list hq
  refine wpAny_pyIter_list p.isList ?_
  refine ⟨s1.heap.objs.size, [s1.heap.objs.size], _, _, H1, rfl, I1.kept (t' := s1.toks) fun b o e => Heap.get?_push_of_some _ e, turn_list a _, ⟨_, Heap.get?_push_size _ rfl, rfl, rfl⟩, fun b hb => ?_, q⟩
  have e : b = s1.heap.objs.size := by simpa using hb
  subst e
  exact I1.fpOk (Nat.le_refl _) (I1.hok.fresh (Nat.le_refl _))
theorem pi_tup {l : Expr} {tl : TE} (hl : PE X l tl) : PI X tg l (iTup X.K tl) := by
  intro pins s σ H R I h
  refine thn (hl pins s σ H _ I h) fun v s1 ⟨x, H1, I1, r1, q1⟩ => ?_
  obtain ⟨a, e, ⟨xs, hq⟩, q⟩ := q1
  subst e
  cases r1
  obtain ⟨its, rv, p, hz⟩ := I1.tuple hq
  refine wpAny_pyIter_tuple (show s1.heap.IsTuple a its.toArray from p) ?_
  refine ⟨s1.heap.objs.size, [s1.heap.objs.size], _, _, H1, rfl, I1.kept (t' := s1.toks) fun b o e => Heap.get?_push_of_some _ e, turn_tuple a _, ⟨_, Heap.get?_push_size _ rfl, rfl, rfl⟩, fun b hb => ?_, q⟩
  have e : b = s1.heap.objs.size := by simpa using hb
  subst e
  exact I1.fpOk (Nat.le_refl _) (I1.hok.fresh (Nat.le_refl _))
/-- a range object just made, walked -/
theorem range_it {pins : List (Addr × Obj)} {σ : St} {H : Hp} {s : Shared} {R : It → Hp → Prop} {E : Value → Shared → Prop} {lo hi : Int} {t u v : Tok} {tk : Nat} (I : Inv X pins σ H s) (h1 : -(2 ^ 62) ≤ lo) (h2 : lo < 2 ^ 62) (h3 : -(2 ^ 62) ≤ hi) (h4 : hi < 2 ^ 62)
    (q : R (Itr lo (hi - lo).toNat) H) : wpAny (model X.prog X.w) X.A (pyIter (.ref s.heap.objs.size)) (PIE X pins σ tg R) E { s with heap := s.heap.push { cls := .type "range", data := .fields #[.int lo t, .int hi u, .int 1 v] }, toks := tk } := by
  refine wpAny_pyIter_range (IsRange.new ..) (small_one h1 h2 h3 h4) ?_
  have I1 : Inv X pins σ H { s with heap := s.heap.push { cls := .type "range", data := .fields #[.int lo t, .int hi u, .int 1 v] }, toks := tk } := I.kept fun b o e => Heap.get?_push_of_some _ e
  refine ⟨(s.heap.push { cls := .type "range", data := .fields #[.int lo t, .int hi u, .int 1 v] }).objs.size, [(s.heap.push { cls := .type "range", data := .fields #[.int lo t, .int hi u, .int 1 v] }).objs.size], _, _, H, rfl,
    I1.kept (t' := tk) fun b o e => Heap.get?_push_of_some _ e, turn_range _ lo (hi - lo).toNat, ?_, fun b hb => ?_, q⟩
  · have e1 : lo + ((0 : Nat) : Int) * 1 = lo := by simp
    have e2 : (((hi - lo).toNat : Nat) : Int) - ((0 : Nat) : Int) = Builtin.Range.rangeSize lo hi 1 := by rw [rangeSize_one]; split <;> omega
    show IsRangeIter _ _ (lo + ((0 : Nat) : Int) * 1) ((((hi - lo).toNat : Nat) : Int) - ((0 : Nat) : Int)) 1
    rw [e1, e2]
    exact Heap.get?_push_size _ rfl
  · have e : b = (s.heap.push { cls := .type "range", data := .fields #[.int lo t, .int hi u, .int 1 v] }).objs.size := by simpa using hb
    subst e
    exact I1.fpOk (Nat.le_refl _) (I1.hok.fresh (Nat.le_refl _))
def iRng1 (ta : TA) : TI := fun σ H R => ta σ H fun vs H1 => ∃ j : Int, vs = [.int j] ∧ -(2 ^ 62) ≤ j ∧ j < 2 ^ 62 ∧ R (Itr 0 j.toNat) H1
def iRng2 (ta : TA) : TI := fun σ H R => ta σ H fun vs H1 => ∃ i j : Int, vs = [.int i, .int j] ∧ (-(2 ^ 62) ≤ i ∧ i < 2 ^ 62 ∧ -(2 ^ 62) ≤ j ∧ j < 2 ^ 62) ∧ R (Itr i (j - i).toNat) H1
theorem pi_range1 {a : Expr} {ta : TA} {p pos : Pos} (hg : Gl X "range") (hm : X.mg "range" = none) (ha : PA X [a] ta) (hs : starEach [a] X.env = [(false, eval a X.env)] := by rfl) : PI X tg (.Call (.Name "range" p) [a] [] pos) (iRng1 ta) := by
  intro pins s σ H R I h
  refine Call_ (ld_blt I hg hm boot_range (PyProof.Rows.callWith_type1 (thn (ha pos pins s σ H _ I h) fun us s1 ⟨vs, H1, I1, r1, q1⟩ => ?_) hs rfl))
  obtain ⟨j, e, q1, q2, q⟩ := q1
  subst e
  cases r1 with
  | cons r rr =>
    cases rr
    obtain ⟨t, rfl⟩ := r
    exact call_range_1 (range_it I1 (by omega) (by omega) q1 q2 (by simpa using q))
theorem pi_range2 {a b : Expr} {ta : TA} {p pos : Pos} (hg : Gl X "range") (hm : X.mg "range" = none) (ha : PA X [a, b] ta) (hs : starEach [a, b] X.env = [(false, eval a X.env), (false, eval b X.env)] := by rfl) (hs2 : starEach [b] X.env = [(false, eval b X.env)] := by rfl) :
    PI X tg (.Call (.Name "range" p) [a, b] [] pos) (iRng2 ta) := by
  intro pins s σ H R I h
  refine Call_ (ld_blt I hg hm boot_range (PyProof.Rows.callWith_type1 (thn (ha pos pins s σ H _ I h) fun us s1 ⟨vs, H1, I1, r1, q1⟩ => ?_) (by rw [hs, hs2]) (by rw [hs2]; rfl)))
  obtain ⟨i, j, e, ⟨q1, q2, q3, q4⟩, q⟩ := q1
  subst e
  cases r1 with
  | cons r rr =>
    cases rr with
    | cons r' rr =>
      cases rr
      obtain ⟨t, rfl⟩ := r
      obtain ⟨t', rfl⟩ := r'
      exact call_range_2 (range_it I1 q1 q2 q3 q4 q)

/-! ### for -/
/-- W: the invariant by the turn and a measure; N: what the body is to reach -/
def tFor (wi : TI) (g : TG) (tb : TS) : TS := fun D σ H => wi σ H fun J H1 => ∃ W : Nat → Nat → St → Hp → Prop, (∃ m, W 0 m σ H1) ∧ ∀ i m σ H, W i m σ H →
  (J.stop i H ∧ D.nx σ H) ∨ (J.go i H ∧ ∃ N : St → Hp → Prop, (∀ σ' H', N σ' H' → ∃ m', m' < m ∧ W (i + 1) m' σ' H') ∧ ∀ x H', J.yld i H x H' → g x σ H' fun σ2 H2 => tb { D with nx := N, ct := N, bk := D.nx } σ2 H2)
/-- the records at fp as they stand -/
def pinsAt (fp : List Addr) (h : Heap) : List (Addr × Obj) := fp.filterMap fun b => (h.get? b).map fun o => (b, o)
theorem mem_pinsAt {fp : List Addr} {h : Heap} {b : Addr} {o : Obj} (hb : b ∈ fp) (e : h.get? b = some o) : (b, o) ∈ pinsAt fp h := List.mem_filterMap.mpr ⟨b, hb, by rw [e]; rfl⟩
theorem of_pinsAt {fp : List Addr} {h : Heap} {p : Addr × Obj} (hp : p ∈ pinsAt fp h) : p.1 ∈ fp ∧ h.get? p.1 = some p.2 := by
  obtain ⟨b, hb, e⟩ := List.mem_filterMap.mp hp
  cases q : h.get? b with
  | none => rw [q] at e; cases e
  | some o =>
    rw [q] at e
    have e' : (b, o) = p := Option.some.inj e
    subst e'
    exact ⟨hb, q⟩
theorem Inv.pinned {pins : List (Addr × Obj)} {σ : St} {H : Hp} {s : Shared} {fp : List Addr} (I : Inv X pins σ H s) (hf : ∀ b ∈ fp, FpOk X pins H b) (ho : ∀ b ∈ fp, ∃ o, s.heap.get? b = some o ∧ ∀ v, o.data ≠ .cell v) : Inv X (pins ++ pinsAt fp s.heap) σ H s :=
  I.pins_of fun p hp => (List.mem_append.mp hp).elim (fun z => I.pin p (List.mem_append_right _ z)) fun z => by
    obtain ⟨hb, e⟩ := of_pinsAt z
    obtain ⟨f0, f1, f2, _⟩ := hf p.1 hb
    obtain ⟨o, e', d⟩ := ho p.1 hb
    rw [e] at e'; cases e'
    exact ⟨e, f0, f1, f2, d⟩
theorem Inv.unpinned {pins pl : List (Addr × Obj)} {σ : St} {H : Hp} {s : Shared} (I : Inv X (pins ++ pl) σ H s) : Inv X pins σ H s := I.pins_of fun p hp => I.pin p (List.mem_append_right _ (List.mem_append_left _ hp))
theorem ps_for {iter : Expr} {body : List Stmt} {wi : TI} {g : TG} {tb : TS} {pos : Pos} (hp : PassesOwn (model X.prog X.w) X.A X.env X.xe) (hc : X.calm = true) (hi : PI X tg iter wi) (hg : PG X tg g) (hb : PSs X body tb)
    (hs : ∀ x, foldedSetIterable iter X.env x = pure x := by intro _; rfl) : PS X (.For tg iter body [] pos) (tFor wi g tb) := by
  intro pins s σ H D I h
  refine wpAny_For (thn (hi pins s σ H _ I h) fun v s1 h1 => thn h1 fun itv s2 h2 => ?_) hs
  obtain ⟨it, fp, tn, J, H2, e, I2, T, st2, f2, W, ⟨m0, w0⟩, turn⟩ := h2
  subst e
  -- what stays true of the iterator's objects through the loop
  have stat : ∀ {H' : Hp}, (∀ b ∈ fp, H' b = none) → ∀ b ∈ fp, FpOk X pins H' b := fun hn b hb => ⟨hn b hb, (f2 b hb).2⟩
  refine codeAny_forLoop_any (fun n s' => ∃ i σ' H', Inv X pins σ' H' s' ∧ tn i s'.heap ∧ (∀ b ∈ fp, H' b = none) ∧ W i n σ' H') ?_ m0 ⟨0, σ, H2, I2, st2, fun b hb => (f2 b hb).1, w0⟩
  rintro n s3 ⟨i, σ3, H3, I3, st3, fr3, w3⟩
  rcases turn i n σ3 H3 w3 with ⟨stop, qn⟩ | ⟨go, N, hN, step⟩
  · refine wpAny_passesOwn hp (thn (T.done X rfl rfl rfl hc i pins s3 σ3 H3 X.xe I3 (stat fr3) st3 stop) fun r s4 ⟨hr, I4⟩ => ?_)
    subst hr
    exact wpAny_execs_nil ⟨σ3, H3, I4, qn⟩
  · refine wpAny_passesOwn hp (thn (T.item X rfl rfl rfl hc i pins s3 σ3 H3 X.xe I3 (stat fr3) st3 go) fun r s4 ⟨u, hr, h4⟩ => ?_)
    subst hr
    refine wpAny_passesOwn hp (thn h4 fun _ s5 ⟨x, H5, I5, r5, y5, st5, fr5⟩ => ?_)
    have I5' := I5.pinned (stat fr5) (T.obj _ _ st5)
    refine wpAny_passesOwn hp (thn (hg _ s5 σ3 H5 x u _ I5' r5 (step x H5 y5)) fun _ s6 ⟨σ6, H6, I6, q6⟩ => ?_)
    refine wpAny_passesOwn hp (thn (hb _ s6 σ6 H6 _ I6 q6) fun f s7 q7 => ?_)
    have again : ∀ {σ7 : St} {H7 : Hp}, Inv X (pins ++ pinsAt fp s5.heap) σ7 H7 s7 → N σ7 H7 → ∃ m, m < n ∧ ∃ i σ' H', Inv X pins σ' H' s7 ∧ tn i s7.heap ∧ (∀ b ∈ fp, H' b = none) ∧ W i m σ' H' := fun {σ7 H7} I7 n7 => by
      obtain ⟨m', hm, w7⟩ := hN σ7 H7 n7
      refine ⟨m', hm, i + 1, σ7, H7, I7.unpinned, T.keep _ _ _ st5 fun b hb o e => (I7.pin (b, o) (List.mem_append_right _ (List.mem_append_right _ (mem_pinsAt hb e)))).1, fun b hb => ?_, w7⟩
      obtain ⟨o, e, d⟩ := T.obj _ _ st5 b hb
      exact (I7.pin (b, o) (List.mem_append_right _ (List.mem_append_right _ (mem_pinsAt hb e)))).2.1
    cases f with
    | next => obtain ⟨σ7, H7, I7, n7⟩ := q7; exact again I7 n7
    | cont => obtain ⟨σ7, H7, I7, n7⟩ := q7; exact again I7 n7
    | brk => obtain ⟨σ7, H7, I7, q7⟩ := q7; exact ⟨σ7, H7, I7.unpinned, q7⟩
    | ret v => obtain ⟨x7, σ7, H7, I7, r7, q7⟩ := q7; exact ⟨x7, σ7, H7, I7.unpinned, r7, q7⟩
end

/-! ### the forms one uses -/
/-- over a list that the body leaves as it is -/
theorem for_list {K : PySem.W.Frag} {a : Addr} {xs : List V} {g : TG} {tb : TS} {D : Ends} {σ : St} {H : Hp} (Pv : Nat → St → Hp → Prop) (h0 : Pv 0 σ H) (hl : ∀ i σ H, i ≤ xs.length → Pv i σ H → SqL K H a xs)
    (hs : ∀ i x σ H, xs[i]? = some x → Pv i σ H → g x σ H fun σ2 H2 => tb { D with nx := Pv (i + 1), ct := Pv (i + 1), bk := D.nx } σ2 H2) (hd : ∀ σ H, Pv xs.length σ H → D.nx σ H) :
    ∃ W : Nat → Nat → St → Hp → Prop, (∃ m, W 0 m σ H) ∧ ∀ i m σ H, W i m σ H →
      ((Itl K a).stop i H ∧ D.nx σ H) ∨ ((Itl K a).go i H ∧ ∃ N : St → Hp → Prop, (∀ σ' H', N σ' H' → ∃ m', m' < m ∧ W (i + 1) m' σ' H') ∧ ∀ x H', (Itl K a).yld i H x H' → g x σ H' fun σ2 H2 => tb { D with nx := N, ct := N, bk := D.nx } σ2 H2) := by
  refine ⟨fun i m σ H => m = xs.length - i ∧ i ≤ xs.length ∧ Pv i σ H, ⟨xs.length, by simp, Nat.zero_le _, h0⟩, ?_⟩
  rintro i m σ H ⟨rfl, hi, p⟩
  have q := hl i σ H hi p
  by_cases hlt : i < xs.length
  · refine .inr ⟨⟨xs, xs[i], q, by simp [hlt]⟩, Pv (i + 1), fun σ' H' p' => ⟨xs.length - (i + 1), by omega, rfl, hlt, p'⟩, fun x H' y => ?_⟩
    obtain ⟨e, y⟩ := y
    subst e
    exact hs i x σ _ (y xs q) p
  · have e : i = xs.length := by omega
    subst e
    exact .inl ⟨⟨xs, q, Nat.le_refl _⟩, hd σ H p⟩
theorem for_tup {K : PySem.W.Frag} {a : Addr} {xs : List V} {g : TG} {tb : TS} {D : Ends} {σ : St} {H : Hp} (Pv : Nat → St → Hp → Prop) (h0 : Pv 0 σ H) (hl : ∀ i σ H, i ≤ xs.length → Pv i σ H → SqT K H a xs)
    (hs : ∀ i x σ H, xs[i]? = some x → Pv i σ H → g x σ H fun σ2 H2 => tb { D with nx := Pv (i + 1), ct := Pv (i + 1), bk := D.nx } σ2 H2) (hd : ∀ σ H, Pv xs.length σ H → D.nx σ H) :
    ∃ W : Nat → Nat → St → Hp → Prop, (∃ m, W 0 m σ H) ∧ ∀ i m σ H, W i m σ H →
      ((Itt K a).stop i H ∧ D.nx σ H) ∨ ((Itt K a).go i H ∧ ∃ N : St → Hp → Prop, (∀ σ' H', N σ' H' → ∃ m', m' < m ∧ W (i + 1) m' σ' H') ∧ ∀ x H', (Itt K a).yld i H x H' → g x σ H' fun σ2 H2 => tb { D with nx := N, ct := N, bk := D.nx } σ2 H2) := by
  refine ⟨fun i m σ H => m = xs.length - i ∧ i ≤ xs.length ∧ Pv i σ H, ⟨xs.length, by simp, Nat.zero_le _, h0⟩, ?_⟩
  rintro i m σ H ⟨rfl, hi, p⟩
  have q := hl i σ H hi p
  by_cases hlt : i < xs.length
  · refine .inr ⟨⟨xs, xs[i], q, by simp [hlt]⟩, Pv (i + 1), fun σ' H' p' => ⟨xs.length - (i + 1), by omega, rfl, hlt, p'⟩, fun x H' y => ?_⟩
    obtain ⟨e, y⟩ := y
    subst e
    exact hs i x σ _ (y xs q) p
  · have e : i = xs.length := by omega
    subst e
    exact .inl ⟨⟨xs, q, Nat.le_refl _⟩, hd σ H p⟩
theorem for_range {lo : Int} {n : Nat} {g : TG} {tb : TS} {D : Ends} {σ : St} {H : Hp} (Pv : Nat → St → Hp → Prop) (h0 : Pv 0 σ H)
    (hs : ∀ i σ H, i < n → Pv i σ H → g (.int (lo + i)) σ H fun σ2 H2 => tb { D with nx := Pv (i + 1), ct := Pv (i + 1), bk := D.nx } σ2 H2) (hd : ∀ σ H, Pv n σ H → D.nx σ H) :
    ∃ W : Nat → Nat → St → Hp → Prop, (∃ m, W 0 m σ H) ∧ ∀ i m σ H, W i m σ H →
      ((Itr lo n).stop i H ∧ D.nx σ H) ∨ ((Itr lo n).go i H ∧ ∃ N : St → Hp → Prop, (∀ σ' H', N σ' H' → ∃ m', m' < m ∧ W (i + 1) m' σ' H') ∧ ∀ x H', (Itr lo n).yld i H x H' → g x σ H' fun σ2 H2 => tb { D with nx := N, ct := N, bk := D.nx } σ2 H2) := by
  refine ⟨fun i m σ H => m = n - i ∧ i ≤ n ∧ Pv i σ H, ⟨n, by simp, Nat.zero_le _, h0⟩, ?_⟩
  rintro i m σ H ⟨rfl, hi, p⟩
  by_cases hlt : i < n
  · refine .inr ⟨hlt, Pv (i + 1), fun σ' H' p' => ⟨n - (i + 1), by omega, rfl, hlt, p'⟩, fun x H' y => ?_⟩
    obtain ⟨e, y⟩ := y
    subst e y
    exact hs i σ _ hlt p
  · have e : i = n := by omega
    subst e
    exact .inl ⟨Nat.le_refl _, hd σ H p⟩
/-- while, by a word and a measure of the state -/
theorem while_by {c : TT} {tb : TS} {D : Ends} {σ : St} {H : Hp} (Pv : St → Hp → Prop) (μ : St → Hp → Nat) (h0 : Pv σ H)
    (hs : ∀ σ H, Pv σ H → c σ H fun b H1 => if b = true then tb { D with nx := fun σ' H' => Pv σ' H' ∧ μ σ' H' < μ σ H, ct := fun σ' H' => Pv σ' H' ∧ μ σ' H' < μ σ H, bk := D.nx } σ H1 else D.nx σ H1)
    (mono : ∀ σ H Q Q', (∀ b H1, Q b H1 → Q' b H1) → c σ H Q → c σ H Q') : tWhile c tb D σ H := by
  refine ⟨fun m σ H => m = μ σ H ∧ Pv σ H, ⟨_, rfl, h0⟩, ?_⟩
  rintro m σ H ⟨rfl, p⟩
  refine mono σ H _ _ (fun b H1 q => ?_) (hs σ H p)
  cases b with
  | true => exact ⟨_, fun σ' H' ⟨p', l⟩ => ⟨_, l, rfl, p'⟩, q⟩
  | false => exact q
end L2

namespace L2
open PySem PySem.Spec PyProof.Rows

abbrev R2 := V → V → Hp → VK → Prop
/-- a two-place operation on values: f is binaryOp op, inplaceOp op or compareOp op -/
def OpR (X : Cx) (f : Value → Value → Sem Value) (r : R2) : Prop :=
  ∀ (pins : List (Addr × Obj)) (s : Shared) (σ : St) (H : Hp) (x y : V) (v u : Value) (Q : VK), Inv X pins σ H s → RelV x v → RelV y u → r x y H Q →
    wpAny (model X.prog X.w) X.A (f v u) (EP X pins σ Q) X.xe s
/-- a one-place operation -/
def UnR (X : Cx) (f : Value → Sem Value) (r : V → Hp → VK → Prop) : Prop :=
  ∀ (pins : List (Addr × Obj)) (s : Shared) (σ : St) (H : Hp) (x : V) (v : Value) (Q : VK), Inv X pins σ H s → RelV x v → r x H Q →
    wpAny (model X.prog X.w) X.A (f v) (EP X pins σ Q) X.xe s
/-- a call of a value that is known (a builtin, a type) with values -/
def CallR (X : Cx) (f : Value) (r : List V → Hp → VK → Prop) : Prop :=
  ∀ (pins : List (Addr × Obj)) (s : Shared) (σ : St) (H : Hp) (xs : List V) (us : List Value) (Q : VK), Inv X pins σ H s → Vals xs us → r xs H Q →
    wpAny (model X.prog X.w) X.A (call f us) (EP X pins σ Q) X.xe s
/-- a value's truth -/
def TruR (X : Cx) (r : V → Hp → (Bool → Hp → Prop) → Prop) : Prop :=
  ∀ (pins : List (Addr × Obj)) (s : Shared) (σ : St) (H : Hp) (x : V) (v : Value) (Q : Bool → Hp → Prop), Inv X pins σ H s → RelV x v → r x H Q →
    wpAny (model X.prog X.w) X.A (truthy v) (TP X pins σ Q) X.xe s

def tOp (r : R2) (ta tb : TE) : TE := fun σ H Q => ta σ H fun x H1 => tb σ H1 fun y H2 => r x y H2 Q
def tUn (r : V → Hp → VK → Prop) (ta : TE) : TE := fun σ H Q => ta σ H fun x H1 => r x H1 Q
/-- ints in, under C, and a value out -/
def rI (C : Int → Int → Prop) (g : Int → Int → V) : R2 := fun x y H Q => ∃ i j, x = .int i ∧ y = .int j ∧ C i j ∧ Q (g i j) H
def rI0 (g : Int → Int → V) : R2 := fun x y H Q => ∃ i j, x = .int i ∧ y = .int j ∧ Q (g i j) H
def rU (g : Int → V) : V → Hp → VK → Prop := fun x H Q => ∃ i, x = .int i ∧ Q (g i) H

section
variable {X : Cx} {a b c : Expr} {ta tb tc : TE} {pos : Pos}

theorem binT (ha : PE X a ta) (hb : PE X b tb) {pins : List (Addr × Obj)} {s : Shared} {σ : St} {H : Hp} {R : V → V → Hp → Prop} (I : Inv X pins σ H s)
    (h : ta σ H fun x H1 => tb σ H1 fun y H2 => R x y H2) {Q : Value → Shared → Prop} {f : Value → Value → Sem Value}
    (hf : ∀ v u s2 x y H2, Inv X pins σ H2 s2 → RelV x v → RelV y u → R x y H2 → wpAny (model X.prog X.w) X.A (f v u) Q X.xe s2) :
    wpAny (model X.prog X.w) X.A (eval a X.env) (fun v s₁ => wpAny (model X.prog X.w) X.A (eval b X.env) (fun u s₂ => wpAny (model X.prog X.w) X.A (f v u) Q X.xe s₂) X.xe s₁) X.xe s := by
  refine thn (ha pins s σ H _ I h) fun v s1 ⟨x, H1, I1, r1, q1⟩ => ?_
  refine thn (hb pins s1 σ H1 _ I1 q1) fun u s2 ⟨y, H2, I2, r2, q2⟩ => ?_
  exact hf v u s2 x y H2 I2 r1 r2 q2

theorem pe_op {op : Operator} {r : R2} (ho : OpR X (binaryOp op) r) (ha : PE X a ta) (hb : PE X b tb) : PE X (.BinOp a op b pos) (tOp r ta tb) := by
  intro pins s σ H Q I h
  exact wpAny_BinOp (binT ha hb I h fun v u s2 x y H2 I2 rx ry q => ho pins s2 σ H2 x y v u Q I2 rx ry q)
theorem pe_un {op : UnaryOp} {r : V → Hp → VK → Prop} (ho : UnR X (unaryOp op) r) (ha : PE X a ta) : PE X (.UnaryOp op a pos) (tUn r ta) := by
  intro pins s σ H Q I h
  exact UnaryOp_ (thn (ha pins s σ H _ I h) fun v s1 ⟨x, H1, I1, r1, q1⟩ => ho pins s1 σ H1 x v Q I1 r1 q1)
/-- a op= e at a name: the name's slot i -/
theorem augR {op : Operator} {r : R2} (ho : OpR X (inplaceOp op) r) {pins : List (Addr × Obj)} {s : Shared} {σ : St} {H : Hp} {x y : V} {v u : Value} {Q : VK} (I : Inv X pins σ H s)
    (rx : RelV x v) (ry : RelV y u) (q : r x y H Q) : wpAny (model X.prog X.w) X.A (inplaceOp op v u) (EP X pins σ Q) X.xe s := ho pins s σ H x y v u Q I rx ry q

/-! ### ints -/
theorem opI {f : Value → Value → Sem Value} {C : Int → Int → Prop} {g : Int → Int → Int}
    (rule : ∀ (i j : Int) (t u : Tok) (s : Shared) (Q : Value → Shared → Prop) (E : Value → Shared → Prop), C i j → Q (.int (g i j) s.toks) { s with toks := s.toks + 1 } → wpAny (model X.prog X.w) X.A (f (.int i t) (.int j u)) Q E s) :
    OpR X f (rI C fun i j => .int (g i j)) := by
  intro pins s σ H x y v u Q I rx ry h
  obtain ⟨i, j, rfl, rfl, hc, q⟩ := h
  obtain ⟨t, rfl⟩ := rx
  obtain ⟨t', rfl⟩ := ry
  exact rule i j t t' s _ _ hc ⟨.int (g i j), H, I.tok _, ⟨_, rfl⟩, q⟩
theorem opI0 {f : Value → Value → Sem Value} {g : Int → Int → Int}
    (rule : ∀ (i j : Int) (t u : Tok) (s : Shared) (Q : Value → Shared → Prop) (E : Value → Shared → Prop), Q (.int (g i j) s.toks) { s with toks := s.toks + 1 } → wpAny (model X.prog X.w) X.A (f (.int i t) (.int j u)) Q E s) :
    OpR X f (rI0 fun i j => .int (g i j)) := by
  intro pins s σ H x y v u Q I rx ry h
  obtain ⟨i, j, rfl, rfl, q⟩ := h
  obtain ⟨t, rfl⟩ := rx
  obtain ⟨t', rfl⟩ := ry
  exact rule i j t t' s _ _ ⟨.int (g i j), H, I.tok _, ⟨_, rfl⟩, q⟩
theorem opB0 {f : Value → Value → Sem Value} {g : Int → Int → Bool}
    (rule : ∀ (i j : Int) (t u : Tok) (s : Shared) (Q : Value → Shared → Prop) (E : Value → Shared → Prop), Q (.bool (g i j)) s → wpAny (model X.prog X.w) X.A (f (.int i t) (.int j u)) Q E s) :
    OpR X f (rI0 fun i j => .bl (g i j)) := by
  intro pins s σ H x y v u Q I rx ry h
  obtain ⟨i, j, rfl, rfl, q⟩ := h
  obtain ⟨t, rfl⟩ := rx
  obtain ⟨t', rfl⟩ := ry
  exact rule i j t t' s _ _ ⟨.bl (g i j), H, I, rfl, q⟩

def CDiv (i j : Int) : Prop := 0 < j ∧ j < 1073741824
def CDivN (i j : Int) : Prop := j ≠ 0 ∧ j.natAbs < 1073741824
def CPow (i j : Int) : Prop := 0 ≤ j ∧ j ≤ 1000000 ∧ i.natAbs < 2 ^ 64
def CMul (i j : Int) : Prop := (-(2 ^ 64) < i ∧ i < 2 ^ 64) ∨ (-(2 ^ 64) < j ∧ j < 2 ^ 64)
theorem CMul.ok {i j : Int} (h : CMul i j) : IntMulOk i j := by
  rcases h with ⟨h1, h2⟩ | ⟨h1, h2⟩
  · exact .of_left (intBits_le_64 h1 h2)
  · exact .of_right (intBits_le_64 h1 h2)
theorem two_pow_nn (k : Nat) : (0 : Int) ≤ 2 ^ k := by
  rw [two_pow_cast]
  exact Int.natCast_nonneg _

theorem op_add : OpR X (binaryOp .Add) (rI0 fun i j => .int (i + j)) := opI0 fun _ _ _ _ _ _ _ q => add_int q
theorem op_sub : OpR X (binaryOp .Sub) (rI0 fun i j => .int (i - j)) := opI0 fun _ _ _ _ _ _ _ q => sub_int q
theorem op_mul : OpR X (binaryOp .Mult) (rI CMul fun i j => .int (i * j)) := opI fun _ _ _ _ _ _ _ hc q => mul_int q hc.ok
/-- // by a positive divisor -/
theorem op_fdiv : OpR X (binaryOp .FloorDiv) (rI CDiv fun i j => .int (i / j)) := opI fun i j _ _ _ _ _ hc q => by
  have h1 : (0 : Int) < j := hc.1
  have h2 : j < 1073741824 := hc.2
  exact floordiv_int (by omega) (by rw [Int.fdiv_eq_ediv_of_nonneg i (by omega)]; exact q) (.inl (PyProof.noPylong_small (by omega)))
theorem op_fdivN : OpR X (binaryOp .FloorDiv) (rI CDivN fun i j => .int (i.fdiv j)) := opI fun _ _ _ _ _ _ _ hc q => floordiv_int hc.1 q (.inl (PyProof.noPylong_small hc.2))
/-- % by a positive divisor of any size -/
theorem op_mod : OpR X (binaryOp .Mod) (rI (fun _ j => 0 < j) fun i j => .int (i % j)) := opI fun i j _ _ _ _ _ hc q => by
  have h1 : (0 : Int) < j := hc
  exact mod_int' (by omega) (by rw [Int.fmod_eq_emod_of_nonneg i (by omega)]; exact q)
theorem op_modN : OpR X (binaryOp .Mod) (rI (fun _ j => j ≠ 0) fun i j => .int (i.fmod j)) := opI fun _ _ _ _ _ _ _ hc q => mod_int' hc q
theorem op_pow : OpR X (binaryOp .Pow) (rI CPow fun i j => .int (i ^ j.toNat)) := opI fun _ _ _ _ _ _ _ hc q => pow_int_small hc.1 hc.2.1 hc.2.2 q
theorem op_shl : OpR X (binaryOp .LShift) (rI CPow fun i j => .int (i * 2 ^ j.toNat)) := opI fun _ _ _ _ _ _ _ hc q => lshift_int_small hc.1 hc.2.1 hc.2.2 q
theorem op_shr : OpR X (binaryOp .RShift) (rI (fun _ j => 0 ≤ j) fun i j => .int (i / 2 ^ j.toNat)) := opI fun i j _ _ _ _ _ hc q =>
  rshift_int hc (by rw [Int.fdiv_eq_ediv_of_nonneg i (two_pow_nn _)]; exact q)
theorem op_and : OpR X (binaryOp .BitAnd) (rI0 fun i j => .int (Builtin.bitAnd i j)) := opI0 fun _ _ _ _ _ _ _ q => and_int q
theorem op_or : OpR X (binaryOp .BitOr) (rI0 fun i j => .int (Builtin.bitOr i j)) := opI0 fun _ _ _ _ _ _ _ q => or_int q
theorem op_xor : OpR X (binaryOp .BitXor) (rI0 fun i j => .int (Builtin.bitXor i j)) := opI0 fun _ _ _ _ _ _ _ q => xor_int q

theorem iop_add : OpR X (inplaceOp .Add) (rI0 fun i j => .int (i + j)) := opI0 fun _ _ _ _ _ _ _ q => iadd_int q
theorem iop_sub : OpR X (inplaceOp .Sub) (rI0 fun i j => .int (i - j)) := opI0 fun _ _ _ _ _ _ _ q => isub_int q
theorem iop_mul : OpR X (inplaceOp .Mult) (rI CMul fun i j => .int (i * j)) := opI fun _ _ _ _ _ _ _ hc q => imul_int q hc.ok
theorem iop_fdiv : OpR X (inplaceOp .FloorDiv) (rI CDiv fun i j => .int (i / j)) := opI fun i j _ _ _ _ _ hc q => by
  have h1 : (0 : Int) < j := hc.1
  have h2 : j < 1073741824 := hc.2
  exact ifloordiv_int (by omega) (by rw [Int.fdiv_eq_ediv_of_nonneg i (by omega)]; exact q) (.inl (PyProof.noPylong_small (by omega)))
theorem iop_mod : OpR X (inplaceOp .Mod) (rI (fun _ j => 0 < j) fun i j => .int (i % j)) := opI fun i j _ _ _ _ _ hc q => by
  have h1 : (0 : Int) < j := hc
  exact imod_int (by omega) (by rw [Int.fmod_eq_emod_of_nonneg i (by omega)]; exact q)
theorem iop_shl : OpR X (inplaceOp .LShift) (rI CPow fun i j => .int (i * 2 ^ j.toNat)) := opI fun _ _ _ _ _ _ _ hc q => ilshift_int_small hc.1 hc.2.1 hc.2.2 q
theorem iop_shr : OpR X (inplaceOp .RShift) (rI (fun _ j => 0 ≤ j) fun i j => .int (i / 2 ^ j.toNat)) := opI fun i j _ _ _ _ _ hc q =>
  irshift_int hc (by rw [Int.fdiv_eq_ediv_of_nonneg i (two_pow_nn _)]; exact q)
theorem iop_and : OpR X (inplaceOp .BitAnd) (rI0 fun i j => .int (Builtin.bitAnd i j)) := opI0 fun _ _ _ _ _ _ _ q => iand_int q
theorem iop_or : OpR X (inplaceOp .BitOr) (rI0 fun i j => .int (Builtin.bitOr i j)) := opI0 fun _ _ _ _ _ _ _ q => ior_int q
theorem iop_xor : OpR X (inplaceOp .BitXor) (rI0 fun i j => .int (Builtin.bitXor i j)) := opI0 fun _ _ _ _ _ _ _ q => ixor_int q

theorem unI {f : Value → Sem Value} {g : Int → Int}
    (rule : ∀ (i : Int) (t : Tok) (s : Shared) (Q : Value → Shared → Prop) (E : Value → Shared → Prop), Q (.int (g i) s.toks) { s with toks := s.toks + 1 } → wpAny (model X.prog X.w) X.A (f (.int i t)) Q E s) :
    UnR X f (rU fun i => .int (g i)) := by
  intro pins s σ H x v Q I rx h
  obtain ⟨i, rfl, q⟩ := h
  obtain ⟨t, rfl⟩ := rx
  exact rule i t s _ _ ⟨.int (g i), H, I.tok _, ⟨_, rfl⟩, q⟩
theorem un_neg : UnR X (unaryOp .USub) (rU fun i => .int (-i)) := unI fun _ _ _ _ _ q => neg_int q
theorem un_inv : UnR X (unaryOp .Invert) (rU fun i => .int (Builtin.bitNot i)) := unI fun _ _ _ _ _ q => invert_int q

/-! ### bools among ints: n += (a < b) -/
theorem op_add_ib : OpR X (binaryOp .Add) (fun x y H Q => ∃ i k, x = .int i ∧ y = .bl k ∧ Q (.int (i + b2i k)) H) := by
  intro pins s σ H x y v u Q I rx ry h
  obtain ⟨i, k, rfl, rfl, q⟩ := h
  obtain ⟨t, rfl⟩ := rx
  cases ry
  exact add_int_bool ⟨.int (i + b2i k), H, I.tok _, ⟨_, rfl⟩, q⟩
end

/-! ### comparisons -/
/-- the scalars that == tells apart as data does -/
def scal : V → V → Bool
  | .non, .non => true | .non, .int _ => true | .int _, .non => true | .non, .bl _ => true | .bl _, .non => true | .non, .str _ => true | .str _, .non => true
  | .int _, .int _ => true | .bl _, .bl _ => true | .str _, .str _ => true | .byt _, .byt _ => true
  | .int _, .str _ => true | .str _, .int _ => true | .bl _, .str _ => true | .str _, .bl _ => true
  | _, _ => false
def rEq : R2 := fun x y H Q => scal x y = true ∧ Q (.bl (decide (x = y))) H
def rNe : R2 := fun x y H Q => scal x y = true ∧ Q (.bl (!decide (x = y))) H

theorem dec_int {i j : Int} : decide (V.int i = V.int j) = (i == j) := by
  rw [Bool.eq_iff_iff]
  simp
theorem dec_bl {i j : Bool} : decide (V.bl i = V.bl j) = (i == j) := by
  rw [Bool.eq_iff_iff]
  simp
theorem dec_str {i j : Str} : decide (V.str i = V.str j) = (i == j) := by
  rw [Bool.eq_iff_iff]
  simp
theorem dec_byt {i j : Array UInt8} : decide (V.byt i = V.byt j) = (i.toList == j.toList) := by
  rw [Bool.eq_iff_iff]
  cases i
  cases j
  simp

section
variable {X : Cx} {a b c : Expr} {ta tb tc : TE} {pos : Pos}
theorem fin_bl {pins : List (Addr × Obj)} {σ : St} {H : Hp} {s : Shared} {Q : VK} {k k' : Bool} (I : Inv X pins σ H s) (q : Q (.bl k) H) (e : k = k') : EP X pins σ Q (.bool k') s := by
  subst e
  exact ⟨.bl k, H, I, rfl, q⟩
theorem op_eq : OpR X (compareOp .Eq) rEq := by
  intro pins s σ H x y v u Q I rx ry h
  obtain ⟨hs, q⟩ := h
  cases x with
  | non =>
    cases rx
    cases y with
    | non => cases ry; exact PySem.EqNone.eq_none_none (fin_bl I q (by simp))
    | bl j => cases ry; exact PySem.EqNone.eq_none_bool (fin_bl I q (by simp))
    | int j => obtain ⟨t', rfl⟩ := ry; exact PySem.EqNone.eq_none_int (fin_bl I q (by simp))
    | str j => obtain ⟨t', rfl⟩ := ry; exact PySem.EqNone.eq_none_str (fin_bl I q (by simp))
    | _ => exact absurd (show false = true from hs) Bool.false_ne_true
  | bl i =>
    cases rx
    cases y with
    | non => cases ry; exact PySem.EqNone.eq_bool_none (fin_bl I q (by simp))
    | bl j => cases ry; exact eq_bool (fin_bl I q dec_bl)
    | str j => obtain ⟨t', rfl⟩ := ry; exact PySem.EqMixed.eq_bool_str (fin_bl I q (by simp))
    | _ => exact absurd (show false = true from hs) Bool.false_ne_true
  | int i =>
    obtain ⟨t, rfl⟩ := rx
    cases y with
    | non => cases ry; exact PySem.EqNone.eq_int_none (fin_bl I q (by simp))
    | int j => obtain ⟨t', rfl⟩ := ry; exact eq_int (fin_bl I q dec_int)
    | str j => obtain ⟨t', rfl⟩ := ry; exact PySem.EqMixed.eq_int_str (fin_bl I q (by simp))
    | _ => exact absurd (show false = true from hs) Bool.false_ne_true
  | str i =>
    obtain ⟨t, rfl⟩ := rx
    cases y with
    | non => cases ry; exact PySem.EqNone.eq_str_none (fin_bl I q (by simp))
    | bl j => cases ry; exact PySem.EqMixed.eq_str_bool (fin_bl I q (by simp))
    | int j => obtain ⟨t', rfl⟩ := ry; exact PySem.EqMixed.eq_str_int (fin_bl I q (by simp))
    | str j => obtain ⟨t', rfl⟩ := ry; exact eq_str (fin_bl I q dec_str)
    | _ => exact absurd (show false = true from hs) Bool.false_ne_true
  | byt i =>
    obtain ⟨t, rfl⟩ := rx
    cases y with
    | byt j => obtain ⟨t', rfl⟩ := ry; exact PySem.W.eq_bytes (fin_bl I q dec_byt)
    | _ => exact absurd (show false = true from hs) Bool.false_ne_true
  | _ => cases y <;> exact absurd (show false = true from hs) Bool.false_ne_true
theorem op_ne : OpR X (compareOp .NotEq) rNe := by
  intro pins s σ H x y v u Q I rx ry h
  obtain ⟨hs, q⟩ := h
  cases x with
  | non =>
    cases rx
    cases y with
    | non => cases ry; exact PySem.EqNone.ne_none_none (fin_bl I q (by simp))
    | bl j => cases ry; exact PySem.EqNone.ne_none_bool (fin_bl I q (by simp))
    | int j => obtain ⟨t', rfl⟩ := ry; exact PySem.EqNone.ne_none_int (fin_bl I q (by simp))
    | str j => obtain ⟨t', rfl⟩ := ry; exact PySem.EqNone.ne_none_str (fin_bl I q (by simp))
    | _ => exact absurd (show false = true from hs) Bool.false_ne_true
  | bl i =>
    cases rx
    cases y with
    | non => cases ry; exact PySem.EqNone.ne_bool_none (fin_bl I q (by simp))
    | bl j => cases ry; exact ne_bool (fin_bl I q (congrArg not dec_bl))
    | str j => obtain ⟨t', rfl⟩ := ry; exact PySem.EqMixed.ne_bool_str (fin_bl I q (by simp))
    | _ => exact absurd (show false = true from hs) Bool.false_ne_true
  | int i =>
    obtain ⟨t, rfl⟩ := rx
    cases y with
    | non => cases ry; exact PySem.EqNone.ne_int_none (fin_bl I q (by simp))
    | int j => obtain ⟨t', rfl⟩ := ry; exact ne_int (fin_bl I q (congrArg not dec_int))
    | str j => obtain ⟨t', rfl⟩ := ry; exact PySem.EqMixed.ne_int_str (fin_bl I q (by simp))
    | _ => exact absurd (show false = true from hs) Bool.false_ne_true
  | str i =>
    obtain ⟨t, rfl⟩ := rx
    cases y with
    | non => cases ry; exact PySem.EqNone.ne_str_none (fin_bl I q (by simp))
    | bl j => cases ry; exact PySem.EqMixed.ne_str_bool (fin_bl I q (by simp))
    | int j => obtain ⟨t', rfl⟩ := ry; exact PySem.EqMixed.ne_str_int (fin_bl I q (by simp))
    | str j => obtain ⟨t', rfl⟩ := ry; exact ne_str (fin_bl I q (congrArg not dec_str))
    | _ => exact absurd (show false = true from hs) Bool.false_ne_true
  | byt i =>
    obtain ⟨t, rfl⟩ := rx
    cases y with
    | byt j => obtain ⟨t', rfl⟩ := ry; exact PySem.W.ne_bytes (fin_bl I q (congrArg not dec_byt))
    | _ => exact absurd (show false = true from hs) Bool.false_ne_true
  | _ => cases y <;> exact absurd (show false = true from hs) Bool.false_ne_true

theorem op_lt : OpR X (compareOp .Lt) (rI0 fun i j => .bl (decide (i < j))) := opB0 fun _ _ _ _ _ _ _ q => lt_int q
theorem op_le : OpR X (compareOp .LtE) (rI0 fun i j => .bl (decide (i ≤ j))) := opB0 fun _ _ _ _ _ _ _ q => le_int q
theorem op_gt : OpR X (compareOp .Gt) (rI0 fun i j => .bl (decide (j < i))) := opB0 fun _ _ _ _ _ _ _ q => gt_int q
theorem op_ge : OpR X (compareOp .GtE) (rI0 fun i j => .bl (decide (j ≤ i))) := opB0 fun _ _ _ _ _ _ _ q => ge_int q
theorem op_lt_str : OpR X (compareOp .Lt) (fun x y H Q => ∃ i j, x = .str i ∧ y = .str j ∧ Q (.bl (decide (i.cps.toList < j.cps.toList))) H) := by
  intro pins s σ H x y v u Q I rx ry h
  obtain ⟨i, j, rfl, rfl, q⟩ := h
  obtain ⟨t, rfl⟩ := rx
  obtain ⟨t', rfl⟩ := ry
  exact lt_str (fin_bl I q rfl)
/-- the one string within the other -/
theorem op_in_str : OpR X (compareOp .In) (fun x y H Q => ∃ i j, x = .str i ∧ y = .str j ∧ Q (.bl (!(Builtin.Str.occurrences j i 0 j.length 1).isEmpty)) H) := by
  intro pins s σ H x y v u Q I rx ry h
  obtain ⟨i, j, rfl, rfl, q⟩ := h
  obtain ⟨t, rfl⟩ := rx
  obtain ⟨t', rfl⟩ := ry
  exact in_str (fin_bl I q rfl)

/-- is None, is not None: the right side a value none -/
theorem op_isN : OpR X (compareOp .Is) (fun x y H Q => y = .non ∧ Q (.bl (decide (x = .non))) H) := by
  intro pins s σ H x y v u Q I rx ry h
  obtain ⟨rfl, q⟩ := h
  cases ry
  refine is_none_gen (fin_bl I q ?_)
  cases x <;> first
    | (cases rx; rfl)
    | (obtain ⟨t, rfl⟩ := rx; rfl)
theorem op_notN : OpR X (compareOp .IsNot) (fun x y H Q => y = .non ∧ Q (.bl (!decide (x = .non))) H) := by
  intro pins s σ H x y v u Q I rx ry h
  obtain ⟨rfl, q⟩ := h
  cases ry
  refine isnot_none_gen (fin_bl I q ?_)
  cases x <;> first
    | (cases rx; rfl)
    | (obtain ⟨t, rfl⟩ := rx; rfl)

theorem op_notin_str : OpR X (compareOp .NotIn) (fun x y H Q => ∃ i j, x = .str i ∧ y = .str j ∧ Q (.bl (!(!(Builtin.Str.occurrences j i 0 j.length 1).isEmpty))) H) := by
  intro pins s σ H x y v u Q I rx ry h
  obtain ⟨i, j, rfl, rfl, q⟩ := h
  obtain ⟨t, rfl⟩ := rx
  obtain ⟨t', rfl⟩ := ry
  exact notIn_str (fin_bl I q rfl)
/-- is, is not of two objects that are tracked lists or instances -/
def isObj : HO → Bool
  | .lst _ => true
  | .ins _ _ _ => true
  | _ => false
theorem obj_there {pins : List (Addr × Obj)} {s : Shared} {σ : St} {H : Hp} {a : Addr} {o : HO} (I : Inv X pins σ H s) (h : H a = some o) (p : isObj o = true) : ∃ ob, s.heap.get? a = some ob ∧ ob.cls ≠ .type "tuple" := by
  cases o with
  | lst xs =>
    obtain ⟨_, its, n, _, e⟩ : xs.length ≤ sizeLine ∧ ∃ (its : List Value) (n : Nat), Vals xs its ∧ s.heap.get? a = some { cls := .type "list", data := .seq its.toArray n } := I.hok a _ h
    exact ⟨_, e, (by show Value.type "list" ≠ .type "tuple"; decide +kernel)⟩
  | ins C dx fs =>
    have x := I.hok a _ h
    obtain ⟨_, _, _, e, _⟩ := x
    exact ⟨_, e, (by show Value.ref C ≠ .type "tuple"; exact fun z => by cases z)⟩
  | _ => exact absurd (show false = true from p) Bool.false_ne_true
theorem op_is_ref : OpR X (compareOp .Is) (fun x y H Q => ∃ a b oa ob, x = .ref a ∧ y = .ref b ∧ H a = some oa ∧ isObj oa = true ∧ H b = some ob ∧ isObj ob = true ∧ Q (.bl (decide (a = b))) H) := by
  intro pins s σ H x y v u Q I rx ry h
  obtain ⟨a, b, oa, ob, rfl, rfl, ha, pa, hb, pb, q⟩ := h
  cases rx
  cases ry
  obtain ⟨o1, e1, n1⟩ := obj_there I ha pa
  obtain ⟨o2, e2, _⟩ := obj_there I hb pb
  by_cases z : a = b
  · subst z
    exact wpAny_is_ref_self (fin_bl I q (by simp))
  · exact wpAny_is_ref_other z e1 e2 n1 (fin_bl I q (by simp [z]))
theorem op_isnot_ref : OpR X (compareOp .IsNot) (fun x y H Q => ∃ a b oa ob, x = .ref a ∧ y = .ref b ∧ H a = some oa ∧ isObj oa = true ∧ H b = some ob ∧ isObj ob = true ∧ Q (.bl (!decide (a = b))) H) := by
  intro pins s σ H x y v u Q I rx ry h
  obtain ⟨a, b, oa, ob, rfl, rfl, ha, pa, hb, pb, q⟩ := h
  cases rx
  cases ry
  obtain ⟨o1, e1, n1⟩ := obj_there I ha pa
  obtain ⟨o2, e2, _⟩ := obj_there I hb pb
  by_cases z : a = b
  · subst z
    exact wpAny_isNot_ref_self (fin_bl I q (by simp))
  · exact wpAny_isNot_ref_other z e1 e2 n1 (fin_bl I q (by simp [z]))

/-- two rules for one operation: by cases -/
theorem OpR.or {f : Value → Value → Sem Value} {r r' : R2} (h : OpR X f r) (h' : OpR X f r') : OpR X f (fun x y H Q => r x y H Q ∨ r' x y H Q) := by
  intro pins s σ H x y v u Q I rx ry q
  rcases q with q | q
  · exact h pins s σ H x y v u Q I rx ry q
  · exact h' pins s σ H x y v u Q I rx ry q

theorem nomark (b : Expr) {op : CmpOp} (h : op ≠ .In := by decide) (h2 : op ≠ .NotIn := by decide) : behindInMarks op b = false := by
  have e1 : (op == CmpOp.In) = false := by cases op <;> first | rfl | exact absurd rfl h
  have e2 : (op == CmpOp.NotIn) = false := by cases op <;> first | rfl | exact absurd rfl h2
  cases b <;> simp [behindInMarks, e1, e2]
/-- a comparison as a value; hm: nomark b, or (for in, not in) by with_unfolding_all rfl -/
theorem pe_cmpR {op : CmpOp} {r : R2} (ho : OpR X (compareOp op) r) (ha : PE X a ta) (hb : PE X b tb) (hm : behindInMarks op b = false) : PE X (.Compare a [op] [b] pos) (tOp r ta tb) := by
  intro pins s σ H Q I h
  exact wpAny_Compare1 (binT ha hb I h fun v u s2 x y H2 I2 rx ry q => ho pins s2 σ H2 x y v u Q I2 rx ry q) hm
/-- a reading of a value as a test -/
def tTest (t : TE) : TT := fun σ H Q => t σ H fun x H' => ∃ k, x = .bl k ∧ Q k H'
theorem pt_cmpR {op : CmpOp} {r : R2} (ho : OpR X (compareOp op) r) (ha : PE X a ta) (hb : PE X b tb) (hm : behindInMarks op b = false) : PT X (.Compare a [op] [b] pos) (tTest (tOp r ta tb)) := by
  intro pins s σ H Q I h
  refine wpAny_isTrue_Compare1 (thn (ha pins s σ H _ I h) fun v s1 ⟨x, H1, I1, r1, q1⟩ => thn (hb pins s1 σ H1 _ I1 q1) fun u s2 ⟨y, H2, I2, r2, q2⟩ =>
    thn (ho pins s2 σ H2 x y v u _ I2 r1 r2 q2) fun c s3 ⟨z, H3, I3, r3, k, e, q3⟩ => ?_) hm
  subst e
  cases r3
  exact wpAny_truthy_bool ⟨H3, I3, q3⟩
/-- a op1 b op2 c -/
def tChain (r r' : R2) (ta tb tc : TE) : TE := fun σ H Q => ta σ H fun x H1 => tb σ H1 fun y H2 => r x y H2 fun z H3 => ∃ k, z = .bl k ∧
  (if k = true then tc σ H3 fun w' H4 => r' y w' H4 Q else Q (.bl false) H3)
theorem pe_chain {op op' : CmpOp} {r r' : R2} (ho : OpR X (compareOp op) r) (ho' : OpR X (compareOp op') r') (ha : PE X a ta) (hb : PE X b tb) (hc : PE X c tc)
    (hm : lastMarks [op, op'] [b, c] = false := by with_unfolding_all rfl) : PE X (.Compare a [op, op'] [b, c] pos) (tChain r r' ta tb tc) := by
  intro pins s σ H Q I h
  refine Compare_chain (thn (ha pins s σ H _ I h) fun v s1 ⟨x, H1, I1, r1, q1⟩ => chain_link (thn (hb pins s1 σ H1 _ I1 q1) fun u s2 ⟨y, H2, I2, r2, q2⟩ =>
    thn (ho pins s2 σ H2 x y v u _ I2 r1 r2 q2) fun d s3 ⟨z, H3, I3, r3, k, e, q3⟩ => ?_)) hm
  subst e
  cases r3
  refine wpAny_truthy_bool ?_
  cases k with
  | false => exact ite_ff ⟨.bl false, H3, I3, rfl, q3⟩
  | true => exact ite_tt (chain_last (thn (hc pins s3 σ H3 _ I3 q3) fun w' s4 ⟨z', H4, I4, r4, q4⟩ => ho' pins s4 σ H4 y z' u w' Q I4 r2 r4 q4))
theorem pt_chain {op op' : CmpOp} {r r' : R2} (ho : OpR X (compareOp op) r) (ho' : OpR X (compareOp op') r') (ha : PE X a ta) (hb : PE X b tb) (hc : PE X c tc)
    (hm : lastMarks [op, op'] [b, c] = false := by with_unfolding_all rfl) : PT X (.Compare a [op, op'] [b, c] pos) (tTest (tChain r r' ta tb tc)) := by
  intro pins s σ H Q I h
  refine isTrue_chain (thn (ha pins s σ H _ I h) fun v s1 ⟨x, H1, I1, r1, q1⟩ => test_link (thn (hb pins s1 σ H1 _ I1 q1) fun u s2 ⟨y, H2, I2, r2, q2⟩ =>
    thn (ho pins s2 σ H2 x y v u _ I2 r1 r2 q2) fun d s3 ⟨z, H3, I3, r3, k, e, q3⟩ => ?_)) hm
  subst e
  cases r3
  refine wpAny_truthy_bool ?_
  cases k with
  | false =>
    obtain ⟨k', e', q'⟩ := q3
    cases e'
    exact ite_ff ⟨H3, I3, q'⟩
  | true =>
    refine ite_tt (test_last (thn (hc pins s3 σ H3 _ I3 q3) fun w' s4 ⟨z', H4, I4, r4, q4⟩ => thn (ho' pins s4 σ H4 y z' u w' _ I4 r2 r4 q4) fun d' s5 ⟨z2, H5, I5, r5, k2, e2, q5⟩ => ?_))
    subst e2
    cases r5
    exact wpAny_truthy_bool ⟨H5, I5, q5⟩

/-! ### truth -/
/-- a value's truth by the abstract heap -/
def TruV (K : PySem.W.Frag) (x : V) (H : Hp) (k : Bool) : Prop :=
  match x with
  | .non => k = false
  | .bl b => k = b
  | .int i => k = (i != 0)
  | .str y => y.length ≤ sizeLine ∧ k = ((y.length : Int) != 0)
  | .byt y => y.size ≤ sizeLine ∧ k = ((y.size : Int) != 0)
  | .ref p => (∃ xs, SqL K H p xs ∧ k = !xs.isEmpty) ∨ (∃ xs, SqT K H p xs ∧ k = !xs.isEmpty) ∨ ∃ kvs, H p = some (.dK kvs) ∧ k = !kvs.isEmpty
  | _ => False
theorem isEmpty_kv {κ : Type} {kvs : List (κ × V)} {vs : List (κ × Value)} (r : KV kvs vs) : (!vs.isEmpty) = !kvs.isEmpty := by
  cases r <;> rfl
theorem isEmpty_of {xs : List V} {its : List Value} (r : Vals xs its) : (!its.toArray.isEmpty) = !xs.isEmpty := by
  cases r <;> simp
theorem line63 : (sizeLine : Nat) < 2 ^ 63 := by rw [sizeLine_eq]; decide
theorem tru_ok : TruR X (fun x H Q => ∃ k, TruV X.K x H k ∧ Q k H) := by
  intro pins s σ H x v Q I rx h
  obtain ⟨k, e, q⟩ := h
  have hl := line63
  have hs : sizeLine = 16777216 := sizeLine_eq
  cases x with
  | non =>
    cases rx
    have e' : k = false := e
    subst e'
    exact truthy_none ⟨H, I, q⟩
  | bl b =>
    cases rx
    have e' : k = b := e
    subst e'
    exact wpAny_truthy_bool ⟨H, I, q⟩
  | int i =>
    obtain ⟨t, rfl⟩ := rx
    have e' : k = (i != 0) := e
    subst e'
    exact PySem.P.truthy_int ⟨H, I, q⟩
  | str y =>
    obtain ⟨t, rfl⟩ := rx
    obtain ⟨hy, e'⟩ : y.length ≤ sizeLine ∧ k = ((y.length : Int) != 0) := e
    subst e'
    exact PySem.P.truthy_str (by omega) ⟨H, I.tok _, q⟩
  | byt y =>
    obtain ⟨t, rfl⟩ := rx
    obtain ⟨hy, e'⟩ : y.size ≤ sizeLine ∧ k = ((y.size : Int) != 0) := e
    subst e'
    exact PySem.W.truthy_bytes (by omega) ⟨H, I.tok _, q⟩
  | ref p =>
    cases rx
    have e' : (∃ xs, SqL X.K H p xs ∧ k = !xs.isEmpty) ∨ (∃ xs, SqT X.K H p xs ∧ k = !xs.isEmpty) ∨ ∃ kvs, H p = some (.dK kvs) ∧ k = !kvs.isEmpty := e
    rcases e' with ⟨xs, hx, e'⟩ | ⟨xs, hx, e'⟩ | ⟨kvs, hx, e'⟩
    · subst e'
      obtain ⟨its, r, pl, hz⟩ := I.list hx
      have hlen := r.length
      exact wpAny_truthy_list pl.isList (by simp only [List.size_toArray]; omega) ⟨H, I.tok _, by rw [isEmpty_of r]; exact q⟩
    · subst e'
      obtain ⟨its, r, pl, hz⟩ := I.tuple hx
      have hlen := r.length
      exact truthy_tuple pl (by simp only [List.size_toArray]; omega) ⟨H, I.tok _, by rw [isEmpty_of r]; exact q⟩
    · subst e'
      obtain ⟨hz, hS, vs, r, m⟩ : kvs.length ≤ sizeLine ∧ (p == sysModules) = false ∧ ∃ vs, KV kvs vs ∧ s.heap.DictOf (mixKind X.prog X.w) p vs := I.hok p _ hx
      have hlen : kvs.length = vs.length := Paired.length r
      exact wpAny_truthy_dict hS m (by omega) ⟨H, I.tok _, by rw [isEmpty_kv r]; exact q⟩
  | _ => exact (show False from e).elim
/-- any expression whose test is its value's truth (a name, a call, a subscript, a field ..: he by fun _ => rfl) -/
theorem pt_truth (ha : PE X a ta) (he : ∀ whole, isTrue a X.env whole = (do let v ← whole; standAt a.pos; holding [v] (truthy v))) :
    PT X a (fun σ H Q => ta σ H fun x H' => ∃ k, TruV X.K x H' k ∧ Q k H') := by
  intro pins s σ H Q I h
  exact isTrue_plain (thn (ha pins s σ H _ I h) fun v s1 ⟨x, H1, I1, r1, q1⟩ => tru_ok pins s1 σ H1 x v Q I1 r1 q1) (he _)

/-! ### strs and bytes -/
theorem pe_byt {x : List UInt8} {k : Nat} : PE X (.Constant (.bytes x) k pos) (fun _ H Q => Q (.byt x.toArray) H) := fun _ _ _ H _ I h => PySem.W.Constant_bytes ⟨.byt x.toArray, H, I.tok _, ⟨_, rfl⟩, h⟩
theorem op_add_str : OpR X (binaryOp .Add) (fun x y H Q => ∃ i j, x = .str i ∧ y = .str j ∧ i.length + j.length ≤ sizeLine ∧ Q (.str (i ++ j)) H) := by
  intro pins s σ H x y v u Q I rx ry h
  obtain ⟨i, j, rfl, rfl, hz, q⟩ := h
  obtain ⟨t, rfl⟩ := rx
  obtain ⟨t', rfl⟩ := ry
  exact add_str (fun t' tk => ⟨.str (i ++ j), H, I.tok _, ⟨_, rfl⟩, q⟩) hz
theorem iop_add_str : OpR X (inplaceOp .Add) (fun x y H Q => ∃ i j, x = .str i ∧ y = .str j ∧ i.length + j.length ≤ sizeLine ∧ Q (.str (i ++ j)) H) := by
  intro pins s σ H x y v u Q I rx ry h
  obtain ⟨i, j, rfl, rfl, hz, q⟩ := h
  obtain ⟨t, rfl⟩ := rx
  obtain ⟨t', rfl⟩ := ry
  exact iadd_str (fun t' tk => ⟨.str (i ++ j), H, I.tok _, ⟨_, rfl⟩, q⟩) hz
theorem op_add_byt : OpR X (binaryOp .Add) (fun x y H Q => ∃ i j, x = .byt i ∧ y = .byt j ∧ i.size + j.size ≤ 16777216 ∧ Q (.byt (i ++ j)) H) := by
  intro pins s σ H x y v u Q I rx ry h
  obtain ⟨i, j, rfl, rfl, hz, q⟩ := h
  obtain ⟨t, rfl⟩ := rx
  obtain ⟨t', rfl⟩ := ry
  exact PySem.W.KBy.add_bytes hz (fun t' tk => ⟨.byt (i ++ j), H, I.tok _, ⟨_, rfl⟩, q⟩)

def PlainIxT (b : Expr) : Prop := ∀ o i, subscripted b false o i = operate [o, i] (getItem o i)
/-- s[i], 0 ≤ i < len -/
theorem pe_item_str (ha : PE X a ta) (hb : PE X b tb) (hs : PlainIxT b) :
    PE X (.Subscript a b pos) (tOp (fun x y H Q => ∃ z i c, x = .str z ∧ y = .int i ∧ 0 ≤ i ∧ i < 2 ^ 63 ∧ i < z.length ∧ z.cps[i.toNat]? = some c ∧ Q (.str ⟨#[c]⟩) H) ta tb) := by
  intro pins s σ H Q I h
  refine Subscript_ (binT ha hb I h fun v u s2 x y H2 I2 rx ry q => ?_)
  obtain ⟨z, i, c, rfl, rfl, h0, h63, h1, hc, q⟩ := q
  obtain ⟨t, rfl⟩ := rx
  obtain ⟨t', rfl⟩ := ry
  have e : seqIndex? i z.length = some i.toNat := PySem.StrLaws.seqIndex_nonneg h0 h1
  exact tail_any (typeIs_str s2 z t) slot_str_getitem.lookup (getItem_str (c := c) (by
    have e1 : decide (i < -(2 ^ 63 : Int)) = false := decide_eq_false (by omega)
    have e2 : decide (i ≥ 2 ^ 63) = false := decide_eq_false (by omega)
    rw [e1, e2] <;> rfl) (by rw [e]; exact hc) ⟨.str ⟨#[c]⟩, H2, I2.tok _, ⟨_, rfl⟩, q⟩) (hs _ _)
/-- b[i], 0 ≤ i < len -/
theorem pe_item_byt (ha : PE X a ta) (hb : PE X b tb) (hs : PlainIxT b) :
    PE X (.Subscript a b pos) (tOp (fun x y H Q => ∃ (z : List UInt8) (i : Int), x = .byt z.toArray ∧ y = .int i ∧ z.length ≤ sizeLine ∧ 0 ≤ i ∧ i < z.length ∧ Q (.int ((z.getD i.toNat 0).toNat : Nat)) H) ta tb) := by
  intro pins s σ H Q I h
  refine Subscript_ (binT ha hb I h fun v u s2 x y H2 I2 rx ry q => ?_)
  obtain ⟨z, i, rfl, rfl, hz, h0, h1, q⟩ := q
  obtain ⟨t, rfl⟩ := rx
  obtain ⟨t', rfl⟩ := ry
  have hl : sizeLine = 16777216 := sizeLine_eq
  exact tail_any (PySem.W.typeIs_bytes s2 z.toArray t) PySem.W.FB.slot_bytes_getitem.lookup (PySem.W.getItem_bytes (by omega) h0 h1 ⟨.int ((z.getD i.toNat 0).toNat : Nat), H2, I2.tok _, ⟨_, rfl⟩, q⟩) (hs _ _)

/-! ### scalar builtins, by CallR -/
theorem vals1 {x : V} {us : List Value} (r : Vals [x] us) : ∃ u, us = [u] ∧ RelV x u := by
  cases r with
  | cons r1 r2 => cases r2; exact ⟨_, rfl, r1⟩
theorem vals2 {x y : V} {us : List Value} (r : Vals [x, y] us) : ∃ u w', us = [u, w'] ∧ RelV x u ∧ RelV y w' := by
  cases r with
  | cons r1 r2 =>
    cases r2 with
    | cons r3 r4 => cases r4; exact ⟨_, _, rfl, r1, r3⟩
theorem call_abs : CallR X (.builtin "abs") (fun xs H Q => ∃ i, xs = [.int i] ∧ Q (.int (if i < 0 then -i else i)) H) := by
  intro pins s σ H xs us Q I r h
  obtain ⟨i, rfl, q⟩ := h
  obtain ⟨u, rfl, t, rfl⟩ := vals1 r
  exact call_abs_int fun u tk => ⟨.int (if i < 0 then -i else i), H, I.tok _, ⟨_, rfl⟩, q⟩
theorem call_max2 (hc : X.calm = true) : CallR X (.builtin "max") (fun xs H Q => ∃ i j, xs = [.int i, .int j] ∧ Q (.int (if j > i then j else i)) H) := by
  intro pins s σ H xs us Q I r h
  obtain ⟨i, j, rfl, q⟩ := h
  obtain ⟨u, w', rfl, ⟨t, rfl⟩, ⟨t', rfl⟩⟩ := vals2 r
  refine max_two_ints (I.ok.hd hc) fun h' tk k => ⟨_, H, I.kept k, ?_, q⟩
  by_cases hj : j > i
  · rw [if_pos hj, if_pos hj]; exact ⟨_, rfl⟩
  · rw [if_neg hj, if_neg hj]; exact ⟨_, rfl⟩
theorem call_min2 (hc : X.calm = true) : CallR X (.builtin "min") (fun xs H Q => ∃ i j, xs = [.int i, .int j] ∧ Q (.int (if j < i then j else i)) H) := by
  intro pins s σ H xs us Q I r h
  obtain ⟨i, j, rfl, q⟩ := h
  obtain ⟨u, w', rfl, ⟨t, rfl⟩, ⟨t', rfl⟩⟩ := vals2 r
  refine min_two_ints (I.ok.hd hc) fun h' tk k => ⟨_, H, I.kept k, ?_, q⟩
  by_cases hj : j < i
  · rw [if_pos hj, if_pos hj]; exact ⟨_, rfl⟩
  · rw [if_neg hj, if_neg hj]; exact ⟨_, rfl⟩
theorem call_int1 : CallR X (.type "int") (fun xs H Q => (∃ i, xs = [.int i] ∧ Q (.int i) H) ∨ ∃ k, xs = [.bl k] ∧ Q (.int (if k then 1 else 0)) H) := by
  intro pins s σ H xs us Q I r h
  rcases h with ⟨i, rfl, q⟩ | ⟨k, rfl, q⟩
  · obtain ⟨u, rfl, t, rfl⟩ := vals1 r
    exact call_int_int ⟨.int i, H, I, ⟨_, rfl⟩, q⟩
  · obtain ⟨u, rfl, r1⟩ := vals1 r
    cases r1
    exact call_int_bool ⟨.int (if k then 1 else 0), H, I.tok _, ⟨_, rfl⟩, q⟩
theorem call_bool1 : CallR X (.type "bool") (fun xs H Q => (∃ i, xs = [.int i] ∧ Q (.bl (i != 0)) H) ∨ ∃ k, xs = [.bl k] ∧ Q (.bl k) H) := by
  intro pins s σ H xs us Q I r h
  rcases h with ⟨i, rfl, q⟩ | ⟨k, rfl, q⟩
  · obtain ⟨u, rfl, t, rfl⟩ := vals1 r
    exact call_bool_int ⟨.bl (i != 0), H, I, rfl, q⟩
  · obtain ⟨u, rfl, r1⟩ := vals1 r
    cases r1
    exact call_bool_bool ⟨.bl k, H, I, rfl, q⟩
theorem call_str_int : CallR X (.type "str") (fun xs H Q => ∃ i, xs = [.int i] ∧ i.natAbs.log2 < 1920 ∧ Q (.str (toString i)) H) := by
  intro pins s σ H xs us Q I r h
  obtain ⟨i, rfl, hz, q⟩ := h
  obtain ⟨u, rfl, t, rfl⟩ := vals1 r
  exact PySem.P.str_of_int hz ⟨.str _, H, I.tok _, ⟨_, rfl⟩, q⟩
theorem call_ord : CallR X (.builtin "ord") (fun xs H Q => ∃ x, xs = [.str x] ∧ x.length = 1 ∧ Q (.int (x.cps.getD 0 0 : Nat)) H) := by
  intro pins s σ H xs us Q I r h
  obtain ⟨x, rfl, hz, q⟩ := h
  obtain ⟨u, rfl, t, rfl⟩ := vals1 r
  exact ord_of_one hz ⟨.int _, H, I.tok _, ⟨_, rfl⟩, q⟩
theorem call_chr : CallR X (.builtin "chr") (fun xs H Q => ∃ i, xs = [.int i] ∧ 0 ≤ i ∧ i ≤ 1114111 ∧ Q (.str ⟨#[i.toNat]⟩) H) := by
  intro pins s σ H xs us Q I r h
  obtain ⟨i, rfl, h0, h1, q⟩ := h
  obtain ⟨u, rfl, t, rfl⟩ := vals1 r
  exact chr_of_range h0 h1 ⟨.str _, H, I.tok _, ⟨_, rfl⟩, q⟩
/-- len of a str, a bytes, a list, a tuple -/
def LenV (K : PySem.W.Frag) (x : V) (H : Hp) (n : Nat) : Prop :=
  match x with
  | .str y => y.length ≤ sizeLine ∧ n = y.length
  | .byt y => y.size ≤ sizeLine ∧ n = y.size
  | .ref p => (∃ xs, SqL K H p xs ∧ n = xs.length) ∨ ∃ xs, SqT K H p xs ∧ n = xs.length
  | _ => False
theorem call_len : CallR X (.builtin "len") (fun xs H Q => ∃ x n, xs = [x] ∧ LenV X.K x H n ∧ Q (.int n) H) := by
  intro pins s σ H xs us Q I r h
  obtain ⟨x, n, rfl, e, q⟩ := h
  obtain ⟨u, rfl, rx⟩ := vals1 r
  have hl := line63
  have hs : sizeLine = 16777216 := sizeLine_eq
  cases x with
  | str y =>
    obtain ⟨t, rfl⟩ := rx
    obtain ⟨hy, e'⟩ : y.length ≤ sizeLine ∧ n = y.length := e
    subst e'
    exact len_str (by omega) ⟨.int _, H, I.tok _, ⟨_, rfl⟩, q⟩
  | byt y =>
    obtain ⟨t, rfl⟩ := rx
    obtain ⟨hy, e'⟩ : y.size ≤ sizeLine ∧ n = y.size := e
    subst e'
    exact PySem.W.len_bytes (by omega) ⟨.int _, H, I.tok _, ⟨_, rfl⟩, q⟩
  | ref p =>
    cases rx
    have e' : (∃ xs, SqL X.K H p xs ∧ n = xs.length) ∨ ∃ xs, SqT X.K H p xs ∧ n = xs.length := e
    rcases e' with ⟨xs, hx, e'⟩ | ⟨xs, hx, e'⟩
    · subst e'
      obtain ⟨its, r', pl, hz⟩ := I.list hx
      have hlen := r'.length
      exact Calls.call_len_list pl.isList (by simp only [List.size_toArray]; omega) ⟨.int xs.length, H, I.tok _, ⟨_, by simp only [List.size_toArray]; rw [hlen]⟩, q⟩
    · subst e'
      obtain ⟨its, r', pl, hz⟩ := I.tuple hx
      have hlen := r'.length
      exact len_tuple pl (by simp only [List.size_toArray]; omega) ⟨.int xs.length, H, I.tok _, ⟨_, by simp only [List.size_toArray]; rw [hlen]⟩, q⟩
  | _ => exact (show False from e).elim
/-- divmod: a new tuple -/
theorem call_divmod : CallR X (.builtin "divmod") (fun xs H Q => ∃ i j, xs = [.int i, .int j] ∧ CDiv i j ∧ ∀ p, H p = none → Q (.ref p) (upd H p (.tup [.int (i / j), .int (i % j)]))) := by
  intro pins s σ H xs us Q I r h
  obtain ⟨i, j, rfl, ⟨h1, h2⟩, q⟩ := h
  obtain ⟨u, w', rfl, ⟨t, rfl⟩, ⟨t', rfl⟩⟩ := vals2 r
  refine divmod_int (by omega) ?_ (.inl (PyProof.noPylong_small (by omega)))
  rw [Int.fdiv_eq_ediv_of_nonneg i (by omega), Int.fmod_eq_emod_of_nonneg i (by omega)]
  have hn : H s.heap.objs.size = none := I.hok.fresh (Nat.le_refl _)
  refine ⟨.ref s.heap.objs.size, _, ?_, rfl, q _ hn⟩
  refine I.laid (fun b o e => Heap.get?_push_of_some _ e) (Nat.le_refl _) ⟨by simp only [List.length_cons, List.length_nil]; rw [sizeLine_eq]; decide, [.int (i / j) s.toks, .int (i % j) (s.toks + 1)], .cons ⟨_, rfl⟩ (.cons ⟨_, rfl⟩ .nil), ?_⟩
  exact ⟨_, Heap.get?_push_size s.heap rfl, rfl, 0, rfl⟩
end
end L2

namespace L2
open PySem PySem.Spec PyProof.Rows

/-! ### an instance, its attributes a map -/
structure ObjM (h : Heap) (x dx C : Addr) (mA : Str → Option Value) : Prop where
  obj : h.get? x = some (PySem.W.instObj C dx)
  ns : h.Ns1 dx mA
  ne : dx ≠ x

theorem lookIn_ns {h : Heap} {dx : Addr} {mA : Str → Option Value} (n : h.Ns1 dx mA) : ∃ od, h.get? dx = some od ∧ ∀ name, PySem.W.lookIn name od = some (mA name) := by
  obtain ⟨o, es, ep, ho, hd, hk, _, hm⟩ := n
  refine ⟨o, ho, fun name => ?_⟩
  have e := hm name
  unfold nsFind findBy at e
  rw [← Array.find?_toList] at e
  unfold PySem.W.lookIn
  rw [hd]
  dsimp only
  split
  · rename_i y q
    rw [q] at e
    exact congrArg some e
  · rename_i q
    rw [q] at e
    have a : es.toList.any (·.refKey) = false := by
      rw [List.any_eq_false]
      intro y hy
      obtain ⟨z, t, hkey⟩ := hk y (Array.mem_toList_iff.mp hy)
      simp [DictEntry.refKey, hkey]
    have a' : ¬ es.toList.any (·.refKey) = true := by rw [a]; exact Bool.false_ne_true
    rw [if_neg a']
    exact congrArg some e

theorem ObjM.look {h : Heap} {x dx C : Addr} {mA : Str → Option Value} (I : ObjM h x dx C mA) : ∃ od, PySem.W.InstAt h x (PySem.W.instObj C dx) C (some od) ∧ ∀ name, PySem.W.lookIn name od = some (mA name) :=
  let ⟨od, ho, hl⟩ := lookIn_ns I.ns
  ⟨od, ⟨I.obj, rfl, rfl, ho⟩, hl⟩

section
variable {prog : Program} {w : World} {A : Around} {E : Value → Shared → Prop} {s : Shared} {K : PySem.W.Frag} {x dx C f : Addr} {mA : Str → Option Value} {name : Str} {v : Value}

theorem get_map {expr : Bool} {Q : Value → Shared → Prop} (X : K.In s.heap) (I : ObjM s.heap x dx C mA) (hg : PySem.W.plainGet K C name = true) (hh : PySem.W.hasDictIn K C = true)
    (ha : PySem.W.findIn K (.ref C) name = some none) (hv : mA name = some v) (hv' : PySem.W.handedIn v = true) (h : Q v { s with toks := s.toks + 1 }) :
    wpAny (model prog w) A (getAttr (.ref x) name expr) Q E s := by
  obtain ⟨od, J, hl⟩ := I.look
  exact PySem.W.get_value X J (PySem.W.plainGet_of hg).1 (PySem.W.findObj_own hh ha rfl (by rw [hl, hv])) hv' h

theorem get_const {expr : Bool} {a : Value} {Q : Value → Shared → Prop} (X : K.In s.heap) (I : ObjM s.heap x dx C mA) (hg : PySem.W.plainGet K C name = true) (hh : PySem.W.hasDictIn K C = true)
    (ha : PySem.W.findIn K (.ref C) name = some (some a)) (hn : PySem.W.specialIn K a "__get__" = some none) (hc : PySem.W.copiedNames.contains name = false) (hv : mA name = none) (hv' : PySem.W.handedIn a = true)
    (h : Q a { s with toks := s.toks + 1 }) : wpAny (model prog w) A (getAttr (.ref x) name expr) Q E s := by
  obtain ⟨od, J, hl⟩ := I.look
  exact PySem.W.get_value X J (PySem.W.plainGet_of hg).1 (PySem.W.findObj_cls hh ha hn hv' hc (by rw [hl, hv])) hv' h

theorem get_meth {pl : Sem Bool} {Q : Value × List Value → Shared → Prop} (X : K.In s.heap) (I : ObjM s.heap x dx C mA) (hg : PySem.W.plainGet K C name = true)
    (hf : PySem.W.findIn K (.ref C) name = some (some (.ref f))) (ht : PySem.W.isFn K (.ref f) = true) (hv : mA name = none) (h : Q (.ref f, [.ref x]) s) :
    wpAny (model prog w) A (getMethod (.ref x) name pl) Q E s := by
  obtain ⟨od, J, hl⟩ := I.look
  exact PySem.W.method_fn X J (PySem.W.plainGet_of hg).1 (PySem.W.plainGet_of hg).2 hf (beq_iff_eq.mp ht) (by show (PySem.W.lookIn name od).map (·.isSome) = some false; rw [hl, hv]; rfl) h

theorem set_map {ns : List Str} {Q : Unit → Shared → Prop} (X : K.In s.heap) (I : ObjM s.heap x dx C mA)
    (hs : PySem.W.findIn K (.ref C) "__setattr__" = some (some (.builtin "object.__setattr__"))) (hp : PySem.W.plainOver K C = true) (ht : PySem.W.takerIn K C name = some none) (hh : PySem.W.hasDictIn K C = true)
    (hw : PySem.Within mA ns) (hsz : ns.length ≤ sizeLine)
    (h : ∀ h', ObjM h' x dx C (fun y => if y = name then some v else mA y) → Heap.SameBut dx s.heap h' → Q () { s with heap := h', toks := s.toks + 2 }) :
    wpAny (model prog w) A (setAttr (.ref x) name v) Q E s := by
  obtain ⟨od, J, hl⟩ := I.look
  refine PySem.W.set_plain X J hs (PySem.W.osa_open (s := { s with toks := s.toks + 1 }) (r := none) X J hp ht fun b => ?_)
  obtain ⟨cd, hc, hd'⟩ := PySem.W.any_some hh
  have hx : s.heap.get? x = some ⟨.ref C, some dx, .plain, #[]⟩ := I.obj
  refine wpAny_bind (wpAny_pure (wpAny_bind (wpAny_bind (wpAny_loadPart hx (wpAny_bind (PySem.W.Looks.here (s := { s with toks := s.toks + 1 }) (PySem.W.looks_clsIn X hc) ?_))))))
  rw [hd']
  refine wpAny_pure (a := some dx) (wpAny_bind (wpAny_pure (wpAny_bind ?_)))
  refine wpAny_nsSet1 (s := { s with toks := s.toks + 1 }) I.ns fun h' hn2 hs2 => ?_
  obtain ⟨oD, esD, epD, hoD, hdD, hcD⟩ := hn2.count (PySem.Within.cons name v hw)
  refine wpAny_bind (wpAny_lookBehind hoD (by rw [hdD]; exact pastItsLine_dict (Nat.le_trans hcD (by rw [List.length_cons]; omega))) ?_)
  exact wpAny_pure (h _ ⟨(hs2.2 _ (Ne.symm I.ne)).trans I.obj, hn2, I.ne⟩ hs2)

/-- C(..): the dict at the heap's end, the instance behind it; then its __init__ -/
theorem make_map {R : Result → Shared → Prop} {vs : List Value} {kw : List (Str × Value)} (X : K.In s.heap) (hm : PySem.W.makesIn K C = true)
    (hi : PySem.W.findIn K (.ref C) "__init__" = some (some (.ref f))) (hf : PySem.W.typeIn K (.ref f) = some (.type "function"))
    (h : codeAny (model prog w) (A.under (.builtin "type.__call__" ⟨.ref C :: vs, kw⟩)) (.call (.ref f) ⟨.ref (s.heap.objs.size + 1) :: vs, kw⟩) (PySem.W.InitBack (s.heap.objs.size + 1) R)
      { s with heap := (s.heap.push PySem.W.emptyDict).push (PySem.W.instObj C s.heap.objs.size) }) :
    codeAny (model prog w) A (.call (.ref C) ⟨vs, kw⟩) R s := by
  obtain ⟨hh, g, d, t, os⟩ := s
  exact PySem.W.make_core (PySem.W.makes_of X hm) (PySem.W.looks_findIn X hi) (fun self => PySem.W.bind_fn X self hf) (.inl rfl) h
/-- C() where there is no __init__ but object's -/
theorem make_map0 {R : Result → Shared → Prop} (X : K.In s.heap) (hm : PySem.W.makesIn K C = true)
    (hi : PySem.W.findIn K (.ref C) "__init__" = some (some (.builtin "object.__init__")))
    (hb : ∀ self, PySem.W.Looks (model prog w) s.heap (bindSpecial (.builtin "object.__init__") self) (.builtin "object.__init__", [self]))
    (h : codeAny (model prog w) (A.under (.builtin "type.__call__" ⟨[.ref C], []⟩)) (.call (.builtin "object.__init__") ⟨[.ref (s.heap.objs.size + 1)], []⟩) (PySem.W.InitBack (s.heap.objs.size + 1) R)
      { s with heap := (s.heap.push PySem.W.emptyDict).push (PySem.W.instObj C s.heap.objs.size) }) :
    codeAny (model prog w) A (.call (.ref C) ⟨[], []⟩) R s := by
  obtain ⟨hh, g, d, t, os⟩ := s
  exact PySem.W.make_core (PySem.W.makes_of X hm) (PySem.W.looks_findIn X hi) hb (.inr ⟨rfl, rfl⟩) h
end

/-! ### the attributes as a list of pairs -/
def putF (f : Str) (v : V) : List (Str × V) → List (Str × V)
  | [] => [(f, v)]
  | (g, x) :: r => if g = f then (g, v) :: r else (g, x) :: putF f v r
theorem lookup_putF (f g : Str) (v : V) : ∀ fs : List (Str × V), (putF f v fs).lookup g = if g = f then some v else fs.lookup g
  | [] => by
    show List.lookup g [(f, v)] = _
    by_cases h : g = f
    · have hb : (g == f) = true := beq_iff_eq.mpr h
      simp only [List.lookup, hb, if_pos h]
    · have hb : (g == f) = false := beq_eq_false_iff_ne.mpr h
      simp only [List.lookup, hb, if_neg h]
  | (k, x) :: r => by
    have ih := lookup_putF f g v r
    rw [show putF f v ((k, x) :: r) = (if k = f then (k, v) :: r else (k, x) :: putF f v r) from rfl]
    by_cases hk : k = f
    · rw [if_pos hk]
      by_cases h : g = k
      · have hb : (g == k) = true := beq_iff_eq.mpr h
        simp only [List.lookup, hb, if_pos (h.trans hk)]
      · have hb : (g == k) = false := beq_eq_false_iff_ne.mpr h
        simp only [List.lookup, hb, if_neg (fun e : g = f => h (e.trans hk.symm))]
    · rw [if_neg hk]
      by_cases h : g = k
      · have hb : (g == k) = true := beq_iff_eq.mpr h
        simp only [List.lookup, hb, if_neg (fun e : g = f => hk (h.symm.trans e))]
      · have hb : (g == k) = false := beq_eq_false_iff_ne.mpr h
        simp only [List.lookup, hb]
        exact ih
theorem keys_putF (f : Str) (v : V) : ∀ fs : List (Str × V), f ∈ (putF f v fs).map (·.1) ∧ ∀ g, g ∈ fs.map (·.1) → g ∈ (putF f v fs).map (·.1)
  | [] => ⟨by simp [putF], fun g h => by simp at h⟩
  | (k, x) :: r => by
    obtain ⟨i1, i2⟩ := keys_putF f v r
    rw [show putF f v ((k, x) :: r) = (if k = f then (k, v) :: r else (k, x) :: putF f v r) from rfl]
    by_cases hk : k = f
    · rw [if_pos hk]
      subst hk
      exact ⟨by simp, fun g h => by simpa using h⟩
    · rw [if_neg hk]
      refine ⟨?_, fun g h => ?_⟩
      · rw [List.map_cons]
        exact List.mem_cons_of_mem _ i1
      · rw [List.map_cons] at h ⊢
        rcases List.mem_cons.mp h with e | e
        · exact List.mem_cons.mpr (.inl e)
        · exact List.mem_cons_of_mem _ (i2 g e)
theorem length_putF (f : Str) (v : V) : ∀ fs : List (Str × V), (putF f v fs).length ≤ fs.length + 1
  | [] => by simp [putF]
  | (k, x) :: r => by
    have ih := length_putF f v r
    rw [show putF f v ((k, x) :: r) = (if k = f then (k, v) :: r else (k, x) :: putF f v r) from rfl]
    by_cases hk : k = f
    · rw [if_pos hk, List.length_cons, List.length_cons]; omega
    · rw [if_neg hk, List.length_cons, List.length_cons]; omega

theorem RelO.some_of {v : V} {o : Option Value} (r : RelO (some v) o) : ∃ u, o = some u ∧ RelV v u := by
  cases o with
  | none => exact (show False from r).elim
  | some u => exact ⟨u, rfl, r⟩
theorem RelO.none_of {o : Option Value} (r : RelO none o) : o = none := by
  cases o with
  | none => rfl
  | some u => exact (show False from r).elim
theorem handed_of {v : V} {u : Value} (r : RelV v u) : PySem.W.handedIn u = true := by
  cases v with
  | non => cases (show u = Value.none from r); rfl
  | bl b => cases (show u = Value.bool b from r); rfl
  | int i => obtain ⟨t, e⟩ := (show ∃ t, u = Value.int i t from r); cases e; rfl
  | str x => obtain ⟨t, e⟩ := (show ∃ t, u = Value.str x t from r); cases e; rfl
  | byt b => obtain ⟨t, e⟩ := (show ∃ t, u = Value.bytes b t from r); cases e; rfl
  | flt b => obtain ⟨t, e⟩ := (show ∃ t, u = Value.float b t from r); cases e; rfl
  | ref a => cases (show u = Value.ref a from r); rfl
  | ty n => cases (show u = Value.type n from r); rfl

section
variable {P : Program} {w : World} {H H' : Hp} {h h' : Heap} {a C dx : Addr} {fs fs' : List (Str × V)}
theorem ins_get (hok : HOk P w H h) (e : H a = some (.ins C dx fs)) : ∃ mA, ObjM h a dx C mA ∧ (∀ f, RelO (fs.lookup f) (mA f)) ∧ PySem.Within mA (fs.map (·.1)) ∧ fs.length ≤ 1000 ∧ H dx = some (.own a) := by
  obtain ⟨d, z, ne, ob, mA, n, r, q⟩ := (show ObjOk P w H h a (.ins C dx fs) from hok a _ e)
  exact ⟨mA, ⟨ob, n, ne⟩, r, q, z, d⟩
end

/-! ### what of the text a class must have -/
structure Cls (K : PySem.W.Frag) (C : Addr) : Prop where
  pg : PySem.W.plainGet K C Str.empty = true
  hd : PySem.W.hasDictIn K C = true
  po : PySem.W.plainOver K C = true
  sa : PySem.W.findIn K (.ref C) "__setattr__" = some (some (.builtin "object.__setattr__"))
theorem Cls.get {K : PySem.W.Frag} {C : Addr} (c : Cls K C) (f : Str) : PySem.W.plainGet K C f = true := c.pg
/-- no class of it has the name -/
def NoAttr (K : PySem.W.Frag) (C : Addr) (f : Str) : Prop := PySem.W.findIn K (.ref C) f = some none
theorem NoAttr.taker {K : PySem.W.Frag} {C : Addr} {f : Str} (n : NoAttr K C f) : PySem.W.takerIn K C f = some none := by
  unfold PySem.W.takerIn
  rw [show PySem.W.findIn K (.ref C) f = some none from n]
  rfl
/-- a constant of the class -/
structure Con (K : PySem.W.Frag) (C : Addr) (f : Str) (v : V) (u : Value) : Prop where
  at_ : PySem.W.findIn K (.ref C) f = some (some u)
  rel : RelV v u
  get : PySem.W.specialIn K u "__get__" = some none
  cp : PySem.W.copiedNames.contains f = false
/-- a method: a plain def of the class or of one above it -/
structure Meth (K : PySem.W.Frag) (C : Addr) (m : Str) (f : Addr) : Prop where
  at_ : PySem.W.findIn K (.ref C) m = some (some (.ref f))
  fn : PySem.W.isFn K (.ref f) = true
  kp : PySem.W.keepIn K (.ref f) = true

section
variable {X : Cx} {pins : List (Addr × Obj)} {σ : St} {H : Hp} {s : Shared} {a C dx : Addr} {fs : List (Str × V)} {f : Str} {v : V} {A : Around} {E : Value → Shared → Prop}

theorem getattr_ok {b : Bool} {Q : Value → Shared → Prop} (I : Inv X pins σ H s) (e : H a = some (.ins C dx fs)) (c : Cls X.K C) (n : NoAttr X.K C f) (l : fs.lookup f = some v)
    (h : ∀ u s', Inv X pins σ H s' → RelV v u → Q u s') : wpAny (model X.prog X.w) A (getAttr (.ref a) f b) Q E s := by
  obtain ⟨mA, O, r, _, _, _⟩ := ins_get I.hok e
  obtain ⟨u, hu, ru⟩ := RelO.some_of (v := v) (o := mA f) (by rw [← l]; exact r f)
  exact get_map I.kIn O (c.get f) c.hd n hu (handed_of ru) (h u _ (I.tok _) ru)

theorem getcon_ok {b : Bool} {u : Value} {Q : Value → Shared → Prop} (I : Inv X pins σ H s) (e : H a = some (.ins C dx fs)) (c : Cls X.K C) (k : Con X.K C f v u) (l : fs.lookup f = none)
    (h : ∀ s', Inv X pins σ H s' → Q u s') : wpAny (model X.prog X.w) A (getAttr (.ref a) f b) Q E s := by
  obtain ⟨mA, O, r, _, _, _⟩ := ins_get I.hok e
  have hn : mA f = none := RelO.none_of (by rw [← l]; exact r f)
  exact get_const I.kIn O (c.get f) c.hd k.at_ k.get k.cp hn (handed_of k.rel) (h _ (I.tok _))

theorem getmeth_ok {m : Str} {g : Addr} {pl : Sem Bool} {Q : Value × List Value → Shared → Prop} (I : Inv X pins σ H s) (e : H a = some (.ins C dx fs)) (c : Cls X.K C) (k : Meth X.K C m g) (l : fs.lookup m = none)
    (h : Q (.ref g, [.ref a]) s) : wpAny (model X.prog X.w) A (getMethod (.ref a) m pl) Q E s := by
  obtain ⟨mA, O, r, _, _, _⟩ := ins_get I.hok e
  have hn : mA m = none := RelO.none_of (by rw [← l]; exact r m)
  exact get_meth I.kIn O (c.get m) k.at_ k.fn hn h

theorem setattr_ok {y : V} {u : Value} {Q : Unit → Shared → Prop} (I : Inv X pins σ H s) (e : H a = some (.ins C dx fs)) (c : Cls X.K C) (n : NoAttr X.K C f) (hl : fs.length < 1000) (ry : RelV y u)
    (h : ∀ s', Inv X pins σ (upd H a (.ins C dx (putF f y fs))) s' → Q () s') : wpAny (model X.prog X.w) A (setAttr (.ref a) f u) Q E s := by
  obtain ⟨mA, O, r, wi, _, ho⟩ := ins_get I.hok e
  have hz : (fs.map (·.1)).length ≤ sizeLine := by rw [List.length_map, sizeLine_eq]; omega
  refine set_map I.kIn O c.sa c.po n.taker c.hd wi hz fun h' O' sb => h _ ?_
  have hd : ∃ o, h'.get? dx = some o := let ⟨o, _, _, e', _⟩ := O'.ns; ⟨o, e'⟩
  refine I.write (x := a) (e := dx) (by rw [e]; exact True.intro) (.inr ho) (fun b q hb z => (sb.2 b hb).trans z) hd ?_
  refine ⟨by rw [upd_ne O.ne]; exact ho, ?_, O.ne, O'.obj, _, O'.ns, fun g => ?_, fun g hg => ?_⟩
  · have := length_putF f y fs; omega
  · show RelO ((putF f y fs).lookup g) (if g = f then some u else mA g)
    rw [lookup_putF]
    by_cases q : g = f
    · rw [if_pos q, if_pos q]; exact ry
    · rw [if_neg q, if_neg q]; exact r g
  · by_cases q : g = f
    · rw [q]; exact (keys_putF f y fs).1
    · refine (keys_putF f y fs).2 g (wi g fun z => hg ?_)
      show (if g = f then some u else mA g) = none
      rw [if_neg q]; exact z

/-- a new instance, tracked, without attributes -/
theorem Inv.made (I : Inv X pins σ H s) : Inv X pins σ (upd (upd H s.heap.objs.size (.own (s.heap.objs.size + 1))) (s.heap.objs.size + 1) (.ins C s.heap.objs.size []))
    { s with heap := (s.heap.push PySem.W.emptyDict).push (PySem.W.instObj C s.heap.objs.size) } := by
  have e1 : (s.heap.push PySem.W.emptyDict).get? s.heap.objs.size = some PySem.W.emptyDict := Heap.get?_push_size s.heap rfl
  have e2 : ((s.heap.push PySem.W.emptyDict).push (PySem.W.instObj C s.heap.objs.size)).get? (s.heap.objs.size + 1) = some (PySem.W.instObj C s.heap.objs.size) := by
    have := Heap.get?_push_size (s.heap.push PySem.W.emptyDict) (o := PySem.W.instObj C s.heap.objs.size) rfl
    rwa [Heap.size_push] at this
  have e3 : (s.heap.push PySem.W.emptyDict).Ns s.heap.objs.size (fun _ => none) := ⟨PySem.W.emptyDict, #[], _, e1, rfl, (fun e he => absurd he (by simp)), fun _ => rfl⟩
  have I1 := I.laid (a := s.heap.objs.size) (o := .own (s.heap.objs.size + 1)) (h' := s.heap.push PySem.W.emptyDict) (t' := s.toks) (fun b u q => Heap.get?_push_of_some _ q) (Nat.le_refl _) ⟨_, e1⟩
  refine I1.laid (a := s.heap.objs.size + 1) (o := .ins C s.heap.objs.size []) (t' := s.toks) (fun b u q => Heap.get?_push_of_some _ q) (Nat.le_of_eq (Heap.size_push _ _)) ?_
  have ne : s.heap.objs.size ≠ s.heap.objs.size + 1 := Nat.ne_of_lt (Nat.lt_succ_self _)
  refine ⟨by rw [upd_ne ne, upd_same], Nat.zero_le _, ne, e2, fun _ => none, (Heap.Ns1.of_empty e3).at fun o q => Heap.get?_push_of_some _ q, fun _ => True.intro, fun y hy => absurd rfl hy⟩

/-- e.f where nothing but the object is asked: through attributeBase (super) and the last hold -/
theorem attr_of {prog : Program} {w : World} {env : Env} {e : Expr} {f : Str} {pos : Pos} {s : Shared} {Q : Value → Shared → Prop} (hb : attributeBase e f env (eval e env) = eval e env)
    (h : wpAny (model prog w) A (eval e env) (fun o s₁ => wpAny (model prog w) A (getAttr o f true) Q E s₁) E s) : wpAny (model prog w) A (eval (.Attribute e f pos) env) Q E s :=
  Attribute_any_ h (by rw [arm_eval_Attribute, hb])
end

/-! ### readings and rules -/
/-- e.f, an attribute of the instance -/
def tFld (K : PySem.W.Frag) (ta : TE) (f : Str) : TE := fun σ H Q => ta σ H fun x H1 => ∃ a C dx fs v, x = .ref a ∧ H1 a = some (.ins C dx fs) ∧ Cls K C ∧ NoAttr K C f ∧ fs.lookup f = some v ∧ Q v H1
/-- e.f, a constant of the class -/
def tCon (K : PySem.W.Frag) (ta : TE) (f : Str) : TE := fun σ H Q => ta σ H fun x H1 => ∃ a C dx fs v u, x = .ref a ∧ H1 a = some (.ins C dx fs) ∧ Cls K C ∧ Con K C f v u ∧ fs.lookup f = none ∧ Q v H1
/-- e.f = value -/
def sFld (K : PySem.W.Frag) (ta tv : TE) (f : Str) : TS := fun D σ H => tv σ H fun y H1 => ta σ H1 fun x H2 => ∃ a C dx fs, x = .ref a ∧ H2 a = some (.ins C dx fs) ∧ Cls K C ∧ NoAttr K C f ∧ fs.length < 1000 ∧
  D.nx σ (upd H2 a (.ins C dx (putF f y fs)))
/-- an augmented operator on two values -/
def InOp (X : Cx) (op : Operator) (rd : V → V → Hp → VK → Prop) : Prop :=
  ∀ (pins : List (Addr × Obj)) (s : Shared) (σ : St) (H : Hp) (x y : V) (u v : Value) (Q : VK), Inv X pins σ H s → RelV x u → RelV y v → rd x y H Q → wpAny (model X.prog X.w) X.A (inplaceOp op u v) (EP X pins σ Q) X.xe s
/-- e.f op= value -/
def sFldAug (K : PySem.W.Frag) (ta tv : TE) (rd : V → V → Hp → VK → Prop) (f : Str) : TS := fun D σ H => ta σ H fun x H1 => ∃ a C dx fs v, x = .ref a ∧ H1 a = some (.ins C dx fs) ∧ Cls K C ∧ NoAttr K C f ∧ fs.lookup f = some v ∧
  tv σ H1 fun y H2 => rd v y H2 fun z H3 => ∃ dx' fs', H3 a = some (.ins C dx' fs') ∧ fs'.length < 1000 ∧ D.nx σ (upd H3 a (.ins C dx' (putF f z fs')))

section
variable {X : Cx} {o e value : Expr} {f : Str} {pos pos' tpos : Pos} {ta tv : TE}
theorem pe_fld (he : PE X e ta) (hb : attributeBase e f X.env (eval e X.env) = eval e X.env) : PE X (.Attribute e f pos) (tFld X.K ta f) := by
  intro pins s σ H Q I h
  refine attr_of hb (thn (he pins s σ H _ I h) fun u s1 ⟨x, H1, I1, rx, a, C, dx, fs, v, ex, ea, c, n, l, q⟩ => ?_)
  subst ex
  obtain rfl : u = Value.ref a := rx
  exact getattr_ok I1 ea c n l fun u' s2 I2 ru => ⟨v, H1, I2, ru, q⟩
theorem pe_con (he : PE X e ta) (hb : attributeBase e f X.env (eval e X.env) = eval e X.env) : PE X (.Attribute e f pos) (tCon X.K ta f) := by
  intro pins s σ H Q I h
  refine attr_of hb (thn (he pins s σ H _ I h) fun u s1 ⟨x, H1, I1, rx, a, C, dx, fs, v, u0, ex, ea, c, k, l, q⟩ => ?_)
  subst ex
  obtain rfl : u = Value.ref a := rx
  exact getcon_ok I1 ea c k l fun s2 I2 => ⟨v, H1, I2, k.rel, q⟩
theorem ps_fld (ha : PE X o ta) (hv : PE X value tv) (hs : swapsWith value (some (.Attribute o f pos')) pos.line X.env = pure false) : PS X (.Assign [.Attribute o f pos'] value pos) (sFld X.K ta tv f) := by
  intro pins s σ H D I h
  refine plainObj_wpAny_Assign_Attribute (thn (hv pins s σ H _ I h) fun u s1 ⟨y, H1, I1, ry, q⟩ => thn (ha pins s1 σ H1 _ I1 q) fun ov s2 ⟨x, H2, I2, rx, a, C, dx, fs, ex, ea, c, n, l, q2⟩ => ?_) hs
  subst ex
  obtain rfl : ov = Value.ref a := rx
  exact setattr_ok I2 ea c n l ry fun s3 I3 => ⟨σ, _, I3, q2⟩
theorem ps_fldaug {op : Operator} {rd : V → V → Hp → VK → Prop} (ha : PE X o ta) (hv : PE X value tv) (hop : InOp X op rd) : PS X (.AugAssign (.Attribute o f tpos) op value pos) (sFldAug X.K ta tv rd f) := by
  intro pins s σ H D I h
  refine wpAny_AugAssign_AttributeAny (thn (ha pins s σ H _ I h) fun ov s1 ⟨x, H1, I1, rx, a, C, dx, fs, v, ex, ea, c, n, l, q⟩ => ?_)
  subst ex
  obtain rfl : ov = Value.ref a := rx
  refine getattr_ok I1 ea c n l fun u s2 I2 ru => thn (hv pins s2 σ H1 _ I2 q) fun w3 s3 ⟨y, H2, I3, ry, q3⟩ => thn (hop pins s3 σ H2 v y u w3 _ I3 ru ry q3) fun w4 s4 ⟨z, H3, I4, rz, dx', fs', ea', l', q4⟩ => ?_
  exact setattr_ok I4 ea' c n l' rz fun s5 I5 => ⟨σ, _, I5, q4⟩
def rAdd : V → V → Hp → VK → Prop := fun x y H Q => ∃ i j, x = .int i ∧ y = .int j ∧ Q (.int (i + j)) H
def rSub : V → V → Hp → VK → Prop := fun x y H Q => ∃ i j, x = .int i ∧ y = .int j ∧ Q (.int (i - j)) H
theorem in_add : InOp X .Add rAdd := by
  rintro pins s σ H x y u v Q I rx ry ⟨i, j, rfl, rfl, q⟩
  obtain ⟨t, rfl⟩ := (show ∃ t, u = Value.int i t from rx)
  obtain ⟨t', rfl⟩ := (show ∃ t', v = Value.int j t' from ry)
  exact PyProof.Rows.iadd_int ⟨.int (i + j), H, I.tok _, ⟨_, rfl⟩, q⟩
theorem in_sub : InOp X .Sub rSub := by
  rintro pins s σ H x y u v Q I rx ry ⟨i, j, rfl, rfl, q⟩
  obtain ⟨t, rfl⟩ := (show ∃ t, u = Value.int i t from rx)
  obtain ⟨t', rfl⟩ := (show ∃ t', v = Value.int j t' from ry)
  exact PyProof.Rows.isub_int ⟨.int (i - j), H, I.tok _, ⟨_, rfl⟩, q⟩

/-- what is between an instance and its method: the tree of a method call -/
theorem methcall_of {pl : Sem Bool} {m : Str} {apos : Pos} {args : List Expr} {pins : List (Addr × Obj)} {s : Shared} {σ : St} {H : Hp} {Q : Value → Shared → Prop} {te : TE} (he : PE X e te) (I : Inv X pins σ H s)
    (h : te σ H fun x H1 => ∃ a C dx fs g, x = .ref a ∧ H1 a = some (.ins C dx fs) ∧ Cls X.K C ∧ Meth X.K C m g ∧ fs.lookup m = none ∧
      ∀ s1, Inv X pins σ H1 s1 → wpAny (model X.prog X.w) X.A (callWith pos (.ref g) [.ref a] (backTo pos (starEach args X.env)) (backToKw pos (keywordEach [] X.env))) Q X.xe s1)
    (ht : eval (.Call (.Attribute e m apos) args [] pos) X.env = (do
      let ov ← eval e X.env
      standAt apos.atName
      let (f, first) ← holding [ov] (getMethod ov m pl)
      callWith pos f first (backTo pos (starEach args X.env)) (backToKw pos (keywordEach [] X.env)))) :
    wpAny (model X.prog X.w) X.A (eval (.Call (.Attribute e m apos) args [] pos) X.env) Q X.xe s := by
  refine PySem.W.methodCall_KW (pl := pl) (thn (he pins s σ H _ I h) fun u s1 ⟨x, H1, I1, rx, a, C, dx, fs, g, ex, ea, c, k, l, q⟩ => ?_) ht
  subst ex
  obtain rfl : u = Value.ref a := rx
  exact getmeth_ok I1 ea c k l (q s1 I1)
end

/-! ### isinstance -/
section
variable {X : Cx} {pins : List (Addr × Obj)} {σ : St} {H : Hp} {s : Shared} {A : Around} {E : Value → Shared → Prop} {Q : Value → Shared → Prop} {c : Value} {b : Bool}
/-- the type of a value, as the fragment's deciders take it; for an instance its class -/
inductive TyOf (K : PySem.W.Frag) (H : Hp) : V → Value → Prop where
  | non : TyOf K H .non (.type "NoneType")
  | bl (x : Bool) : TyOf K H (.bl x) (.type "bool")
  | int (i : Int) : TyOf K H (.int i) (.type "int")
  | str (x : Str) : TyOf K H (.str x) (.type "str")
  | flt (x : UInt64) : TyOf K H (.flt x) (.type "float")
  | lst {a : Addr} {xs : List V} (e : H a = some (.lst xs)) : TyOf K H (.ref a) (.type "list")
  | frz {a : Addr} {o : Obj} {xs : List V} (e : H a = some (.frz o (.lst xs))) : TyOf K H (.ref a) (.type "list")
  | tup {a : Addr} {xs : List V} (e : H a = some (.tup xs)) : TyOf K H (.ref a) (.type "tuple")
  | dK {a : Addr} {kvs : List (Key × V)} (e : H a = some (.dK kvs)) : TyOf K H (.ref a) (.type "dict")
  | dT {a : Addr} {kvs : List (List Key × V)} (e : H a = some (.dT kvs)) : TyOf K H (.ref a) (.type "dict")
  | ins {a C dx : Addr} {fs : List (Str × V)} (e : H a = some (.ins C dx fs)) (cl : Cls K C) (ha : PySem.W.findIn K (.ref C) "__class__" = some (some (.builtin "object.__class__")))
      (hn : PySem.W.specialIn K (.builtin "object.__class__") "__get__" = some (some (.builtin "getset_descriptor.__get__"))) (htk : PySem.W.takesIn K (.builtin "object.__class__") = some true)
      (hm : PySem.W.mroIn K C (.type "object") = some true) : TyOf K H (.ref a) (.ref C)
/-- isinstance(x, c) for one class c, a built-in or an own one: kitOne's answer -/
theorem isinst_ok {x : V} {u t : Value} (I : Inv X pins σ H s) (rx : RelV x u) (ty : TyOf X.K H x t) (e : PySem.W.kitOne X.K t c = some b) (h : ∀ tk, Q (.bool b) { s with toks := tk }) :
    wpAny (model X.prog X.w) A (call (.builtin "isinstance") [u, c]) Q E s := by
  cases ty with
  | non => cases (show u = Value.none from rx); exact PySem.W.kia_one PySem.W.kitx_none I.kIn True.intro e (fun z => nomatch z) h
  | bl y => cases (show u = Value.bool y from rx); exact PySem.W.kia_one PySem.W.kitx_bool I.kIn True.intro e (fun z => nomatch z) h
  | int i => obtain ⟨t, q⟩ := (show ∃ t, u = Value.int i t from rx); cases q; exact PySem.W.kia_one PySem.W.kitx_int I.kIn True.intro e (fun z => nomatch z) h
  | str y => obtain ⟨t, q⟩ := (show ∃ t, u = Value.str y t from rx); cases q; exact PySem.W.kia_one PySem.W.kitx_str I.kIn True.intro e (fun z => nomatch z) h
  | flt y => obtain ⟨t, q⟩ := (show ∃ t, u = Value.float y t from rx); cases q; exact PySem.W.kia_one PySem.W.kitx_float I.kIn True.intro e (fun z => nomatch z) h
  | @lst a xs ea =>
    cases (show u = Value.ref a from rx)
    obtain ⟨_, _, n, _, h1⟩ := (show ObjOk X.prog X.w H s.heap a (.lst xs) from I.hok a _ ea)
    exact PySem.W.kia_one PySem.W.kitx_list I.kIn ⟨_, h1, rfl⟩ e (fun z => nomatch z) h
  | @frz a ob xs ea =>
    cases (show u = Value.ref a from rx)
    obtain ⟨_, _, _, n, _, h1⟩ := (show ObjOk X.prog X.w H s.heap a (.frz ob (.lst xs)) from I.hok a _ ea)
    exact PySem.W.kia_one PySem.W.kitx_list I.kIn ⟨_, h1, rfl⟩ e (fun z => nomatch z) h
  | @tup a xs ea =>
    cases (show u = Value.ref a from rx)
    obtain ⟨_, _, _, p⟩ := (show ObjOk X.prog X.w H s.heap a (.tup xs) from I.hok a _ ea)
    obtain ⟨o, h1, h2, _⟩ := p
    exact PySem.W.kia_one PySem.W.kitx_tuple I.kIn ⟨o, h1, h2⟩ e (fun z => nomatch z) h
  | @dK a kvs ea =>
    cases (show u = Value.ref a from rx)
    obtain ⟨_, _, vs, _, p⟩ := (show ObjOk X.prog X.w H s.heap a (.dK kvs) from I.hok a _ ea)
    obtain ⟨o, es, ep, h1, h2, _⟩ := p
    exact PySem.W.kia_one PySem.W.kitx_dict I.kIn ⟨o, h1, h2.1⟩ e (fun z => nomatch z) h
  | @dT a kvs ea =>
    cases (show u = Value.ref a from rx)
    obtain ⟨_, _, xs, _, o, es, ep, h1, h2, _⟩ := (show ObjOk X.prog X.w H s.heap a (.dT kvs) from I.hok a _ ea)
    exact PySem.W.kia_one PySem.W.kitx_dict I.kIn ⟨o, h1, h2.1⟩ e (fun z => nomatch z) h
  | @ins a C dx fs ea cl ha hn htk hm =>
    cases (show u = Value.ref a from rx)
    obtain ⟨mA, O, _⟩ := ins_get I.hok ea
    obtain ⟨od, J, _⟩ := O.look
    exact PySem.W.kia_one (PySem.W.kitx_own (cl.get _) cl.hd ha hn htk hm) I.kIn J e (fun z => nomatch z) h
end
end L2

namespace L2
open PySem PySem.Spec PyProof.Rows

/-! ### room -/
structure Room (k : Nat) (A : Around) : Prop where
  hd : A.handled = none
  dp : A.depth + 3 * k + 5 < recursionLimit
  un : A.units + 16 * k + 200 < cLine
theorem Room.mono {j k : Nat} {A : Around} (r : Room k A) (h : j ≤ k) : Room j A := ⟨r.hd, by have := r.dp; omega, by have := r.un; omega⟩
theorem Room.deeper {k : Nat} {A : Around} (r : Room (k + 1) A) (env : Env) : Room k (A.deeper env) :=
  ⟨r.hd, by have := r.dp; show A.depth + 1 + 3 * k + 5 < _; omega, by have := r.un; show A.units + 3 + 16 * k + 200 < _; omega⟩
theorem Room.in1 {k : Nat} {A : Around} (r : Room (k + 1) A) : Room k A.in1 :=
  ⟨r.hd, by have := r.dp; show A.depth + 3 * k + 5 < _; omega, by have := r.un; show A.units + 1 + 16 * k + 200 < _; omega⟩
theorem make_depth {A : Around} {C : Addr} {us : List Value} {kw : List (Str × Value)} : (A.under (.builtin "type.__call__" ⟨.ref C :: us, kw⟩)).depth = A.depth + 1 := by
  first | rfl | simp [Around.under, Code.weight, Code.isCreation, Code.isGuard, Code.isCaller, Code.frames, Code.isFrame, guardIds]
theorem make_units {A : Around} {C : Addr} {us : List Value} {kw : List (Str × Value)} : (A.under (.builtin "type.__call__" ⟨.ref C :: us, kw⟩)).units = A.units + 1 := by
  first | rfl | simp [Around.under, Code.cUnits, Code.frames, Code.isFrame]
theorem Room.make {k : Nat} {A : Around} (r : Room (k + 1) A) (C : Addr) (us : List Value) (kw : List (Str × Value)) : Room k (A.under (.builtin "type.__call__" ⟨.ref C :: us, kw⟩)) :=
  ⟨r.hd, by have := r.dp; rw [make_depth]; omega, by have := r.un; rw [make_units]; omega⟩
theorem Room.depth {k : Nat} {A : Around} (r : Room k A) : A.depth < recursionLimit := by have := r.dp; omega
theorem Room.units {k : Nat} {A : Around} (r : Room k A) : A.units + 64 < cLine := by have := r.un; omega
theorem Room.units0 {k : Nat} {A : Around} (r : Room k A) : A.units < cLine := by have := r.un; omega

/-! ### argument lists and displays -/
def tNil : TA := fun _ H Q => Q [] H
def tCons (ta : TE) (tr : TA) : TA := fun σ H Q => ta σ H fun x H1 => tr σ H1 fun xs H2 => Q (x :: xs) H2
section
variable {X : Cx} {e : Expr} {es : List Expr} {te : TE} {t : TA} {pos : Pos}
theorem pa_nil : PA X [] tNil := fun _ _ _ _ H Q I h => Calls.spliced_nil ⟨[], H, I, .nil, h⟩
theorem pa_cons (ha : PE X e te) (hr : PA X es t) (hs : starEach (e :: es) X.env = (false, eval e X.env) :: starEach es X.env := by rfl) : PA X (e :: es) (tCons te t) := by
  intro pos pins s σ H Q I h
  rw [hs]
  show wpAny _ _ (spliced ((false, eval e X.env) :: backTo pos (starEach es X.env))) _ _ s
  refine Calls.spliced_cons (thn (ha pins s σ H _ I h) fun u s1 ⟨x, H1, I1, r1, q1⟩ => ?_)
  exact thn (hr pos pins s1 σ H1 _ I1 q1) fun us s2 ⟨xs, H2, I2, r2, q2⟩ => ⟨x :: xs, H2, I2, .cons r1 r2, q2⟩

/-- a tuple, a list of written items -/
def tTup (t : TA) : TE := fun σ H Q => t σ H fun xs H1 => xs.length ≤ sizeLine ∧ ∀ p, H1 p = none → Q (.ref p) (upd H1 p (.tup xs))
def tLst (t : TA) : TE := fun σ H Q => t σ H fun xs H1 => xs.length ≤ sizeLine ∧ ∀ p, H1 p = none → Q (.ref p) (upd H1 p (.lst xs))
theorem pe_tup {x1} (h : PA X es t) : PE X (.Tuple es x1 pos) (tTup t) := by
  intro pins s σ H Q I hq
  refine wpAny_Tuple_spliced (thn (h pos pins s σ H _ I hq) fun us s1 ⟨xs, H1, I1, r, z, q⟩ => ⟨by rw [← r.length]; exact z, ?_⟩)
  have hf : H1 s1.heap.objs.size = none := I1.hok.fresh (Nat.le_refl _)
  refine ⟨.ref s1.heap.objs.size, upd H1 s1.heap.objs.size (.tup xs), I1.laid (t' := s1.toks) (fun b u e => Heap.get?_push_of_some _ e) (Nat.le_refl _) ?_, rfl, q _ hf⟩
  exact ⟨z, us, r, ⟨_, Heap.get?_push_size _ rfl, rfl, _, rfl⟩⟩
theorem pe_lst (h : PA X es t) : PE X (.List es pos) (tLst t) := by
  intro pins s σ H Q I hq
  refine wpAny_List_spliced (thn (h pos pins s σ H _ I hq) fun us s1 ⟨xs, H1, I1, r, z, q⟩ => ⟨by rw [← r.length]; exact z, ?_⟩)
  have hf : H1 s1.heap.objs.size = none := I1.hok.fresh (Nat.le_refl _)
  refine ⟨.ref s1.heap.objs.size, upd H1 s1.heap.objs.size (.lst xs), I1.laid (t' := s1.toks) (fun b u e => Heap.get?_push_of_some _ e) (Nat.le_refl _) ?_, rfl, q _ hf⟩
  exact ⟨z, us, 0, r, Heap.get?_push_size _ rfl⟩
end

/-! ### what a def promises -/
/-- a def's promise: the bound arguments in the parameters' order, the heap, the wanted end, the wanted exception -/
abbrev Sp := List V → Hp → VK → XK → Prop
/-- how an exception lies behind a call (file 08 gives it): the callers' frames, abstract heap and state ahead of the call, the wish, the exception, the state -/
abbrev CXT := List Env → Hp → Shared → XK → Value → Shared → Prop

/-- the state at a call -/
structure Env0 (P : Program) (w : World) (K : PySem.W.Frag) (mg : Str → Option Value) (base : Heap) (A : Around) (outer : List Env) (s : Shared) (H : Hp) : Prop where
  frames : A.frames = some outer
  mod : Mod K mg base
  bs : ∀ b o, base.get? b = some o → s.heap.get? b = some o ∧ H b = none
  bsz : base.objs.size ≤ s.heap.objs.size
  funs : s.heap.FunFrames base outer
  frf : ∀ b ∈ frs outer, H b = none
  hok : HOk P w H s.heap
  bare : AllBare s.gens
/-- a call's end -/
def CE (outer : List Env) (P : Program) (w : World) (H : Hp) (s : Shared) (Q : VK) (u : Value) (s' : Shared) : Prop :=
  ∃ v H', s'.os = s.os ∧ AllBare s'.gens ∧ Un (frs outer) [] H H' s.heap s'.heap ∧ HOk P w H' s'.heap ∧ RelV v u ∧ Q v H'
def CR (CX : CXT) (outer : List Env) (P : Program) (w : World) (H : Hp) (s : Shared) (Q : VK) (E : XK) (r : Result) (s' : Shared) : Prop :=
  match r with
  | .ok (.ret u) => CE outer P w H s Q u s'
  | .ok _ => False
  | .error e => CX outer H s E e s'
structure FnOk (P : Program) (w : World) (K : PySem.W.Frag) (mg : Str → Option Value) (base : Heap) (CX : CXT) (k : Nat) (f : Addr) (fd : FuncData) (ps : List Str) (sp : Sp) : Prop where
  len : ∀ vs H Q E, sp vs H Q E → vs.length = ps.length
  run : ∀ (A : Around) (outer : List Env) (s : Shared) (H : Hp) (args : Args) (us : List Value) (vs : List V) (Q : VK) (E : XK), Room k A → Env0 P w K mg base A outer s H → BindsTo s fd args (ps.zip us) → Vals vs us → sp vs H Q E →
    codeAny (model P w) A (.call (.ref f) args) (CR CX outer P w H s Q E) s
theorem FnOk.mono {P : Program} {w : World} {K : PySem.W.Frag} {mg : Str → Option Value} {base : Heap} {CX : CXT} {j k : Nat} {f : Addr} {fd : FuncData} {ps : List Str} {sp : Sp} (F : FnOk P w K mg base CX j f fd ps sp) (h : j ≤ k) :
    FnOk P w K mg base CX k f fd ps sp := ⟨F.len, fun A outer s H args us vs Q E hr => F.run A outer s H args us vs Q E (hr.mono h)⟩
/-- a weaker promise -/
theorem FnOk.imp {P : Program} {w : World} {K : PySem.W.Frag} {mg : Str → Option Value} {base : Heap} {CX : CXT} {k : Nat} {f : Addr} {fd : FuncData} {ps : List Str} {sp sp' : Sp} (F : FnOk P w K mg base CX k f fd ps sp)
    (h : ∀ vs H Q E, sp' vs H Q E → sp vs H Q E) : FnOk P w K mg base CX k f fd ps sp' :=
  ⟨fun vs H Q E q => F.len vs H Q E (h _ _ _ _ q), fun A outer s H args us vs Q E hr he hb hv hs => F.run A outer s H args us vs Q E hr he hb hv (h _ _ _ _ hs)⟩

theorem Env0.make {P : Program} {w : World} {K : PySem.W.Frag} {mg : Str → Option Value} {base : Heap} {A : Around} {outer : List Env} {s : Shared} {H : Hp} (e : Env0 P w K mg base A outer s H) (C : Addr) (us : List Value) (kw : List (Str × Value)) :
    Env0 P w K mg base (A.under (.builtin "type.__call__" ⟨.ref C :: us, kw⟩)) outer s H := ⟨by first | exact e.frames | (simpa [Around.under, Code.envs, Code.isFrame, pushEnvs] using e.frames), e.mod, e.bs, e.bsz, e.funs, e.frf, e.hok, e.bare⟩
theorem Env0.in1 {P : Program} {w : World} {K : PySem.W.Frag} {mg : Str → Option Value} {base : Heap} {A : Around} {outer : List Env} {s : Shared} {H : Hp} (e : Env0 P w K mg base A outer s H) :
    Env0 P w K mg base A.in1 outer s H := ⟨e.frames, e.mod, e.bs, e.bsz, e.funs, e.frf, e.hok, e.bare⟩

section
variable {X : Cx} {pins : List (Addr × Obj)} {σ : St} {H : Hp} {s s' : Shared}
/-- from a body: what a callee wants -/
theorem Inv.env0 (I : Inv X pins σ H s) : Env0 X.prog X.w X.K X.mg X.base X.A X.stack s H :=
  ⟨I.ok.frames, I.ok.mod, I.bs, Nat.le_trans I.ok.bsz I.sz, I.stack, I.stkFree, I.hok, I.bare⟩
/-- behind a call -/
theorem Inv.after {Q : VK} {u : Value} (I : Inv X pins σ H s) (h : CE X.stack X.prog X.w H s Q u s') : EP X pins σ Q u s' := by
  obtain ⟨v, H', os, bare, un, hok, r, q⟩ := h
  obtain ⟨hh, g, d, t, os'⟩ := s'
  obtain rfl : os' = s.os := os
  exact ⟨v, H', I.call (h' := hh) (g' := g) (d' := d) (t' := t) (ch := []) un hok bare (fun b z => absurd z (by simp)), r, q⟩
end

/-! ### calls -/
/-- f(..): the written arguments, then the defaults dvs; E: what is wanted of an exception -/
def tCall (sp : Sp) (dvs : List V) (E : XK) (t : TA) : TE := fun σ H Q => t σ H fun vs H1 => sp (vs ++ dvs) H1 Q E
/-- o.m(..) of an instance of the class at C -/
def tMeth (C : Addr) (m : Str) (sp : Sp) (dvs : List V) (E : XK) (ta : TE) (t : TA) : TE := fun σ H Q => ta σ H fun x H1 => ∃ a dx fs, x = .ref a ∧ H1 a = some (.ins C dx fs) ∧ fs.lookup m = none ∧
  t σ H1 fun vs H2 => sp (x :: (vs ++ dvs)) H2 Q E
/-- C(..): a new instance and its dict, then __init__ -/
def tMake (C : Addr) (sp : Sp) (dvs : List V) (E : XK) (t : TA) : TE := fun σ H Q => t σ H fun vs H1 => ∀ x dx, H1 x = none → H1 dx = none → dx ≠ x →
  sp (.ref x :: (vs ++ dvs)) (upd (upd H1 dx (.own x)) x (.ins C dx [])) (fun v H2 => v = .non ∧ Q (.ref x) H2) E

/-- how the parameters are bound: us the positional arguments, kw the keywords' values by name, ds the defaults that fill up -/
def Binds (K : PySem.W.Frag) (fd : FuncData) (ps : List Str) (ds : List Value) : Prop :=
  ∀ (s : Shared) (us : List Value), K.In s.heap → (us ++ ds).length = ps.length → BindsTo s fd ⟨us, []⟩ (ps.zip (us ++ ds))
/-- every parameter is given -/
theorem Binds.all {K : PySem.W.Frag} {fd : FuncData} {ps : List Str} (h : ∀ us : List Value, us.length = ps.length → bindArgs fd ⟨us, []⟩ = pure (ps.zip us)) : Binds K fd ps [] := fun s us _ hl => by
  rw [List.append_nil] at hl ⊢
  exact .of_eq (h us hl)

/-- an exception of a callee reaches what this body wants of exceptions -/
def Passes (CX : CXT) (X : Cx) (E : XK) : Prop := ∀ (pins : List (Addr × Obj)) (σ : St) (H : Hp) (s : Shared) (e : Value) (s' : Shared), Inv X pins σ H s → CX X.stack H s E e s' → X.xe e s'

section
variable {X : Cx} {CX : CXT} {k : Nat} {f C : Addr} {fd : FuncData} {ps : List Str} {sp : Sp} {dvs : List V} {ds : List Value} {E : XK} {x m : Str} {p pos apos : Pos} {e o : Expr} {es : List Expr} {ta : TE} {t : TA}

/-- the callee runs -/
theorem run_fn {pins : List (Addr × Obj)} {σ : St} {H : Hp} {s : Shared} {Q : VK} {us : List Value} {vs : List V} (F : FnOk X.prog X.w X.K X.mg X.base CX k f fd ps sp) (hr : Room k X.A) (hb : Binds X.K fd ps ds) (hd : Vals dvs ds) (hx : Passes CX X E)
    (I : Inv X pins σ H s) (r : Vals vs us) (h : sp (vs ++ dvs) H Q E) : wpAny (model X.prog X.w) X.A (call (.ref f) us) (EP X pins σ Q) X.xe s := by
  have r2 : Vals (vs ++ dvs) (us ++ ds) := r.append hd
  have hl : (us ++ ds).length = ps.length := by rw [← r2.length]; exact F.len _ _ _ _ h
  refine wpAny_call (codeAny_mono (F.run X.A X.stack s H ⟨us, []⟩ (us ++ ds) (vs ++ dvs) Q E hr I.env0 (hb s us I.kIn hl) r2 h) fun r s' hq => ?_)
  cases r with
  | error e => exact hx pins σ H s e s' I hq
  | ok fl =>
    cases fl with
    | ret u => exact I.after hq
    | next => exact False.elim hq
    | brk => exact False.elim hq
    | cont => exact False.elim hq

theorem pe_call (F : FnOk X.prog X.w X.K X.mg X.base CX k f fd ps sp) (hr : Room k X.A) (hg : Gl X x) (hm : X.mg x = some (.ref f)) (hk : PySem.W.keepIn X.K (.ref f) = true) (hb : Binds X.K fd ps ds) (hd : Vals dvs ds) (hx : Passes CX X E)
    (ha : PA X (e :: es) t) (hdb : (x == ("__debug__" : Str)) = false := by decide) (he : starEach (e :: es) X.env = (false, eval e X.env) :: starEach es X.env := by rfl) (hpl : (backTo pos (starEach es X.env)).any (·.1) = false := by rfl) :
    PE X (.Call (.Name x p) (e :: es) [] pos) (tCall sp dvs E t) := by
  intro pins s σ H Q I h
  refine wpAny_Call_Name_kw (ld_glob I hg hm ?_ hdb)
  refine PySem.W.callWith_K (h₀ := X.base) I.ok.mod.kin hk (thn (ha pos pins s σ H _ I h) fun us s1 ⟨vs, H1, I1, r, q⟩ => ⟨I1.kIn, ?_⟩) he hpl
  exact run_fn F hr hb hd hx I1 r q
theorem pe_call0 (F : FnOk X.prog X.w X.K X.mg X.base CX k f fd ps sp) (hr : Room k X.A) (hg : Gl X x) (hm : X.mg x = some (.ref f)) (hk : PySem.W.keepIn X.K (.ref f) = true) (hb : Binds X.K fd ps ds) (hd : Vals dvs ds) (hx : Passes CX X E)
    (hdb : (x == ("__debug__" : Str)) = false := by decide) : PE X (.Call (.Name x p) [] [] pos) (tCall sp dvs E tNil) := by
  intro pins s σ H Q I h
  refine wpAny_Call_Name_kw (ld_glob I hg hm ?_ hdb)
  exact PySem.W.callWith_K0 I.kIn hk (run_fn (us := []) F hr hb hd hx I .nil h)

/-- o.m(e, ..) -/
theorem pe_meth {pl : Sem Bool} (he : PE X o ta) (c : Cls X.K C) (hm : Meth X.K C m f) (F : FnOk X.prog X.w X.K X.mg X.base CX k f fd ps sp) (hr : Room k X.A) (hb : Binds X.K fd ps ds) (hd : Vals dvs ds) (hx : Passes CX X E) (ha : PA X (e :: es) t)
    (hst : starEach (e :: es) X.env = (false, eval e X.env) :: starEach es X.env := by rfl) (hpl : (backTo pos (starEach es X.env)).any (·.1) = false := by rfl)
    (ht : eval (.Call (.Attribute o m apos) (e :: es) [] pos) X.env = (do
      let ov ← eval o X.env
      standAt apos.atName
      let (f, first) ← holding [ov] (getMethod ov m pl)
      callWith pos f first (backTo pos (starEach (e :: es) X.env)) (backToKw pos (keywordEach [] X.env))) := by rfl) :
    PE X (.Call (.Attribute o m apos) (e :: es) [] pos) (tMeth C m sp dvs E ta t) := by
  intro pins s σ H Q I h
  refine PySem.W.methodCall_KW (pl := pl) (thn (he pins s σ H _ I h) fun u s1 ⟨x, H1, I1, rx, a, dx, fs, ex, ea, l, q⟩ => ?_) ht
  subst ex
  obtain rfl : u = Value.ref a := rx
  refine getmeth_ok I1 ea c hm l ?_
  refine PySem.W.callWith_K (first := [.ref a]) (h₀ := X.base) I.ok.mod.kin hm.kp (thn (ha pos pins s1 σ H1 _ I1 q) fun us s2 ⟨vs, H2, I2, r, q2⟩ => ⟨I2.kIn, ?_⟩) hst hpl
  exact run_fn (us := .ref a :: us) (vs := .ref a :: vs) F hr hb hd hx I2 (.cons rfl r) q2
/-- o.m() -/
theorem pe_meth0 {pl : Sem Bool} (he : PE X o ta) (c : Cls X.K C) (hm : Meth X.K C m f) (F : FnOk X.prog X.w X.K X.mg X.base CX k f fd ps sp) (hr : Room k X.A) (hb : Binds X.K fd ps ds) (hd : Vals dvs ds) (hx : Passes CX X E)
    (ht : eval (.Call (.Attribute o m apos) [] [] pos) X.env = (do
      let ov ← eval o X.env
      standAt apos.atName
      let (f, first) ← holding [ov] (getMethod ov m pl)
      callWith pos f first (backTo pos (starEach [] X.env)) (backToKw pos (keywordEach [] X.env))) := by rfl) :
    PE X (.Call (.Attribute o m apos) [] [] pos) (tMeth C m sp dvs E ta tNil) := by
  intro pins s σ H Q I h
  refine PySem.W.methodCall_KW (pl := pl) (thn (he pins s σ H _ I h) fun u s1 ⟨x, H1, I1, rx, a, dx, fs, ex, ea, l, q⟩ => ?_) ht
  subst ex
  obtain rfl : u = Value.ref a := rx
  refine getmeth_ok I1 ea c hm l ?_
  exact PySem.W.callWith_K0 (first := [.ref a]) I1.kIn hm.kp (run_fn (us := [.ref a]) (vs := [.ref a]) F hr hb hd hx I1 (.cons rfl .nil) q)

/-- what a class must have to be made -/
structure Mk (K : PySem.W.Frag) (C f : Addr) : Prop where
  makes : PySem.W.makesIn K C = true
  init : PySem.W.findIn K (.ref C) "__init__" = some (some (.ref f))
  fn : PySem.W.isFn K (.ref f) = true
  kp : PySem.W.keepIn K (.ref C) = true

theorem run_make {pins : List (Addr × Obj)} {σ : St} {H : Hp} {s : Shared} {Q : VK} {us : List Value} {vs : List V} (M : Mk X.K C f) (F : FnOk X.prog X.w X.K X.mg X.base CX k f fd ps sp) (hr : Room (k + 1) X.A) (hb : Binds X.K fd ps ds) (hd : Vals dvs ds)
    (hx : Passes CX X E) (I : Inv X pins σ H s) (r : Vals vs us)
    (h : ∀ x dx, H x = none → H dx = none → dx ≠ x → sp (.ref x :: (vs ++ dvs)) (upd (upd H dx (.own x)) x (.ins C dx [])) (fun v H2 => v = .non ∧ Q (.ref x) H2) E) :
    wpAny (model X.prog X.w) X.A (call (.ref C) us) (EP X pins σ Q) X.xe s := by
  have hq := h (s.heap.objs.size + 1) s.heap.objs.size (I.hok.fresh (Nat.le_succ _)) (I.hok.fresh (Nat.le_refl _)) (Nat.ne_of_lt (Nat.lt_succ_self _))
  have I2 := Inv.made (C := C) I
  have r2 : Vals (V.ref (s.heap.objs.size + 1) :: (vs ++ dvs)) (Value.ref (s.heap.objs.size + 1) :: (us ++ ds)) := .cons rfl (r.append hd)
  have hl : (Value.ref (s.heap.objs.size + 1) :: us ++ ds).length = ps.length := by
    have e := r2.length
    rw [F.len _ _ _ _ hq] at e
    exact e.symm
  refine wpAny_call (make_map (f := f) I.kIn M.makes M.init (beq_iff_eq.mp M.fn) (codeAny_mono (F.run _ X.stack _ _ ⟨Value.ref (s.heap.objs.size + 1) :: us, []⟩ (Value.ref (s.heap.objs.size + 1) :: (us ++ ds)) _ _ E (hr.make C us [])
    (I2.env0.make C us []) (hb _ (Value.ref (s.heap.objs.size + 1) :: us) I2.kIn hl) r2 hq) fun r s' hq' => ?_))
  cases r with
  | error e => exact hx pins σ _ _ e s' I2 hq'
  | ok fl =>
    cases fl with
    | ret u =>
      obtain ⟨v, H', I3, rv, ev, q3⟩ := I2.after hq'
      subst ev
      exact ⟨rv, ⟨V.ref (s.heap.objs.size + 1), H', I3, rfl, q3⟩⟩
    | next => exact False.elim hq'
    | brk => exact False.elim hq'
    | cont => exact False.elim hq'
theorem pe_make (M : Mk X.K C f) (F : FnOk X.prog X.w X.K X.mg X.base CX k f fd ps sp) (hr : Room (k + 1) X.A) (hg : Gl X x) (hm : X.mg x = some (.ref C)) (hb : Binds X.K fd ps ds) (hd : Vals dvs ds) (hx : Passes CX X E)
    (ha : PA X (e :: es) t) (hdb : (x == ("__debug__" : Str)) = false := by decide) (he : starEach (e :: es) X.env = (false, eval e X.env) :: starEach es X.env := by rfl) (hpl : (backTo pos (starEach es X.env)).any (·.1) = false := by rfl) :
    PE X (.Call (.Name x p) (e :: es) [] pos) (tMake C sp dvs E t) := by
  intro pins s σ H Q I h
  refine wpAny_Call_Name_kw (ld_glob I hg hm ?_ hdb)
  refine PySem.W.callWith_K (h₀ := X.base) I.ok.mod.kin M.kp (thn (ha pos pins s σ H _ I h) fun us s1 ⟨vs, H1, I1, r, q⟩ => ⟨I1.kIn, ?_⟩) he hpl
  exact run_make M F hr hb hd hx I1 r q
theorem pe_make0 (M : Mk X.K C f) (F : FnOk X.prog X.w X.K X.mg X.base CX k f fd ps sp) (hr : Room (k + 1) X.A) (hg : Gl X x) (hm : X.mg x = some (.ref C)) (hb : Binds X.K fd ps ds) (hd : Vals dvs ds) (hx : Passes CX X E)
    (hdb : (x == ("__debug__" : Str)) = false := by decide) : PE X (.Call (.Name x p) [] [] pos) (tMake C sp dvs E tNil) := by
  intro pins s σ H Q I h
  refine wpAny_Call_Name_kw (ld_glob I hg hm ?_ hdb)
  exact PySem.W.callWith_K0 I.kIn M.kp (run_make (us := []) M F hr hb hd hx I .nil h)
end

/-! ### keywords -/
/-- the values of the keywords, from the left -/
def PK (X : Cx) (kws : List Keyword) (t : TA) : Prop :=
  ∀ (pos : Pos) (pins : List (Addr × Obj)) (s : Shared) (σ : St) (H : Hp) (Q : List V → Hp → Prop), Inv X pins σ H s → t σ H Q → wpAny (model X.prog X.w) X.A (evalAll ((backToKw pos (keywordEach kws X.env)).map (·.2))) (AP X pins σ Q) X.xe s
section
variable {X : Cx} {CX : CXT} {k : Nat} {f C : Addr} {fd : FuncData} {ps ks : List Str} {sp : Sp} {E : XK} {x m : Str} {p pos apos kpos : Pos} {e o : Expr} {es : List Expr} {kws : List Keyword} {te ta : TE} {t tk : TA} {nm : Option Str}
theorem pk_nil : PK X [] tNil := fun _ _ _ _ H Q I h => wpAny_evalAll_nil ⟨[], H, I, .nil, h⟩
theorem pk_cons (ha : PE X e te) (hr : PK X kws t) : PK X (⟨nm, e, kpos⟩ :: kws) (tCons te t) := by
  intro pos pins s σ H Q I h
  show wpAny _ _ (evalAll ((do let v ← eval e X.env; standAt pos; pure v) :: (backToKw pos (keywordEach kws X.env)).map (·.2))) _ _ s
  refine wpAny_evalAll_cons (wpAny_bind (thn (ha pins s σ H _ I h) fun u s1 ⟨x, H1, I1, r1, q1⟩ => wpAny_bind (wpAny_standAt (wpAny_pure ?_))))
  exact thn (hr pos pins s1 σ H1 _ I1 q1) fun us s2 ⟨xs, H2, I2, r2, q2⟩ => ⟨x :: xs, H2, I2, .cons r1 r2, q2⟩

/-- how a call with keywords binds: g puts the positional values us and the keywords' values ws (names ks) in the parameters' order, defaults among them -/
structure KBinds (K : PySem.W.Frag) (fd : FuncData) (ps ks : List Str) (g : List Value → List Value → List Value) (gV : List V → List V → List V) : Prop where
  to : ∀ (s : Shared) (us ws : List Value), K.In s.heap → (g us ws).length = ps.length → BindsTo s fd ⟨us, ks.zip ws⟩ (ps.zip (g us ws))
  rel : ∀ {vs : List V} {us : List Value} {zs : List V} {ws : List Value}, Vals vs us → Vals zs ws → Vals (gV vs zs) (g us ws)
def tCallK (sp : Sp) (gV : List V → List V → List V) (E : XK) (t tk : TA) : TE := fun σ H Q => t σ H fun vs H1 => tk σ H1 fun zs H2 => sp (gV vs zs) H2 Q E
variable {g : List Value → List Value → List Value} {gV : List V → List V → List V}
theorem run_fnk {pins : List (Addr × Obj)} {σ : St} {H : Hp} {s : Shared} {Q : VK} {us ws : List Value} {vs zs : List V} (F : FnOk X.prog X.w X.K X.mg X.base CX k f fd ps sp) (hr : Room k X.A) (hb : KBinds X.K fd ps ks g gV) (hx : Passes CX X E)
    (I : Inv X pins σ H s) (r : Vals vs us) (rz : Vals zs ws) (h : sp (gV vs zs) H Q E) : wpAny (model X.prog X.w) X.A (call (.ref f) us (ks.zip ws)) (EP X pins σ Q) X.xe s := by
  have r2 := hb.rel r rz
  have hl : (g us ws).length = ps.length := by rw [← r2.length]; exact F.len _ _ _ _ h
  refine wpAny_call (codeAny_mono (F.run X.A X.stack s H ⟨us, ks.zip ws⟩ (g us ws) (gV vs zs) Q E hr I.env0 (hb.to s us ws I.kIn hl) r2 h) fun r s' hq => ?_)
  cases r with
  | error e => exact hx pins σ H s e s' I hq
  | ok fl =>
    cases fl with
    | ret u => exact I.after hq
    | next => exact False.elim hq
    | brk => exact False.elim hq
    | cont => exact False.elim hq
/-- f(e, .., k = v, ..) -/
theorem pe_callK (F : FnOk X.prog X.w X.K X.mg X.base CX k f fd ps sp) (hr : Room k X.A) (hg : Gl X x) (hm : X.mg x = some (.ref f)) (hk : PySem.W.keepIn X.K (.ref f) = true) (hb : KBinds X.K fd ps ks g gV) (hx : Passes CX X E)
    (ha : PA X (e :: es) t) (hkw : PK X kws tk) (hall : (backToKw pos (keywordEach kws X.env)).all (·.1.isSome) = true := by rfl) (hks : (backToKw pos (keywordEach kws X.env)).filterMap (·.1) = ks := by rfl)
    (hdb : (x == ("__debug__" : Str)) = false := by decide) (he : starEach (e :: es) X.env = (false, eval e X.env) :: starEach es X.env := by rfl)
    (hpl : ((backTo pos (starEach (e :: es) X.env)).any (·.1) || (backToKw pos (keywordEach kws X.env)).any (·.1.isNone)) = false := by rfl) :
    PE X (.Call (.Name x p) (e :: es) kws pos) (tCallK sp gV E t tk) := by
  intro pins s σ H Q I h
  refine wpAny_Call_Name_kw (ld_glob I hg hm ?_ hdb)
  refine PySem.W.callWith_KW (h₀ := X.base) I.ok.mod.kin hk hall (thn (ha pos pins s σ H _ I h) fun us s1 ⟨vs, H1, I1, r, q⟩ => ?_) hpl he
  refine thn (hkw pos pins s1 σ H1 _ I1 q) fun ws s2 ⟨zs, H2, I2, rz, q2⟩ => ⟨I2.kIn, ?_⟩
  rw [hks]
  exact run_fnk F hr hb hx I2 r rz q2
end

/-! ### a def's body keeps its promise -/
/-- names: the parameters first -/
structure FnScope (N P : List Str) (sc : Scope) : Prop where
  kind : sc.kind = .function
  co : sc.isCoroutine = false
  gen : sc.isGenerator = false
  nd : N.Nodup
  pre : N.take P.length = P
  par : ∀ x ∈ P, sc.names.lookup x = some .local ∨ sc.names.lookup x = some .cell
  nofree : ∀ y ∈ sc.names, y.2 ≠ .free

theorem bindL_out {kindOf : Str → Option NameKind} {x : Str} : ∀ {binds : List (Str × Value)} {m : Str → Option Value}, (∀ v, (x, v) ∉ binds) → bindL kindOf binds m x = m x
  | [], _, _ => rfl
  | (n, v) :: r, m, h => by
    unfold bindL
    rw [bindL_out fun w hw => h w (List.mem_cons_of_mem _ hw)]
    split
    · have : x ≠ n := by rintro rfl; exact h v List.mem_cons_self
      simp [this]
    · rfl
theorem bindC_out {kindOf : Str → Option NameKind} {x : Str} : ∀ {binds : List (Str × Value)} {m : Str → Option Value}, (∀ v, (x, v) ∉ binds) → bindC kindOf binds m x = m x
  | [], _, _ => rfl
  | (n, v) :: r, m, h => by
    unfold bindC
    rw [bindC_out fun w hw => h w (List.mem_cons_of_mem _ hw)]
    split
    · rfl
    · have : x ≠ n := by rintro rfl; exact h v List.mem_cons_self
      simp [this]
theorem bindL_get {kindOf : Str → Option NameKind} {x : Str} {v : Value} : ∀ {P : List Str} {vs : List Value} {i : Nat} {m : Str → Option Value}, P.Nodup → P[i]? = some x → vs[i]? = some v → kindOf x = some .local →
    bindL kindOf (P.zip vs) m x = some v
  | [], _, _, _, _, h, _, _ => by simp at h
  | _ :: _, [], _, _, _, _, h, _ => by simp at h
  | p :: P, w :: vs, 0, m, nd, h1, h2, hk => by
    simp at h1 h2; subst h1; subst h2
    show bindL kindOf ((p, w) :: P.zip vs) m p = _
    unfold bindL
    rw [bindL_out fun v hv => (List.nodup_cons.mp nd).1 (List.of_mem_zip hv).1, if_pos hk]
    simp
  | p :: P, w :: vs, i + 1, m, nd, h1, h2, hk => by
    show bindL kindOf ((p, w) :: P.zip vs) m x = _
    unfold bindL
    exact bindL_get (i := i) (List.nodup_cons.mp nd).2 (by simpa using h1) (by simpa using h2) hk
theorem bindC_get {kindOf : Str → Option NameKind} {x : Str} {v : Value} : ∀ {P : List Str} {vs : List Value} {i : Nat} {m : Str → Option Value}, P.Nodup → P[i]? = some x → vs[i]? = some v → kindOf x ≠ some .local →
    bindC kindOf (P.zip vs) m x = some v
  | [], _, _, _, _, h, _, _ => by simp at h
  | _ :: _, [], _, _, _, _, h, _ => by simp at h
  | p :: P, w :: vs, 0, m, nd, h1, h2, hk => by
    simp at h1 h2; subst h1; subst h2
    show bindC kindOf ((p, w) :: P.zip vs) m p = _
    unfold bindC
    rw [bindC_out fun v hv => (List.nodup_cons.mp nd).1 (List.of_mem_zip hv).1, if_neg hk]
    simp
  | p :: P, w :: vs, i + 1, m, nd, h1, h2, hk => by
    show bindC kindOf ((p, w) :: P.zip vs) m x = _
    unfold bindC
    exact bindC_get (i := i) (List.nodup_cons.mp nd).2 (by simpa using h1) (by simpa using h2) hk

/-- the names' values at the entry -/
def start (N : List Str) (vs : List V) : St := vs.map some ++ List.replicate (N.length - vs.length) none

/-- the context of a def's body, at its entry; an exception leaves the frame, then lies as CX says -/
def cxOf (CX : CXT) (P : Program) (w : World) (K : PySem.W.Frag) (mg : Str → Option Value) (base : Heap) (N : List Str) (qual : Str) (scope : Scope) (f : Addr) (cd : Value) (A : Around) (outer : List Env) (s : Shared) (H : Hp) (E : XK) : Cx where
  prog := P
  w := w
  K := K
  mg := mg
  base := base
  A := A.deeper (envOfC qual scope s.heap.objs.size f cd)
  N := N
  s₀ := s
  H₀ := H
  env := envOfC qual scope s.heap.objs.size f cd
  outer := outer
  stack := envOfC qual scope s.heap.objs.size f cd :: outer
  ex := []
  calm := true
  fn := fun _ => true
  pn := []
  xe := fun e s' => wpAny (model P w) (A.deeper (envOfC qual scope s.heap.objs.size f cd)) (leaving (envOfC qual scope s.heap.objs.size f cd) e) (fun _ s'' => CX outer H s E e s'') (fun e' s'' => CX outer H s E e' s'') s'

theorem cell_has {sc : Scope} {n : Nat} {x : Str} (h : sc.names.lookup x = some .cell) : ∃ c, (cellsFrom n sc.names []).lookup x = some c := by
  have q := PySem.W.cellsFrom_some sc.names n [] (.inl h)
  exact Option.isSome_iff_exists.mp q

theorem inv_start {CX : CXT} {P : Program} {w : World} {K : PySem.W.Frag} {mg : Str → Option Value} {base : Heap} {N ps : List Str} {qual : Str} {scope : Scope} {f : Addr} {cd : Value} {A : Around} {outer : List Env} {s s1 : Shared} {H : Hp} {E : XK} {us : List Value} {vs : List V}
    (S : FnScope N ps scope) (hd : A.handled = none) (e0 : Env0 P w K mg base A outer s H) (hl : vs.length = ps.length) (r : Vals vs us)
    (x : InCallC s s.heap.objs.size (bindL (envOfC qual scope s.heap.objs.size f cd).kindOf (ps.zip us) fun _ => none) (cellsFrom (s.heap.objs.size + 1) scope.names []) (bindC (envOfC qual scope s.heap.objs.size f cd).kindOf (ps.zip us) fun _ => none) s1) :
    Inv (cxOf CX P w K mg base N qual scope f cd A outer s H E) [] (start N vs) H s1 := by
  have hpl : ps.length ≤ N.length := by have := congrArg List.length S.pre; rw [List.length_take] at this; omega
  obtain ⟨h1, tk, rfl, hk⟩ := x.done
  have noA : ∀ b : Addr, b ∉ (cxOf CX P w K mg base N qual scope f cd A outer s H E).ex := fun b z => absurd (show b ∈ ([] : List Addr) from z) (by simp)
  refine ⟨⟨e0.mod, S.kind, rfl, rfl, Nat.le_refl _, fun y z c h1 h2 => ?_, fun y hy => ?_, fun y c _ h => ?_, fun _ => hd, Around.frames_deeper e0.frames, .inr ⟨rfl, rfl⟩, fun b z => absurd z (noA b), e0.bs, e0.bsz, fun b _ _ => noA b, fun b z => absurd z (noA b), e0.funs, e0.frf⟩,
    rfl, e0.bare, Un.kept hk, ⟨_, x.toInCall.ns, fun i y v h1 h2 h3 => ?_⟩, fun y c h => ⟨_, x.cell y c h⟩, e0.hok.fresh (Nat.le_refl _), fun y c h => ?_, fun p hp => absurd (show p ∈ ([] : List (Addr × Obj)) from hp) (by simp), e0.hok.kept hk, ?_⟩
  · exact name_of_addr x.apart (PySem.mem_of_lookup h1) (PySem.mem_of_lookup h2)
  · have hy : scope.names.lookup y = some .cell ∨ scope.names.lookup y = some .free := hy
    rcases hy with hy | hy
    · exact cell_has hy
    · exact absurd rfl (S.nofree _ (PySem.mem_of_lookup hy))
  · exact Nat.le_of_lt (x.above y c (PySem.mem_of_lookup h))
  · have hi : i < vs.length := by
      unfold start at h2
      by_cases hi : i < vs.length
      · exact hi
      · rw [List.getElem?_append_right (by simpa using hi)] at h2
        rw [List.getElem?_replicate] at h2
        split at h2 <;> cases h2
    have ha : vs[i]? = some v := by
      unfold start at h2
      rw [List.getElem?_append_left (by simpa using hi), List.getElem?_map] at h2
      cases e : vs[i]? with
      | none => rw [e] at h2; cases h2
      | some a => rw [e] at h2; cases h2; rfl
    obtain ⟨u, hu, rv⟩ := r.get ha
    have hp : ps[i]? = some y := by
      rw [← S.pre, List.getElem?_take_of_lt (by omega)]; exact h1
    have ndP : ps.Nodup := by rw [← S.pre]; exact S.nd.sublist (List.take_sublist _ _)
    refine ⟨u, rv, ?_⟩
    rcases S.par y (List.mem_of_getElem? hp) with k | k
    · exact .inl ⟨k, bindL_get ndP hp hu k⟩
    · obtain ⟨c, e⟩ := cell_has (n := s.heap.objs.size + 1) k
      refine .inr ⟨.inl k, c, e, ?_⟩
      have q := x.cell y c e
      rw [bindC_get ndP hp hu (by show scope.names.lookup y ≠ _; rw [k]; decide)] at q
      exact q
  · exact e0.hok.fresh (Nat.le_of_lt (x.above y c (PySem.mem_of_lookup h)))
  · unfold start
    show _ = N.length
    rw [List.length_append, List.length_map, List.length_replicate]
    omega

/-- THE RULE: a def (or a method) of the text, by its body. The body's reading t is chosen for each entry; it is run at the parameters' values -/
theorem fn_of {CX : CXT} {P : Program} {w : World} {K : PySem.W.Frag} {mg : Str → Option Value} {base : Heap} {k : Nat} {f : Addr} {name qual : Str} {params : Arguments} {body : List Stmt} {scope : Scope} {dV kV doc pm cdv ct oc : Value} {an od : Option Addr}
    {osl : Array (Option Value)} {N ps : List Str} {sp : Sp} (lk : K.lookup f = some ⟨oc, od, .func (PySem.W.fnOf name qual params body scope dV kV doc pm an cdv ct), osl⟩) (hcd : PySem.W.codeIn K cdv qual = true) (S : FnScope N ps scope)
    (len : ∀ vs H Q E, sp vs H Q E → vs.length = ps.length)
    (hbody : ∀ (A : Around) (outer : List Env) (s : Shared) (H : Hp) (vs : List V) (Q : VK) (E : XK), Room k (A.deeper (envOfC qual scope s.heap.objs.size f cdv)) → sp vs H Q E →
      ∃ t, PSs (cxOf CX P w K mg base N qual scope f cdv A outer s H E) body t ∧ t { nx := fun _ H' => Q .non H', rt := Q } (start N vs) H) :
    FnOk P w K mg base CX (k + 1) f (PySem.W.fnOf name qual params body scope dV kV doc pm an cdv ct) ps sp := by
  refine ⟨len, fun A outer s H args us vs Q E hr e0 hb r hsp => ?_⟩
  have hl := len _ _ _ _ hsp
  have KX : K.In s.heap := e0.mod.kin.keeps fun b o e => (e0.bs b o e).1
  have lim : s.heap.NoLimit := e0.mod.nolimit.keeps fun b o e => (e0.bs b o e).1
  have hkind : ∀ y ∈ ps.zip us, scope.names.lookup y.1 = some .local ∨ (scope.names.lookup y.1 = some .cell ∧ ((cellsFrom (s.heap.objs.size + 1) scope.names []).lookup y.1).isSome = true) := fun ⟨n, v⟩ hy => by
    rcases S.par n (List.of_mem_zip hy).1 with q | q
    · exact .inl q
    · exact .inr ⟨q, PySem.W.cellsFrom_some _ _ _ (.inl q)⟩
  refine codeAny_call_function hr.depth (KX _ _ lk) rfl S.co S.gen rfl (PySem.W.codeRec_of KX hcd) (hb _ _ _ _ ?_)
  refine wpAny_newFunctionEnv_cells S.kind hkind fun env he s1 x => ?_
  subst he
  refine ⟨lim.keeps x.toInCall.keep, codeAny_func ?_⟩
  obtain ⟨t, ht, hq⟩ := hbody A outer s H vs Q E (hr.deeper _) hsp
  have I : Inv (cxOf CX P w K mg base N qual scope f cdv A outer s H E) [] (start N vs) H s1 := inv_start S hr.hd e0 hl r x
  refine wpAny_mono (ht [] s1 (start N vs) H _ I hq) (fun fl s' hs => ?_) fun e s' hs => hs
  have fin : ∀ {σ' : St} {H' : Hp} {v : V} {u : Value}, Inv (cxOf CX P w K mg base N qual scope f cdv A outer s H E) [] σ' H' s' → RelV v u → Q v H' → CE outer P w H s Q u s' :=
    fun {σ' H' v u} J rv q => ⟨v, H', J.os, J.bare, J.base, J.hok, rv, q⟩
  cases fl with
  | ret u =>
    obtain ⟨v, σ', H', J, rv, q⟩ := hs
    exact fin J rv q
  | next =>
    obtain ⟨σ', H', J, q⟩ := hs
    exact fin (v := V.non) (u := Value.none) J rfl q
  | brk =>
    obtain ⟨_, _, _, q⟩ := hs
    exact False.elim q
  | cont =>
    obtain ⟨_, _, _, q⟩ := hs
    exact False.elim q
end L2

namespace L2
open PySem PySem.Spec PyProof.Rows
section
variable {X : Cx} {x : Str} {p pos : Pos} {e : Expr} {es : List Expr} {t : TA} {id T : String} {r : List V → Hp → VK → Prop}

def tCB (r : List V → Hp → VK → Prop) (t : TA) : TE := fun σ H Q => t σ H fun vs H1 => r vs H1 Q
/-- f(e, ..), f a built-in function -/
theorem pe_callB (hc : CallR X (.builtin id) r) (hg : Gl X x) (hm : X.mg x = none) (hv : bootBuiltins x = some (.builtin id)) (ha : PA X (e :: es) t) (hn : x ≠ "__name__" := by decide) (hdb : (x == ("__debug__" : Str)) = false := by decide)
    (he : starEach (e :: es) X.env = (false, eval e X.env) :: starEach es X.env := by rfl) (hpl : (backTo pos (starEach es X.env)).any (·.1) = false := by rfl) : PE X (.Call (.Name x p) (e :: es) [] pos) (tCB r t) := by
  intro pins s σ H Q I h
  refine wpAny_Call_Name_kw (ld_blt I hg hm hv ?_ hn hdb)
  exact PyProof.Rows.callWith_builtin1 (thn (ha pos pins s σ H _ I h) fun us s1 ⟨vs, H1, I1, r1, q1⟩ => hc pins s1 σ H1 vs us Q I1 r1 q1) he hpl
/-- T(e, ..), T a built-in type -/
theorem pe_callTy (hc : CallR X (.type T) r) (hg : Gl X x) (hm : X.mg x = none) (hv : bootBuiltins x = some (.type T)) (ha : PA X (e :: es) t) (hn : x ≠ "__name__" := by decide) (hdb : (x == ("__debug__" : Str)) = false := by decide)
    (he : starEach (e :: es) X.env = (false, eval e X.env) :: starEach es X.env := by rfl) (hpl : (backTo pos (starEach es X.env)).any (·.1) = false := by rfl) : PE X (.Call (.Name x p) (e :: es) [] pos) (tCB r t) := by
  intro pins s σ H Q I h
  refine wpAny_Call_Name_kw (ld_blt I hg hm hv ?_ hn hdb)
  exact PyProof.Rows.callWith_type1 (thn (ha pos pins s σ H _ I h) fun us s1 ⟨vs, H1, I1, r1, q1⟩ => hc pins s1 σ H1 vs us Q I1 r1 q1) he hpl
/-- T() -/
theorem pe_callTy0 (hc : CallR X (.type T) r) (hg : Gl X x) (hm : X.mg x = none) (hv : bootBuiltins x = some (.type T)) (hn : x ≠ "__name__" := by decide) (hdb : (x == ("__debug__" : Str)) = false := by decide) :
    PE X (.Call (.Name x p) [] [] pos) (tCB r tNil) := by
  intro pins s σ H Q I h
  refine wpAny_Call_Name_kw (ld_blt I hg hm hv ?_ hn hdb)
  exact PyProof.Rows.callWith_type0 (hc pins s σ H [] [] Q I .nil h)
end
end L2

namespace HT
open PySem PyProof.Rows

/-- t < u of tuples of ints -/
def lexLt : List Int → List Int → Bool
  | [], [] => false
  | [], _ :: _ => true
  | _ :: _, [] => false
  | x :: xs, y :: ys => if x = y then lexLt xs ys else decide (x < y)
theorem lexLt_cons (x y : Int) (xs ys : List Int) : lexLt (x :: xs) (y :: ys) = if x = y then lexLt xs ys else decide (x < y) := rfl
theorem lexLt_nil_nil : lexLt [] [] = false := rfl
theorem lexLt_nil_cons (y : Int) (ys : List Int) : lexLt [] (y :: ys) = true := rfl
theorem lexLt_cons_nil (x : Int) (xs : List Int) : lexLt (x :: xs) [] = false := rfl

theorem eqAt_int (A : Around) (s : Shared) (a : Int) (t : Tok) (c : Int) (u : Tok) : ∃ e, SeqAt.EqAt A s (.int a t) (.int c u) e ∧ (e = true ↔ a = c) :=
  ⟨(a == c), SeqAt.EqAt.int_int a t c u, by simp⟩
theorem rcLt_int (A : Around) (s : Shared) (a : Int) (t : Tok) (c : Int) (u : Tok) (prog : Program) (w : World) (E : Value → Shared → Prop) (Q : Value → Shared → Prop) (h : Q (.bool (decide (a < c))) s) :
    wpAny (model prog w) A (richCompare .Lt (.int a t) (.int c u)) Q E s :=
  (PyProof.Rows.lt_int h : wpAny (model prog w) A (compareOp .Lt (.int a t) (.int c u)) Q E s)

section
open PySem.SeqAt
open PySem.AutoSeq1 (wpAny_loadPart')
open PySem.MeetsSeq PySem.MeetsSeq2 PySem.MeetsSeq3

theorem tuple_lt_ints (l b : Addr) (items items2 : Array Value) (n n2 : Nat) (dd dd2 : Option Addr) (sl sl2 : Array (Option Value)) (ns ms : List Int) (hi : IntsAre items.toList ns) (hj : IntsAre items2.toList ms) :
    Meets (Builtin.«tuple.__lt__» ⟨[.ref l, .ref b], []⟩)
      (fun _ R s => s.heap.get? l = some { cls := .type "tuple", dict := dd, data := .seq items n, slots := sl } ∧ s.heap.get? b = some { cls := .type "tuple", dict := dd2, data := .seq items2 n2, slots := sl2 } ∧
        R (.ok (.ret (.bool (lexLt ns ms)))) s) :=
  .of_wp fun prog w A R s h => by
    obtain ⟨hp, g, d, tk, os⟩ := s; obtain ⟨hl, hb, h⟩ := h
    have f2 := AutoSeq1.sub_tuple_tuple
    have z1 : items.size = ns.length := by rw [← hi.length]; simp
    have z2 : items2.size = ms.length := by rw [← hj.length]; simp
    wp_walk using wpAny_loadPart' hl, wpAny_loadPart' hb, wpAny_forIn_list _ (fun rest b s' => b.1 = none ∧ s' = ⟨hp, g, d, tk, os⟩ ∧ ∃ (vs ws : List Value) (ns' ms' : List Int), rest = vs.zip ws ∧
      IntsAre vs ns' ∧ IntsAre ws ms' ∧ ns'.length + items2.size = ms'.length + items.size ∧ R (.ok (.ret (.bool (lexLt ns' ms')))) ⟨hp, g, d, tk, os⟩) _
    case turn =>
      rintro ⟨y, x⟩ rest b s' ⟨hb', rfl, vs, ws, ns', ms', hz, hvi, hwi, hlen, hR⟩
      cases hvi with
      | nil => rw [List.zip_nil_left] at hz; cases hz
      | cons a t hvi' =>
        cases hwi with
        | nil => rw [List.zip_nil_right] at hz; cases hz
        | cons c u hwi' =>
          rw [List.zip_cons_cons] at hz
          injection hz with hyx hrest
          injection hyx with hy hx
          subst hy hx
          rw [lexLt_cons] at hR
          simp only [List.length_cons] at hlen
          obtain ⟨e, he, hiff⟩ := eqAt_int A.in1 ⟨hp, g, d, tk, os⟩ a t c u
          refine wpAny_bind (he prog w _ _ ?_)
          cases e with
          | true =>
            rw [if_pos (hiff.mp rfl)] at hR
            wp_walk
            exact ⟨rfl, rfl, _, _, _, _, hrest, hvi', hwi', by omega, hR⟩
          | false =>
            rw [if_neg (fun q => absurd (hiff.mpr q) Bool.false_ne_true)] at hR
            have hri := rcLt_int A.in1 ⟨hp, g, d, tk, os⟩ a t c u prog w
            wp_walk using hri
            exact ⟨_, rfl, by simpa using hR⟩
    case fin =>
      rintro ⟨b1, b2⟩ s' ⟨hb', rfl, vs, ws, ns', ms', hz, hvi, hwi, hlen, hR⟩
      simp only at hb'
      subst hb'
      have hv : lexLt ns' ms' = decide (items.size < items2.size) := by
        cases hvi with
        | nil =>
          cases hwi with
          | nil =>
            simp only [List.length_nil] at hlen
            rw [lexLt_nil_nil]
            exact (decide_eq_false (by omega)).symm
          | cons c u hw =>
            simp only [List.length_nil, List.length_cons] at hlen
            rw [lexLt_nil_cons]
            exact (decide_eq_true (by omega)).symm
        | cons a t hv =>
          cases hwi with
          | nil =>
            simp only [List.length_nil, List.length_cons] at hlen
            rw [lexLt_cons_nil]
            exact (decide_eq_false (by omega)).symm
          | cons c u hw =>
            rw [List.zip_cons_cons] at hz
            cases hz
      rw [hv] at hR
      wp_walk
      exact ⟨_, rfl, by simpa [Builtin.Tuple.tupleCompareSizes] using hR⟩
    case h =>
      exact ⟨rfl, rfl, items.toList, items2.toList, ns, ms, rfl, hi, hj, by omega, h⟩
end

section
variable {prog : Program} {w : World} {A : Around} {E : Value → Shared → Prop} {s : Shared}

theorem lt_tupInts {l b : Addr} {items items2 : Array Value} {ns ms : List Int} {Q : Value → Shared → Prop} (hl : IsTup s.heap l items) (hb : IsTup s.heap b items2) (hi : IntsAre items.toList ns) (hj : IntsAre items2.toList ms)
    (hu : A.units < cLine) (h : Q (.bool (lexLt ns ms)) s) : wpAny (model prog w) A (compareOp .Lt (.ref l) (.ref b)) Q E s := by
  obtain ⟨⟨cls, dd, data, sl⟩, ho, hc, n, hd⟩ := id hl
  obtain ⟨⟨cls2, dd2, data2, sl2⟩, ho2, hc2, n2, hd2⟩ := id hb
  simp only at hc hd hc2 hd2
  subst hc hd hc2 hd2
  exact richCompare_meets_room (op := .Lt) ⟨_, ho, rfl⟩ ⟨_, ho2, rfl⟩ PySem.F.slot_tuple_lt PySem.F.entry_tuple_lt (PySem.F.args_tuple_lt_2 _ _) (tuple_lt_ints l b items items2 n n2 dd dd2 sl sl2 ns ms hi hj)
    ⟨ho, ho2, show Value.bool (lexLt ns ms) ≠ Value.notImplemented ∧ Q (.bool (lexLt ns ms)) s from ⟨(fun x => nomatch x), h⟩⟩ hu

/-- t + u, t not empty -/
theorem cat_tup {t b : Addr} {vs ws : List Value} {Q : Value → Shared → Prop} (ht : IsTup s.heap t vs.toArray) (hb : IsTup s.heap b ws.toArray) (hv : vs ≠ [])
    (h1 : ws = [] → Q (.ref t) s) (h2 : ws ≠ [] → Q (.ref s.heap.objs.size) { s with heap := s.heap.push { cls := .type "tuple", data := .seq (vs ++ ws).toArray } })
    (hsz : vs.length + ws.length ≤ sizeLine) : wpAny (model prog w) A (binaryOp .Add (.ref t) (.ref b)) Q E s := by
  obtain ⟨⟨cls, dd, data, sl⟩, ho, hc, n, hd⟩ := id ht
  obtain ⟨⟨cls2, dd2, data2, sl2⟩, ho2, hc2, n2, hd2⟩ := id hb
  simp only at hc hd hc2 hd2
  subst hc hd hc2 hd2
  have e : vs.toArray ++ ws.toArray = (vs ++ ws).toArray := by simp
  by_cases hw : ws = []
  · exact concat_meets ⟨_, ho, rfl⟩ ⟨_, ho2, rfl⟩ noFill_tuple_add seq_tuple_add PySem.F.slot_tuple_add PySem.F.entry_tuple_add (PySem.F.args_tuple_add_2 _ _)
      (tuple_addW1 t b vs.toArray ws.toArray n n2 dd dd2 sl sl2 (by simpa using hv) (by simp [hw])) ⟨ho, ho2, h1 hw⟩
  · refine concat_meets ⟨_, ho, rfl⟩ ⟨_, ho2, rfl⟩ noFill_tuple_add seq_tuple_add PySem.F.slot_tuple_add PySem.F.entry_tuple_add (PySem.F.args_tuple_add_2 _ _)
      (tuple_addW2 t b vs.toArray ws.toArray n n2 dd dd2 sl sl2 (by simpa using hv) (by simpa using hw) (by rw [List.size_toArray, List.size_toArray]; exact hsz)) ⟨ho, ho2, ?_⟩
    rw [e]
    exact h2 hw

/-! ### t[a:b], not the whole -/
/-- a slice's bound as a place among n (d where it is left out) -/
def sIx (n d : Nat) : Option Int → Nat
  | none => d
  | some v => if v < 0 then (v + (n : Int)).toNat else min v.toNat n
theorem sIx_none (n d : Nat) : sIx n d none = d := rfl
theorem sIx_nat (n d k : Nat) : sIx n d (some (k : Int)) = min k n := by
  show (if (k : Int) < 0 then ((k : Int) + (n : Int)).toNat else min (k : Int).toNat n) = min k n
  rw [if_neg (by omega), Int.toNat_natCast]
theorem sIx_le (n d : Nat) (hd : d ≤ n) (o : Option Int) : sIx n d o ≤ n := by
  cases o with
  | none => exact hd
  | some v =>
    show (if v < 0 then (v + (n : Int)).toNat else min v.toNat n) ≤ n
    by_cases hv : v < 0
    · rw [if_pos hv]; omega
    · rw [if_neg hv]; exact Nat.min_le_right _ _
theorem clip_eq (v : Int) (n d : Nat) : (if v < 0 then max (v + (n : Int)) 0 else min v (n : Int)) = ((sIx n d (some v) : Nat) : Int) := by
  show (if v < 0 then max (v + (n : Int)) 0 else min v (n : Int)) = (((if v < 0 then (v + (n : Int)).toNat else min v.toNat n) : Nat) : Int)
  by_cases hv : v < 0
  · simp only [if_pos hv]; omega
  · simp only [if_neg hv]; omega
theorem adjust_gen (lo hi : Option Int) (n : Nat) : Builtin.Slice.sliceAdjust lo hi 1 (n : Int) = (((sIx n 0 lo : Nat) : Int), ((sIx n n hi : Nat) : Int)) := by
  have h1 : ¬ ((1 : Int) < 0) := by omega
  unfold Builtin.Slice.sliceAdjust
  simp only [h1, if_false]
  refine Prod.ext ?_ ?_
  · cases lo with
    | none => rfl
    | some v => exact clip_eq v n 0
  · cases hi with
    | none => rfl
    | some v => exact clip_eq v n n
theorem places_gen (i j : Nat) : Builtin.Slice.slicePlaces (i : Int) (j : Int) 1 = j - i := by
  unfold Builtin.Slice.slicePlaces
  have h1 : (1 : Int) > 0 := by omega
  simp only [h1, if_true, Int.ediv_one]
  split <;> omega
theorem slicePart_ {v : Value} {o : Option Int} {Q : Option Int → Shared → Prop} (p : IsPart v o) (h : Q o s) : wpAny (model prog w) A (Builtin.Slice.slicePartIndex v) Q E s := by
  cases p with
  | none => exact slicePart_none h
  | int i t => exact slicePart_int h
theorem sliceApplied_gen {sl : Addr} {vl vu : Value} {lo hi : Option Int} {n : Nat} {Q : Int × Int × Nat → Shared → Prop} (hs : s.heap.IsSliceOf sl vl vu .none) (pl : IsPart vl lo) (pu : IsPart vu hi)
    (h : Q (((sIx n 0 lo : Nat) : Int), 1, sIx n n hi - sIx n 0 lo) s) : wpAny (model prog w) A (Builtin.Slice.sliceApplied (.ref sl) (pure (n : Int))) Q E s := by
  obtain ⟨os, hos, hcs, hds⟩ := id hs
  unfold Builtin.Slice.sliceApplied Builtin.Slice.sliceFields
  refine wpAny_bind (wpAny_bind (wpAny_field hos hds (x := vl) rfl (wpAny_bind (wpAny_field hos hds (x := vu) rfl (wpAny_bind (wpAny_field hos hds (x := .none) rfl (wpAny_pure ?_)))))))
  refine wpAny_bind (slicePart_none ?_)
  show wpAny _ _ (if ((1 : Int) == 0) = true then _ else _) _ _ s
  rw [if_neg (by decide)]
  refine wpAny_bind (slicePart_ pl (wpAny_bind (slicePart_ pu (wpAny_bind (wpAny_pure ?_)))))
  show wpAny _ _ (match Builtin.Slice.sliceAdjust lo hi 1 (n : Int) with | (lo, hi) => pure (lo, (1 : Int), Builtin.Slice.slicePlaces lo hi 1)) _ _ s
  rw [adjust_gen lo hi n]
  show wpAny _ _ (pure (((sIx n 0 lo : Nat) : Int), (1 : Int), Builtin.Slice.slicePlaces ((sIx n 0 lo : Nat) : Int) ((sIx n n hi : Nat) : Int) 1)) _ _ s
  rw [places_gen]
  exact wpAny_pure h
theorem pick_gen (xs : Array Value) (i k : Nat) : ((List.range k).filterMap fun (m : Nat) => xs[((i : Int) + (m : Int) * 1).toNat]?).toArray = ((xs.toList.drop i).take k).toArray := by
  have e : (fun (m : Nat) => xs[((i : Int) + (m : Int) * 1).toNat]?) = fun m => xs[i + m]? := by
    funext m
    have : ((i : Int) + (m : Int) * 1).toNat = i + m := by omega
    rw [this]
  rw [e]
  have := pick_run xs i k
  rw [List.filterMap_map] at this
  have e2 : ((fun x => xs[x]?) ∘ fun x => i + x) = fun m => xs[i + m]? := rfl
  rw [e2] at this
  rw [this]

theorem getItem_tuple_cut {t sl : Addr} {items : Array Value} {vl vu : Value} {lo hi : Option Int} {Q : Value → Shared → Prop} (ht : IsTup s.heap t items) (hs : s.heap.IsSliceOf sl vl vu .none) (pl : IsPart vl lo) (pu : IsPart vu hi)
    (hw : ¬ (sIx items.size 0 lo = 0 ∧ sIx items.size items.size hi = items.size))
    (h : Q (.ref s.heap.objs.size) { s with heap := s.heap.push { cls := .type "tuple", data := .seq ((items.toList.drop (sIx items.size 0 lo)).take (sIx items.size items.size hi - sIx items.size 0 lo)).toArray } })
    (hsz : items.size ≤ sizeLine) : wpAny (model prog w) A (getItem (.ref t) (.ref sl)) Q E s := by
  have htake : sizeOk (.seq ((items.toList.drop (sIx items.size 0 lo)).take (sIx items.size items.size hi - sIx items.size 0 lo)).toArray) := by
    show ((items.toList.drop (sIx items.size 0 lo)).take (sIx items.size items.size hi - sIx items.size 0 lo)).toArray.size ≤ sizeLine
    rw [List.size_toArray, List.length_take, List.length_drop, Array.length_toList]
    omega
  have hj : sIx items.size items.size hi ≤ items.size := sIx_le _ _ (Nat.le_refl _) hi
  obtain ⟨os, hos, hcs, hds⟩ := id hs
  have hTs : s.TypeIs (.ref sl) "slice" := ⟨os, hos, hcs⟩
  unfold getItem
  try with_reducible refine wpAny_holding ?_
  first | refine wpAny_bind (wpAny_pure ?_) | skip
  refine wpAny_bind (wpAny_sequenceKey ht.typeIs (by decide) ?_)
  refine wpAny_bind (wpAny_callSpecial?_slot (name := Str.ofString "__getitem__") ht.typeIs PyProof.Rows.slot_tuple_getitem
    (wpAny_call_entry PyProof.Rows.slot_tuple_getitem ht.typeIs entry_tuple_getitem ?_ (args_tuple_getitem _ _)))
  show wpAny _ _ (Builtin.Tuple.tupleItemsOf (.ref t) >>= _) _ _ s
  refine wpAny_bind (tupleItemsOf_ ht ?_)
  refine wpAny_bind (wpAny_typeOf hTs ?_)
  rw [if_pos (by decide)]
  refine wpAny_bind (sliceApplied_gen hs pl pu ?_)
  have hno : ¬ ((((sIx items.size 0 lo : Nat) : Int) == 0 && (1 : Int) == 1 && (sIx items.size items.size hi - sIx items.size 0 lo) == items.size) = true) := by
    intro q
    rw [Bool.and_eq_true, Bool.and_eq_true] at q
    have q1 : ((sIx items.size 0 lo : Nat) : Int) = 0 := eq_of_beq q.1.1
    have q2 : sIx items.size items.size hi - sIx items.size 0 lo = items.size := eq_of_beq q.2
    exact hw ⟨by omega, by omega⟩
  show wpAny _ _ (if (((sIx items.size 0 lo : Nat) : Int) == 0 && (1 : Int) == 1 && (sIx items.size items.size hi - sIx items.size 0 lo) == items.size) = true then _ else _) _ _ s
  rw [if_neg hno, pick_gen]
  first
    | exact wpAny_bind (m := Builtin.Tuple.tupleExact _) (wpAny_newObj_type (wpAny_pure ⟨_, rfl, wpAny_pure h⟩) htake)
    | exact wpAny_bind (m := Builtin.Tuple.tupleExact _) (wpAny_newObj_type (wpAny_bind (wpAny_pure (wpAny_pure ⟨_, rfl, wpAny_pure h⟩))) htake)
    | exact wpAny_bind (wpAny_bind (m := Builtin.Tuple.tupleExact _) (wpAny_newObj_type (wpAny_pure (wpAny_pure ⟨_, rfl, wpAny_pure h⟩)) htake))
    | exact wpAny_bind (wpAny_bind (m := Builtin.Tuple.tupleExact _) (wpAny_newObj_type (wpAny_pure ⟨_, rfl, wpAny_pure h⟩) htake))
end
end HT

namespace L2
open PySem PySem.Spec PyProof.Rows

/-! ### the parts of a slice -/
abbrev TO := St → Hp → (Option Int → Hp → Prop) → Prop
/-- a slice's part (left out, or an int) -/
def PO (X : Cx) (e : Option Expr) (t : TO) : Prop :=
  ∀ (pins : List (Addr × Obj)) (s : Shared) (σ : St) (H : Hp) (Q : Option Int → Hp → Prop), Inv X pins σ H s → t σ H Q →
    wpAny (model X.prog X.w) X.A (evalPart e X.env) (fun u s' => ∃ o H', Inv X pins σ H' s' ∧ IsPart u o ∧ Q o H') X.xe s
def tNoPart : TO := fun _ H Q => Q none H
def tPart (t : TE) : TO := fun σ H Q => t σ H fun x H1 => ∃ i, x = .int i ∧ Q (some i) H1

theorem intsAre_of {ns : List Int} : ∀ {us : List Value}, Vals (ns.map V.int) us → IntsAre us ns := by
  induction ns with
  | nil => intro us r; rw [List.map_nil] at r; cases r; exact .nil
  | cons n ns ih =>
    intro us r
    rw [List.map_cons] at r
    cases r with
    | cons r1 r2 =>
      obtain ⟨t, e⟩ := r1
      subst e
      exact .cons n t (ih r2)

section
variable {X : Cx} {e : Expr} {te : TE} {lo hi : Option Expr} {tl th : TO} {pos p2 : Pos}

theorem po_none : PO X none tNoPart := by
  intro pins s σ H Q I h
  rw [evalPart_none]
  exact wpAny_pure ⟨none, H, I, .none, h⟩
theorem po_some (h : PE X e te) : PO X (some e) (tPart te) := by
  intro pins s σ H Q I hw
  rw [evalPart_some]
  refine thn (h pins s σ H _ I hw) fun u s1 ⟨x, H1, I1, r1, q1⟩ => ?_
  obtain ⟨i, rfl, q⟩ := q1
  obtain ⟨t, rfl⟩ := r1
  exact ⟨some i, H1, I1, .int i t, q⟩

/-- what a slice of a value is, by values: the slice object stands at sl -/
def SlR (X : Cx) (r : V → Option Int → Option Int → Hp → VK → Prop) : Prop :=
  ∀ (pins : List (Addr × Obj)) (s : Shared) (σ : St) (H : Hp) (x : V) (v vl vu : Value) (lo hi : Option Int) (sl : Addr) (Q : VK), Inv X pins σ H s → RelV x v → s.heap.IsSliceOf sl vl vu .none → IsPart vl lo → IsPart vu hi → r x lo hi H Q →
    ∃ T id, typeLookup (.type T) "__getitem__" = pure (some (.builtin id)) ∧ s.TypeIs v T ∧ wpAny (model X.prog X.w) X.A (getItem v (.ref sl)) (EP X pins σ Q) X.xe s
theorem SlR.or {r r' : V → Option Int → Option Int → Hp → VK → Prop} (h : SlR X r) (h' : SlR X r') : SlR X (fun x lo hi H Q => r x lo hi H Q ∨ r' x lo hi H Q) := by
  intro pins s σ H x v vl vu lo hi sl Q I rx hs pl pu q
  rcases q with q | q
  · exact h pins s σ H x v vl vu lo hi sl Q I rx hs pl pu q
  · exact h' pins s σ H x v vl vu lo hi sl Q I rx hs pl pu q
def tSl (r : V → Option Int → Option Int → Hp → VK → Prop) (te : TE) (tl th : TO) : TE := fun σ H Q => te σ H fun x H1 => tl σ H1 fun l H2 => th σ H2 fun u H3 => r x l u H3 Q
/-- a[lo:hi], any a -/
theorem pe_slice {r : V → Option Int → Option Int → Hp → VK → Prop} (hr : SlR X r) (he : PE X e te) (hl : PO X lo tl) (hu : PO X hi th) : PE X (.Subscript e (.Slice lo hi none p2) pos) (tSl r te tl th) := by
  intro pins s σ H Q I h
  refine Subscript_ (thn (he pins s σ H _ I h) fun v s1 ⟨x, H1, I1, r1, q1⟩ => ?_)
  refine wpAny_Slice (thn (hl pins s1 σ H1 _ I1 q1) fun vl s2 ⟨l, H2, I2, pl, q2⟩ => thn (hu pins s2 σ H2 _ I2 q2) fun vu s3 ⟨u, H3, I3, pu, q3⟩ => ?_)
  rw [evalPart_none]
  refine wpAny_pure ?_
  have I4 : Inv X pins σ H3 { s3 with heap := s3.heap.push { cls := .type "slice", data := .fields #[vl, vu, .none] } } := I3.kept (t' := s3.toks) fun b ob q => Heap.get?_push_of_some _ q
  obtain ⟨T, id, hT, ht, hg⟩ := hr pins { s3 with heap := s3.heap.push { cls := .type "slice", data := .fields #[vl, vu, .none] } } σ H3 x v vl vu l u s3.heap.objs.size Q I4 r1 (Heap.IsSliceOf.new ..) pl pu q3
  show wpAny (model X.prog X.w) X.A (subscriptTail e (.Slice lo hi none p2) v (.ref s3.heap.objs.size)) (EP X pins σ Q) X.xe { s3 with heap := s3.heap.push { cls := .type "slice", data := .fields #[vl, vu, .none] } }
  exact tail_any (ops := [.ref s3.heap.objs.size, v]) ht hT hg (by with_unfolding_all rfl)

/-- the items of xs[lo:hi] -/
def cutV (xs : List V) (lo hi : Option Int) : List V := (xs.drop (HT.sIx xs.length 0 lo)).take (HT.sIx xs.length xs.length hi - HT.sIx xs.length 0 lo)
theorem cutV_length (xs : List V) (lo hi : Option Int) : (cutV xs lo hi).length ≤ xs.length := by
  unfold cutV
  rw [List.length_take, List.length_drop]
  omega
/-- t[lo:hi], not the whole of it (the whole would be t itself) -/
def rSlT (K : PySem.W.Frag) : V → Option Int → Option Int → Hp → VK → Prop := fun x lo hi H Q => ∃ a xs, x = .ref a ∧ SqT K H a xs ∧
  ¬ (HT.sIx xs.length 0 lo = 0 ∧ HT.sIx xs.length xs.length hi = xs.length) ∧ ∀ p, H p = none → Q (.ref p) (upd H p (.tup (cutV xs lo hi)))
theorem sl_tup : SlR X (rSlT X.K) := by
  intro pins s σ H x v vl vu lo hi sl Q I rx hs pl pu h
  obtain ⟨a, xs, rfl, hx, hw, q⟩ := h
  cases rx
  obtain ⟨its, r, ht, hz⟩ := I.tuple hx
  have hlen : its.toArray.size = xs.length := by rw [List.size_toArray]; exact r.length.symm
  refine ⟨"tuple", _, PyProof.Rows.slot_tuple_getitem.lookup, ht.typeIs, ?_⟩
  refine HT.getItem_tuple_cut ht hs pl pu (by rw [hlen]; exact hw) ?_ (by rw [hlen]; exact hz)
  rw [hlen]
  refine ⟨.ref s.heap.objs.size, _, I.laid (t' := s.toks) (o := .tup (cutV xs lo hi)) (fun b ob q => Heap.get?_push_of_some _ q) (Nat.le_refl _) ?_, rfl, q _ (I.hok.fresh (Nat.le_refl _))⟩
  exact ⟨Nat.le_trans (cutV_length xs lo hi) hz, _, (r.drop (HT.sIx xs.length 0 lo)).take (HT.sIx xs.length xs.length hi - HT.sIx xs.length 0 lo), IsTup.new _ _⟩

/-! ### t < u, t + u -/
def rLtT (K : PySem.W.Frag) : R2 := fun x y H Q => ∃ a b ns ms, x = .ref a ∧ y = .ref b ∧ SqT K H a (ns.map V.int) ∧ SqT K H b (ms.map V.int) ∧ Q (.bl (HT.lexLt ns ms)) H
theorem op_ltT (hu : X.A.units < cLine) : OpR X (compareOp .Lt) (rLtT X.K) := by
  intro pins s σ H x y v u Q I rx ry h
  obtain ⟨a, b, ns, ms, rfl, rfl, ha, hb, q⟩ := h
  cases rx
  cases ry
  obtain ⟨its, r1, p1, _⟩ := I.tuple ha
  obtain ⟨its2, r2, p2, _⟩ := I.tuple hb
  have i1 : IntsAre its.toArray.toList ns := intsAre_of r1
  have i2 : IntsAre its2.toArray.toList ms := intsAre_of r2
  exact HT.lt_tupInts p1 p2 i1 i2 hu ⟨.bl (HT.lexLt ns ms), H, I, rfl, q⟩
/-- t + u, t not empty: u empty gives t itself -/
def rCatT (K : PySem.W.Frag) : R2 := fun x y H Q => ∃ a b xs ys, x = .ref a ∧ y = .ref b ∧ SqT K H a xs ∧ SqT K H b ys ∧ xs ≠ [] ∧ xs.length + ys.length ≤ sizeLine ∧
  (ys = [] → Q (.ref a) H) ∧ (ys ≠ [] → ∀ p, H p = none → Q (.ref p) (upd H p (.tup (xs ++ ys))))
theorem Vals.nil_iff {xs : List V} {us : List Value} (r : Vals xs us) : us = [] ↔ xs = [] := by
  cases r with
  | nil => simp
  | cons _ _ => simp
theorem op_catT : OpR X (binaryOp .Add) (rCatT X.K) := by
  intro pins s σ H x y v u Q I rx ry h
  obtain ⟨a, b, xs, ys, rfl, rfl, ha, hb, hx, hz, q1, q2⟩ := h
  cases rx
  cases ry
  obtain ⟨its, r1, p1, _⟩ := I.tuple ha
  obtain ⟨its2, r2, p2, _⟩ := I.tuple hb
  refine HT.cat_tup p1 p2 (fun z => hx (r1.nil_iff.mp z)) (fun z => ⟨.ref a, H, I, rfl, q1 (r2.nil_iff.mp z)⟩) (fun z => ?_) (by rw [← r1.length, ← r2.length]; exact hz)
  refine ⟨.ref s.heap.objs.size, _, I.laid (t' := s.toks) (o := .tup (xs ++ ys)) (fun b ob q => Heap.get?_push_of_some _ q) (Nat.le_refl _) ?_, rfl, q2 (fun w => z (r2.nil_iff.mpr w)) _ (I.hok.fresh (Nat.le_refl _))⟩
  exact ⟨by rw [List.length_append]; exact hz, _, r1.append r2, IsTup.new _ _⟩
/-- tuple(t) -/
theorem call_tupleT : CallR X (.type "tuple") (fun xs H Q => ∃ a ys, xs = [.ref a] ∧ SqT X.K H a ys ∧ Q (.ref a) H) := by
  intro pins s σ H xs us Q I r h
  obtain ⟨a, ys, rfl, ha, q⟩ := h
  obtain ⟨u, rfl, ru⟩ := vals1 r
  cases ru
  obtain ⟨its, _, p1, _⟩ := I.tuple ha
  exact call_tuple_same (items := its.toArray) p1 ⟨.ref a, H, I, rfl, q⟩
end
end L2

namespace L2
open PySem PySem.Spec PyProof.Rows

/-! ### places -/
/-- the place that an index of any sign means -/
def ixN (n : Nat) (i : Int) : Option Nat := if 0 ≤ i then (if i < n then some i.toNat else none) else if -(n : Int) ≤ i then some (i + n).toNat else none
def atI {α : Type} (xs : List α) (i : Int) : Option α := (ixN xs.length i).bind fun j => xs[j]?
theorem ixN_seq {n : Nat} {i : Int} {j : Nat} (h : ixN n i = some j) : seqIndex? i n = some j ∧ j < n ∧ -(n : Int) ≤ i ∧ i < n := by
  unfold ixN at h
  by_cases h0 : 0 ≤ i
  · rw [if_pos h0] at h
    by_cases h1 : i < n
    · rw [if_pos h1] at h
      have e : i.toNat = j := Option.some.inj h
      exact ⟨by rw [seqIndex_of h0 h1, e], by omega, by omega, h1⟩
    · rw [if_neg h1] at h; cases h
  · rw [if_neg h0] at h
    by_cases h1 : -(n : Int) ≤ i
    · rw [if_pos h1] at h
      have e : (i + n).toNat = j := Option.some.inj h
      exact ⟨by rw [seqIndex_neg (by omega) h1, e], by omega, h1, by omega⟩
    · rw [if_neg h1] at h; cases h
theorem atI_get {α : Type} {xs : List α} {i : Int} {v : α} (h : atI xs i = some v) : ∃ j, seqIndex? i xs.length = some j ∧ xs[j]? = some v ∧ j < xs.length ∧ -(xs.length : Int) ≤ i ∧ i < xs.length := by
  unfold atI at h
  cases e : ixN xs.length i with
  | none => rw [e] at h; cases h
  | some j =>
    rw [e] at h
    obtain ⟨h1, h2, h3, h4⟩ := ixN_seq e
    exact ⟨j, h1, h, h2, h3, h4⟩
theorem atI_nat {α : Type} {xs : List α} {j : Nat} {v : α} (h : xs[j]? = some v) : atI xs (j : Int) = some v := by
  have hj : j < xs.length := (List.getElem?_eq_some_iff.mp h).1
  have e : ixN xs.length (j : Int) = some j := by
    unfold ixN
    rw [if_pos (by omega), if_pos (by omega)]; simp
  unfold atI; rw [e]; exact h
theorem atI_last {α : Type} (xs : List α) (v : α) : atI (xs ++ [v]) (-1) = some v := by
  have hl : (xs ++ [v]).length = xs.length + 1 := by simp
  have e : ixN (xs ++ [v]).length (-1) = some xs.length := by
    unfold ixN
    rw [hl, if_neg (by decide), if_pos (by omega)]
    congr 1
    omega
  unfold atI
  rw [e]
  show (xs ++ [v])[xs.length]? = some v
  simp

/-! ### what may be subscripted -/
/-- what stands as an index of a plain subscript -/
def PlainIx (b : Expr) : Prop := ∀ o i, subscripted b false o i = operate [o, i] (getItem o i)
/-- a subscript by values -/
def IxR (X : Cx) (r : R2) : Prop :=
  ∀ (value slice : Expr) (pins : List (Addr × Obj)) (s : Shared) (σ : St) (H : Hp) (x y : V) (v u : Value) (Q : VK), Inv X pins σ H s → RelV x v → RelV y u → r x y H Q →
    subscripted slice false v u = operate [v, u] (getItem v u) → wpAny (model X.prog X.w) X.A (subscriptTail value slice v u) (EP X pins σ Q) X.xe s
/-- a call of a builtin's method by values: the receiver, the arguments -/
def MtR (X : Cx) (id : String) (r : V → List V → Hp → VK → Prop) : Prop :=
  ∀ (pins : List (Addr × Obj)) (s : Shared) (σ : St) (H : Hp) (x : V) (xs : List V) (v : Value) (us : List Value) (Q : VK), Inv X pins σ H s → RelV x v → Vals xs us → r x xs H Q →
    wpAny (model X.prog X.w) X.A (call (.builtin id) (v :: us)) (EP X pins σ Q) X.xe s
section
variable {X : Cx} {a b : Expr} {ta tb : TE} {pos : Pos}
theorem IxR.or {r r' : R2} (h : IxR X r) (h' : IxR X r') : IxR X (fun x y H Q => r x y H Q ∨ r' x y H Q) := by
  intro value slice pins s σ H x y v u Q I rx ry q hs
  rcases q with q | q
  · exact h value slice pins s σ H x y v u Q I rx ry q hs
  · exact h' value slice pins s σ H x y v u Q I rx ry q hs
theorem MtR.or {id : String} {r r' : V → List V → Hp → VK → Prop} (h : MtR X id r) (h' : MtR X id r') : MtR X id (fun x xs H Q => r x xs H Q ∨ r' x xs H Q) := by
  intro pins s σ H x xs v us Q I rx rs q
  rcases q with q | q
  · exact h pins s σ H x xs v us Q I rx rs q
  · exact h' pins s σ H x xs v us Q I rx rs q
/-- a[b] -/
theorem pe_ix {r : R2} (hr : IxR X r) (ha : PE X a ta) (hb : PE X b tb) (hs : PlainIx b) : PE X (.Subscript a b pos) (tOp r ta tb) := by
  intro pins s σ H Q I h
  exact Subscript_ (binT ha hb I h fun v u s2 x y H2 I2 rx ry q => hr a b pins s2 σ H2 x y v u Q I2 rx ry q (hs _ _))

def rIxL (K : PySem.W.Frag) : R2 := fun x y H Q => ∃ p xs i v, x = .ref p ∧ y = .int i ∧ SqL K H p xs ∧ atI xs i = some v ∧ Q v H
def rIxT (K : PySem.W.Frag) : R2 := fun x y H Q => ∃ p xs i v, x = .ref p ∧ y = .int i ∧ SqT K H p xs ∧ atI xs i = some v ∧ Q v H
def rIxS : R2 := fun x y H Q => ∃ z i c, x = .str z ∧ y = .int i ∧ z.length ≤ sizeLine ∧ atI z.cps.toList i = some c ∧ Q (.str ⟨#[c]⟩) H
theorem ix_list : IxR X (rIxL X.K) := by
  intro value slice pins s σ H x y v u Q I rx ry h hs
  obtain ⟨p, xs, i, z, rfl, rfl, hq, he, q⟩ := h
  cases rx
  obtain ⟨t, rfl⟩ := ry
  obtain ⟨its, r, pl, hz⟩ := I.list hq
  obtain ⟨j, h1, h2, h3, h4, h5⟩ := atI_get he
  obtain ⟨w, ew, rw'⟩ := r.get h2
  have hl := r.length
  have hn := line63
  have fin : EP X pins σ Q w s := ⟨z, H, I, rw', q⟩
  by_cases h0 : 0 ≤ i
  · have hj : i.toNat = j := by
      rw [seqIndex_of h0 h5] at h1
      exact Option.some.inj h1
    exact item_listR pl.isList h0 (by omega) (by rw [hj]; simpa using ew) fin hs
  · have hj : (i + (its.toArray.size : Int)).toNat = j := by
      rw [seqIndex_neg (by omega) h4] at h1
      rw [List.size_toArray, ← hl]
      exact Option.some.inj h1
    exact subscriptTail_builtinR (x := w) pl.isList.typeIs slot_list_getitem.lookup
      (wpAny_getItem_list_neg (Q := fun r s' => r = w ∧ EP X pins σ Q r s') pl.isList (by omega) (by rw [List.size_toArray] <;> omega) (by omega) (by rw [hj]; simpa using ew) ⟨rfl, fin⟩) hs
theorem ix_tup : IxR X (rIxT X.K) := by
  intro value slice pins s σ H x y v u Q I rx ry h hs
  obtain ⟨p, xs, i, z, rfl, rfl, hq, he, q⟩ := h
  cases rx
  obtain ⟨t, rfl⟩ := ry
  obtain ⟨its, r, pl, hz⟩ := I.tuple hq
  obtain ⟨j, h1, h2, h3, h4, h5⟩ := atI_get he
  obtain ⟨w, ew, rw'⟩ := r.get h2
  have hl := r.length
  have hn := line63
  have fin : EP X pins σ Q w s := ⟨z, H, I, rw', q⟩
  exact subscriptTail_builtinR (x := w) pl.typeIs slot_tuple_getitem.lookup
    (getItem_tuple (j := j) (Q := fun r s' => r = w ∧ EP X pins σ Q r s') pl (by omega) (by omega) (by rw [List.size_toArray, ← hl]; exact h1) (by simpa using ew) ⟨rfl, fin⟩) hs
theorem ix_str : IxR X rIxS := by
  intro value slice pins s σ H x y v u Q I rx ry h hs
  obtain ⟨z, i, c, rfl, rfl, hz, he, q⟩ := h
  obtain ⟨t, rfl⟩ := rx
  obtain ⟨t', rfl⟩ := ry
  obtain ⟨j, h1, h2, h3, h4, h5⟩ := atI_get he
  have hl : z.cps.toList.length = z.length := by simp [Str.length]
  rw [hl] at h1 h4 h5
  have hn := line63
  exact tail_any (typeIs_str s z t) slot_str_getitem.lookup (getItem_str (c := c) (by
    have e1 : decide (i < -(2 ^ 63 : Int)) = false := decide_eq_false (by omega)
    have e2 : decide (i ≥ 2 ^ 63) = false := decide_eq_false (by omega)
    rw [e1, e2, Bool.or_false]) (by rw [h1]; simpa using h2) ⟨.str ⟨#[c]⟩, H, I.tok _, ⟨_, rfl⟩, q⟩) hs
/-- list, tuple or str -/
def rIx (K : PySem.W.Frag) : R2 := fun x y H Q => rIxL K x y H Q ∨ rIxT K x y H Q ∨ rIxS x y H Q
theorem ix_seq : IxR X (rIx X.K) := ix_list.or (ix_tup.or ix_str)

/-! ### xs[i] = v, any sign -/
/-- the list's object behind a store -/
theorem mapSeq_set (its : List Value) (n j : Nat) (u : Value) : Obj.mapSeq (·.setIfInBounds j u) { cls := .type "list", data := .seq its.toArray n } = { cls := .type "list", data := .seq (its.set j u).toArray n } := by
  simp [Obj.mapSeq]
theorem Inv.lst {pins : List (Addr × Obj)} {σ : St} {H : Hp} {s : Shared} {p : Addr} {xs : List V} (I : Inv X pins σ H s) (h : H p = some (.lst xs)) :
    ∃ (its : List Value) (n : Nat), Vals xs its ∧ s.heap.get? p = some { cls := .type "list", data := .seq its.toArray n } ∧ xs.length ≤ sizeLine := by
  obtain ⟨z, its, n, r, e⟩ := I.hok p _ h
  exact ⟨its, n, r, e, z⟩
/-- the list at p is written by an update of its object -/
theorem Inv.lstUpd {pins : List (Addr × Obj)} {σ : St} {H : Hp} {s : Shared} {p : Addr} {xs ys : List V} {its its' : List Value} {n n' : Nat} {f : Obj → Obj} (I : Inv X pins σ H s) (h : H p = some (.lst xs))
    (ho : s.heap.get? p = some { cls := .type "list", data := .seq its.toArray n }) (hf : f { cls := .type "list", data := .seq its.toArray n } = { cls := .type "list", data := .seq its'.toArray n' }) (r : Vals ys its') (hz : ys.length ≤ sizeLine) (t : Nat) :
    Inv X pins σ (upd H p (.lst ys)) { s with heap := s.heap.update p f, toks := t } := by
  have e : (s.heap.update p f).get? p = some { cls := .type "list", data := .seq its'.toArray n' } := by
    rw [Heap.get?_update_self f ho (by rw [hf] <;> rfl), hf]
  refine I.write (x := p) (e := p) (by rw [h]; trivial) (.inl rfl) (fun b u hb q => (Heap.get?_update_other _ _ (Ne.symm hb)).trans q) ⟨_, e⟩ ?_
  exact ⟨hz, its', n', r, e⟩
def rSetL : V → V → V → Hp → (Hp → Prop) → Prop := fun o i v H Q => ∃ p xs k j, o = .ref p ∧ i = .int k ∧ H p = some (.lst xs) ∧ ixN xs.length k = some j ∧ Q (upd H p (.lst (xs.set j v)))
theorem set_list : PSet X rSetL := by
  intro pins s σ H o i v ov iv u Q I ro ri rv h
  obtain ⟨p, xs, k, j, rfl, rfl, hp, hj, q⟩ := h
  cases ro
  obtain ⟨t, rfl⟩ := ri
  obtain ⟨its, n, r, ho, hz⟩ := I.lst hp
  obtain ⟨h1, h2, h3, h4⟩ := ixN_seq hj
  have hl := r.length
  have hn := line63
  have I' : Inv X pins σ (upd H p (.lst (xs.set j v))) { s with heap := s.heap.update p (Obj.mapSeq (·.setIfInBounds j u)) } :=
    I.lstUpd hp ho (mapSeq_set its n j u) (r.set rv j) (by rw [List.length_set]; exact hz) s.toks
  by_cases h0 : 0 ≤ k
  · have hk : k.toNat = j := by
      rw [seqIndex_of h0 h4] at h1
      exact Option.some.inj h1
    exact PySem.W.ki_setAt ho h0 (by omega) (by rw [List.size_toArray, ← hl]; exact h4) (by rw [hk]; exact ⟨_, I', q⟩)
  · have hk : (k + (its.toArray.size : Int)).toNat = j := by
      rw [seqIndex_neg (by omega) h3] at h1
      rw [List.size_toArray, ← hl]
      exact Option.some.inj h1
    exact PySem.W.ki_setBack ho (by omega) (by rw [List.size_toArray, ← hl]; exact h3) (by omega) (by rw [hk]; exact ⟨_, I', q⟩)

/-! ### slices -/
theorem slice_bounds (lo hi : Option Int) (n : Nat) : (sliceBounds lo hi none n).1 = ((HT.sIx n 0 lo : Nat) : Int) ∧ (sliceBounds lo hi none n).2.1 = ((HT.sIx n n hi : Nat) : Int) ∧ (sliceBounds lo hi none n).2.2 = 1 := by
  refine ⟨?_, ?_, rfl⟩
  · cases lo with
    | none => simp [sliceBounds, HT.sIx]
    | some i =>
      simp only [sliceBounds, HT.sIx, Option.getD_none, show (1 : Int) > 0 by decide, if_true]
      by_cases h : i < 0
      · simp only [h, if_true] <;> omega
      · simp only [h, if_false] <;> omega
  · cases hi with
    | none => simp [sliceBounds, HT.sIx]
    | some i =>
      simp only [sliceBounds, HT.sIx, Option.getD_none, show (1 : Int) > 0 by decide, if_true]
      by_cases h : i < 0
      · simp only [h, if_true] <;> omega
      · simp only [h, if_false] <;> omega
theorem slicePick_cut (its : List Value) (lo hi : Option Int) : slicePick its.toArray lo hi none = ((its.drop (HT.sIx its.length 0 lo)).take (HT.sIx its.length its.length hi - HT.sIx its.length 0 lo)).toArray := by
  obtain ⟨h1, h2, h3⟩ := slice_bounds lo hi its.toArray.size
  unfold slicePick
  rw [h1, h2, h3]
  simp only [sliceRange_one, pick_run, List.size_toArray] <;> rfl
/-- xs[lo:hi] of a list: a new list -/
def rSlL (K : PySem.W.Frag) : V → Option Int → Option Int → Hp → VK → Prop := fun x lo hi H Q => ∃ a xs, x = .ref a ∧ SqL K H a xs ∧ ∀ p, H p = none → Q (.ref p) (upd H p (.lst (cutV xs lo hi)))
theorem sl_list : SlR X (rSlL X.K) := by
  intro pins s σ H x v vl vu lo hi sl Q I rx hs pl pu h
  obtain ⟨a, xs, rfl, hx, q⟩ := h
  cases rx
  obtain ⟨its, r, ht, hz⟩ := I.list hx
  have hlen := r.length
  refine ⟨"list", _, slot_list_getitem.lookup, ht.isList.typeIs, ?_⟩
  refine wpAny_getItem_list_slice ht.isList hs pl pu .none (by simp) ?_ (by rw [List.size_toArray] <;> omega)
  rw [slicePick_cut, ← hlen]
  refine ⟨.ref s.heap.objs.size, _, I.laid (t' := s.toks) (o := .lst (cutV xs lo hi)) (fun b ob q => Heap.get?_push_of_some _ q) (Nat.le_refl _) ?_, rfl, q _ (I.hok.fresh (Nat.le_refl _))⟩
  exact ⟨Nat.le_trans (cutV_length xs lo hi) hz, _, 0, (r.drop (HT.sIx xs.length 0 lo)).take (HT.sIx xs.length xs.length hi - HT.sIx xs.length 0 lo), Heap.get?_push_size _ rfl⟩

/-! ### in, not in: flat items -/
def flatV : V → Bool
  | .non => true
  | .bl _ => true
  | .int _ => true
  | .str _ => true
  | _ => false
/-- == of flat values -/
def eqV : V → V → Bool
  | .non, .non => true
  | .bl a, .bl b => a == b
  | .bl a, .int b => (if a then 1 else 0) == b
  | .int a, .bl b => a == (if b then 1 else 0)
  | .int a, .int b => a == b
  | .str a, .str b => a == b
  | _, _ => false
theorem eqAt_V {A : Around} {s : Shared} {y x : V} {u v : Value} (ry : RelV y u) (rx : RelV x v) (fy : flatV y = true) (fx : flatV x = true) : SeqAt.EqAt A s u v (eqV y x) := by
  cases y with
  | non =>
    cases ry
    cases x with
    | non => cases rx; exact SeqAt.EqAt.same _
    | bl b => cases rx; exact SeqAt.EqAt.none_bool b
    | int b => obtain ⟨t, rfl⟩ := rx; exact SeqAt.EqAt.none_int b t
    | str b => obtain ⟨t, rfl⟩ := rx; exact SeqAt.EqAt.none_str b t
    | _ => exact absurd (show false = true from fx) Bool.false_ne_true
  | bl a =>
    cases ry
    cases x with
    | non => cases rx; exact SeqAt.EqAt.bool_none a
    | bl b => cases rx; exact SeqAt.EqAt.bool_bool a b
    | int b => obtain ⟨t, rfl⟩ := rx; exact SeqAt.EqAt.bool_int a b t
    | str b => obtain ⟨t, rfl⟩ := rx; exact SeqAt.EqAt.bool_str a b t
    | _ => exact absurd (show false = true from fx) Bool.false_ne_true
  | int a =>
    obtain ⟨t', rfl⟩ := ry
    cases x with
    | non => cases rx; exact SeqAt.EqAt.int_none a t'
    | bl b => cases rx; exact SeqAt.EqAt.int_bool a t' b
    | int b => obtain ⟨t, rfl⟩ := rx; exact SeqAt.EqAt.int_int a t' b t
    | str b => obtain ⟨t, rfl⟩ := rx; exact SeqAt.EqAt.int_str a t' b t
    | _ => exact absurd (show false = true from fx) Bool.false_ne_true
  | str a =>
    obtain ⟨t', rfl⟩ := ry
    cases x with
    | non => cases rx; exact SeqAt.EqAt.str_none a t'
    | bl b => cases rx; exact SeqAt.EqAt.str_bool a t' b
    | int b => obtain ⟨t, rfl⟩ := rx; exact SeqAt.EqAt.str_int a t' b t
    | str b => obtain ⟨t, rfl⟩ := rx; exact SeqAt.EqAt.str_str a t' b t
    | _ => exact absurd (show false = true from fx) Bool.false_ne_true
  | _ => exact absurd (show false = true from fy) Bool.false_ne_true
/-- the items' answers, read off the values (a value's own answer does not lean on its token) -/
def eqU (x : V) (u : Value) : Bool := match u with
  | .none => eqV .non x
  | .bool b => eqV (.bl b) x
  | .int i _ => eqV (.int i) x
  | .str z _ => eqV (.str z) x
  | _ => false
theorem eqU_of {x y : V} {u : Value} (r : RelV y u) (f : flatV y = true) : eqU x u = eqV y x := by
  cases y with
  | non => cases r; rfl
  | bl b => cases r; rfl
  | int i => obtain ⟨t, rfl⟩ := r; rfl
  | str z => obtain ⟨t, rfl⟩ := r; rfl
  | _ => exact absurd (show false = true from f) Bool.false_ne_true
theorem any_eqU {x : V} : ∀ {xs : List V} {us : List Value}, Vals xs us → xs.all flatV = true → us.any (eqU x) = xs.any fun y => eqV y x
  | _, _, .nil, _ => rfl
  | y :: xs, u :: us, .cons r t, f => by
    rw [List.all_cons, Bool.and_eq_true] at f
    rw [List.any_cons, List.any_cons, eqU_of r f.1, any_eqU t f.2]
theorem mem_eqAt {A : Around} {s : Shared} {x : V} {v : Value} (rx : RelV x v) (fx : flatV x = true) : ∀ {xs : List V} {us : List Value}, Vals xs us → xs.all flatV = true → ∀ u ∈ us, SeqAt.EqAt A s u v (eqU x u)
  | _, _, .nil, _ => fun u hu => by cases hu
  | y :: xs, u :: us, .cons r t, f => fun u' hu => by
    rw [List.all_cons, Bool.and_eq_true] at f
    rcases List.mem_cons.mp hu with rfl | hu
    · rw [eqU_of r f.1]; exact eqAt_V r rx f.1 fx
    · exact mem_eqAt rx fx t f.2 u' hu
def inV (x : V) (xs : List V) : Bool := xs.any fun y => eqV y x
/-- x in a list or tuple of flat items -/
def rIn (K : PySem.W.Frag) (neg : Bool) : R2 := fun x y H Q => ∃ p xs, y = .ref p ∧ (SqL K H p xs ∨ SqT K H p xs) ∧ flatV x = true ∧ xs.all flatV = true ∧ Q (.bl (if neg then !inV x xs else inV x xs)) H
theorem op_in_seq : OpR X (compareOp .In) (rIn X.K false) := by
  intro pins s σ H x y v u Q I rx ry h
  obtain ⟨p, xs, rfl, hq, fx, fs, q⟩ := h
  cases ry
  rcases hq with hq | hq
  · obtain ⟨its, r, pl, hz⟩ := I.list hq
    refine SeqAt.in_listAt (eqU x) pl.isList (fun w hw => mem_eqAt rx fx r fs w (by simpa using hw)) ⟨.bl _, H, I, rfl, ?_⟩
    rw [show its.toArray.any (eqU x) = its.any (eqU x) by simp, any_eqU r fs]
    exact q
  · obtain ⟨its, r, pl, hz⟩ := I.tuple hq
    refine SeqAt.in_tupleAt (eqU x) pl (fun w hw => mem_eqAt rx fx r fs w (by simpa using hw)) ⟨.bl _, H, I, rfl, ?_⟩
    rw [show its.toArray.any (eqU x) = its.any (eqU x) by simp, any_eqU r fs]
    exact q
theorem op_notIn_seq : OpR X (compareOp .NotIn) (rIn X.K true) := by
  intro pins s σ H x y v u Q I rx ry h
  obtain ⟨p, xs, rfl, hq, fx, fs, q⟩ := h
  cases ry
  rcases hq with hq | hq
  · obtain ⟨its, r, pl, hz⟩ := I.list hq
    refine SeqAt.notIn_listAt (eqU x) pl.isList (fun w hw => mem_eqAt rx fx r fs w (by simpa using hw)) ⟨.bl _, H, I, rfl, ?_⟩
    rw [show its.toArray.any (eqU x) = its.any (eqU x) by simp, any_eqU r fs]
    exact q
  · obtain ⟨its, r, pl, hz⟩ := I.tuple hq
    refine SeqAt.notIn_tupleAt (eqU x) pl (fun w hw => mem_eqAt rx fx r fs w (by simpa using hw)) ⟨.bl _, H, I, rfl, ?_⟩
    rw [show its.toArray.any (eqU x) = its.any (eqU x) by simp, any_eqU r fs]
    exact q
theorem op_notIn_str : OpR X (compareOp .NotIn) (fun x y H Q => ∃ i j, x = .str i ∧ y = .str j ∧ Q (.bl (!(!(Builtin.Str.occurrences j i 0 j.length 1).isEmpty))) H) := by
  intro pins s σ H x y v u Q I rx ry h
  obtain ⟨i, j, rfl, rfl, q⟩ := h
  obtain ⟨t, rfl⟩ := rx
  obtain ⟨t', rfl⟩ := ry
  exact notIn_str ⟨.bl _, H, I, rfl, q⟩

/-! ### len, list(x), tuple(x) of any list or tuple that is read -/
theorem call_len_seq : CallR X (.builtin "len") (fun xs H Q => ∃ p ys, xs = [.ref p] ∧ (SqL X.K H p ys ∨ SqT X.K H p ys) ∧ Q (.int ys.length) H) := by
  intro pins s σ H xs us Q I r h
  obtain ⟨p, ys, rfl, hq, q⟩ := h
  obtain ⟨u, rfl, rx⟩ := vals1 r
  cases rx
  have hn := line63
  rcases hq with hq | hq
  · obtain ⟨its, r', pl, hz⟩ := I.list hq
    have hlen := r'.length
    exact Calls.call_len_list pl.isList (by simp only [List.size_toArray] <;> omega) ⟨.int ys.length, H, I.tok _, ⟨s.toks + 1, by rw [List.size_toArray, hlen]⟩, q⟩
  · obtain ⟨its, r', pl, hz⟩ := I.tuple hq
    have hlen := r'.length
    exact len_tuple pl (by simp only [List.size_toArray] <;> omega) ⟨.int ys.length, H, I.tok _, ⟨s.toks + 1, by rw [List.size_toArray, hlen]⟩, q⟩
theorem call_len_str : CallR X (.builtin "len") (fun xs H Q => ∃ z, xs = [.str z] ∧ z.length ≤ sizeLine ∧ Q (.int z.length) H) := by
  intro pins s σ H xs us Q I r h
  obtain ⟨z, rfl, hz, q⟩ := h
  obtain ⟨u, rfl, t, rfl⟩ := vals1 r
  have hn := line63
  exact len_str (by omega) ⟨.int z.length, H, I.tok _, ⟨_, rfl⟩, q⟩
theorem CallR.or {f : Value} {r r' : List V → Hp → VK → Prop} (h : CallR X f r) (h' : CallR X f r') : CallR X f (fun xs H Q => r xs H Q ∨ r' xs H Q) := by
  intro pins s σ H xs us Q I rs q
  rcases q with q | q
  · exact h pins s σ H xs us Q I rs q
  · exact h' pins s σ H xs us Q I rs q
theorem call_list_of : CallR X (.type "list") (fun xs H Q => ∃ p ys, xs = [.ref p] ∧ (SqL X.K H p ys ∨ SqT X.K H p ys) ∧ ∀ l, H l = none → Q (.ref l) (upd H l (.lst ys))) := by
  intro pins s σ H xs us Q I r h
  obtain ⟨p, ys, rfl, hq, q⟩ := h
  obtain ⟨u, rfl, rx⟩ := vals1 r
  cases rx
  have fin : ∀ (its : List Value), Vals ys its → ys.length ≤ sizeLine → ∀ (h' : Heap) (c' : Nat), (∀ b o', s.heap.get? b = some o' → h'.get? b = some o') →
      h'.get? s.heap.objs.size = some { cls := .type "list", dict := none, data := .seq its.toArray c', slots := #[] } → EP X pins σ Q (.ref s.heap.objs.size) { s with heap := h' } := fun its r' hz h' c' kp e =>
    ⟨.ref s.heap.objs.size, _, I.laid (t' := s.toks) kp (Nat.le_refl _) (show ObjOk X.prog X.w _ h' _ (.lst ys) from ⟨hz, its, c', r', e⟩), rfl, q _ (I.hok.fresh (Nat.le_refl _))⟩
  rcases hq with hq | hq
  · obtain ⟨its, r', pl, hz⟩ := I.list hq
    have hlen := r'.length
    obtain ⟨o, ho, hc, n, hd⟩ := pl.isList
    exact call_list_seq p (.inl rfl) ho hc hd (fun h' c' kp e => fin its r' hz h' c' kp e) (by simp only [List.size_toArray] <;> omega)
  · obtain ⟨its, r', pl, hz⟩ := I.tuple hq
    have hlen := r'.length
    obtain ⟨o, ho, hc, n, hd⟩ := pl
    exact call_list_seq p (.inr rfl) ho hc hd (fun h' c' kp e => fin its r' hz h' c' kp e) (by simp only [List.size_toArray] <;> omega)
theorem call_tuple_of : CallR X (.type "tuple") (fun xs H Q => ∃ p ys, xs = [.ref p] ∧ ((SqL X.K H p ys ∧ ∀ l, H l = none → Q (.ref l) (upd H l (.tup ys))) ∨ (SqT X.K H p ys ∧ Q (.ref p) H))) := by
  intro pins s σ H xs us Q I r h
  obtain ⟨p, ys, rfl, h⟩ := h
  obtain ⟨u, rfl, rx⟩ := vals1 r
  cases rx
  rcases h with ⟨hq, q⟩ | ⟨hq, q⟩
  · obtain ⟨its, r', pl, hz⟩ := I.list hq
    have hlen := r'.length
    refine call_tuple_list pl.isList (fun h' kp => ?_) (by simp only [List.size_toArray] <;> omega)
    have I1 : Inv X pins σ H { s with heap := h' } := I.kept (t' := s.toks) kp
    have I2 : Inv X pins σ (upd H h'.objs.size (.tup ys)) { s with heap := h'.push { cls := .type "tuple", data := .seq its.toArray } } :=
      I1.laid (t' := s.toks) (fun b o e => Heap.get?_push_of_some _ e) (Nat.le_refl _) (show ObjOk X.prog X.w _ _ _ (.tup ys) from ⟨hz, its, r', IsTup.new _ _⟩)
    exact ⟨.ref h'.objs.size, _, I2, rfl, q _ (I1.hok.fresh (Nat.le_refl _))⟩
  · obtain ⟨its, r', pl, hz⟩ := I.tuple hq
    exact call_tuple_same pl ⟨.ref p, H, I, rfl, q⟩

/-! ### the call of a builtin's method: o.m(..) -/
/-- the value is of that builtin type -/
def tyV (K : PySem.W.Frag) (T : String) (x : V) (H : Hp) : Prop := match x with
  | .str _ => T = "str"
  | .int _ => T = "int"
  | .ref p => (T = "list" ∧ ∃ xs, SqL K H p xs) ∨ (T = "tuple" ∧ ∃ o, K.lookup p = some o ∧ o.cls = .type "tuple" ∧ o.dict = none) ∨
      (T = "dict" ∧ ((∃ kvs, H p = some (.dK kvs)) ∨ ∃ kvs, H p = some (.dT kvs))) ∨ (T = "set" ∧ ∃ S n, H p = some (.set S n))
  | _ => False
theorem tyV_is {pins : List (Addr × Obj)} {σ : St} {H : Hp} {s : Shared} {T : String} {x : V} {v : Value} (I : Inv X pins σ H s) (r : RelV x v) (ty : tyV X.K T x H) :
    s.TypeIs v T ∧ ∀ a, v = .ref a → ∃ ob, s.heap.get? a = some ob ∧ ob.dict = none := by
  cases x with
  | str z =>
    obtain ⟨t, rfl⟩ := r
    cases (show T = "str" from ty)
    exact ⟨typeIs_str s z t, fun _ e => nomatch e⟩
  | int i =>
    obtain ⟨t, rfl⟩ := r
    cases (show T = "int" from ty)
    exact ⟨typeIs_int s i t, fun _ e => nomatch e⟩
  | ref p =>
    cases r
    rcases ty with ⟨rfl, xs, hq⟩ | ⟨rfl, o, hk, hc, hd⟩ | ⟨rfl, hk⟩ | ⟨rfl, S, n, hk⟩
    · obtain ⟨its, _, pl, _⟩ := I.list hq
      refine ⟨pl.isList.typeIs, fun a e => ?_⟩
      cases e
      obtain ⟨o, n, e, c, hd, _⟩ := pl
      exact ⟨o, e, hd⟩
    · refine ⟨⟨o, I.kIn p o hk, hc⟩, fun a e => ?_⟩
      cases e
      exact ⟨o, I.kIn _ o hk, hd⟩
    · have z : ∃ o, s.heap.get? p = some o ∧ o.ExactDict := by
        rcases hk with ⟨kvs, hk⟩ | ⟨kvs, hk⟩
        · obtain ⟨_, _, _, _, o, _, _, e, ex, _⟩ := I.hok p _ hk
          exact ⟨o, e, ex⟩
        · obtain ⟨_, _, _, _, o, _, _, e, ex, _⟩ := I.hok p _ hk
          exact ⟨o, e, ex⟩
      obtain ⟨o, e, ex⟩ := z
      refine ⟨⟨o, e, ex.1⟩, fun a e2 => ?_⟩
      cases e2
      exact ⟨o, e, ex.2.1⟩
    · obtain ⟨o, _, _, _, e, ex, _⟩ := I.hok p _ hk
      refine ⟨⟨o, e, ex.1⟩, fun a e2 => ?_⟩
      cases e2
      exact ⟨o, e, ex.2.1⟩
  | _ => exact False.elim ty
def tBM0 (K : PySem.W.Frag) (T : String) (r : V → List V → Hp → VK → Prop) (to : TE) : TE := fun σ H Q => to σ H fun x H1 => tyV K T x H1 ∧ r x [] H1 Q
def tBM (K : PySem.W.Frag) (T : String) (r : V → List V → Hp → VK → Prop) (to : TE) (t : TA) : TE := fun σ H Q => to σ H fun x H1 => tyV K T x H1 ∧ t σ H1 fun xs H2 => r x xs H2 Q
variable {o e : Expr} {es : List Expr} {to : TE} {t : TA} {name : Str} {apos cpos : Pos} {T id : String} {r : V → List V → Hp → VK → Prop}
theorem pe_bm0 (pa : PlainAttrs T) (slot : Slot T name id) (hty : typeOf (.builtin id) = pure (.type "method_descriptor")) (hm : MtR X id r) (ho : PE X o to)
    (hbase : attributeBase o name X.env (eval o X.env) = eval o X.env := by rfl) (hline : (apos.endLine == cpos.line) = true := by rfl) : PE X (.Call (.Attribute o name apos) [] [] cpos) (tBM0 X.K T r to) := by
  intro pins s σ H Q I h
  refine wpAny_Call_method0_late hbase hline (thn (ho pins s σ H _ I h) fun v s1 ⟨x, H1, I1, r1, ty, q1⟩ => ?_)
  obtain ⟨h1, h2⟩ := tyV_is I1 r1 ty
  exact ⟨T, id, pa, slot, hty, h1, h2, Calls.callWith_builtin rfl (PySem.evalArgs_none (hm pins s1 σ H1 x [] v [] Q I1 r1 .nil q1))⟩
theorem pe_bm (pa : PlainAttrs T) (slot : Slot T name id) (hty : typeOf (.builtin id) = pure (.type "method_descriptor")) (hm : MtR X id r) (ho : PE X o to) (ha : PA X (e :: es) t)
    (hbase : attributeBase o name X.env (eval o X.env) = eval o X.env := by rfl)
    (hfew : ((backTo cpos (starEach (e :: es) X.env)).all (fun x => !x.1) && (backToKw cpos (keywordEach [] X.env)).all (fun x => x.1.isSome)
      && decide ((e :: es).length + ([] : List Keyword).length + (if ([] : List Keyword).isEmpty then 0 else 1) < 30)) = true := by rfl)
    (hline : (apos.endLine == cpos.line) = true := by rfl) (hs : starEach (e :: es) X.env = (false, eval e X.env) :: starEach es X.env := by rfl) (hplain : (backTo cpos (starEach es X.env)).any (·.1) = false := by rfl) :
    PE X (.Call (.Attribute o name apos) (e :: es) [] cpos) (tBM X.K T r to t) := by
  intro pins s σ H Q I h
  refine wpAny_Call_method_late hbase hfew hline rfl (thn (ho pins s σ H _ I h) fun v s1 ⟨x, H1, I1, r1, ty, q1⟩ => ?_)
  obtain ⟨h1, h2⟩ := tyV_is I1 r1 ty
  refine ⟨T, id, pa, slot, hty, h1, h2, ?_⟩
  have hA := ha cpos pins s1 σ H1 _ I1 q1
  rw [hs] at hA ⊢
  refine Calls.callWith_builtin (by show (false || (backTo cpos (starEach es X.env)).any (·.1)) = false; rw [hplain] <;> rfl) (Calls.evalArgs_plain ?_)
  exact thn hA fun us s2 ⟨vs, H2, I2, r2, q2⟩ => hm pins s2 σ H2 x vs v us Q I2 r1 r2 q2
/- xs.append(e), list.index on a module's tuple .. are MtR facts of 06m -/
end
end L2

namespace L2
open PySem PySem.Spec PyProof.Rows

def MtM (X : Cx) (id : String) (r : V → List V → Hp → VK → Prop) : Prop :=
  ∀ (pins : List (Addr × Obj)) (s : Shared) (σ : St) (H : Hp) (x : V) (xs : List V) (v : Value) (us : List Value) (Q : VK), Inv X pins σ H s → RelV x v → Vals xs us → r x xs H Q →
    wpAny (model X.prog X.w) X.A (call (.builtin id) (v :: us)) (EP X pins σ Q) X.xe s

/-! ### lists of values -/
theorem Vals.one : ∀ {x : V} {us : List Value}, Vals [x] us → ∃ u, us = [u] ∧ RelV x u
  | _, _, .cons r .nil => ⟨_, rfl, r⟩
theorem Vals.two : ∀ {x y : V} {us : List Value}, Vals [x, y] us → ∃ u v, us = [u, v] ∧ RelV x u ∧ RelV y v
  | _, _, _, .cons r (.cons q .nil) => ⟨_, _, rfl, r, q⟩
theorem Vals.zero : ∀ {us : List Value}, Vals [] us → us = []
  | _, .nil => rfl
theorem Vals.dropLast {xs : List V} {us : List Value} (h : Vals xs us) : Vals xs.dropLast us.dropLast := by
  induction h with
  | nil => exact .nil
  | cons r t ih =>
    cases t with
    | nil => exact .nil
    | cons q t' => exact .cons r ih
theorem Vals.eraseIdx : ∀ {xs : List V} {us : List Value} (i : Nat), Vals xs us → Vals (xs.eraseIdx i) (us.eraseIdx i)
  | _, _, _, .nil => .nil
  | _, _, 0, .cons _ t => t
  | _, _, i + 1, .cons r t => .cons r (Vals.eraseIdx i t)
theorem Vals.reverse {xs : List V} {us : List Value} (h : Vals xs us) : Vals xs.reverse us.reverse := by
  induction h with
  | nil => exact .nil
  | cons r t ih => rw [List.reverse_cons, List.reverse_cons]; exact Vals.append ih (.cons r .nil)
theorem Vals.rep {xs : List V} {us : List Value} (h : Vals xs us) : ∀ k : Nat, Vals (List.replicate k xs).flatten (List.replicate k us).flatten
  | 0 => .nil
  | k + 1 => by
    rw [List.replicate_succ, List.replicate_succ, List.flatten_cons, List.flatten_cons]
    exact Vals.append h (Vals.rep h k)
theorem erase_last {α : Type} (l : List α) : l.eraseIdx (l.length - 1) = l.dropLast := by
  induction l with
  | nil => rfl
  | cons a r ih =>
    cases r with
    | nil => rfl
    | cons b r =>
      have e : (a :: b :: r).length - 1 = ((b :: r).length - 1) + 1 := by
        have h1 : (a :: b :: r).length = r.length + 2 := rfl
        have h2 : (b :: r).length = r.length + 1 := rfl
        omega
      rw [e, List.eraseIdx_cons_succ, ih]
      all_goals rfl
theorem len_erase {α : Type} : ∀ (l : List α) (i : Nat), (l.eraseIdx i).length ≤ l.length
  | [], _ => Nat.le_refl _
  | _ :: _, 0 => Nat.le_succ _
  | _ :: r, i + 1 => Nat.succ_le_succ (len_erase r i)
theorem foldl_rep (its : List Value) : ∀ (k : Nat) (acc : List Value),
    List.foldl (fun x1 x2 => x1 ++ x2) acc.toArray (List.replicate k its.toArray) = (acc ++ (List.replicate k its).flatten).toArray
  | 0, acc => by simp
  | k + 1, acc => by
    have e : acc.toArray ++ its.toArray = (acc ++ its).toArray := by simp
    have e2 : (acc ++ its) ++ (List.replicate k its).flatten = acc ++ (List.replicate (k + 1) its).flatten := by
      rw [List.replicate_succ, List.flatten_cons, List.append_assoc]
    rw [← e2, ← foldl_rep its k (acc ++ its), ← e, List.replicate_succ, List.foldl_cons]

section
variable {X : Cx} {pins : List (Addr × Obj)} {σ : St} {H : Hp} {s : Shared} {l b : Addr} {xs ys zs : List V}

/-! ### the two steps: a tracked list is rewritten, a new list is laid -/
theorem Inv.lset {its its' : List Value} {n : Nat} {f : Array Value → Array Value} {t' : Nat} (I : Inv X pins σ H s) (hH : H l = some (.lst xs))
    (e : s.heap.get? l = some { cls := .type "list", data := .seq its.toArray n }) (hf : f its.toArray = its'.toArray) (hv : Vals ys its') (hz : ys.length ≤ sizeLine) :
    Inv X pins σ (upd H l (.lst ys)) { s with heap := s.heap.update l (Obj.mapSeq f), toks := t' } := by
  have q := PySem.IsL.update e f
  rw [hf] at q
  refine I.write (x := l) (e := l) (by rw [hH]; exact trivial) (.inl rfl) (fun b' u hb hu => (Heap.get?_update_other s.heap (Obj.mapSeq f) (Ne.symm hb)).trans hu) ⟨_, q⟩ ?_
  exact ⟨hz, its', _, hv, q⟩
theorem Inv.lnew {its : List Value} {t' : Nat} (I : Inv X pins σ H s) (hv : Vals ys its) (hz : ys.length ≤ sizeLine) :
    Inv X pins σ (upd H s.heap.objs.size (.lst ys)) { s with heap := s.heap.push { cls := .type "list", data := .seq its.toArray }, toks := t' } :=
  I.laid (fun _ _ q => Heap.get?_push_of_some _ q) (Nat.le_refl _) ⟨hz, its, 0, hv, Heap.get?_push_size _ rfl⟩
theorem Inv.fresh (I : Inv X pins σ H s) : H s.heap.objs.size = none := I.hok.fresh (Nat.le_refl _)
theorem Inv.lstM (I : Inv X pins σ H s) (hH : H l = some (.lst xs)) : xs.length ≤ sizeLine ∧ ∃ (its : List Value) (n : Nat), Vals xs its ∧ xs.length = its.length ∧ s.heap.get? l = some { cls := .type "list", data := .seq its.toArray n } := by
  obtain ⟨z, its, n, r, e⟩ := I.hok l _ hH
  exact ⟨z, its, n, r, r.length, e⟩

theorem notLongL {n : Nat} (h : n ≤ sizeLine) : Builtin.List.listTooLong n = false := by
  unfold Builtin.List.listTooLong
  exact decide_eq_false (by omega)
end

section
variable {X : Cx}

/-! ### methods -/
def rAppend : V → List V → Hp → VK → Prop := fun x vs H Q => ∃ l xs y, x = .ref l ∧ vs = [y] ∧ H l = some (.lst xs) ∧ xs.length < sizeLine ∧ Q .non (upd H l (.lst (xs ++ [y])))
theorem mt_append : MtM X "list.append" rAppend := by
  intro pins s σ H x vs v us Q I rx rv h
  obtain ⟨l, xs, y, rfl, rfl, hH, hz, q⟩ := h
  cases rx
  obtain ⟨u, rfl, ru⟩ := rv.one
  obtain ⟨z, its, n, r, hl, e⟩ := I.lstM hH
  refine call_meets F.slot_list_append ⟨_, e, rfl⟩ F.entry_list_append (F.args_list_append_2 _ _) (PySem.list_append l its.toArray n u (by rw [List.size_toArray]; omega)) ⟨e, ?_⟩
  refine ⟨.non, _, I.lset (its' := its ++ [u]) hH e (by simp) (r.append (.cons ru .nil)) ?_, rfl, q⟩
  rw [List.length_append, List.length_singleton]
  omega

def rExtend : V → List V → Hp → VK → Prop := fun x vs H Q => ∃ l b xs zs, x = .ref l ∧ vs = [.ref b] ∧ H l = some (.lst xs) ∧ H b = some (.lst zs) ∧ xs.length + zs.length ≤ sizeLine ∧ Q .non (upd H l (.lst (xs ++ zs)))
theorem mt_extend : MtM X "list.extend" rExtend := by
  intro pins s σ H x vs v us Q I rx rv h
  obtain ⟨l, b, xs, zs, rfl, rfl, hH, hB, hz, q⟩ := h
  cases rx
  obtain ⟨u, rfl, ru⟩ := rv.one
  cases ru
  obtain ⟨z, its, n, r, hl, e⟩ := I.lstM hH
  obtain ⟨z2, its2, n2, r2, hl2, e2⟩ := I.lstM hB
  have hsz : its.toArray.size + its2.toArray.size ≤ sizeLine := by rw [List.size_toArray, List.size_toArray]; omega
  have hlong : ¬ (!its.toArray.isEmpty && Builtin.List.listTooLong (its.toArray.size + its2.toArray.size)) = true := by
    rw [notLongL hsz, Bool.and_false]
    exact Bool.false_ne_true
  refine call_meets F.slot_list_extend ⟨_, e, rfl⟩ F.entry_list_extend (F.args_list_extend_2 _ _)
    (AutoSeq1.list_extend_list_list_0 l its.toArray n b its2.toArray n2 hlong (by rw [List.size_toArray]; omega) (by omega)) ⟨e, e2, ?_⟩
  refine ⟨.non, _, I.lset (its' := its ++ its2) hH e (by simp) (r.append r2) ?_, rfl, q⟩
  rw [List.length_append]
  omega

def rPop : V → List V → Hp → VK → Prop := fun x vs H Q => ∃ l xs y, x = .ref l ∧ vs = [] ∧ H l = some (.lst xs) ∧ xs[xs.length - 1]? = some y ∧ Q y (upd H l (.lst xs.dropLast))
theorem mt_pop : MtM X "list.pop" rPop := by
  intro pins s σ H x vs v us Q I rx rv h
  obtain ⟨l, xs, y, rfl, rfl, hH, hy, q⟩ := h
  cases rx
  have hus := rv.zero
  subst hus
  obtain ⟨z, its, n, r, hl, e⟩ := I.lstM hH
  obtain ⟨u, hu, ru⟩ := r.get hy
  have hy' : its.toArray[its.toArray.size - 1]? = some u := by
    show its.toArray[its.length - 1]? = some u
    rw [← Array.getElem?_toList, ← hl]
    exact hu
  refine call_meets F.slot_list_pop ⟨_, e, rfl⟩ F.entry_list_pop (F.args_list_pop_1 _) (MeetsSeq.list_pop_last l its.toArray n u hy' (by rw [List.size_toArray]; omega)) ⟨e, ?_⟩
  refine ⟨y, _, I.lset (its' := its.dropLast) hH e ?_ r.dropLast ?_, ru, q⟩
  · show its.toArray.eraseIdxIfInBounds (its.toArray.size - 1) = its.dropLast.toArray
    rw [List.size_toArray, List.eraseIdxIfInBounds_toArray, erase_last]
  · rw [List.length_dropLast]
    omega

def rPopAt : V → List V → Hp → VK → Prop := fun x vs H Q => ∃ l xs i k y, x = .ref l ∧ vs = [.int i] ∧ H l = some (.lst xs) ∧ -(2 ^ 63) ≤ i ∧ i < 2 ^ 63 ∧ seqIndex? i xs.length = some k ∧ xs[k]? = some y ∧ Q y (upd H l (.lst (xs.eraseIdx k)))
theorem mt_popAt : MtM X "list.pop" rPopAt := by
  intro pins s σ H x vs v us Q I rx rv h
  obtain ⟨l, xs, i, k, y, rfl, rfl, hH, h1, h2, hk, hy, q⟩ := h
  cases rx
  obtain ⟨u, rfl, ru⟩ := rv.one
  obtain ⟨t, rfl⟩ := ru
  obtain ⟨z, its, n, r, hl, e⟩ := I.lstM hH
  obtain ⟨w, hw, rw'⟩ := r.get hy
  refine call_meets F.slot_list_pop ⟨_, e, rfl⟩ F.entry_list_pop (F.args_list_pop_2 _ _)
    (MeetsSeq.list_pop_at l its.toArray n i t k w (fitsIndex_both h1 h2) (by rw [List.size_toArray, ← hl]; exact hk) (by rw [← Array.getElem?_toList]; exact hw) (by rw [List.size_toArray]; omega)) ⟨e, ?_⟩
  refine ⟨y, _, I.lset (its' := its.eraseIdx k) hH e ?_ (r.eraseIdx k) ?_, rw', q⟩
  · show its.toArray.eraseIdxIfInBounds k = (its.eraseIdx k).toArray
    rw [List.eraseIdxIfInBounds_toArray]
  · have := len_erase xs k
    omega

def rReverse : V → List V → Hp → VK → Prop := fun x vs H Q => ∃ l xs, x = .ref l ∧ vs = [] ∧ H l = some (.lst xs) ∧ Q .non (upd H l (.lst xs.reverse))
theorem mt_reverse : MtM X "list.reverse" rReverse := by
  intro pins s σ H x vs v us Q I rx rv h
  obtain ⟨l, xs, rfl, rfl, hH, q⟩ := h
  cases rx
  have hus := rv.zero
  subst hus
  obtain ⟨z, its, n, r, hl, e⟩ := I.lstM hH
  refine call_meets F.slot_list_reverse ⟨_, e, rfl⟩ F.entry_list_reverse (F.args_list_reverse_1 _) (AutoSeq1.list_reverse_list_0 l its.toArray n (by rw [List.size_toArray]; omega)) ⟨e, ?_⟩
  refine ⟨.non, _, I.lset (its' := its.reverse) hH e (by simp) r.reverse ?_, rfl, q⟩
  rw [List.length_reverse]
  omega

def rClear : V → List V → Hp → VK → Prop := fun x vs H Q => ∃ l xs, x = .ref l ∧ vs = [] ∧ H l = some (.lst xs) ∧ Q .non (upd H l (.lst []))
theorem mt_clear : MtM X "list.clear" rClear := by
  intro pins s σ H x vs v us Q I rx rv h
  obtain ⟨l, xs, rfl, rfl, hH, q⟩ := h
  cases rx
  have hus := rv.zero
  subst hus
  obtain ⟨z, its, n, r, hl, e⟩ := I.lstM hH
  refine call_meets F.slot_list_clear ⟨_, e, rfl⟩ F.entry_list_clear (F.args_list_clear_1 _) (AutoSeq1.list_clear_list_0 l its.toArray n (by rw [List.size_toArray]; omega)) ⟨e, ?_⟩
  exact ⟨.non, _, I.lset (its' := []) (ys := []) hH e rfl .nil (Nat.zero_le _), rfl, q⟩

/-! ### list + list, list += list, list * int -/
def rCat : R2 := fun x y H Q => ∃ l b xs zs, x = .ref l ∧ y = .ref b ∧ H l = some (.lst xs) ∧ H b = some (.lst zs) ∧ xs.length + zs.length ≤ sizeLine ∧ ∀ p, H p = none → Q (.ref p) (upd H p (.lst (xs ++ zs)))
theorem op_cat : OpR X (binaryOp .Add) rCat := by
  intro pins s σ H x y v u Q I rx ry h
  obtain ⟨l, b, xs, zs, rfl, rfl, hH, hB, hz, q⟩ := h
  cases rx
  cases ry
  obtain ⟨z, its, n, r, hl, e⟩ := I.lstM hH
  obtain ⟨z2, its2, n2, r2, hl2, e2⟩ := I.lstM hB
  refine PySem.P.add_list e e2 ?_ (by rw [List.size_toArray, List.size_toArray]; omega)
  have ea : its.toArray ++ its2.toArray = (its ++ its2).toArray := by simp
  rw [ea]
  exact ⟨.ref _, _, I.lnew (t' := s.toks) (r.append r2) (by rw [List.length_append]; omega), rfl, q _ I.fresh⟩
/-- a list times an int (a negative one is nothing) -/
def rRep : R2 := fun x y H Q => ∃ l k xs, x = .ref l ∧ y = .int k ∧ H l = some (.lst xs) ∧ -(2 ^ 63) ≤ k ∧ k < 2 ^ 63 ∧ xs.length * k.toNat ≤ sizeLine ∧
  ∀ p, H p = none → Q (.ref p) (upd H p (.lst (List.replicate k.toNat xs).flatten))
theorem len_rep {α : Type} (xs : List α) (k : Nat) : (List.replicate k xs).flatten.length = k * xs.length := by
  induction k with
  | zero => simp
  | succ k ih => rw [List.replicate_succ, List.flatten_cons, List.length_append, ih, Nat.succ_mul, Nat.add_comm]
theorem op_rep : OpR X (binaryOp .Mult) rRep := by
  intro pins s σ H x y v u Q I rx ry h
  obtain ⟨l, k, xs, rfl, rfl, hH, h1, h2, hz, q⟩ := h
  cases rx
  obtain ⟨t, rfl⟩ := ry
  obtain ⟨z, its, n, r, hl, e⟩ := I.lstM hH
  have hlen : its.toArray.size * k.toNat ≤ sizeLine := by rw [List.size_toArray, ← hl]; exact hz
  have hcap : ¬ its.toArray.size * k.toNat > (2 ^ 63 - 1) / 8 := by
    have : (sizeLine : Nat) ≤ (2 ^ 63 - 1) / 8 := by decide
    omega
  have hfit : ¬ (!Builtin.List.listFitsIndex k) = true := by
    rw [fitsIndex_both h1 h2]
    exact Bool.false_ne_true
  have hlong : ¬ Builtin.List.listTooLong (its.toArray.size * k.toNat) = true := by
    rw [notLongL hlen]
    exact Bool.false_ne_true
  have hnew : List.foldl (fun x1 x2 => x1 ++ x2) #[] (List.replicate (if its.toArray.isEmpty = true then 0 else k.toNat) its.toArray) = (List.replicate k.toNat its).flatten.toArray := by
    have f0 : ∀ m : Nat, List.foldl (fun x1 x2 => x1 ++ x2) #[] (List.replicate m its.toArray) = (List.replicate m its).flatten.toArray := fun m => by
      have := foldl_rep its m []
      rw [List.nil_append] at this
      exact this
    rw [f0]
    cases its with
    | nil => simp
    | cons a r' => rw [if_neg (by simp)]
  refine wpAny_binaryOp_repeat_ref (T := "list") (U := "int") (by decide) ⟨_, e, rfl⟩ (fun s' => typeIs_int s' k t) noFill_list_mul F.fills_int_mul F.slot_int_rmul repeat_list F.slot_int_index.lookup
    (call_meets F.slot_int_rmul (typeIs_int s k t) F.entry_int_rmul (F.args_int_rmul_2 _ _) (int___rmul___int_list k t l its.toArray n)
      ⟨e, rfl, ⟨_, e, rfl⟩, call_meets F.slot_list_mul ⟨_, e, rfl⟩ F.entry_list_mul (F.args_list_mul_2 _ _) (AutoListH.list___mul___list_int_3 l its.toArray n k t hfit hcap hlong) ⟨e, ?_⟩⟩)
  rw [hnew]
  exact ⟨.ref _, _, I.lnew (t' := s.toks) (r.rep k.toNat) (by rw [len_rep, Nat.mul_comm]; exact hz), rfl, q _ I.fresh⟩

/-! ### del xs[i] -/
theorem del_list {pins : List (Addr × Obj)} {s : Shared} {σ : St} {H : Hp} {l : Addr} {xs : List V} {i : Int} {t : Tok} {k : Nat} {Q : Unit → Shared → Prop} (I : Inv X pins σ H s) (hH : H l = some (.lst xs))
    (h1 : -(2 ^ 63) ≤ i) (h2 : i < 2 ^ 63) (hk : seqIndex? i xs.length = some k) (h : ∀ s', Inv X pins σ (upd H l (.lst (xs.eraseIdx k))) s' → Q () s') :
    wpAny (model X.prog X.w) X.A (delItem (.ref l) (.int i t)) Q X.xe s := by
  obtain ⟨z, its, n, r, hl, e⟩ := I.lstM hH
  refine PySem.P.delItem_list (k := k) e (fitsIndex_both h1 h2) (by rw [List.size_toArray, ← hl]; exact hk) (h _ ?_) (by rw [List.size_toArray]; omega)
  refine I.lset (its' := its.eraseIdx k) (t' := s.toks) hH e ?_ (r.eraseIdx k) ?_
  · show its.toArray.eraseIdxIfInBounds k = (its.eraseIdx k).toArray
    rw [List.eraseIdxIfInBounds_toArray]
  · have := len_erase xs k
    omega
end

/-! ### xs[a:b] = ys -/
section
variable {prog : Program} {w : World} {A : Around} {E : Value → Shared → Prop} {s : Shared}
theorem splice_eq (its its2 : List Value) (a c : Nat) : its.toArray.extract 0 a ++ its2.toArray ++ its.toArray.extract c its.toArray.size = (its.take a ++ its2 ++ its.drop c).toArray := by
  apply Array.toList_inj.mp
  first
    | (simp
       exact List.take_of_length_le (by simp))
    | simp [List.take_of_length_le]
    | simp
theorem bounds_run {a c n : Nat} (hac : a ≤ c) (hc : c ≤ n) : sliceBounds (some (a : Int)) (some (c : Int)) none n = ((a : Int), (c : Int), 1) := by
  simp only [sliceBounds, Option.getD_none]
  have h1 : ¬ ((a : Int) < 0) := by omega
  have h2 : ¬ ((c : Int) < 0) := by omega
  simp only [h1, h2, if_false, show (1 : Int) > 0 by decide, if_true]
  congr 1
  · omega
  · congr 1; omega
set_option maxRecDepth 100000 in
/-- list.__setitem__ with a slice of step one and another list -/
theorem setItem_slice {l b sl : Addr} {items new : Array Value} {n n2 : Nat} {vl vu : Value} {a c : Nat} {Q : Unit → Shared → Prop}
    (e : s.heap.get? l = some { cls := .type "list", data := .seq items n }) (e2 : s.heap.get? b = some { cls := .type "list", data := .seq new n2 }) (hne : l ≠ b)
    (hs : s.heap.IsSliceOf sl vl vu .none) (pl : IsPart vl (some (a : Int))) (pu : IsPart vu (some (c : Int))) (hac : a ≤ c) (hc : c ≤ items.size)
    (hsz : items.size + new.size ≤ sizeLine) (h : Q () { s with heap := s.heap.update l (Obj.mapSeq fun xs => xs.extract 0 a ++ new ++ xs.extract c xs.size) }) :
    wpAny (model prog w) A (setItem (.ref l) (.ref sl) (.ref b)) Q E s := by
  have hl : s.heap.IsList l items := PySem.IsL.isList e
  have hb : s.heap.IsList b new := PySem.IsL.isList e2
  obtain ⟨os, hos, hcs, hds⟩ := id hs
  have hTs : s.TypeIs (.ref sl) "slice" := ⟨os, hos, hcs⟩
  have hstep : ¬ ((rawPart none == rawInt 0) = true) := Bool.false_ne_true
  have hsame : Builtin.List.listSameRef (.ref l) (.ref b) = false := by
    unfold Builtin.List.listSameRef
    exact beq_eq_false_iff_ne.mpr hne
  have hmax : (max (a : Int) (c : Int)).toNat = c := by omega
  have hz' : ((fun xs : Array Value => xs.extract 0 a ++ new ++ xs.extract c xs.size) items).size ≤ sizeLine + 1 := by
    simp only [Array.size_append, Array.size_extract]
    omega
  unfold setItem
  try with_reducible refine wpAny_holding ?_
  first | refine wpAny_bind (wpAny_pure ?_) | skip
  refine wpAny_bind (wpAny_sequenceKey hl.typeIs (by decide) ?_)
  refine wpAny_bind (wpAny_callSpecial?_slot (name := Str.ofString "__setitem__") hl.typeIs slot_list_setitem
    (wpAny_call_entry slot_list_setitem hl.typeIs entry_list_setitem ?_ (args_list_setitem _ _ _)))
  show wpAny _ _ (Builtin.List.listSubscript? (.ref sl) >>= _) _ _ s
  refine wpAny_bind ?_
  unfold Builtin.List.listSubscript?
  refine wpAny_bind (wpAny_specialOf hTs slice_no_index ?_)
  simp only [Option.isNone_none, if_true]
  refine wpAny_pure ?_
  show wpAny _ _ (typeOf (.ref sl) >>= _) _ _ s
  refine wpAny_bind (wpAny_typeOf hTs ?_)
  first
    | rw [if_neg (by decide)]
    | refine PySem.W.KFB.if_not (by decide) ?_
  rw [listSliceParts_eq]
  refine wpAny_bind (wpAny_bind (wpAny_field hos hds (x := .none) rfl (wpAny_bind (wpAny_listPart .none ?_))))
  rw [if_neg hstep]
  refine wpAny_bind (wpAny_field hos hds (x := vl) rfl (wpAny_bind (wpAny_listPart pl ?_)))
  refine wpAny_bind (wpAny_field hos hds (x := vu) rfl (wpAny_bind (wpAny_listPart pu (wpAny_pure ?_))))
  first
    | simp only [hsame, Bool.false_eq_true, if_false]
    | refine PySem.W.KFB.if_not hsame ?_
    | (dsimp only
       rw [if_neg (by rw [hsame]; exact Bool.false_ne_true)])
  refine wpAny_bind (m := Builtin.List.listAllItems (.ref b) "must assign iterable to extended slice") ?_
  unfold Builtin.List.listAllItems
  refine wpAny_bind (wpAny_typeOf hb.typeIs ?_)
  first
    | refine PySem.W.KFB.if_so (by decide) ?_
    | rw [if_pos (by decide)]
    | simp only [beq_self_eq_true, Bool.true_or, if_true]
  unfold Builtin.List.listItems
  refine wpAny_bind (wpAny_seqItems e2 rfl (wpAny_pure ?_))
  refine wpAny_bind (wpAny_bind (wpAny_seqItems e rfl (wpAny_pure ?_)))
  refine wpAny_bind (wpAny_of_eq ((sliceIndices_raw (some (a : Int)) (some (c : Int)) none items.size (by simp)).trans (congrArg (pure : Int × Int × Int → Sem (Int × Int × Int)) (bounds_run hac hc))) ?_)
  show wpAny _ _ (if ((1 : Int) == 1) = true then _ else _) _ _ s
  rw [if_pos (by decide)]
  refine wpAny_bind (wpAny_rule ?_)
  first
    | simp only [notLongL hsz, Bool.false_eq_true, if_false]
    | refine PySem.W.KFB.if_not (notLongL hsz) ?_
  first | refine wpAny_bind (wpAny_pure ?_) | skip
  show wpAny _ _ (updateSeq l (fun xs => xs.extract 0 ((a : Int)).toNat ++ new ++ xs.extract (max (a : Int) (c : Int)).toNat xs.size) >>= _) _ _ s
  rw [hmax, Int.toNat_natCast]
  refine wpAny_bind (wpAny_updateSeq (hz := Nat.le_trans (Nat.le_add_right _ _) hsz) (_hz' := hz') e rfl ?_)
  refine wpAny_bind (wpAny_letGo ?_)
  first
    | exact wpAny_bind (wpAny_pure (wpAny_pure ⟨.none, rfl, wpAny_pure h⟩))
    | exact wpAny_pure ⟨.none, rfl, wpAny_pure h⟩
end

section
variable {X : Cx}
/-- xs[a:c] = ys of another list, at the value level: sl is the slice object that was just made -/
theorem set_slice {pins : List (Addr × Obj)} {s : Shared} {σ : St} {H : Hp} {l b sl : Addr} {xs ys : List V} {a c : Int} {vl vu : Value} {Q : Unit → Shared → Prop} (I : Inv X pins σ H s)
    (hH : H l = some (.lst xs)) (hB : H b = some (.lst ys)) (hne : l ≠ b) (hs : s.heap.IsSliceOf sl vl vu .none) (ra : RelV (.int a) vl) (rc : RelV (.int c) vu) (h0 : 0 ≤ a) (hac : a ≤ c) (hc : c ≤ xs.length)
    (hz : xs.length + ys.length ≤ sizeLine) (h : ∀ s', Inv X pins σ (upd H l (.lst (xs.take a.toNat ++ ys ++ xs.drop c.toNat))) s' → Q () s') :
    wpAny (model X.prog X.w) X.A (setItem (.ref l) (.ref sl) (.ref b)) Q X.xe s := by
  obtain ⟨ta, rfl⟩ := ra
  obtain ⟨tc, rfl⟩ := rc
  obtain ⟨z, its, n, r, hl, e⟩ := I.lstM hH
  obtain ⟨z2, its2, n2, r2, hl2, e2⟩ := I.lstM hB
  obtain ⟨a', rfl⟩ := Int.eq_ofNat_of_zero_le h0
  obtain ⟨c', rfl⟩ := Int.eq_ofNat_of_zero_le (Int.le_trans h0 hac)
  simp only [Int.toNat_natCast] at h
  refine setItem_slice (a := a') (c := c') e e2 hne hs (.int _ _) (.int _ _) (by omega) (by rw [List.size_toArray]; omega) (by rw [List.size_toArray, List.size_toArray]; omega) (h _ ?_)
  refine I.lset (its' := its.take a' ++ its2 ++ its.drop c') (t' := s.toks) hH e ?_ (Vals.append (Vals.append (r.take _) r2) (r.drop _)) ?_
  · exact splice_eq its its2 a' c'
  · rw [List.length_append, List.length_append, List.length_take, List.length_drop]
    omega
end
end L2

namespace Att
open PySem PySem.W PySem.Calls PyProof.Rows

/-! ### the script -/
theorem ints_of_wellAll {P : Params} {h : Heap} : ∀ (ns : List Int) (vs : List Value), WellAll P h vs (ns.map WData.int) → IntsAre vs ns := by
  intro ns
  induction ns with
  | nil =>
    intro vs w
    rw [List.map_nil] at w
    cases w
    exact .nil
  | cons n ns ih =>
    intro vs w
    rw [List.map_cons] at w
    cases w with
    | cons a b =>
      cases a
      exact .cons _ _ (ih _ b)

theorem script_of {l : OpenLaw} {n : Nat} (hn : l.most = some n) {P : Params} {h : Heap} {args : List WData} {vals : List Value}
    (hpre : l.row.toRowW.claim.pre args = true) (hwl : WellAll P h vals args) :
    ∃ a vs ns, vals = [Value.ref a] ∧ args = [WData.list (ns.map WData.int)] ∧ h.get? a = some { cls := .type "list", data := .seq vs.toArray } ∧ IntsAre vs ns ∧ ns.length ≤ n := by
  have hsh : WShape.hasAll [] args [.list .int] = true := (pre_splitW hpre).1
  have hc : l.pre.holds [] { args := args } = true := (pre_splitW hpre).2
  obtain ⟨d, r, rfl, h1, h2⟩ := hasAllW_cons hsh
  obtain rfl := hasAllW_nil h2
  obtain ⟨xs, rfl, h3⟩ := hasW_list h1
  obtain ⟨ns, rfl⟩ := items_int h3
  have hlen : ns.length ≤ n := by
    unfold OpenLaw.pre at hc
    have h4 : (WTm.not (.lt (.lit (.int (n : Int))) (.len (.arg 0)))).holds [] { args := [.list (ns.map .int)] } = true := by
      have h4 := (holds_andW hc).1
      rw [hn] at h4
      exact h4
    have h5 := condW_of h4 (w_not (w_lt w_lit (w_len_list (w_arg rfl))))
    rw [List.length_map] at h5
    refine Nat.le_of_not_lt fun q => ?_
    have q' : (n : Int) < ((ns.length : Nat) : Int) := by omega
    first
      | (rw [decide_eq_true q'] at h5; exact absurd h5 (by decide))
      | (simp at h5; omega)
  cases hwl with
  | cons w1 w2 =>
    cases w2
    cases w1 with
    | list ho hall => exact ⟨_, _, ns, rfl, rfl, ho, ints_of_wellAll ns _ hall, hlen⟩

theorem post_true (l : OpenLaw) (args : List WData) : l.row.toRowW.claim.post args (.bool true) args = true :=
  postW_of (r := l.row.toRowW) (X := (true == true))
    (show WShape.has [] (.bool true) .bool = true by first | rfl | decide | simp [WShape.has, WShape.arms, WShape.armsAll])
    (show (WTm.eq .res (.lit (.bool true))).value [] { args := args, res := some (.bool true), after := args } = some (.bool (true == true)) from w_eq_bool (w_res rfl) w_lit) rfl

/-! ### the attachment: holds_open's last premise (the goal 'hc' behind k_head) from a wpAny of the law's body -/
theorem attach {l : OpenLaw} {n : Nat} {q : Program} {loose : List Str} {XP : (Str → Option Value) → Heap → Prop} {YP : World → Heap → Prop} {d : DefRec} {x : Str}
    (hn : l.most = some n) (hdf : d.params.defaults = [])
    (hbind : ∀ pm cd doc v : Value, bindArgs (docDef d.name d.params d.body d.scope pm cd doc) ⟨[v], []⟩ = pure [(x, v)])
    (hx : d.scope.names.lookup x = some .local ∨ d.scope.names.lookup x = some .cell)
    (hk : d.scope.kind = .function) (hco : d.scope.isCoroutine = false) (hgen : d.scope.isGenerator = false)
    (body : ∀ (w : World) (s₀ s₁ s : Shared) (mg mb : Str → Option Value) (fa : Addr) (o : Obj) (pm cd doc : Value) (a : Addr) (vs : List Value) (ns : List Int),
      Ground q loose [] XP w s₀ mg mb s₁.heap → YP w s₁.heap →
      s₁.heap.get? fa = some o → o.data = .func (docDef d.name d.params d.body d.scope pm cd doc) → s₁.heap.CodeRec cd d.name → mg d.name = some (.ref fa) →
      s₁.heap.get? a = some { cls := .type "list", data := .seq vs.toArray } → IntsAre vs ns → ns.length ≤ n →
      s.gens = #[] → s.os = s₁.os →
      Fr s₁.heap s₁.heap.objs.size s.heap (bindL (envOfC d.name d.scope s₁.heap.objs.size fa cd).kindOf [(x, .ref a)] fun _ => none) →
      Cl s₁.heap.objs.size (cellsFrom (s₁.heap.objs.size + 1) d.scope.names []) s.heap (bindC (envOfC d.name d.scope s₁.heap.objs.size fa cd).kindOf [(x, .ref a)] fun _ => none) →
      wpAny (model l.prog w) (callerA.deeper (envOfC d.name d.scope s₁.heap.objs.size fa cd)) (execs d.body (envOfC d.name d.scope s₁.heap.objs.size fa cd))
        (fun f s' => f = .ret (.bool true) ∧ OldK s₁.heap s'.heap ∧ s'.os = s₁.os ∧ AllBare s'.gens) (fun _ _ => False) s) :
    WalkO q loose XP YP l.row.toRowW d [] (fun f vs => PySem.call f vs) := by
  intro w s₀ s₁ mg mb G Y fa o pm cd doc dV kV ho hd hcd hD hmg hg args vals as hpre hlay hrd hwl hlo
  obtain rfl : dV = .none := Dflts.none hD hdf
  obtain rfl : kV = .none := Dflts.noKw hD
  obtain ⟨a, vs, ns, rfl, rfl, hobj, hints, hlen⟩ := script_of hn hpre hwl
  refine enter_call ?_
  refine call_cells_ret (o := o) (by rw [depth_caller]; decide) ho (fd_plain hd) G.T.nolimit hcd (hbind pm cd doc (.ref a)) (fun y hy => ?_) (fun h₁ tk F X => ?_) hco hgen hk
  · obtain rfl : y = (x, Value.ref a) := List.mem_singleton.mp hy
    rcases hx with e | e
    · exact .inl e
    · exact .inr ⟨e, cellsFrom_some _ _ _ (.inl e)⟩
  · refine wpAny_mono (body w s₀ s₁ { s₁ with heap := h₁, toks := tk } mg mb fa o pm cd doc a vs ns G Y ho (fd_plain hd) hcd hmg hobj hints hlen hg rfl F X) (fun f s' hq => ?_) (fun _ _ hq => hq)
    obtain ⟨rfl, h2, h3, h4⟩ := hq
    exact ⟨.inl ⟨.bool true, .bool true, [], rfl, fun _ => rfl, .bool true, post_true l _, fun _ => ⟨List.Pairwise.nil, fun _ hm => (nomatch hm)⟩⟩, h2, h3, h4⟩

/-- the same from a codeAny of the CALL (for a layer whose function contracts speak of calls) -/
theorem attach_call {l : OpenLaw} {n : Nat} {q : Program} {loose : List Str} {XP : (Str → Option Value) → Heap → Prop} {YP : World → Heap → Prop} {d : DefRec}
    (hn : l.most = some n) (hdf : d.params.defaults = [])
    (call : ∀ (w : World) (s₀ s₁ : Shared) (mg mb : Str → Option Value) (fa : Addr) (o : Obj) (pm cd doc : Value) (a : Addr) (vs : List Value) (ns : List Int),
      Ground q loose [] XP w s₀ mg mb s₁.heap → YP w s₁.heap →
      s₁.heap.get? fa = some o → o.data = .func (docDef d.name d.params d.body d.scope pm cd doc) → s₁.heap.CodeRec cd d.name → mg d.name = some (.ref fa) →
      s₁.heap.get? a = some { cls := .type "list", data := .seq vs.toArray } → IntsAre vs ns → ns.length ≤ n → s₁.gens = #[] →
      codeAny (model l.prog w) callerA (.call (.ref fa) ⟨[.ref a], []⟩) (fun r s' => r = .ok (.ret (.bool true)) ∧ OldK s₁.heap s'.heap ∧ s'.os = s₁.os ∧ AllBare s'.gens) s₁) :
    WalkO q loose XP YP l.row.toRowW d [] (fun f vs => PySem.call f vs) := by
  intro w s₀ s₁ mg mb G Y fa o pm cd doc dV kV ho hd hcd hD hmg hg args vals as hpre hlay hrd hwl hlo
  obtain rfl : dV = .none := Dflts.none hD hdf
  obtain rfl : kV = .none := Dflts.noKw hD
  obtain ⟨a, vs, ns, rfl, rfl, hobj, hints, hlen⟩ := script_of hn hpre hwl
  refine enter_call (codeAny_mono (call w s₀ s₁ mg mb fa o pm cd doc a vs ns G Y ho (fd_plain hd) hcd hmg hobj hints hlen hg) fun r s' hq => ?_)
  obtain ⟨rfl, h2, h3, h4⟩ := hq
  exact ⟨.inl ⟨.bool true, .bool true, [], rfl, fun _ => rfl, .bool true, post_true l _, fun _ => ⟨List.Pairwise.nil, fun _ hm => (nomatch hm)⟩⟩, h2, h3, h4⟩

/-- the same where the top left finished generators (o_head chose holds_openN): nothing may have changed at all and no generator may be left -/
theorem attachN {l : OpenLaw} {n : Nat} {q : Program} {loose : List Str} {XP : (Str → Option Value) → Heap → Prop} {YP : World → Heap → Prop} {d : DefRec} {x : Str}
    (hn : l.most = some n) (hdf : d.params.defaults = [])
    (hbind : ∀ pm cd doc v : Value, bindArgs (docDef d.name d.params d.body d.scope pm cd doc) ⟨[v], []⟩ = pure [(x, v)])
    (hx : d.scope.names.lookup x = some .local ∨ d.scope.names.lookup x = some .cell)
    (hk : d.scope.kind = .function) (hco : d.scope.isCoroutine = false) (hgen : d.scope.isGenerator = false)
    (body : ∀ (w : World) (s₀ s₁ s : Shared) (mg mb : Str → Option Value) (fa : Addr) (o : Obj) (pm cd doc : Value) (a : Addr) (vs : List Value) (ns : List Int),
      Ground q loose [] XP w s₀ mg mb s₁.heap → YP w s₁.heap →
      s₁.heap.get? fa = some o → o.data = .func (docDef d.name d.params d.body d.scope pm cd doc) → s₁.heap.CodeRec cd d.name → mg d.name = some (.ref fa) →
      s₁.heap.get? a = some { cls := .type "list", data := .seq vs.toArray } → IntsAre vs ns → ns.length ≤ n →
      s.gens = #[] → s.os = s₁.os →
      Fr s₁.heap s₁.heap.objs.size s.heap (bindL (envOfC d.name d.scope s₁.heap.objs.size fa cd).kindOf [(x, .ref a)] fun _ => none) →
      Cl s₁.heap.objs.size (cellsFrom (s₁.heap.objs.size + 1) d.scope.names []) s.heap (bindC (envOfC d.name d.scope s₁.heap.objs.size fa cd).kindOf [(x, .ref a)] fun _ => none) →
      wpAny (model l.prog w) (callerA.deeper (envOfC d.name d.scope s₁.heap.objs.size fa cd)) (execs d.body (envOfC d.name d.scope s₁.heap.objs.size fa cd))
        (fun f s' => f = .ret (.bool true) ∧ (∀ b o, s₁.heap.get? b = some o → s'.heap.get? b = some o) ∧ s'.os = s₁.os ∧ s'.gens = #[]) (fun _ _ => False) s) :
    WalkN q loose XP YP l.row.toRowW d [] (fun f vs => PySem.call f vs) := by
  intro w s₀ s₁ mg mb G Y fa o pm cd doc dV kV ho hd hcd hD hmg hg args vals as hpre hlay hrd hwl hlo
  obtain rfl : dV = .none := Dflts.none hD hdf
  obtain rfl : kV = .none := Dflts.noKw hD
  obtain ⟨a, vs, ns, rfl, rfl, hobj, hints, hlen⟩ := script_of hn hpre hwl
  refine enter_callW ?_
  refine call_cells_ret (o := o) (by rw [depth_caller]; decide) ho (fd_plain hd) G.T.nolimit hcd (hbind pm cd doc (.ref a)) (fun y hy => ?_) (fun h₁ tk F X => ?_) hco hgen hk
  · obtain rfl : y = (x, Value.ref a) := List.mem_singleton.mp hy
    rcases hx with e | e
    · exact .inl e
    · exact .inr ⟨e, cellsFrom_some _ _ _ (.inl e)⟩
  · refine wpAny_mono (body w s₀ s₁ { s₁ with heap := h₁, toks := tk } mg mb fa o pm cd doc a vs ns G Y ho (fd_plain hd) hcd hmg hobj hints hlen hg rfl F X) (fun f s' hq => ?_) (fun _ _ hq => hq)
    obtain ⟨rfl, h2, h3, h4⟩ := hq
    exact ⟨.inl ⟨.bool true, .bool true, [], rfl, fun _ => rfl, .bool true, post_true l _, fun _ => ⟨List.Pairwise.nil, fun _ hm => (nomatch hm)⟩⟩, h2, h3, h4⟩

/-! ### rules over ANY heap (no ledger) from facts about the written part K: the library's own take a ledger (News) for what they write -/
section
variable {prog : Program} {w : World} {A : Around} {E : Value → Shared → Prop} {s : Shared} {K : Frag}

/-- a def of the module, or a method (qual 'C.m'), entered: the frame is the next address; cells behind it -/
theorem call_fn {R : Result → Shared → Prop} {name qual : Str} {params : Arguments} {body : List Stmt} {scope : Scope} {dV kV doc pm cdv ct oc : Value} {an od : Option Addr} {osl : Array (Option Value)} {f : Addr} {args : Args} {binds : List (Str × Value)}
    (X : K.In s.heap) (hlim : s.heap.NoLimit) (ho : K.lookup f = some ⟨oc, od, .func (fnOf name qual params body scope dV kV doc pm an cdv ct), osl⟩) (hcd : codeIn K cdv qual = true) (hroom : A.depth < recursionLimit)
    (hbind : BindsTo s (fnOf name qual params body scope dV kV doc pm an cdv ct) args binds)
    (hkind : (binds.all fun y => scope.names.lookup y.1 == some .local || scope.names.lookup y.1 == some .cell) = true)
    (h : ∀ s₁, InCallC s s.heap.objs.size (bindL (envOfC qual scope s.heap.objs.size f cdv).kindOf binds fun _ => none) (cellsFrom (s.heap.objs.size + 1) scope.names [])
        (bindC (envOfC qual scope s.heap.objs.size f cdv).kindOf binds fun _ => none) s₁ →
      wpAny (model prog w) (A.deeper (envOfC qual scope s.heap.objs.size f cdv)) (execs body (envOfC qual scope s.heap.objs.size f cdv))
        (fun fl s' => R (.ok (.ret (match fl with | .ret v => v | _ => .none))) s')
        (fun e s' => wpAny (model prog w) (A.deeper (envOfC qual scope s.heap.objs.size f cdv)) (leaving (envOfC qual scope s.heap.objs.size f cdv) e) (fun _ s'' => R (.error e) s'') (fun e' s'' => R (.error e') s'') s') s₁)
    (hco : scope.isCoroutine = false) (hgen : scope.isGenerator = false) (hk : scope.kind = .function) : codeAny (model prog w) A (.call (.ref f) args) R s := by
  refine codeAny_call_function hroom (X _ _ ho) rfl hco hgen rfl (codeRec_of X hcd) (hbind _ _ _ _ ?_)
  refine wpAny_newFunctionEnv_cells hk (kindsX hkind _) fun env he s₁ x => ?_
  subst he
  exact ⟨hlim.keeps x.toInCall.keep, codeAny_func (h s₁ x)⟩

/-- C(..): dict at size, instance at size + 1, then __init__ -/
theorem make_obj {R : Result → Shared → Prop} {C fI : Addr} {rest : List Value} {kw : List (Str × Value)}
    (X : K.In s.heap) (hm : makesIn K C = true) (hi : findIn K (.ref C) "__init__" = some (some (.ref fI))) (hf : isFn K (.ref fI) = true)
    (h : codeAny (model prog w) (A.under (.builtin "type.__call__" ⟨.ref C :: rest, kw⟩)) (.call (.ref fI) ⟨.ref (s.heap.objs.size + 1) :: rest, kw⟩) (InitBack (s.heap.objs.size + 1) R)
      { s with heap := (s.heap.push emptyDict).push (instObj C s.heap.objs.size) }) : codeAny (model prog w) A (.call (.ref C) ⟨rest, kw⟩) R s := by
  obtain ⟨hh, g, d, t, os⟩ := s
  exact make_core (makes_of X hm) (looks_findIn X hi) (fun self => bind_fn X self (beq_iff_eq.mp hf)) (.inl rfl) h

/-- x.name where the instance's dict holds the name and the class does not -/
theorem get_field {x C : Addr} {ox : Obj} {es : List DictEntry} {n : Nat} {name : Str} {expr : Bool} {v : Value} {Q : Value → Shared → Prop}
    (X : K.In s.heap) (I : PySem.W.InstAt s.heap x ox C (some (dictOf es n))) (hg : plainGet K C name = true) (hh : hasDictIn K C = true) (ha : findIn K (.ref C) name = some none)
    (hl : getL name es = some (some v)) (hv : handedIn v = true) (h : Q v { s with toks := s.toks + 1 }) : wpAny (model prog w) A (getAttr (.ref x) name expr) Q E s :=
  get_value X I (plainGet_of hg).1 (findObj_own hh ha rfl hl) hv h

/-- x.m(..): the method found in the class -/
theorem get_method {x C f : Addr} {ox : Obj} {es : List DictEntry} {n : Nat} {name : Str} {pl : Sem Bool} {Q : Value × List Value → Shared → Prop}
    (X : K.In s.heap) (I : PySem.W.InstAt s.heap x ox C (some (dictOf es n))) (hg : plainGet K C name = true) (hf : findIn K (.ref C) name = some (some (.ref f))) (ht : isFn K (.ref f) = true)
    (hl : getL name es = some none) (h : Q (.ref f, [.ref x]) s) : wpAny (model prog w) A (getMethod (.ref x) name pl) Q E s :=
  method_fn X I (plainGet_of hg).1 (plainGet_of hg).2 hf (beq_iff_eq.mp ht) (by show (lookIn name (dictOf es n)).map _ = _; rw [lookIn_dict, hl]; rfl) h

/-! the whole heap as the ledger: makes every rule that writes through a ledger a rule over any heap -/
def noObjs (h : Heap) : Heap := { h with objs := #[] }
theorem noObjs_get (h : Heap) (b : Addr) : (noObjs h).get? b = none := by
  cases e : (noObjs h).get? b with
  | none => rfl
  | some o => exact absurd (Heap.lt_size e) (Nat.not_lt_zero _)
def ledger (h : Heap) (L d : Addr) : List (Addr × Obj) := (List.range h.objs.size).filterMap fun a => if a = L ∨ a = d then none else (h.get? a).map fun o => (a, o)
theorem mem_ledger {h : Heap} {L d a : Addr} {o : Obj} : (a, o) ∈ ledger h L d ↔ a ≠ L ∧ a ≠ d ∧ h.get? a = some o := by
  unfold ledger
  rw [List.mem_filterMap]
  constructor
  · rintro ⟨b, _, e⟩
    split at e
    · cases e
    · rename_i hb
      obtain ⟨o', ho, e'⟩ := Option.map_eq_some_iff.mp e
      cases e'
      exact ⟨fun q => hb (.inl q), fun q => hb (.inr q), ho⟩
  · rintro ⟨n1, n2, ho⟩
    refine ⟨a, List.mem_range.mpr (Heap.lt_size ho), ?_⟩
    rw [if_neg (show ¬ (a = L ∨ a = d) from fun q => q.elim n1 n2), ho] <;> rfl
theorem news_ledger {h : Heap} {L d : Addr} {od : Obj} (hne : d ≠ L) (ho : h.get? d = some od) : News (noObjs h) L h ([] ++ (d, od) :: ledger h L d) := by
  rintro ⟨a, o⟩ hp
  rcases List.mem_cons.mp hp with e | hp
  · cases e
    exact ⟨ho, hne, noObjs_get _ _⟩
  · obtain ⟨n1, n2, e⟩ := mem_ledger.mp hp
    exact ⟨e, n1, noObjs_get _ _⟩
theorem fr_all {h : Heap} {L : Addr} {m : Str → Option Value} (n : h.Ns L m) : Fr (noObjs h) L h m :=
  ⟨n, fun b o e => (by rw [noObjs_get] at e; cases e), Nat.zero_le _⟩
/-- Upd of the head entry (for append_K, setItem_K ..) -/
theorem upd_ledger {h : Heap} {L d : Addr} {o o' : Obj} : Upd d o o' ((d, o) :: ledger h L d) ((d, o') :: ledger h L d) :=
  .head fun ⟨_, _⟩ hp => (mem_ledger.mp hp).2.1

/-- x.name = v over any heap: L is any namespace of the heap (the frame's, say): its map stays, its object is not told; all else but the dict stays -/
theorem set_field {x C dx L : Addr} {ox : Obj} {m : Str → Option Value} {es es' : List DictEntry} {n n' : Nat} {name : Str} {v : Value} {Q : Unit → Shared → Prop}
    (X : K.In s.heap) (I : PySem.W.InstAt s.heap x ox C (some (dictOf es n))) (hd : ox.dict = some dx) (hL : s.heap.Ns L m) (hne : dx ≠ L)
    (hs : findIn K (.ref C) "__setattr__" = some (some (.builtin "object.__setattr__"))) (hp : plainOver K C = true) (ht : takerIn K C name = some none) (hh : hasDictIn K C = true) (hl : (getL name es).isSome = true)
    (e : (putL name (PyData.keyHash w.params name) (.str name (s.toks + 1)) v es, putN name es n) = (es', n')) (hz : es'.length ≤ 1000)
    (h : ∀ h' : Heap, h'.Ns L m → h'.get? dx = some (dictOf es' n') → (∀ b o, b ≠ dx → b ≠ L → s.heap.get? b = some o → h'.get? b = some o) → Q () { s with heap := h', toks := s.toks + 2 }) :
    wpAny (model prog w) A (setAttr (.ref x) name v) Q E s := by
  obtain ⟨e1, e2⟩ := Prod.mk.inj e
  have hdx : s.heap.get? dx = some (dictOf es n) := by
    have := I.dict
    rw [hd] at this
    exact this
  refine set_plain X I hs (osa_dict (s := { s with toks := s.toks + 1 }) (h₀ := noObjs s.heap) (L := L) (m := m) (od := dictOf es n) (od' := dictOf es' n') (es := es') (n := n') (pre := []) (post := ledger s.heap L dx)
    (fr_all hL) (news_ledger hne hdx) X I hd hp ht hh hl (fun _ q => nomatch q) (fun ⟨_, _⟩ q => (mem_ledger.mp q).2.1) (by rw [putName_dict, e1, e2]) rfl hz fun h' F' N' => ?_)
  exact h h' F'.ns (N'.get (List.Mem.head _)) fun b o n1 n2 ho => N'.get (List.Mem.tail _ (mem_ledger.mpr ⟨n2, n1, ho⟩))
end
end Att

namespace L2
open PySem PySem.Spec PyProof.Rows

theorem vals_ints : ∀ {vs : List Value} {ns : List Int}, IntsAre vs ns → Vals (ns.map V.int) vs
  | _, _, .nil => .nil
  | _, _, .cons n t h => .cons ⟨t, rfl⟩ (vals_ints h)

/-- nothing is tracked but the script, known to the object (or it is an object of the module) -/
def Only (H : Hp) : Prop := ∀ b, H b = none ∨ ∃ o xs, H b = some (.frz o (.lst xs))

/-- THE HEAD: the law's promise, at the heap behind the top. F, the promise of the law's def, may use that base is part of the heap (so K.In base, base.Ns mainGlobals mg stand in Mod) -/
theorem law_call {P : Program} {w : World} {K : PySem.W.Frag} {mg mb : Str → Option Value} {CX : CXT} {k : Nat} {fa a : Addr} {fd : FuncData} {x : Str} {sp : Sp} {s₁ : Shared} {vs : List Value} {ns : List Int}
    (KX : K.In s₁.heap) (hns : s₁.heap.Ns mainGlobals mg) (hb : s₁.heap.Ns builtinsNs mb) (hbb : ∀ x : Str, x ≠ "__name__" → mb x = bootBuiltins x) (hlim : s₁.heap.NoLimit) (hg : s₁.gens = #[])
    (ha : s₁.heap.get? a = some { cls := .type "list", data := .seq vs.toArray }) (hi : IntsAre vs ns) (hl : ns.length ≤ sizeLine) (hr : Room k callerA)
    (F : ∀ base : Heap, K.In base → base.Ns mainGlobals mg → FnOk P w K mg base CX k fa fd [x] sp) (hbind : ∀ (s : Shared) (u : Value), BindsTo s fd ⟨[u], []⟩ [(x, u)])
    (hsp : ∀ H : Hp, Only H → SqL K H a (ns.map V.int) → sp [.ref a] H (fun v _ => v = .bl true) fun _ _ _ => False)
    (hCX : ∀ H e s', CX [] H s₁ (fun _ _ _ => False) e s' → False) :
    codeAny (model P w) callerA (.call (.ref fa) ⟨[.ref a], []⟩) (fun r s' => r = .ok (.ret (.bool true)) ∧ OldK s₁.heap s'.heap ∧ s'.os = s₁.os ∧ AllBare s'.gens) s₁ := by
  have rv := vals_ints hi
  have lenV := hi.length
  -- from an abstract heap in which nothing but the script may be tracked
  have core : ∀ H : Hp, Only H → SqL K H a (ns.map V.int) → HOk P w H s₁.heap → (∀ b, H b ≠ none → b = a) → (H a ≠ none → K.lookup a = none) →
      codeAny (model P w) callerA (.call (.ref fa) ⟨[.ref a], []⟩) (fun r s' => r = .ok (.ret (.bool true)) ∧ OldK s₁.heap s'.heap ∧ s'.os = s₁.os ∧ AllBare s'.gens) s₁ := by
    intro H hO hS hok hA hK
    have base_of : ∀ {b : Addr} {o : Obj}, s₁.heap.get? b = some o → H b = none → (hidT s₁.heap H).get? b = some o := fun e n => hidT_get e n
    have noA : ∀ {b : Addr} {o : Obj} {es : Array DictEntry} {ep : Nat}, s₁.heap.get? b = some o → o.data = .dict es ep → H b = none := fun {b o es ep} e d => by
      cases q : H b with
      | none => rfl
      | some u =>
        have e' : b = a := hA b (by rw [q]; simp)
        subst e'
        rw [ha] at e; cases e
        have d' : Data.seq vs.toArray _ = Data.dict es ep := d
        cases d'
    have nsK : ∀ {b : Addr} {m : Str → Option Value}, s₁.heap.Ns b m → (hidT s₁.heap H).Ns b m := fun {b m} ⟨o, es, ep, e, d, r⟩ => ⟨o, es, ep, base_of e (noA e d), d, r⟩
    have hKb : K.In (hidT s₁.heap H) := fun b o e => base_of (KX b o e) (by
      cases q : H b with
      | none => rfl
      | some u =>
        have e' : b = a := hA b (by rw [q]; simp)
        subst e'
        rw [hK (by rw [q]; simp)] at e; cases e)
    have hM : Mod K mg (hidT s₁.heap H) := ⟨hKb, nsK hns, ⟨mb, nsK hb, hbb⟩, let ⟨mc, h1, h2⟩ := hlim; ⟨mc, nsK h1, h2⟩⟩
    have e0 : Env0 P w K mg (hidT s₁.heap H) callerA [] s₁ H := ⟨rfl, hM, fun b o e => of_hidT e, Nat.le_of_eq (hidT_size _ _), trivial, fun b hb => absurd (show b ∈ ([] : List Addr) from hb) (by simp), hok, .of_eq hg⟩
    refine codeAny_mono ((F _ hKb (nsK hns)).run callerA [] s₁ H ⟨[.ref a], []⟩ [.ref a] [.ref a] _ _ hr e0 (hbind s₁ (.ref a)) (.cons rfl .nil) (hsp H hO hS)) fun r s' h => ?_
    cases r with
    | error e => exact (hCX H e s' h).elim
    | ok fl =>
      cases fl with
      | next => exact False.elim h
      | brk => exact False.elim h
      | cont => exact False.elim h
      | ret u =>
        obtain ⟨v, H', os, bare, un, hok', r', q⟩ := h
        have q' : v = .bl true := q
        subst q'
        obtain rfl : u = Value.bool true := r'
        refine ⟨rfl, OldK.of_keep fun b o e => ?_, os, bare⟩
        cases q : H b with
        | none => exact un.keep b o e q (by intro z; exact absurd (show b ∈ ([] : List Addr) from z) (by simp)) (by simp)
        | some u =>
          rcases hO b with z | ⟨ob, xs, z⟩
          · rw [q] at z; cases z
          · have z2 := un.frzs b ob _ z
            obtain ⟨e1, _⟩ := hok b _ z
            obtain ⟨e2, _⟩ := hok' b _ z2
            rw [e] at e1; cases e1
            exact e2
  cases hk : K.lookup a with
  | some o =>
    -- the script is one of the module's own objects
    have e := KX a o hk
    rw [ha] at e
    cases e
    refine core (fun _ => none) (fun _ => .inl rfl) (.inr ⟨_, vs.toArray, _, hk, rfl, rfl, rfl, by rw [List.size_toArray, lenV]; exact hl, by simpa using rv⟩) (fun b u z => by have z' : (none : Option HO) = some u := z; cases z') (fun b z => absurd rfl z) fun z => absurd rfl z
  | none =>
    refine core (fun b => if b = a then some (.frz { cls := .type "list", data := .seq vs.toArray } (.lst (ns.map V.int))) else none) (fun b => ?_) (.inl (.inr ⟨{ cls := .type "list", data := .seq vs.toArray }, if_pos rfl⟩)) (fun b u z => ?_) (fun b z => ?_) fun _ => hk
    · by_cases hb : b = a
      · exact .inr ⟨_, _, if_pos hb⟩
      · exact .inl (if_neg hb)
    · by_cases hb : b = a
      · have z' := (if_pos hb).symm.trans z
        cases z'
        subst hb
        exact ⟨ha, by rw [List.length_map]; exact hl, vs, _, rv, ha⟩
      · have z' := (if_neg hb).symm.trans z
        cases z'
    · by_cases hb : b = a
      · exact hb
      · exact absurd (if_neg hb) z
end L2

namespace L2
open PySem PySem.Spec PyProof.Rows

abbrev KOf {K : PySem.W.Frag} {h : Heap} (_ : K.In h) : PySem.W.Frag := K

/-- the goal that k_head leaves (case hc), from the law's promise. F gives the function object fd (K's own) once, then the promise over every base -/
theorem walk_of {l : PySem.W.OpenLaw} {n k : Nat} {q : Program} {loose : List Str} {XP : (Str → Option Value) → Heap → Prop} {YP : World → Heap → Prop} {d : DefRec} {K : Params → PySem.W.Frag} {CX : World → CXT} {sp : World → Sp} {x : Str}
    (hn : l.most = some n) (hn2 : n ≤ sizeLine) (hdf : d.params.defaults = []) (hr : Room k callerA)
    (hY : ∀ (w : World) (h : Heap), YP w h → (K w.params).In h)
    (F : ∀ (w : World) (mg : Str → Option Value) (fa : Addr) (h : Heap), (K w.params).In h → h.Ns mainGlobals mg → mg d.name = some (.ref fa) →
      ∃ fd : FuncData, (∀ (s : Shared) (u : Value), BindsTo s fd ⟨[u], []⟩ [(x, u)]) ∧
        ∀ base : Heap, (K w.params).In base → base.Ns mainGlobals mg → FnOk l.prog w (K w.params) mg base (CX w) k fa fd [x] (sp w))
    (hsp : ∀ (w : World) (H : Hp) (a : Addr) (ns : List Int), ns.length ≤ n → Only H → SqL (K w.params) H a (ns.map V.int) → sp w [.ref a] H (fun v _ => v = .bl true) fun _ _ _ => False)
    (hCX : ∀ (w : World) (H : Hp) (s : Shared) (e : Value) (s' : Shared), CX w [] H s (fun _ _ _ => False) e s' → False) :
    PySem.W.WalkO q loose XP YP l.row.toRowW d [] (fun f vs => PySem.call f vs) := by
  refine Att.attach_call hn hdf fun w s₀ s₁ mg mb fa o pm cd doc a vs ns G Y ho hd hcd hmg hobj hints hlen hg => ?_
  have KX := hY w _ Y
  obtain ⟨fd, hb, hF⟩ := F w mg fa _ KX G.T.g hmg
  exact law_call KX G.T.g G.T.b G.T.builtins G.T.nolimit hg hobj hints (Nat.le_trans hlen hn2) hr hF hb (fun H hO hS => hsp w H a ns hlen hO hS) fun H e s' => hCX w H s₁ e s'
/-- the same where the promise hangs on the written part alone: (sp := My.sp_law), no hole under a binder -/
theorem walk_ofK {l : PySem.W.OpenLaw} {n k : Nat} {q : Program} {loose : List Str} {XP : (Str → Option Value) → Heap → Prop} {YP : World → Heap → Prop} {d : DefRec} {K : Params → PySem.W.Frag} {CX : CXT} {sp : PySem.W.Frag → Sp} {x : Str}
    (hn : l.most = some n) (hn2 : n ≤ sizeLine) (hdf : d.params.defaults = []) (hr : Room k callerA)
    (hY : ∀ (w : World) (h : Heap), YP w h → (K w.params).In h)
    (F : ∀ (w : World) (mg : Str → Option Value) (fa : Addr) (h : Heap), (K w.params).In h → h.Ns mainGlobals mg → mg d.name = some (.ref fa) →
      ∃ fd : FuncData, (∀ (s : Shared) (u : Value), BindsTo s fd ⟨[u], []⟩ [(x, u)]) ∧
        ∀ base : Heap, (K w.params).In base → base.Ns mainGlobals mg → FnOk l.prog w (K w.params) mg base CX k fa fd [x] (sp (K w.params)))
    (hsp : ∀ (K : PySem.W.Frag) (H : Hp) (a : Addr) (ns : List Int), ns.length ≤ n → Only H → SqL K H a (ns.map V.int) → sp K [.ref a] H (fun v _ => v = .bl true) fun _ _ _ => False)
    (hCX : ∀ (H : Hp) (s : Shared) (e : Value) (s' : Shared), CX [] H s (fun _ _ _ => False) e s' → False) :
    PySem.W.WalkO q loose XP YP l.row.toRowW d [] (fun f vs => PySem.call f vs) :=
  walk_of (K := K) (CX := fun _ => CX) (sp := fun w => sp (K w.params)) hn hn2 hdf hr hY F (fun w H a ns h1 h2 h3 => hsp (K w.params) H a ns h1 h2 h3) fun _ H s e s' => hCX H s e s'
end L2

/- THE LAST THEOREM (shape; LID, My.* are yours):
   My.Adr: a structure of the addresses that your layer names (classes, functions); My.Txt K t: a structure (Prop) of the equations over K;
   My.txt_mk : {K} {implicit addresses ..} (e1 : nsIn K mainGlobals "law" = some (some (.ref f))) (e2 : K.lookup f = some ⟨oc, od, .func (fnOf "law" "law" params body scope dV kV doc pm an cdv ct), sl⟩) (e3 : codeIn K cdv "law" = true) .. : ∃ t, My.Txt K t

set_option maxRecDepth 100000 in
set_option maxHeartbeats 0 in
theorem PySem.Challenge.cw_LID_holds : PySem.Challenge.rw_LID.Holds := by
  w_on; o_law; k_head; (case hw => w_witness2)
  k_fill
  refine L2.walk_of (l := PySem.Challenge.rw_LID) (n := 63) (k := 40) (x := "script") (CX := fun w => ..) (sp := fun _ => My.sp_law) rfl (by decide) rfl ⟨rfl, by decide, by decide⟩ (fun w h Y => PySem.W.kIn_of Y) ?F ?S ?C
  case F =>
    intro w mg fa h KX G hmg
    have T : ∃ t, My.Txt (L2.KOf KX) t := by
      dsimp only [L2.KOf]                          -- K must stand as «<heap const> w.params» for k_is
      refine' My.txt_mk ?e1 ?e2 ?e3 ..
      (case e1 => PySem.W.k_is)                    -- in the order: a name -> its address -> its object -> its parts
      (case e2 => PySem.W.k_is)
      ..
    obtain ⟨t, T⟩ := T
    have e0 := hmg.symm.trans (PySem.W.mg_of KX G T.law)
    cases e0                                       -- fa is the law's own address
    exact ⟨_, fun s u => .of_eq rfl, fun base kb nb => My.law_fn T kb nb⟩     -- if «.of_eq rfl» comes too early: refine' ⟨_, ?b, fun base kb nb => My.law_fn T kb nb⟩; exact fun s u => .of_eq rfl
  case S => exact fun w H a ns hl hO hS => ..
  case C => exact ..
(the tactic k_is has no namespace: write k_is) -/

/-! SHORT WORDS over the layer: a def of the text, its body, what a loop and a test want. -/
namespace L2
open PySem PySem.Spec PyProof.Rows

/-! ### the text by places -/
/-- the j-th statement of a class's body -/
def inClass (s : Stmt) (j : Nat) : Stmt := match s with
  | .ClassDef _ _ _ body _ _ _ _ _ _ _ => body.getD j (.Pass ⟨0, 0, 0, 0⟩)
  | _ => .Pass ⟨0, 0, 0, 0⟩
def defArgs (s : Stmt) : Arguments := match s with
  | .FunctionDef _ a _ _ _ _ _ _ _ _ => a
  | _ => { posonlyargs := [], args := [], vararg := none, kwonlyargs := [], kw_defaults := [], kwarg := none, defaults := [] }
def defBody (s : Stmt) : List Stmt := match s with
  | .FunctionDef _ _ b _ _ _ _ _ _ _ => b
  | _ => []
def defScope (s : Stmt) : Scope := match s with
  | .FunctionDef _ _ _ _ _ _ sc _ _ _ => sc
  | _ => { kind := .function, names := [], isGenerator := false, isCoroutine := false }

/-! ### no exception leaves a def -/
abbrev CX0 : CXT := fun _ _ _ _ _ _ => False
abbrev E0 : XK := fun _ _ _ => False
theorem pass0 {X : Cx} : Passes CX0 X E0 := fun _ _ _ _ _ _ _ h => h.elim

/-! ### a def (or method) of the text as it stands behind the top -/
structure Fun (K : PySem.W.Frag) (x qual : Str) (st : Stmt) (f : Addr) (fd : FuncData) : Prop where
  ex : ∃ (oc : Value) (od : Option Addr) (kV doc pm : Value) (an : Option Addr) (cdv ct : Value) (osl : Array (Option Value)),
    fd = PySem.W.fnOf x qual (defArgs st) (defBody st) (defScope st) .none kV doc pm an cdv ct ∧ K.lookup f = some ⟨oc, od, .func fd, osl⟩ ∧ PySem.W.codeIn K cdv qual = true
  kp : PySem.W.keepIn K (.ref f) = true
section
variable {P : Program} {w : World} {K : PySem.W.Frag} {mg : Str → Option Value} {base : Heap}
/-- THE RULE for a def: its body as a term of rules, and the reading of that term -/
theorem Fun.ok {x qual : Str} {st : Stmt} {f : Addr} {fd : FuncData} {N ps : List Str} {k : Nat} {sp : Sp} (F : Fun K x qual st f fd) (S : FnScope N ps (defScope st)) (len : ∀ vs H Q E, sp vs H Q E → vs.length = ps.length)
    (hbody : ∀ (cdv : Value) (A : Around) (outer : List Env) (s : Shared) (H : Hp) (vs : List V) (Q : VK) (E : XK), Room k (A.deeper (envOfC qual (defScope st) s.heap.objs.size f cdv)) → sp vs H Q E →
      ∃ t, PSs (cxOf CX0 P w K mg base N qual (defScope st) f cdv A outer s H E).nox (defBody st) t ∧ t { nx := fun _ H' => Q .non H', rt := Q } (start N vs) H) : FnOk P w K mg base CX0 (k + 1) f fd ps sp := by
  obtain ⟨oc, od, kV, doc, pm, an, cdv, ct, osl, rfl, lk, hcd⟩ := F.ex
  refine fn_of lk hcd S len fun A outer s H vs Q E hr hsp => ?_
  obtain ⟨t, h, q⟩ := hbody cdv A outer s H vs Q E hr hsp
  exact ⟨t, h.nox, q⟩
/-- how its arguments bind (no defaults): h is «fun _ _ _ _ _ _ us hl => match us, hl with | [_, _], _ => rfl», one _ a parameter -/
theorem Fun.binds {x qual : Str} {st : Stmt} {f : Addr} {fd : FuncData} {ps : List Str} (F : Fun K x qual st f fd)
    (h : ∀ (kV doc pm : Value) (an : Option Addr) (cdv ct : Value) (us : List Value), us.length = ps.length → bindArgs (PySem.W.fnOf x qual (defArgs st) (defBody st) (defScope st) .none kV doc pm an cdv ct) ⟨us, []⟩ = pure (ps.zip us)) : Binds K fd ps [] := by
  obtain ⟨oc, od, kV, doc, pm, an, cdv, ct, osl, rfl, lk, hcd⟩ := F.ex
  exact .all (h kV doc pm an cdv ct)
theorem fun_mk {x qual : Str} {st : Stmt} {f : Addr} {oc : Value} {od an : Option Addr} {osl : Array (Option Value)} {kV doc pm cdv ct : Value} (l : K.lookup f = some ⟨oc, od, .func (PySem.W.fnOf x qual (defArgs st) (defBody st) (defScope st) .none kV doc pm an cdv ct), osl⟩)
    (c : PySem.W.codeIn K cdv qual = true) (k : PySem.W.keepIn K (.ref f) = true) : Fun K x qual st f (PySem.W.fnOf x qual (defArgs st) (defBody st) (defScope st) .none kV doc pm an cdv ct) := ⟨⟨oc, od, kV, doc, pm, an, cdv, ct, osl, rfl, l, c⟩, k⟩
end
theorem hu_of {A : Around} {k : Nat} (hr : Room k A) : A.units + 1 < cLine := Nat.lt_of_le_of_lt (Nat.add_le_add_left (by decide : 1 ≤ 64) _) hr.units
theorem small1000 {n : Nat} (h : n ≤ 1000) : n < sizeLine := Nat.lt_of_le_of_lt h (by decide)

/-! ### expressions in short: the name that stands in the i-th slot -/
section
variable {X : Cx}
theorem pv (i : Nat) {x : Str} {pos : Pos} (hN : X.N[i]? = some x := by rfl) (hv : Vis X.env.scope x := by first | exact Or.inl rfl | exact Or.inr (Or.inl rfl) | exact Or.inr (Or.inr rfl)) (hd : (x == ("__debug__" : Str)) = false := by decide)
    (hcd : (x == ("__classdict__" : Str)) = false := by decide) : PE X (.Name x pos) (tVar i) := pe_var hN hv hd hcd
end

/-! ### tests -/
theorem iteF {A B : Prop} (h : B) : if false = true then A else B := by
  rw [if_neg Bool.false_ne_true]
  exact h
theorem iteT {A B : Prop} (h : A) : if true = true then A else B := by
  rw [if_pos rfl]
  exact h
theorem ite2 {c A B : Prop} [Decidable c] (h1 : c → A) (h2 : ¬ c → B) : if c then A else B := by
  by_cases h : c
  · rw [if_pos h]
    exact h1 h
  · rw [if_neg h]
    exact h2 h
theorem iteNS {c A B : Prop} [Decidable c] (hc : c) (h : B) : if (!decide c) = true then A else B := by
  rw [decide_eq_true hc]
  exact iteF h

/-! ### heaps -/
/-- all that was tracked is as it was -/
def Same (H H' : Hp) : Prop := ∀ b o, H b = some o → H' b = some o
theorem Same.refl (H : Hp) : Same H H := fun _ _ h => h
theorem Same.trans {H H1 H2 : Hp} (a : Same H H1) (b : Same H1 H2) : Same H H2 := fun c o h => b c o (a c o h)
theorem Same.free {H H' : Hp} (e : Same H H') {l : Addr} (h : H' l = Option.none) : H l = Option.none := by
  cases q : H l with
  | none => rfl
  | some o =>
    rw [e l o q] at h
    cases h
theorem Same.seq {K : PySem.W.Frag} {H H' : Hp} {a : Addr} {xs : List V} (e : Same H H') (h : SqL K H a xs) : SqL K H' a xs := by
  rcases h with (h | ⟨o, h⟩) | h
  · exact .inl (.inl (e _ _ h))
  · exact .inl (.inr ⟨o, e _ _ h⟩)
  · exact .inr h

end L2

set_option Elab.async false
set_option linter.all false
set_option maxRecDepth 100000

namespace L2
open PySem PySem.Spec PyProof.Rows

/-! ### lists of pairs as tables -/
section
variable {κ : Type} [DecidableEq κ]
def valV (kvs : List (κ × V)) (k : κ) : Option V := (kvs.find? fun kv => decide (kv.1 = k)).map (·.2)
/-- in its place, or at the end -/
def putK (kvs : List (κ × V)) (k : κ) (v : V) : List (κ × V) :=
  if (kvs.any fun kv => decide (kv.1 = k)) = true then kvs.map (fun kv => if kv.1 = k then (kv.1, v) else kv) else kvs ++ [(k, v)]
def dropK (kvs : List (κ × V)) (k : κ) : List (κ × V) := kvs.filter fun kv => decide (kv.1 ≠ k)

theorem valV_nil {k : κ} : valV ([] : List (κ × V)) k = none := rfl
theorem valV_pos {p : κ × V} {r : List (κ × V)} {k : κ} (e : p.1 = k) : valV (p :: r) k = some p.2 := by simp [valV, List.find?_cons, e]
theorem valV_neg {p : κ × V} {r : List (κ × V)} {k : κ} (e : ¬ p.1 = k) : valV (p :: r) k = valV r k := by simp [valV, List.find?_cons, e]
theorem valV_any (k : κ) : ∀ kvs : List (κ × V), (kvs.any fun kv => decide (kv.1 = k)) = (valV kvs k).isSome
  | [] => rfl
  | p :: r => by
    rw [List.any_cons]
    by_cases e : p.1 = k
    · simp only [valV_pos e, decide_eq_true e, Bool.true_or, Option.isSome_some]
    · rw [valV_neg e, decide_eq_false e, Bool.false_or]; exact valV_any k r
theorem valV_map (k j : κ) (y : V) : ∀ kvs : List (κ × V), valV (kvs.map fun kv => if kv.1 = k then (kv.1, y) else kv) j = (valV kvs j).map fun x => if j = k then y else x
  | [] => rfl
  | p :: r => by
    have ih := valV_map k j y r
    rw [List.map_cons]
    by_cases h : p.1 = k
    · rw [if_pos h]
      by_cases e : p.1 = j
      · rw [valV_pos (p := (p.1, y)) e, valV_pos e, Option.map_some, if_pos (e.symm.trans h)]
      · rw [valV_neg (p := (p.1, y)) e, valV_neg e, ih]
    · rw [if_neg h]
      by_cases e : p.1 = j
      · rw [valV_pos (p := p) e, valV_pos e, Option.map_some, if_neg (fun z => h (e.trans z))]
      · rw [valV_neg (p := p) e, valV_neg e, ih]
theorem valV_snoc (k j : κ) (y : V) : ∀ kvs : List (κ × V), valV kvs k = none → valV (kvs ++ [(k, y)]) j = if j = k then some y else valV kvs j
  | [], _ => by
    by_cases e : k = j
    · rw [if_pos e.symm]; exact valV_pos (p := (k, y)) e
    · rw [if_neg (fun z => e z.symm)]; exact valV_neg (p := (k, y)) e
  | p :: r, hn => by
    rw [List.cons_append]
    have hk : ¬ p.1 = k := fun z => by rw [valV_pos z] at hn; cases hn
    rw [valV_neg hk] at hn
    have ih := valV_snoc k j y r hn
    by_cases e : p.1 = j
    · rw [valV_pos e, valV_pos e, if_neg (fun z => hk (e.trans z))]
    · rw [valV_neg e, valV_neg e, ih]
theorem valV_put (kvs : List (κ × V)) (k j : κ) (y : V) : valV (putK kvs k y) j = if j = k then some y else valV kvs j := by
  unfold putK
  by_cases a : (kvs.any fun kv => decide (kv.1 = k)) = true
  · rw [if_pos a, valV_map]
    rw [valV_any] at a
    by_cases e : j = k
    · obtain ⟨x, hx⟩ := Option.isSome_iff_exists.mp a
      rw [if_pos e, e, hx, Option.map_some, if_pos rfl]
    · rw [if_neg e]
      cases valV kvs j with
      | none => rfl
      | some x => rw [Option.map_some, if_neg e]
  · rw [if_neg a]
    refine valV_snoc k j y kvs ?_
    rw [valV_any] at a
    cases q : valV kvs k with
    | none => rfl
    | some x => rw [q] at a; exact (a rfl).elim
theorem length_putK (kvs : List (κ × V)) (k : κ) (v : V) : (putK kvs k v).length ≤ kvs.length + 1 := by
  unfold putK
  split
  · rw [List.length_map]; omega
  · rw [List.length_append, List.length_cons, List.length_nil]; omega
theorem putK_new {kvs : List (κ × V)} {k : κ} (v : V) (h : valV kvs k = none) : putK kvs k v = kvs ++ [(k, v)] := by
  unfold putK
  rw [valV_any, h]
  exact if_neg (by decide)

theorem RelO.isSome_eq {o : Option V} {u : Option Value} (r : RelO o u) : o.isSome = u.isSome := by
  cases o with
  | none => cases u with
    | none => rfl
    | some _ => exact (show False from r).elim
  | some _ => cases u with
    | none => exact (show False from r).elim
    | some _ => rfl
theorem RelO.getD {o : Option V} {u : Option Value} {d : V} {d' : Value} (r : RelO o u) (rd : RelV d d') : RelV (o.getD d) (u.getD d') := by
  cases o with
  | none => cases u with
    | none => exact rd
    | some _ => exact (show False from r).elim
  | some _ => cases u with
    | none => exact (show False from r).elim
    | some _ => exact r

/-- raw tables of the same keys -/
theorem KV.val {kvs : List (κ × V)} {vs : List (κ × Value)} (r : KV kvs vs) (k : κ) : RelO (valV kvs k) (valueAt vs k) := by
  unfold KV at r
  induction r with
  | nil => exact True.intro
  | @cons p q ps qs h t ih =>
    obtain ⟨h1, h2⟩ := h
    by_cases e : p.1 = k
    · have e' : q.1 = k := h1.symm.trans e
      have b : valueAt (q :: qs) k = some q.2 := by simp [valueAt, List.find?_cons, e']
      rw [valV_pos e, b]; exact h2
    · have e' : ¬ q.1 = k := fun z => e (h1.trans z)
      have b : valueAt (q :: qs) k = valueAt qs k := by simp [valueAt, List.find?_cons, e']
      rw [valV_neg e, b]; exact ih
theorem KV.any {kvs : List (κ × V)} {vs : List (κ × Value)} (r : KV kvs vs) (k : κ) : (kvs.any fun kv => decide (kv.1 = k)) = vs.any fun kv => decide (kv.1 = k) := by
  unfold KV at r
  induction r with
  | nil => rfl
  | cons h t ih => rw [List.any_cons, List.any_cons, ih, h.1]
theorem KV.repl {kvs : List (κ × V)} {vs : List (κ × Value)} (r : KV kvs vs) (k : κ) {y : V} {u : Value} (ry : RelV y u) :
    KV (kvs.map fun kv => if kv.1 = k then (kv.1, y) else kv) (vs.map fun kv => if kv.1 = k then (kv.1, u) else kv) := by
  unfold KV at r ⊢
  induction r with
  | nil => exact .nil
  | @cons p q ps qs h t ih =>
    rw [List.map_cons, List.map_cons]
    refine .cons ?_ ih
    obtain ⟨h1, h2⟩ := h
    by_cases e : p.1 = k
    · rw [if_pos e, if_pos (h1.symm.trans e)]; exact ⟨h1, ry⟩
    · rw [if_neg e, if_neg (fun z => e (h1.trans z))]; exact ⟨h1, h2⟩
theorem KV.put {kvs : List (κ × V)} {vs : List (κ × Value)} (r : KV kvs vs) (k : κ) {y : V} {u : Value} (ry : RelV y u) : KV (putK kvs k y) (stored vs k u) := by
  unfold putK stored
  rw [r.any k]
  by_cases e : (vs.any fun kv => decide (kv.1 = k)) = true
  · rw [if_pos e, if_pos e]; exact r.repl k ry
  · rw [if_neg e, if_neg e]; exact Paired.snoc r ⟨rfl, ry⟩
theorem KV.drop {kvs : List (κ × V)} {vs : List (κ × Value)} (r : KV kvs vs) (k : κ) : KV (dropK kvs k) (without vs k) := by
  unfold KV at r ⊢
  unfold dropK without
  induction r with
  | nil => exact .nil
  | @cons p q ps qs h t ih =>
    obtain ⟨h1, h2⟩ := h
    rw [List.filter_cons, List.filter_cons]
    by_cases e : p.1 = k
    · have a : ¬ decide (p.1 ≠ k) = true := by simp [e]
      have b : ¬ decide (q.1 ≠ k) = true := by simp [h1.symm.trans e]
      rw [if_neg a, if_neg b]; exact ih
    · have e' : ¬ q.1 = k := fun z => e (h1.trans z)
      have a : decide (p.1 ≠ k) = true := by simp [e]
      have b : decide (q.1 ≠ k) = true := by simp [e']
      rw [if_pos a, if_pos b]; exact .cons ⟨h1, h2⟩ ih
theorem KV.keys {kvs : List (κ × V)} {vs : List (κ × Value)} (r : KV kvs vs) : kvs.map (·.1) = vs.map (·.1) := by
  unfold KV at r
  induction r with
  | nil => rfl
  | cons h t ih => rw [List.map_cons, List.map_cons, ih, h.1]
theorem KV.length {kvs : List (κ × V)} {vs : List (κ × Value)} (r : KV kvs vs) : kvs.length = vs.length := Paired.length r
theorem dropK_le (kvs : List (κ × V)) (k : κ) : (dropK kvs k).length ≤ kvs.length := List.length_filter_le _ _
end


/-! ### a tracked dict, its keys ints and texts or tuples of these -/
theorem kV_is {P : Program} {w : World} {k : Key} {u : Value} (r : RelV (kV k) u) : (mixKind P w).is k u = true := by
  cases k with
  | inl i => obtain ⟨t, e⟩ := (show ∃ t, u = Value.int i t from r); subst e; exact mixKind_int P w i t
  | inr x => obtain ⟨t, e⟩ := (show ∃ t, u = Value.str x t from r); subst e; exact mixKind_str P w x t
theorem kV_inj {a b : Key} (e : kV a = kV b) : a = b := by
  cases a with
  | inl i => cases b with
    | inl j => have e' : V.int i = V.int j := e; injection e' with e'; rw [e']
    | inr y => exact nomatch (show V.int i = V.str y from e)
  | inr x => cases b with
    | inl j => exact nomatch (show V.str x = V.int j from e)
    | inr y => have e' : V.str x = V.str y := e; injection e' with e'; rw [e']
theorem kVs_inj : ∀ {a b : List Key}, a.map kV = b.map kV → a = b
  | [], [], _ => rfl
  | [], _ :: _, e => by simp at e
  | _ :: _, [], e => by simp at e
  | x :: xs, y :: ys, e => by
    rw [List.map_cons, List.map_cons] at e
    injection e with e1 e2
    rw [kV_inj e1, kVs_inj e2]
theorem items_are {P : Program} {w : World} : ∀ {ks : List Key} {us : List Value}, Vals (ks.map kV) us → ItemsAre (mixKind P w) ks us
  | [], _, r => by rw [List.map_nil] at r; cases r; exact .nil
  | k :: ks, _, r => by
    rw [List.map_cons] at r
    cases r with
    | cons h t => exact .cons (kV_is h) (items_are t)

/-- raw entries of a dict with tuple keys -/
abbrev KT (H : Hp) : List (List Key × V) → List (List Key × Addr × Value) → Prop := Paired fun p q => p.1 = q.1 ∧ H q.2.1 = some (.tup (p.1.map kV)) ∧ RelV p.2 q.2.2
theorem KT.val {H : Hp} {kvs : List (List Key × V)} {xs : List (List Key × Addr × Value)} (r : KT H kvs xs) (k : List Key) : RelO (valV kvs k) ((atKey xs k).map (·.2)) := by
  induction r with
  | nil => exact True.intro
  | @cons p q ps qs h t ih =>
    obtain ⟨h1, _, h2⟩ := h
    by_cases e : p.1 = k
    · have e' : q.1 = k := h1.symm.trans e
      have b : atKey (q :: qs) k = some q.2 := by simp [atKey, List.find?_cons, e']
      rw [valV_pos e, b]; exact h2
    · have e' : ¬ q.1 = k := fun z => e (h1.trans z)
      have b : atKey (q :: qs) k = atKey qs k := by simp [atKey, List.find?_cons, e']
      rw [valV_neg e, b]; exact ih
theorem KT.repl {H : Hp} {kvs : List (List Key × V)} {xs : List (List Key × Addr × Value)} (r : KT H kvs xs) (k : List Key) {y : V} {u : Value} (ry : RelV y u) :
    KT H (kvs.map fun kv => if kv.1 = k then (kv.1, y) else kv) (xs.map (putAt k u)) := by
  induction r with
  | nil => exact .nil
  | @cons p q ps qs h t ih =>
    rw [List.map_cons, List.map_cons]
    refine .cons ?_ ih
    obtain ⟨h1, h2, h3⟩ := h
    unfold putAt
    by_cases e : p.1 = k
    · rw [if_pos e, if_pos (h1.symm.trans e)]; exact ⟨h1, h2, ry⟩
    · rw [if_neg e, if_neg (fun z => e (h1.trans z))]; exact ⟨h1, h2, h3⟩
theorem KT.put {H : Hp} {kvs : List (List Key × V)} {xs : List (List Key × Addr × Value)} (r : KT H kvs xs) (k : List Key) {b : Addr} {y : V} {u : Value} (hb : H b = some (.tup (k.map kV))) (ry : RelV y u) :
    KT H (putK kvs k y) (storedH xs k b u) := by
  have e : (kvs.any fun kv => decide (kv.1 = k)) = (atKey xs k).isSome := by
    rw [valV_any, (r.val k).isSome_eq, Option.isSome_map]
  unfold putK storedH
  rw [e]
  by_cases q : (atKey xs k).isSome = true
  · rw [if_pos q, if_pos q]; exact r.repl k ry
  · rw [if_neg q, if_neg q]; exact Paired.snoc r ⟨rfl, hb, ry⟩
theorem KT.keeps {H H' : Hp} {kvs : List (List Key × V)} {xs : List (List Key × Addr × Value)} (r : KT H kvs xs) (ht : ∀ b ys, H b = some (.tup ys) → H' b = some (.tup ys)) : KT H' kvs xs :=
  Paired.mapP r fun _ _ z => ⟨z.1, ht _ _ z.2.1, z.2.2⟩

section
variable {P : Program} {w : World} {H : Hp} {h : Heap} {a : Addr}
theorem rd_of {u : HO} (ok : HOk P w H h) (e : Rd H a u) : ObjOk P w H h a u := e.ok ok
theorem dk_rd {kvs : List (Key × V)} (ok : HOk P w H h) (e : Rd H a (.dK kvs)) : kvs.length ≤ sizeLine ∧ (a == sysModules) = false ∧ ∃ vs, KV kvs vs ∧ h.DictOf (mixKind P w) a vs :=
  show ObjOk P w H h a (.dK kvs) from rd_of ok e
theorem dk_of {kvs : List (Key × V)} (ok : HOk P w H h) (e : H a = some (.dK kvs)) : kvs.length ≤ sizeLine ∧ (a == sysModules) = false ∧ ∃ vs, KV kvs vs ∧ h.DictOf (mixKind P w) a vs := dk_rd ok (.inl e)
/-- a tracked tuple of ints and texts is a key -/
theorem key_of {ks : List Key} (ok : HOk P w H h) (e : H a = some (.tup (ks.map kV))) : (tupleKind (mixKind P w)).is h ks a := by
  obtain ⟨_, its, r, o, h1, h2, n, h3⟩ := (show ObjOk P w H h a (.tup (ks.map kV)) from ok a _ e)
  exact ⟨o, its.toArray, n, h1, h2, h3, by simpa using items_are r⟩
theorem dt_rd {kvs : List (List Key × V)} (ok : HOk P w H h) (e : Rd H a (.dT kvs)) : kvs.length ≤ sizeLine ∧ (a == sysModules) = false ∧
    ∃ xs, KT H kvs xs ∧ h.DictOfH (tupleKind (mixKind P w)) a xs := by
  obtain ⟨z, y, xs, r, o, es, ep, h1, h2, h3, h4, h5⟩ := (show ObjOk P w H h a (.dT kvs) from rd_of ok e)
  refine ⟨z, y, xs, r, o, es, ep, h1, h2, h3, h4, fun x hx => ?_, h5⟩
  have all : ∀ {l : List (List Key × V)} {m : List (List Key × Addr × Value)}, KT H l m → ∀ x ∈ m, (tupleKind (mixKind P w)).is h x.1 x.2.1 := by
    intro l m q
    induction q with
    | nil => intro x hx; exact nomatch hx
    | @cons p q ps qs hq t ih =>
      intro x hx
      rcases List.mem_cons.mp hx with e | hx
      · subst e
        exact key_of ok (by rw [← hq.1]; exact hq.2.1)
      · exact ih x hx
  exact all r x hx
theorem dt_of {kvs : List (List Key × V)} (ok : HOk P w H h) (e : H a = some (.dT kvs)) : kvs.length ≤ sizeLine ∧ (a == sysModules) = false ∧
    ∃ xs, KT H kvs xs ∧ h.DictOfH (tupleKind (mixKind P w)) a xs := dt_rd ok (.inl e)
end

/-- what the dict at a holds at the key y -/
def DGet (H : Hp) (a : Addr) (y : V) (r : Option V) : Prop :=
  (∃ kvs k, Rd H a (.dK kvs) ∧ y = kV k ∧ r = valV kvs k) ∨ ∃ kvs k b, Rd H a (.dT kvs) ∧ y = .ref b ∧ H b = some (.tup (k.map kV)) ∧ r = valV kvs k
/-- the heap behind a[y] = v -/
def DPut (H : Hp) (a : Addr) (y v : V) (H' : Hp) : Prop :=
  (∃ kvs k, H a = some (.dK kvs) ∧ y = kV k ∧ kvs.length < sizeLine ∧ H' = upd H a (.dK (putK kvs k v))) ∨
  ∃ kvs k b, H a = some (.dT kvs) ∧ y = .ref b ∧ H b = some (.tup (k.map kV)) ∧ kvs.length < sizeLine ∧ H' = upd H a (.dT (putK kvs k v))
theorem DGet.k {H : Hp} {a : Addr} {kvs : List (Key × V)} {k : Key} (e : H a = some (.dK kvs)) : DGet H a (kV k) (valV kvs k) := .inl ⟨kvs, k, .inl e, rfl, rfl⟩
theorem DGet.t {H : Hp} {a b : Addr} {kvs : List (List Key × V)} {k : List Key} (e : H a = some (.dT kvs)) (eb : H b = some (.tup (k.map kV))) : DGet H a (.ref b) (valV kvs k) := .inr ⟨kvs, k, b, .inl e, rfl, eb, rfl⟩
theorem DPut.k {H : Hp} {a : Addr} {kvs : List (Key × V)} {k : Key} {v : V} (e : H a = some (.dK kvs)) (hl : kvs.length < sizeLine) : DPut H a (kV k) v (upd H a (.dK (putK kvs k v))) := .inl ⟨kvs, k, e, rfl, hl, rfl⟩
theorem DPut.t {H : Hp} {a b : Addr} {kvs : List (List Key × V)} {k : List Key} {v : V} (e : H a = some (.dT kvs)) (eb : H b = some (.tup (k.map kV))) (hl : kvs.length < sizeLine) :
    DPut H a (.ref b) v (upd H a (.dT (putK kvs k v))) := .inr ⟨kvs, k, b, e, rfl, eb, hl, rfl⟩


section
variable {X : Cx} {pins : List (Addr × Obj)} {σ : St} {H : Hp} {s : Shared} {a : Addr} {y v : V} {u r : Value} {o : Option V} {A : Around} {E : Value → Shared → Prop}

theorem Inv.big (I : Inv X pins σ H s) : sysModules < s.heap.objs.size := by
  have h : mainGlobals < s.heap.objs.size := (I.mod.glob.keeps I.bk).lt
  exact Nat.lt_trans (by decide) h

/-- d[y], there -/
theorem d_getItem {Q : Value → Shared → Prop} (hu : A.units + 1 < cLine) (I : Inv X pins σ H s) (g : DGet H a y (some v)) (ry : RelV y u) (h : ∀ w' s', Inv X pins σ H s' → RelV v w' → Q w' s') :
    wpAny (model X.prog X.w) A (getItem (.ref a) u) Q E s := by
  rcases g with ⟨kvs, k, e, ey, l⟩ | ⟨kvs, k, b, e, ey, eb, l⟩
  · subst ey
    obtain ⟨z, hd, vs, rel, dd⟩ := dk_rd I.hok e
    obtain ⟨w', hw, rw'⟩ := RelO.some_of (v := v) (o := valueAt vs k) (by rw [l]; exact rel.val k)
    exact wpAny_getItem_of (kV_is ry) dd.mapOf hw (h w' _ (I.tok _) rw')
  · subst ey
    cases (show u = Value.ref b from ry)
    obtain ⟨z, hd, xs, rel, dd⟩ := dt_rd I.hok e
    obtain ⟨w', hw, rw'⟩ := RelO.some_of (v := v) (o := (atKey xs k).map (·.2)) (by rw [l]; exact rel.val k)
    obtain ⟨p, hp, hp2⟩ := Option.map_eq_some_iff.mp hw
    refine wpAny_getItem_heap (tupleKind_room_in1 hu) (key_of I.hok eb) dd hp ?_
    rw [hp2]
    exact h w' _ (I.tok _) rw'
/-- y in d -/
theorem d_in {Q : Value → Shared → Prop} (hu : A.units + 1 < cLine) (I : Inv X pins σ H s) (g : DGet H a y o) (ry : RelV y u) (h : ∀ s', Inv X pins σ H s' → Q (.bool o.isSome) s') :
    wpAny (model X.prog X.w) A (compareOp .In u (.ref a)) Q E s := by
  rcases g with ⟨kvs, k, e, ey, l⟩ | ⟨kvs, k, b, e, ey, eb, l⟩
  · subst ey
    obtain ⟨z, hd, vs, rel, dd⟩ := dk_rd I.hok e
    refine wpAny_in_of (kV_is ry) hd dd.mapOf ?_
    rw [← (rel.val k).isSome_eq, ← l]
    exact h _ (I.tok _)
  · subst ey
    cases (show u = Value.ref b from ry)
    obtain ⟨z, hd, xs, rel, dd⟩ := dt_rd I.hok e
    refine wpAny_in_heap (tupleKind_room_in1 hu) (key_of I.hok eb) hd dd ?_
    have q := (rel.val k).isSome_eq
    rw [Option.isSome_map] at q
    rw [← q, ← l]
    exact h _ (I.tok _)
theorem d_notIn {Q : Value → Shared → Prop} (hu : A.units + 1 < cLine) (I : Inv X pins σ H s) (g : DGet H a y o) (ry : RelV y u) (h : ∀ s', Inv X pins σ H s' → Q (.bool (!o.isSome)) s') :
    wpAny (model X.prog X.w) A (compareOp .NotIn u (.ref a)) Q E s := by
  rcases g with ⟨kvs, k, e, ey, l⟩ | ⟨kvs, k, b, e, ey, eb, l⟩
  · subst ey
    obtain ⟨z, hd, vs, rel, dd⟩ := dk_rd I.hok e
    refine wpAny_notIn_of (kV_is ry) hd dd.mapOf ?_
    rw [← (rel.val k).isSome_eq, ← l]
    exact h _ (I.tok _)
  · subst ey
    cases (show u = Value.ref b from ry)
    obtain ⟨z, hd, xs, rel, dd⟩ := dt_rd I.hok e
    refine wpAny_notIn_heap (tupleKind_room_in1 hu) (key_of I.hok eb) hd dd ?_
    have q := (rel.val k).isSome_eq
    rw [Option.isSome_map] at q
    rw [← q, ← l]
    exact h _ (I.tok _)
/-- a dict's object is replaced -/
theorem d_write {h' : Heap} {t' : Nat} {ob : HO} (I : Inv X pins σ H s) (mu : Mut (H a)) (hs : Heap.SameBut a s.heap h') (he : ∃ q, h'.get? a = some q) (new : ObjOk X.prog X.w (upd H a ob) h' a ob) :
    Inv X pins σ (upd H a ob) { s with heap := h', toks := t' } :=
  I.write (x := a) (e := a) mu (.inl rfl) (fun b q hb z => (hs.2 b hb).trans z) he new
theorem dk_new {P : Program} {w : World} {H' : Hp} {h' : Heap} {kvs : List (Key × V)} {vs : List (Key × Value)} (z : kvs.length ≤ sizeLine) (hd : (a == sysModules) = false) (rel : KV kvs vs) (dd : h'.DictOf (mixKind P w) a vs) :
    ObjOk P w H' h' a (.dK kvs) := ⟨z, hd, vs, rel, dd⟩
/-- d[y] = v -/
theorem d_setItem {H' : Hp} {Q : Unit → Shared → Prop} (hu : A.units + 1 < cLine) (I : Inv X pins σ H s) (g : DPut H a y v H') (ry : RelV y u) (rv : RelV v r) (h : ∀ s', Inv X pins σ H' s' → Q () s') :
    wpAny (model X.prog X.w) A (setItem (.ref a) u r) Q E s := by
  rcases g with ⟨kvs, k, e, ey, l, eH⟩ | ⟨kvs, k, b, e, ey, eb, l, eH⟩
  · subst ey eH
    obtain ⟨z, hd, vs, rel, dd⟩ := dk_of I.hok e
    have hz : vs.length ≤ sizeLine := by rw [← rel.length]; exact z
    have hl : (putK kvs k v).length ≤ sizeLine := by have := length_putK kvs k v; omega
    refine wpAny_setItem_pairs (hsz := hz) (kV_is ry) dd fun h' dd' hs => h _ ?_
    have he : ∃ q, h'.get? a = some q := let ⟨q, _, _, hq, _⟩ := dd'; ⟨q, hq⟩
    exact d_write I (by rw [e]; exact True.intro) hs he (dk_new hl hd (rel.put k rv) dd')
  · subst ey eH
    cases (show u = Value.ref b from ry)
    obtain ⟨z, hd, xs, rel, dd⟩ := dt_of I.hok e
    have hz : xs.length ≤ sizeLine := by rw [← Paired.length rel]; exact z
    have hl : (putK kvs k v).length ≤ sizeLine := by have := length_putK kvs k v; omega
    refine wpAny_setItem_heap (hsz := hz) (tupleKind_room_in1 hu) (key_of I.hok eb) dd fun h' dd' hs => h _ ?_
    obtain ⟨q, es, ep, hq, h2, h3, h4, _, h5⟩ := dd'
    refine d_write I (by rw [e]; exact True.intro) hs ⟨q, hq⟩ ⟨hl, hd, _, (rel.put k eb rv).keeps fun c ys ec => ?_, q, es, ep, hq, h2, h3, h4, h5⟩
    rw [upd_ne (ne_of ec e (fun z => nomatch z))]
    exact ec
end

section
variable {X : Cx} {pins : List (Addr × Obj)} {σ : St} {H : Hp} {s : Shared} {a : Addr} {kvs : List (Key × V)} {k : Key} {u : Value} {A : Around} {E : Value → Shared → Prop}
/-- del d[k] -/
theorem d_delItem {Q : Unit → Shared → Prop} (I : Inv X pins σ H s) (e : H a = some (.dK kvs)) (ry : RelV (kV k) u) (l : (valV kvs k).isSome = true) (h : ∀ s', Inv X pins σ (upd H a (.dK (dropK kvs k))) s' → Q () s') :
    wpAny (model X.prog X.w) A (delItem (.ref a) u) Q E s := by
  obtain ⟨z, hd, vs, rel, dd⟩ := dk_of I.hok e
  refine wpAny_delItem_slot dd.typeIs (by decide) PySem.F.slot_dict_delitem
    (call_meetsIn PySem.F.slot_dict_delitem dd.typeIs PySem.F.entry_dict_delitem (PySem.F.args_dict_delitem_2 _ _) (meets_dict_delitem_pairs (mixKind X.prog X.w) a (kV_is ry)) ⟨vs, dd, by rw [← rel.length]; exact z, by rw [← (rel.val k).isSome_eq]; exact l, fun h' dd' hs => h _ ?_⟩)
  have he : ∃ q, h'.get? a = some q := let ⟨q, _, _, hq, _⟩ := dd'; ⟨q, hq⟩
  exact d_write I (by rw [e]; exact True.intro) hs he (dk_new (Nat.le_trans (dropK_le kvs k) z) hd (rel.drop k) dd')
/-- d.pop(k[, x]), there -/
theorem d_pop {v : V} {more : List Value} {Q : Value → Shared → Prop} (I : Inv X pins σ H s) (e : H a = some (.dK kvs)) (ry : RelV (kV k) u) (l : valV kvs k = some v) (hm : more = [] ∨ ∃ x, more = [x])
    (h : ∀ w' s', Inv X pins σ (upd H a (.dK (dropK kvs k))) s' → RelV v w' → Q w' s') : wpAny (model X.prog X.w) A (call (.builtin "dict.pop") (.ref a :: u :: more)) Q E s := by
  obtain ⟨z, hd, vs, rel, dd⟩ := dk_of I.hok e
  obtain ⟨w', hw, rw'⟩ := RelO.some_of (v := v) (o := valueAt vs k) (by rw [← l]; exact rel.val k)
  have hp : (keyPart u).isSome = true := by
    cases k with
    | inl i => obtain ⟨t, q⟩ := (show ∃ t, u = Value.int i t from ry); subst q; rfl
    | inr x => obtain ⟨t, q⟩ := (show ∃ t, u = Value.str x t from ry); subst q; rfl
  have ha : argsOk "dict.pop" ⟨.ref a :: u :: more, []⟩ := by
    rcases hm with q | ⟨x, q⟩
    · subst q; exact PySem.F.args_dict_pop_2 _ _
    · subst q; exact PySem.F.args_dict_pop_3 _ _ _
  refine call_meetsIn PySem.F.slot_dict_pop dd.typeIs PySem.F.entry_dict_pop ha (meets_dict_pop_there (mixKind X.prog X.w) a (kV_is ry) more hm hp)
    ⟨vs, w', dd, by rw [← rel.length]; exact z, hw, fun h' dd' hs => h w' _ ?_ rw'⟩
  have he : ∃ q, h'.get? a = some q := let ⟨q, _, _, hq, _⟩ := dd'; ⟨q, hq⟩
  exact d_write I (by rw [e]; exact True.intro) hs he (dk_new (Nat.le_trans (dropK_le kvs k) z) hd (rel.drop k) dd')
/-- d.pop(k, x), not there -/
theorem d_popD {r : Value} {Q : Value → Shared → Prop} (I : Inv X pins σ H s) (e : H a = some (.dK kvs)) (ry : RelV (kV k) u) (l : valV kvs k = none) (h : ∀ s', Inv X pins σ H s' → Q r s') :
    wpAny (model X.prog X.w) A (call (.builtin "dict.pop") [.ref a, u, r]) Q E s := by
  obtain ⟨z, hd, vs, rel, dd⟩ := dk_of I.hok e
  have hn : valueAt vs k = none := RelO.none_of (by rw [← l]; exact rel.val k)
  have hp : (keyPart u).isSome = true := by
    cases k with
    | inl i => obtain ⟨t, q⟩ := (show ∃ t, u = Value.int i t from ry); subst q; rfl
    | inr x => obtain ⟨t, q⟩ := (show ∃ t, u = Value.str x t from ry); subst q; rfl
  exact call_meetsIn PySem.F.slot_dict_pop dd.typeIs PySem.F.entry_dict_pop (PySem.F.args_dict_pop_3 _ _ _) (meets_dict_pop_default (mixKind X.prog X.w) a (kV_is ry) hd hp r) ⟨vs, dd, hn, h _ (I.tok _)⟩
/-- d.clear() -/
theorem d_clear {Q : Value → Shared → Prop} (I : Inv X pins σ H s) (e : H a = some (.dK kvs)) (h : ∀ s', Inv X pins σ (upd H a (.dK [])) s' → Q .none s') : wpAny (model X.prog X.w) A (call (.builtin "dict.clear") [.ref a]) Q E s := by
  obtain ⟨z, hd, vs, rel, dd⟩ := dk_of I.hok e
  refine call_meetsIn PySem.F.slot_dict_clear dd.typeIs PySem.F.entry_dict_clear (PySem.F.args_dict_clear_1 _) (meets_dict_clear (mixKind X.prog X.w) a) ⟨vs, dd, by rw [← rel.length]; exact z, fun h' dd' hs => h _ ?_⟩
  have he : ∃ q, h'.get? a = some q := let ⟨q, _, _, hq, _⟩ := dd'; ⟨q, hq⟩
  exact d_write (t' := s.toks) I (by rw [e]; exact True.intro) hs he (dk_new (Nat.zero_le _) hd .nil dd')
/-- len(d) -/
theorem d_len {Q : Value → Shared → Prop} (I : Inv X pins σ H s) (e : Rd H a (.dK kvs)) (h : ∀ t s', Inv X pins σ H s' → Q (.int kvs.length t) s') : wpAny (model X.prog X.w) A (call (.builtin "len") [.ref a]) Q E s := by
  obtain ⟨z, hd, vs, rel, dd⟩ := dk_rd I.hok e
  refine call_len_dict hd dd (by rw [← rel.length]; rw [sizeLine_eq] at z; omega) ?_
  rw [← rel.length]
  exact h _ _ (I.tok _)
/-- if d -/
theorem d_truth {Q : Bool → Shared → Prop} (I : Inv X pins σ H s) (e : Rd H a (.dK kvs)) (h : ∀ s', Inv X pins σ H s' → Q (!kvs.isEmpty) s') : wpAny (model X.prog X.w) A (truthy (.ref a)) Q E s := by
  obtain ⟨z, hd, vs, rel, dd⟩ := dk_rd I.hok e
  refine wpAny_truthy_dict hd dd (by rw [← rel.length]; rw [sizeLine_eq] at z; omega) ?_
  have q : kvs.isEmpty = vs.isEmpty := by cases rel <;> rfl
  rw [← q]
  exact h _ (I.tok _)
end


/-! ### readings and rules -/
/-- the element of a subscription, not a slice -/
def NoSl (i : Expr) : Prop := ∀ ov iv, subscripted i false ov iv = operate [ov, iv] (getItem ov iv)
theorem subD_of {prog : Program} {w : World} {A : Around} {E : Value → Shared → Prop} {s : Shared} {env : Env} {value slice : Expr} {pos : Pos} {T id : String} {Q : Value → Shared → Prop}
    (hl : typeLookup (.type T) "__getitem__" = pure (some (.builtin id))) (hs : NoSl slice)
    (h : wpAny (model prog w) A (eval value env) (fun o s₁ => wpAny (model prog w) A (eval slice env) (fun i s₂ => s₂.TypeIs o T ∧ wpAny (model prog w) A (getItem o i) Q E s₂) E s₁) E s) :
    wpAny (model prog w) A (eval (.Subscript value slice pos) env) Q E s := by
  refine Subscript_ (wpAny_mono h (fun o s₁ h₁ => wpAny_mono h₁ (fun i s₂ h₂ => ?_) fun _ _ x => x) fun _ _ x => x)
  obtain ⟨hT, h₂⟩ := h₂
  unfold subscriptTail
  refine wpAny_bind ?_
  rw [getitemInPython_of_ne hT.not_modules]
  refine wpAny_bind (wpAny_specialOf hT hl ?_)
  have fin : wpAny (model prog w) A (subscripted slice false o i) (fun r s₃ => wpAny (model prog w) A (letTemporaryGo value o r >>= fun _ => pure r) Q E s₃) E s₂ := by
    rw [hs o i]
    exact wpAny_operating (wpAny_mono h₂ (fun r s₃ h₃ => wpAny_bind (wpAny_letTemporaryGo (wpAny_pure h₃))) fun _ _ x => x)
  first
    | exact wpAny_pure (wpAny_bind fin)
    | exact wpAny_bind (wpAny_pure (wpAny_bind fin))
    | exact wpAny_bind fin

theorem dict_typeIs {X : Cx} {pins : List (Addr × Obj)} {σ : St} {H : Hp} {s : Shared} {a : Addr} {y : V} {o : Option V} (I : Inv X pins σ H s) (g : DGet H a y o) : s.TypeIs (.ref a) "dict" := by
  rcases g with ⟨kvs, k, e, _, _⟩ | ⟨kvs, k, b, e, _, _, _⟩
  · obtain ⟨_, _, vs, _, dd⟩ := dk_rd I.hok e
    exact dd.typeIs
  · obtain ⟨_, _, xs, _, dd⟩ := dt_rd I.hok e
    exact dd.typeIs
theorem dict_noDict {X : Cx} {pins : List (Addr × Obj)} {σ : St} {H : Hp} {s : Shared} {a : Addr} {y : V} {o : Option V} (I : Inv X pins σ H s) (g : DGet H a y o) :
    ∀ b, Value.ref a = .ref b → ∃ ob, s.heap.get? b = some ob ∧ ob.dict = none := fun b q => by
  cases q
  rcases g with ⟨kvs, k, e, _, _⟩ | ⟨kvs, k, b, e, _, _, _⟩
  · obtain ⟨_, _, vs, _, ob, _, _, h1, h2, _⟩ := dk_rd I.hok e
    exact ⟨ob, h1, h2.2.1⟩
  · obtain ⟨_, _, xs, _, ob, _, _, h1, h2, _⟩ := dt_rd I.hok e
    exact ⟨ob, h1, h2.2.1⟩

/-- d[y] -/
def tDGet (td ty : TE) : TE := fun σ H Q => td σ H fun x H1 => ty σ H1 fun y H2 => ∃ a v, x = .ref a ∧ DGet H2 a y (some v) ∧ Q v H2
/-- y in d, y not in d -/
def tDIn (ty td : TE) : TE := fun σ H Q => ty σ H fun y H1 => td σ H1 fun x H2 => ∃ a o, x = .ref a ∧ DGet H2 a y o ∧ Q (.bl o.isSome) H2
def tDNotIn (ty td : TE) : TE := fun σ H Q => ty σ H fun y H1 => td σ H1 fun x H2 => ∃ a o, x = .ref a ∧ DGet H2 a y o ∧ Q (.bl (!o.isSome)) H2
/-- d[y] = v -/
def sDPut (td ty tv : TE) : TS := fun D σ H => tv σ H fun v H1 => td σ H1 fun x H2 => ty σ H2 fun y H3 => ∃ a H4, x = .ref a ∧ DPut H3 a y v H4 ∧ D.nx σ H4
/-- d[y] op= v -/
def sDAug (td ty tv : TE) (rd : V → V → Hp → VK → Prop) : TS := fun D σ H => td σ H fun x H1 => ty σ H1 fun y H2 => ∃ a v, x = .ref a ∧ DGet H2 a y (some v) ∧
  tv σ H2 fun y2 H3 => rd v y2 H3 fun z H4 => ∃ H5, DPut H4 a y z H5 ∧ D.nx σ H5
/-- del d[y] -/
def sDDel (td ty : TE) : TS := fun D σ H => td σ H fun x H1 => ty σ H1 fun y H2 => ∃ a kvs k, x = .ref a ∧ H2 a = some (.dK kvs) ∧ y = kV k ∧ (valV kvs k).isSome = true ∧ D.nx σ (upd H2 a (.dK (dropK kvs k)))

section
variable {X : Cx} {o i e value : Expr} {pos pos' tpos : Pos} {td ty tv : TE}
theorem pe_dget (hu : X.A.units + 1 < cLine) (ho : PE X o td) (hi : PE X i ty) (hs : NoSl i) : PE X (.Subscript o i pos) (tDGet td ty) := by
  intro pins s σ H Q I h
  refine subD_of PySem.F.slot_dict_getitem.lookup hs (thn (ho pins s σ H _ I h) fun u s1 ⟨x, H1, I1, rx, q1⟩ => thn (hi pins s1 σ H1 _ I1 q1) fun iv s2 ⟨y, H2, I2, ry, a, v, ex, g, q2⟩ => ?_)
  subst ex
  obtain rfl : u = Value.ref a := rx
  exact ⟨dict_typeIs I2 g, d_getItem hu I2 g ry fun w' s3 I3 rw' => ⟨v, H2, I3, rw', q2⟩⟩
theorem pc_din (hu : X.A.units + 1 < cLine) (hi : PE X i ty) (ho : PE X o td) : PC X .In i o (tDIn ty td) := by
  intro pins s σ H Q I h
  refine thn (hi pins s σ H _ I h) fun iv s1 ⟨y, H1, I1, ry, q1⟩ => thn (ho pins s1 σ H1 _ I1 q1) fun u s2 ⟨x, H2, I2, rx, a, ov, ex, g, q2⟩ => ?_
  subst ex
  obtain rfl : u = Value.ref a := rx
  exact d_in hu I2 g ry fun s3 I3 => ⟨.bl ov.isSome, H2, I3, rfl, q2⟩
theorem pc_dnotin (hu : X.A.units + 1 < cLine) (hi : PE X i ty) (ho : PE X o td) : PC X .NotIn i o (tDNotIn ty td) := by
  intro pins s σ H Q I h
  refine thn (hi pins s σ H _ I h) fun iv s1 ⟨y, H1, I1, ry, q1⟩ => thn (ho pins s1 σ H1 _ I1 q1) fun u s2 ⟨x, H2, I2, rx, a, ov, ex, g, q2⟩ => ?_
  subst ex
  obtain rfl : u = Value.ref a := rx
  exact d_notIn hu I2 g ry fun s3 I3 => ⟨.bl (!ov.isSome), H2, I3, rfl, q2⟩
theorem ps_dput (hu : X.A.units + 1 < cLine) (ho : PE X o td) (hi : PE X i ty) (hv : PE X value tv) (hs : swapsWith value (some (.Subscript o i pos')) pos.line X.env = pure false) :
    PS X (.Assign [.Subscript o i pos'] value pos) (sDPut td ty tv) := by
  intro pins s σ H D I h
  refine wpAny_Assign_Subscript (thn (hv pins s σ H _ I h) fun r s1 ⟨v, H1, I1, rv, q1⟩ => thn (ho pins s1 σ H1 _ I1 q1) fun u s2 ⟨x, H2, I2, rx, q2⟩ => thn (hi pins s2 σ H2 _ I2 q2) fun iv s3 ⟨y, H3, I3, ry, a, H4, ex, g, q3⟩ => ?_) hs
  subst ex
  obtain rfl : u = Value.ref a := rx
  exact d_setItem hu I3 g ry rv fun s4 I4 => ⟨σ, H4, I4, q3⟩
theorem ps_daug {op : Operator} {rd : V → V → Hp → VK → Prop} (hu : X.A.units + 1 < cLine) (ho : PE X o td) (hi : PE X i ty) (hv : PE X value tv) (hop : InOp X op rd)
    (ha : ∀ ov iv new, augStore i ov iv new = (do holding [new, ov, iv] (setItem ov iv new); release [new, ov, iv] []; pure .next)) : PS X (.AugAssign (.Subscript o i tpos) op value pos) (sDAug td ty tv rd) := by
  intro pins s σ H D I h
  refine wpAny_AugAssign_SubscriptAny (thn (ho pins s σ H _ I h) fun u s1 ⟨x, H1, I1, rx, q1⟩ => thn (hi pins s1 σ H1 _ I1 q1) fun iv s2 ⟨y, H2, I2, ry, a, v, ex, g, q2⟩ => ?_) ha
  subst ex
  obtain rfl : u = Value.ref a := rx
  refine d_getItem hu I2 g ry fun w' s3 I3 rw' => thn (hv pins s3 σ H2 _ I3 q2) fun w2 s4 ⟨y2, H3, I4, ry2, q3⟩ => thn (hop pins s4 σ H3 v y2 w' w2 _ I4 rw' ry2 q3) fun w3 s5 ⟨z, H4, I5, rz, H5, g5, q4⟩ => ?_
  exact d_setItem hu I5 g5 ry rz fun s6 I6 => ⟨σ, H5, I6, q4⟩
theorem ps_ddel (ho : PE X o td) (hi : PE X i ty) : PS X (.Delete [.Subscript o i tpos] pos) (sDDel td ty) := by
  intro pins s σ H D I h
  refine wpAny_Delete (wpAny_deleteEach_cons (wpAny_delete_Subscript (thn (ho pins s σ H _ I h) fun u s1 ⟨x, H1, I1, rx, q1⟩ => thn (hi pins s1 σ H1 _ I1 q1) fun iv s2 ⟨y, H2, I2, ry, a, kvs, k, ex, e, ey, l, q2⟩ => ?_)))
  subst ex ey
  obtain rfl : u = Value.ref a := rx
  exact d_delItem I2 e ry l fun s3 I3 => wpAny_deleteEach_nil ⟨σ, _, I3, q2⟩
end


/-! ### displays -/
theorem dk_empty {P : Program} {w : World} {H : Hp} (h : Heap) (hb : sysModules < h.objs.size) : ObjOk P w H (h.push { cls := .type "dict", data := .dict #[] }) h.objs.size (.dK []) :=
  ⟨Nat.zero_le _, beq_eq_false_iff_ne.mpr (Ne.symm (Nat.ne_of_lt hb)), [], .nil, Heap.DictOf.new h⟩
theorem dt_empty {P : Program} {w : World} {H : Hp} (h : Heap) (hb : sysModules < h.objs.size) : ObjOk P w H (h.push { cls := .type "dict", data := .dict #[] }) h.objs.size (.dT []) :=
  ⟨Nat.zero_le _, beq_eq_false_iff_ne.mpr (Ne.symm (Nat.ne_of_lt hb)), [], .nil, _, #[], 0, Heap.get?_push_size _ rfl, ⟨rfl, rfl, rfl⟩, rfl, rfl, List.nodup_nil⟩
/-- {}, to be a dict of the kind that is wanted -/
def tDNewK : TE := fun _ H Q => ∀ p, H p = none → Q (.ref p) (upd H p (.dK []))
def tDNewT : TE := fun _ H Q => ∀ p, H p = none → Q (.ref p) (upd H p (.dT []))
section
variable {X : Cx} {pos : Pos}
theorem pe_dnewK : PE X (.Dict [] [] pos) tDNewK := fun pins s σ H Q I h =>
  wpAny_Dict_empty ⟨.ref s.heap.objs.size, _, I.laid (a := s.heap.objs.size) (o := .dK []) (t' := s.toks) (fun _ _ q => Heap.get?_push_of_some _ q) (Nat.le_refl _) (dk_empty s.heap I.big), rfl, h _ (I.hok.fresh (Nat.le_refl _))⟩
theorem pe_dnewT : PE X (.Dict [] [] pos) tDNewT := fun pins s σ H Q I h =>
  wpAny_Dict_empty ⟨.ref s.heap.objs.size, _, I.laid (a := s.heap.objs.size) (o := .dT []) (t' := s.toks) (fun _ _ q => Heap.get?_push_of_some _ q) (Nat.le_refl _) (dt_empty s.heap I.big), rfl, h _ (I.hok.fresh (Nat.le_refl _))⟩
end

/-- the pairs of a display, from the left -/
def tPairs : List (TE × TE) → St → Hp → (List (V × V) → Hp → Prop) → Prop
  | [], _, H, Q => Q [] H
  | (tk, tv) :: r, σ, H, Q => tk σ H fun x H1 => tv σ H1 fun y H2 => tPairs r σ H2 fun ps H3 => Q ((x, y) :: ps) H3
abbrev VV : List (V × V) → List (Value × Value) → Prop := Paired fun p q => RelV p.1 q.1 ∧ RelV p.2 q.2
def PPs (X : Cx) (pos : Pos) (keys : List (Option Expr)) (values : List Expr) (trs : List (TE × TE)) : Prop :=
  ∀ (pins : List (Addr × Obj)) (s : Shared) (σ : St) (H : Hp) (Q : List (V × V) → Hp → Prop), Inv X pins σ H s → tPairs trs σ H Q →
    wpAny (model X.prog X.w) X.A (evalPairs (pairTrees keys values X.env pos)) (fun vs s' => ∃ ps H', Inv X pins σ H' s' ∧ VV ps vs ∧ Q ps H') X.xe s
theorem pps_nil {X : Cx} {pos : Pos} : PPs X pos [] [] [] := fun pins s σ H Q I h => pairTrees_nil_walk ⟨[], H, I, .nil, h⟩
theorem pps_cons {X : Cx} {pos : Pos} {k v : Expr} {ks : List (Option Expr)} {vs : List Expr} {tk tv : TE} {trs : List (TE × TE)} (hk : PE X k tk) (hv : PE X v tv) (hr : PPs X pos ks vs trs) :
    PPs X pos (some k :: ks) (v :: vs) ((tk, tv) :: trs) := fun pins s σ H Q I h =>
  pairTrees_cons_walk (thn (hk pins s σ H _ I h) fun u s1 ⟨x, H1, I1, rx, q1⟩ => thn (hv pins s1 σ H1 _ I1 q1) fun w2 s2 ⟨y, H2, I2, ry, q2⟩ =>
    thn (hr pins s2 σ H2 _ I2 q2) fun ws s3 ⟨ps, H3, I3, rel, q3⟩ => ⟨(x, y) :: ps, H3, I3, .cons ⟨rx, ry⟩ rel, q3⟩)

def mergeK (kvs more : List (Key × V)) : List (Key × V) := more.foldl (fun acc kv => putK acc kv.1 kv.2) kvs
theorem KV.merge : ∀ {more : List (Key × V)} {rs : List (Key × Value)} {kvs : List (Key × V)} {vs : List (Key × Value)}, KV more rs → KV kvs vs → KV (mergeK kvs more) (merged vs rs) := by
  intro more rs kvs vs r
  unfold KV at r
  induction r generalizing kvs vs with
  | nil => intro q; exact q
  | @cons p q ps qs h t ih =>
    intro r0
    have e : KV (putK kvs p.1 p.2) (stored vs q.1 q.2) := by
      have := r0.put p.1 h.2
      rw [← h.1]; exact this
    exact ih e
theorem length_mergeK : ∀ (more kvs : List (Key × V)), (mergeK kvs more).length ≤ kvs.length + more.length
  | [], kvs => by show kvs.length ≤ kvs.length + 0; omega
  | p :: r, kvs => by
    have h1 := length_mergeK r (putK kvs p.1 p.2)
    have h2 := length_putK kvs p.1 p.2
    show (mergeK (putK kvs p.1 p.2) r).length ≤ _
    rw [List.length_cons]; omega
theorem carries_of {P : Program} {w : World} : ∀ {kvs : List (Key × V)} {ws : List (Value × Value)}, VV (kvs.map fun kv => (kV kv.1, kv.2)) ws → ∃ rs, Carries (mixKind P w) ws rs ∧ KV kvs rs
  | [], _, r => by rw [List.map_nil] at r; cases r; exact ⟨[], True.intro, .nil⟩
  | p :: kvs, _, r => by
    rw [List.map_cons] at r
    cases r with
    | @cons a b as bs h t =>
      obtain ⟨rs, c, q⟩ := carries_of (P := P) (w := w) t
      obtain ⟨b1, b2⟩ := b
      exact ⟨(p.1, b2) :: rs, ⟨kV_is h.1, rfl, c⟩, .cons ⟨rfl, h.2⟩ q⟩
/-- {k: v, ..} with keys ints and texts; the new dict stands empty while the pairs are made -/
def tDisp (trs : List (TE × TE)) : TE := fun σ H Q => ∀ p, H p = none → tPairs trs σ (upd H p (.dK [])) fun ps H2 => H2 p = some (.dK []) ∧ ∃ kvs : List (Key × V), ps = kvs.map (fun kv => (kV kv.1, kv.2)) ∧ kvs.length ≤ 15 ∧ Q (.ref p) (upd H2 p (.dK (mergeK [] kvs)))
theorem pe_disp {X : Cx} {pos : Pos} {keys : List (Option Expr)} {values : List Expr} {trs : List (TE × TE)} (h : PPs X pos keys values trs) (hall : keys.all (·.isSome) = true) (hl : keys.length = values.length) (h0 : keys ≠ [])
    (h15 : keys.length ≤ 15) : PE X (.Dict keys values pos) (tDisp trs) := by
  intro pins s σ H Q I q
  have hn := I.hok.fresh (Nat.le_refl s.heap.objs.size)
  have I1 := I.laid (a := s.heap.objs.size) (o := .dK []) (h' := s.heap.push { cls := .type "dict", data := .dict #[] }) (t' := s.toks) (fun _ _ q => Heap.get?_push_of_some _ q) (Nat.le_refl _) (dk_empty s.heap I.big)
  refine wpAny_Dict_walk (knd := mixKind X.prog X.w) hall hl h0 h15 (thn (h pins _ σ _ _ I1 (q _ hn)) fun ws s2 ⟨ps, H2, I2, rel, e, kvs, ep, lk, q2⟩ => ?_)
  subst ep
  obtain ⟨rs, c, rk⟩ := carries_of (P := X.prog) (w := X.w) rel
  obtain ⟨z, hd, vs0, r0, dd⟩ := dk_of I2.hok e
  cases r0
  refine ⟨rs, c, dd, fun h' dd' hs => ⟨.ref s.heap.objs.size, _, ?_, rfl, q2⟩⟩
  have hz : (mergeK [] kvs).length ≤ sizeLine := by
    have h1 := length_mergeK kvs []
    rw [List.length_nil] at h1
    rw [sizeLine_eq]; omega
  have he : ∃ q, h'.get? s.heap.objs.size = some q := let ⟨q, _, _, hq, _⟩ := dd'; ⟨q, hq⟩
  exact d_write I2 (by rw [e]; exact True.intro) hs he (dk_new hz hd (rk.merge .nil) dd')


/-! ### methods -/
/-- a method call o.m(e) of a built-in, with one argument: what must be seen of the text -/
structure M1 (X : Cx) (o : Expr) (m : Str) (apos : Pos) (e : Expr) (cpos : Pos) : Prop where
  base : attributeBase o m X.env (eval o X.env) = eval o X.env
  few : ((backTo cpos (starEach [e] X.env)).all (fun x => !x.1) && (backToKw cpos (keywordEach [] X.env)).all (fun x => x.1.isSome)
    && decide (([e] : List Expr).length + ([] : List Keyword).length + (if ([] : List Keyword).isEmpty then 0 else 1) < 30)) = true
  line : (apos.endLine == cpos.line) = true
  trees : backTo cpos (starEach [e] X.env) = [(false, eval e X.env)]
structure M2 (X : Cx) (o : Expr) (m : Str) (apos : Pos) (e f : Expr) (cpos : Pos) : Prop where
  base : attributeBase o m X.env (eval o X.env) = eval o X.env
  few : ((backTo cpos (starEach [e, f] X.env)).all (fun x => !x.1) && (backToKw cpos (keywordEach [] X.env)).all (fun x => x.1.isSome)
    && decide (([e, f] : List Expr).length + ([] : List Keyword).length + (if ([] : List Keyword).isEmpty then 0 else 1) < 30)) = true
  line : (apos.endLine == cpos.line) = true
  trees : backTo cpos (starEach [e, f] X.env) = [(false, eval e X.env), (false, eval f X.env)]

/-- a is a dict, whatever its keys -/
def IsD (H : Hp) (a : Addr) : Prop := (∃ kvs, Rd H a (.dK kvs)) ∨ ∃ kvs, Rd H a (.dT kvs)
theorem isD_at {X : Cx} {pins : List (Addr × Obj)} {σ : St} {H : Hp} {s : Shared} {a : Addr} (I : Inv X pins σ H s) (d : IsD H a) :
    s.TypeIs (.ref a) "dict" ∧ (∀ b, Value.ref a = .ref b → ∃ ob, s.heap.get? b = some ob ∧ ob.dict = none) ∧ (a == sysModules) = false := by
  rcases d with ⟨kvs, e⟩ | ⟨kvs, e⟩
  · obtain ⟨_, hd, vs, _, dd⟩ := dk_rd I.hok e
    refine ⟨dd.typeIs, fun b q => ?_, hd⟩
    cases q
    obtain ⟨ob, _, _, h1, h2, _⟩ := dd
    exact ⟨ob, h1, h2.2.1⟩
  · obtain ⟨_, hd, xs, _, dd⟩ := dt_rd I.hok e
    refine ⟨dd.typeIs, fun b q => ?_, hd⟩
    cases q
    obtain ⟨ob, _, _, h1, h2, _⟩ := dd
    exact ⟨ob, h1, h2.2.1⟩

section
variable {X : Cx} {pins : List (Addr × Obj)} {σ : St} {H : Hp} {s : Shared} {a : Addr} {y d : V} {u r : Value} {o : Option V} {A : Around} {E : Value → Shared → Prop}
/-- d.get(y) -/
theorem d_get1 {Q : Value → Shared → Prop} (hu : A.units + 1 < cLine) (I : Inv X pins σ H s) (g : DGet H a y o) (ry : RelV y u) (h : ∀ w' s', Inv X pins σ H s' → RelV (o.getD .non) w' → Q w' s') :
    wpAny (model X.prog X.w) A (call (.builtin "dict.get") [.ref a, u]) Q E s := by
  rcases g with ⟨kvs, k, e, ey, l⟩ | ⟨kvs, k, b, e, ey, eb, l⟩
  · subst ey
    obtain ⟨z, hd, vs, rel, dd⟩ := dk_rd I.hok e
    refine call_meetsIn PySem.F.slot_dict_get dd.typeIs PySem.F.entry_dict_get (PySem.F.args_dict_get_2 _ _) (meets_dict_get (mixKind X.prog X.w) a (kV_is ry) hd) ⟨_, dd.mapOf, h _ _ (I.tok _) ?_⟩
    rw [l]
    exact (rel.val k).getD rfl
  · subst ey
    cases (show u = Value.ref b from ry)
    obtain ⟨z, hd, xs, rel, dd⟩ := dt_rd I.hok e
    refine call_meetsIn PySem.F.slot_dict_get dd.typeIs PySem.F.entry_dict_get (PySem.F.args_dict_get_2 _ _) (meetsH_dict_get (tupleKind (mixKind X.prog X.w)) a b hd) ⟨tupleKind_room_in1 hu, k, xs, key_of I.hok eb, dd, h _ _ (I.tok _) ?_⟩
    rw [l]
    exact (rel.val k).getD rfl
/-- d.get(y, x) -/
theorem d_get2 {Q : Value → Shared → Prop} (hu : A.units + 1 < cLine) (I : Inv X pins σ H s) (g : DGet H a y o) (ry : RelV y u) (rd : RelV d r) (h : ∀ w' s', Inv X pins σ H s' → RelV (o.getD d) w' → Q w' s') :
    wpAny (model X.prog X.w) A (call (.builtin "dict.get") [.ref a, u, r]) Q E s := by
  rcases g with ⟨kvs, k, e, ey, l⟩ | ⟨kvs, k, b, e, ey, eb, l⟩
  · subst ey
    obtain ⟨z, hd, vs, rel, dd⟩ := dk_rd I.hok e
    refine call_meetsIn PySem.F.slot_dict_get dd.typeIs PySem.F.entry_dict_get (PySem.F.args_dict_get_3 _ _ _) (meets_dict_get_default (mixKind X.prog X.w) a (kV_is ry) hd r) ⟨_, dd.mapOf, h _ _ (I.tok _) ?_⟩
    rw [l]
    exact (rel.val k).getD rd
  · subst ey
    cases (show u = Value.ref b from ry)
    obtain ⟨z, hd, xs, rel, dd⟩ := dt_rd I.hok e
    refine call_meetsIn PySem.F.slot_dict_get dd.typeIs PySem.F.entry_dict_get (PySem.F.args_dict_get_3 _ _ _) (meetsH_dict_get_default (tupleKind (mixKind X.prog X.w)) a b hd r) ⟨tupleKind_room_in1 hu, k, xs, key_of I.hok eb, dd, h _ _ (I.tok _) ?_⟩
    rw [l]
    exact (rel.val k).getD rd
end

def tDGet1 (td ty : TE) : TE := fun σ H Q => td σ H fun x H1 => ∃ a, x = .ref a ∧ IsD H1 a ∧ ty σ H1 fun y H2 => ∃ o, DGet H2 a y o ∧ Q (o.getD .non) H2
def tDGet2 (td ty tx : TE) : TE := fun σ H Q => td σ H fun x H1 => ∃ a, x = .ref a ∧ IsD H1 a ∧ ty σ H1 fun y H2 => tx σ H2 fun z H3 => ∃ o, DGet H3 a y o ∧ Q (o.getD z) H3
/-- d.pop(k): there; d.pop(k, x): there or not -/
def tDPop1 (td ty : TE) : TE := fun σ H Q => td σ H fun x H1 => ∃ a, x = .ref a ∧ IsD H1 a ∧ ty σ H1 fun y H2 => ∃ kvs k v, H2 a = some (.dK kvs) ∧ y = kV k ∧ valV kvs k = some v ∧ Q v (upd H2 a (.dK (dropK kvs k)))
def tDPop2 (td ty tx : TE) : TE := fun σ H Q => td σ H fun x H1 => ∃ a, x = .ref a ∧ IsD H1 a ∧ ty σ H1 fun y H2 => tx σ H2 fun z H3 => ∃ kvs k, H3 a = some (.dK kvs) ∧ y = kV k ∧
  (∀ v, valV kvs k = some v → Q v (upd H3 a (.dK (dropK kvs k)))) ∧ (valV kvs k = none → Q z H3)
section
variable {X : Cx} {o e f : Expr} {apos cpos : Pos} {td ty tx : TE}
theorem pe_dget1 (hu : X.A.units + 1 < cLine) (ho : PE X o td) (he : PE X e ty) (m : M1 X o "get" apos e cpos) : PE X (.Call (.Attribute o "get" apos) [e] [] cpos) (tDGet1 td ty) := by
  intro pins s σ H Q I h
  refine wpAny_Call_method m.base m.few m.line PySem.F.plainAttrs_dict PySem.F.slot_dict_get PySem.F.type_dict_get (thn (ho pins s σ H _ I h) fun u s1 ⟨x, H1, I1, rx, a, ex, d, q1⟩ => ?_)
  subst ex
  obtain rfl : u = Value.ref a := rx
  obtain ⟨t1, t2, _⟩ := isD_at I1 d
  refine ⟨t1, t2, ?_⟩
  rw [m.trees]
  refine Calls.callWith_builtin rfl (Calls.evalArgs_plain (Calls.spliced_cons (thn (he pins s1 σ H1 _ I1 q1) fun iv s2 ⟨y, H2, I2, ry, ov, g, q2⟩ => Calls.spliced_nil ?_)))
  exact d_get1 hu I2 g ry fun w' s3 I3 rw' => ⟨_, H2, I3, rw', q2⟩
theorem pe_dget2 (hu : X.A.units + 1 < cLine) (ho : PE X o td) (he : PE X e ty) (hf : PE X f tx) (m : M2 X o "get" apos e f cpos) : PE X (.Call (.Attribute o "get" apos) [e, f] [] cpos) (tDGet2 td ty tx) := by
  intro pins s σ H Q I h
  refine wpAny_Call_method m.base m.few m.line PySem.F.plainAttrs_dict PySem.F.slot_dict_get PySem.F.type_dict_get (thn (ho pins s σ H _ I h) fun u s1 ⟨x, H1, I1, rx, a, ex, d, q1⟩ => ?_)
  subst ex
  obtain rfl : u = Value.ref a := rx
  obtain ⟨t1, t2, _⟩ := isD_at I1 d
  refine ⟨t1, t2, ?_⟩
  rw [m.trees]
  refine Calls.callWith_builtin rfl (Calls.evalArgs_plain (Calls.spliced_cons (thn (he pins s1 σ H1 _ I1 q1) fun iv s2 ⟨y, H2, I2, ry, q2⟩ =>
    Calls.spliced_cons (thn (hf pins s2 σ H2 _ I2 q2) fun fv s3 ⟨z, H3, I3, rz, ov, g, q3⟩ => Calls.spliced_nil ?_))))
  exact d_get2 hu I3 g ry rz fun w' s4 I4 rw' => ⟨_, H3, I4, rw', q3⟩
theorem pe_dpop1 (ho : PE X o td) (he : PE X e ty) (m : M1 X o "pop" apos e cpos) : PE X (.Call (.Attribute o "pop" apos) [e] [] cpos) (tDPop1 td ty) := by
  intro pins s σ H Q I h
  refine wpAny_Call_method m.base m.few m.line PySem.F.plainAttrs_dict PySem.F.slot_dict_pop PySem.F.type_dict_pop (thn (ho pins s σ H _ I h) fun u s1 ⟨x, H1, I1, rx, a, ex, d, q1⟩ => ?_)
  subst ex
  obtain rfl : u = Value.ref a := rx
  obtain ⟨t1, t2, _⟩ := isD_at I1 d
  refine ⟨t1, t2, ?_⟩
  rw [m.trees]
  refine Calls.callWith_builtin rfl (Calls.evalArgs_plain (Calls.spliced_cons (thn (he pins s1 σ H1 _ I1 q1) fun iv s2 ⟨y, H2, I2, ry, kvs, k, v, ea, ey, l, q2⟩ => Calls.spliced_nil ?_)))
  subst ey
  exact d_pop I2 ea ry l (.inl rfl) fun w' s3 I3 rw' => ⟨v, _, I3, rw', q2⟩
theorem pe_dpop2 (ho : PE X o td) (he : PE X e ty) (hf : PE X f tx) (m : M2 X o "pop" apos e f cpos) : PE X (.Call (.Attribute o "pop" apos) [e, f] [] cpos) (tDPop2 td ty tx) := by
  intro pins s σ H Q I h
  refine wpAny_Call_method m.base m.few m.line PySem.F.plainAttrs_dict PySem.F.slot_dict_pop PySem.F.type_dict_pop (thn (ho pins s σ H _ I h) fun u s1 ⟨x, H1, I1, rx, a, ex, d, q1⟩ => ?_)
  subst ex
  obtain rfl : u = Value.ref a := rx
  obtain ⟨t1, t2, _⟩ := isD_at I1 d
  refine ⟨t1, t2, ?_⟩
  rw [m.trees]
  refine Calls.callWith_builtin rfl (Calls.evalArgs_plain (Calls.spliced_cons (thn (he pins s1 σ H1 _ I1 q1) fun iv s2 ⟨y, H2, I2, ry, q2⟩ =>
    Calls.spliced_cons (thn (hf pins s2 σ H2 _ I2 q2) fun fv s3 ⟨z, H3, I3, rz, kvs, k, ea, ey, q3, q4⟩ => Calls.spliced_nil ?_))))
  subst ey
  cases l : valV kvs k with
  | some v => exact d_pop I3 ea ry l (.inr ⟨fv, rfl⟩) fun w' s4 I4 rw' => ⟨v, _, I4, rw', q3 v l⟩
  | none => exact d_popD I3 ea ry l fun s4 I4 => ⟨z, H3, I4, rz, q4 l⟩
end

/-! ### dict(d): a copy -/
section
variable {X : Cx} {pins : List (Addr × Obj)} {σ : St} {H : Hp} {s : Shared} {a : Addr} {kvs : List (Key × V)} {A : Around} {E : Value → Shared → Prop}
theorem d_copyOf {Q : Value → Shared → Prop} (I : Inv X pins σ H s) (e : Rd H a (.dK kvs)) (h : ∀ p s', H p = none → Inv X pins σ (upd H p (.dK kvs)) s' → Q (.ref p) s') : wpAny (model X.prog X.w) A (call (.type "dict") [.ref a]) Q E s := by
  obtain ⟨z, hd, vs, rel, dd⟩ := dk_rd I.hok e
  refine kt_call_dict hd dd (by rw [← rel.length]; exact z) fun h' dd' hs => ?_
  refine h _ _ (I.hok.fresh (Nat.le_refl _)) (I.laid (a := s.heap.objs.size) (o := .dK kvs) (t' := s.toks) (fun b q hq => ?_) (Nat.le_refl _) (dk_new z (beq_eq_false_iff_ne.mpr (Ne.symm (Nat.ne_of_lt I.big))) rel dd'))
  exact (hs.2 b (Nat.ne_of_lt (Heap.lt_size hq))).trans (Heap.get?_push_of_some _ hq)
end


section
variable {X : Cx} {pins : List (Addr × Obj)} {σ : St} {H : Hp} {s : Shared} {a : Addr} {y : V} {u : Value} {A : Around} {E : Value → Shared → Prop}
/-- d[y], not there: a KeyError -/
theorem d_missing {Q : Value → Shared → Prop} (hu : A.units + 1 < cLine) (hh : A.handled = none) (I : Inv X pins σ H s) (g : DGet H a y none) (ry : RelV y u)
    (h : ∀ h' e t', Heap.NewExc s.heap h' e "KeyError" → E (.ref e) { s with heap := h', toks := t' }) : wpAny (model X.prog X.w) A (getItem (.ref a) u) Q E s := by
  rcases g with ⟨kvs, k, e, ey, l⟩ | ⟨kvs, k, b, e, ey, eb, l⟩
  · subst ey
    obtain ⟨z, hd, vs, rel, dd⟩ := dk_rd I.hok e
    have hn : valueAt vs k = none := RelO.none_of (by rw [l]; exact rel.val k)
    exact wpAny_getItem_missing_of (kV_is ry) hd hh dd.mapOf hn fun h' ex ne => h h' ex _ ne
  · subst ey
    cases (show u = Value.ref b from ry)
    obtain ⟨z, hd, xs, rel, dd⟩ := dt_rd I.hok e
    have hn : (atKey xs k).map (·.2) = none := RelO.none_of (by rw [l]; exact rel.val k)
    exact wpAny_getItem_missing_heap (tupleKind_room_in1 hu) (key_of I.hok eb) hd hh dd (Option.map_eq_none_iff.mp hn) fun h' ex ne => h h' ex _ ne
end
end L2


namespace L2
open PySem PySem.Spec PyProof.Rows
section
variable {X : Cx}
/-- len of a dict -/
theorem call_lenD : CallR X (.builtin "len") (fun xs H Q => ∃ a kvs, xs = [V.ref a] ∧ H a = some (.dK kvs) ∧ Q (.int kvs.length) H) := by
  intro pins s σ H xs us Q I r h
  obtain ⟨a, kvs, rfl, ha, q⟩ := h
  obtain ⟨u, rfl, ru⟩ := vals1 r
  cases ru
  exact d_len I (.inl ha) fun t s' I' => ⟨.int kvs.length, H, I', ⟨t, rfl⟩, q⟩
end
/-! ### a dict's pairs: keys that differ -/
section
variable {κ : Type} [DecidableEq κ]
theorem valV_not {kvs : List (κ × V)} {k : κ} (h : valV kvs k = none) : ¬ k ∈ kvs.map (·.1) := by
  intro m
  obtain ⟨p, hp, e⟩ := List.mem_map.mp m
  have q : (kvs.any fun kv => decide (kv.1 = k)) = true := List.any_eq_true.mpr ⟨p, hp, decide_eq_true e⟩
  rw [valV_any, h] at q
  exact absurd q (by simp)
theorem valV_in {kvs : List (κ × V)} {k : κ} {v : V} (h : valV kvs k = some v) : k ∈ kvs.map (·.1) := by
  have q : (kvs.any fun kv => decide (kv.1 = k)) = true := by
    rw [valV_any, h]
    all_goals rfl
  obtain ⟨p, hp, e⟩ := List.any_eq_true.mp q
  exact List.mem_map.mpr ⟨p, hp, of_decide_eq_true e⟩
theorem nd_snoc : ∀ {l : List κ} {k : κ}, l.Nodup → ¬ k ∈ l → (l ++ [k]).Nodup
  | [], k, _, _ => by simp
  | a :: r, k, h, hk => by
    obtain ⟨h1, h2⟩ := List.nodup_cons.mp h
    show (a :: (r ++ [k])).Nodup
    refine List.nodup_cons.mpr ⟨fun m => ?_, nd_snoc h2 fun m => hk (List.mem_cons.mpr (Or.inr m))⟩
    rcases List.mem_append.mp m with q | q
    · exact h1 q
    · exact hk (List.mem_cons.mpr (Or.inl (List.mem_singleton.mp q).symm))
theorem nd_putK {kvs : List (κ × V)} {k : κ} (v : V) (hn : (kvs.map (·.1)).Nodup) (h : valV kvs k = none) : ((putK kvs k v).map (·.1)).Nodup := by
  rw [putK_new v h, List.map_append]
  exact nd_snoc hn (valV_not h)
theorem dropK_pos {p : κ × V} {r : List (κ × V)} {k : κ} (e : p.1 = k) : dropK (p :: r) k = dropK r k := by
  unfold dropK
  rw [List.filter_cons, if_neg (by simp [e])]
theorem dropK_neg {p : κ × V} {r : List (κ × V)} {k : κ} (e : ¬ p.1 = k) : dropK (p :: r) k = p :: dropK r k := by
  unfold dropK
  rw [List.filter_cons, if_pos (by simp [e])]
theorem dropK_no : ∀ {kvs : List (κ × V)} {k : κ}, ¬ k ∈ kvs.map (·.1) → dropK kvs k = kvs
  | [], _, _ => rfl
  | p :: r, k, h => by
    have h' : ¬ k ∈ r.map (·.1) := fun m => by
      obtain ⟨q, hq, e⟩ := List.mem_map.mp m
      exact h (List.mem_map.mpr ⟨q, List.mem_cons.mpr (Or.inr hq), e⟩)
    rw [dropK_neg fun e => h (List.mem_map.mpr ⟨p, List.mem_cons.mpr (Or.inl rfl), e⟩), dropK_no h']
theorem dropK_mem {kvs : List (κ × V)} {k : κ} {p : κ × V} (h : p ∈ dropK kvs k) : p ∈ kvs := (List.mem_filter.mp h).1
theorem nd_dropK : ∀ {kvs : List (κ × V)} {k : κ}, (kvs.map (·.1)).Nodup → ((dropK kvs k).map (·.1)).Nodup
  | [], _, _ => List.nodup_nil
  | p :: r, k, h => by
    have h : (p.1 :: r.map (·.1)).Nodup := h
    obtain ⟨h1, h2⟩ := List.nodup_cons.mp h
    by_cases e : p.1 = k
    · rw [dropK_pos e]
      exact nd_dropK h2
    · rw [dropK_neg e]
      show (p.1 :: (dropK r k).map (·.1)).Nodup
      refine List.nodup_cons.mpr ⟨fun m => h1 ?_, nd_dropK h2⟩
      obtain ⟨q, hq, eq⟩ := List.mem_map.mp m
      exact List.mem_map.mpr ⟨q, dropK_mem hq, eq⟩
theorem dropK_len : ∀ {kvs : List (κ × V)} {k : κ}, (kvs.map (·.1)).Nodup → k ∈ kvs.map (·.1) → (dropK kvs k).length + 1 = kvs.length
  | [], _, _, m => by simp at m
  | p :: r, k, h, m => by
    have h : (p.1 :: r.map (·.1)).Nodup := h
    have m : k = p.1 ∨ k ∈ r.map (·.1) := List.mem_cons.mp m
    obtain ⟨h1, h2⟩ := List.nodup_cons.mp h
    by_cases e : p.1 = k
    · subst e
      rw [dropK_pos rfl, dropK_no h1]
      all_goals rfl
    · have m' : k ∈ r.map (·.1) := m.resolve_left fun z => e z.symm
      have q := dropK_len h2 m'
      rw [dropK_neg e, List.length_cons, List.length_cons]
      omega
end
end L2

set_option Elab.async false
set_option linter.all false
set_option maxRecDepth 100000
set_option maxHeartbeats 4000000
namespace L2
open PySem PySem.Spec PyProof.Rows

/-! ### comprehensions -/
def closOf (env : Env) : List (Str × NameKind) → List (Str × Addr) → List (Str × Addr)
  | [], acc => acc
  | (n, k) :: r, acc => closOf env r (if (k == NameKind.free) = true then (n, (env.cells.lookup n).getD 0) :: acc else acc)
theorem clos_loop {env : Env} (f : (Str × NameKind) → List (Str × Addr) → Sem (ForInStep (List (Str × Addr))))
    (hf : ∀ n k acc, f (n, k) acc = if (k == NameKind.free) = true then (cellOf env n >>= fun a => pure (.yield ((n, a) :: acc))) else pure (.yield acc)) :
    ∀ (l : List (Str × NameKind)) (acc : List (Str × Addr)), (∀ y ∈ l, y.2 = .free → ∃ c, env.cells.lookup y.1 = some c) → forIn l acc f = (pure (closOf env l acc) : Sem _)
  | [], acc, _ => rfl
  | (n, k) :: r, acc, h => by
    rw [List.forIn_cons, hf]
    have hr : ∀ y ∈ r, y.2 = .free → ∃ c, env.cells.lookup y.1 = some c := fun y hy => h y (List.mem_cons_of_mem _ hy)
    unfold closOf
    cases hk : (k == NameKind.free) with
    | true =>
      obtain ⟨c, hc⟩ := h (n, k) List.mem_cons_self (by simpa using hk)
      rw [if_pos rfl, if_pos rfl]
      have hc' : env.cells.lookup n = some c := hc
      simp only [cellOf, hc', pure_bind, Option.getD_some]
      exact clos_loop f hf r _ hr
    | false =>
      rw [if_neg Bool.false_ne_true, if_neg Bool.false_ne_true, pure_bind]
      exact clos_loop f hf r acc hr
theorem closureFor_eq {scope : Scope} {env : Env} (h : ∀ y ∈ scope.names, y.2 = .free → ∃ c, env.cells.lookup y.1 = some c) : closureFor scope env = pure (closOf env scope.names []) := by
  simp only [closureFor]
  rw [clos_loop (env := env) _ (fun n k acc => ?_) scope.names [] h, pure_bind]
  cases hk : (k == NameKind.free) <;> simp [hk]
theorem closOf_sub {env : Env} : ∀ {l : List (Str × NameKind)} {acc : List (Str × Addr)}, (∀ y ∈ l, y.2 = .free → ∃ c, env.cells.lookup y.1 = some c) → (∀ x c, acc.lookup x = some c → env.cells.lookup x = some c) →
    ∀ x c, (closOf env l acc).lookup x = some c → env.cells.lookup x = some c
  | [], _, _, ha, x, c, e => ha x c e
  | (n, k) :: r, acc, h, ha, x, c, e => by
    unfold closOf at e
    refine closOf_sub (l := r) (fun y hy => h y (List.mem_cons_of_mem _ hy)) (fun x c e => ?_) x c e
    cases hk : (k == NameKind.free) with
    | false => rw [hk, if_neg Bool.false_ne_true] at e; exact ha x c e
    | true =>
      rw [hk, if_pos rfl, List.lookup_cons] at e
      cases hx : x == n with
      | false => rw [hx] at e; exact ha x c e
      | true =>
        rw [hx] at e
        obtain ⟨d, hd⟩ := h (n, k) List.mem_cons_self (by simpa using hk)
        have hd' : env.cells.lookup n = some d := hd
        rw [hd', Option.getD_some] at e
        cases e
        rw [beq_iff_eq.mp hx]; exact hd'
theorem closOf_keep {env : Env} : ∀ {l : List (Str × NameKind)} {acc : List (Str × Addr)} {x : Str}, (acc.lookup x).isSome = true → ((closOf env l acc).lookup x).isSome = true
  | [], _, _, h => h
  | (n, k) :: r, acc, x, h => by
    unfold closOf
    refine closOf_keep (l := r) ?_
    cases hk : (k == NameKind.free) with
    | false => rw [if_neg Bool.false_ne_true]; exact h
    | true =>
      rw [if_pos rfl, List.lookup_cons]
      cases hx : x == n with
      | false => exact h
      | true => rfl
theorem closOf_has {env : Env} : ∀ {l : List (Str × NameKind)} {acc : List (Str × Addr)} {y : Str × NameKind}, y ∈ l → y.2 = .free → ((closOf env l acc).lookup y.1).isSome = true
  | (n, k) :: r, acc, y, hy, hk => by
    unfold closOf
    rcases List.mem_cons.mp hy with e | hy
    · subst e
      have hk' : (k == NameKind.free) = true := by simpa using hk
      rw [hk', if_pos rfl]
      exact closOf_keep (by rw [List.lookup_cons]; simp)
    · exact closOf_has hy hk

/-- the closed facts of a comprehension's scope: NX, SX the names and the scope of the body around it; own: how many names are its own; fi: the places of the others in the body around -/
structure CompScope (NX : List Str) (SX scope : Scope) (N : List Str) (own : Nat) (fi : List Nat) : Prop where
  kind : scope.kind = .function
  nocell : ∀ y ∈ scope.names, y.2 ≠ .cell
  names : ∀ y ∈ scope.names, y.2 = .local → scope.names.lookup y.1 = some .local
  free : ∀ y ∈ scope.names, y.2 = .free → SX.names.lookup y.1 = some .cell ∨ SX.names.lookup y.1 = some .free
  len : N.length = own + fi.length
  outs : ∀ p ∈ (N.drop own).zip fi, NX[p.2]? = some p.1 ∧ scope.names.lookup p.1 = some .free
def compSt (own : Nat) (fi : List Nat) (σ : St) : St := List.replicate own none ++ fi.map fun i => (σ[i]?).join
def Cx.comp (X : Cx) (scope : Scope) (N : List Str) (ex : List Addr) (s : Shared) (H : Hp) : Cx :=
  { X with N := N, s₀ := s, H₀ := H, env := compEnvC scope (closOf X.env scope.names []) s.heap.objs.size X.env, outer := X.stack, stack := X.stack, ex := ex, fn := fun _ => false, pn := [], xe := fun _ _ => False }

theorem lookup_relabel {env : Env} {x : Str} : ∀ {names : List (Str × NameKind)}, (∀ y ∈ names, y.2 ≠ .cell) →
    (∀ k, (names.map fun (n, k) => if (k == NameKind.free && env.scope.kind == .function && env.kindOf n == some .cell) then (n, NameKind.cell) else (n, k)).lookup x = some k → k = .cell ∨ k = .free → names.lookup x = some .free)
  | [], _, k, h, _ => by simp at h
  | (n, k0) :: r, hc, k, h, hk => by
    have ih := @lookup_relabel env x r (fun y hy => hc y (List.mem_cons_of_mem _ hy)) k
    rw [List.map_cons] at h
    have h0 : k0 ≠ .cell := hc (n, k0) List.mem_cons_self
    cases hx : x == n with
    | false =>
      have e : ∀ z : NameKind, List.lookup x ((n, z) :: (r.map fun (n, k) => if (k == NameKind.free && env.scope.kind == .function && env.kindOf n == some .cell) then (n, NameKind.cell) else (n, k))) = List.lookup x (r.map fun (n, k) => if (k == NameKind.free && env.scope.kind == .function && env.kindOf n == some .cell) then (n, NameKind.cell) else (n, k)) := fun z => by rw [List.lookup_cons, hx]
      rw [List.lookup_cons, hx]
      refine ih ?_ hk
      by_cases hcnd : (k0 == NameKind.free && env.scope.kind == .function && env.kindOf n == some .cell) = true
      · simp only [hcnd, if_true] at h; rw [e] at h; exact h
      · simp only [Bool.not_eq_true] at hcnd; simp only [hcnd] at h; rw [if_neg Bool.false_ne_true, e] at h; exact h
    | true =>
      rw [List.lookup_cons, hx]
      show some k0 = some .free
      by_cases hcnd : (k0 == NameKind.free && env.scope.kind == .function && env.kindOf n == some .cell) = true
      · have : (k0 == NameKind.free) = true := by
          simp only [Bool.and_eq_true] at hcnd; exact hcnd.1.1
        rw [beq_iff_eq.mp this]
      · simp only [Bool.not_eq_true] at hcnd
        simp only [hcnd] at h
        rw [if_neg Bool.false_ne_true, List.lookup_cons, hx] at h
        cases h
        rcases hk with z | z
        · exact absurd z h0
        · rw [z]
theorem lookup_relabel_free {env : Env} {x : Str} : ∀ {names : List (Str × NameKind)}, names.lookup x = some .free →
    (names.map fun (n, k) => if (k == NameKind.free && env.scope.kind == .function && env.kindOf n == some .cell) then (n, NameKind.cell) else (n, k)).lookup x = some .cell ∨
    (names.map fun (n, k) => if (k == NameKind.free && env.scope.kind == .function && env.kindOf n == some .cell) then (n, NameKind.cell) else (n, k)).lookup x = some .free
  | [], h => by simp at h
  | (n, k0) :: r, h => by
    rw [List.map_cons]
    cases hx : x == n with
    | false =>
      rw [List.lookup_cons, hx] at h
      have ih := @lookup_relabel_free env x r h
      by_cases hcnd : (k0 == NameKind.free && env.scope.kind == .function && env.kindOf n == some .cell) = true
      · simp only [hcnd, if_true, List.lookup_cons, hx]; exact ih
      · simp only [Bool.not_eq_true] at hcnd; simp only [hcnd]; rw [if_neg Bool.false_ne_true, List.lookup_cons, hx]; exact ih
    | true =>
      rw [List.lookup_cons, hx] at h
      cases h
      by_cases hcnd : (NameKind.free == NameKind.free && env.scope.kind == .function && env.kindOf n == some .cell) = true
      · left; simp only [hcnd, if_true, List.lookup_cons, hx]
      · right; simp only [Bool.not_eq_true] at hcnd; simp only [hcnd]; rw [if_neg Bool.false_ne_true, List.lookup_cons, hx]

section
variable {X : Cx} {pins : List (Addr × Obj)} {σ : St} {H : Hp} {s : Shared} {NX N : List Str} {SX scope : Scope} {own : Nat} {fi : List Nat}
theorem CompScope.cells (S : CompScope NX SX scope N own fi) (hS : X.env.scope = SX) (ok : X.Ok) : ∀ y ∈ scope.names, y.2 = .free → ∃ c, X.env.cells.lookup y.1 = some c := fun y hy hk => by
  refine ok.has y.1 ?_
  have := S.free y hy hk
  rw [← hS] at this
  exact this

/-- the block's start -/
theorem Inv.comp {fp : List Addr} {h₁ : Heap} {t' : Nat} (S : CompScope NX SX scope N own fi) (hN : X.N = NX) (hS : X.env.scope = SX) (I : Inv X pins σ H s) (hfp : ∀ b ∈ fp, FpOk X pins H b) (hlt : ∀ b ∈ fp, b < s.heap.objs.size)
    (hns : h₁.Ns s.heap.objs.size (fun _ => none)) (k : ∀ b o, s.heap.get? b = some o → h₁.get? b = some o) :
    Inv (X.comp scope N fp s H) [] (compSt own fi σ) H { s with heap := h₁, toks := t' } := by
  have hcl := S.cells hS I.ok
  have sub : ∀ x c, (closOf X.env scope.names []).lookup x = some c → X.env.cells.lookup x = some c := closOf_sub hcl fun x c e => by simp at e
  have kinds : ∀ x, ((X.comp scope N fp s H).env.kindOf x = some .cell ∨ (X.comp scope N fp s H).env.kindOf x = some .free) → scope.names.lookup x = some .free := fun x hx => by
    rcases hx with hx | hx
    · exact lookup_relabel S.nocell _ hx (.inl rfl)
    · exact lookup_relabel S.nocell _ hx (.inr rfl)
  refine ⟨⟨I.ok.mod, S.kind, I.ok.glob, I.ok.blt, Nat.le_refl _, fun x y c h1 h2 => I.ok.inj x y c (sub _ _ h1) (sub _ _ h2), fun x hx => ?_, fun x c h => by exact absurd (show false = true from h) Bool.false_ne_true, I.ok.hd, I.ok.frames, .inl rfl,
    fun b hb => ⟨?_, fun x c e => (hfp b hb).2.2.2.2.1 x c (sub x c e)⟩, I.bs, Nat.le_trans I.ok.bsz I.sz, fun b o e hb => ?_, fun b hb hf => ?_, I.stack, I.stkFree⟩,
    rfl, I.bare, Un.kept k, ⟨_, hns, fun i x v e1 e2 e3 => ?_⟩, fun x c e => ?_, I.hok.fresh (Nat.le_refl _), fun x c e => I.freeC x c (sub x c e), fun p hp => absurd (show p ∈ ([] : List (Addr × Obj)) from hp) (by simp), I.hok.kept k, ?_⟩
  · have := closOf_has (env := X.env) (acc := []) (PySem.mem_of_lookup (kinds x hx)) rfl
    exact Option.isSome_iff_exists.mp this
  · exact Nat.ne_of_lt (hlt b hb)
  · rcases (hfp b hb).2.2.2.1 with z | z
    · exact I.ok.noex b o e z
    · exact absurd (Nat.lt_of_lt_of_le (Heap.lt_size e) (Nat.le_trans I.ok.bsz z)) (Nat.lt_irrefl _)
  · rcases List.mem_cons.mp (I.stkSub b hf) with z | z
    · exact (hfp b hb).2.1 z
    · exact (hfp b hb).2.2.1 z
  · -- the names from around
    have hi : own ≤ i := by
      by_cases hi : i < own
      · have : (compSt own fi σ)[i]? = some none := by
          unfold compSt
          rw [List.getElem?_append_left (by simpa using hi), List.getElem?_replicate, if_pos hi]
        rw [this] at e2; cases e2
      · omega
    have e2' : (fi.map fun i => (σ[i]?).join)[i - own]? = some (some v) := by
      unfold compSt at e2
      rw [List.getElem?_append_right (by simpa using hi), List.length_replicate] at e2
      exact e2
    rw [List.getElem?_map] at e2'
    cases ef : fi[i - own]? with
    | none => rw [ef] at e2'; cases e2'
    | some j =>
      rw [ef] at e2'
      have e4 : (σ[j]?).join = some v := by simpa using e2'
      have e5 : σ[j]? = some (some v) := by
        cases q : σ[j]? with
        | none => rw [q] at e4; cases e4
        | some z => rw [q] at e4; have e4' : z = some v := by simpa using e4
                    rw [e4']
      have e1' : N[i]? = some x := e1
      have hz : (x, j) ∈ (N.drop own).zip fi := by
        refine List.mem_of_getElem? (i := i - own) ?_
        rw [List.getElem?_zip_eq_some]
        refine ⟨?_, ef⟩
        rw [List.getElem?_drop]
        have : own + (i - own) = i := by omega
        rw [this]; exact e1'
      obtain ⟨o1, o2⟩ := S.outs (x, j) hz
      obtain ⟨m, hn, hl⟩ := I.loc
      have vis : SX.names.lookup x = some .cell ∨ SX.names.lookup x = some .free := S.free (x, .free) (PySem.mem_of_lookup o2) rfl
      have vis' : X.env.scope.names.lookup x = some .cell ∨ X.env.scope.names.lookup x = some .free := by rw [hS]; exact vis
      obtain ⟨u, r, l⟩ := hl j x v (by rw [hN]; exact o1) e5 (.inr vis')
      refine ⟨u, r, .inr ?_⟩
      rcases l with ⟨hk, _⟩ | ⟨_, c, hc, hcell⟩
      · have hk' : X.env.scope.names.lookup x = some .local := hk
        rcases vis' with z | z <;> (rw [z] at hk'; cases hk')
      · refine ⟨lookup_relabel_free (env := X.env) o2, c, ?_, hcell.keeps k⟩
        have hh := closOf_has (env := X.env) (acc := []) (PySem.mem_of_lookup o2) rfl
        obtain ⟨c', hc'⟩ := Option.isSome_iff_exists.mp hh
        have := sub x c' hc'
        rw [hc] at this; cases this
        exact hc'
  · obtain ⟨v, q⟩ := I.cell x c (sub x c e)
    exact ⟨v, q.keeps k⟩
  · unfold compSt
    show _ = N.length
    rw [List.length_append, List.length_replicate, List.length_map, S.len]
end

section
variable {prog : Program} {w : World} {A : Around} {R : Result → Shared → Prop} {s : Shared}
theorem compLoop_go {elt target iter : Expr} {ifs : List Expr} {scope : Scope} {pos : Pos} {it acc : Value} {env : Env} (I : Nat → Shared → Prop) {F : Value → Shared → Prop} (hF : ∀ e s, F e s → False)
    (turn : ∀ n s, I n s → wpAny (model prog w) A (pyNext it) (fun r s₁ => match r with
      | none => R (.ok .next) s₁
      | some v => wpAny (model prog w) A (letOwnedTupleGo target it v) (fun _ s₁' => wpAny (model prog w) A (assign target env v) (fun _ s₂ =>
          wpAny (model prog w) A (forIn ifs true fun c r => if r = true then do let ok ← isTrue c env (eval c env); pure (ForInStep.yield ok) else pure (ForInStep.yield r)) (fun ok s₃ =>
            if ok = true then wpAny (model prog w) A (eval elt env) (fun x s₄ =>
              wpAny (model prog w) A (call (.builtin "list.append") [acc, x]) (fun _ s₅ => ∃ m, m < n ∧ I m s₅) F s₄) F s₃
            else ∃ m, m < n ∧ I m s₃) F s₂) F s₁') F s₁) F s)
    (n : Nat) (h : I n s) :
    codeAny (model prog w) A (.compLoop (.ListComp elt [⟨target, iter, ifs, 0⟩] scope pos) 0 it acc env) R s := by
  refine codeAny_loop rfl I (fun n s hI => ?_) n h
  show wpAny _ A ((compTurn (.ListComp elt [⟨target, iter, ifs, 0⟩] scope pos) 0 it acc env).onRaise (fun x => do noteFrame x env; theTreesLotGoes x)) _ _ s
  refine wpAny_noted ?_
  rw [compTurn_list]
  refine wpAny_bind (wpAny_standAt (wpAny_bind (wpAny_mono (turn n s hI) (fun r s₁ h₁ => ?_) fun _ _ h' => (hF _ _ h').elim)))
  cases r with
  | none => exact wpAny_pure h₁
  | some v =>
    refine wpAny_bind (wpAny_mono h₁ (fun _ s₁' h₁' => ?_) fun _ _ h' => (hF _ _ h').elim)
    refine wpAny_bind (wpAny_mono h₁' (fun _ s₂ h₂ => wpAny_bind (wpAny_mono h₂ (fun ok s₃ h₃ => ?_) fun _ _ h' => (hF _ _ h').elim)) fun _ _ h' => (hF _ _ h').elim)
    cases ok with
    | false => exact wpAny_pure ⟨rfl, h₃⟩
    | true =>
      exact wpAny_bind (wpAny_bind (wpAny_mono h₃ (fun x s₄ h₄ => wpAny_bind (wpAny_mono h₄ (fun _ s₅ h₅ => wpAny_pure (wpAny_pure ⟨rfl, h₅⟩)) fun _ _ h' => (hF _ _ h').elim)) fun _ _ h' => (hF _ _ h').elim))
end

/-- the tests of a clause -/
def PIf (X : Cx) (ifs : List Expr) (t : TT) : Prop :=
  ∀ (pins : List (Addr × Obj)) (s : Shared) (σ : St) (H : Hp) (Q : Bool → Hp → Prop), Inv X pins σ H s → t σ H Q →
    wpAny (model X.prog X.w) X.A (forIn ifs true fun c r => if r = true then do let ok ← isTrue c X.env (eval c X.env); pure (ForInStep.yield ok) else pure (ForInStep.yield r)) (TP X pins σ Q) X.xe s
def tTrue : TT := fun _ H Q => Q true H
theorem pif_nil {X : Cx} : PIf X [] tTrue := fun _ _ _ H _ I h => wpAny_tests_nil ⟨H, I, h⟩
theorem pif_one {X : Cx} {c : Expr} {t : TT} (h : PT X c t) : PIf X [c] t := fun pins s σ H Q I q => wpAny_tests_one (h pins s σ H Q I q)

/-- a list comprehension: W the invariant over the turn, a measure, the block's names, the heap; l the list -/
def tCompR (wi : TI) (g : TG) (tt : TT) (te : TE) (own : Nat) (fi : List Nat) (σ : St) (H : Hp) (R : Addr → Hp → Prop) : Prop :=
  wi σ H fun J H1 => ∀ l, H1 l = none → ∃ W : Nat → Nat → St → Hp → Prop, (∃ m, W 0 m (compSt own fi σ) (upd H1 l (.lst []))) ∧ ∀ i m σ' H', W i m σ' H' →
    (J.stop i H' ∧ R l H') ∨ (J.go i H' ∧ ∃ N : St → Hp → Prop, (∀ σ'' H'', N σ'' H'' → ∃ m', m' < m ∧ W (i + 1) m' σ'' H'') ∧ ∀ x H2, J.yld i H' x H2 → g x σ' H2 fun σ2 H3 => tt σ2 H3 fun ok H4 =>
      if ok = true then te σ2 H4 fun y H5 => ∃ xs, H5 l = some (.lst xs) ∧ xs.length < sizeLine ∧ N σ2 (upd H5 l (.lst (xs ++ [y]))) else N σ2 H4)
def tComp (wi : TI) (g : TG) (tt : TT) (te : TE) (own : Nat) (fi : List Nat) : TE := fun σ H Q => tCompR wi g tt te own fi σ H fun l H' => Q (.ref l) H'

/-- a record of ours that may go: the block's frame -/
structure Gone (X : Cx) (pins : List (Addr × Obj)) (H : Hp) (C : Addr) : Prop where
  none : H C = none
  loc : C ≠ X.env.locals
  ab : X.s₀.heap.objs.size ≤ C
  cell : ∀ x c, X.env.cells.lookup x = some c → c ≠ C
  pin : ∀ p ∈ X.pn ++ pins, p.1 ≠ C

section
variable {X : Cx} {pins : List (Addr × Obj)} {σ : St} {H : Hp} {s : Shared} {NX N : List Str} {SX scope : Scope} {own : Nat} {fi : List Nat} {tg iter elt : Expr} {ifs : List Expr} {wi : TI} {g : TG} {tt : TT} {te : TE} {pos cpos : Pos} {use : Option (Value → Sem Unit)} {QQ : Value → Shared → Prop} {R : Addr → Hp → Prop}
theorem comp_walk (S : CompScope NX SX scope N own fi) (hN : X.N = NX) (hS : X.env.scope = SX) (hc : X.calm = true) (hi : PI X tg iter wi) (hg : ∀ ex s H, PG (X.comp scope N ex s H) tg g) (ht : ∀ ex s H, PIf (X.comp scope N ex s H) ifs tt)
    (he : ∀ ex s H, PE (X.comp scope N ex s H) elt te) (I : Inv X pins σ H s) (h : tCompR wi g tt te own fi σ H R)
    (post : ∀ l H' s' C, Inv X pins σ H' s' → R l H' → (∃ m, s'.heap.Ns C m) → Gone X pins H' C → compPost (model X.prog X.w) X.A X.xe use QQ (.ref l) C (.ok .next) s')
    (hs : ∀ x, foldedSetIterable iter X.env x = pure x) :
    wpAny (model X.prog X.w) X.A (comprehension (.ListComp elt [⟨tg, iter, ifs, 0⟩] scope pos) scope X.env cpos (newList []) false (eval iter X.env) use) QQ X.xe s := by
  have hcl := S.cells hS I.ok
  refine wpAny_comprehension_free (use := use) rfl hs (closureFor_eq hcl) S.kind S.names ?_
  refine thn (hi pins s σ H _ I h) fun v s1 h1 => thn h1 fun itv s2 h2 => ?_
  obtain ⟨it, fp, tn, J, H2, e, I2, T, st2, f2, q⟩ := h2
  subst e
  have hl : H2 s2.heap.objs.size = none := I2.hok.fresh (Nat.le_refl _)
  obtain ⟨W, ⟨m0, w0⟩, turn⟩ := q _ hl
  generalize hL : s2.heap.objs.size = L at w0 turn hl
  refine wpAny_newObj_type ?_
  rw [hL]
  have I3 : Inv X pins σ (upd H2 L (.lst [])) { s2 with heap := s2.heap.push { cls := .type "list", data := .seq ([] : List Value).toArray } } := by
    subst hL
    exact I2.laid (t' := s2.toks) (fun b u e => Heap.get?_push_of_some _ e) (Nat.le_refl _) ⟨Nat.zero_le _, [], 0, .nil, Heap.get?_push_size _ rfl⟩
  generalize hs3 : ({ s2 with heap := s2.heap.push { cls := .type "list", data := .seq ([] : List Value).toArray } } : Shared) = s3 at I3 ⊢
  have st3 : tn 0 s3.heap := T.keep _ _ _ st2 fun b _ o e => by subst hs3; exact Heap.get?_push_of_some _ e
  have hlt3 : ∀ b ∈ fp, b < s3.heap.objs.size := fun b hb => by
    obtain ⟨o, e, _⟩ := T.obj _ _ st3 b hb
    exact Heap.lt_size e
  have hfp3 : ∀ b ∈ fp, FpOk X pins (upd H2 L (.lst [])) b := fun b hb => by
    obtain ⟨f0, f1⟩ := f2 b hb
    refine ⟨?_, f1⟩
    obtain ⟨o, e, _⟩ := T.obj _ _ st2 b hb
    rw [upd_ne (by rw [← hL]; exact Nat.ne_of_lt (Heap.lt_size e))]; exact f0
  refine wpAny_newFunctionEnv S.nocell (by intro y hy; simp at hy) (fun h₁ hns₁ hsb₁ => ?_) S.kind
  have hns₁' : h₁.Ns s3.heap.objs.size (fun _ => none) := by
    have : (fun x => List.lookup x ([] : List (Str × Value)).reverse) = fun _ => (none : Option Value) := by funext x; rfl
    rw [← this]; exact hns₁
  have k1 : ∀ b o, s3.heap.get? b = some o → h₁.get? b = some o := fun b o e => hsb₁.extBut b o (Nat.ne_of_lt (Heap.lt_size e)) (Heap.get?_push_of_some _ e)
  have I4 := Inv.comp (t' := s3.toks + ([] : List (Str × Value)).length) S hN hS I3 hfp3 hlt3 hns₁' k1
  have stat : ∀ {H' : Hp}, (∀ b ∈ fp, H' b = none) → ∀ b ∈ fp, FpOk (X.comp scope N fp s3 (upd H2 L (.lst []))) [] H' b := fun {H'} hn b hb =>
    ⟨hn b hb, Nat.ne_of_lt (hlt3 b hb), I4.ok.exfs b hb, .inl hb, (I4.ok.exf b hb).2, fun p hp => absurd (show p ∈ ([] : List (Addr × Obj)) from hp) (by simp)⟩
  generalize hX' : X.comp scope N fp s3 (upd H2 L (.lst [])) = X' at I4 stat
  have hP : X'.prog = X.prog := by rw [← hX']; rfl
  have hw : X'.w = X.w := by rw [← hX']; rfl
  have hK : X'.K = X.K := by rw [← hX']; rfl
  have hA : X'.A = X.A := by rw [← hX']; rfl
  have hca : X'.calm = true := by rw [← hX']; exact hc
  have henv : X'.env = compEnvC scope (closOf X.env scope.names []) s3.heap.objs.size X.env := by rw [← hX']; rfl
  have hxe : X'.xe = fun _ _ => False := by rw [← hX']; rfl
  have hg' := hg fp s3 (upd H2 L (.lst []))
  have ht' := ht fp s3 (upd H2 L (.lst []))
  have he' := he fp s3 (upd H2 L (.lst []))
  rw [hX'] at hg' ht' he'
  have loop : ∀ s4 : Shared, s4 = { s3 with heap := h₁, toks := s3.toks + ([] : List (Str × Value)).length } →
      codeAny (model X.prog X.w) X.A (.compLoop (.ListComp elt [⟨tg, iter, ifs, 0⟩] scope pos) 0 (.ref it) (.ref L) (compEnvC scope (closOf X.env scope.names []) s3.heap.objs.size X.env))
        (compPost (model X.prog X.w) X.A X.xe use QQ (.ref L) s3.heap.objs.size) s4 := by
    intro s4 hs4
    refine compLoop_go (fun n s' => ∃ i σ' H', Inv X' [] σ' H' s' ∧ tn i s'.heap ∧ (∀ b ∈ fp, H' b = none) ∧ W i n σ' H') (F := X'.xe) (fun e s z => by rw [hxe] at z; exact z) ?_ m0
      ⟨0, _, _, by rw [hs4]; exact I4, by rw [hs4]; exact T.keep _ _ _ st3 fun b _ o e => k1 b o e, fun b hb => (hfp3 b hb).1, w0⟩
    rintro n s5 ⟨i, σ5, H5, I5, st5, fr5, w5⟩
    rcases turn i n σ5 H5 w5 with ⟨stop, qn⟩ | ⟨go, N', hN', step⟩
    · have hd := T.done X' hP hw hK hca i [] s5 σ5 H5 X'.xe I5 (stat fr5) st5 stop
      rw [hA] at hd
      refine thn hd fun r s6 ⟨hr, I6⟩ => ?_
      subst hr
      -- the end: back to the body around
      have hb := I6.base
      have e1 : X'.fs = frs X.stack := by rw [← hX']; rfl
      have e2 : X'.ex = fp := by rw [← hX']; rfl
      have e3 : X'.H₀ = upd H2 L (.lst []) := by rw [← hX']; rfl
      have e4 : X'.s₀ = s3 := by rw [← hX']; rfl
      rw [e1, e2, e3, e4] at hb
      have hok6 : HOk X.prog X.w H5 s6.heap := by rw [← hP, ← hw]; exact I6.hok
      have os6 : s6.os = s3.os := by rw [I6.os, e4]
      have I7 : Inv X pins σ H5 s6 := I3.call' os6 hb hok6 I6.bare fun b hb => ⟨(hfp3 b hb).2.2.2.1, (hfp3 b hb).2.1, (hfp3 b hb).2.2.2.2.1, (hfp3 b hb).2.2.2.2.2⟩
      refine post L H5 s6 _ I7 qn ?_ ⟨?_, Nat.ne_of_gt I3.lt, I3.sz, fun x c e z => ?_, fun p hp z => ?_⟩
      · obtain ⟨m, hn, _⟩ := I6.loc
        rw [henv] at hn
        exact ⟨m, hn⟩
      · have := I6.free
        rw [henv] at this
        exact this
      · obtain ⟨v', q'⟩ := I3.cell x c e
        exact absurd (z ▸ q'.lt) (Nat.lt_irrefl _)
      · exact absurd (z ▸ Heap.lt_size (I3.pin p hp).1) (Nat.lt_irrefl _)
    · have hd := T.item X' hP hw hK hca i [] s5 σ5 H5 X'.xe I5 (stat fr5) st5 go
      rw [hA] at hd
      refine thn hd fun r s6 ⟨u, hr, h6⟩ => ?_
      subst hr
      refine thn h6 fun _ s7 ⟨x, H7, I7, r7, y7, st7, fr7⟩ => ?_
      have I7' := I7.pinned (stat fr7) (T.obj _ _ st7)
      have ha := hg' _ s7 σ5 H7 x u _ I7' r7 (step x H7 y7)
      rw [hP, hw, hA, henv] at ha
      refine thn ha fun _ s8 ⟨σ8, H8, I8, q8⟩ => ?_
      have hb := ht' _ s8 σ8 H8 _ I8 q8
      rw [hP, hw, hA, henv] at hb
      refine thn hb fun ok s9 ⟨H9, I9, q9⟩ => ?_
      have again : ∀ {σ' : St} {H' : Hp} {s' : Shared}, Inv X' ([] ++ pinsAt fp s7.heap) σ' H' s' → N' σ' H' → ∃ m, m < n ∧ ∃ i σ' H', Inv X' [] σ' H' s' ∧ tn i s'.heap ∧ (∀ b ∈ fp, H' b = none) ∧ W i m σ' H' := fun {σ' H' s'} I' n' => by
        obtain ⟨m', hm, w'⟩ := hN' σ' H' n'
        refine ⟨m', hm, i + 1, σ', H', I'.unpinned, T.keep _ _ _ st7 fun b hb o e => (I'.pin (b, o) (List.mem_append_right _ (List.mem_append_right _ (mem_pinsAt hb e)))).1, fun b hb => ?_, w'⟩
        obtain ⟨o, e, d⟩ := T.obj _ _ st7 b hb
        exact (I'.pin (b, o) (List.mem_append_right _ (List.mem_append_right _ (mem_pinsAt hb e)))).2.1
      cases ok with
      | false =>
        rw [if_neg Bool.false_ne_true] at q9 ⊢
        exact again I9 q9
      | true =>
        rw [if_pos rfl] at q9 ⊢
        have hv := he' _ s9 σ8 H9 _ I9 q9
        rw [hP, hw, hA, henv] at hv
        refine thn hv fun y s10 ⟨yv, H10, I10, r10, xs, hx, hz, q10⟩ => ?_
        have hap := mt_append (X := X') _ s10 σ8 H10 (V.ref L) [yv] (Value.ref L) [y] (fun v H' => v = .non ∧ N' σ8 H') I10 rfl (.cons r10 .nil) ⟨L, xs, yv, rfl, rfl, hx, hz, rfl, q10⟩
        rw [hP, hw, hA] at hap
        refine thn hap fun _ s11 ⟨v, H11, I11, _, _, q11⟩ => ?_
        exact again I11 q11
  have e5 : ({ newEnv scope s3.heap.objs.size X.env.globals (closOf X.env scope.names []) X.env.qual none Value.none (some X.env) builtinsNs with scope := relabel scope X.env } : Env) = compEnvC scope (closOf X.env scope.names []) s3.heap.objs.size X.env := rfl
  exact codeAny_compStart_list (loop _ rfl) (T.self X.A 0 _ _ _ (T.keep _ _ _ st3 fun b _ o e => k1 b o e) (loop _ rfl))

theorem pe_comp (S : CompScope NX SX scope N own fi) (hc : X.calm = true) (hi : PI X tg iter wi) (hg : ∀ ex s H, PG (X.comp scope N ex s H) tg g) (ht : ∀ ex s H, PIf (X.comp scope N ex s H) ifs tt)
    (he : ∀ ex s H, PE (X.comp scope N ex s H) elt te) (hN : X.N = NX := by rfl) (hS : X.env.scope = SX := by rfl) (hs : ∀ x, foldedSetIterable iter X.env x = pure x := by intro _; rfl) :
    PE X (.ListComp elt [⟨tg, iter, ifs, 0⟩] scope pos) (tComp wi g tt te own fi) := by
  intro pins s σ H Q I h
  rw [eval_ListComp]
  refine comp_walk (use := none) (R := fun l H' => Q (.ref l) H') S hN hS hc hi hg ht he I h (fun l H' s' C I' q' hn G => ?_) hs
  obtain ⟨m, hn⟩ := hn
  exact ⟨m, hn, fun h' hs' => ⟨.ref l, H', I'.turned (t' := s'.toks) (fun b o hb e => (hs'.2 b hb).trans e) G.none G.loc (.inr G.ab) G.cell G.pin, rfl, q'⟩⟩
/-- y = [..]: the store stands ahead of the variables' going -/
def tSetComp (i : Nat) (wi : TI) (g : TG) (tt : TT) (te : TE) (own : Nat) (fi : List Nat) : TS := fun D σ H => tCompR wi g tt te own fi σ H fun l H' => D.nx (σ.set i (some (.ref l))) H'
theorem ps_setcomp {i : Nat} {y : Str} {py spos : Pos} (hnd : X.N.Nodup) (hy : X.N[i]? = some y) (hl : X.env.scope.names.lookup y = some .local) (S : CompScope NX SX scope N own fi) (hc : X.calm = true) (hi : PI X tg iter wi)
    (hg : ∀ ex s H, PG (X.comp scope N ex s H) tg g) (ht : ∀ ex s H, PIf (X.comp scope N ex s H) ifs tt)
    (he : ∀ ex s H, PE (X.comp scope N ex s H) elt te) (hN : X.N = NX := by rfl) (hS : X.env.scope = SX := by rfl) (hs : ∀ x, foldedSetIterable iter X.env x = pure x := by intro _; rfl)
    (hsw : swapsWith (.ListComp elt [⟨tg, iter, ifs, 0⟩] scope pos) (some (.Name y py)) spos.line X.env = pure true := by rfl) :
    PS X (.Assign [.Name y py] (.ListComp elt [⟨tg, iter, ifs, 0⟩] scope pos) spos) (tSetComp i wi g tt te own fi) := by
  intro pins s σ H D I h
  rw [exec_Assign_Name_used _ _ _ _ hsw]
  refine wpAny_bind (wpAny_standAt (wpAny_bind ?_))
  show wpAny _ X.A (do let _ ← comprehension (.ListComp elt [⟨tg, iter, ifs, 0⟩] scope pos) scope X.env _ (newList []) false (eval iter X.env) (some (assign (.Name y py) X.env))) _ _ s
  refine wpAny_bind (wpAny_mono (comp_walk (use := some (assign (.Name y py) X.env)) (QQ := fun _ s' => SP X pins D .next s') (R := fun l H' => D.nx (σ.set i (some (.ref l))) H') S hN hS hc hi hg ht he I h (fun l H' s' C I' q' hn G => ?_) hs)
    (fun _ s' hq => wpAny_pure (wpAny_pure hq)) fun _ _ e => e)
  obtain ⟨m, hn⟩ := hn
  show wpAny _ X.A (assign (.Name y py) X.env (.ref l)) _ _ _
  refine wpAny_assign_Name (store_ok2 I' hnd hy (.inl hl) (v := .ref l) rfl (fun s'' I'' hsb => ?_) (.inr hl))
  obtain ⟨a, hsb, ha⟩ := hsb
  have hCa : C ≠ a := by
    rcases ha with z | z
    · rw [z]; exact G.loc
    · exact Ne.symm (G.cell y a z)
  exact ⟨m, hn.sameBut hsb hCa, fun h' hs' => ⟨_, H', I''.turned (t' := s''.toks) (fun b o hb e => (hs'.2 b hb).trans e) G.none G.loc (.inr G.ab) G.cell G.pin, q'⟩⟩
end
end L2

set_option Elab.async false
set_option linter.all false
set_option maxRecDepth 100000
set_option maxHeartbeats 4000000
namespace L2
open PySem PySem.Spec PyProof.Rows

/-! ### the signs of a text -/
def Its (x : Str) : It := ⟨fun i _ => i < x.cps.size, fun i H v H' => H' = H ∧ ∃ c, x.cps[i]? = some c ∧ v = .str ⟨#[c]⟩, fun i _ => x.cps.size ≤ i⟩
theorem turn_str {P : Program} {w : World} {K : PySem.W.Frag} {tg : Expr} (it : Addr) (x : Str) (t : Tok) (ty : String) (hty : ty = "str_ascii_iterator" ∨ ty = "str_iterator") : Turn P w K tg (Its x) [it] it (fun i h => i ≤ x.cps.size ∧ h.IsStrIter it ty x t i) where
  mem := by simp
  obj := fun i h st b hb => by
    have e : b = it := by simpa using hb
    subst e
    obtain ⟨_, o, e, c, d⟩ := st
    exact ⟨o, e, fun v z => by rw [d] at z; cases z⟩
  keep := fun i h h' st k => by
    obtain ⟨hi, o, e, r⟩ := st
    exact ⟨hi, o, k it (by simp) o e, r⟩
  item := by
    intro X hP hw hK hc i pins s σ H E I hf st hg
    subst hP hw hK
    obtain ⟨f0, f1, f2, f3, f4, f5⟩ := hf it (by simp)
    have hg' : i < x.cps.size := hg
    have key : ∀ h' : Heap, h'.IsStrIter it ty x t (i + 1) → Heap.SameBut it s.heap h' → (fun r s1 => ∃ u, r = some u ∧
      wpAny (model X.prog X.w) X.A (letOwnedTupleGo tg (.ref it) u) (fun _ s2 => ∃ y H', Inv X pins σ H' s2 ∧ RelV y u ∧ (Its x).yld i H y H' ∧ (i + 1 ≤ x.cps.size ∧ s2.heap.IsStrIter it ty x t (i + 1)) ∧ ∀ b ∈ [it], H' b = none) E s1)
        (some (.str ⟨#[x.cps[i]]⟩ s.toks)) { s with heap := h', toks := s.toks + 1 } := fun h' st' sb => by
      have I1 : Inv X pins σ H { s with heap := h', toks := s.toks + 1 } := I.turned (fun b o hb e => (sb.2 b hb).trans e) f0 f1 f3 f4 f5
      obtain ⟨o, e, c, d⟩ := id st'
      refine ⟨_, rfl, go_of (s := { s with heap := h', toks := s.toks + 1 }) e c d ?_ ⟨.str ⟨#[x.cps[i]]⟩, H, I1, ⟨_, rfl⟩, ⟨rfl, _, by simp [hg'], rfl⟩, ⟨hg', st'⟩, fun b hb => (hf b hb).1⟩⟩
      rcases hty with rfl | rfl <;> decide
    rcases hty with rfl | rfl
    · exact wpAny_pyNext_ascii_item st.2 (c := x.cps[i]) (by simp [hg']) fun h' hit' hs' => key h' hit' hs'
    · exact wpAny_pyNext_wide_item st.2 (c := x.cps[i]) (by simp [hg']) fun h' hit' hs' => key h' hit' hs'
  done := by
    intro X hP hw hK hc i pins s σ H E I hf st hg
    subst hP hw hK
    obtain ⟨f0, f1, f2, f3, f4, f5⟩ := hf it (by simp)
    have hg' : x.cps.size ≤ i := hg
    rcases hty with rfl | rfl
    · exact wpAny_pyNext_ascii_end (I.ok.hd hc) st.2 (by simp [hg']) fun h' eb => ⟨rfl, I.turned (t' := s.toks) (fun b o hb e => eb b o hb e) f0 f1 f3 f4 f5⟩
    · exact wpAny_pyNext_wide_end (I.ok.hd hc) st.2 (by simp [hg']) fun h' eb => ⟨rfl, I.turned (t' := s.toks) (fun b o hb e => eb b o hb e) f0 f1 f3 f4 f5⟩
  self := fun _ _ _ _ _ st h => by
    rcases hty with rfl | rfl
    · exact wpAny_pyIter_striter_ascii st.2 h
    · exact wpAny_pyIter_striter_wide st.2 h
def iStr (tl : TE) : TI := fun σ H R => tl σ H fun x H1 => ∃ z, x = .str z ∧ R (Its z) H1
theorem pi_str {X : Cx} {tg l : Expr} {tl : TE} (hl : PE X l tl) : PI X tg l (iStr tl) := by
  intro pins s σ H R I h
  refine thn (hl pins s σ H _ I h) fun v s1 ⟨x, H1, I1, r1, q1⟩ => ?_
  obtain ⟨z, e, q⟩ := q1
  subst e
  obtain ⟨t, rfl⟩ := r1
  have key : ∀ (o : Obj) (ty : String), (ty = "str_ascii_iterator" ∨ ty = "str_iterator") → (s1.heap.push o).IsStrIter s1.heap.objs.size ty z t 0 → PIE X pins σ tg R (.ref s1.heap.objs.size) { s1 with heap := s1.heap.push o } := fun o ty hty st => by
    refine ⟨s1.heap.objs.size, [s1.heap.objs.size], _, _, H1, rfl, I1.kept (t' := s1.toks) fun b o e => Heap.get?_push_of_some _ e, turn_str _ z t ty hty, ⟨Nat.zero_le _, st⟩, fun b hb => ?_, q⟩
    have e : b = s1.heap.objs.size := by simpa using hb
    subst e
    exact I1.fpOk (Nat.le_refl _) (I1.hok.fresh (Nat.le_refl _))
  cases ha : z.cps.all (· < 128)
  · exact wpAny_pyIter_wide ha (key _ _ (.inr rfl) ⟨_, Heap.get?_push_size _ rfl, rfl, rfl⟩)
  · exact wpAny_pyIter_ascii ha (key _ _ (.inl rfl) ⟨_, Heap.get?_push_size _ rfl, rfl, rfl⟩)

/-! ### all of a list of bools -/
theorem all_range {bs : List Bool} {n : Nat} (h : n = bs.length) : (List.range n).all (fun i => bs.getD i false) = bs.all id := by
  subst h
  rw [Bool.eq_iff_iff, List.all_eq_true, List.all_eq_true]
  constructor
  · intro h b hb
    obtain ⟨i, hi, e⟩ := List.mem_iff_getElem.mp hb
    have := h i (List.mem_range.mpr hi)
    rw [List.getD_eq_getElem?_getD, List.getElem?_eq_getElem hi, Option.getD_some, e] at this
    exact this
  · intro h i hi
    have hi' := List.mem_range.mp hi
    rw [List.getD_eq_getElem?_getD, List.getElem?_eq_getElem hi', Option.getD_some]
    exact h _ (List.getElem_mem hi')
section
variable {X : Cx}
theorem call_all (hc : X.calm = true) : CallR X (.builtin "all") (fun xs H Q => ∃ (p : Addr) (bs : List Bool), xs = [.ref p] ∧ SqL X.K H p (bs.map V.bl) ∧ Q (.bl (bs.all id)) H) := by
  intro pins s σ H xs us Q I r h
  obtain ⟨p, bs, rfl, hp, q⟩ := h
  obtain ⟨u, rfl, ru⟩ := Vals.one r
  cases ru
  obtain ⟨its, rv, pl, hz⟩ := I.list hp
  have hlen := rv.length
  rw [List.length_map] at hlen
  have hne : p ≠ s.heap.objs.size := by
    obtain ⟨o, n, e, _⟩ := pl
    exact Nat.ne_of_lt (Heap.lt_size e)
  refine call_all_walk (wpAny_pyIter_list pl.isList ?_)
  refine ⟨s.heap.objs.size, _, _, its.toArray.size, _, _, fun i => bs.getD i false, rfl, Walks.list (A := X.A.in1) (I.ok.hd hc) s.heap.objs.size p hne its.toArray, ⟨⟨_, Heap.get?_push_size _ rfl, rfl, rfl⟩, ?_⟩, ?_, fun h' tk hk => ?_⟩
  · exact pl.isList.at fun o e => Heap.get?_push_of_some _ e
  · intro i v s' Q' E' hv hq
    have hv' : its[i]? = some v := by simpa using hv
    have hi : i < its.length := (List.getElem?_eq_some_iff.mp hv').1
    obtain ⟨u', hu', ru'⟩ := rv.get (i := i) (x := .bl (bs.getD i false)) (by
      rw [List.getElem?_map, List.getElem?_eq_getElem (by omega), List.getD_eq_getElem?_getD, List.getElem?_eq_getElem (by omega)]; rfl)
    rw [hv'] at hu'; cases hu'
    cases ru'
    exact wpAny_truthy_bool hq
  · rw [all_range (by simp; omega)]
    exact ⟨.bl _, H, I.kept (h' := h') (t' := tk) fun b o e => hk b o (by
      have : b ≠ s.heap.objs.size := Nat.ne_of_lt (Heap.lt_size e)
      simpa using this) (Heap.get?_push_of_some _ e), rfl, q⟩

/-! ### isinstance -/
theorem call_isinst : CallR X (.builtin "isinstance") (fun xs H Q => ∃ x n t b, xs = [x, .ty n] ∧ TyOf X.K H x t ∧ PySem.W.kitOne X.K t (.type n) = some b ∧ Q (.bl b) H) := by
  intro pins s σ H xs us Q I r h
  obtain ⟨x, n, t, b, rfl, ty, e, q⟩ := h
  obtain ⟨u, c, rfl, ru, rc⟩ := Vals.two r
  cases rc
  exact isinst_ok I ru ty e fun tk => ⟨.bl b, H, I.tok tk, rfl, q⟩

/-! ### join -/
theorem strs_of : ∀ {zs : List Str} {us : List Value}, Vals (zs.map V.str) us → StrsAre us zs
  | [], _, .nil => .nil
  | z :: zs, _, .cons r t => by
    obtain ⟨tk, rfl⟩ := r
    exact .cons _ _ (strs_of t)
def rJoin (K : PySem.W.Frag) : V → List V → Hp → VK → Prop := fun x vs H Q => ∃ z p ys, x = .str z ∧ vs = [.ref p] ∧ SqL K H p (ys.map V.str) ∧ (ys.map (·.length)).sum + ys.length * z.length ≤ 16777216 ∧ Q (.str (Txt.join z ys)) H
theorem mt_join : MtR X "str.join" (rJoin X.K) := by
  intro pins s σ H x xs v us Q I rx rs h
  obtain ⟨z, p, ys, rfl, rfl, hp, hz, q⟩ := h
  obtain ⟨t, rfl⟩ := rx
  obtain ⟨u, rfl, ru⟩ := Vals.one rs
  cases ru
  obtain ⟨its, rv, pl, _⟩ := I.list hp
  exact join_list pl.isList (by simpa using strs_of rv) hz fun t' k => ⟨.str _, H, I.tok k, ⟨t', rfl⟩, q⟩
/-- // by a positive divisor that is not enormous -/
theorem op_fdivB : OpR X (binaryOp .FloorDiv) (rI (fun _ j => 0 < j ∧ j < 2 ^ 200) fun i j => .int (i / j)) := opI fun i j _ _ _ _ _ hc q => by
  have h1 : (0 : Int) < j := hc.1
  have h2 : j < 2 ^ 200 := hc.2
  refine floordiv_int (by omega) (by rw [Int.fdiv_eq_ediv_of_nonneg i (by omega)]; exact q) (.inl (PyProof.noPylong_of_log2 ?_))
  have h3 : j.natAbs < 2 ^ 200 := by
    have e : ((2 : Int) ^ 200) = (((2 : Nat) ^ 200 : Nat) : Int) := by norm_cast
    rw [e] at h2
    omega
  have h4 : j.natAbs ≠ 0 := by omega
  exact Nat.lt_trans ((Nat.log2_lt h4).mpr h3) (by decide)
end

/-! ### a comprehension by what holds between its turns -/
section
variable {K : PySem.W.Frag} {g : TG} {tt : TT} {te : TE} {σ0 : St} {H1 : Hp} {l : Addr} {R : Hp → Prop}
abbrev compTurnP (g : TG) (tt : TT) (te : TE) (l : Addr) (N : St → Hp → Prop) (x : V) (σ' : St) (H' : Hp) : Prop :=
  g x σ' H' fun σ2 H3 => tt σ2 H3 fun ok H4 => if ok = true then te σ2 H4 fun y H5 => ∃ xs, H5 l = some (.lst xs) ∧ xs.length < sizeLine ∧ N σ2 (upd H5 l (.lst (xs ++ [y]))) else N σ2 H4
theorem comp_range {lo : Int} {n : Nat} (Pv : Nat → St → Hp → Prop) (h0 : Pv 0 σ0 (upd H1 l (.lst []))) (hs : ∀ i σ' H', i < n → Pv i σ' H' → compTurnP g tt te l (Pv (i + 1)) (.int (lo + i)) σ' H') (hd : ∀ σ' H', Pv n σ' H' → R H') :
    ∃ W : Nat → Nat → St → Hp → Prop, (∃ m, W 0 m σ0 (upd H1 l (.lst []))) ∧ ∀ i m σ' H', W i m σ' H' →
      ((Itr lo n).stop i H' ∧ R H') ∨ ((Itr lo n).go i H' ∧ ∃ N : St → Hp → Prop, (∀ σ'' H'', N σ'' H'' → ∃ m', m' < m ∧ W (i + 1) m' σ'' H'') ∧ ∀ x H2, (Itr lo n).yld i H' x H2 → compTurnP g tt te l N x σ' H2) := by
  refine ⟨fun i m σ H => m = n - i ∧ i ≤ n ∧ Pv i σ H, ⟨n, by simp, Nat.zero_le _, h0⟩, ?_⟩
  rintro i m σ H ⟨rfl, hi, p⟩
  by_cases hlt : i < n
  · refine .inr ⟨hlt, Pv (i + 1), fun σ' H' p' => ⟨n - (i + 1), by omega, rfl, hlt, p'⟩, fun x H' y => ?_⟩
    obtain ⟨e, y⟩ := y
    subst e y
    exact hs i σ _ hlt p
  · have e : i = n := by omega
    subst e
    exact .inl ⟨Nat.le_refl _, hd σ H p⟩
theorem comp_str {z : Str} (Pv : Nat → St → Hp → Prop) (h0 : Pv 0 σ0 (upd H1 l (.lst []))) (hs : ∀ i c σ' H', z.cps[i]? = some c → Pv i σ' H' → compTurnP g tt te l (Pv (i + 1)) (.str ⟨#[c]⟩) σ' H') (hd : ∀ σ' H', Pv z.cps.size σ' H' → R H') :
    ∃ W : Nat → Nat → St → Hp → Prop, (∃ m, W 0 m σ0 (upd H1 l (.lst []))) ∧ ∀ i m σ' H', W i m σ' H' →
      ((Its z).stop i H' ∧ R H') ∨ ((Its z).go i H' ∧ ∃ N : St → Hp → Prop, (∀ σ'' H'', N σ'' H'' → ∃ m', m' < m ∧ W (i + 1) m' σ'' H'') ∧ ∀ x H2, (Its z).yld i H' x H2 → compTurnP g tt te l N x σ' H2) := by
  refine ⟨fun i m σ H => m = z.cps.size - i ∧ i ≤ z.cps.size ∧ Pv i σ H, ⟨z.cps.size, by simp, Nat.zero_le _, h0⟩, ?_⟩
  rintro i m σ H ⟨rfl, hi, p⟩
  by_cases hlt : i < z.cps.size
  · refine .inr ⟨hlt, Pv (i + 1), fun σ' H' p' => ⟨z.cps.size - (i + 1), by omega, rfl, hlt, p'⟩, fun x H' y => ?_⟩
    obtain ⟨e, c, hc, y⟩ := y
    subst e y
    exact hs i c σ _ hc p
  · have e : i = z.cps.size := by omega
    subst e
    exact .inl ⟨Nat.le_refl _, hd σ H p⟩
theorem comp_list {a : Addr} {xs : List V} (Pv : Nat → St → Hp → Prop) (h0 : Pv 0 σ0 (upd H1 l (.lst []))) (hl : ∀ i σ H, i ≤ xs.length → Pv i σ H → SqL K H a xs) (hs : ∀ i x σ' H', xs[i]? = some x → Pv i σ' H' → compTurnP g tt te l (Pv (i + 1)) x σ' H') (hd : ∀ σ' H', Pv xs.length σ' H' → R H') :
    ∃ W : Nat → Nat → St → Hp → Prop, (∃ m, W 0 m σ0 (upd H1 l (.lst []))) ∧ ∀ i m σ' H', W i m σ' H' →
      ((Itl K a).stop i H' ∧ R H') ∨ ((Itl K a).go i H' ∧ ∃ N : St → Hp → Prop, (∀ σ'' H'', N σ'' H'' → ∃ m', m' < m ∧ W (i + 1) m' σ'' H'') ∧ ∀ x H2, (Itl K a).yld i H' x H2 → compTurnP g tt te l N x σ' H2) := by
  refine ⟨fun i m σ H => m = xs.length - i ∧ i ≤ xs.length ∧ Pv i σ H, ⟨xs.length, by simp, Nat.zero_le _, h0⟩, ?_⟩
  rintro i m σ H ⟨rfl, hi, p⟩
  have q := hl i σ H hi p
  by_cases hlt : i < xs.length
  · refine .inr ⟨⟨xs, xs[i], q, by simp [hlt]⟩, Pv (i + 1), fun σ' H' p' => ⟨xs.length - (i + 1), by omega, rfl, hlt, p'⟩, fun x H' y => ?_⟩
    obtain ⟨e, y⟩ := y
    subst e
    exact hs i x σ _ (y xs q) p
  · have e : i = xs.length := by omega
    subst e
    exact .inl ⟨⟨xs, q, Nat.le_refl _⟩, hd σ H p⟩
theorem comp_tup {a : Addr} {xs : List V} (Pv : Nat → St → Hp → Prop) (h0 : Pv 0 σ0 (upd H1 l (.lst []))) (hl : ∀ i σ H, i ≤ xs.length → Pv i σ H → SqT K H a xs) (hs : ∀ i x σ' H', xs[i]? = some x → Pv i σ' H' → compTurnP g tt te l (Pv (i + 1)) x σ' H') (hd : ∀ σ' H', Pv xs.length σ' H' → R H') :
    ∃ W : Nat → Nat → St → Hp → Prop, (∃ m, W 0 m σ0 (upd H1 l (.lst []))) ∧ ∀ i m σ' H', W i m σ' H' →
      ((Itt K a).stop i H' ∧ R H') ∨ ((Itt K a).go i H' ∧ ∃ N : St → Hp → Prop, (∀ σ'' H'', N σ'' H'' → ∃ m', m' < m ∧ W (i + 1) m' σ'' H'') ∧ ∀ x H2, (Itt K a).yld i H' x H2 → compTurnP g tt te l N x σ' H2) := by
  refine ⟨fun i m σ H => m = xs.length - i ∧ i ≤ xs.length ∧ Pv i σ H, ⟨xs.length, by simp, Nat.zero_le _, h0⟩, ?_⟩
  rintro i m σ H ⟨rfl, hi, p⟩
  have q := hl i σ H hi p
  by_cases hlt : i < xs.length
  · refine .inr ⟨⟨xs, xs[i], q, by simp [hlt]⟩, Pv (i + 1), fun σ' H' p' => ⟨xs.length - (i + 1), by omega, rfl, hlt, p'⟩, fun x H' y => ?_⟩
    obtain ⟨e, y⟩ := y
    subst e
    exact hs i x σ _ (y xs q) p
  · have e : i = xs.length := by omega
    subst e
    exact .inl ⟨⟨xs, q, Nat.le_refl _⟩, hd σ H p⟩
end
example (K : PySem.W.Frag) : PySem.W.kitOne K (.type "bool") (.type "int") = some true := by rfl
example (K : PySem.W.Frag) : PySem.W.kitOne K (.type "dict") (.type "int") = some false := by rfl
end L2

set_option Elab.async false
set_option linter.all false
set_option maxRecDepth 100000
set_option maxHeartbeats 4000000
namespace L2
open PySem PySem.Spec PyProof.Rows

/-! ### one rule for an operation of several kinds -/
section
variable {X : Cx}
def rAddS : R2 := fun x y H Q => ∃ i j, x = .str i ∧ y = .str j ∧ i.length + j.length ≤ sizeLine ∧ Q (.str (i ++ j)) H
def rAddG (K : PySem.W.Frag) : R2 := fun x y H Q => (rI0 fun i j => .int (i + j)) x y H Q ∨ rAddS x y H Q ∨ rCat x y H Q ∨ rCatT K x y H Q
theorem op_addG : OpR X (binaryOp .Add) (rAddG X.K) := op_add.or (op_add_str.or (op_cat.or op_catT))
def rMulG : R2 := fun x y H Q => (rI CMul fun i j => .int (i * j)) x y H Q ∨ rRep x y H Q
theorem op_mulG : OpR X (binaryOp .Mult) rMulG := op_mul.or op_rep
def rInS : R2 := fun x y H Q => ∃ i j, x = .str i ∧ y = .str j ∧ Q (.bl (!(Builtin.Str.occurrences j i 0 j.length 1).isEmpty)) H
def rNotInS : R2 := fun x y H Q => ∃ i j, x = .str i ∧ y = .str j ∧ Q (.bl (!(!(Builtin.Str.occurrences j i 0 j.length 1).isEmpty))) H
def rInG (K : PySem.W.Frag) : R2 := fun x y H Q => rInS x y H Q ∨ rIn K false x y H Q
def rNotInG (K : PySem.W.Frag) : R2 := fun x y H Q => rNotInS x y H Q ∨ rIn K true x y H Q
theorem op_inG : OpR X (compareOp .In) (rInG X.K) := op_in_str.or op_in_seq
theorem op_notInG : OpR X (compareOp .NotIn) (rNotInG X.K) := op_notIn_str.or op_notIn_seq
theorem PI.or {tg l : Expr} {wi wi' : TI} (h : PI X tg l wi) (h' : PI X tg l wi') : PI X tg l (fun σ H R => wi σ H R ∨ wi' σ H R) := by
  intro pins s σ H R I q
  rcases q with q | q
  · exact h pins s σ H R I q
  · exact h' pins s σ H R I q
/-- a list, a tuple, a text -/
def iSeq (K : PySem.W.Frag) (tl : TE) : TI := fun σ H R => iList K tl σ H R ∨ iTup K tl σ H R ∨ iStr tl σ H R
theorem pi_seq {tg l : Expr} {tl : TE} (hl : PE X l tl) : PI X tg l (iSeq X.K tl) := (pi_list hl).or ((pi_tup hl).or (pi_str hl))
def rLenG (K : PySem.W.Frag) : List V → Hp → VK → Prop := fun xs H Q => ∃ x n, xs = [x] ∧ LenV K x H n ∧ Q (.int n) H
theorem call_lenG : CallR X (.builtin "len") (rLenG X.K) := call_len
end

/-! ### the same with the written part K named -/
section
variable {X : Cx} {K : PySem.W.Frag}
theorem op_addK (h : X.K = K) : OpR X (binaryOp .Add) (rAddG K) := h ▸ op_addG
theorem op_inK (h : X.K = K) : OpR X (compareOp .In) (rInG K) := h ▸ op_inG
theorem op_notInK (h : X.K = K) : OpR X (compareOp .NotIn) (rNotInG K) := h ▸ op_notInG
theorem ix_seqK (h : X.K = K) : IxR X (rIx K) := h ▸ ix_seq
theorem pi_seqK {tg l : Expr} {tl : TE} (h : X.K = K) (hl : PE X l tl) : PI X tg l (iSeq K tl) := h ▸ pi_seq hl
theorem call_lenK (h : X.K = K) : CallR X (.builtin "len") (rLenG K) := h ▸ call_lenG
def rIsinst (K : PySem.W.Frag) : List V → Hp → VK → Prop := fun xs H Q => ∃ x n t b, xs = [x, .ty n] ∧ TyOf K H x t ∧ PySem.W.kitOne K t (.type n) = some b ∧ Q (.bl b) H
theorem call_isinstK (h : X.K = K) : CallR X (.builtin "isinstance") (rIsinst K) := h ▸ call_isinst
def rAll (K : PySem.W.Frag) : List V → Hp → VK → Prop := fun xs H Q => ∃ (p : Addr) (bs : List Bool), xs = [.ref p] ∧ SqL K H p (bs.map V.bl) ∧ Q (.bl (bs.all id)) H
theorem call_allK (h : X.K = K) (hc : X.calm = true) : CallR X (.builtin "all") (rAll K) := h ▸ call_all hc
theorem mt_joinK (h : X.K = K) : MtR X "str.join" (rJoin K) := h ▸ mt_join
def rListOf (K : PySem.W.Frag) : List V → Hp → VK → Prop := fun xs H Q => ∃ p ys, xs = [.ref p] ∧ (SqL K H p ys ∨ SqT K H p ys) ∧ ∀ l, H l = none → Q (.ref l) (upd H l (.lst ys))
theorem call_listK (h : X.K = K) : CallR X (.type "list") (rListOf K) := h ▸ call_list_of
def rTupOf (K : PySem.W.Frag) : List V → Hp → VK → Prop := fun xs H Q => ∃ p ys, xs = [.ref p] ∧ ((SqL K H p ys ∧ ∀ l, H l = none → Q (.ref l) (upd H l (.tup ys))) ∨ (SqT K H p ys ∧ Q (.ref p) H))
theorem call_tupleK (h : X.K = K) : CallR X (.type "tuple") (rTupOf K) := h ▸ call_tuple_of
variable {T id : String} {name : Str} {r : V → List V → Hp → VK → Prop} {o e : Expr} {es : List Expr} {to : TE} {t : TA} {apos cpos pos : Pos}
theorem pe_bm0K (h : X.K = K) (pa : PlainAttrs T) (slot : Slot T name id) (hty : typeOf (.builtin id) = pure (.type "method_descriptor")) (hm : MtR X id r) (ho : PE X o to)
    (hbase : attributeBase o name X.env (eval o X.env) = eval o X.env := by rfl) (hline : (apos.endLine == cpos.line) = true := by rfl) : PE X (.Call (.Attribute o name apos) [] [] cpos) (tBM0 K T r to) := h ▸ pe_bm0 pa slot hty hm ho hbase hline
theorem pe_bmK (h : X.K = K) (pa : PlainAttrs T) (slot : Slot T name id) (hty : typeOf (.builtin id) = pure (.type "method_descriptor")) (hm : MtR X id r) (ho : PE X o to) (ha : PA X (e :: es) t)
    (hbase : attributeBase o name X.env (eval o X.env) = eval o X.env := by rfl)
    (hfew : ((backTo cpos (starEach (e :: es) X.env)).all (fun x => !x.1) && (backToKw cpos (keywordEach [] X.env)).all (fun x => x.1.isSome)
      && decide ((e :: es).length + ([] : List Keyword).length + (if ([] : List Keyword).isEmpty then 0 else 1) < 30)) = true := by rfl)
    (hline : (apos.endLine == cpos.line) = true := by rfl) (hs : starEach (e :: es) X.env = (false, eval e X.env) :: starEach es X.env := by rfl) (hplain : (backTo cpos (starEach es X.env)).any (·.1) = false := by rfl) :
    PE X (.Call (.Attribute o name apos) (e :: es) [] cpos) (tBM K T r to t) := h ▸ pe_bm pa slot hty hm ho ha hbase hfew hline hs hplain
theorem pg_tupK {es : List Expr} {k : Nat} {t : TGs} {n : Nat} (h : X.K = K) (hc : X.calm = true) (hp : PGs X es t)
    (hn : (assignEach es X.env).length = n := by rfl) (hst : (assignEach es X.env).findIdx? (·.1) = none := by rfl) : PG X (.Tuple es k pos) (gTup K n t) := h ▸ pg_tup hc hp hn hst
theorem pe_fldK {f : Str} (h : X.K = K) (he : PE X e to) (hb : attributeBase e f X.env (eval e X.env) = eval e X.env) : PE X (.Attribute e f pos) (tFld K to f) := h ▸ pe_fld he hb
theorem ps_fldK {f : Str} {value : Expr} {tv : TE} {pos' : Pos} (h : X.K = K) (ha : PE X o to) (hv : PE X value tv) (hs : swapsWith value (some (.Attribute o f pos')) pos.line X.env = pure false) : PS X (.Assign [.Attribute o f pos'] value pos) (sFld K to tv f) := h ▸ ps_fld ha hv hs
/-- a constant of the module -/
def GC (mg : Str → Option Value) (x : Str) (v : V) : Prop := ∃ u, mg x = some u ∧ RelV v u
theorem pe_gc {x : Str} {v : V} (hg : Gl X x) (h : GC X.mg x v) (hd : (x == ("__debug__" : Str)) = false := by decide) : PE X (.Name x pos) (tC v) := by
  obtain ⟨u, h1, h2⟩ := h
  exact pe_glob hg h1 h2 hd
end

/-! ### reading, step by step -/
section
variable {K : PySem.W.Frag} {σ : St} {H : Hp} {Q : VK} {v x y : V} {i j : Int} {ta tb : TE} {D : Ends}
theorem rd_var {n : Nat} (e : σ[n]? = some (some v)) (h : Q v H) : tVar n σ H Q := ⟨v, e, h⟩
theorem rd_C (h : Q v H) : tC v σ H Q := h
theorem rd_op {r : R2} (h : ta σ H fun x H1 => tb σ H1 fun y H2 => r x y H2 Q) : tOp r ta tb σ H Q := h
theorem rd_un {r : V → Hp → VK → Prop} (h : ta σ H fun x H1 => r x H1 Q) : tUn r ta σ H Q := h
theorem rd_I0 {g : Int → Int → V} (h : Q (g i j) H) : rI0 g (.int i) (.int j) H Q := ⟨i, j, rfl, rfl, h⟩
theorem rd_I {C : Int → Int → Prop} {g : Int → Int → V} (c : C i j) (h : Q (g i j) H) : rI C g (.int i) (.int j) H Q := ⟨i, j, rfl, rfl, c, h⟩
theorem rd_U {g : Int → V} (h : Q (g i) H) : rU g (.int i) H Q := ⟨i, rfl, h⟩
theorem rd_addI (h : Q (.int (i + j)) H) : rAddG K (.int i) (.int j) H Q := .inl ⟨i, j, rfl, rfl, h⟩
theorem rd_addS {a b : Str} (c : a.length + b.length ≤ sizeLine) (h : Q (.str (a ++ b)) H) : rAddG K (.str a) (.str b) H Q := .inr (.inl ⟨a, b, rfl, rfl, c, h⟩)
theorem rd_addL {a b : Addr} {xs ys : List V} (ha : H a = some (.lst xs)) (hb : H b = some (.lst ys)) (c : xs.length + ys.length ≤ sizeLine) (h : ∀ p, H p = none → Q (.ref p) (upd H p (.lst (xs ++ ys)))) : rAddG K (.ref a) (.ref b) H Q :=
  .inr (.inr (.inl ⟨a, b, xs, ys, rfl, rfl, ha, hb, c, h⟩))
theorem rd_mulI (c : CMul i j) (h : Q (.int (i * j)) H) : rMulG (.int i) (.int j) H Q := .inl ⟨i, j, rfl, rfl, c, h⟩
theorem rd_test {t : TE} {Q : Bool → Hp → Prop} (h : t σ H fun x H' => ∃ k, x = .bl k ∧ Q k H') : tTest t σ H Q := h
theorem rd_tB {t : TE} {Q : Bool → Hp → Prop} (h : t σ H fun x H' => ∃ k, x = .bl k ∧ Q k H') : tB t σ H Q := h
theorem rd_bl {b : Bool} {P : Bool → Prop} (h : P b) : ∃ k, V.bl b = .bl k ∧ P k := ⟨b, rfl, h⟩
theorem rd_eq (s : scal x y = true) (h : Q (.bl (decide (x = y))) H) : rEq x y H Q := ⟨s, h⟩
theorem rd_ne (s : scal x y = true) (h : Q (.bl (!decide (x = y))) H) : rNe x y H Q := ⟨s, h⟩
theorem rd_and {t u : TT} {Q : Bool → Hp → Prop} (h : t σ H fun c H1 => if c = true then u σ H1 Q else Q false H1) : tAnd t u σ H Q := h
theorem rd_or {t u : TT} {Q : Bool → Hp → Prop} (h : t σ H fun c H1 => if c = true then Q true H1 else u σ H1 Q) : tOr t u σ H Q := h
theorem rd_not {t : TT} {Q : Bool → Hp → Prop} (h : t σ H fun c H1 => Q (!c) H1) : tNot t σ H Q := h
theorem rd_andV (h : ta σ H fun x H1 => ∃ c, x = .bl c ∧ if c = true then tb σ H1 Q else Q (.bl false) H1) : tAndV ta tb σ H Q := h
theorem rd_orV (h : ta σ H fun x H1 => ∃ c, x = .bl c ∧ if c = true then Q (.bl true) H1 else tb σ H1 Q) : tOrV ta tb σ H Q := h
theorem rd_notV (h : ta σ H fun x H1 => ∃ c, x = .bl c ∧ Q (.bl (!c)) H1) : tNotV ta σ H Q := h
theorem rd_ifE {t : TT} (h : t σ H fun c H1 => if c = true then ta σ H1 Q else tb σ H1 Q) : tIf t ta tb σ H Q := h
theorem rd_true {Q : Bool → Hp → Prop} (h : Q true H) : tTrue σ H Q := h
/- statements -/
theorem rd_next (h : D.nx σ H) : tNext D σ H := h
theorem rd_seq {t u : TS} (h : t { D with nx := u D } σ H) : tSeq t u D σ H := h
theorem rd_drop (h : ta σ H fun _ H1 => D.nx σ H1) : tDrop ta D σ H := h
theorem rd_ret (h : ta σ H D.rt) : tRet ta D σ H := h
theorem rd_retN (h : D.rt .non H) : tRetN D σ H := h
theorem rd_if {c : TT} {t u : TS} (h : c σ H fun b H1 => if b = true then t D σ H1 else u D σ H1) : tIfS c t u D σ H := h
theorem rd_asg {g : TG} (h : ta σ H fun x H1 => g x σ H1 D.nx) : tAsg ta g D σ H := h
theorem rd_for {wi : TI} {g : TG} {tb : TS} (h : wi σ H fun J H1 => ∃ W : Nat → Nat → St → Hp → Prop, (∃ m, W 0 m σ H1) ∧ ∀ i m σ H, W i m σ H →
  (J.stop i H ∧ D.nx σ H) ∨ (J.go i H ∧ ∃ N : St → Hp → Prop, (∀ σ' H', N σ' H' → ∃ m', m' < m ∧ W (i + 1) m' σ' H') ∧ ∀ x H', J.yld i H x H' → g x σ H' fun σ2 H2 => tb { D with nx := N, ct := N, bk := D.nx } σ2 H2)) : tFor wi g tb D σ H := h
theorem rd_nx {a b : St → Hp → Prop} {r : VK} {c : St → Hp → Prop} (h : a σ H) : Ends.nx ⟨a, r, b, c⟩ σ H := h
theorem rd_rt {a b : St → Hp → Prop} {r : VK} {c : St → Hp → Prop} (h : r v H) : Ends.rt ⟨a, r, b, c⟩ v H := h
theorem rd_gname {n : Nat} {Q : St → Hp → Prop} (h : Q (σ.set n (some v)) H) : gName n v σ H Q := h
theorem rd_gsub {to ti : TE} {t : TSet} {Q : St → Hp → Prop} (h : to σ H fun o H1 => ti σ H1 fun i H2 => t o i v H2 fun H3 => Q σ H3) : gSub to ti t v σ H Q := h
theorem rd_setL {p : Addr} {xs : List V} {k : Int} {j : Nat} {Q : Hp → Prop} (hp : H p = some (.lst xs)) (e : ixN xs.length k = some j) (h : Q (upd H p (.lst (xs.set j v)))) : rSetL (.ref p) (.int k) v H Q := ⟨p, xs, k, j, rfl, rfl, hp, e, h⟩
/- argument lists, displays, calls -/
theorem rd_nil {Q : List V → Hp → Prop} (h : Q [] H) : tNil σ H Q := h
theorem rd_cons {tr : TA} {Q : List V → Hp → Prop} (h : ta σ H fun x H1 => tr σ H1 fun xs H2 => Q (x :: xs) H2) : tCons ta tr σ H Q := h
theorem rd_lst {t : TA} (h : t σ H fun xs H1 => xs.length ≤ sizeLine ∧ ∀ p, H1 p = none → Q (.ref p) (upd H1 p (.lst xs))) : tLst t σ H Q := h
theorem rd_tup {t : TA} (h : t σ H fun xs H1 => xs.length ≤ sizeLine ∧ ∀ p, H1 p = none → Q (.ref p) (upd H1 p (.tup xs))) : tTup t σ H Q := h
theorem rd_call {sp : Sp} {dvs : List V} {E : XK} {t : TA} (h : t σ H fun vs H1 => sp (vs ++ dvs) H1 Q E) : tCall sp dvs E t σ H Q := h
theorem rd_CB {r : List V → Hp → VK → Prop} {t : TA} (h : t σ H fun vs H1 => r vs H1 Q) : tCB r t σ H Q := h
theorem rd_BM {T : String} {r : V → List V → Hp → VK → Prop} {to : TE} {t : TA} (h : to σ H fun x H1 => tyV K T x H1 ∧ t σ H1 fun xs H2 => r x xs H2 Q) : tBM K T r to t σ H Q := h
theorem rd_BM0 {T : String} {r : V → List V → Hp → VK → Prop} {to : TE} (h : to σ H fun x H1 => tyV K T x H1 ∧ r x [] H1 Q) : tBM0 K T r to σ H Q := h
theorem rd_len {n : Nat} (l : LenV K x H n) (h : Q (.int n) H) : rLenG K [x] H Q := ⟨x, n, rfl, l, h⟩
theorem len_str {z : Str} (h : z.length ≤ sizeLine) : LenV K (.str z) H z.length := ⟨h, rfl⟩
theorem len_lst {p : Addr} {xs : List V} (h : H p = some (.lst xs)) : LenV K (.ref p) H xs.length := .inl ⟨xs, SqL.of h, rfl⟩
theorem len_sql {p : Addr} {xs : List V} (h : SqL K H p xs) : LenV K (.ref p) H xs.length := .inl ⟨xs, h, rfl⟩
theorem rd_ixL {p : Addr} {xs : List V} {k : Int} (hp : SqL K H p xs) (e : atI xs k = some v) (h : Q v H) : rIx K (.ref p) (.int k) H Q := .inl ⟨p, xs, k, v, rfl, rfl, hp, e, h⟩
theorem rd_ixT {p : Addr} {xs : List V} {k : Int} (hp : SqT K H p xs) (e : atI xs k = some v) (h : Q v H) : rIx K (.ref p) (.int k) H Q := .inr (.inl ⟨p, xs, k, v, rfl, rfl, hp, e, h⟩)
theorem rd_ixS {z : Str} {k : Int} {c : Nat} (hz : z.length ≤ sizeLine) (e : atI z.cps.toList k = some c) (h : Q (.str ⟨#[c]⟩) H) : rIx K (.str z) (.int k) H Q := .inr (.inr ⟨z, k, c, rfl, rfl, hz, e, h⟩)
theorem rd_inS {a b : Str} (h : Q (.bl (!(Builtin.Str.occurrences b a 0 b.length 1).isEmpty)) H) : rInG K (.str a) (.str b) H Q := .inl ⟨a, b, rfl, rfl, h⟩
theorem rd_rng1 {t : TA} {R : It → Hp → Prop} (h : t σ H fun vs H1 => ∃ j : Int, vs = [.int j] ∧ -(2 ^ 62) ≤ j ∧ j < 2 ^ 62 ∧ R (Itr 0 j.toNat) H1) : iRng1 t σ H R := h
theorem rd_rng1i {R : Int → Prop} (h1 : -(2 ^ 62) ≤ j) (h2 : j < 2 ^ 62) (h : R j) : ∃ k : Int, [V.int j] = [.int k] ∧ -(2 ^ 62) ≤ k ∧ k < 2 ^ 62 ∧ R k := ⟨j, rfl, h1, h2, h⟩
theorem rd_comp {wi : TI} {g : TG} {tt : TT} {te : TE} {own : Nat} {fi : List Nat} (h : tCompR wi g tt te own fi σ H fun l H' => Q (.ref l) H') : tComp wi g tt te own fi σ H Q := h
theorem rd_compR {wi : TI} {g : TG} {tt : TT} {te : TE} {own : Nat} {fi : List Nat} {R : Addr → Hp → Prop} (h : wi σ H fun J H1 => ∀ l, H1 l = none → ∃ W : Nat → Nat → St → Hp → Prop, (∃ m, W 0 m (compSt own fi σ) (upd H1 l (.lst []))) ∧ ∀ i m σ' H', W i m σ' H' →
    (J.stop i H' ∧ R l H') ∨ (J.go i H' ∧ ∃ N : St → Hp → Prop, (∀ σ'' H'', N σ'' H'' → ∃ m', m' < m ∧ W (i + 1) m' σ'' H'') ∧ ∀ x H2, J.yld i H' x H2 → compTurnP g tt te l N x σ' H2)) : tCompR wi g tt te own fi σ H R := h
theorem rd_setcomp {n : Nat} {wi : TI} {g : TG} {tt : TT} {te : TE} {own : Nat} {fi : List Nat} (h : tCompR wi g tt te own fi σ H fun l H' => D.nx (σ.set n (some (.ref l))) H') : tSetComp n wi g tt te own fi D σ H := h
theorem rd_seqL {R : It → Hp → Prop} (h : ta σ H fun x H1 => ∃ a, x = .ref a ∧ (∃ xs, SqL K H1 a xs) ∧ R (Itl K a) H1) : iSeq K ta σ H R := .inl h
theorem rd_seqT {R : It → Hp → Prop} (h : ta σ H fun x H1 => ∃ a, x = .ref a ∧ (∃ xs, SqT K H1 a xs) ∧ R (Itt K a) H1) : iSeq K ta σ H R := .inr (.inl h)
theorem rd_seqS {R : It → Hp → Prop} (h : ta σ H fun x H1 => ∃ z, x = .str z ∧ R (Its z) H1) : iSeq K ta σ H R := .inr (.inr h)
theorem rd_ty {n : String} {t : Value} {b : Bool} (ty : TyOf K H x t) (e : PySem.W.kitOne K t (.type n) = some b) (h : Q (.bl b) H) : rIsinst K [x, .ty n] H Q := ⟨x, n, t, b, rfl, ty, e, h⟩
theorem rd_all {p : Addr} {bs : List Bool} (hp : SqL K H p (bs.map V.bl)) (h : Q (.bl (bs.all id)) H) : rAll K [.ref p] H Q := ⟨p, bs, rfl, hp, h⟩
theorem rd_chain {r r' : R2} {tc : TE} (h : ta σ H fun x H1 => tb σ H1 fun y H2 => r x y H2 fun z H3 => ∃ k, z = .bl k ∧ (if k = true then tc σ H3 fun w' H4 => r' y w' H4 Q else Q (.bl false) H3)) : tChain r r' ta tb tc σ H Q := h
theorem rd_dnewK (h : ∀ p, H p = none → Q (.ref p) (upd H p (.dK []))) : tDNewK σ H Q := h
end
/-! tests -/
theorem ite_eqI {a b : Int} {A B : Prop} (h1 : a = b → A) (h2 : ¬ a = b → B) : if decide (V.int a = V.int b) = true then A else B := by
  by_cases h : a = b
  · subst h; rw [if_pos (by simp)]; exact h1 rfl
  · rw [if_neg (by simpa using h)]; exact h2 h
theorem ite_neI {a b : Int} {A B : Prop} (h1 : ¬ a = b → A) (h2 : a = b → B) : if (!decide (V.int a = V.int b)) = true then A else B := by
  by_cases h : a = b
  · subst h; rw [if_neg (by simp)]; exact h2 rfl
  · rw [if_pos (by simpa using h)]; exact h1 h
theorem ite_dec {p A B : Prop} [Decidable p] (h1 : p → A) (h2 : ¬ p → B) : if decide p = true then A else B := by
  by_cases h : p
  · rw [if_pos (by simpa using h)]; exact h1 h
  · rw [if_neg (by simpa using h)]; exact h2 h
theorem ite_ndec {p A B : Prop} [Decidable p] (h1 : ¬ p → A) (h2 : p → B) : if (!decide p) = true then A else B := by
  by_cases h : p
  · rw [if_neg (by simpa using h)]; exact h2 h
  · rw [if_pos (by simpa using h)]; exact h1 h
theorem ite_b {b : Bool} {A B : Prop} (h1 : b = true → A) (h2 : b = false → B) : if b = true then A else B := by
  cases b with
  | true => exact iteT (h1 rfl)
  | false => exact iteF (h2 rfl)
theorem ite_nb {b : Bool} {A B : Prop} (h1 : b = false → A) (h2 : b = true → B) : if (!b) = true then A else B := by
  cases b with
  | true => exact iteF (h2 rfl)
  | false => exact iteT (h1 rfl)
theorem iteNF {A B : Prop} (h : A) : if (!false) = true then A else B := iteT h
theorem iteNT {A B : Prop} (h : B) : if (!true) = true then A else B := iteF h
end L2

set_option Elab.async false
set_option linter.all false
set_option maxRecDepth 100000
set_option maxHeartbeats 4000000
namespace L2
open PySem PySem.Spec PyProof.Rows

/-! ### data: what a value is worth -/
mutual
inductive DAt (K : PySem.W.Frag) (H : Hp) : V → PyData → Prop
  | non : DAt K H .non .none
  | bl (b : Bool) : DAt K H (.bl b) (.bool b)
  | int (i : Int) : DAt K H (.int i) (.int i)
  | str (x : Str) : DAt K H (.str x) (.str x)
  | lst {a : Addr} {xs : List V} {ds : List PyData} (h : SqL K H a xs) (r : DAts K H xs ds) : DAt K H (.ref a) (.list ds)
  | tup {a : Addr} {xs : List V} {ds : List PyData} (h : SqT K H a xs) (r : DAts K H xs ds) : DAt K H (.ref a) (.tuple ds)
inductive DAts (K : PySem.W.Frag) (H : Hp) : List V → List PyData → Prop
  | nil : DAts K H [] []
  | cons {x : V} {d : PyData} {xs : List V} {ds : List PyData} (h : DAt K H x d) (r : DAts K H xs ds) : DAts K H (x :: xs) (d :: ds)
end
section
variable {X : Cx} {pins : List (Addr × Obj)} {σ : St} {H : Hp} {s : Shared}
mutual
theorem Inv.reads (I : Inv X pins σ H s) : ∀ {x : V} {d : PyData} {u : Value}, DAt X.K H x d → RelV x u → ∃ as, Reads s.heap u d as
  | _, _, _, .non, r => by cases r; exact ⟨_, .none⟩
  | _, _, _, .bl b, r => by cases r; exact ⟨_, .bool b⟩
  | _, _, _, .int i, r => by obtain ⟨t, rfl⟩ := r; exact ⟨_, .int i t⟩
  | _, _, _, .str x, r => by obtain ⟨t, rfl⟩ := r; exact ⟨_, .str x t⟩
  | _, _, _, .lst h q, r => by
    cases r
    obtain ⟨its, rv, ⟨o, n, e, c, _, d⟩, _⟩ := I.list h
    obtain ⟨as, ra⟩ := Inv.readsAll I q rv
    exact ⟨_, .list e c d (by simpa using ra)⟩
  | _, _, _, .tup h q, r => by
    cases r
    obtain ⟨its, rv, ⟨o, e, c, n, d⟩, _⟩ := I.tuple h
    obtain ⟨as, ra⟩ := Inv.readsAll I q rv
    exact ⟨_, .tuple e c d (by simpa using ra)⟩
theorem Inv.readsAll (I : Inv X pins σ H s) : ∀ {xs : List V} {ds : List PyData} {us : List Value}, DAts X.K H xs ds → Vals xs us → ∃ as, ReadsAll s.heap us ds as
  | _, _, _, .nil, .nil => ⟨_, .nil⟩
  | _, _, _, .cons h r, .cons v t => by
    obtain ⟨as, ra⟩ := Inv.reads I h v
    obtain ⟨bs, rb⟩ := Inv.readsAll I r t
    exact ⟨_, .cons ra rb⟩
end
end
/-- enough room for a comparison -/
theorem Room.c64 {k : Nat} {A : Around} (r : Room k A) : A.units + 65 < cLine := by have := r.un; omega
def rEqD (K : PySem.W.Frag) : R2 := fun x y H Q => ∃ da db, DAt K H x da ∧ DAt K H y db ∧ SeqAt.shaped da = true ∧ SeqAt.shaped db = true ∧ Q (.bl (PyData.eqv da db)) H
def rNeD (K : PySem.W.Frag) : R2 := fun x y H Q => ∃ da db, DAt K H x da ∧ DAt K H y db ∧ SeqAt.shaped da = true ∧ SeqAt.shaped db = true ∧ Q (.bl (!PyData.eqv da db)) H
def rInD (K : PySem.W.Frag) : R2 := fun x y H Q => ∃ ds d, (DAt K H y (.list ds) ∨ DAt K H y (.tuple ds)) ∧ DAt K H x d ∧ SeqAt.shaped (.list ds) = true ∧ SeqAt.shaped d = true ∧ Q (.bl (ds.any fun e => PyData.eqv e d)) H
def rNotInD (K : PySem.W.Frag) : R2 := fun x y H Q => ∃ ds d, (DAt K H y (.list ds) ∨ DAt K H y (.tuple ds)) ∧ DAt K H x d ∧ SeqAt.shaped (.list ds) = true ∧ SeqAt.shaped d = true ∧ Q (.bl (!(ds.any fun e => PyData.eqv e d))) H
section
variable {X : Cx} {K : PySem.W.Frag}
theorem op_eqD (hK : X.K = K) (hu : X.A.units + 65 < cLine) : OpR X (compareOp .Eq) (rEqD K) := by
  subst hK
  intro pins s σ H x y v u Q I rx ry h
  obtain ⟨da, db, ha, hb, sa, sb, q⟩ := h
  obtain ⟨as, ra⟩ := I.reads ha rx
  obtain ⟨bs, rb⟩ := I.reads hb ry
  exact eq_dataH ra rb sa sb (by omega) ⟨.bl _, H, I, rfl, q⟩
theorem op_neD (hK : X.K = K) (hu : X.A.units + 65 < cLine) : OpR X (compareOp .NotEq) (rNeD K) := by
  subst hK
  intro pins s σ H x y v u Q I rx ry h
  obtain ⟨da, db, ha, hb, sa, sb, q⟩ := h
  obtain ⟨as, ra⟩ := I.reads ha rx
  obtain ⟨bs, rb⟩ := I.reads hb ry
  exact ne_dataH ra rb sa sb (by omega) ⟨.bl _, H, I, rfl, q⟩
theorem op_inD (hK : X.K = K) (hu : X.A.units + 65 < cLine) : OpR X (compareOp .In) (rInD K) := by
  subst hK
  intro pins s σ H x y v u Q I rx ry h
  obtain ⟨ds, d, hc, hd, sa, sb, q⟩ := h
  obtain ⟨bs, rb⟩ := I.reads hd rx
  rcases hc with hc | hc
  · obtain ⟨as, ra⟩ := I.reads hc ry
    exact SeqAt.in_list_reads ra rb (SeqAt.canLay_of_shaped sa) (SeqAt.canLay_of_shaped sb) (room_in_shaped sb hu) ⟨.bl _, H, I, rfl, q⟩
  · obtain ⟨as, ra⟩ := I.reads hc ry
    exact SeqAt.in_tuple_reads ra rb (by have := SeqAt.canLay_of_shaped sa; simpa [PyData.canLay0] using this) (SeqAt.canLay_of_shaped sb) (room_in_shaped sb hu) ⟨.bl _, H, I, rfl, q⟩
theorem op_notInD (hK : X.K = K) (hu : X.A.units + 65 < cLine) : OpR X (compareOp .NotIn) (rNotInD K) := by
  subst hK
  intro pins s σ H x y v u Q I rx ry h
  obtain ⟨ds, d, hc, hd, sa, sb, q⟩ := h
  obtain ⟨bs, rb⟩ := I.reads hd rx
  rcases hc with hc | hc
  · obtain ⟨as, ra⟩ := I.reads hc ry
    exact SeqAt.notIn_list_reads ra rb (SeqAt.canLay_of_shaped sa) (SeqAt.canLay_of_shaped sb) (room_in_shaped sb hu) ⟨.bl _, H, I, rfl, q⟩
  · obtain ⟨as, ra⟩ := I.reads hc ry
    exact SeqAt.notIn_tuple_reads ra rb (by have := SeqAt.canLay_of_shaped sa; simpa [PyData.canLay0] using this) (SeqAt.canLay_of_shaped sb) (room_in_shaped sb hu) ⟨.bl _, H, I, rfl, q⟩

/-! ### a text cut -/
def rSlS : V → Option Int → Option Int → Hp → VK → Prop := fun x lo hi H Q => ∃ z, x = .str z ∧ z.length ≤ sizeLine ∧ Q (.str (Txt.slice z lo hi)) H
theorem sl_str : SlR X rSlS := by
  intro pins s σ H x v vl vu lo hi sl Q I rx hs pl pu h
  obtain ⟨z, rfl, hz, q⟩ := h
  obtain ⟨t, rfl⟩ := rx
  refine ⟨"str", _, F.slot_str_getitem.lookup, typeIs_str _ _ _, ?_⟩
  have fin : ∀ t' k, EP X pins σ Q (.str (Txt.slice z lo hi) t') { s with toks := k } := fun t' k => ⟨.str _, H, I.tok k, ⟨t', rfl⟩, q⟩
  cases pl with
  | none => cases pu with
    | none => exact wpAny_getItem_str_slice (l := none) (u := none) (st := none) hs rfl (post_val_or_str ⟨Nat.le_trans (Txt.slice_le z _ _) hz, fin⟩)
    | int j uj => exact wpAny_getItem_str_slice (l := none) (u := some (j, uj)) (st := none) hs rfl (post_val_or_str ⟨Nat.le_trans (Txt.slice_le z _ _) hz, fin⟩)
  | int i ui => cases pu with
    | none => exact wpAny_getItem_str_slice (l := some (i, ui)) (u := none) (st := none) hs rfl (post_val_or_str ⟨Nat.le_trans (Txt.slice_le z _ _) hz, fin⟩)
    | int j uj => exact wpAny_getItem_str_slice (l := some (i, ui)) (u := some (j, uj)) (st := none) hs rfl (post_val_or_str ⟨Nat.le_trans (Txt.slice_le z _ _) hz, fin⟩)

/-! ### a list unpacked -/
def gLst (K : PySem.W.Frag) (n : Nat) (t : TGs) : TG := fun v σ H Q => ∃ a xs, v = .ref a ∧ SqL K H a xs ∧ xs.length = n ∧ t xs σ H Q
theorem draw_list {prog : Program} {w : World} {A : Around} {E : Value → Shared → Prop} {it t : Addr} {items : Array Value} (hne : t ≠ it) : ∀ (n i : Nat) (s : Shared) (Q : List Value → Shared → Prop), s.heap.IsListIter it t i → s.heap.IsList t items → i + n ≤ items.size →
    (∀ h', h'.IsListIter it t (i + n) → Heap.SameBut it s.heap h' → Q ((items.toList.drop i).take n) { s with heap := h' }) → wpAny (model prog w) A (draw (.ref it) n) Q E s
  | 0, i, s, Q, hit, _, _, hQ => by
    show wpAny _ _ (pure []) Q E s
    exact wpAny_pure (by simpa using hQ s.heap hit (Heap.SameBut.refl ..))
  | n + 1, i, s, Q, hit, ht, hle, hQ => by
    have hlt : i < items.size := by omega
    show wpAny _ _ (pyNext (.ref it) >>= _) Q E s
    refine wpAny_bind (wpAny_pyNext_list_item hit ht (x := items[i]) (by simp [hlt]) fun h₁ hit₁ hs₁ => ?_)
    refine wpAny_bind (wpAny_holding (draw_list hne n (i + 1) _ _ hit₁ (ht.extBut hs₁.extBut hne) (by omega) fun h₂ hit₂ hs₂ => wpAny_pure ?_))
    have hd : items.toList.drop i = items[i] :: items.toList.drop (i + 1) := by simp [List.drop_eq_getElem_cons, hlt]
    have q := hQ h₂ (by rw [show i + (n + 1) = i + 1 + n by omega]; exact hit₂) (hs₁.trans hs₂)
    rw [hd, List.take_succ_cons] at q
    exact q
theorem unpackItems_list {prog : Program} {w : World} {A : Around} {E : Value → Shared → Prop} {s : Shared} {t : Addr} {items : Array Value} {Q : List Value → Shared → Prop} (hh : A.handled = none) (ht : s.heap.IsList t items)
    (hQ : ∀ h', Heap.ExtBut s.heap.objs.size s.heap h' → Q items.toList { s with heap := h' }) : wpAny (model prog w) A (unpackItems (.ref t) items.size none) Q E s := by
  have hlt : t ≠ s.heap.objs.size := by obtain ⟨o, ho, _⟩ := ht; exact Nat.ne_of_lt (Heap.lt_size ho)
  unfold unpackItems
  refine wpAny_bind ?_
  unfold notIterableAtAll
  refine wpAny_bind (wpAny_specialOf ht.typeIs slot_list_iter.lookup ?_)
  refine wpAny_pure ?_
  simp only [Bool.false_eq_true, if_false]
  refine wpAny_bind (wpAny_holding (wpAny_pyIter_list ht ?_))
  refine wpAny_bind (wpAny_holding (draw_list hlt items.size 0 _ _ ⟨_, Heap.get?_push_size _ rfl, rfl, rfl⟩ (ht.at fun o e => Heap.get?_push_of_some _ e) (by omega) fun h₁ hit₁ hs₁ => ?_))
  have hall : List.take items.size (List.drop 0 items.toList) = items.toList := by
    rw [List.drop_zero]; exact List.take_of_length_le (by simp)
  rw [hall]
  rw [if_neg (by simp)]
  have ht₁ : h₁.IsList t items := (ht.at fun o e => Heap.get?_push_of_some _ e).extBut hs₁.extBut hlt
  refine wpAny_bind (wpAny_holding (wpAny_pyNext_list_end hh hit₁ ht₁ (by simp) fun h₂ he₂ => ?_))
  simp only [Option.isSome_none, Bool.false_eq_true, if_false]
  exact wpAny_pure (hQ h₂ fun b o hb e => he₂ b o hb (hs₁.extBut b o hb (Heap.get?_push_of_some _ e)))
theorem pg_lst {es : List Expr} {k : Nat} {t : TGs} {n : Nat} {pos : Pos} (hK : X.K = K) (hc : X.calm = true) (h : PGs X es t)
    (hn : (assignEach es X.env).length = n := by rfl) (hst : (assignEach es X.env).findIdx? (·.1) = none := by rfl) : PG X (.Tuple es k pos) (gLst K n t) := by
  subst hK
  intro pins s σ H v u Q I r hw
  obtain ⟨a, xs, e1, hq, hl, hw⟩ := hw
  subst e1
  cases r
  obtain ⟨its, rv, pl, hz⟩ := I.list hq
  have hsz : (assignEach es X.env).length = its.toArray.size := by simp [hn, ← hl, rv.length]
  rw [assign_Tuple]
  refine wpAny_bind (wpAny_standAt ?_)
  unfold unpack
  rw [hsz, hst]
  refine wpAny_bind (wpAny_holding (unpackItems_list (I.ok.hd hc) pl.isList fun h' hx => ?_))
  have I1 : Inv X pins σ H { s with heap := h' } := I.kept (t' := s.toks) fun b o e => hx b o (Nat.ne_of_lt (Heap.lt_size e)) e
  exact h pins _ σ H xs _ Q I1 (by simpa using rv) hw

/-! ### bit_length, len of a dict by tuples, sum, index -/
def rBitLen : V → List V → Hp → VK → Prop := fun x vs H Q => ∃ i, x = .int i ∧ vs = [] ∧ Q (.int ((Builtin.Int.intBits i : Nat) : Int)) H
theorem mt_bitlen : MtR X "int.bit_length" rBitLen := by
  intro pins s σ H x vs v us Q I rx rv h
  obtain ⟨i, rfl, rfl, q⟩ := h
  obtain ⟨t, rfl⟩ := rx
  cases rv
  exact call_int_bit_length ⟨.int _, H, I.tok _, ⟨_, rfl⟩, q⟩
theorem meets_len_raw {prog : Program} {w : World} {d : Addr} (hd : (d == sysModules) = false) :
    MeetsIn prog w (Builtin.«dict.__len__» ⟨[.ref d], []⟩) (fun _ R s => ∃ o es ep, s.heap.get? d = some o ∧ o.data = .dict es ep ∧ R (.ok (.ret (.int es.size s.toks))) { s with toks := s.toks + 1 }) :=
  .of_wp fun A R s ⟨o, es, ep, ho, hdat, h⟩ => by
    show wpAny _ _ (dictSize d >>= _) _ _ s
    unfold dictSize
    refine wpAny_bind (wpAny_bind (wpAny_dictEntries ho hdat (wpAny_pure ?_)))
    show wpAny _ _ (Builtin.Dict.pendingCount d >>= _) _ _ s
    refine wpAny_bind (wpAny_pendingCount_other hd ?_)
    refine wpAny_ret_mkInt ?_
    simpa using h
theorem len_raw {prog : Program} {w : World} {A : Around} {E : Value → Shared → Prop} {s : Shared} {d : Addr} {o : Obj} {es : Array DictEntry} {ep : Nat} {Q : Value → Shared → Prop} (hd : (d == sysModules) = false) (ho : s.heap.get? d = some o) (hc : o.cls = .type "dict") (hdat : o.data = .dict es ep) (hfit : (es.size : Int) < 2 ^ 63)
    (h : Q (.int es.size (s.toks + 1)) { s with toks := s.toks + 1 + 1 }) : wpAny (model prog w) A (call (.builtin "len") [.ref d]) Q E s := by
  have ht : s.TypeIs (.ref d) "dict" := ⟨o, ho, hc⟩
  refine Calls.call_function_entry kind_len plain_len entry_len (args_len1 _) ?_
  unfold Builtin.«len»
  refine wpAny_bind (m := oneArg "len" _) (wpAny_pure ?_)
  refine wpAny_bind (m := callSpecial? (.ref d) (Str.ofString "__len__")) (wpAny_callSpecial?_slot (name := Str.ofString "__len__") ht F.slot_dict_len
    (call_meetsIn F.slot_dict_len ht F.entry_dict_len (F.args_dict_len_1 _) (meets_len_raw hd) ⟨o, es, ep, ho, hdat, ?_⟩))
  show wpAny _ _ _ _ _ { s with toks := s.toks + 1 }
  refine wpAny_bind (wpAny_holding (wpAny_pure ?_))
  refine wpAny_bind (wpAny_letGo ?_)
  show wpAny _ _ (if ((es.size : Nat) : Int) < 0 then _ else _) _ _ _
  rw [if_neg (by omega)]
  show wpAny _ _ (if ((es.size : Nat) : Int) ≥ 2 ^ 63 then _ else _) _ _ _
  rw [if_neg (by omega)]
  exact wpAny_bind (wpAny_mkInt (wpAny_pure ⟨_, rfl, h⟩))
def rLenT : List V → Hp → VK → Prop := fun xs H Q => ∃ a kvs, xs = [V.ref a] ∧ H a = some (.dT kvs) ∧ Q (.int kvs.length) H
theorem call_lenT : CallR X (.builtin "len") rLenT := by
  intro pins s σ H xs us Q I r h
  obtain ⟨a, kvs, rfl, ha, q⟩ := h
  obtain ⟨u, rfl, ru⟩ := vals1 r
  cases ru
  obtain ⟨z, hd, xs, rel, o, es, ep, h1, h2, h3, h4, _⟩ := dt_of I.hok ha
  have hl : es.size = kvs.length := by
    have e1 : es.toList.length = xs.length := by rw [h4, List.length_map]
    have e2 : kvs.length = xs.length := Paired.length rel
    rw [Array.length_toList] at e1
    omega
  refine len_raw hd h1 h2.1 h3 (by rw [hl]; rw [sizeLine_eq] at z; omega) ?_
  rw [hl]
  exact ⟨.int kvs.length, H, I.tok _, ⟨_, rfl⟩, q⟩
theorem preSum_eq (ns : List Int) : ∀ j, j ≤ ns.length → preSum (fun i => ns.getD i 0) j = (ns.take j).sum
  | 0, _ => by simp [preSum]
  | j + 1, h => by
    have hj : j < ns.length := by omega
    have e : ns.take (j + 1) = ns.take j ++ [ns[j]] := by rw [List.take_add_one, List.getElem?_eq_getElem hj]; rfl
    have e2 : ns.getD j 0 = ns[j] := by rw [List.getD_eq_getElem?_getD, List.getElem?_eq_getElem hj]; rfl
    rw [preSum, preSum_eq ns j (by omega), e, List.sum_append, e2]
    simp
def rSum (K : PySem.W.Frag) : List V → Hp → VK → Prop := fun xs H Q => ∃ (p : Addr) (ns : List Int), xs = [.ref p] ∧ SqL K H p (ns.map V.int) ∧ (∀ j, j < ns.length → InLong (ns.getD j 0) ∧ InLong (ns.take (j + 1)).sum) ∧ Q (.int ns.sum) H
theorem call_sumK (hK : X.K = K) (hc : X.calm = true) : CallR X (.builtin "sum") (rSum K) := by
  subst hK
  intro pins s σ H xs us Q I r h
  obtain ⟨p, ns, rfl, hp, hfit, q⟩ := h
  obtain ⟨u, rfl, ru⟩ := Vals.one r
  cases ru
  obtain ⟨its, rv, pl, hz⟩ := I.list hp
  have hlen := rv.length
  rw [List.length_map] at hlen
  have hne : p ≠ s.heap.objs.size := by
    obtain ⟨o, n, e, _⟩ := pl
    exact Nat.ne_of_lt (Heap.lt_size e)
  refine call_sum_walk (wpAny_pyIter_list pl.isList ?_)
  refine ⟨s.heap.objs.size, _, _, its.toArray.size, _, _, fun i => ns.getD i 0, rfl, Walks.list (A := X.A.in1) (I.ok.hd hc) s.heap.objs.size p hne its.toArray, ⟨⟨_, Heap.get?_push_size _ rfl, rfl, rfl⟩, ?_⟩, ?_, ?_, ?_, fun h' tk t' hk => ?_⟩
  · exact pl.isList.at fun o e => Heap.get?_push_of_some _ e
  · intro b hb
    have e : b = s.heap.objs.size ∨ b = p := by simpa using hb
    have hsz : ∀ ob : Obj, (s.heap.push ob).objs.size = s.heap.objs.size + 1 := fun ob => Heap.size_push ..
    rcases e with e | e
    · rw [e]; exact Nat.lt_of_lt_of_eq (Nat.lt_succ_self _) (hsz _).symm
    · obtain ⟨o, n, e2, _⟩ := pl
      rw [e]; exact Nat.lt_of_lt_of_eq (Nat.lt_succ_of_lt (Heap.lt_size e2)) (hsz _).symm
  · intro i v hv
    have hv' : its[i]? = some v := by simpa using hv
    have hi : i < its.length := (List.getElem?_eq_some_iff.mp hv').1
    obtain ⟨u', hu', ru'⟩ := rv.get (i := i) (x := .int (ns.getD i 0)) (by
      rw [List.getElem?_map, List.getElem?_eq_getElem (by omega), List.getD_eq_getElem?_getD, List.getElem?_eq_getElem (by omega)]; rfl)
    rw [hv'] at hu'; cases hu'
    exact ru'
  · intro j hj
    have hj' : j < ns.length := by simp at hj; omega
    rw [preSum_eq ns (j + 1) (by omega)]
    exact hfit j hj'
  · have e : preSum (fun i => ns.getD i 0) its.toArray.size = ns.sum := by
      rw [show its.toArray.size = ns.length by simp; omega, preSum_eq ns _ (Nat.le_refl _), List.take_of_length_le (Nat.le_refl _)]
    rw [e]
    exact ⟨.int _, H, I.kept (h' := h') (t' := tk) fun b o e => hk b o (by
      have : b ≠ s.heap.objs.size := Nat.ne_of_lt (Heap.lt_size e)
      simpa using this) (Heap.get?_push_of_some _ e), ⟨t', rfl⟩, q⟩
/-- the first place of a text in a list of texts -/
def rIndex (K : PySem.W.Frag) : V → List V → Hp → VK → Prop := fun x vs H Q => ∃ (p : Addr) (zs : List Str) (z : Str) (j : Nat), x = .ref p ∧ vs = [.str z] ∧ SqL K H p (zs.map V.str) ∧ zs[j]? = some z ∧ (∀ m, m < j → zs[m]? ≠ some z) ∧ Q (.int (j : Nat)) H
theorem mt_indexK (hK : X.K = K) : MtR X "list.index" (rIndex K) := by
  subst hK
  intro pins s σ H x vs v us Q I rx rv h
  obtain ⟨p, zs, z, j, rfl, rfl, hp, hj, hno, q⟩ := h
  cases rx
  obtain ⟨u, rfl, ru⟩ := Vals.one rv
  obtain ⟨t, rfl⟩ := ru
  obtain ⟨its, r, ⟨o, n, e, hc, hdn, hdat⟩, hz⟩ := I.list hp
  have hlen := r.length
  rw [List.length_map] at hlen
  have hjl : j < zs.length := (List.getElem?_eq_some_iff.mp hj).1
  have at_ : ∀ m (hm : m < its.length), ∃ t', its[m] = .str (zs[m]'(by omega)) t' := fun m hm => by
    obtain ⟨u', hu', ru'⟩ := r.get (i := m) (x := .str (zs[m]'(by omega))) (by rw [List.getElem?_map, List.getElem?_eq_getElem (by omega)]; rfl)
    rw [List.getElem?_eq_getElem hm] at hu'; cases hu'
    exact ru'
  obtain ⟨cls, dict, data, slots⟩ := o
  dsimp only at hc hdn hdat
  subst hc hdn hdat
  refine call_meets F.slot_list_index ⟨_, e, rfl⟩ F.entry_list_index (F.args_list_index_2 _ _)
    (SeqAt.list_indexAt p its.toArray n none slots (.str z t) (fun y => match y with | .str w _ => w == z | _ => false) j (by simp; omega) (by rw [sizeLine_eq] at hz; rw [List.length_map] at hz; omega) ?_ ?_) ⟨e, ?_, ?_⟩
  · obtain ⟨t', e'⟩ := at_ j (by omega)
    have ez : zs[j]'(by omega) = z := by rw [List.getElem?_eq_getElem hjl] at hj; exact Option.some.inj hj
    simp only [List.getElem_toArray, e', ez, beq_self_eq_true]
  · intro m hm hmj
    have hm' : m < its.length := by simpa using hm
    obtain ⟨t', e'⟩ := at_ m hm'
    have hne := hno m hmj
    rw [List.getElem?_eq_getElem (by omega)] at hne
    simp only [List.getElem_toArray, e', beq_eq_false_iff_ne]
    exact fun q => hne (by rw [q])
  · intro y hy
    obtain ⟨m, hm, ey⟩ := List.mem_iff_getElem.mp (by simpa using hy : y ∈ its)
    obtain ⟨t', e'⟩ := at_ m hm
    rw [← ey, e']
    exact SeqAt.EqAt.str_str _ _ _ _
  · exact ⟨.int _, H, I.tok _, ⟨_, rfl⟩, q⟩
end

/-! ### a text cut: its signs -/
theorem sliceTake {x : Str} {k : Nat} (h : k ≤ x.length) : (Txt.slice x none (some (k : Int))).cps.toList = x.cps.toList.take k := by
  have hi : Builtin.Str.strSliceIndices none (some (k : Int)) 1 x.length = List.range k := by
    unfold Builtin.Str.strSliceIndices sliceRange
    simp only [show (1 : Int) > 0 by decide, if_true]
    rw [if_neg (by omega : ¬ (k : Int) < 0), show max 0 (min (k : Int) (x.length : Int)) = k by omega]
    by_cases hk : (0 : Int) < k
    · rw [if_pos hk]
      have : ((k : Int) - 0 + 1 - 1) / 1 = k := by omega
      rw [this, Int.toNat_natCast]
      refine List.ext_getElem (by simp) fun i h1 h2 => ?_
      simp
    · have : k = 0 := by omega
      subst this
      simp
  unfold Txt.slice
  rw [hi]
  have hx : x.length = x.cps.size := rfl
  split
  · rename_i hc
    have : k = x.length := by simpa using hc
    rw [List.take_of_length_le (by simp; omega)]
  · refine List.ext_getElem? fun i => ?_
    show ((List.range k).filterMap fun j => x.cps[j]?)[i]? = _
    have e : ((List.range k).filterMap fun j => x.cps[j]?) = x.cps.toList.take k := by
      clear hi
      rename_i hc
      clear hc
      induction k with
      | zero => simp
      | succ k ih =>
        rw [List.range_succ, List.filterMap_append, ih (by omega), List.take_add_one]
        congr 1
        have hk : k < x.cps.size := by omega
        simp [hk]
    rw [e]
theorem sliceDrop {x : Str} {k : Nat} (h : k ≤ x.length) : (Txt.slice x (some (k : Int)) none).cps.toList = x.cps.toList.drop k := by
  have hx : x.length = x.cps.size := rfl
  have hi : Builtin.Str.strSliceIndices (some (k : Int)) none 1 x.length = (List.range (x.length - k)).map fun j => k + j := by
    unfold Builtin.Str.strSliceIndices sliceRange
    simp only [show (1 : Int) > 0 by decide, if_true]
    rw [if_neg (by omega : ¬ (k : Int) < 0), show max 0 (min (k : Int) (x.length : Int)) = k by omega]
    by_cases hk : (k : Int) < x.length
    · rw [if_pos hk]
      have : (((x.length : Int) - k + 1 - 1) / 1).toNat = x.length - k := by omega
      rw [this]
      refine List.ext_getElem (by simp) fun i h1 h2 => ?_
      simp
      omega
    · have : x.length - k = 0 := by omega
      rw [if_neg hk, this]
      simp
  unfold Txt.slice
  rw [hi]
  have e : (((List.range (x.length - k)).map fun j => k + j).filterMap fun j => x.cps[j]?) = x.cps.toList.drop k := by
    refine List.ext_getElem? fun i => ?_
    rw [List.getElem?_drop, List.filterMap_map]
    have e2 : ∀ n, n ≤ x.length - k → ((List.range n).filterMap ((fun j => x.cps[j]?) ∘ fun j => k + j)) = (x.cps.toList.drop k).take n := by
      intro n
      induction n with
      | zero => intro _; simp
      | succ n ih =>
        intro hn
        rw [List.range_succ, List.filterMap_append, ih (by omega), List.take_add_one, List.getElem?_drop]
        congr 1
        have hk : k + n < x.cps.size := by omega
        simp [hk]
    rw [e2 _ (Nat.le_refl _), List.take_of_length_le (by simp; omega), List.getElem?_drop]
  split
  · rename_i hc
    have : k = 0 := by
      have hc' : x.length - k = x.length := by simpa using hc
      have hx0 : x.length = 0 ∨ k = 0 := by omega
      omega
    subst this
    simp
  · exact e

/-! ### more of one rule for several kinds -/
section
variable {X : Cx} {K : PySem.W.Frag}
def rInE (K : PySem.W.Frag) : R2 := fun x y H Q => rInS x y H Q ∨ rInD K x y H Q
def rNotInE (K : PySem.W.Frag) : R2 := fun x y H Q => rNotInS x y H Q ∨ rNotInD K x y H Q
theorem op_inE (hK : X.K = K) (hu : X.A.units + 65 < cLine) : OpR X (compareOp .In) (rInE K) := op_in_str.or (op_inD hK hu)
theorem op_notInE (hK : X.K = K) (hu : X.A.units + 65 < cLine) : OpR X (compareOp .NotIn) (rNotInE K) := op_notIn_str.or (op_notInD hK hu)
theorem PG.or {tg : Expr} {g g' : TG} (h : PG X tg g) (h' : PG X tg g') : PG X tg (fun v σ H Q => g v σ H Q ∨ g' v σ H Q) := by
  intro pins s σ H v u Q I r q
  rcases q with q | q
  · exact h pins s σ H v u Q I r q
  · exact h' pins s σ H v u Q I r q
def gSeq (K : PySem.W.Frag) (n : Nat) (t : TGs) : TG := fun v σ H Q => gTup K n t v σ H Q ∨ gLst K n t v σ H Q
theorem pg_seqK {es : List Expr} {k : Nat} {t : TGs} {n : Nat} {pos : Pos} (hK : X.K = K) (hc : X.calm = true) (h : PGs X es t)
    (hn : (assignEach es X.env).length = n := by rfl) (hst : (assignEach es X.env).findIdx? (·.1) = none := by rfl) : PG X (.Tuple es k pos) (gSeq K n t) := (pg_tupK hK hc h hn hst).or (pg_lst hK hc h hn hst)
def rLenE (K : PySem.W.Frag) : List V → Hp → VK → Prop := fun xs H Q => rLenG K xs H Q ∨ rLenT xs H Q
theorem call_lenE (hK : X.K = K) : CallR X (.builtin "len") (rLenE K) := (call_lenK hK).or call_lenT
def rSlE (K : PySem.W.Frag) : V → Option Int → Option Int → Hp → VK → Prop := fun x lo hi H Q => rSlS x lo hi H Q ∨ rSlL K x lo hi H Q ∨ rSlT K x lo hi H Q
theorem sl_seqE (hK : X.K = K) : SlR X (rSlE K) := by
  subst hK
  exact sl_str.or (sl_list.or sl_tup)
end
section
variable {K : PySem.W.Frag} {σ : St} {H : Hp} {Q : VK} {v x y : V} {i j : Int} {ta tb : TE} {D : Ends} {p : Addr} {xs : List V}
theorem shaped_int (i : Int) : SeqAt.shaped (.int i) = true := rfl
theorem rd_eqII (h : Q (.bl (i == j)) H) : rEqD K (.int i) (.int j) H Q := ⟨.int i, .int j, .int i, .int j, rfl, rfl, h⟩
theorem rd_neII (h : Q (.bl (!(i == j))) H) : rNeD K (.int i) (.int j) H Q := ⟨.int i, .int j, .int i, .int j, rfl, rfl, h⟩
theorem rd_eqBB {a b : Bool} (h : Q (.bl (a == b)) H) : rEqD K (.bl a) (.bl b) H Q := ⟨.bool a, .bool b, .bl a, .bl b, rfl, rfl, h⟩
theorem rd_neBB {a b : Bool} (h : Q (.bl (!(a == b))) H) : rNeD K (.bl a) (.bl b) H Q := ⟨.bool a, .bool b, .bl a, .bl b, rfl, rfl, h⟩
theorem shaped_str {z : Str} (h : PyData.strOk z = true) : SeqAt.shaped (.str z) = true := by
  unfold SeqAt.shaped
  rw [show PyData.canLay0 (.str z) = PyData.strOk z from rfl, h, Bool.true_and]
  exact decide_eq_true (by simp [PyData.depth])
theorem rd_eqSS {a b : Str} (ha : PyData.strOk a = true) (hb : PyData.strOk b = true) (h : Q (.bl (a == b)) H) : rEqD K (.str a) (.str b) H Q := ⟨.str a, .str b, .str a, .str b, shaped_str ha, shaped_str hb, h⟩
theorem rd_inES {a b : Str} (h : Q (.bl (!(Builtin.Str.occurrences b a 0 b.length 1).isEmpty)) H) : rInE K (.str a) (.str b) H Q := .inl ⟨a, b, rfl, rfl, h⟩
theorem rd_lenE {n : Nat} (l : LenV K x H n) (h : Q (.int n) H) : rLenE K [x] H Q := .inl ⟨x, n, rfl, l, h⟩
theorem rd_lenT {kvs : List (List Key × V)} (l : H p = some (.dT kvs)) (h : Q (.int kvs.length) H) : rLenE K [.ref p] H Q := .inr ⟨p, kvs, rfl, l, h⟩
theorem len_sqt {p : Addr} {xs : List V} (h : SqT K H p xs) : LenV K (.ref p) H xs.length := .inr ⟨xs, h, rfl⟩
theorem rd_gseqL {n : Nat} {t : TGs} {Q : St → Hp → Prop} (h : SqL K H p xs) (hl : xs.length = n) (q : t xs σ H Q) : gSeq K n t (.ref p) σ H Q := .inr ⟨p, xs, rfl, h, hl, q⟩
theorem rd_gseqT {n : Nat} {t : TGs} {Q : St → Hp → Prop} (h : SqT K H p xs) (hl : xs.length = n) (q : t xs σ H Q) : gSeq K n t (.ref p) σ H Q := .inl ⟨p, xs, rfl, h, hl, q⟩
theorem rd_gcons {t : TG} {u : TGs} {r : List V} {Q : St → Hp → Prop} (h : t v σ H fun σ' H' => u r σ' H' Q) : gCons t u (v :: r) σ H Q := ⟨v, r, rfl, h⟩
theorem rd_gnil {Q : St → Hp → Prop} (h : Q σ H) : gNil [] σ H Q := ⟨rfl, h⟩
theorem rd_sl {r : V → Option Int → Option Int → Hp → VK → Prop} {te : TE} {tl th : TO} (h : te σ H fun x H1 => tl σ H1 fun l H2 => th σ H2 fun u H3 => r x l u H3 Q) : tSl r te tl th σ H Q := h
theorem rd_nopart {Q : Option Int → Hp → Prop} (h : Q none H) : tNoPart σ H Q := h
theorem rd_part {t : TE} {Q : Option Int → Hp → Prop} (h : t σ H fun x H1 => ∃ i, x = .int i ∧ Q (some i) H1) : tPart t σ H Q := h
theorem rd_parti {P : Int → Prop} (h : P i) : ∃ k, V.int i = .int k ∧ P k := ⟨i, rfl, h⟩
theorem rd_slS {z : Str} {lo hi : Option Int} (hz : z.length ≤ sizeLine) (h : Q (.str (Txt.slice z lo hi)) H) : rSlE K (.str z) lo hi H Q := .inl ⟨z, rfl, hz, h⟩
theorem rd_slL {lo hi : Option Int} (hp : SqL K H p xs) (h : ∀ q, H q = none → Q (.ref q) (upd H q (.lst (cutV xs lo hi)))) : rSlE K (.ref p) lo hi H Q := .inr (.inl ⟨p, xs, rfl, hp, h⟩)
theorem rd_while {c : TT} {tb : TS} (h : tWhile c tb D σ H) : tWhile c tb D σ H := h
end
theorem ite_beq {α : Type} [BEq α] [LawfulBEq α] {a b : α} {A B : Prop} (h1 : a = b → A) (h2 : ¬ a = b → B) : if (a == b) = true then A else B := by
  by_cases h : a = b
  · rw [if_pos (by simpa using h)]; exact h1 h
  · rw [if_neg (by simpa using h)]; exact h2 h
theorem ite_nbeq {α : Type} [BEq α] [LawfulBEq α] {a b : α} {A B : Prop} (h1 : ¬ a = b → A) (h2 : a = b → B) : if (!(a == b)) = true then A else B := by
  by_cases h : a = b
  · rw [if_neg (by simpa using h)]; exact h2 h
  · rw [if_pos (by simpa using h)]; exact h1 h
end L2

set_option Elab.async false
set_option linter.all false
set_option maxRecDepth 100000
set_option maxHeartbeats 4000000
namespace L2
open PySem PySem.Spec PyProof.Rows
/-! ### the keys of a dict, whatever they are, as a list -/
section
variable {prog : Program} {w : World} {A : Around} {E : Value → Shared → Prop} {s : Shared}
/-- a dict by its entries -/
def RawD (h : Heap) (d : Addr) (es : Array DictEntry) (ep : Nat) : Prop := ∃ o, h.get? d = some o ∧ o.cls = .type "dict" ∧ o.data = .dict es ep
theorem RawD.at {h h' : Heap} {d : Addr} {es : Array DictEntry} {ep : Nat} (r : RawD h d es ep) (k : ∀ o, h.get? d = some o → h'.get? d = some o) : RawD h' d es ep := let ⟨o, e, q⟩ := r; ⟨o, k o e, q⟩
theorem raw_iter {d : Addr} {es : Array DictEntry} {ep : Nat} {Q : Value → Shared → Prop} (nd : (d == sysModules) = false) (r : RawD s.heap d es ep)
    (q : Q (.ref s.heap.objs.size) { s with heap := s.heap.push { cls := .type "dict_keyiterator", data := .fields #[.ref d, .int 0 0, .int es.size 0, .int ep 0] } }) : wpAny (model prog w) A (pyIter (.ref d)) Q E s := by
  obtain ⟨ob, e1, e2, e3⟩ := r
  have ty : s.TypeIs (.ref d) "dict" := ⟨ob, e1, e2⟩
  refine wpAny_pyIter_slot ty F.slot_dict_iter (wpAny_call_entry F.slot_dict_iter ty F.entry_dict_iter ?_ (F.args_dict_iter_1 _)); unfold Builtin.«dict.__iter__»
  refine wpAny_bind ?_; unfold Builtin.Dict.dictSlotNone
  refine wpAny_bind (wpAny_notOrdered_dict ty ?_); show wpAny _ _ (pure (Value.ref d)) _ _ s
  refine wpAny_pure ?_; show wpAny _ _ (Builtin.Dict.showsAll d >>= _) _ _ s; unfold Builtin.Dict.showsAll; rw [if_neg (by rw [nd]; exact Bool.false_ne_true)]
  refine wpAny_bind (wpAny_pure (wpAny_bind (wpAny_dictEntries e1 e3 (wpAny_bind (wpAny_dictEpoch e1 e3 ?_)))))
  refine wpAny_bind (wpAny_newObj_type (wpAny_pure ⟨_, rfl, "dict_keyiterator", _, ⟨_, Heap.get?_push_size _ rfl, rfl⟩, F.slot_dict_keyiterator_next.lookup, by simpa [rawInt] using q⟩))
theorem raw_next {it d : Addr} {i ep : Nat} {es : Array DictEntry} {Q : Option Value → Shared → Prop} (hi : s.heap.IsKeyIter it d i es.size ep) (r : RawD s.heap d es ep) (lt : i < es.size)
    (q : ∀ h', h'.IsKeyIter it d (i + 1) es.size ep → Heap.SameBut it s.heap h' → Q (some es[i].key) { s with heap := h' }) : wpAny (model prog w) A (pyNext (.ref it)) Q E s := by
  obtain ⟨oi, f1, f2, f3⟩ := id hi
  obtain ⟨ob, e1, e2, e3⟩ := r
  unfold pyNext; refine wpAny_bind (wpAny_attempt (wpAny_callSpecial?_slot (name := Str.ofString "__next__") hi.typeIs F.slot_dict_keyiterator_next (wpAny_call_entry F.slot_dict_keyiterator_next hi.typeIs F.entry_dict_keyiterator_next ?_ (F.args_dict_keyiterator_next_1 _))))
  refine wpAny_bind (wpAny_pure (wpAny_bind (wpAny_bind ?_)))
  first | (refine wpAny_bind (wpAny_typeNameOfWhole_keyiter hi.typeIs (wpAny_pure ?_)); skip) | (refine wpAny_bind (wpAny_typeNameOf_keyiter hi.typeIs (wpAny_pure ?_)); skip)
  refine wpAny_bind (wpAny_fieldsOf f1 f3 ?_)
  simp only [show Builtin.Dict_items.ownsTuple "dict_keyiterator" = false by decide, Bool.false_eq_true, if_false]; show wpAny _ _ (if (Value.ref d == Value.none) = true then _ else _) _ _ s
  rw [if_neg (by exact Bool.false_ne_true : ¬ ((Value.ref d == Value.none) = true))]
  refine wpAny_bind (wpAny_pure (wpAny_bind (wpAny_dictEntries e1 e3 ?_))); rw [if_neg (by simp)]
  refine wpAny_bind (wpAny_pure (wpAny_bind (wpAny_dictEpoch e1 e3 ?_))); rw [if_neg (by simp)]
  refine wpAny_pure ?_; simp only [show ¬ ((i : Int) < 0) by omega, if_false, Int.toNat_natCast, Array.getElem?_eq_getElem lt]
  refine wpAny_bind ?_; first | (refine wpAny_bind (wpAny_typeNameOfWhole_keyiter hi.typeIs (wpAny_pure ?_)); skip) | (refine wpAny_bind (wpAny_typeNameOf_keyiter hi.typeIs (wpAny_pure ?_)); skip)
  refine wpAny_bind (wpAny_isOneOf_keyiter hi.typeIs ?_); show wpAny _ _ (setField (.ref it) 1 (rawInt ((i : Int) + 1)) >>= _) _ _ s
  refine wpAny_bind (wpAny_setField f1 f3 (by simp) ?_)
  have hi' : (s.heap.update it (Obj.mapFields (·.setIfInBounds 1 (rawInt ((i : Int) + 1))))).IsKeyIter it d (i + 1) es.size ep := ⟨_, Heap.get?_update_self _ f1 (Obj.isFreed_of_fields (Obj.data_mapFields f3 _)), (Obj.cls_mapFields ..).trans f2, by rw [Obj.data_mapFields f3]; simp [rawInt]⟩
  refine wpAny_bind (wpAny_holding (wpAny_bind (wpAny_isOneOf_keyiter (s := { s with heap := s.heap.update it (Obj.mapFields (·.setIfInBounds 1 (rawInt ((i : Int) + 1)))) }) hi'.typeIs ?_))); show wpAny _ _ (pure es[i].key) _ _ _
  exact wpAny_pure (wpAny_pure ⟨_, rfl, wpAny_pure (q _ hi' (Heap.SameBut.update ..))⟩)
theorem raw_end {it d : Addr} {ep : Nat} {es : Array DictEntry} {Q : Option Value → Shared → Prop} (hh : A.handled = none) (hi : s.heap.IsKeyIter it d es.size es.size ep) (r : RawD s.heap d es ep)
    (q : ∀ h', Heap.ExtBut it s.heap h' → Q none { s with heap := h' }) : wpAny (model prog w) A (pyNext (.ref it)) Q E s := by
  obtain ⟨oi, f1, f2, f3⟩ := id hi
  obtain ⟨ob, e1, e2, e3⟩ := r
  unfold pyNext; refine wpAny_bind (wpAny_attempt (wpAny_callSpecial?_slot (name := Str.ofString "__next__") hi.typeIs F.slot_dict_keyiterator_next (wpAny_call_entry F.slot_dict_keyiterator_next hi.typeIs F.entry_dict_keyiterator_next ?_ (F.args_dict_keyiterator_next_1 _))))
  refine wpAny_bind (wpAny_pure (wpAny_bind (wpAny_bind ?_)))
  first | (refine wpAny_bind (wpAny_typeNameOfWhole_keyiter hi.typeIs (wpAny_pure ?_)); skip) | (refine wpAny_bind (wpAny_typeNameOf_keyiter hi.typeIs (wpAny_pure ?_)); skip)
  refine wpAny_bind (wpAny_fieldsOf f1 f3 ?_)
  simp only [show Builtin.Dict_items.ownsTuple "dict_keyiterator" = false by decide, Bool.false_eq_true, if_false]; show wpAny _ _ (if (Value.ref d == Value.none) = true then _ else _) _ _ s
  rw [if_neg (by exact Bool.false_ne_true : ¬ ((Value.ref d == Value.none) = true))]
  refine wpAny_bind (wpAny_pure (wpAny_bind (wpAny_dictEntries e1 e3 ?_))); rw [if_neg (by simp)]
  refine wpAny_bind (wpAny_pure (wpAny_bind (wpAny_dictEpoch e1 e3 ?_))); rw [if_neg (by simp)]
  refine wpAny_pure ?_; simp only [show ¬ ((es.size : Int) < 0) by omega, if_false, Int.toNat_natCast, Array.getElem?_eq_none (Nat.le_refl es.size)]
  refine wpAny_bind ?_; first | (refine wpAny_bind (wpAny_typeNameOfWhole_keyiter hi.typeIs (wpAny_pure ?_)); skip) | (refine wpAny_bind (wpAny_typeNameOf_keyiter hi.typeIs (wpAny_pure ?_)); skip)
  show wpAny _ _ (setField (.ref it) 0 .none >>= _) _ _ s; refine wpAny_bind (wpAny_setField f1 f3 (by simp) ?_)
  show wpAny _ _ (newExc (.type "StopIteration") [] >>= _) _ _ _; refine wpAny_bind ?_; simp only [newExc, newTuple]
  refine wpAny_bind (wpAny_newObj_type ?_ (by size_fits)); refine wpAny_bind (m := firstArgMember _ _) (wpAny_of_eq (a := Value.none) (by first | rfl | (simp only [firstArgMember]; rfl)) ?_)
  refine wpAny_newObj_type ?_ (by size_fits); simp only [raiseNew]; refine wpAny_bind (wpAny_handled ?_); rw [show A.in1.handled = none from hh]
  refine wpAny_bind (wpAny_pure (wpAny_throw ?_)); refine wpAny_bind (wpAny_isInstance (T := "StopIteration") (b := true) ⟨_, Heap.get?_push_size _ rfl, rfl⟩ isSubtype_stop ?_)
  exact wpAny_pure (q _ (((Heap.SameBut.update ..).extBut.push _).push _))
theorem raw_walks (hh : A.handled = none) (I d : Addr) (ne : d ≠ I) (es : Array DictEntry) (ep : Nat) : PySem.Walks prog w A I [I, d] [I] es.size (fun i v => ∃ e, es[i]? = some e ∧ v = e.key) (fun i h => h.IsKeyIter I d i es.size ep ∧ RawD h d es ep) where
  sub := fun b hb => by simp at hb; simp [hb]
  frame := fun _ _ _ st k => ⟨st.1.at fun o e => k I (by simp) o e, st.2.at fun o e => k d (by simp) o e⟩
  item := fun i s Q E lt st hQ => raw_next st.1 st.2 lt fun h' hi' hs' => hQ _ h' s.toks ⟨es[i], by simp [lt], rfl⟩ ⟨hi', st.2.at fun o e => hs'.extBut d o ne e⟩ fun b o hb e => hs'.extBut b o (fun z => hb (by simp [z])) e
  done := fun s Q E st hQ => raw_end hh st.1 st.2 fun h' he' => hQ h' s.toks fun b o hb e => he' b o (fun z => hb (by simp [z])) e
  self := fun _ _ _ _ st hQ => wpAny_pyIter_keyiter st.1 hQ
theorem raw_hint {d : Addr} {es : Array DictEntry} {ep : Nat} {Q : Bool → Shared → Prop} (r : RawD s.heap d es ep) (q : Q false s) : wpAny (model prog w) A (Builtin.List.listLengthHint (.ref d)) Q E s := by
  obtain ⟨ob, e1, e2, e3⟩ := id r
  have ty : s.TypeIs (.ref d) "dict" := ⟨ob, e1, e2⟩
  unfold Builtin.List.listLengthHint; refine wpAny_bind (wpAny_specialOf ty F.slot_dict_len.lookup ?_)
  generalize hid : ("dict.__len__" : String) = id0; wp_delta
  rw [show splitId id0 = some ("dict", "__len__") from by subst hid; decide +kernel]; subst hid
  refine wpAny_bind (wpAny_isInstance (T := "dict") (b := true) ty (by rw [isSubtype_type]; kernel_rfl) ?_)
  refine wpAny_ite_split (fun hab => absurd hab (by decide)) (fun _ => wpAny_ite_split (fun _ => ?_) (fun hab => absurd (by decide +kernel) hab))
  exact wpAny_bind (wpAny_typeOf ty (wpAny_pure q))
theorem raw_extend {R : Result → Shared → Prop} {d : Addr} {es : Array DictEntry} {ep : Nat} (hh : A.handled = none) (nd : (d == sysModules) = false) (r : RawD s.heap d es ep) (z : es.size ≤ sizeLine) (S : Addr) (c₀ : Nat) (hS : s.heap.get? S = some { cls := .type "list", data := .seq #[] c₀ })
    (hR : ∀ h' tk acc' c', (∀ b o, b ≠ S → s.heap.get? b = some o → h'.get? b = some o) → h'.get? S = some { cls := .type "list", dict := none, data := .seq acc' c', slots := #[] } → ItemsOf (fun i v => ∃ e, es[i]? = some e ∧ v = e.key) acc' es.size → R (.ok (.ret .none)) { s with heap := h', toks := tk }) :
    wpAny (model prog w) A.in1 (Builtin.List.listExtendWith (.ref S) (.ref d) .none) (fun fin s' => match fin with | .done f => R (.ok f) s' | .again c' => c'.quiet = true ∧ codeAny (model prog w) A c' R s') (fun e s' => R (.error e) s') s := by
  obtain ⟨ob, e1, e2, e3⟩ := id r
  have nSd : S ≠ d := fun e => by rw [e, e1] at hS; cases hS; exact absurd (show Value.type "list" = Value.type "dict" from e2) (by decide)
  have nSI : S ≠ s.heap.objs.size := Nat.ne_of_lt (Heap.lt_size hS)
  have ndI : d ≠ s.heap.objs.size := Nat.ne_of_lt (Heap.lt_size e1)
  have nSf : S ∉ [s.heap.objs.size, d] := by simp [nSd, nSI]
  have W := (raw_walks (prog := prog) (w := w) (A := A.in1) hh s.heap.objs.size d ndI es ep).toS
  have key : ∀ (h : Heap) (c₁ tk : Nat), (h.IsKeyIter s.heap.objs.size d 0 es.size ep ∧ RawD h d es ep) → (∀ b o, b ≠ S → s.heap.get? b = some o → h.get? b = some o) → h.get? S = some { cls := .type "list", data := .seq #[] c₁ } →
      codeAny (model prog w) A (.builtin "list.extend.loop" ⟨[.ref S, .ref s.heap.objs.size, .none], []⟩) R { s with heap := h, toks := tk } := fun h c₁ tk hit hk hS₁ => by
    refine codeAny_extend_loopS W z S nSf .none es.size 0 _ #[] c₁ rfl (Nat.zero_le _) hit hS₁ (ItemsOf.nil _) fun s' acc' c' hm hS' hacc => ?_
    rw [Moved.eq_with hm]; refine hR s'.heap s'.toks acc' c' (fun b o hb e => hm.heap b o (fun hmem => ?_) (hk b o hb e)) hS' hacc
    rcases List.mem_cons.mp hmem with e' | hmem
    · exact hb e'
    · rw [List.mem_singleton] at hmem; subst hmem; exact absurd (Heap.lt_size e) (Nat.lt_irrefl _)
  unfold Builtin.List.listExtendWith; refine wpAny_bind (wpAny_typeOf (T := "dict") ⟨ob, e1, e2⟩ ?_)
  simp only [show Builtin.List.listSameRef (.ref S) (.ref d) = false by simp [Builtin.List.listSameRef, nSd], show (Value.type "dict" == Value.type "list") = false by decide, show (Value.type "dict" == Value.type "tuple") = false by decide, Bool.or_false, Bool.false_eq_true, if_false]
  refine wpAny_bind (raw_iter nd r ?_)
  have r₁ : RawD (s.heap.push { cls := .type "dict_keyiterator", data := .fields #[.ref d, .int 0 0, .int es.size 0, .int ep 0] }) d es ep := r.at fun o e => Heap.get?_push_of_some _ e
  refine wpAny_bind (wpAny_holding (raw_hint r₁ ?_))
  have i₁ : (s.heap.push { cls := .type "dict_keyiterator", data := .fields #[.ref d, .int 0 0, .int es.size 0, .int ep 0] }).IsKeyIter s.heap.objs.size d 0 es.size ep := ⟨_, Heap.get?_push_size _ rfl, rfl, rfl⟩
  have S₁ := Heap.get?_push_of_some { cls := .type "dict_keyiterator", data := .fields #[.ref d, .int 0 0, .int es.size 0, .int ep 0] } hS
  refine wpAny_ite_split (fun _ => ?_) (fun hab => absurd (by decide) hab)
  refine wpAny_bind (wpAny_rule (wpAny_bind ?_)); show wpAny _ _ (updateSeq S (·.push .none) >>= fun _ => updateSeq S (·.pop)) _ _ _
  refine wpAny_bind (wpAny_updateSeq S₁ rfl ?_)
  have S₂ := Heap.get?_update_self (Obj.mapSeq (·.push Value.none)) S₁ rfl
  refine wpAny_updateSeq (hz := by seq_fits) S₂ rfl ?_
  have S₃ := Heap.get?_update_self (Obj.mapSeq (·.pop)) S₂ rfl
  have oth : ∀ b o, b ≠ S → (s.heap.push { cls := .type "dict_keyiterator", data := .fields #[.ref d, .int 0 0, .int es.size 0, .int ep 0] }).get? b = some o → ((((s.heap.push { cls := .type "dict_keyiterator", data := .fields #[.ref d, .int 0 0, .int es.size 0, .int ep 0] }).update S (Obj.mapSeq (·.push Value.none))).update S (Obj.mapSeq (·.pop)))).get? b = some o :=
    fun b o hb e => (Heap.get?_update_other _ _ (Ne.symm hb)).trans ((Heap.get?_update_other _ _ (Ne.symm hb)).trans e)
  exact wpAny_pure ⟨plainId_quiet F.plain_extend_loop _, key _ _ _ ⟨i₁.at fun o e => oth _ o (Ne.symm nSI) e, r₁.at fun o e => oth _ o (Ne.symm nSd) e⟩ (fun b o hb e => oth b o hb (Heap.get?_push_of_some _ e)) S₃⟩
theorem raw_list {Q : Value → Shared → Prop} {d : Addr} {es : Array DictEntry} {ep : Nat} (hh : A.handled = none) (nd : (d == sysModules) = false) (r : RawD s.heap d es ep) (z : es.size ≤ sizeLine)
    (hQ : ∀ h' tk acc' c', (∀ b o, s.heap.get? b = some o → h'.get? b = some o) → h'.get? s.heap.objs.size = some { cls := .type "list", dict := none, data := .seq acc' c', slots := #[] } → ItemsOf (fun i v => ∃ e, es[i]? = some e ∧ v = e.key) acc' es.size → Q (.ref s.heap.objs.size) { s with heap := h', toks := tk }) :
    wpAny (model prog w) A (call (.type "list") [.ref d]) Q E s := by
  refine callType_codes (Q₁ := fun obj s₁ => obj = .ref s.heap.objs.size ∧ s₁ = { s with heap := s.heap.push { cls := .type "list", data := .seq #[] } }) F.called_list (F.typeCall_list_1 _) F.entry_list_init (code_list_new _ ⟨rfl, rfl⟩) fun obj s₁ h₁ => ?_
  obtain ⟨rfl, rfl⟩ := h₁
  have hS : (s.heap.push { cls := .type "list", data := .seq #[] }).get? s.heap.objs.size = some { cls := .type "list", data := .seq #[] } := by exact Heap.get?_push_size _ rfl
  have r₁ : RawD (s.heap.push { cls := .type "list", data := .seq #[] }) d es ep := r.at fun o e => Heap.get?_push_of_some _ e
  refine ⟨⟨_, hS, rfl⟩, F.args_list_init_2 _ _, ?_⟩
  show wpAny _ _ (do let old ← Builtin.List.listItems (.ref s.heap.objs.size); Builtin.List.listUpdate (.ref s.heap.objs.size) (fun _ => #[]); letGo old.toList.reverse; Builtin.List.listExtendWith (.ref s.heap.objs.size) (.ref d) .none) _ _ _
  refine wpAny_bind ?_; unfold Builtin.List.listItems; refine wpAny_bind (wpAny_seqItems hS rfl (wpAny_pure ?_))
  show wpAny _ _ (updateSeq s.heap.objs.size (fun _ => #[]) >>= fun _ => letGo (#[] : Array Value).toList.reverse >>= fun _ => Builtin.List.listExtendWith (.ref s.heap.objs.size) (.ref d) .none) _ _ _
  refine wpAny_bind (wpAny_updateSeq hS rfl ?_)
  have S₂ := Heap.get?_update_self (Obj.mapSeq (fun _ => (#[] : Array Value))) hS rfl
  have oth : ∀ b o, b ≠ s.heap.objs.size → (s.heap.push { cls := .type "list", data := .seq #[] }).get? b = some o → ((s.heap.push { cls := .type "list", data := .seq #[] }).update s.heap.objs.size (Obj.mapSeq (fun _ => (#[] : Array Value)))).get? b = some o := fun b o hb e => by exact (Heap.get?_update_other _ _ (Ne.symm hb)).trans e
  have ndI : d ≠ s.heap.objs.size := by obtain ⟨ob, e1, _⟩ := r; exact Nat.ne_of_lt (Heap.lt_size e1)
  refine wpAny_bind (wpAny_letGo (raw_extend (A := A.in1) hh nd (r₁.at fun o e => oth d o ndI e) z _ _ S₂ fun h' tk acc' c' hk hS' hacc => ?_))
  exact ⟨rfl, hQ h' tk acc' c' (fun b o e => hk b o (Nat.ne_of_lt (Heap.lt_size e)) (oth b o (Nat.ne_of_lt (Heap.lt_size e)) (Heap.get?_push_of_some _ e))) hS' hacc⟩
end
end L2

set_option Elab.async false
set_option linter.all false
set_option maxRecDepth 100000
set_option maxHeartbeats 4000000
namespace L2
open PySem PySem.Spec PyProof.Rows

/-! ### trees without addresses -/
inductive D where
  | non | bl (b : Bool) | int (i : Int) | str (x : Str) | ty (n : String) | adr (a : Addr)
  | tup (xs : List D) | lst (xs : List D) | kt (xs : List D) | fz (xs : List D) | dK (kvs : List (Key × D)) | dT (kvs : List (List Key × D)) | ins (c : Nat) (fs : List (Str × D))
instance : Inhabited D := ⟨.non⟩
/-- the written part, and the classes by their numbers -/
structure Bk where
  K : PySem.W.Frag
  cl : Nat → Addr
def KnL (K : PySem.W.Frag) (a : Addr) (xs : List V) : Prop := ∃ (o : Obj) (its : Array Value) (n : Nat), K.lookup a = some o ∧ o.cls = .type "list" ∧ o.dict = none ∧ o.data = .seq its n ∧ its.size ≤ sizeLine ∧ Vals xs its.toList
def KnT (K : PySem.W.Frag) (a : Addr) (xs : List V) : Prop := ∃ (o : Obj) (its : Array Value) (n : Nat), K.lookup a = some o ∧ o.cls = .type "tuple" ∧ o.data = .seq its n ∧ its.size ≤ sizeLine ∧ Vals xs its.toList
def NdL (B : Bk) (H : Hp) (F : Addr → Prop) (a : Addr) (xs : List V) : Prop := F a ∧ H a = some (.lst xs)
def NdT (B : Bk) (H : Hp) (F : Addr → Prop) (a : Addr) (xs : List V) : Prop := F a ∧ H a = some (.tup xs)
/-- a list that is never written: the script, one of the module -/
def NdF (B : Bk) (H : Hp) (F : Addr → Prop) (a : Addr) (xs : List V) : Prop := (F a ∧ ∃ o, H a = some (.frz o (.lst xs))) ∨ KnL B.K a xs
theorem NdF.sq {B : Bk} {H : Hp} {F : Addr → Prop} {a : Addr} {xs : List V} (h : NdF B H F a xs) : SqL B.K H a xs := by
  rcases h with ⟨_, o, h⟩ | h
  · exact .inl (.inr ⟨o, h⟩)
  · exact .inr h
theorem NdF.keep {B : Bk} {H H' : Hp} {F F' : Addr → Prop} {a : Addr} {xs : List V} (h : NdF B H F a xs) (k : ∀ b o, F b → H b = some o → H' b = some o) (up : ∀ b, F b → F' b) : NdF B H' F' a xs := by
  rcases h with ⟨f, o, h⟩ | h
  · exact .inl ⟨up _ f, o, k _ _ f h⟩
  · exact .inr h
theorem NdL.sq {B : Bk} {H : Hp} {F : Addr → Prop} {a : Addr} {xs : List V} (h : NdL B H F a xs) : SqL B.K H a xs := .inl (.inl h.2)
theorem NdT.sq {B : Bk} {H : Hp} {F : Addr → Prop} {a : Addr} {xs : List V} (h : NdT B H F a xs) : SqT B.K H a xs := .inl (.inl h.2)
theorem KnT.sq {K : PySem.W.Frag} {H : Hp} {a : Addr} {xs : List V} (h : KnT K a xs) : SqT K H a xs := .inr h
mutual
/-- the tree d lies at v, all its nodes within F -/
inductive DA (B : Bk) (H : Hp) (F : Addr → Prop) : V → D → Prop
  | non : DA B H F .non .non
  | bl (b : Bool) : DA B H F (.bl b) (.bl b)
  | int (i : Int) : DA B H F (.int i) (.int i)
  | str (x : Str) : DA B H F (.str x) (.str x)
  | ty (n : String) : DA B H F (.ty n) (.ty n)
  | adr (a : Addr) : DA B H F (.ref a) (.adr a)
  | tup {a : Addr} {xs : List V} {ds : List D} (h : NdT B H F a xs) (r : DAs B H F xs ds) : DA B H F (.ref a) (.tup ds)
  | lst {a : Addr} {xs : List V} {ds : List D} (h : NdL B H F a xs) (r : DAs B H F xs ds) : DA B H F (.ref a) (.lst ds)
  | kt {a : Addr} {xs : List V} {ds : List D} (h : KnT B.K a xs) (r : DAs B H F xs ds) : DA B H F (.ref a) (.kt ds)
  | fz {a : Addr} {xs : List V} {ds : List D} (h : NdF B H F a xs) (r : DAs B H F xs ds) : DA B H F (.ref a) (.fz ds)
  | dK {a : Addr} {kvs : List (Key × V)} {ds : List (Key × D)} (f : F a) (h : H a = some (.dK kvs)) (e : kvs.map (·.1) = ds.map (·.1)) (r : DAs B H F (kvs.map (·.2)) (ds.map (·.2))) : DA B H F (.ref a) (.dK ds)
  | dT {a : Addr} {kvs : List (List Key × V)} {ds : List (List Key × D)} (f : F a) (h : H a = some (.dT kvs)) (e : kvs.map (·.1) = ds.map (·.1)) (r : DAs B H F (kvs.map (·.2)) (ds.map (·.2))) : DA B H F (.ref a) (.dT ds)
  | ins {a dx : Addr} {c : Nat} {fs : List (Str × V)} {ds : List (Str × D)} (f : F a) (h : H a = some (.ins (B.cl c) dx fs)) (e : fs.map (·.1) = ds.map (·.1)) (r : DAs B H F (fs.map (·.2)) (ds.map (·.2))) : DA B H F (.ref a) (.ins c ds)
inductive DAs (B : Bk) (H : Hp) (F : Addr → Prop) : List V → List D → Prop
  | nil : DAs B H F [] []
  | cons {x : V} {d : D} {xs : List V} {ds : List D} (h : DA B H F x d) (r : DAs B H F xs ds) : DAs B H F (x :: xs) (d :: ds)
end
section
variable {B : Bk} {H H' : Hp} {F F' : Addr → Prop}
theorem Rd.keep {a : Addr} {u : HO} (h : Rd H a u) (k : ∀ o, H a = some o → H' a = some o) : Rd H' a u := by
  rcases h with h | ⟨o, h⟩
  · exact .inl (k _ h)
  · exact .inr ⟨o, k _ h⟩
mutual
theorem DA.mono (k : ∀ b o, F b → H b = some o → H' b = some o) (up : ∀ b, F b → F' b) : ∀ {v : V} {d : D}, DA B H F v d → DA B H' F' v d
  | _, _, .non => .non
  | _, _, .bl b => .bl b
  | _, _, .int i => .int i
  | _, _, .str x => .str x
  | _, _, .ty n => .ty n
  | _, _, .adr a => .adr a
  | _, _, .tup h r => .tup ⟨up _ h.1, k _ _ h.1 h.2⟩ (DAs.mono k up r)
  | _, _, .lst h r => .lst ⟨up _ h.1, k _ _ h.1 h.2⟩ (DAs.mono k up r)
  | _, _, .kt h r => .kt h (DAs.mono k up r)
  | _, _, .fz h r => .fz (h.keep k up) (DAs.mono k up r)
  | _, _, .dK f h e r => .dK (up _ f) (k _ _ f h) e (DAs.mono k up r)
  | _, _, .dT f h e r => .dT (up _ f) (k _ _ f h) e (DAs.mono k up r)
  | _, _, .ins f h e r => .ins (up _ f) (k _ _ f h) e (DAs.mono k up r)
theorem DAs.mono (k : ∀ b o, F b → H b = some o → H' b = some o) (up : ∀ b, F b → F' b) : ∀ {vs : List V} {ds : List D}, DAs B H F vs ds → DAs B H' F' vs ds
  | _, _, .nil => .nil
  | _, _, .cons h r => .cons (DA.mono k up h) (DAs.mono k up r)
end
theorem DAs.length : ∀ {vs : List V} {ds : List D}, DAs B H F vs ds → vs.length = ds.length
  | _, _, .nil => rfl
  | _, _, .cons _ r => by rw [List.length_cons, List.length_cons, DAs.length r]
theorem DAs.get : ∀ {vs : List V} {ds : List D} {i : Nat} {d : D}, DAs B H F vs ds → ds[i]? = some d → ∃ v, vs[i]? = some v ∧ DA B H F v d
  | _, _, _, _, .nil, e => by simp at e
  | _, _, 0, _, .cons h _, e => by simp at e; subst e; exact ⟨_, rfl, h⟩
  | _, _, i + 1, _, .cons _ r, e => by simpa using DAs.get (i := i) r (by simpa using e)
theorem DAs.append : ∀ {vs ws : List V} {ds es : List D}, DAs B H F vs ds → DAs B H F ws es → DAs B H F (vs ++ ws) (ds ++ es)
  | _, _, _, _, .nil, q => q
  | _, _, _, _, .cons h r, q => .cons h (DAs.append r q)
theorem DAs.one {vs : List V} {d : D} (h : DAs B H F vs [d]) : ∃ v, vs = [v] ∧ DA B H F v d := by
  cases h with
  | cons h r => cases r; exact ⟨_, rfl, h⟩
theorem DAs.two {vs : List V} {d e : D} (h : DAs B H F vs [d, e]) : ∃ v w, vs = [v, w] ∧ DA B H F v d ∧ DA B H F w e := by
  cases h with
  | cons h r => cases r with
    | cons h' r => cases r; exact ⟨_, _, rfl, h, h'⟩
theorem DAs.nil_of {vs : List V} (h : DAs B H F vs []) : vs = [] := by cases h; rfl
theorem DAs.take : ∀ {vs : List V} {ds : List D} (n : Nat), DAs B H F vs ds → DAs B H F (vs.take n) (ds.take n)
  | _, _, 0, _ => by simpa using DAs.nil
  | _, _, _ + 1, .nil => by simpa using DAs.nil
  | _, _, n + 1, .cons h r => by simpa using DAs.cons h (DAs.take n r)
theorem DAs.drop : ∀ {vs : List V} {ds : List D} (n : Nat), DAs B H F vs ds → DAs B H F (vs.drop n) (ds.drop n)
  | _, _, 0, h => by simpa using h
  | _, _, _ + 1, .nil => by simpa using DAs.nil
  | _, _, n + 1, .cons h r => by simpa using DAs.drop n r
end

/-! ### values that a slot may own -/
inductive SV where
  | sh (d : D) | li (xs : List D) | lk (xs : List D) | ll (xss : List (List D)) | dK (kvs : List (Key × D)) | dT (kvs : List (List Key × D)) | ob (c : Nat) (fs : List (Str × D))
@[simp] def SV.fr : SV → D
  | .sh d => d
  | .li xs => .lst xs
  | .lk xs => .lst xs
  | .ll xss => .lst (xss.map D.lst)
  | .dK kvs => .dK kvs
  | .dT kvs => .dT kvs
  | .ob c fs => .ins c fs
/-- lists that are owned, each at its own address -/
inductive LAs (B : Bk) (H : Hp) (F : Addr → Prop) : List Addr → List (List D) → Prop
  | nil : LAs B H F [] []
  | cons {a : Addr} {xs : List V} {ds : List D} {as : List Addr} {dss : List (List D)} (h : H a = some (.lst xs)) (q : DAs B H F xs ds) (r : LAs B H F as dss) : LAs B H F (a :: as) (ds :: dss)
def VA (B : Bk) (H : Hp) (F : Addr → Prop) (v : V) : SV → List Addr → Prop
  | .sh d, o => o = [] ∧ DA B H F v d
  | .li ds, o => ∃ a xs, v = .ref a ∧ o = [a] ∧ ¬ F a ∧ H a = some (.lst xs) ∧ DAs B H F xs ds
  | .lk ds, o => ∃ a xs, v = .ref a ∧ o = [a] ∧ ¬ F a ∧ H a = some (.lst xs) ∧ DAs B H F xs ds
  | .ll dss, o => ∃ a as, v = .ref a ∧ o = a :: as ∧ (a :: as).Nodup ∧ (∀ b ∈ a :: as, ¬ F b) ∧ H a = some (.lst (as.map V.ref)) ∧ LAs B H F as dss
  | .dK ds, o => ∃ a kvs, v = .ref a ∧ o = [a] ∧ ¬ F a ∧ H a = some (.dK kvs) ∧ kvs.map (·.1) = ds.map (·.1) ∧ DAs B H F (kvs.map (·.2)) (ds.map (·.2))
  | .dT ds, o => ∃ a kvs, v = .ref a ∧ o = [a] ∧ ¬ F a ∧ H a = some (.dT kvs) ∧ kvs.map (·.1) = ds.map (·.1) ∧ DAs B H F (kvs.map (·.2)) (ds.map (·.2))
  | .ob c ds, o => ∃ a dx fs, v = .ref a ∧ o = [a] ∧ ¬ F a ∧ H a = some (.ins (B.cl c) dx fs) ∧ fs.map (·.1) = ds.map (·.1) ∧ DAs B H F (fs.map (·.2)) (ds.map (·.2))
section
variable {B : Bk} {H H' : Hp} {F F' : Addr → Prop} {v : V} {x : SV} {o : List Addr}
theorem LAs.mono (k : ∀ b u, F b → H b = some u → H' b = some u) (up : ∀ b, F b → F' b) : ∀ {as : List Addr} {dss : List (List D)}, (∀ b u, b ∈ as → H b = some u → H' b = some u) → LAs B H F as dss → LAs B H' F' as dss
  | _, _, _, .nil => .nil
  | _, _, ko, .cons h q r => .cons (ko _ _ (by simp) h) (q.mono k up) (LAs.mono k up (fun b u hb => ko b u (by simp [hb])) r)
theorem LAs.alive : ∀ {as : List Addr} {dss : List (List D)}, LAs B H F as dss → ∀ b, b ∈ as → ∃ xs, H b = some (.lst xs)
  | _, _, .nil, b, hb => by simp at hb
  | _, _, .cons h q r, b, hb => by
    rcases List.mem_cons.mp hb with rfl | hb
    · exact ⟨_, h⟩
    · exact LAs.alive r b hb
theorem LAs.frozen (up : ∀ b, F b → F' b) : ∀ {as : List Addr} {dss : List (List D)}, LAs B H F as dss → (∀ b, b ∈ as → F' b) → DAs B H F' (as.map V.ref) (dss.map D.lst)
  | _, _, .nil, _ => .nil
  | _, _, .cons h q r, yes => .cons (.lst ⟨yes _ (by simp), h⟩ (q.mono (fun _ _ _ e => e) up)) (LAs.frozen up r fun b hb => yes b (by simp [hb]))
theorem LAs.length : ∀ {as : List Addr} {dss : List (List D)}, LAs B H F as dss → as.length = dss.length
  | _, _, .nil => rfl
  | _, _, .cons _ _ r => by simp [LAs.length r]
theorem VA.mono (h : VA B H F v x o) (k : ∀ b u, F b → H b = some u → H' b = some u) (ko : ∀ b u, b ∈ o → H b = some u → H' b = some u) (up : ∀ b, F b → F' b) (no : ∀ b, b ∈ o → ¬ F' b) : VA B H' F' v x o := by
  cases x with
  | sh d => exact ⟨h.1, h.2.mono k up⟩
  | li ds => obtain ⟨a, xs, e, rfl, _, hh, r⟩ := h; exact ⟨a, xs, e, rfl, no a (by simp), ko a _ (by simp) hh, r.mono k up⟩
  | lk ds => obtain ⟨a, xs, e, rfl, _, hh, r⟩ := h; exact ⟨a, xs, e, rfl, no a (by simp), ko a _ (by simp) hh, r.mono k up⟩
  | ll ds => obtain ⟨a, as, e, rfl, nd, _, hh, r⟩ := h; exact ⟨a, as, e, rfl, nd, no, ko a _ (by simp) hh, r.mono k up fun b u hb => ko b u (by simp [hb])⟩
  | dK ds => obtain ⟨a, xs, e, rfl, _, hh, q, r⟩ := h; exact ⟨a, xs, e, rfl, no a (by simp), ko a _ (by simp) hh, q, r.mono k up⟩
  | dT ds => obtain ⟨a, xs, e, rfl, _, hh, q, r⟩ := h; exact ⟨a, xs, e, rfl, no a (by simp), ko a _ (by simp) hh, q, r.mono k up⟩
  | ob c ds => obtain ⟨a, dx, xs, e, rfl, _, hh, q, r⟩ := h; exact ⟨a, dx, xs, e, rfl, no a (by simp), ko a _ (by simp) hh, q, r.mono k up⟩
theorem VA.alive (h : VA B H F v x o) {a : Addr} (e : a ∈ o) : H a ≠ none ∧ ¬ F a ∧ ∀ xs, H a ≠ some (.tup xs) := by
  have fin : ∀ {u : HO}, H a = some u → (∀ xs, u ≠ .tup xs) → (∀ ob xs, u ≠ .frz ob (.tup xs)) → ¬ F a → H a ≠ none ∧ ¬ F a ∧ ∀ xs, H a ≠ some (.tup xs) := fun {u} hu n1 n2 nf => by
    refine ⟨by rw [hu]; simp, nf, fun ys q => ?_⟩
    rw [hu] at q; exact n1 _ (Option.some.inj q)
  cases x with
  | sh d => rw [h.1] at e; simp at e
  | li ds => obtain ⟨b, xs, e1, rfl, nf, hh, r⟩ := h; cases List.mem_singleton.mp e; exact fin hh (by simp) (by simp) nf
  | lk ds => obtain ⟨b, xs, e1, rfl, nf, hh, r⟩ := h; cases List.mem_singleton.mp e; exact fin hh (by simp) (by simp) nf
  | ll ds =>
    obtain ⟨b, as, e1, rfl, nd, nf, hh, r⟩ := h
    rcases List.mem_cons.mp e with rfl | e'
    · exact fin hh (by simp) (by simp) (nf _ e)
    · obtain ⟨xs, hx⟩ := r.alive _ e'
      exact fin hx (by simp) (by simp) (nf _ e)
  | dK ds => obtain ⟨b, xs, e1, rfl, nf, hh, r⟩ := h; cases List.mem_singleton.mp e; exact fin hh (by simp) (by simp) nf
  | dT ds => obtain ⟨b, xs, e1, rfl, nf, hh, r⟩ := h; cases List.mem_singleton.mp e; exact fin hh (by simp) (by simp) nf
  | ob c ds => obtain ⟨b, dx, xs, e1, rfl, nf, hh, r⟩ := h; cases List.mem_singleton.mp e; exact fin hh (by simp) (by simp) nf
/-- seen as shared, its own nodes within F' -/
theorem VA.frozen (h : VA B H F v x o) (up : ∀ b, F b → F' b) (yes : ∀ b, b ∈ o → F' b) : DA B H F' v x.fr := by
  have id' : ∀ b u, F b → H b = some u → H b = some u := fun _ _ _ q => q
  cases x with
  | sh d => exact h.2.mono id' up
  | li ds => obtain ⟨a, xs, rfl, rfl, _, hh, r⟩ := h; exact .lst ⟨yes a (by simp), hh⟩ (r.mono id' up)
  | lk ds => obtain ⟨a, xs, rfl, rfl, _, hh, r⟩ := h; exact .lst ⟨yes a (by simp), hh⟩ (r.mono id' up)
  | ll ds => obtain ⟨a, as, rfl, rfl, _, _, hh, r⟩ := h; exact .lst ⟨yes a (by simp), hh⟩ (r.frozen up fun b hb => yes b (by simp [hb]))
  | dK ds => obtain ⟨a, xs, rfl, rfl, _, hh, q, r⟩ := h; exact .dK (yes a (by simp)) hh q (r.mono id' up)
  | dT ds => obtain ⟨a, xs, rfl, rfl, _, hh, q, r⟩ := h; exact .dT (yes a (by simp)) hh q (r.mono id' up)
  | ob c ds => obtain ⟨a, dx, xs, rfl, rfl, _, hh, q, r⟩ := h; exact .ins (yes a (by simp)) hh q (r.mono id' up)
end

/-! ### the slots -/
abbrev FSt := List (Option SV)
structure Rep (B : Bk) (H : Hp) (F : Addr → Prop) (σ : St) (S : FSt) (os : Nat → List Addr) : Prop where
  at' : ∀ i x, S[i]? = some (some x) → ∃ v, σ[i]? = some (some v) ∧ VA B H F v x (os i)
  out : ∀ i, (∀ x, S[i]? ≠ some (some x)) → os i = []
  inj : ∀ i j a, a ∈ os i → a ∈ os j → i = j
  fd : ∀ b, F b → H b ≠ none
  len : σ.length = S.length
def isT (H : Hp) (b : Addr) : Prop := ∃ xs, H b = some (.tup xs)
/-- more is laid: what stood stays, what is new within F is new -/
structure Al (H : Hp) (F : Addr → Prop) (H' : Hp) (F' : Addr → Prop) : Prop where
  same : Same H H'
  up : ∀ b, F b → F' b
  new : ∀ b, F' b → F b ∨ (H b = none ∧ H' b ≠ none) ∨ isT H b
theorem Al.refl {H : Hp} {F : Addr → Prop} : Al H F H F := ⟨fun _ _ h => h, fun _ h => h, fun _ h => .inl h⟩
theorem Al.trans {H H1 H2 : Hp} {F F1 F2 : Addr → Prop} (a : Al H F H1 F1) (b : Al H1 F1 H2 F2) : Al H F H2 F2 := by
  refine ⟨fun x o h => b.same x o (a.same x o h), fun x h => b.up x (a.up x h), fun x h => ?_⟩
  have old : ∀ {u : HO}, H1 x = some u → H2 x ≠ none := fun {u} e => by rw [b.same x u e]; simp
  rcases b.new x h with h | ⟨h, h'⟩ | ⟨ys, h⟩
  · rcases a.new x h with h | ⟨h, h'⟩ | h
    · exact .inl h
    · refine .inr (.inl ⟨h, ?_⟩)
      cases e : H1 x with
      | none => exact absurd e h'
      | some o => exact old e
    · exact .inr (.inr h)
  · refine .inr (.inl ⟨?_, h'⟩)
    cases e : H x with
    | none => rfl
    | some o => rw [a.same x o e] at h; cases h
  · cases e : H x with
    | none => exact .inr (.inl ⟨rfl, old h⟩)
    | some o => have := a.same x o e; rw [h] at this; cases this; exact .inr (.inr ⟨ys, e⟩)
def osL (os : Nat → List Addr) (L : List Nat) : Addr → Prop := fun b => ∃ i ∈ L, b ∈ os i
def orF (F G : Addr → Prop) : Addr → Prop := fun b => F b ∨ G b
section
variable {B : Bk} {H H' : Hp} {F F' G : Addr → Prop} {σ : St} {S : FSt} {os : Nat → List Addr} {L : List Nat}
theorem Rep.own (r : Rep B H F σ S os) {i : Nat} {a : Addr} (e : a ∈ os i) : ∃ x v, S[i]? = some (some x) ∧ σ[i]? = some (some v) ∧ VA B H F v x (os i) := by
  cases q : S[i]? with
  | none => rw [r.out i (by rw [q]; simp)] at e; simp at e
  | some z => cases z with
    | none => rw [r.out i (by rw [q]; simp)] at e; simp at e
    | some x => obtain ⟨v, h1, h2⟩ := r.at' i x q; exact ⟨x, v, rfl, h1, h2⟩
theorem Rep.alive (r : Rep B H F σ S os) {i : Nat} {a : Addr} (e : a ∈ os i) : H a ≠ none ∧ ¬ F a := by
  obtain ⟨x, v, _, _, h⟩ := r.own e
  exact ⟨(h.alive e).1, (h.alive e).2.1⟩
theorem Rep.mono (r : Rep B H F σ S os) (a : Al H F H' F') : Rep B H' F' σ S os := by
  refine ⟨fun i x h => ?_, r.out, r.inj, fun b h => ?_, r.len⟩
  · obtain ⟨v, h1, h2⟩ := r.at' i x h
    refine ⟨v, h1, h2.mono (fun b u _ q => a.same b u q) (fun b u _ q => a.same b u q) a.up fun b e q => ?_⟩
    have al := r.alive e
    rcases a.new b q with q | q | ⟨ys, q⟩
    · exact al.2 q
    · exact al.1 q.1
    · obtain ⟨_, _, _, _, va⟩ := r.own e
      exact (va.alive e).2.2 ys q
  · rcases a.new b h with h | h | ⟨ys, h⟩
    · cases e : H b with
      | none => exact absurd e (r.fd b h)
      | some o => rw [a.same b o e]; simp
    · exact h.2
    · rw [a.same b _ h]; simp
/-- what a callee saw as shared falls back: the slots own again what they owned -/
theorem Rep.split (r : Rep B H F σ S os) (a : Al H (orF F (osL os L)) H' G) : ∃ F', Al H F H' F' ∧ Rep B H' F' σ S os ∧ (∀ b, G b → orF F' (osL os L) b) ∧ ∀ b, F' b → G b := by
  have al : Al H F H' (fun b => G b ∧ ∀ i, b ∉ os i) := by
    refine ⟨a.same, fun b h => ⟨a.up b (.inl h), fun i e => (r.alive e).2 h⟩, fun b h => ?_⟩
    rcases a.new b h.1 with q | q
    · rcases q with q | ⟨i, _, q⟩
      · exact .inl q
      · exact absurd q (h.2 i)
    · exact .inr q
  refine ⟨_, al, r.mono al, fun b h => ?_, fun b h => h.1⟩
  by_cases q : ∀ i, b ∉ os i
  · exact .inl ⟨h, q⟩
  · have ⟨i, e⟩ : ∃ i, b ∈ os i := by
      apply Classical.byContradiction
      intro n
      exact q fun i e => n ⟨i, e⟩
    rcases a.new b h with z | z | ⟨ys, z⟩
    · rcases z with z | z
      · exact absurd z (r.alive e).2
      · exact .inr z
    · exact absurd z.1 (r.alive e).1
    · obtain ⟨_, _, _, _, va⟩ := r.own e
      exact absurd z ((va.alive e).2.2 ys)
end
end L2

set_option Elab.async false
set_option linter.all false
set_option maxRecDepth 100000
set_option maxHeartbeats 4000000
namespace L2
open PySem PySem.Spec PyProof.Rows

/-! ### what an expression does, by its slots -/
/-- shared data: the tree may reach into what the slots of L own -/
def FD (B : Bk) (t : TE) (L : List Nat) (m : FSt → Option D) : Prop :=
  ∀ (S : FSt) (σ : St) (H : Hp) (F : Addr → Prop) (os : Nat → List Addr) (Q : VK) (d : D), Rep B H F σ S os → m S = some d →
    (∀ v H' F', Al H F H' F' → Rep B H' F' σ S os → DA B H' (orF F' (osL os L)) v d → Q v H') → t σ H Q
/-- a value that may be owned -/
def FE (B : Bk) (t : TE) (L : List Nat) (m : FSt → Option SV) : Prop :=
  ∀ (S : FSt) (σ : St) (H : Hp) (F : Addr → Prop) (os : Nat → List Addr) (Q : VK) (x : SV), Rep B H F σ S os → m S = some x →
    (∀ v H' F' o, Al H F H' F' → Rep B H' F' σ S os → VA B H' (orF F' (osL os L)) v x o → (∀ a, a ∈ o → H a = none) → Q v H') → t σ H Q
def FT (B : Bk) (t : TT) (m : FSt → Option Bool) : Prop :=
  ∀ (S : FSt) (σ : St) (H : Hp) (F : Addr → Prop) (os : Nat → List Addr) (Q : Bool → Hp → Prop) (c : Bool), Rep B H F σ S os → m S = some c →
    (∀ H' F', Al H F H' F' → Rep B H' F' σ S os → Q c H') → t σ H Q
def FA (B : Bk) (t : TA) (L : List Nat) (m : FSt → Option (List D)) : Prop :=
  ∀ (S : FSt) (σ : St) (H : Hp) (F : Addr → Prop) (os : Nat → List Addr) (Q : List V → Hp → Prop) (ds : List D), Rep B H F σ S os → m S = some ds →
    (∀ vs H' F', Al H F H' F' → Rep B H' F' σ S os → DAs B H' (orF F' (osL os L)) vs ds → Q vs H') → t σ H Q

@[simp] def mV (i : Nat) : FSt → Option D := fun S => (S[i]?.join).map SV.fr
@[simp] def mC (d : D) : FSt → Option D := fun _ => some d
@[simp] def mFr (m : FSt → Option SV) : FSt → Option D := fun S => (m S).map SV.fr
@[simp] def mSh (m : FSt → Option D) : FSt → Option SV := fun S => (m S).map SV.sh
@[simp] def m2 {α : Type} (f : D → D → Option α) (a b : FSt → Option D) : FSt → Option α := fun S => (a S).bind fun x => (b S).bind fun y => f x y
@[simp] def m1 {α β : Type} (f : β → Option α) (a : FSt → Option β) : FSt → Option α := fun S => (a S).bind f
@[simp] def mNil : FSt → Option (List D) := fun _ => some []
@[simp] def mCons (a : FSt → Option D) (r : FSt → Option (List D)) : FSt → Option (List D) := fun S => (a S).bind fun x => (r S).bind fun xs => some (x :: xs)
@[simp] def asB : D → Option Bool
  | .bl b => some b
  | _ => none
@[simp] def mTruth (a : FSt → Option D) : FSt → Option Bool := fun S => (a S).bind asB
@[simp] def mAnd (a b : FSt → Option Bool) : FSt → Option Bool := fun S => (a S).bind fun c => if c = true then b S else some false
@[simp] def mOr (a b : FSt → Option Bool) : FSt → Option Bool := fun S => (a S).bind fun c => if c = true then some true else b S
@[simp] def mNot (a : FSt → Option Bool) : FSt → Option Bool := fun S => (a S).map fun c => !c
@[simp] def mBl (a : FSt → Option Bool) : FSt → Option D := fun S => (a S).map D.bl
@[simp] def mIte {α : Type} (c : FSt → Option Bool) (a b : FSt → Option α) : FSt → Option α := fun S => (c S).bind fun x => if x = true then a S else b S
@[simp] def mAlt {α : Type} (a b : FSt → Option α) : FSt → Option α := fun S => (a S).orElse fun _ => b S

section
variable {B : Bk} {ta tb tc : TE} {La Lb Lc L : List Nat} {ma mb mc : FSt → Option D} {t u : TT} {mt mu : FSt → Option Bool} {tr : TA} {mr : FSt → Option (List D)} {me me' : FSt → Option SV}
theorem orF_sub {F F' : Addr → Prop} {os : Nat → List Addr} {L L' : List Nat} (h1 : ∀ b, F b → F' b) (h2 : ∀ i, i ∈ L → i ∈ L') : ∀ b, orF F (osL os L) b → orF F' (osL os L') b := fun b h => by
  rcases h with h | ⟨i, h, e⟩
  · exact .inl (h1 b h)
  · exact .inr ⟨i, h2 i h, e⟩
/-- a tree that was read stays -/
theorem DA.later {H H' : Hp} {F F' : Addr → Prop} {os : Nat → List Addr} {L L' : List Nat} {v : V} {d : D} (h : DA B H (orF F (osL os L)) v d) (a : Al H F H' F') (hl : ∀ i, i ∈ L → i ∈ L') : DA B H' (orF F' (osL os L')) v d :=
  h.mono (fun b o _ e => a.same b o e) (orF_sub a.up hl)
theorem FD.fe (h : FD B ta L ma) : FE B ta L (mSh ma) := by
  intro S σ H F os Q x r e k
  unfold mSh at e
  cases q : ma S with
  | none => rw [q] at e; cases e
  | some d =>
    rw [q] at e; cases e
    exact h S σ H F os Q d r q fun v H' F' a r' da => k v H' F' [] a r' ⟨rfl, da⟩ (by simp)
theorem FE.fd (h : FE B ta L me) : FD B ta L (mFr me) := by
  intro S σ H F os Q d r e k
  unfold mFr at e
  cases q : me S with
  | none => rw [q] at e; cases e
  | some x =>
    rw [q] at e; cases e
    refine h S σ H F os Q x r q fun v H' F' o a r' va fr => ?_
    have al : Al H F H' (fun b => F' b ∨ b ∈ o) := by
      refine ⟨a.same, fun b h => .inl (a.up b h), fun b h => ?_⟩
      rcases h with h | h
      · exact a.new b h
      · exact .inr (.inl ⟨fr b h, (va.alive h).1⟩)
    refine k v H' _ al (r.mono al) (va.frozen (fun b h => ?_) fun b h => .inl (.inr h))
    rcases h with h | h
    · exact .inl (.inl h)
    · exact .inr h
theorem fd_var (i : Nat) : FD B (tVar i) [i] (mV i) := by
  intro S σ H F os Q d r e k
  unfold mV at e
  cases q : S[i]? with
  | none => rw [q] at e; cases e
  | some z => cases z with
    | none => rw [q] at e; cases e
    | some x =>
      rw [q] at e; cases e
      obtain ⟨v, h1, h2⟩ := r.at' i x q
      exact ⟨v, h1, k v H F Al.refl r (h2.frozen (fun b h => .inl h) fun b h => .inr ⟨i, by simp, h⟩)⟩
/-- scalars: data that is its own value -/
inductive Sc : V → D → Prop
  | non : Sc .non .non
  | bl (b : Bool) : Sc (.bl b) (.bl b)
  | int (i : Int) : Sc (.int i) (.int i)
  | str (x : Str) : Sc (.str x) (.str x)
  | ty (n : String) : Sc (.ty n) (.ty n)
  | adr (a : Addr) : Sc (.ref a) (.adr a)
theorem Sc.da {H : Hp} {F : Addr → Prop} {v : V} {d : D} (h : Sc v d) : DA B H F v d := by cases h <;> constructor
theorem fd_C {v : V} {d : D} (h : Sc v d) : FD B (tC v) [] (mC d) := by
  intro S σ H F os Q d' r e k
  cases e
  exact k v H F Al.refl r h.da
/-- a constant of the module, a tree -/
theorem fd_K {v : V} {d : D} (h : ∀ H F, DA B H F v d) : FD B (tC v) [] (mC d) := by
  intro S σ H F os Q d' r e k
  cases e
  exact k v H F Al.refl r (h _ _)
theorem fd_and2 {R : V → V → Hp → VK → Prop} (ha : FD B ta La ma) (hb : FD B tb Lb mb) {S : FSt} {σ : St} {H : Hp} {F : Addr → Prop} {os : Nat → List Addr} {Q : VK} {da db : D} (r : Rep B H F σ S os) (ea : ma S = some da) (eb : mb S = some db)
    (k : ∀ v w H' F', Al H F H' F' → Rep B H' F' σ S os → DA B H' (orF F' (osL os (La ++ Lb))) v da → DA B H' (orF F' (osL os (La ++ Lb))) w db → R v w H' Q) : ta σ H fun x H1 => tb σ H1 fun y H2 => R x y H2 Q := by
  refine ha S σ H F os _ da r ea fun v H1 F1 a1 r1 d1 => hb S σ H1 F1 os _ db r1 eb fun w H2 F2 a2 r2 d2 => ?_
  exact k v w H2 F2 (a1.trans a2) r2 (d1.later a2 fun i h => List.mem_append_left _ h) (d2.later Al.refl fun i h => List.mem_append_right _ h)

/-- an operation on two trees -/
def OpD (B : Bk) (r : R2) (f : D → D → Option D) : Prop := ∀ (H : Hp) (G : Addr → Prop) (x y : V) (dx dy z : D) (Q : VK), DA B H G x dx → DA B H G y dy → f dx dy = some z →
  (∀ v H' G', Al H G H' G' → DA B H' G' v z → Q v H') → r x y H Q
def OpE (B : Bk) (r : R2) (f : D → D → Option SV) : Prop := ∀ (H : Hp) (G : Addr → Prop) (x y : V) (dx dy : D) (z : SV) (Q : VK), (∀ b, G b → H b ≠ none) → DA B H G x dx → DA B H G y dy → f dx dy = some z →
  (∀ v H' G' o, Al H G H' G' → VA B H' G' v z o → (∀ a, a ∈ o → H a = none) → Q v H') → r x y H Q
theorem Rep.gd {H : Hp} {F : Addr → Prop} {σ : St} {S : FSt} {os : Nat → List Addr} (r : Rep B H F σ S os) (L : List Nat) : ∀ b, orF F (osL os L) b → H b ≠ none := fun b h => by
  rcases h with h | ⟨i, _, e⟩
  · exact r.fd b h
  · exact (r.alive e).1
theorem bind2 {α β γ : Type} {a : Option α} {b : Option β} {f : α → β → Option γ} {z : γ} (h : (a.bind fun x => b.bind fun y => f x y) = some z) : ∃ x y, a = some x ∧ b = some y ∧ f x y = some z := by
  cases a with
  | none => cases h
  | some x => cases b with
    | none => cases h
    | some y => exact ⟨x, y, rfl, rfl, h⟩
theorem bind1 {α γ : Type} {a : Option α} {f : α → Option γ} {z : γ} (h : a.bind f = some z) : ∃ x, a = some x ∧ f x = some z := by
  cases a with
  | none => cases h
  | some x => exact ⟨x, rfl, h⟩
theorem fd_op {r : R2} {f : D → D → Option D} (ho : OpD B r f) (ha : FD B ta La ma) (hb : FD B tb Lb mb) : FD B (tOp r ta tb) (La ++ Lb) (m2 f ma mb) := by
  intro S σ H F os Q z rp e k
  obtain ⟨da, db, ea, eb, ef⟩ := bind2 e
  refine fd_and2 (R := r) ha hb rp ea eb fun v w H' F' a r' d1 d2 => ?_
  refine ho H' _ v w da db z Q d1 d2 ef fun u H2 G2 a2 dz => ?_
  obtain ⟨F2, al, r2, q, _⟩ := r'.split a2
  exact k u H2 F2 (a.trans al) r2 (dz.mono (fun _ _ _ e => e) q)
theorem VA.sub {H : Hp} {G F : Addr → Prop} {v : V} {x : SV} {o : List Addr} (h : VA B H G v x o) (q : ∀ b, G b → F b) (no : ∀ b, b ∈ o → ¬ F b) : VA B H F v x o := h.mono (fun _ _ _ e => e) (fun _ _ _ e => e) q no
/-- owned results -/
theorem ve_split {H H' : Hp} {F G : Addr → Prop} {σ : St} {S : FSt} {os : Nat → List Addr} {L : List Nat} {v : V} {z : SV} {o : List Addr} (r : Rep B H F σ S os) (a : Al H (orF F (osL os L)) H' G) (va : VA B H' G v z o) (fr : ∀ b, b ∈ o → H b = none) :
    ∃ F', Al H F H' F' ∧ Rep B H' F' σ S os ∧ VA B H' (orF F' (osL os L)) v z o := by
  obtain ⟨F2, al, r2, q, q'⟩ := r.split a
  refine ⟨F2, al, r2, va.sub q fun b e z => ?_⟩
  rcases z with z | ⟨i, _, z⟩
  · exact (va.alive e).2.1 (q' b z)
  · exact (r.alive z).1 (fr b e)
theorem fe_op {r : R2} {f : D → D → Option SV} (ho : OpE B r f) (ha : FD B ta La ma) (hb : FD B tb Lb mb) : FE B (tOp r ta tb) (La ++ Lb) (m2 f ma mb) := by
  intro S σ H F os Q z rp e k
  obtain ⟨da, db, ea, eb, ef⟩ := bind2 e
  refine fd_and2 (R := r) ha hb rp ea eb fun v w H' F' a r' d1 d2 => ?_
  refine ho H' _ v w da db z Q (r'.gd _) d1 d2 ef fun u H2 G2 o a2 va fr => ?_
  obtain ⟨F2, al, r2, va2⟩ := ve_split r' a2 va fr
  refine k u H2 F2 o (a.trans al) r2 va2 fun b e => ?_
  cases q : H b with
  | none => rfl
  | some w => have := fr b e; rw [a.same b w q] at this; cases this
theorem OpD.or {r r' : R2} {f f' : D → D → Option D} (h : OpD B r f) (h' : OpD B r' f') : OpD B (fun x y H Q => r x y H Q ∨ r' x y H Q) (fun x y => (f x y).orElse fun _ => f' x y) := by
  intro H G x y dx dy z Q hx hy e k
  cases q : f dx dy with
  | some w => simp only [q, Option.orElse] at e; cases e; exact .inl (h H G x y dx dy _ Q hx hy q k)
  | none => simp only [q, Option.orElse] at e; exact .inr (h' H G x y dx dy z Q hx hy e k)
/-- one operand -/
def UnD (B : Bk) (r : V → Hp → VK → Prop) (f : D → Option D) : Prop := ∀ (H : Hp) (G : Addr → Prop) (x : V) (dx z : D) (Q : VK), DA B H G x dx → f dx = some z → (∀ v H' G', Al H G H' G' → DA B H' G' v z → Q v H') → r x H Q
theorem fd_un {r : V → Hp → VK → Prop} {f : D → Option D} (ho : UnD B r f) (ha : FD B ta L ma) : FD B (tUn r ta) L (m1 f ma) := by
  intro S σ H F os Q z rp e k
  obtain ⟨da, ea, ef⟩ := bind1 e
  refine ha S σ H F os _ da rp ea fun v H' F' a r' d1 => ho H' _ v da z Q d1 ef fun u H2 G2 a2 dz => ?_
  obtain ⟨F2, al, r2, q, _⟩ := r'.split a2
  exact k u H2 F2 (a.trans al) r2 (dz.mono (fun _ _ _ e => e) q)

/-! tests -/
theorem ft_of (h : FD B ta L ma) : FT B (tTest ta) (mTruth ma) := by
  intro S σ H F os Q c rp e k
  obtain ⟨d, ed, ef⟩ := bind1 e
  refine h S σ H F os _ d rp ed fun v H' F' a r' d1 => ?_
  cases d with
  | bl b => cases ef; cases d1; exact ⟨_, rfl, k H' F' a r'⟩
  | _ => cases ef
theorem ft_val (h : FD B ta L ma) : FT B (tB ta) (mTruth ma) := ft_of h
theorem ft_and (h1 : FT B t mt) (h2 : FT B u mu) : FT B (tAnd t u) (mAnd mt mu) := by
  intro S σ H F os Q c rp e k
  obtain ⟨b, eb, ef⟩ := bind1 e
  refine h1 S σ H F os _ b rp eb fun H' F' a r' => ?_
  cases b with
  | true => rw [if_pos rfl] at ef ⊢; exact h2 S σ H' F' os Q c r' ef fun H2 F2 a2 r2 => k H2 F2 (a.trans a2) r2
  | false => rw [if_neg Bool.false_ne_true] at ef ⊢; cases ef; exact k H' F' a r'
theorem ft_or (h1 : FT B t mt) (h2 : FT B u mu) : FT B (tOr t u) (mOr mt mu) := by
  intro S σ H F os Q c rp e k
  obtain ⟨b, eb, ef⟩ := bind1 e
  refine h1 S σ H F os _ b rp eb fun H' F' a r' => ?_
  cases b with
  | true => rw [if_pos rfl] at ef ⊢; cases ef; exact k H' F' a r'
  | false => rw [if_neg Bool.false_ne_true] at ef ⊢; exact h2 S σ H' F' os Q c r' ef fun H2 F2 a2 r2 => k H2 F2 (a.trans a2) r2
theorem ft_not (h1 : FT B t mt) : FT B (tNot t) (mNot mt) := by
  intro S σ H F os Q c rp e k
  unfold mNot at e
  cases q : mt S with
  | none => rw [q] at e; cases e
  | some b => rw [q] at e; cases e; exact h1 S σ H F os _ b rp q fun H' F' a r' => k H' F' a r'
theorem fd_andV (ha : FD B ta La ma) (hb : FD B tb Lb mb) : FD B (tAndV ta tb) (La ++ Lb) (mIte (mTruth ma) mb (mC (.bl false))) := by
  intro S σ H F os Q z rp e k
  obtain ⟨c, ec, ef⟩ := bind1 e
  obtain ⟨d, ed, ec⟩ := bind1 ec
  refine ha S σ H F os _ d rp ed fun v H' F' a r' d1 => ?_
  cases d with
  | bl b =>
    cases ec; cases d1
    refine ⟨_, rfl, ?_⟩
    cases c with
    | true => rw [if_pos rfl] at ef ⊢; exact hb S σ H' F' os Q z r' ef fun v H2 F2 a2 r2 d2 => k v H2 F2 (a.trans a2) r2 (d2.later Al.refl fun i h => List.mem_append_right _ h)
    | false => rw [if_neg Bool.false_ne_true] at ef ⊢; cases ef; exact k _ H' F' a r' (.bl false)
  | _ => cases ec
theorem fd_orV (ha : FD B ta La ma) (hb : FD B tb Lb mb) : FD B (tOrV ta tb) (La ++ Lb) (mIte (mTruth ma) (mC (.bl true)) mb) := by
  intro S σ H F os Q z rp e k
  obtain ⟨c, ec, ef⟩ := bind1 e
  obtain ⟨d, ed, ec⟩ := bind1 ec
  refine ha S σ H F os _ d rp ed fun v H' F' a r' d1 => ?_
  cases d with
  | bl b =>
    cases ec; cases d1
    refine ⟨_, rfl, ?_⟩
    cases c with
    | false => rw [if_neg Bool.false_ne_true] at ef ⊢; exact hb S σ H' F' os Q z r' ef fun v H2 F2 a2 r2 d2 => k v H2 F2 (a.trans a2) r2 (d2.later Al.refl fun i h => List.mem_append_right _ h)
    | true => rw [if_pos rfl] at ef ⊢; cases ef; exact k _ H' F' a r' (.bl true)
  | _ => cases ec
theorem fd_notV (ha : FD B ta La ma) : FD B (tNotV ta) La (mBl (mNot (mTruth ma))) := by
  intro S σ H F os Q z rp e k
  unfold mBl mNot mTruth at e
  cases q : ma S with
  | none => rw [q] at e; cases e
  | some d =>
    rw [q] at e
    refine ha S σ H F os _ d rp q fun v H' F' a r' d1 => ?_
    cases d with
    | bl b => cases e; cases d1; exact ⟨_, rfl, k _ H' F' a r' (.bl _)⟩
    | _ => cases e
theorem fe_if {mx my : FSt → Option SV} (hc : FT B t mt) (ha : FE B ta La mx) (hb : FE B tb Lb my) : FE B (tIf t ta tb) (La ++ Lb) (mIte mt mx my) := by
  intro S σ H F os Q z rp e k
  obtain ⟨c, ec, ef⟩ := bind1 e
  refine hc S σ H F os _ c rp ec fun H' F' a r' => ?_
  have lift : ∀ {L : List Nat}, (∀ i, i ∈ L → i ∈ La ++ Lb) → ∀ v H2 F2 o, Al H' F' H2 F2 → Rep B H2 F2 σ S os → VA B H2 (orF F2 (osL os L)) v z o → (∀ a, a ∈ o → H' a = none) → Q v H2 := fun hl v H2 F2 o a2 r2 va fr => by
    refine k v H2 F2 o (a.trans a2) r2 (va.sub (orF_sub (fun _ h => h) hl) fun b e q => ?_) fun b e => ?_
    · rcases q with q | ⟨i, _, q⟩
      · exact (va.alive e).2.1 (.inl q)
      · exact (r'.alive q).1 (fr b e)
    · cases q : H b with
      | none => rfl
      | some w => have := fr b e; rw [a.same b w q] at this; cases this
  cases c with
  | true => rw [if_pos rfl] at ef ⊢; exact ha S σ H' F' os Q z r' ef (lift fun i h => List.mem_append_left _ h)
  | false => rw [if_neg Bool.false_ne_true] at ef ⊢; exact hb S σ H' F' os Q z r' ef (lift fun i h => List.mem_append_right _ h)

/-! argument lists -/
theorem fa_nil : FA B tNil [] mNil := by
  intro S σ H F os Q ds rp e k
  cases e
  exact k [] H F Al.refl rp .nil
theorem DAs.later {H H' : Hp} {F F' : Addr → Prop} {os : Nat → List Addr} {L L' : List Nat} {v : List V} {d : List D} (h : DAs B H (orF F (osL os L)) v d) (a : Al H F H' F') (hl : ∀ i, i ∈ L → i ∈ L') : DAs B H' (orF F' (osL os L')) v d :=
  h.mono (fun b o _ e => a.same b o e) (orF_sub a.up hl)
theorem fa_cons (ha : FD B ta La ma) (hr : FA B tr Lb mr) : FA B (tCons ta tr) (La ++ Lb) (mCons ma mr) := by
  intro S σ H F os Q ds rp e k
  obtain ⟨d, es, ed, ee, ef⟩ := bind2 e
  cases ef
  refine ha S σ H F os _ d rp ed fun v H1 F1 a1 r1 d1 => hr S σ H1 F1 os _ es r1 ee fun vs H2 F2 a2 r2 d2 => ?_
  exact k (v :: vs) H2 F2 (a1.trans a2) r2 (.cons (d1.later a2 fun i h => List.mem_append_left _ h) (d2.later Al.refl fun i h => List.mem_append_right _ h))

/-! new nodes -/
theorem same_upd {H : Hp} {p : Addr} {u : HO} (h : H p = none) : Same H (upd H p u) := fun b o e => by rw [upd_ne (ne_of_none e h)]; exact e
theorem al_fresh {H : Hp} {F : Addr → Prop} {p : Addr} {u : HO} (h : H p = none) : Al H F (upd H p u) F := ⟨same_upd h, fun _ q => q, fun _ q => .inl q⟩
theorem al_fresh' {H : Hp} {F : Addr → Prop} {p : Addr} {u : HO} (h : H p = none) : Al H F (upd H p u) (fun b => F b ∨ b = p) := by
  refine ⟨same_upd h, fun _ q => .inl q, fun b q => ?_⟩
  rcases q with q | rfl
  · exact .inl q
  · exact .inr (.inl ⟨h, by rw [upd_same]; simp⟩)
@[simp] def mLst (m : FSt → Option (List D)) : FSt → Option SV := fun S => (m S).bind fun ds => if ds.length ≤ sizeLine then some (.li ds) else none
@[simp] def mTup (m : FSt → Option (List D)) : FSt → Option D := fun S => (m S).bind fun ds => if ds.length ≤ sizeLine then some (.tup ds) else none
theorem fe_lst (hr : FA B tr L mr) : FE B (tLst tr) L (mLst mr) := by
  intro S σ H F os Q x rp e k
  obtain ⟨ds, ed, ef⟩ := bind1 e
  by_cases hl : ds.length ≤ sizeLine
  · rw [if_pos hl] at ef; cases ef
    refine hr S σ H F os _ ds rp ed fun vs H1 F1 a1 r1 d1 => ⟨by rw [d1.length]; exact hl, fun p hp => ?_⟩
    have al := al_fresh (F := F1) (u := .lst vs) hp
    refine k (.ref p) _ F1 [p] (a1.trans al) (r1.mono al) ⟨p, vs, rfl, rfl, fun q => ?_, upd_same, d1.mono (fun b o _ e => al.same b o e) fun _ h => h⟩ fun a e => ?_
    · exact r1.gd L p q hp
    · obtain rfl := List.mem_singleton.mp e
      cases q : H a with
      | none => rfl
      | some w => have := a1.same a w q; rw [hp] at this; cases this
  · rw [if_neg hl] at ef; cases ef
theorem fd_tup (hr : FA B tr L mr) : FD B (tTup tr) L (mTup mr) := by
  intro S σ H F os Q x rp e k
  obtain ⟨ds, ed, ef⟩ := bind1 e
  by_cases hl : ds.length ≤ sizeLine
  · rw [if_pos hl] at ef; cases ef
    refine hr S σ H F os _ ds rp ed fun vs H1 F1 a1 r1 d1 => ⟨by rw [d1.length]; exact hl, fun p hp => ?_⟩
    have al := al_fresh' (F := F1) (u := .tup vs) hp
    refine k (.ref p) _ _ (a1.trans al) (r1.mono al) (.tup ⟨.inl (.inr rfl), upd_same⟩ (d1.mono (fun b o _ e => al.same b o e) fun b h => ?_))
    rcases h with h | h
    · exact .inl (.inl h)
    · exact .inr h
  · rw [if_neg hl] at ef; cases ef

/-! calls of built-ins, of defs -/
def CallE (B : Bk) (r : List V → Hp → VK → Prop) (f : List D → Option SV) : Prop := ∀ (H : Hp) (G : Addr → Prop) (vs : List V) (ds : List D) (z : SV) (Q : VK), (∀ b, G b → H b ≠ none) → DAs B H G vs ds → f ds = some z →
  (∀ v H' G' o, Al H G H' G' → VA B H' G' v z o → (∀ a, a ∈ o → H a = none) → Q v H') → r vs H Q
theorem fe_callR {r : List V → Hp → VK → Prop} {f : List D → Option SV} {tx : TE} (htx : ∀ σ H Q, (tr σ H fun vs H1 => r vs H1 Q) → tx σ H Q) (ho : CallE B r f) (hr : FA B tr L mr) : FE B tx L (m1 f mr) := by
  intro S σ H F os Q z rp e k
  obtain ⟨ds, ed, ef⟩ := bind1 e
  refine htx σ H Q (hr S σ H F os _ ds rp ed fun vs H1 F1 a1 r1 d1 => ho H1 _ vs ds z Q (r1.gd _) d1 ef fun u H2 G2 o a2 va fr => ?_)
  obtain ⟨F2, al, r2, va2⟩ := ve_split r1 a2 va fr
  refine k u H2 F2 o (a1.trans al) r2 va2 fun b e => ?_
  cases q : H b with
  | none => rfl
  | some w => have := fr b e; rw [a1.same b w q] at this; cases this
theorem fe_CB {r : List V → Hp → VK → Prop} {f : List D → Option SV} (ho : CallE B r f) (hr : FA B tr L mr) : FE B (tCB r tr) L (m1 f mr) := fe_callR (fun _ _ _ h => h) ho hr
/-- what a def promises, by trees -/
def SpF (B : Bk) (n : Nat) (f : List D → Option SV) : Sp := fun vs H Q _ => vs.length = n ∧ ∃ (G : Addr → Prop) (ds : List D) (z : SV), (∀ b, G b → H b ≠ none) ∧ DAs B H G vs ds ∧ f ds = some z ∧
  ∀ v H' G' o, Al H G H' G' → VA B H' G' v z o → (∀ a, a ∈ o → H a = none) → Q v H'
theorem fe_call {n : Nat} {f : List D → Option SV} {E : XK} (hf : ∀ ds z, f ds = some z → ds.length = n) (hr : FA B tr L mr) : FE B (tCall (SpF B n f) [] E tr) L (m1 f mr) := by
  refine fe_callR (r := fun vs H Q => SpF B n f (vs ++ []) H Q E) (fun _ _ _ h => h) ?_ hr
  intro H G vs ds z Q hg hd hz k
  rw [List.append_nil]
  exact ⟨by rw [hd.length]; exact hf _ _ hz, G, ds, z, hg, hd, hz, k⟩
/-- a method of the class c -/
@[simp] def mMeth (c : Nat) (mn : Str) (f : List D → Option SV) (a : FSt → Option D) (r : FSt → Option (List D)) : FSt → Option SV := fun S => (a S).bind fun x => (r S).bind fun ds => match x with
  | .ins k fs => if k = c then (if (fs.lookup mn).isNone then f (.ins k fs :: ds) else none) else none
  | _ => none
theorem lookup_rel {fs : List (Str × V)} {ds : List (Str × D)} {H : Hp} {G : Addr → Prop} (e : fs.map (·.1) = ds.map (·.1)) (r : DAs B H G (fs.map (·.2)) (ds.map (·.2))) (f : Str) :
    (∀ d, ds.lookup f = some d → ∃ v, fs.lookup f = some v ∧ DA B H G v d) ∧ (ds.lookup f = none → fs.lookup f = none) := by
  induction fs generalizing ds with
  | nil => cases ds with
    | nil => simp [List.lookup]
    | cons d ds => simp at e
  | cons p fs ih => cases ds with
    | nil => simp at e
    | cons q ds =>
      obtain ⟨p1, p2⟩ := p
      obtain ⟨q1, q2⟩ := q
      simp only [List.map_cons, List.cons.injEq] at e
      simp only [List.map_cons] at r
      cases r with
      | cons h r =>
        obtain ⟨e1, e2⟩ := e
        subst e1
        have := ih e2 r
        by_cases hq : (f == p1) = true
        · simp only [List.lookup, hq]
          exact ⟨fun d z => by cases z; exact ⟨p2, rfl, h⟩, fun z => by cases z⟩
        · have hq' : (f == p1) = false := by simpa using hq
          simp only [List.lookup, hq']
          exact this
theorem fe_meth {c n : Nat} {mn : Str} {f : List D → Option SV} {E : XK} {C : Addr} (hC : B.cl c = C) (hf : ∀ ds z, f ds = some z → ds.length = n) (ha : FD B ta La ma) (hr : FA B tr Lb mr) : FE B (tMeth C mn (SpF B n f) [] E ta tr) (La ++ Lb) (mMeth c mn f ma mr) := by
  subst hC
  intro S σ H F os Q z rp e k
  obtain ⟨d, ds, ed, er, ef⟩ := bind2 e
  cases d with
  | ins kc fs =>
    by_cases hk : kc = c
    · subst hk
      simp only [if_pos rfl] at ef
      cases hl : fs.lookup mn with
      | some _ => rw [hl] at ef; cases ef
      | none =>
        rw [hl] at ef
        have ef : f (.ins kc fs :: ds) = some z := ef
        refine ha S σ H F os _ _ rp ed fun v H1 F1 a1 r1 d1 => ?_
        cases d1 with
        | @ins a dx c' vs ds' fa hh he rr =>
          refine ⟨a, dx, vs, rfl, hh, (lookup_rel he rr mn).2 hl, hr S σ H1 F1 os _ ds r1 er fun ws H2 F2 a2 r2 d2 => ?_⟩
          have da : DA B H1 (orF F1 (osL os La)) (.ref a) (.ins kc fs) := .ins fa hh he rr
          have das : DAs B H2 (orF F2 (osL os (La ++ Lb))) (.ref a :: (ws ++ [])) (.ins kc fs :: ds) := by
            rw [List.append_nil]
            exact .cons (da.later a2 fun i h => List.mem_append_left _ h) (d2.later Al.refl fun i h => List.mem_append_right _ h)
          refine ⟨by rw [das.length]; exact hf _ _ ef, _, _, z, r2.gd _, das, ef, fun u H3 G3 o a3 va fr => ?_⟩
          obtain ⟨F3, al, r3, va2⟩ := ve_split r2 a3 va fr
          refine k u H3 F3 o ((a1.trans a2).trans al) r3 va2 fun b e => ?_
          cases q : H b with
          | none => rfl
          | some w => have := fr b e; rw [(a1.trans a2).same b w q] at this; cases this
    · simp only [if_neg hk] at ef; cases ef
  | _ => cases ef
theorem FE.or {me me' : FSt → Option SV} {La Lb : List Nat} (h : FE B ta La me) (h' : FE B tb Lb me') : FE B (fun σ H Q => ta σ H Q ∨ tb σ H Q) (La ++ Lb) (mAlt me me') := by
  intro S σ H F os Q z rp e k
  have lift : ∀ {L : List Nat}, (∀ i, i ∈ L → i ∈ La ++ Lb) → ∀ v H2 F2 o, Al H F H2 F2 → Rep B H2 F2 σ S os → VA B H2 (orF F2 (osL os L)) v z o → (∀ a, a ∈ o → H a = none) → Q v H2 := fun hl v H2 F2 o a2 r2 va fr => by
    refine k v H2 F2 o a2 r2 (va.sub (orF_sub (fun _ h => h) hl) fun b e q => ?_) fr
    rcases q with q | ⟨i, _, q⟩
    · exact (va.alive e).2.1 (.inl q)
    · exact (rp.alive q).1 (fr b e)
  unfold mAlt at e
  cases q : me S with
  | some w => simp only [q, Option.orElse] at e; cases e; exact .inl (h S σ H F os Q _ rp q (lift fun i h => List.mem_append_left _ h))
  | none => simp only [q, Option.orElse] at e; exact .inr (h' S σ H F os Q z rp e (lift fun i h => List.mem_append_right _ h))
/-- a field -/
@[simp] def fFld (cs : List Nat) (f : Str) : D → Option D
  | .ins c fs => if c ∈ cs then fs.lookup f else none
  | _ => none
theorem fd_fld {cs : List Nat} {f : Str} {K : PySem.W.Frag} (hK : B.K = K) (hc : ∀ c ∈ cs, Cls B.K (B.cl c) ∧ NoAttr B.K (B.cl c) f) (ha : FD B ta L ma) : FD B (tFld K ta f) L (m1 (fFld cs f) ma) := by
  subst hK
  intro S σ H F os Q z rp e k
  obtain ⟨d, ed, ef⟩ := bind1 e
  refine ha S σ H F os _ d rp ed fun v H1 F1 a1 r1 d1 => ?_
  cases d with
  | ins c fs =>
    have ef : (if c ∈ cs then fs.lookup f else none) = some z := ef
    by_cases h : c ∈ cs
    · rw [if_pos h] at ef
      cases d1 with
      | @ins a dx c' vs ds' fa hh he rr =>
        obtain ⟨v, e1, e2⟩ := (lookup_rel he rr f).1 z ef
        exact ⟨a, _, dx, vs, v, rfl, hh, (hc c h).1, (hc c h).2, e1, k v H1 F1 a1 r1 e2⟩
    · rw [if_neg h] at ef; cases ef
  | _ => cases ef
end
end L2

set_option Elab.async false
set_option linter.all false
set_option maxRecDepth 100000
set_option maxHeartbeats 4000000
namespace L2
open PySem PySem.Spec PyProof.Rows

/-! ### plain: no node that may ever be changed -/
mutual
@[simp] def D.plain : D → Bool
  | .tup xs => D.plains xs
  | .kt xs => D.plains xs
  | .fz _ => false
  | .lst _ => false
  | .dK _ => false
  | .dT _ => false
  | .ins _ _ => false
  | _ => true
@[simp] def D.plains : List D → Bool
  | [] => true
  | d :: r => d.plain && D.plains r
end
@[simp] def SV.plain : SV → Bool
  | .sh d => d.plain
  | .li xs => D.plains xs
  | .lk _ => false
  | .ll xss => xss.all D.plains
  | .dK kvs => D.plains (kvs.map (·.2))
  | .dT kvs => D.plains (kvs.map (·.2))
  | .ob _ fs => D.plains (fs.map (·.2))
section
variable {B : Bk} {H H' : Hp} {F F' : Addr → Prop} {σ : St} {S : FSt} {os : Nat → List Addr} {L : List Nat}
mutual
theorem DA.toF (r : Rep B H F σ S os) : ∀ {v : V} {d : D}, DA B H (orF F (osL os L)) v d → d.plain = true → DA B H F v d
  | _, _, .non, _ => .non
  | _, _, .bl b, _ => .bl b
  | _, _, .int i, _ => .int i
  | _, _, .str x, _ => .str x
  | _, _, .ty n, _ => .ty n
  | _, _, .adr a, _ => .adr a
  | _, _, .tup h q, p => by
    refine .tup ?_ (DAs.toF r q (by simpa [D.plain] using p))
    obtain ⟨h | ⟨i, _, e⟩, h'⟩ := h
    · exact ⟨h, h'⟩
    · obtain ⟨x, v, _, _, va⟩ := r.own e
      exact absurd h' ((va.alive e).2.2 _)
  | _, _, .kt h q, p => .kt h (DAs.toF r q (by simpa [D.plain] using p))
  | _, _, .fz _ _, p => by simp [D.plain] at p
  | _, _, .lst _ _, p => by simp [D.plain] at p
  | _, _, .dK _ _ _ _, p => by simp [D.plain] at p
  | _, _, .dT _ _ _ _, p => by simp [D.plain] at p
  | _, _, .ins _ _ _ _, p => by simp [D.plain] at p
theorem DAs.toF (r : Rep B H F σ S os) : ∀ {vs : List V} {ds : List D}, DAs B H (orF F (osL os L)) vs ds → D.plains ds = true → DAs B H F vs ds
  | _, _, .nil, _ => .nil
  | _, _, .cons h q, p => by
    simp only [D.plains, Bool.and_eq_true] at p
    exact .cons (DA.toF r h p.1) (DAs.toF r q p.2)
end
theorem VA.toF (r : Rep B H F σ S os) {v : V} {x : SV} {o : List Addr} (h : VA B H (orF F (osL os L)) v x o) (p : x.plain = true) : VA B H F v x o := by
  cases x with
  | sh d => exact ⟨h.1, h.2.toF r p⟩
  | li ds => obtain ⟨a, xs, e, eo, nf, hh, q⟩ := h; exact ⟨a, xs, e, eo, fun z => nf (.inl z), hh, q.toF r p⟩
  | lk ds => cases p
  | ll ds =>
    obtain ⟨a, as, e, eo, nd, nf, hh, q⟩ := h
    refine ⟨a, as, e, eo, nd, fun b hb z => nf b hb (.inl z), hh, ?_⟩
    clear nd nf hh e eo
    induction q with
    | nil => exact .nil
    | cons h q _ ih =>
      simp only [SV.plain, List.all_cons, Bool.and_eq_true] at p
      exact .cons h (q.toF r p.1) (ih p.2)
  | dK ds => obtain ⟨a, xs, e, eo, nf, hh, e2, q⟩ := h; exact ⟨a, xs, e, eo, fun z => nf (.inl z), hh, e2, q.toF r p⟩
  | dT ds => obtain ⟨a, xs, e, eo, nf, hh, e2, q⟩ := h; exact ⟨a, xs, e, eo, fun z => nf (.inl z), hh, e2, q.toF r p⟩
  | ob c ds => obtain ⟨a, dx, xs, e, eo, nf, hh, e2, q⟩ := h; exact ⟨a, dx, xs, e, eo, fun z => nf (.inl z), hh, e2, q.toF r p⟩
end

/-! ### slots frozen, slots set -/
@[simp] def frz1 (S : FSt) (i : Nat) : FSt := match S[i]? with
  | some (some (.sh _)) => S
  | some (some x) => S.set i (some (.sh x.fr))
  | _ => S
@[simp] def frzs : List Nat → FSt → FSt
  | [], S => S
  | i :: L, S => frzs L (frz1 S i)
theorem frz1_get (S : FSt) (i j : Nat) : (frz1 S i)[j]? = if j = i then (S[j]?).map (Option.map fun x => .sh x.fr) else S[j]? := by
  unfold frz1
  split
  · rename_i d e
    by_cases h : j = i
    · subst h; rw [if_pos rfl, e]; rfl
    · rw [if_neg h]
  · rename_i x _ e
    by_cases h : j = i
    · subst h
      rw [if_pos rfl, e]
      have : j < S.length := (List.getElem?_eq_some_iff.mp e).1
      simp [List.getElem?_set, this]
    · rw [if_neg h]
      simp [List.getElem?_set, Ne.symm h]
  · rename_i h1 h2
    by_cases h : j = i
    · subst h
      rw [if_pos rfl]
      cases q : S[j]? with
      | none => rfl
      | some z => cases z with
        | none => rfl
        | some x => exact absurd q (h2 x)
    · rw [if_neg h]
theorem frzs_get : ∀ (L : List Nat) (S : FSt) (j : Nat), (frzs L S)[j]? = if j ∈ L then (S[j]?).map (Option.map fun x => .sh x.fr) else S[j]?
  | [], S, j => by simp [frzs]
  | i :: L, S, j => by
    rw [frzs, frzs_get L, frz1_get]
    by_cases h : j = i
    · subst h
      simp only [if_pos rfl, List.mem_cons, true_or, if_true]
      split
      · cases S[j]? with
        | none => rfl
        | some z => cases z <;> rfl
      · rfl
    · simp [h]
theorem frz1_len (S : FSt) (i : Nat) : (frz1 S i).length = S.length := by
  unfold frz1
  split <;> simp
theorem frzs_len : ∀ (L : List Nat) (S : FSt), (frzs L S).length = S.length
  | [], _ => rfl
  | i :: L, S => by rw [frzs, frzs_len L, frz1_len]
/-- slots that may not be set or frozen: a list that a loop walks, the instance that is being made -/
def lkO : Option SV → Bool
  | some (.lk _) => true
  | some (.ob _ _) => true
  | _ => false
@[simp] def isLk (S : FSt) (i : Nat) : Bool := lkO (S[i]?.join)
@[simp] theorem lkO_none : lkO none = false := rfl
@[simp] theorem lkO_sh (d : D) : lkO (some (.sh d)) = false := rfl
@[simp] theorem lkO_li (d : List D) : lkO (some (.li d)) = false := rfl
@[simp] theorem lkO_ll (d : List (List D)) : lkO (some (.ll d)) = false := rfl
@[simp] theorem lkO_dK (d : List (Key × D)) : lkO (some (.dK d)) = false := rfl
@[simp] theorem lkO_dT (d : List (List Key × D)) : lkO (some (.dT d)) = false := rfl
@[simp] theorem lkO_lk (d : List D) : lkO (some (.lk d)) = true := rfl
@[simp] theorem lkO_ob (c : Nat) (d : List (Str × D)) : lkO (some (.ob c d)) = true := rfl
@[simp] theorem lkO_map (x : Option D) : lkO (x.map SV.sh) = false := by cases x <;> rfl
section
variable {B : Bk} {H H' : Hp} {F F' : Addr → Prop} {σ : St} {S : FSt} {os : Nat → List Addr} {L : List Nat}
theorem Rep.frz (r : Rep B H F σ S os) (L : List Nat) : Rep B H (orF F (osL os L)) σ (frzs L S) (fun j => if j ∈ L then [] else os j) := by
  refine ⟨fun i x h => ?_, fun i h => ?_, fun i j a e1 e2 => ?_, r.gd L, by rw [frzs_len]; exact r.len⟩
  · rw [frzs_get] at h
    by_cases q : i ∈ L
    · rw [if_pos q] at h
      rw [if_pos q]
      cases e : S[i]? with
      | none => rw [e] at h; cases h
      | some z => cases z with
        | none => rw [e] at h; cases h
        | some y =>
          rw [e] at h; cases h
          obtain ⟨v, h1, h2⟩ := r.at' i y e
          exact ⟨v, h1, rfl, h2.frozen (fun b z => .inl z) fun b z => .inr ⟨i, q, z⟩⟩
    · rw [if_neg q] at h
      rw [if_neg q]
      obtain ⟨v, h1, h2⟩ := r.at' i x h
      refine ⟨v, h1, h2.sub (fun b z => .inl z) fun b e z => ?_⟩
      rcases z with z | ⟨j, hj, z⟩
      · exact (r.alive e).2 z
      · exact q (r.inj i j b e z ▸ hj)
  · show (if i ∈ L then [] else os i) = []
    by_cases q : i ∈ L
    · rw [if_pos q]
    · rw [if_neg q]
      refine r.out i fun x e => h x ?_
      rw [frzs_get, if_neg q]; exact e
  · have e1 : a ∈ (if i ∈ L then [] else os i) := e1
    have e2 : a ∈ (if j ∈ L then [] else os j) := e2
    split at e1
    · simp at e1
    · split at e2
      · simp at e2
      · exact r.inj i j a e1 e2
theorem Rep.set (r : Rep B H F σ S os) {i : Nat} {v : V} {x : SV} {o : List Addr} (va : VA B H F v x o) (no : ∀ b, b ∈ o → ∀ j, j ≠ i → b ∉ os j) (hi : i < S.length) :
    Rep B H F (σ.set i (some v)) (S.set i (some x)) (fun j => if j = i then o else os j) := by
  refine ⟨fun j y h => ?_, fun j h => ?_, fun j k a e1 e2 => ?_, r.fd, by simp [r.len]⟩
  · by_cases q : j = i
    · subst q
      simp only [List.getElem?_set, if_pos rfl, hi, if_true] at h
      cases h
      have hs : j < σ.length := by rw [r.len]; exact hi
      exact ⟨v, by simp [List.getElem?_set, hs], by rw [if_pos rfl]; exact va⟩
    · simp only [List.getElem?_set, if_neg (Ne.symm q)] at h
      obtain ⟨w, h1, h2⟩ := r.at' j y h
      exact ⟨w, by simp only [List.getElem?_set, if_neg (Ne.symm q)]; exact h1, by rw [if_neg q]; exact h2⟩
  · by_cases q : j = i
    · subst q
      exact absurd (by simp [List.getElem?_set, hi]) (h x)
    · show (if j = i then o else os j) = []
      rw [if_neg q]
      refine r.out j fun y e => h y ?_
      simp only [List.getElem?_set, if_neg (Ne.symm q)]; exact e
  · have e1 : a ∈ (if j = i then o else os j) := e1
    have e2 : a ∈ (if k = i then o else os k) := e2
    by_cases q1 : j = i
    · by_cases q2 : k = i
      · rw [q1, q2]
      · rw [if_pos q1] at e1; rw [if_neg q2] at e2; exact absurd e2 (no a e1 k q2)
    · by_cases q2 : k = i
      · rw [if_neg q1] at e1; rw [if_pos q2] at e2; exact absurd e1 (no a e2 j q1)
      · rw [if_neg q1] at e1; rw [if_neg q2] at e2; exact r.inj j k a e1 e2
end

/-! ### what a statement does -/
inductive Fl where
  | nx (S : FSt) | rt (x : SV) | bk (S : FSt) | ct (S : FSt) | bad
structure FStep (σ : St) (S : FSt) (H : Hp) (F : Addr → Prop) (os : Nat → List Addr) (σ' : St) (S' : FSt) (H' : Hp) (F' : Addr → Prop) (os' : Nat → List Addr) : Prop where
  keep : ∀ b o, H b = some o → (∀ i, b ∉ os i) → H' b = some o
  liv : ∀ b, H b ≠ none → H' b ≠ none
  up : ∀ b, F b → F' b
  new : ∀ b, F' b → F b ∨ H b = none ∨ (∃ i, b ∈ os i) ∨ isT H b
  own : ∀ i b, b ∈ os' i → H b = none ∨ ∃ j, b ∈ os j
  lok : ∀ (i : Nat) (xs : List D), S[i]? = some (some (SV.lk xs)) → S'[i]? = some (some (SV.lk xs)) ∧ σ'[i]? = σ[i]?
  lob : ∀ (i c : Nat) (fs : List (Str × D)), S[i]? = some (some (SV.ob c fs)) → (∃ fs', S'[i]? = some (some (SV.ob c fs'))) ∧ σ'[i]? = σ[i]?
structure FStepR (H : Hp) (F : Addr → Prop) (os : Nat → List Addr) (H' : Hp) (F' : Addr → Prop) (o : List Addr) : Prop where
  keep : ∀ b u, H b = some u → (∀ i, b ∉ os i) → H' b = some u
  up : ∀ b, F b → F' b
  new : ∀ b, F' b → F b ∨ H b = none ∨ (∃ i, b ∈ os i) ∨ isT H b
  own : ∀ b, b ∈ o → H b = none ∨ ∃ j, b ∈ os j
  fd : ∀ b, F' b → H' b ≠ none
section
variable {σ σ1 σ2 : St} {S S1 S2 : FSt} {H H1 H2 : Hp} {F F1 F2 : Addr → Prop} {os os1 os2 : Nat → List Addr} {o : List Addr}
theorem FStep.refl : FStep σ S H F os σ S H F os := ⟨fun _ _ h _ => h, fun _ h => h, fun _ h => h, fun _ h => .inl h, fun i b h => .inr ⟨i, h⟩, fun i xs h => ⟨h, rfl⟩, fun i c fs h => ⟨⟨fs, h⟩, rfl⟩⟩
theorem FStep.outside (a : FStep σ S H F os σ1 S1 H1 F1 os1) {b : Addr} {u : HO} (h : H b = some u) (n : ∀ i, b ∉ os i) : ∀ i, b ∉ os1 i := fun i e => by
  rcases a.own i b e with q | ⟨j, q⟩
  · rw [q] at h; cases h
  · exact n j q
theorem none_back {b : Addr} (l : ∀ b, H b ≠ none → H1 b ≠ none) (h : H1 b = none) : H b = none := by
  cases e : H b with
  | none => rfl
  | some u => exact absurd h (l b (by rw [e]; simp))
theorem FStep.trans (a : FStep σ S H F os σ1 S1 H1 F1 os1) (c : FStep σ1 S1 H1 F1 os1 σ2 S2 H2 F2 os2) : FStep σ S H F os σ2 S2 H2 F2 os2 := by
  refine ⟨fun b u h n => c.keep b u (a.keep b u h n) (a.outside h n), fun b h => c.liv b (a.liv b h), fun b h => c.up b (a.up b h), fun b h => ?_, fun i b h => ?_, fun i xs h => ?_, fun i k fs h => ?_⟩
  · rcases c.new b h with q | q | ⟨i, q⟩ | ⟨ys, q⟩
    · exact a.new b q
    · exact .inr (.inl (none_back a.liv q))
    · rcases a.own i b q with q | q
      · exact .inr (.inl q)
      · exact .inr (.inr (.inl q))
    · cases e : H b with
      | none => exact .inr (.inl rfl)
      | some u =>
        by_cases z : ∃ i, b ∈ os i
        · exact .inr (.inr (.inl z))
        · have := a.keep b u e fun i hi => z ⟨i, hi⟩
          rw [q] at this; cases this
          exact .inr (.inr (.inr ⟨ys, e⟩))
  · rcases c.own i b h with q | ⟨j, q⟩
    · exact .inl (none_back a.liv q)
    · exact a.own j b q
  · obtain ⟨h1, h2⟩ := a.lok i xs h
    obtain ⟨h3, h4⟩ := c.lok i xs h1
    exact ⟨h3, h4.trans h2⟩
  · obtain ⟨⟨fs1, h1⟩, h2⟩ := a.lob i k fs h
    obtain ⟨h3, h4⟩ := c.lob i k fs1 h1
    exact ⟨h3, h4.trans h2⟩
theorem FStep.transR (a : FStep σ S H F os σ1 S1 H1 F1 os1) (c : FStepR H1 F1 os1 H2 F2 o) : FStepR H F os H2 F2 o := by
  refine ⟨fun b u h n => c.keep b u (a.keep b u h n) (a.outside h n), fun b h => c.up b (a.up b h), fun b h => ?_, fun b h => ?_, c.fd⟩
  · rcases c.new b h with q | q | ⟨i, q⟩ | ⟨ys, q⟩
    · exact a.new b q
    · exact .inr (.inl (none_back a.liv q))
    · rcases a.own i b q with q | q
      · exact .inr (.inl q)
      · exact .inr (.inr (.inl q))
    · cases e : H b with
      | none => exact .inr (.inl rfl)
      | some u =>
        by_cases z : ∃ i, b ∈ os i
        · exact .inr (.inr (.inl z))
        · have := a.keep b u e fun i hi => z ⟨i, hi⟩
          rw [q] at this; cases this
          exact .inr (.inr (.inr ⟨ys, e⟩))
  · rcases c.own b h with q | ⟨j, q⟩
    · exact .inl (none_back a.liv q)
    · exact a.own j b q
theorem Al.step (a : Al H F H1 F1) : FStep σ S H F os σ S H1 F1 os := by
  refine ⟨fun b u h _ => a.same b u h, fun b h => ?_, a.up, fun b h => ?_, fun i b h => .inr ⟨i, h⟩, fun i xs h => ⟨h, rfl⟩, fun i c fs h => ⟨⟨fs, h⟩, rfl⟩⟩
  · cases e : H b with
    | none => exact absurd e h
    | some u => rw [a.same b u e]; simp
  · rcases a.new b h with q | q | q
    · exact .inl q
    · exact .inr (.inl q.1)
    · exact .inr (.inr (.inr q))
end
/-- what follows is met -/
def Lands (B : Bk) (σ : St) (S : FSt) (H : Hp) (F : Addr → Prop) (os : Nat → List Addr) (D : Ends) : Fl → Prop
  | .nx S' => ∀ σ' H' F' os', FStep σ S H F os σ' S' H' F' os' → Rep B H' F' σ' S' os' → D.nx σ' H'
  | .bk S' => ∀ σ' H' F' os', FStep σ S H F os σ' S' H' F' os' → Rep B H' F' σ' S' os' → D.bk σ' H'
  | .ct S' => ∀ σ' H' F' os', FStep σ S H F os σ' S' H' F' os' → Rep B H' F' σ' S' os' → D.ct σ' H'
  | .rt x => ∀ v H' F' o, FStepR H F os H' F' o → VA B H' F' v x o → D.rt v H'
  | .bad => False
def FS (B : Bk) (t : TS) (m : FSt → Fl) : Prop :=
  ∀ (S : FSt) (σ : St) (H : Hp) (F : Addr → Prop) (os : Nat → List Addr) (D : Ends), Rep B H F σ S os → Lands B σ S H F os D (m S) → t D σ H
section
variable {B : Bk} {σ σ1 : St} {S S1 : FSt} {H H1 : Hp} {F F1 : Addr → Prop} {os os1 : Nat → List Addr} {E : Ends}
theorem Lands.later {r : Fl} (h : Lands B σ S H F os E r) (a : FStep σ S H F os σ1 S1 H1 F1 os1) : Lands B σ1 S1 H1 F1 os1 E r := by
  cases r with
  | nx S' => exact fun σ' H' F' os' st => h σ' H' F' os' (a.trans st)
  | bk S' => exact fun σ' H' F' os' st => h σ' H' F' os' (a.trans st)
  | ct S' => exact fun σ' H' F' os' st => h σ' H' F' os' (a.trans st)
  | rt x => exact fun v H' F' o st => h v H' F' o (a.transR st)
  | bad => exact h
end

@[simp] def mSeq (a b : FSt → Fl) : FSt → Fl := fun S => match a S with
  | .nx S1 => b S1
  | r => r
@[simp] def mPass : FSt → Fl := fun S => .nx S
@[simp] def put (i : Nat) (L : List Nat) (x : SV) (S : FSt) : Fl :=
  if i < S.length ∧ isLk S i = false ∧ (x.plain = true ∨ L.any (isLk S) = false) then .nx ((if x.plain = true then S else frzs L S).set i (some x)) else .bad
@[simp] def mSet (i : Nat) (L : List Nat) (m : FSt → Option SV) : FSt → Fl := fun S => match m S with
  | some x => put i L x S
  | none => .bad
@[simp] def mRet (m : FSt → Option SV) : FSt → Fl := fun S => match m S with
  | some x => .rt x
  | none => .bad
@[simp] def SV.un : SV → SV
  | .lk xs => .li xs
  | x => x
@[simp] def mRetV (i : Nat) : FSt → Fl := fun S => match S[i]?.join with
  | some x => .rt x.un
  | none => .bad
@[simp] def mRetN : FSt → Fl := fun _ => .rt (.sh .non)
@[simp] def mDo (m : FSt → Option SV) : FSt → Fl := fun S => match m S with
  | some _ => .nx S
  | none => .bad
@[simp] def mIf (c : FSt → Option Bool) (a b : FSt → Fl) : FSt → Fl := fun S => match c S with
  | some true => a S
  | some false => b S
  | none => .bad
@[simp] def mBad : FSt → Fl := fun _ => .bad
@[simp] def mBrk : FSt → Fl := fun S => .bk S
@[simp] def mCnt : FSt → Fl := fun S => .ct S
@[simp] def mApp (i : Nat) (L : List Nat) (m : FSt → Option D) : FSt → Fl := fun S => match m S with
  | some d => if d.plain = true ∨ L.any (isLk S) = false then
      match (if d.plain = true then S else frzs L S)[i]? with
      | some (some (.li xs)) => if xs.length < sizeLine then .nx ((if d.plain = true then S else frzs L S).set i (some (.li (xs ++ [d])))) else .bad
      | _ => .bad
    else .bad
  | none => .bad
section
variable {B : Bk} {te : TE} {L : List Nat} {me : FSt → Option SV} {md : FSt → Option D} {t u : TS} {ma mb : FSt → Fl} {tt : TT} {mt : FSt → Option Bool}
theorem fs_next : FS B tNext mPass := fun S σ H F os E r h => h σ H F os FStep.refl r
theorem fs_seq (h1 : FS B t ma) (h2 : FS B u mb) : FS B (tSeq t u) (mSeq ma mb) := by
  intro S σ H F os E r h
  refine h1 S σ H F os _ r ?_
  unfold mSeq at h
  cases q : ma S with
  | nx S1 =>
    rw [q] at h
    intro σ' H' F' os' st r'
    exact h2 S1 σ' H' F' os' E r' (h.later st)
  | bk S1 => rw [q] at h; exact h
  | ct S1 => rw [q] at h; exact h
  | rt x => rw [q] at h; exact h
  | bad => rw [q] at h; exact h
theorem fs_never : FS B tNever mBad := fun _ _ _ _ _ _ _ h => h
theorem fs_brk : FS B tBreak mBrk := fun S σ H F os E r h => h σ H F os FStep.refl r
theorem fs_cnt : FS B tCont mCnt := fun S σ H F os E r h => h σ H F os FStep.refl r
theorem fs_if (hc : FT B tt mt) (h1 : FS B t ma) (h2 : FS B u mb) : FS B (tIfS tt t u) (mIf mt ma mb) := by
  intro S σ H F os E r h
  unfold mIf at h
  cases q : mt S with
  | none => rw [q] at h; exact h.elim
  | some c =>
    rw [q] at h
    refine hc S σ H F os _ c r q fun H' F' a r' => ?_
    cases c with
    | true => rw [if_pos rfl]; exact h1 S σ H' F' os E r' (h.later a.step)
    | false => rw [if_neg Bool.false_ne_true]; exact h2 S σ H' F' os E r' (h.later a.step)
theorem fs_ret (he : FE B te L me) : FS B (tRet te) (mRet me) := by
  intro S σ H F os E r h
  unfold mRet at h
  cases q : me S with
  | none => rw [q] at h; exact h.elim
  | some x =>
    rw [q] at h
    refine he S σ H F os _ x r q fun v H' F' o a r' va fr => h v H' _ o ⟨fun b u e _ => a.same b u e, fun b z => .inl (a.up b z), fun b z => ?_, fun b z => .inl (fr b z), r'.gd L⟩ va
    rcases z with z | ⟨i, _, z⟩
    · rcases a.new b z with z | z | z
      · exact .inl z
      · exact .inr (.inl z.1)
      · exact .inr (.inr (.inr z))
    · exact .inr (.inr (.inl ⟨i, z⟩))
theorem fs_retV (i : Nat) : FS B (tRet (tVar i)) (mRetV i) := by
  intro S σ H F os E r h
  unfold mRetV at h
  cases q : S[i]? with
  | none => rw [q] at h; exact h.elim
  | some z => cases z with
    | none => rw [q] at h; exact h.elim
    | some x =>
      rw [q] at h
      obtain ⟨v, h1, h2⟩ := r.at' i x q
      refine ⟨v, h1, h v H F (os i) ⟨fun b u e _ => e, fun b z => z, fun b z => .inl z, fun b z => .inr ⟨i, z⟩, r.fd⟩ ?_⟩
      cases x <;> exact h2
theorem fs_retN : FS B tRetN mRetN := fun S σ H F os E r h => h .non H F [] ⟨fun b u e _ => e, fun b z => z, fun b z => .inl z, fun b z => absurd z (by simp), r.fd⟩ ⟨rfl, .non⟩
theorem fs_do (he : FE B te L me) : FS B (tDrop te) (mDo me) := by
  intro S σ H F os E r h
  unfold mDo at h
  cases q : me S with
  | none => rw [q] at h; exact h.elim
  | some x =>
    rw [q] at h
    exact he S σ H F os _ x r q fun v H' F' o a r' va fr => h σ H' F' os a.step r'
/-- a value is stored: the slots that it may reach are frozen, unless it is plain -/
theorem put_ok {S : FSt} {σ : St} {H H' : Hp} {F F' : Addr → Prop} {os : Nat → List Addr} {i : Nat} {v : V} {x : SV} {o : List Addr} {E : Ends} (r : Rep B H F σ S os) (h : Lands B σ S H F os E (put i L x S)) (a : Al H F H' F') (r' : Rep B H' F' σ S os)
    (va : VA B H' (orF F' (osL os L)) v x o) (fr : ∀ b, b ∈ o → H b = none) : E.nx (σ.set i (some v)) H' := by
  unfold put at h
  split at h
  case isFalse => exact h.elim
  case isTrue c =>
    obtain ⟨hi, hl, hp⟩ := c
    have lokI : ∀ (S' : FSt), (∀ (j : Nat) (xs : List D), S[j]? = some (some (SV.lk xs)) → j ≠ i → S'[j]? = some (some (SV.lk xs))) → ∀ (j : Nat) (xs : List D), S[j]? = some (some (SV.lk xs)) → (S'.set i (some x))[j]? = some (some (SV.lk xs)) ∧ (σ.set i (some v))[j]? = σ[j]? := fun S' hS j xs e => by
      have hj : j ≠ i := by rintro rfl; unfold isLk at hl; rw [e] at hl; cases hl
      exact ⟨by rw [List.getElem?_set_ne (Ne.symm hj)]; exact hS j xs e hj, by rw [List.getElem?_set_ne (Ne.symm hj)]⟩
    have lobI : ∀ (S' : FSt), (∀ (j c : Nat) (fs : List (Str × D)), S[j]? = some (some (SV.ob c fs)) → j ≠ i → S'[j]? = some (some (SV.ob c fs))) → ∀ (j c : Nat) (fs : List (Str × D)), S[j]? = some (some (SV.ob c fs)) → (∃ fs', (S'.set i (some x))[j]? = some (some (SV.ob c fs'))) ∧ (σ.set i (some v))[j]? = σ[j]? := fun S' hS j c fs e => by
      have hj : j ≠ i := by rintro rfl; unfold isLk at hl; rw [e] at hl; cases hl
      exact ⟨⟨fs, by rw [List.getElem?_set_ne (Ne.symm hj)]; exact hS j c fs e hj⟩, by rw [List.getElem?_set_ne (Ne.symm hj)]⟩
    by_cases p : x.plain = true
    · rw [if_pos p] at h
      have va' := va.toF r' p
      have r2 := r'.set (i := i) va' (fun b e j _ z => (r.alive z).1 (fr b e)) hi
      refine h _ H' F' _ ⟨fun b u e _ => a.same b u e, a.step (σ := σ) (S := S) (os := os) |>.liv, a.up, a.step (σ := σ) (S := S) (os := os) |>.new, fun j b e => ?_, lokI S fun j xs e _ => e, lobI S fun j c fs e _ => e⟩ r2
      have e : b ∈ (if j = i then o else os j) := e
      split at e
      · exact .inl (fr b e)
      · exact .inr ⟨j, e⟩
    · rw [if_neg p] at h
      have hp : L.any (isLk S) = false := hp.resolve_left p
      have r1 := r'.frz L
      have r2 := r1.set (i := i) va (fun b e j _ z => by
        have z : b ∈ (if j ∈ L then [] else os j) := z
        split at z
        · simp at z
        · exact (r.alive z).1 (fr b e)) (by rw [frzs_len]; exact hi)
      refine h _ H' _ _ ⟨fun b u e _ => a.same b u e, a.step (σ := σ) (S := S) (os := os) |>.liv, fun b z => .inl (a.up b z), fun b z => ?_, fun j b e => ?_, lokI (frzs L S) fun j xs e _ => ?_, lobI (frzs L S) fun j c fs e _ => ?_⟩ r2
      · rcases z with z | ⟨k, _, z⟩
        · exact (a.step (σ := σ) (S := S) (os := os)).new b z
        · exact .inr (.inr (.inl ⟨k, z⟩))
      · have e : b ∈ (if j = i then o else if j ∈ L then [] else os j) := e
        split at e
        · exact .inl (fr b e)
        · split at e
          · simp at e
          · exact .inr ⟨j, e⟩
      · rw [frzs_get, if_neg, e]
        intro z
        rw [List.any_eq_false] at hp
        have := hp j z
        unfold isLk at this
        rw [e] at this
        exact this rfl
      · rw [frzs_get, if_neg, e]
        intro z
        rw [List.any_eq_false] at hp
        have := hp j z
        unfold isLk at this
        rw [e] at this
        exact this rfl
theorem fs_set {i : Nat} (he : FE B te L me) : FS B (tAsg te (gName i)) (mSet i L me) := by
  intro S σ H F os E r h
  unfold mSet at h
  cases q : me S with
  | none => rw [q] at h; exact h.elim
  | some x =>
    rw [q] at h
    exact he S σ H F os _ x r q fun v H' F' o a r' va fr => put_ok r h a r' va fr
end
end L2

set_option Elab.async false
set_option linter.all false
set_option maxRecDepth 100000
set_option maxHeartbeats 4000000
namespace L2
open PySem PySem.Spec PyProof.Rows

/-! ### what a slot owns is changed -/
section
variable {B : Bk} {H H' : Hp} {F F' : Addr → Prop} {σ : St} {S : FSt} {os : Nat → List Addr} {L : List Nat}
theorem Rep.write (r : Rep B H F σ S os) {i : Nat} {a : Addr} {u : HO} {x : SV} {v : V} (e : a ∈ os i) (hv : σ[i]? = some (some v)) (va : VA B (upd H a u) F v x (os i)) : Rep B (upd H a u) F σ (S.set i (some x)) os := by
  obtain ⟨y, v', h1, h2, h3⟩ := r.own e
  have hi : i < S.length := (List.getElem?_eq_some_iff.mp h1).1
  have hF : ∀ b o, F b → H b = some o → upd H a u b = some o := fun b o f h => by rw [upd_ne]; exact h; rintro rfl; exact (r.alive e).2 f
  refine ⟨fun j z h => ?_, fun j h => ?_, r.inj, fun b h => ?_, by simp [r.len]⟩
  · by_cases q : j = i
    · subst q
      simp only [List.getElem?_set, if_pos rfl, hi, if_true] at h
      cases h
      exact ⟨v, hv, va⟩
    · simp only [List.getElem?_set, if_neg (Ne.symm q)] at h
      obtain ⟨w, k1, k2⟩ := r.at' j z h
      refine ⟨w, k1, k2.mono hF (fun b o ob h => ?_) (fun _ h => h) fun b ob => (r.alive ob).2⟩
      rw [upd_ne]; exact h
      rintro rfl
      exact q (r.inj j i b ob e)
  · by_cases q : j = i
    · subst q
      exact absurd (by simp [List.getElem?_set, hi]) (h x)
    · refine r.out j fun y k => h y ?_
      simp only [List.getElem?_set, if_neg (Ne.symm q)]; exact k
  · unfold upd
    split
    · simp
    · exact r.fd b h
theorem write_step {a : Addr} {u : HO} {i : Nat} {x : SV} (e : a ∈ os i) (nl : isLk S i = false ∨ ∃ c fs fs', S[i]? = some (some (SV.ob c fs)) ∧ x = .ob c fs') : FStep σ S H F os σ (S.set i (some x)) (upd H a u) F os := by
  refine ⟨fun b o h n => ?_, fun b h => ?_, fun _ h => h, fun _ h => .inl h, fun j b h => .inr ⟨j, h⟩, fun j xs h => ⟨?_, rfl⟩, fun j c fs h => ⟨?_, rfl⟩⟩
  · rw [upd_ne]; exact h
    rintro rfl; exact n i e
  · unfold upd
    split
    · simp
    · exact h
  · have hj : j ≠ i := by
      rintro rfl
      rcases nl with nl | ⟨c, fs, fs', nl, _⟩
      · unfold isLk at nl; rw [h] at nl; cases nl
      · rw [h] at nl; cases nl
    rw [List.getElem?_set_ne (Ne.symm hj)]; exact h
  · by_cases hj : j = i
    · subst hj
      rcases nl with nl | ⟨c', fs1, fs', nl, rfl⟩
      · unfold isLk at nl; rw [h] at nl; cases nl
      · rw [h] at nl; cases nl
        exact ⟨fs', by simp [List.getElem?_set, (List.getElem?_eq_some_iff.mp h).1]⟩
    · exact ⟨fs, by rw [List.getElem?_set_ne (Ne.symm hj)]; exact h⟩
theorem frz_step (r : Rep B H F σ S os) (nl : L.any (isLk S) = false) : FStep σ S H F os σ (frzs L S) H (orF F (osL os L)) (fun j => if j ∈ L then [] else os j) := by
  refine ⟨fun b o h n => h, fun b h => h, fun _ h => .inl h, fun b h => ?_, fun j b h => ?_, fun j xs h => ⟨?_, rfl⟩, fun j c fs h => ⟨⟨fs, ?_⟩, rfl⟩⟩
  · rcases h with h | ⟨i, _, h⟩
    · exact .inl h
    · exact .inr (.inr (.inl ⟨i, h⟩))
  · have h : b ∈ (if j ∈ L then [] else os j) := h
    split at h
    · simp at h
    · exact .inr ⟨j, h⟩
  · rw [frzs_get, if_neg, h]
    intro z
    rw [List.any_eq_false] at nl
    have := nl j z
    unfold isLk at this
    rw [h] at this
    exact this rfl
  · rw [frzs_get, if_neg, h]
    intro z
    rw [List.any_eq_false] at nl
    have := nl j z
    unfold isLk at this
    rw [h] at this
    exact this rfl
end
section
variable {B : Bk} {te : TE} {L : List Nat} {md : FSt → Option D}
theorem fs_app {i : Nat} {K : PySem.W.Frag} (hK : B.K = K) (he : FD B te L md) : FS B (tDrop (tBM K "list" rAppend (tVar i) (tCons te tNil))) (mApp i L md) := by
  subst hK
  intro S σ H F os E r h
  unfold mApp at h
  cases q : md S with
  | none => rw [q] at h; exact h.elim
  | some d =>
    rw [q] at h
    dsimp only at h
    split at h
    case isFalse => exact h.elim
    case isTrue c =>
      split at h
      case h_2 => exact h.elim
      case h_1 xs hx =>
        split at h
        case isFalse => exact h.elim
        case isTrue hz =>
          have hS : S[i]? = some (some (.li xs)) ∧ (d.plain = true ∨ i ∉ L) := by
            by_cases p : d.plain = true
            · rw [if_pos p] at hx; exact ⟨hx, .inl p⟩
            · rw [if_neg p, frzs_get] at hx
              by_cases hi : i ∈ L
              · rw [if_pos hi] at hx
                cases e : S[i]? with
                | none => rw [e] at hx; cases hx
                | some z => cases z with
                  | none => rw [e] at hx; cases hx
                  | some y => rw [e] at hx; cases hx
              · rw [if_neg hi] at hx; exact ⟨hx, .inr hi⟩
          obtain ⟨v, hv, a, vs, rfl, eo, nf, hh, das⟩ := r.at' i _ hS.1
          have nl : isLk S i = false := by unfold isLk; rw [hS.1]; rfl
          refine ⟨.ref a, hv, .inl ⟨rfl, vs, .inl (.inl hh)⟩, he S σ H F os _ d r q fun w H' F' al r' da => ?_⟩
          obtain ⟨v', hv', a', vs', e1, eo', nf', hh', das'⟩ := r'.at' i _ hS.1
          have ea : a' = a := by rw [eo] at eo'; exact (List.cons.inj eo').1.symm
          subst ea
          refine ⟨a', vs', w, rfl, rfl, hh', by rw [das'.length]; exact hz, ?_⟩
          have st1 : FStep σ S H F os σ S H' F' os := al.step
          have em : a' ∈ os i := by rw [eo]; simp
          by_cases p : d.plain = true
          · rw [if_pos p] at h
            have da' := da.toF r' p
            have hk : ∀ b o, F' b → H' b = some o → upd H' a' (.lst (vs' ++ [w])) b = some o := fun b o f h => by rw [upd_ne]; exact h; rintro rfl; exact nf' f
            have r2 := r'.write (u := .lst (vs' ++ [w])) (x := .li (xs ++ [d])) em hv ⟨a', vs' ++ [w], rfl, eo, nf', upd_same, (das'.append (.cons da' .nil)).mono hk fun _ h => h⟩
            exact h σ _ F' os (st1.trans (write_step em (.inl nl))) r2
          · rw [if_neg p] at h
            have hi := hS.2.resolve_left p
            have c' := c.resolve_left p
            have r1 := r'.frz L
            have eo1 : (fun j => if j ∈ L then [] else os j) i = [a'] := by show (if i ∈ L then [] else os i) = _; rw [if_neg hi]; exact eo
            have em1 : a' ∈ (fun j => if j ∈ L then [] else os j) i := by rw [eo1]; simp
            have nf1 : ¬ orF F' (osL os L) a' := fun z => by
              rcases z with z | ⟨k, hk, z⟩
              · exact nf' z
              · exact hi (r.inj i k a' em z ▸ hk)
            have hk : ∀ b o, orF F' (osL os L) b → H' b = some o → upd H' a' (.lst (vs' ++ [w])) b = some o := fun b o f h => by rw [upd_ne]; exact h; rintro rfl; exact nf1 f
            have d0 : DAs B H' (orF F' (osL os L)) vs' xs := das'.mono (fun _ _ _ e => e) fun _ h => .inl h
            have r2 := r1.write (u := .lst (vs' ++ [w])) (x := .li (xs ++ [d])) em1 hv ⟨a', vs' ++ [w], rfl, eo1, nf1, upd_same, (d0.append (.cons da .nil)).mono hk fun _ h => h⟩
            have nl1 : isLk (frzs L S) i = false := by unfold isLk; rw [frzs_get, if_neg hi, hS.1]; rfl
            exact h σ _ _ _ ((st1.trans (frz_step r' c')).trans (write_step em1 (.inl nl1))) r2
end

/-! ### targets -/
def FG (B : Bk) (g : TG) (m : D → FSt → Option FSt) : Prop :=
  ∀ (S : FSt) (σ : St) (H : Hp) (F : Addr → Prop) (os : Nat → List Addr) (v : V) (d : D) (S' : FSt) (Q : St → Hp → Prop), Rep B H F σ S os → DA B H F v d → m d S = some S' →
    (∀ σ' os', FStep σ S H F os σ' S' H F os' → Rep B H F σ' S' os' → Q σ' H) → g v σ H Q
def FGs (B : Bk) (g : TGs) (m : List D → FSt → Option FSt) : Prop :=
  ∀ (S : FSt) (σ : St) (H : Hp) (F : Addr → Prop) (os : Nat → List Addr) (vs : List V) (ds : List D) (S' : FSt) (Q : St → Hp → Prop), Rep B H F σ S os → DAs B H F vs ds → m ds S = some S' →
    (∀ σ' os', FStep σ S H F os σ' S' H F os' → Rep B H F σ' S' os' → Q σ' H) → g vs σ H Q
@[simp] def gN (i : Nat) : D → FSt → Option FSt := fun d S => if i < S.length ∧ isLk S i = false then some (S.set i (some (.sh d))) else none
@[simp] def gNs : List D → FSt → Option FSt := fun ds S => match ds with
  | [] => some S
  | _ => none
@[simp] def gCs (a : D → FSt → Option FSt) (r : List D → FSt → Option FSt) : List D → FSt → Option FSt := fun ds S => match ds with
  | d :: ds => (a d S).bind (r ds)
  | _ => none
@[simp] def gSq (n : Nat) (r : List D → FSt → Option FSt) : D → FSt → Option FSt := fun d S => match d with
  | .tup ds => if ds.length = n then r ds S else none
  | .lst ds => if ds.length = n then r ds S else none
  | .kt ds => if ds.length = n then r ds S else none
  | .fz ds => if ds.length = n then r ds S else none
  | _ => none
section
variable {B : Bk} {g : TG} {gs : TGs} {mg : D → FSt → Option FSt} {ms : List D → FSt → Option FSt}
theorem fg_name (i : Nat) : FG B (gName i) (gN i) := by
  intro S σ H F os v d S' Q r da e k
  unfold gN at e
  split at e
  case isFalse => cases e
  case isTrue c =>
    cases e
    have r2 := r.set (i := i) (v := v) (x := .sh d) (o := []) ⟨rfl, da⟩ (fun b e => absurd e (by simp)) c.1
    refine k _ _ ⟨fun b u h _ => h, fun _ h => h, fun _ h => h, fun _ h => .inl h, fun j b h => ?_, fun j xs h => ?_, fun j c' fs h => ?_⟩ r2
    · have h : b ∈ (if j = i then [] else os j) := h
      split at h
      · simp at h
      · exact .inr ⟨j, h⟩
    · have hj : j ≠ i := by rintro rfl; have := c.2; unfold isLk at this; rw [h] at this; cases this
      exact ⟨by rw [List.getElem?_set_ne (Ne.symm hj)]; exact h, by rw [List.getElem?_set_ne (Ne.symm hj)]⟩
    · have hj : j ≠ i := by rintro rfl; have := c.2; unfold isLk at this; rw [h] at this; cases this
      exact ⟨⟨fs, by rw [List.getElem?_set_ne (Ne.symm hj)]; exact h⟩, by rw [List.getElem?_set_ne (Ne.symm hj)]⟩
theorem fgs_nil : FGs B gNil gNs := by
  intro S σ H F os vs ds S' Q r da e k
  cases da with
  | nil => cases e; exact ⟨rfl, k σ os FStep.refl r⟩
  | cons _ _ => cases e
theorem fgs_cons (h1 : FG B g mg) (h2 : FGs B gs ms) : FGs B (gCons g gs) (gCs mg ms) := by
  intro S σ H F os vs ds S' Q r da e k
  cases da with
  | nil => cases e
  | cons h q =>
    obtain ⟨S1, e1, e2⟩ := bind1 e
    exact ⟨_, _, rfl, h1 S σ H F os _ _ S1 _ r h e1 fun σ' os' st r' => h2 S1 σ' H F os' _ _ S' Q r' q e2 fun σ2 os2 st2 r2 => k σ2 os2 (st.trans st2) r2⟩
theorem fg_seq {n : Nat} {K : PySem.W.Frag} (hK : B.K = K) (h : FGs B gs ms) : FG B (gSeq K n gs) (gSq n ms) := by
  subst hK
  intro S σ H F os v d S' Q r da e k
  cases da with
  | tup hn q =>
    unfold gSq at e
    dsimp only at e
    split at e
    case isFalse => cases e
    case isTrue c => exact .inl ⟨_, _, rfl, hn.sq, by rw [q.length]; exact c, h S σ H F os _ _ S' Q r q e k⟩
  | lst hn q =>
    unfold gSq at e
    dsimp only at e
    split at e
    case isFalse => cases e
    case isTrue c => exact .inr ⟨_, _, rfl, hn.sq, by rw [q.length]; exact c, h S σ H F os _ _ S' Q r q e k⟩
  | kt hn q =>
    unfold gSq at e
    dsimp only at e
    split at e
    case isFalse => cases e
    case isTrue c => exact .inl ⟨_, _, rfl, hn.sq, by rw [q.length]; exact c, h S σ H F os _ _ S' Q r q e k⟩
  | fz hn q =>
    unfold gSq at e
    dsimp only at e
    split at e
    case isFalse => cases e
    case isTrue c => exact .inr ⟨_, _, rfl, hn.sq, by rw [q.length]; exact c, h S σ H F os _ _ S' Q r q e k⟩
  | _ => cases e
end

/-! ### what is walked -/
def Walks (B : Bk) (J : It) (H : Hp) (F : Addr → Prop) (its : List D) : Prop := ∀ (H2 : Hp) (F2 : Addr → Prop), (∀ b o, F b → H b = some o → H2 b = some o) → (∀ b, F b → F2 b) →
  (∀ i d, its[i]? = some d → J.go i H2 ∧ ∀ x H3, J.yld i H2 x H3 → ∃ F3, Al H2 F2 H3 F3 ∧ DA B H3 F3 x d) ∧ ∀ i, its.length ≤ i → J.stop i H2
def FI (B : Bk) (wi : TI) (m : FSt → Option (List D)) : Prop :=
  ∀ (S : FSt) (σ : St) (H : Hp) (F : Addr → Prop) (os : Nat → List Addr) (R : It → Hp → Prop) (its : List D), Rep B H F σ S os → m S = some its →
    (∀ J H' F', Al H F H' F' → Rep B H' F' σ S os → Walks B J H' F' its → R J H') → wi σ H R
@[simp] def unow (S : FSt) (i : Nat) : Bool := match S[i]? with
  | some (some (SV.sh _)) => true
  | some (some _) => false
  | _ => true
def chars (z : Str) : List D := z.cps.toList.map fun c => .str ⟨#[c]⟩
@[simp] def itemsD : D → Option (List D)
  | .lst ds => some ds
  | .tup ds => some ds
  | .kt ds => some ds
  | .fz ds => some ds
  | .str z => some (chars z)
  | _ => none
@[simp] def mIt (L : List Nat) (m : FSt → Option SV) : FSt → Option (List D) := fun S => (m S).bind fun x => if x.plain = true ∨ L.all (unow S) = true then itemsD x.fr else none
def rngD (lo : Int) (n : Nat) : List D := (List.range n).map fun (k : Nat) => .int (lo + k)
def fRng : List D → Option (List D)
  | [.int j] => if -(2 ^ 62) ≤ j ∧ j < 2 ^ 62 then some (rngD 0 j.toNat) else none
  | [.int i, .int j] => if -(2 ^ 62) ≤ i ∧ i < 2 ^ 62 ∧ -(2 ^ 62) ≤ j ∧ j < 2 ^ 62 then some (rngD i (j - i).toNat) else none
  | _ => none
section
variable {B : Bk} {te : TE} {L : List Nat} {me : FSt → Option SV} {tr : TA} {mr : FSt → Option (List D)}
theorem walks_lst {H : Hp} {F : Addr → Prop} {a : Addr} {xs : List V} {ds : List D} (h : ∀ H2, (∀ b o, F b → H b = some o → H2 b = some o) → SqL B.K H2 a xs) (q : DAs B H F xs ds) : Walks B (Itl B.K a) H F ds := by
  intro H2 F2 k up
  have h2 := h H2 k
  have q2 := q.mono k up
  refine ⟨fun i d e => ?_, fun i hi => ⟨xs, h2, by rw [q.length]; exact hi⟩⟩
  obtain ⟨v, e1, d1⟩ := q2.get e
  refine ⟨⟨xs, v, h2, e1⟩, fun x H3 y => ?_⟩
  obtain ⟨rfl, y⟩ := y
  have := y xs h2
  rw [e1] at this; cases this
  exact ⟨F2, Al.refl, d1⟩
theorem walks_tup {H : Hp} {F : Addr → Prop} {a : Addr} {xs : List V} {ds : List D} (h : ∀ H2, (∀ b o, F b → H b = some o → H2 b = some o) → SqT B.K H2 a xs) (q : DAs B H F xs ds) : Walks B (Itt B.K a) H F ds := by
  intro H2 F2 k up
  have h2 := h H2 k
  have q2 := q.mono k up
  refine ⟨fun i d e => ?_, fun i hi => ⟨xs, h2, by rw [q.length]; exact hi⟩⟩
  obtain ⟨v, e1, d1⟩ := q2.get e
  refine ⟨⟨xs, v, h2, e1⟩, fun x H3 y => ?_⟩
  obtain ⟨rfl, y⟩ := y
  have := y xs h2
  rw [e1] at this; cases this
  exact ⟨F2, Al.refl, d1⟩
theorem walks_str {H : Hp} {F : Addr → Prop} (z : Str) : Walks B (Its z) H F (chars z) := by
  intro H2 F2 k up
  refine ⟨fun i d e => ?_, fun i hi => by
    have hi : z.cps.size ≤ i := by simpa [chars] using hi
    exact hi⟩
  unfold chars at e
  rw [List.getElem?_map] at e
  cases q : z.cps.toList[i]? with
  | none => rw [q] at e; cases e
  | some c =>
    rw [q] at e; cases e
    have hlt : i < z.cps.size := by simpa using (List.getElem?_eq_some_iff.mp q).1
    refine ⟨hlt, fun x H3 y => ?_⟩
    obtain ⟨rfl, c', e', rfl⟩ := y
    have e2 : z.cps.toList[i]? = some c' := by simpa using e'
    rw [q] at e2; cases e2
    exact ⟨F2, Al.refl, .str _⟩
theorem walks_rng {H : Hp} {F : Addr → Prop} (lo : Int) (n : Nat) : Walks B (Itr lo n) H F (rngD lo n) := by
  intro H2 F2 k up
  refine ⟨fun i d e => ?_, fun i hi => by
    have hi : n ≤ i := by simpa [rngD] using hi
    exact hi⟩
  have hi : i < n := by have := (List.getElem?_eq_some_iff.mp e).1; simpa [rngD] using this
  have : (rngD lo n)[i]? = some (.int (lo + i)) := by simp [rngD, hi]
  rw [this] at e; cases e
  exact ⟨hi, fun x H3 y => by obtain ⟨rfl, rfl⟩ := y; exact ⟨F2, Al.refl, .int _⟩⟩
theorem toF_of {H : Hp} {F : Addr → Prop} {σ : St} {S : FSt} {os : Nat → List Addr} {v : V} {x : SV} {o : List Addr} (r : Rep B H F σ S os) (va : VA B H (orF F (osL os L)) v x o) (c : x.plain = true ∨ L.all (unow S) = true) : VA B H F v x o := by
  rcases c with c | c
  · exact va.toF r c
  · refine va.sub (fun b h => ?_) fun b e z => (va.alive e).2.1 (.inl z)
    rcases h with h | ⟨i, hi, e⟩
    · exact h
    · obtain ⟨y, w, h1, _, h2⟩ := r.own e
      have := List.all_eq_true.mp c i hi
      unfold unow at this
      rw [h1] at this
      cases y with
      | sh d => rw [h2.1] at e; simp at e
      | _ => cases this
theorem fi_seq {K : PySem.W.Frag} (hK : B.K = K) (he : FE B te L me) : FI B (iSeq K te) (mIt L me) := by
  subst hK
  intro S σ H F os R its r e k
  obtain ⟨x, ex, ef⟩ := bind1 e
  split at ef
  case isFalse => cases ef
  case isTrue c =>
    have key : ∀ (P : V → Hp → Prop), (∀ v H' F', Al H F H' F' → Rep B H' F' σ S os → DA B H' F' v x.fr → P v H') → te σ H P := fun P hP => by
      refine he S σ H F os P x r ex fun v H' F' o a r' va fr => ?_
      have va := toF_of r' va c
      have al : Al H F H' (fun b => F' b ∨ b ∈ o) := by
        refine ⟨a.same, fun b h => .inl (a.up b h), fun b h => ?_⟩
        rcases h with h | h
        · exact a.new b h
        · exact .inr (.inl ⟨fr b h, (va.alive h).1⟩)
      exact hP v H' _ al (r.mono al) (va.frozen (fun b h => .inl h) fun b h => .inr h)
    cases hx : x.fr with
    | lst ds =>
      rw [hx] at ef key; cases ef
      refine .inl (key _ fun v H' F' al r' da => ?_)
      cases da with
      | lst h q => exact ⟨_, rfl, ⟨_, h.sq⟩, k _ H' F' al r' (walks_lst (fun H2 kk => .inl (.inl (kk _ _ h.1 h.2))) q)⟩
    | fz ds =>
      rw [hx] at ef key; cases ef
      refine .inl (key _ fun v H' F' al r' da => ?_)
      cases da with
      | fz h q => exact ⟨_, rfl, ⟨_, h.sq⟩, k _ H' F' al r' (walks_lst (fun H2 kk => (h.keep kk fun _ z => z).sq) q)⟩
    | tup ds =>
      rw [hx] at ef key; cases ef
      refine .inr (.inl (key _ fun v H' F' al r' da => ?_))
      cases da with
      | tup h q => exact ⟨_, rfl, ⟨_, h.sq⟩, k _ H' F' al r' (walks_tup (fun H2 kk => .inl (.inl (kk _ _ h.1 h.2))) q)⟩
    | kt ds =>
      rw [hx] at ef key; cases ef
      refine .inr (.inl (key _ fun v H' F' al r' da => ?_))
      cases da with
      | kt h q => exact ⟨_, rfl, ⟨_, h.sq⟩, k _ H' F' al r' (walks_tup (fun H2 kk => h.sq) q)⟩
    | str z =>
      rw [hx] at ef key; cases ef
      refine .inr (.inr (key _ fun v H' F' al r' da => ?_))
      cases da
      exact ⟨_, rfl, k _ H' F' al r' (walks_str z)⟩
    | _ => rw [hx] at ef; cases ef
theorem fi_rng1 (hr : FA B tr L mr) : FI B (iRng1 tr) (fun S => (mr S).bind fun ds => if ds.length = 1 then fRng ds else none) := by
  intro S σ H F os R its r e k
  obtain ⟨ds, ed, ef⟩ := bind1 e
  refine hr S σ H F os _ ds r ed fun vs H' F' a r' da => ?_
  split at ef
  case isFalse => cases ef
  case isTrue c =>
    match ds, c with
    | [d], _ =>
      obtain ⟨v, rfl, d1⟩ := da.one
      cases d with
      | int j =>
        cases d1
        unfold fRng at ef
        dsimp only at ef
        split at ef
        case isFalse => cases ef
        case isTrue hj => cases ef; exact ⟨j, rfl, hj.1, hj.2, k _ H' F' a r' (walks_rng 0 _)⟩
      | _ => cases ef
theorem fi_rng2 (hr : FA B tr L mr) : FI B (iRng2 tr) (fun S => (mr S).bind fun ds => if ds.length = 2 then fRng ds else none) := by
  intro S σ H F os R its r e k
  obtain ⟨ds, ed, ef⟩ := bind1 e
  refine hr S σ H F os _ ds r ed fun vs H' F' a r' da => ?_
  split at ef
  case isFalse => cases ef
  case isTrue c =>
    match ds, c with
    | [d, e], _ =>
      obtain ⟨v, w, rfl, d1, d2⟩ := da.two
      cases d with
      | int i =>
        cases e with
        | int j =>
          cases d1; cases d2
          unfold fRng at ef
          dsimp only at ef
          split at ef
          case isFalse => cases ef
          case isTrue hj => cases ef; exact ⟨i, j, rfl, ⟨hj.1, hj.2.1, hj.2.2.1, hj.2.2.2⟩, k _ H' F' a r' (walks_rng i _)⟩
        | _ => cases ef
      | _ => cases ef
end

/-! ### loops -/
def loopM (mg : D → FSt → Option FSt) (mb : FSt → Fl) : List D → FSt → Fl
  | [], S => .nx S
  | d :: r, S => match mg d S with
    | none => .bad
    | some S1 => match mb S1 with
      | .nx S2 => loopM mg mb r S2
      | .ct S2 => loopM mg mb r S2
      | .bk S2 => .nx S2
      | .rt x => .rt x
      | .bad => .bad
@[simp] def mFor (mi : FSt → Option (List D)) (mg : D → FSt → Option FSt) (mb : FSt → Fl) : FSt → Fl := fun S => match mi S with
  | some its => loopM mg mb its S
  | none => .bad
@[simp] def unlk (j : Nat) (S : FSt) : FSt := match S[j]? with
  | some (some (.lk xs)) => S.set j (some (.li xs))
  | _ => S
/-- over what the slot j owns -/
@[simp] def mForV (j : Nat) (mg : D → FSt → Option FSt) (mb : FSt → Fl) : FSt → Fl := fun S => match S[j]? with
  | some (some (.li xs)) => match loopM mg mb xs (S.set j (some (.lk xs))) with
    | .nx S' => .nx (unlk j S')
    | r => r
  | some (some (.sh d)) => match itemsD d with
    | some its => loopM mg mb its S
    | none => .bad
  | some (some (.ll xss)) => loopM mg mb (xss.map D.lst) (S.set j (some (.sh (.lst (xss.map D.lst)))))
  | _ => .bad
section
variable {B : Bk} {wi : TI} {mi : FSt → Option (List D)} {g : TG} {mg : D → FSt → Option FSt} {tb : TS} {mb : FSt → Fl}
/-- the loop itself: Z tells at each turn what the iterator needs -/
theorem loop_go {J : It} {its : List D} {E : Ends} (hg : FG B g mg) (hb : FS B tb mb) (Z : St → FSt → Hp → (Addr → Prop) → (Nat → List Addr) → Prop)
    (zs : ∀ {σ S H F os σ' S' H' F' os'}, Rep B H F σ S os → Rep B H' F' σ' S' os' → FStep σ S H F os σ' S' H' F' os' → Z σ S H F os → Z σ' S' H' F' os')
    (zi : ∀ {σ S H F os} (i : Nat) (d : D), Rep B H F σ S os → Z σ S H F os → its[i]? = some d → J.go i H ∧ ∀ x H3, J.yld i H x H3 → ∃ F3, Al H F H3 F3 ∧ DA B H3 F3 x d)
    (ze : ∀ {σ S H F os} (i : Nat), Rep B H F σ S os → Z σ S H F os → its.length ≤ i → J.stop i H)
    {S : FSt} {σ : St} {H : Hp} {F : Addr → Prop} {os : Nat → List Addr} (r : Rep B H F σ S os) (z : Z σ S H F os) (h : Lands B σ S H F os E (loopM mg mb its S)) :
    ∃ W : Nat → Nat → St → Hp → Prop, (∃ m, W 0 m σ H) ∧ ∀ i m σ H, W i m σ H →
      (J.stop i H ∧ E.nx σ H) ∨ (J.go i H ∧ ∃ N : St → Hp → Prop, (∀ σ' H', N σ' H' → ∃ m', m' < m ∧ W (i + 1) m' σ' H') ∧ ∀ x H', J.yld i H x H' → g x σ H' fun σ2 H2 => tb { E with nx := N, ct := N, bk := E.nx } σ2 H2) := by
  refine ⟨fun i m σ' H' => i ≤ its.length ∧ m = its.length - i ∧ ∃ S' F' os', Rep B H' F' σ' S' os' ∧ Z σ' S' H' F' os' ∧ Lands B σ' S' H' F' os' E (loopM mg mb (its.drop i) S'),
    ⟨_, Nat.zero_le _, rfl, S, F, os, r, z, by simpa using h⟩, ?_⟩
  rintro i m σ1 H1 ⟨hi, hm, S1, F1, os1, r1, z1, h1⟩
  cases q : its[i]? with
  | none =>
    have hle : its.length ≤ i := List.getElem?_eq_none_iff.mp q
    rw [List.drop_eq_nil_of_le hle] at h1
    exact .inl ⟨ze i r1 z1 hle, h1 σ1 H1 F1 os1 FStep.refl r1⟩
  | some d =>
    have hlt : i < its.length := (List.getElem?_eq_some_iff.mp q).1
    have hd : its.drop i = d :: its.drop (i + 1) := by
      rw [List.drop_eq_getElem_cons hlt]
      have : its[i] = d := (List.getElem?_eq_some_iff.mp q).2
      rw [this]
    rw [hd, loopM] at h1
    obtain ⟨go, yl⟩ := zi i d r1 z1 q
    refine .inr ⟨go, fun σ' H' => i + 1 ≤ its.length ∧ ∃ S' F' os', Rep B H' F' σ' S' os' ∧ Z σ' S' H' F' os' ∧ Lands B σ' S' H' F' os' E (loopM mg mb (its.drop (i + 1)) S'),
      fun σ' H' n => ⟨its.length - (i + 1), by omega, n.1, rfl, n.2⟩, fun x H2 y => ?_⟩
    obtain ⟨F2, al, da⟩ := yl x H2 y
    have r2 := r1.mono al
    cases e1 : mg d S1 with
    | none => rw [e1] at h1; exact h1.elim
    | some S2 =>
      rw [e1] at h1
      dsimp only at h1
      refine hg S1 σ1 H2 F2 os1 x d S2 _ r2 da e1 fun σ2 os2 st2 r3 => ?_
      have stA : FStep σ1 S1 H1 F1 os1 σ2 S2 H2 F2 os2 := al.step.trans st2
      refine hb S2 σ2 H2 F2 os2 _ r3 ?_
      cases e2 : mb S2 with
      | nx S3 =>
        rw [e2] at h1
        intro σ' H' F' os' st r'
        exact ⟨hlt, S3, F', os', r', zs r1 r' (stA.trans st) z1, h1.later (stA.trans st)⟩
      | ct S3 =>
        rw [e2] at h1
        intro σ' H' F' os' st r'
        exact ⟨hlt, S3, F', os', r', zs r1 r' (stA.trans st) z1, h1.later (stA.trans st)⟩
      | bk S3 =>
        rw [e2] at h1
        intro σ' H' F' os' st r'
        exact h1 σ' H' F' os' (stA.trans st) r'
      | rt x =>
        rw [e2] at h1
        exact h1.later stA
      | bad => rw [e2] at h1; exact h1.elim
theorem fs_for (hi : FI B wi mi) (hg : FG B g mg) (hb : FS B tb mb) : FS B (tFor wi g tb) (mFor mi mg mb) := by
  intro S σ H F os E r h
  unfold mFor at h
  cases q : mi S with
  | none => rw [q] at h; exact h.elim
  | some its =>
    rw [q] at h
    refine hi S σ H F os _ its r q fun J H1 F1 al r1 wk => ?_
    refine loop_go (J := J) (its := its) hg hb (fun _ _ H' F' _ => (∀ b o, F1 b → H1 b = some o → H' b = some o) ∧ ∀ b, F1 b → F' b) ?_ ?_ ?_ r1 ⟨fun _ _ _ e => e, fun _ h => h⟩ (h.later al.step)
    · intro σ S H F os σ' S' H' F' os' r r' st z
      exact ⟨fun b o f e => st.keep b o (z.1 b o f e) fun i e => (r.alive e).2 (z.2 b f), fun b f => st.up b (z.2 b f)⟩
    · intro σ S H F os i d r z e
      exact (wk H F z.1 z.2).1 i d e
    · intro σ S H F os i r z e
      exact (wk H F z.1 z.2).2 i e
theorem fs_forV {j : Nat} {K : PySem.W.Frag} (hK : B.K = K) (hg : FG B g mg) (hb : FS B tb mb) : FS B (tFor (iSeq K (tVar j)) g tb) (mForV j mg mb) := by
  subst hK
  intro S σ H F os E r h
  unfold mForV at h
  split at h
  · rename_i xs e
    obtain ⟨v, hv, a, vs, rfl, eo, nf, hh, das⟩ := r.at' j _ e
    have hj : j < S.length := (List.getElem?_eq_some_iff.mp e).1
    refine .inl ⟨.ref a, hv, a, rfl, ⟨vs, .inl (.inl hh)⟩, ?_⟩
    have r0 : Rep B H F σ (S.set j (some (.lk xs))) os := by
      have hu : upd H a (.lst vs) = H := by
        funext b; unfold upd
        split
        · rename_i q; rw [q, hh]
        · rfl
      have := r.write (u := .lst vs) (x := .lk xs) (by rw [eo]; simp) hv ⟨a, vs, rfl, eo, nf, upd_same, by rw [hu]; exact das⟩
      rw [hu] at this
      exact this
    have sj : (S.set j (some (SV.lk xs)))[j]? = some (some (.lk xs)) := by simp [List.getElem?_set, hj]
    let E' : Ends := { E with nx := E.nx }
    have key : ∀ {σ' : St} {S' : FSt} {H' : Hp} {F' : Addr → Prop} {os' : Nat → List Addr}, FStep σ (S.set j (some (.lk xs))) H F os σ' S' H' F' os' → Rep B H' F' σ' S' os' → FStep σ S H F os σ' (unlk j S') H' F' os' ∧ Rep B H' F' σ' (unlk j S') os' := by
      intro σ' S' H' F' os' st r'
      obtain ⟨k1, k2⟩ := st.lok j xs sj
      have hu : unlk j S' = S'.set j (some (.li xs)) := by unfold unlk; rw [k1]
      have hj' : j < S'.length := (List.getElem?_eq_some_iff.mp k1).1
      rw [hu]
      refine ⟨⟨st.keep, st.liv, st.up, st.new, st.own, fun i ys q => ?_, fun i c fs q => ?_⟩, ?_⟩
      · have hij : i ≠ j := by rintro rfl; rw [e] at q; cases q
        obtain ⟨q1, q2⟩ := st.lok i ys (by rw [List.getElem?_set_ne (Ne.symm hij)]; exact q)
        exact ⟨by rw [List.getElem?_set_ne (Ne.symm hij)]; exact q1, q2⟩
      · have hij : i ≠ j := by rintro rfl; rw [e] at q; cases q
        obtain ⟨⟨fs', q1⟩, q2⟩ := st.lob i c fs (by rw [List.getElem?_set_ne (Ne.symm hij)]; exact q)
        exact ⟨⟨fs', by rw [List.getElem?_set_ne (Ne.symm hij)]; exact q1⟩, q2⟩
      · refine ⟨fun i x q => ?_, fun i q => ?_, r'.inj, r'.fd, by simp [r'.len]⟩
        · by_cases hij : i = j
          · subst hij
            simp only [List.getElem?_set, if_pos rfl, hj', if_true] at q
            cases q
            obtain ⟨w, w1, w2⟩ := r'.at' i _ k1
            exact ⟨w, w1, w2⟩
          · exact r'.at' i x (by rw [List.getElem?_set_ne (Ne.symm hij)] at q; exact q)
        · by_cases hij : i = j
          · subst hij
            exact absurd (by simp [List.getElem?_set, hj']) (q (.li xs))
          · exact r'.out i fun y z => q y (by rw [List.getElem?_set_ne (Ne.symm hij)]; exact z)
    have h0 : Lands B σ (S.set j (some (.lk xs))) H F os E (loopM mg mb xs (S.set j (some (.lk xs)))) := by
      cases q : loopM mg mb xs (S.set j (some (.lk xs))) with
      | nx S' =>
        rw [q] at h
        intro σ' H' F' os' st r'
        exact h σ' H' F' os' (key st r').1 (key st r').2
      | rt x => rw [q] at h; exact h
      | bad => rw [q] at h; exact h
      | bk S' =>
        exact absurd q (by
          have : ∀ (l : List D) (S : FSt) S', loopM mg mb l S ≠ .bk S' := by
            intro l
            induction l with
            | nil => intro S S' z; cases z
            | cons d l ih =>
              intro S S' z
              rw [loopM] at z
              split at z
              · cases z
              · split at z
                · exact ih _ _ z
                · exact ih _ _ z
                · cases z
                · cases z
                · cases z
          exact this _ _ _)
      | ct S' =>
        exact absurd q (by
          have : ∀ (l : List D) (S : FSt) S', loopM mg mb l S ≠ .ct S' := by
            intro l
            induction l with
            | nil => intro S S' z; cases z
            | cons d l ih =>
              intro S S' z
              rw [loopM] at z
              split at z
              · cases z
              · split at z
                · exact ih _ _ z
                · exact ih _ _ z
                · cases z
                · cases z
                · cases z
          exact this _ _ _)
    refine loop_go (J := Itl B.K a) (its := xs) hg hb (fun σ' S' _ _ _ => S'[j]? = some (some (.lk xs)) ∧ σ'[j]? = some (some (.ref a))) ?_ ?_ ?_ r0 ⟨sj, hv⟩ h0
    · intro σ S H F os σ' S' H' F' os' r r' st z
      obtain ⟨k1, k2⟩ := st.lok j xs z.1
      exact ⟨k1, k2.trans z.2⟩
    · intro σ S H F os i d r z e
      obtain ⟨v, hv, a', vs, e1, eo, nf, hh, das⟩ := r.at' j _ z.1
      rw [z.2] at hv; cases hv; cases e1
      obtain ⟨v, e1, d1⟩ := das.get e
      refine ⟨⟨vs, v, .inl (.inl hh), e1⟩, fun x H3 y => ?_⟩
      obtain ⟨rfl, y⟩ := y
      have := y vs (.inl (.inl hh))
      rw [e1] at this; cases this
      exact ⟨F, Al.refl, d1⟩
    · intro σ S H F os i r z e
      obtain ⟨v, hv, a', vs, e1, eo, nf, hh, das⟩ := r.at' j _ z.1
      rw [z.2] at hv; cases hv; cases e1
      exact ⟨vs, .inl (.inl hh), by rw [das.length]; exact e⟩
  · rename_i d e
    have hw := fs_for (B := B) (fi_seq rfl (fd_var j).fe) hg hb S σ H F os E r
    refine hw ?_
    unfold mFor
    have : mIt [j] (mSh (mV j)) S = itemsD d := by
      have hs : mSh (mV j) S = some (.sh d) := by simp [mSh, mV, e, SV.fr]
      simp [mIt, hs, unow, e, SV.fr]
    rw [this]
    cases q : itemsD d with
    | none => rw [q] at h; exact h.elim
    | some its => rw [q] at h; exact h
  · rename_i xss e
    have nl : [j].any (isLk S) = false := by simp only [List.any_cons, List.any_nil, Bool.or_false, isLk, e]; rfl
    have hf : frzs [j] S = S.set j (some (.sh (.lst (xss.map D.lst)))) := by simp [frzs, frz1, e, SV.fr]
    have hw := fs_for (B := B) (fi_seq rfl (fd_var j).fe) hg hb (frzs [j] S) σ H _ _ E (r.frz [j])
    refine hw ?_
    have hj : j < S.length := (List.getElem?_eq_some_iff.mp e).1
    have e2 : (S.set j (some (SV.sh (.lst (xss.map D.lst)))))[j]? = some (some (.sh (.lst (xss.map D.lst)))) := by simp [List.getElem?_set, hj]
    unfold mFor
    have : mIt [j] (mSh (mV j)) (frzs [j] S) = some (xss.map D.lst) := by
      rw [hf]
      have hs : mSh (mV j) (S.set j (some (SV.sh (.lst (xss.map D.lst))))) = some (.sh (.lst (xss.map D.lst))) := by simp only [mSh, mV, e2]; rfl
      simp only [mIt, hs, Option.bind_some, unow, e2, List.all_cons, List.all_nil, Bool.and_true, or_true, if_true]
      rfl
    rw [this, hf]
    rw [← hf]
    have h' := h.later (frz_step r nl)
    rw [hf] at h' ⊢
    exact h'
  · exact h.elim
end

/-! ### while -/
def whileM (mc : FSt → Option Bool) (mb : FSt → Fl) : Nat → FSt → Fl
  | 0, _ => .bad
  | n + 1, S => match mc S with
    | none => .bad
    | some false => .nx S
    | some true => match mb S with
      | .nx S1 => whileM mc mb n S1
      | .ct S1 => whileM mc mb n S1
      | .bk S1 => .nx S1
      | .rt x => .rt x
      | .bad => .bad
open Classical in
noncomputable def mWhile (mc : FSt → Option Bool) (mb : FSt → Fl) : FSt → Fl := fun S => if h : ∃ n, whileM mc mb n S ≠ .bad then whileM mc mb (choose h) S else .bad
theorem whileM_more {mc : FSt → Option Bool} {mb : FSt → Fl} : ∀ (n k : Nat) (S : FSt), whileM mc mb n S ≠ .bad → whileM mc mb (n + k) S = whileM mc mb n S
  | 0, _, _, h => absurd rfl h
  | n + 1, k, S, h => by
    rw [show n + 1 + k = (n + k) + 1 by omega, whileM, whileM]
    rw [whileM] at h
    cases q : mc S with
    | none => rfl
    | some c => cases c with
      | false => rfl
      | true =>
        rw [q] at h
        dsimp only at h ⊢
        cases q2 : mb S with
        | nx S1 => rw [q2] at h; exact whileM_more n k S1 h
        | ct S1 => rw [q2] at h; exact whileM_more n k S1 h
        | bk S1 => rfl
        | rt x => rfl
        | bad => rfl
theorem mWhile_eq {mc : FSt → Option Bool} {mb : FSt → Fl} {n : Nat} {S : FSt} (h : whileM mc mb n S ≠ .bad) : mWhile mc mb S = whileM mc mb n S := by
  unfold mWhile
  have hx : ∃ n, whileM mc mb n S ≠ .bad := ⟨n, h⟩
  rw [dif_pos hx]
  have h1 := Classical.choose_spec hx
  have e1 := whileM_more _ n S h1
  have e2 := whileM_more _ (Classical.choose hx) S h
  rw [Nat.add_comm] at e2
  exact e1.symm.trans e2
theorem fs_while {B : Bk} {tt : TT} {mc : FSt → Option Bool} {tb : TS} {mb : FSt → Fl} (hc : FT B tt mc) (hb : FS B tb mb) : FS B (tWhile tt tb) (mWhile mc mb) := by
  intro S σ H F os E r h
  unfold mWhile at h
  split at h
  case isFalse => exact h.elim
  case isTrue hx =>
    generalize Classical.choose hx = n at h
    refine ⟨fun m σ' H' => ∃ S' F' os', Rep B H' F' σ' S' os' ∧ Lands B σ' S' H' F' os' E (whileM mc mb m S'), ⟨n, S, F, os, r, h⟩, ?_⟩
    rintro m σ1 H1 ⟨S1, F1, os1, r1, h1⟩
    cases m with
    | zero => exact h1.elim
    | succ m =>
      rw [whileM] at h1
      cases q : mc S1 with
      | none => rw [q] at h1; exact h1.elim
      | some c =>
        rw [q] at h1
        refine hc S1 σ1 H1 F1 os1 _ c r1 q fun H2 F2 al r2 => ?_
        cases c with
        | false => rw [if_neg Bool.false_ne_true]; exact h1 σ1 H2 F2 os1 al.step r2
        | true =>
          rw [if_pos rfl]
          dsimp only at h1
          refine ⟨fun σ' H' => ∃ S' F' os', Rep B H' F' σ' S' os' ∧ Lands B σ' S' H' F' os' E (whileM mc mb m S'), fun σ' H' n => ⟨m, Nat.lt_succ_self m, n⟩, ?_⟩
          refine hb S1 σ1 H2 F2 os1 _ r2 ?_
          cases e2 : mb S1 with
          | nx S3 =>
            rw [e2] at h1
            intro σ' H' F' os' st r'
            exact ⟨S3, F', os', r', h1.later (al.step.trans st)⟩
          | ct S3 =>
            rw [e2] at h1
            intro σ' H' F' os' st r'
            exact ⟨S3, F', os', r', h1.later (al.step.trans st)⟩
          | bk S3 =>
            rw [e2] at h1
            intro σ' H' F' os' st r'
            exact h1 σ' H' F' os' (al.step.trans st) r'
          | rt x => rw [e2] at h1; exact h1.later al.step
          | bad => rw [e2] at h1; exact h1.elim

/-! ### a def -/
def runF (m : FSt → Fl) (n k : Nat) (ds : List D) : Option SV := if ds.length = n then (match m (ds.map (fun d => some (.sh d)) ++ List.replicate (k - n) none) with
  | .nx _ => some (.sh .non)
  | .rt x => some x
  | _ => none) else none
theorem runF_len {m : FSt → Fl} {n k : Nat} {ds : List D} {z : SV} (h : runF m n k ds = some z) : ds.length = n := by
  unfold runF at h
  split at h
  · assumption
  · cases h
theorem rep_start {B : Bk} {H : Hp} {G : Addr → Prop} {N : List Str} {vs : List V} {ds : List D} (hg : ∀ b, G b → H b ≠ none) (da : DAs B H G vs ds) (hn : vs.length ≤ N.length) :
    Rep B H G (start N vs) (ds.map (fun d => some (.sh d)) ++ List.replicate (N.length - ds.length) none) (fun _ => []) := by
  refine ⟨fun i x h => ?_, fun i _ => rfl, fun i j a e => absurd e (by simp), hg, ?_⟩
  · by_cases hi : i < ds.length
    · rw [List.getElem?_append_left (by simpa using hi), List.getElem?_map] at h
      cases q : ds[i]? with
      | none => rw [q] at h; cases h
      | some d =>
        rw [q] at h; cases h
        obtain ⟨v, e, da'⟩ := da.get q
        refine ⟨v, ?_, rfl, da'⟩
        unfold start
        rw [List.getElem?_append_left (by simp; rw [da.length]; exact hi), List.getElem?_map, e]; rfl
    · rw [List.getElem?_append_right (by simpa using hi)] at h
      rw [List.getElem?_replicate] at h
      split at h <;> cases h
  · unfold start
    have := da.length
    simp
    omega
theorem fn_F {CX : CXT} {P : Program} {w : World} {K : PySem.W.Frag} {mg : Str → Option Value} {base : Heap} {k : Nat} {f : Addr} {name qual : Str} {params : Arguments} {body : List Stmt} {scope : Scope} {dV kV doc pm cdv ct oc : Value} {an od : Option Addr}
    {osl : Array (Option Value)} {N ps : List Str} {B : Bk} {m : FSt → Fl} (lk : K.lookup f = some ⟨oc, od, .func (PySem.W.fnOf name qual params body scope dV kV doc pm an cdv ct), osl⟩) (hcd : PySem.W.codeIn K cdv qual = true) (S : FnScope N ps scope)
    (hbody : ∀ (A : Around) (outer : List Env) (s : Shared) (H : Hp) (E : XK), Room k (A.deeper (envOfC qual scope s.heap.objs.size f cdv)) →
      ∃ t, PSs (cxOf CX P w K mg base N qual scope f cdv A outer s H E) body t ∧ FS B t m) :
    FnOk P w K mg base CX (k + 1) f (PySem.W.fnOf name qual params body scope dV kV doc pm an cdv ct) ps (SpF B ps.length (runF m ps.length N.length)) := by
  have hpl : ps.length ≤ N.length := by have := congrArg List.length S.pre; rw [List.length_take] at this; omega
  refine fn_of lk hcd S (fun vs H Q E h => h.1) fun A outer s H vs Q E hr ⟨hl, G, ds, z, hg, da, hz, post⟩ => ?_
  obtain ⟨t, ht, hf⟩ := hbody A outer s H E hr
  refine ⟨t, ht, hf _ _ H G (fun _ => []) _ (rep_start hg da (by omega)) ?_⟩
  have hdl : ds.length = ps.length := by rw [← da.length]; exact hl
  unfold runF at hz
  rw [if_pos hdl] at hz
  rw [hdl]
  have done : ∀ {H' : Hp} {F' : Addr → Prop} {o : List Addr} {v : V} {x : SV}, FStepR H G (fun _ => []) H' F' o → VA B H' F' v x o → z = x → Q v H' := by
    intro H' F' o v x st va e
    subst e
    refine post v H' F' o ⟨fun b u h => st.keep b u h (fun i e => absurd e (by simp)), st.up, fun b h => ?_⟩ va fun b h => ?_
    · rcases st.new b h with q | q | ⟨i, q⟩ | q
      · exact .inl q
      · exact .inr (.inl ⟨q, st.fd b h⟩)
      · simp at q
      · exact .inr (.inr q)
    · rcases st.own b h with q | ⟨i, q⟩
      · exact q
      · simp at q
  cases q : m (ds.map (fun d => some (.sh d)) ++ List.replicate (N.length - ps.length) none) with
  | nx S' =>
    rw [q] at hz
    intro σ' H' F' os' st r'
    exact done (v := .non) (x := .sh .non) ⟨st.keep, st.up, st.new, fun b e => absurd e (by simp), r'.fd⟩ ⟨rfl, .non⟩ (Option.some.inj hz).symm
  | rt x =>
    rw [q] at hz
    intro v H' F' o st va
    exact done st va (Option.some.inj hz).symm
  | bk S' => rw [q] at hz; cases hz
  | ct S' => rw [q] at hz; cases hz
  | bad => rw [q] at hz; cases hz
end L2

set_option Elab.async false
set_option linter.all false
set_option maxRecDepth 100000
set_option maxHeartbeats 4000000
namespace L2
open PySem PySem.Spec PyProof.Rows

/-! ### list comprehensions -/
def compM (mg : D → FSt → Option FSt) (mt : FSt → Option Bool) (me : FSt → Option D) : List D → FSt → Option (List D)
  | [], _ => some []
  | d :: r, S => (mg d S).bind fun S1 => (mt S1).bind fun c => if c = true then (me S1).bind fun x => (compM mg mt me r S1).map fun xs => x :: xs else compM mg mt me r S1
@[simp] def compS (own : Nat) (fi : List Nat) (S : FSt) : FSt := List.replicate own none ++ fi.map fun j => (S[j]?.join).map fun x => SV.sh x.fr
@[simp] def mComp (own : Nat) (fi : List Nat) (mi : FSt → Option (List D)) (mg : D → FSt → Option FSt) (mt : FSt → Option Bool) (me : FSt → Option D) : FSt → Option SV := fun S =>
  (mi S).bind fun its => if its.length ≤ sizeLine then (compM mg mt me its (compS own fi S)).map SV.li else none
@[simp] def mTrue : FSt → Option Bool := fun _ => some true
section
variable {B : Bk} {wi : TI} {mi : FSt → Option (List D)} {g : TG} {mg : D → FSt → Option FSt} {tt : TT} {mt : FSt → Option Bool} {te : TE} {me : FSt → Option D} {own : Nat} {fi L : List Nat}
theorem ft_true : FT B tTrue mTrue := fun S σ H F os Q c r e k => by cases e; exact k H F Al.refl r
/-- for a comprehension: what is walked may be a slot's own -/
def FIc (B : Bk) (wi : TI) (L : List Nat) (m : FSt → Option (List D)) : Prop :=
  ∀ (S : FSt) (σ : St) (H : Hp) (F : Addr → Prop) (os : Nat → List Addr) (R : It → Hp → Prop) (its : List D), Rep B H F σ S os → m S = some its →
    (∀ J H' F', Al H F H' F' → Rep B H' F' σ S os → Walks B J H' (orF F' (osL os L)) its → R J H') → wi σ H R
theorem FI.c (h : FI B wi mi) : FIc B wi [] mi := fun S σ H F os R its r e k => h S σ H F os R its r e fun J H' F' a r' w => k J H' F' a r' fun H2 F2 k2 up => w H2 F2 (fun b o f e => k2 b o (.inl f) e) fun b f => up b (.inl f)
@[simp] def mItc (m : FSt → Option D) : FSt → Option (List D) := fun S => (m S).bind itemsD
theorem fic_seq {K : PySem.W.Frag} (hK : B.K = K) (he : FD B te L me) : FIc B (iSeq K te) L (mItc me) := by
  subst hK
  intro S σ H F os R its r e k
  obtain ⟨d, ed, ef⟩ := bind1 e
  cases d with
  | lst ds =>
    cases ef
    refine .inl (he S σ H F os _ _ r ed fun v H' F' al r' da => ?_)
    cases da with
    | lst h q => exact ⟨_, rfl, ⟨_, h.sq⟩, k _ H' F' al r' (walks_lst (fun H2 kk => .inl (.inl (kk _ _ h.1 h.2))) q)⟩
  | fz ds =>
    cases ef
    refine .inl (he S σ H F os _ _ r ed fun v H' F' al r' da => ?_)
    cases da with
    | fz h q => exact ⟨_, rfl, ⟨_, h.sq⟩, k _ H' F' al r' (walks_lst (fun H2 kk => (h.keep kk fun _ z => z).sq) q)⟩
  | tup ds =>
    cases ef
    refine .inr (.inl (he S σ H F os _ _ r ed fun v H' F' al r' da => ?_))
    cases da with
    | tup h q => exact ⟨_, rfl, ⟨_, h.sq⟩, k _ H' F' al r' (walks_tup (fun H2 kk => .inl (.inl (kk _ _ h.1 h.2))) q)⟩
  | kt ds =>
    cases ef
    refine .inr (.inl (he S σ H F os _ _ r ed fun v H' F' al r' da => ?_))
    cases da with
    | kt h q => exact ⟨_, rfl, ⟨_, h.sq⟩, k _ H' F' al r' (walks_tup (fun H2 kk => h.sq) q)⟩
  | str z =>
    cases ef
    refine .inr (.inr (he S σ H F os _ _ r ed fun v H' F' al r' da => ?_))
    cases da
    exact ⟨_, rfl, k _ H' F' al r' (walks_str z)⟩
  | _ => cases ef
theorem comp_start {H : Hp} {F : Addr → Prop} {σ : St} {S : FSt} {os : Nat → List Addr} (r : Rep B H F σ S os) (own : Nat) (fi Li : List Nat) : Rep B H (orF F (osL os (fi ++ Li))) (compSt own fi σ) (compS own fi S) (fun _ => []) := by
  refine ⟨fun i x h => ?_, fun i _ => rfl, fun i j a e => absurd e (by simp), r.gd (fi ++ Li), by simp [compSt, compS]⟩
  unfold compS at h
  by_cases hi : i < own
  · rw [List.getElem?_append_left (by simpa using hi), List.getElem?_replicate, if_pos hi] at h
    cases h
  · rw [List.getElem?_append_right (by simpa using hi), List.length_replicate, List.getElem?_map] at h
    unfold compSt
    rw [List.getElem?_append_right (by simpa using hi), List.length_replicate, List.getElem?_map]
    cases q : fi[i - own]? with
    | none => rw [q] at h; cases h
    | some j =>
      rw [q] at h
      simp only [Option.map_some, Option.some.injEq] at h
      cases e : S[j]? with
      | none => rw [e] at h; cases h
      | some z => cases z with
        | none => rw [e] at h; cases h
        | some y =>
          rw [e] at h; cases h
          obtain ⟨v, h1, h2⟩ := r.at' j y e
          refine ⟨v, by simp [h1], rfl, h2.frozen (fun b z => .inl z) fun b z => .inr ⟨j, List.mem_append_left _ (List.mem_of_getElem? q), z⟩⟩
theorem fe_comp {Li : List Nat} (hi : FIc B wi Li mi) (hg : FG B g mg) (ht : FT B tt mt) (he : FD B te L me) : FE B (tComp wi g tt te own fi) (fi ++ Li) (mComp own fi mi mg mt me) := by
  intro S σ H F os Q x r e k
  obtain ⟨its, ei, ef⟩ := bind1 e
  split at ef
  case isFalse => cases ef
  case isTrue hz =>
  cases ec : compM mg mt me its (compS own fi S) with
  | none => rw [ec] at ef; cases ef
  | some ds =>
  rw [ec] at ef; cases ef
  refine hi S σ H F os _ its r ei fun J H1 F1 al r1 wk l hl => ?_
  have rc := comp_start r1 own fi Li
  have al0 : Al H1 (orF F1 (osL os (fi ++ Li))) (upd H1 l (.lst [])) (orF F1 (osL os (fi ++ Li))) := al_fresh hl
  have rc0 := rc.mono al0
  have nl0 : ¬ orF F1 (osL os (fi ++ Li)) l := fun z => r1.gd (fi ++ Li) l z hl
  refine ⟨fun i m σ' H' => i ≤ its.length ∧ m = its.length - i ∧ ∃ S' G xs acc rest, Rep B H' G σ' S' (fun _ => []) ∧ Al H1 (orF F1 (osL os (fi ++ Li))) H' G ∧ H' l = some (.lst xs) ∧ ¬ G l ∧ DAs B H' G xs acc ∧ acc.length ≤ i ∧
      compM mg mt me (its.drop i) S' = some rest ∧ acc ++ rest = ds,
    ⟨_, Nat.zero_le _, rfl, _, _, [], [], ds, rc0, al0, upd_same, nl0, .nil, Nat.zero_le _, by simpa using ec, rfl⟩, ?_⟩
  rintro i m σ' H' ⟨hi, hm, S', G, xs, acc, rest, r', a', hl', nl', da', la, ec', ea⟩
  have w2 := wk H' G (fun b o f e => a'.same b o e) (fun b f => a'.up b (orF_sub (fun _ z => z) (fun i h => List.mem_append_right _ h) b f))
  cases q : its[i]? with
  | none =>
    have hle : its.length ≤ i := List.getElem?_eq_none_iff.mp q
    rw [List.drop_eq_nil_of_le hle] at ec'
    cases ec'
    rw [List.append_nil] at ea
    subst ea
    refine .inl ⟨w2.2 i hle, ?_⟩
    have a1 : Al H1 (orF F1 (osL os (fi ++ Li))) H' G := a'
    have va : VA B H' G (.ref l) (.li acc) [l] := ⟨l, xs, rfl, rfl, nl', hl', da'⟩
    have fr1 : ∀ b, b ∈ [l] → H1 b = none := fun b hb => by rw [List.mem_singleton.mp hb]; exact hl
    obtain ⟨F2, al2, r2, va2⟩ := ve_split r1 a1 va fr1
    refine k (.ref l) H' F2 [l] (al.trans al2) r2 va2 fun b hb => ?_
    cases qq : H b with
    | none => rfl
    | some w => have := fr1 b hb; rw [al.same b w qq] at this; cases this
  | some d =>
    have hlt : i < its.length := (List.getElem?_eq_some_iff.mp q).1
    have hd : its.drop i = d :: its.drop (i + 1) := by
      rw [List.drop_eq_getElem_cons hlt]
      have : its[i] = d := (List.getElem?_eq_some_iff.mp q).2
      rw [this]
    rw [hd, compM] at ec'
    obtain ⟨go, yl⟩ := w2.1 i d q
    refine .inr ⟨go, fun σ'' H'' => i + 1 ≤ its.length ∧ ∃ S' G xs acc rest, Rep B H'' G σ'' S' (fun _ => []) ∧ Al H1 (orF F1 (osL os (fi ++ Li))) H'' G ∧ H'' l = some (.lst xs) ∧ ¬ G l ∧ DAs B H'' G xs acc ∧ acc.length ≤ i + 1 ∧
      compM mg mt me (its.drop (i + 1)) S' = some rest ∧ acc ++ rest = ds, fun σ'' H'' n => ⟨its.length - (i + 1), by omega, n.1, rfl, n.2⟩, fun x H2 y => ?_⟩
    obtain ⟨G2, al2, da2⟩ := yl x H2 y
    have r2 := r'.mono al2
    obtain ⟨S1, e1, ec'⟩ := bind1 ec'
    obtain ⟨c, e2, ec'⟩ := bind1 ec'
    refine hg S' σ' H2 G2 _ x d S1 _ r2 da2 e1 fun σ2 os2 st2 r3 => ?_
    have nos : ∀ j, os2 j = [] := fun j => by
      cases qq : os2 j with
      | nil => rfl
      | cons b _ =>
        rcases st2.own j b (by rw [qq]; simp) with z | ⟨_, z⟩
        · exact absurd z (r3.alive (i := j) (a := b) (by rw [qq]; simp)).1
        · simp at z
    have eos : os2 = fun _ => [] := funext nos
    subst eos
    refine ht S1 σ2 H2 G2 _ _ c r3 e2 fun H3 G3 al3 r4 => ?_
    have hl3 : H3 l = some (.lst xs) := al3.same l _ (al2.same l _ hl')
    have nl3 : ¬ G3 l := fun z => by
      rcases al3.new l z with z | z | ⟨ys, z⟩
      · rcases al2.new l z with z | z | ⟨ys, z⟩
        · exact nl' z
        · rw [hl'] at z; cases z.1
        · rw [hl'] at z; cases z
      · rw [al2.same l _ hl'] at z; cases z.1
      · rw [al2.same l _ hl'] at z; cases z
    have da3 : DAs B H3 G3 xs acc := da'.mono (fun b o f e => al3.same b o (al2.same b o e)) fun b f => al3.up b (al2.up b f)
    cases c with
    | false =>
      rw [if_neg Bool.false_ne_true] at ec' ⊢
      exact ⟨hlt, S1, G3, xs, acc, rest, r4, (a'.trans al2).trans al3, hl3, nl3, da3, by omega, ec', ea⟩
    | true =>
      rw [if_pos rfl] at ec' ⊢
      obtain ⟨w, ew, ec'⟩ := bind1 ec'
      cases er : compM mg mt me (its.drop (i + 1)) S1 with
      | none => rw [er] at ec'; cases ec'
      | some rest' =>
        rw [er] at ec'; cases ec'
        refine he S1 σ2 H3 G3 _ _ w r4 ew fun y H4 G4 al4 r5 dy => ?_
        have hl4 : H4 l = some (.lst xs) := al4.same l _ hl3
        have nl4 : ¬ G4 l := fun z => by
          rcases al4.new l z with z | z | ⟨ys, z⟩
          · exact nl3 z
          · rw [hl3] at z; cases z.1
          · rw [hl3] at z; cases z
        have da4 : DAs B H4 G4 xs acc := da3.mono (fun b o f e => al4.same b o e) al4.up
        have dy' : DA B H4 G4 y w := dy.mono (fun _ _ _ e => e) fun b z => by
          rcases z with z | ⟨_, _, z⟩
          · exact z
          · simp at z
        refine ⟨xs, hl4, by rw [da4.length]; omega, hlt, S1, G4, xs ++ [y], acc ++ [w], rest', ?_, ?_, upd_same, nl4, ?_, ?_, er, by simpa using ea⟩
        · refine ⟨fun j x h => ?_, r5.out, r5.inj, fun b f => ?_, r5.len⟩
          · obtain ⟨v, h1, h2⟩ := r5.at' j x h
            exact ⟨v, h1, h2.mono (fun b u f e => by rw [upd_ne]; exact e; rintro rfl; exact nl4 f) (fun b u hb => absurd hb (by simp)) (fun _ f => f) fun b hb => absurd hb (by simp)⟩
          · unfold upd
            split
            · simp
            · exact r5.fd b f
        · have a4 := ((a'.trans al2).trans al3).trans al4
          refine ⟨fun b o e => ?_, a4.up, fun b z => ?_⟩
          · rw [upd_ne (ne_of_none e hl)]; exact a4.same b o e
          · rcases a4.new b z with z | z | z
            · exact .inl z
            · refine .inr (.inl ⟨z.1, ?_⟩)
              unfold upd
              split
              · simp
              · exact z.2
            · exact .inr (.inr z)
        · exact (da4.append (.cons dy' .nil)).mono (fun b u f e => by rw [upd_ne]; exact e; rintro rfl; exact nl4 f) fun _ f => f
        · simp; omega
theorem fs_setcomp {i : Nat} {Li : List Nat} (hi : FIc B wi Li mi) (hg : FG B g mg) (ht : FT B tt mt) (he : FD B te L me) : FS B (tSetComp i wi g tt te own fi) (mSet i (fi ++ Li) (mComp own fi mi mg mt me)) :=
  fs_set (te := tComp wi g tt te own fi) (fe_comp hi hg ht he)
end
end L2

set_option Elab.async false
set_option linter.all false
set_option maxRecDepth 100000
set_option maxHeartbeats 4000000
namespace L2
open PySem PySem.Spec PyProof.Rows

/-! ### ints -/
@[simp] def fI {α : Type} (f : Int → Int → Option α) : D → D → Option α
  | .int i, .int j => f i j
  | _, _ => none
@[simp] def fI1 {α : Type} (f : Int → Option α) : D → Option α
  | .int i => f i
  | _ => none
section
variable {B : Bk}
theorem fI_some {α : Type} {f : Int → Int → Option α} {a b : D} {z : α} (h : fI f a b = some z) : ∃ i j, a = .int i ∧ b = .int j ∧ f i j = some z := by
  unfold fI at h
  split at h
  · exact ⟨_, _, rfl, rfl, h⟩
  · cases h
theorem opd_I0 {g : Int → Int → V} {gd : Int → Int → D} (h : ∀ i j, Sc (g i j) (gd i j)) : OpD B (rI0 g) (fI fun i j => some (gd i j)) := by
  intro H G x y dx dy z Q hx hy e k
  obtain ⟨i, j, rfl, rfl, e⟩ := fI_some e
  cases e; cases hx; cases hy
  exact ⟨i, j, rfl, rfl, k _ H G Al.refl (h i j).da⟩
theorem opd_I {C : Int → Int → Prop} [∀ i j, Decidable (C i j)] {g : Int → Int → V} {gd : Int → Int → D} (h : ∀ i j, Sc (g i j) (gd i j)) : OpD B (rI C g) (fI fun i j => if C i j then some (gd i j) else none) := by
  intro H G x y dx dy z Q hx hy e k
  obtain ⟨i, j, rfl, rfl, e'⟩ := fI_some e
  clear e
  split at e'
  · cases e'; cases hx; cases hy
    exact ⟨i, j, rfl, rfl, by assumption, k _ H G Al.refl (h i j).da⟩
  · cases e'
theorem und_I {g : Int → V} {gd : Int → D} (h : ∀ i, Sc (g i) (gd i)) : UnD B (rU g) (fI1 fun i => some (gd i)) := by
  intro H G x dx z Q hx e k
  unfold fI1 at e
  split at e
  · cases e; cases hx; exact ⟨_, rfl, k _ H G Al.refl (h _).da⟩
  · cases e
end
instance (i j : Int) : Decidable (CMul i j) := by unfold CMul; exact inferInstance
instance (i j : Int) : Decidable (CPow i j) := by unfold CPow; exact inferInstance
abbrev oSub : D → D → Option D := fI fun i j => some (.int (i - j))
abbrev oFdiv : D → D → Option D := fI fun i j => if 0 < j ∧ j < 2 ^ 200 then some (.int (i / j)) else none
abbrev oMod : D → D → Option D := fI fun i j => if 0 < j then some (.int (i % j)) else none
abbrev oShl : D → D → Option D := fI fun i j => if CPow i j then some (.int (i * 2 ^ j.toNat)) else none
abbrev oShr : D → D → Option D := fI fun i j => if 0 ≤ j then some (.int (i / 2 ^ j.toNat)) else none
abbrev oPow : D → D → Option D := fI fun i j => if CPow i j then some (.int (i ^ j.toNat)) else none
abbrev oAnd : D → D → Option D := fI fun i j => some (.int (Builtin.bitAnd i j))
abbrev oOr : D → D → Option D := fI fun i j => some (.int (Builtin.bitOr i j))
abbrev oXor : D → D → Option D := fI fun i j => some (.int (Builtin.bitXor i j))
abbrev oLt : D → D → Option D := fI fun i j => some (.bl (decide (i < j)))
abbrev oLe : D → D → Option D := fI fun i j => some (.bl (decide (i ≤ j)))
abbrev oGt : D → D → Option D := fI fun i j => some (.bl (decide (j < i)))
abbrev oGe : D → D → Option D := fI fun i j => some (.bl (decide (j ≤ i)))
abbrev oNeg : D → Option D := fI1 fun i => some (.int (-i))
section
variable {B : Bk}
theorem od_sub : OpD B (rI0 fun i j => .int (i - j)) oSub := opd_I0 fun _ _ => .int _
theorem od_fdiv : OpD B (rI (fun _ j => 0 < j ∧ j < 2 ^ 200) fun i j => .int (i / j)) oFdiv := opd_I fun _ _ => .int _
theorem od_mod : OpD B (rI (fun _ j => 0 < j) fun i j => .int (i % j)) oMod := opd_I fun _ _ => .int _
theorem od_shl : OpD B (rI CPow fun i j => .int (i * 2 ^ j.toNat)) oShl := opd_I fun _ _ => .int _
theorem od_shr : OpD B (rI (fun _ j => 0 ≤ j) fun i j => .int (i / 2 ^ j.toNat)) oShr := opd_I fun _ _ => .int _
theorem od_pow : OpD B (rI CPow fun i j => .int (i ^ j.toNat)) oPow := opd_I fun _ _ => .int _
theorem od_and : OpD B (rI0 fun i j => .int (Builtin.bitAnd i j)) oAnd := opd_I0 fun _ _ => .int _
theorem od_or : OpD B (rI0 fun i j => .int (Builtin.bitOr i j)) oOr := opd_I0 fun _ _ => .int _
theorem od_xor : OpD B (rI0 fun i j => .int (Builtin.bitXor i j)) oXor := opd_I0 fun _ _ => .int _
theorem od_lt : OpD B (rI0 fun i j => .bl (decide (i < j))) oLt := opd_I0 fun _ _ => .bl _
theorem od_le : OpD B (rI0 fun i j => .bl (decide (i ≤ j))) oLe := opd_I0 fun _ _ => .bl _
theorem od_gt : OpD B (rI0 fun i j => .bl (decide (j < i))) oGt := opd_I0 fun _ _ => .bl _
theorem od_ge : OpD B (rI0 fun i j => .bl (decide (j ≤ i))) oGe := opd_I0 fun _ _ => .bl _
theorem od_neg : UnD B (rU fun i => .int (-i)) oNeg := und_I fun _ => .int _
end

/-! ### + and * of several kinds -/
@[simp] def oAdd : D → D → Option SV
  | .int i, .int j => some (.sh (.int (i + j)))
  | .str a, .str b => if a.length + b.length ≤ sizeLine then some (.sh (.str (a ++ b))) else none
  | .lst xs, .lst ys => if xs.length + ys.length ≤ sizeLine then some (.li (xs ++ ys)) else none
  | .tup xs, .tup ys => if xs ≠ [] ∧ ys ≠ [] ∧ xs.length + ys.length ≤ sizeLine then some (.sh (.tup (xs ++ ys))) else none
  | _, _ => none
@[simp] def oMul : D → D → Option SV
  | .int i, .int j => if CMul i j then some (.sh (.int (i * j))) else none
  | .lst xs, .int k => if -(2 ^ 63) ≤ k ∧ k < 2 ^ 63 ∧ xs.length * k.toNat ≤ sizeLine then some (.li (List.replicate k.toNat xs).flatten) else none
  | _, _ => none
section
variable {B : Bk}
theorem DAs.rep {H : Hp} {F : Addr → Prop} {vs : List V} {ds : List D} (h : DAs B H F vs ds) : ∀ n, DAs B H F (List.replicate n vs).flatten (List.replicate n ds).flatten
  | 0 => .nil
  | n + 1 => by simpa [List.replicate_succ] using h.append (DAs.rep h n)
theorem new_li {H : Hp} {G : Addr → Prop} {p : Addr} {vs : List V} {ds : List D} {Q : VK} (hg : ∀ b, G b → H b ≠ none) (hp : H p = none) (da : DAs B H G vs ds)
    (k : ∀ v H' G' o, Al H G H' G' → VA B H' G' v (.li ds) o → (∀ a, a ∈ o → H a = none) → Q v H') : Q (.ref p) (upd H p (.lst vs)) := by
  have al := al_fresh (F := G) (u := .lst vs) hp
  exact k (.ref p) _ G [p] al ⟨p, vs, rfl, rfl, fun z => hg p z hp, upd_same, da.mono (fun b o _ e => al.same b o e) fun _ z => z⟩ fun a ha => by rw [List.mem_singleton.mp ha]; exact hp
theorem new_tup {H : Hp} {G : Addr → Prop} {p : Addr} {vs : List V} {ds : List D} {Q : VK} (hp : H p = none) (da : DAs B H G vs ds)
    (k : ∀ v H' G' o, Al H G H' G' → VA B H' G' v (.sh (.tup ds)) o → (∀ a, a ∈ o → H a = none) → Q v H') : Q (.ref p) (upd H p (.tup vs)) := by
  have al := al_fresh' (F := G) (u := .tup vs) hp
  exact k (.ref p) _ _ [] al ⟨rfl, .tup ⟨.inr rfl, upd_same⟩ (da.mono (fun b o _ e => al.same b o e) fun _ z => .inl z)⟩ fun a ha => absurd ha (by simp)
theorem e_add {K : PySem.W.Frag} (hK : B.K = K) : OpE B (rAddG K) oAdd := by
  subst hK
  intro H G x y dx dy z Q hg hx hy e k
  unfold oAdd at e
  split at e
  · cases e; cases hx; cases hy
    exact .inl ⟨_, _, rfl, rfl, k _ H G [] Al.refl ⟨rfl, .int _⟩ (by simp)⟩
  · split at e
    · cases e; cases hx; cases hy
      exact .inr (.inl ⟨_, _, rfl, rfl, by assumption, k _ H G [] Al.refl ⟨rfl, .str _⟩ (by simp)⟩)
    · cases e
  · split at e
    · rename_i hl
      cases e
      cases hx with
      | lst h1 r1 => cases hy with
        | lst h2 r2 => exact .inr (.inr (.inl ⟨_, _, _, _, rfl, rfl, h1.2, h2.2, by rw [r1.length, r2.length]; exact hl, fun p hp => new_li hg hp (r1.append r2) k⟩))
    · cases e
  · split at e
    · rename_i hl
      cases e
      cases hx with
      | tup h1 r1 => cases hy with
        | tup h2 r2 =>
          have nx : ∀ {vs : List V} {ds : List D}, DAs B H G vs ds → ds ≠ [] → vs ≠ [] := fun r n z => by subst z; cases r; exact n rfl
          exact .inr (.inr (.inr ⟨_, _, _, _, rfl, rfl, h1.sq, h2.sq, nx r1 hl.1, by rw [r1.length, r2.length]; exact hl.2.2, fun z => absurd z (nx r2 hl.2.1), fun _ p hp => new_tup hp (r1.append r2) k⟩))
    · cases e
  · cases e
theorem e_mul : OpE B rMulG oMul := by
  intro H G x y dx dy z Q hg hx hy e k
  unfold oMul at e
  split at e
  · split at e
    · cases e; cases hx; cases hy
      exact .inl ⟨_, _, rfl, rfl, by assumption, k _ H G [] Al.refl ⟨rfl, .int _⟩ (by simp)⟩
    · cases e
  · split at e
    · rename_i hl
      cases e; cases hy
      cases hx with
      | lst h1 r1 => exact .inr ⟨_, _, _, rfl, rfl, h1.2, hl.1, hl.2.1, by rw [r1.length]; exact hl.2.2, fun p hp => new_li hg hp (r1.rep _) k⟩
    · cases e
  · cases e
end

/-! ### data compared -/
mutual
def D.dat : D → Option PyData
  | .non => some .none
  | .bl b => some (.bool b)
  | .int i => some (.int i)
  | .str x => some (.str x)
  | .tup xs => (D.dats xs).map .tuple
  | .kt xs => (D.dats xs).map .tuple
  | .lst xs => (D.dats xs).map .list
  | .fz xs => (D.dats xs).map .list
  | _ => none
def D.dats : List D → Option (List PyData)
  | [] => some []
  | d :: r => (D.dat d).bind fun p => (D.dats r).map fun ps => p :: ps
end
section
variable {B : Bk} {H : Hp} {F : Addr → Prop}
mutual
theorem DA.dat : ∀ {v : V} {d : D} {p : PyData}, DA B H F v d → d.dat = some p → DAt B.K H v p
  | _, _, _, .non, e => by simp [D.dat] at e; subst e; exact .non
  | _, _, _, .bl b, e => by simp [D.dat] at e; subst e; exact .bl b
  | _, _, _, .int i, e => by simp [D.dat] at e; subst e; exact .int i
  | _, _, _, .str x, e => by simp [D.dat] at e; subst e; exact .str x
  | _, _, _, .tup h r, e => by
    simp only [D.dat, Option.map_eq_some_iff] at e
    obtain ⟨ps, e1, rfl⟩ := e
    exact .tup h.sq (DAs.dats r e1)
  | _, _, _, .kt h r, e => by
    simp only [D.dat, Option.map_eq_some_iff] at e
    obtain ⟨ps, e1, rfl⟩ := e
    exact .tup h.sq (DAs.dats r e1)
  | _, _, _, .lst h r, e => by
    simp only [D.dat, Option.map_eq_some_iff] at e
    obtain ⟨ps, e1, rfl⟩ := e
    exact .lst h.sq (DAs.dats r e1)
  | _, _, _, .fz h r, e => by
    simp only [D.dat, Option.map_eq_some_iff] at e
    obtain ⟨ps, e1, rfl⟩ := e
    exact .lst h.sq (DAs.dats r e1)
  | _, _, _, .ty n, e => by simp [D.dat] at e
  | _, _, _, .adr a, e => by simp [D.dat] at e
  | _, _, _, .dK _ _ _ _, e => by simp [D.dat] at e
  | _, _, _, .dT _ _ _ _, e => by simp [D.dat] at e
  | _, _, _, .ins _ _ _ _, e => by simp [D.dat] at e
theorem DAs.dats : ∀ {vs : List V} {ds : List D} {ps : List PyData}, DAs B H F vs ds → D.dats ds = some ps → DAts B.K H vs ps
  | _, _, _, .nil, e => by simp [D.dats] at e; subst e; exact .nil
  | _, _, _, .cons h r, e => by
    simp only [D.dats, Option.bind_eq_some_iff, Option.map_eq_some_iff] at e
    obtain ⟨p, e1, ps, e2, rfl⟩ := e
    exact .cons (DA.dat h e1) (DAs.dats r e2)
end
end
def shp (d : D) : Option PyData := d.dat.bind fun p => if SeqAt.shaped p = true then some p else none
def oEq : D → D → Option D := fun a b => (shp a).bind fun p => (shp b).bind fun q => some (.bl (PyData.eqv p q))
def oNe : D → D → Option D := fun a b => (shp a).bind fun p => (shp b).bind fun q => some (.bl (!PyData.eqv p q))
theorem shp_some {d : D} {p : PyData} (h : shp d = some p) : d.dat = some p ∧ SeqAt.shaped p = true := by
  obtain ⟨q, e, h⟩ := bind1 h
  split at h
  · cases h; exact ⟨e, by assumption⟩
  · cases h
section
variable {B : Bk} {K : PySem.W.Frag}
theorem od_eq (hK : B.K = K) : OpD B (rEqD K) oEq := by
  subst hK
  intro H G x y dx dy z Q hx hy e k
  obtain ⟨p, q, e1, e2, e3⟩ := bind2 e
  cases e3
  exact ⟨p, q, hx.dat (shp_some e1).1, hy.dat (shp_some e2).1, (shp_some e1).2, (shp_some e2).2, k _ H G Al.refl (.bl _)⟩
theorem od_ne (hK : B.K = K) : OpD B (rNeD K) oNe := by
  subst hK
  intro H G x y dx dy z Q hx hy e k
  obtain ⟨p, q, e1, e2, e3⟩ := bind2 e
  cases e3
  exact ⟨p, q, hx.dat (shp_some e1).1, hy.dat (shp_some e2).1, (shp_some e1).2, (shp_some e2).2, k _ H G Al.refl (.bl _)⟩
def inB : D → D → Option Bool
  | .str a, .str b => some (!(Builtin.Str.occurrences b a 0 b.length 1).isEmpty)
  | x, .lst ys => (D.dats ys).bind fun ps => (shp x).bind fun p => if SeqAt.shaped (.list ps) = true then some (ps.any fun e => PyData.eqv e p) else none
  | x, .fz ys => (D.dats ys).bind fun ps => (shp x).bind fun p => if SeqAt.shaped (.list ps) = true then some (ps.any fun e => PyData.eqv e p) else none
  | x, .tup ys => (D.dats ys).bind fun ps => (shp x).bind fun p => if SeqAt.shaped (.list ps) = true then some (ps.any fun e => PyData.eqv e p) else none
  | x, .kt ys => (D.dats ys).bind fun ps => (shp x).bind fun p => if SeqAt.shaped (.list ps) = true then some (ps.any fun e => PyData.eqv e p) else none
  | _, _ => none
def oIn : D → D → Option D := fun x y => (inB x y).map fun b => .bl b
def oNotIn : D → D → Option D := fun x y => (inB x y).map fun b => .bl (!b)
theorem in_core {H : Hp} {G : Addr → Prop} {x y : V} {dx dy : D} {c : Bool} (hx : DA B H G x dx) (hy : DA B H G y dy) (e : inB dx dy = some c) :
    (∃ i j, x = .str i ∧ y = .str j ∧ c = (!(Builtin.Str.occurrences j i 0 j.length 1).isEmpty)) ∨ ∃ ds d, (DAt B.K H y (.list ds) ∨ DAt B.K H y (.tuple ds)) ∧ DAt B.K H x d ∧ SeqAt.shaped (.list ds) = true ∧ SeqAt.shaped d = true ∧ c = (ds.any fun e => PyData.eqv e d) := by
  have fin : ∀ {ys : List D} {vs : List V}, DAs B H G vs ys → (∀ ps, DAts B.K H vs ps → DAt B.K H y (.list ps) ∨ DAt B.K H y (.tuple ps)) → ((D.dats ys).bind fun ps => (shp dx).bind fun p => if SeqAt.shaped (.list ps) = true then some (ps.any fun e => PyData.eqv e p) else none) = some c →
      ∃ ds d, (DAt B.K H y (.list ds) ∨ DAt B.K H y (.tuple ds)) ∧ DAt B.K H x d ∧ SeqAt.shaped (.list ds) = true ∧ SeqAt.shaped d = true ∧ c = (ds.any fun e => PyData.eqv e d) := fun r mk e => by
    obtain ⟨ps, p, e1, e2, e3⟩ := bind2 e
    split at e3
    · cases e3
      exact ⟨ps, p, mk ps (r.dats e1), hx.dat (shp_some e2).1, by assumption, (shp_some e2).2, rfl⟩
    · cases e3
  unfold inB at e
  split at e
  · cases e; cases hx; cases hy; exact .inl ⟨_, _, rfl, rfl, rfl⟩
  · cases hy with
    | lst h r => exact .inr (fin r (fun ps q => .inl (.lst h.sq q)) e)
  · cases hy with
    | fz h r => exact .inr (fin r (fun ps q => .inl (.lst h.sq q)) e)
  · cases hy with
    | tup h r => exact .inr (fin r (fun ps q => .inr (.tup h.sq q)) e)
  · cases hy with
    | kt h r => exact .inr (fin r (fun ps q => .inr (.tup h.sq q)) e)
  · cases e
theorem od_in (hK : B.K = K) : OpD B (rInE K) oIn := by
  subst hK
  intro H G x y dx dy z Q hx hy e k
  unfold oIn at e
  rw [Option.map_eq_some_iff] at e
  obtain ⟨c, e1, rfl⟩ := e
  rcases in_core hx hy e1 with ⟨i, j, rfl, rfl, rfl⟩ | ⟨ds, d, h1, h2, h3, h4, rfl⟩
  · exact .inl ⟨i, j, rfl, rfl, k _ H G Al.refl (.bl _)⟩
  · exact .inr ⟨ds, d, h1, h2, h3, h4, k _ H G Al.refl (.bl _)⟩
theorem od_notIn (hK : B.K = K) : OpD B (rNotInE K) oNotIn := by
  subst hK
  intro H G x y dx dy z Q hx hy e k
  unfold oNotIn at e
  rw [Option.map_eq_some_iff] at e
  obtain ⟨c, e1, rfl⟩ := e
  rcases in_core hx hy e1 with ⟨i, j, rfl, rfl, rfl⟩ | ⟨ds, d, h1, h2, h3, h4, rfl⟩
  · exact .inl ⟨i, j, rfl, rfl, k _ H G Al.refl (.bl _)⟩
  · exact .inr ⟨ds, d, h1, h2, h3, h4, k _ H G Al.refl (.bl _)⟩
def D.isNon : D → Bool
  | .non => true
  | _ => false
theorem DA.isNon {H : Hp} {G : Addr → Prop} {x : V} {d : D} (h : DA B H G x d) : decide (x = .non) = d.isNon := by cases h <;> rfl
def oIs : D → D → Option D := fun a b => if b.isNon = true then some (.bl a.isNon) else none
def oIsnt : D → D → Option D := fun a b => if b.isNon = true then some (.bl (!a.isNon)) else none
theorem od_is : OpD B (fun x y H Q => y = .non ∧ Q (.bl (decide (x = .non))) H) oIs := by
  intro H G x y dx dy z Q hx hy e k
  unfold oIs at e
  split at e
  · cases e
    rename_i h
    rw [hx.isNon]
    refine ⟨?_, k _ H G Al.refl (.bl _)⟩
    rw [← hy.isNon] at h
    exact of_decide_eq_true h
  · cases e
theorem od_isnt : OpD B (fun x y H Q => y = .non ∧ Q (.bl (!decide (x = .non))) H) oIsnt := by
  intro H G x y dx dy z Q hx hy e k
  unfold oIsnt at e
  split at e
  · cases e
    rename_i h
    rw [hx.isNon]
    refine ⟨?_, k _ H G Al.refl (.bl _)⟩
    rw [← hy.isNon] at h
    exact of_decide_eq_true h
  · cases e

/-! ### items, lengths, kinds -/
@[simp] def oIx : D → D → Option D
  | .lst xs, .int i => atI xs i
  | .tup xs, .int i => atI xs i
  | .kt xs, .int i => atI xs i
  | .fz xs, .int i => atI xs i
  | .str z, .int i => if z.length ≤ sizeLine then (atI z.cps.toList i).map fun c => .str ⟨#[c]⟩ else none
  | _, _ => none
theorem atI_rel {H : Hp} {G : Addr → Prop} {vs : List V} {ds : List D} {i : Int} {d : D} (r : DAs B H G vs ds) (e : atI ds i = some d) : ∃ v, atI vs i = some v ∧ DA B H G v d := by
  unfold atI at e ⊢
  obtain ⟨j, e1, e2⟩ := bind1 e
  rw [r.length, e1]
  exact r.get e2
theorem od_ix (hK : B.K = K) : OpD B (rIx K) oIx := by
  subst hK
  intro H G x y dx dy z Q hx hy e k
  unfold oIx at e
  split at e
  · cases hy
    cases hx with
    | lst h r => obtain ⟨v, e1, d1⟩ := atI_rel r e; exact .inl ⟨_, _, _, v, rfl, rfl, h.sq, e1, k v H G Al.refl d1⟩
  · cases hy
    cases hx with
    | tup h r => obtain ⟨v, e1, d1⟩ := atI_rel r e; exact .inr (.inl ⟨_, _, _, v, rfl, rfl, h.sq, e1, k v H G Al.refl d1⟩)
  · cases hy
    cases hx with
    | kt h r => obtain ⟨v, e1, d1⟩ := atI_rel r e; exact .inr (.inl ⟨_, _, _, v, rfl, rfl, h.sq, e1, k v H G Al.refl d1⟩)
  · cases hy
    cases hx with
    | fz h r => obtain ⟨v, e1, d1⟩ := atI_rel r e; exact .inl ⟨_, _, _, v, rfl, rfl, h.sq, e1, k v H G Al.refl d1⟩
  · split at e
    · rw [Option.map_eq_some_iff] at e
      obtain ⟨c, e1, rfl⟩ := e
      cases hx; cases hy
      exact .inr (.inr ⟨_, _, c, rfl, rfl, by assumption, e1, k _ H G Al.refl (.str _)⟩)
    · cases e
  · cases e
/-- the item of what a slot holds: nothing of the slot is reached -/
def rLenF (K : PySem.W.Frag) : List V → Hp → VK → Prop := fun xs H Q => rLenE K xs H Q ∨ ∃ a kvs, xs = [V.ref a] ∧ H a = some (.dK kvs) ∧ Q (.int kvs.length) H
theorem call_lenF {X : Cx} (hK : X.K = K) : CallR X (.builtin "len") (rLenF K) := (call_lenE hK).or call_lenD
@[simp] def fLen : List D → Option SV
  | [.lst xs] => some (.sh (.int xs.length))
  | [.tup xs] => some (.sh (.int xs.length))
  | [.kt xs] => some (.sh (.int xs.length))
  | [.fz xs] => some (.sh (.int xs.length))
  | [.str z] => if z.length ≤ sizeLine then some (.sh (.int z.length)) else none
  | [.dT kvs] => some (.sh (.int kvs.length))
  | [.dK kvs] => some (.sh (.int kvs.length))
  | _ => none
theorem c_len (hK : B.K = K) : CallE B (rLenF K) fLen := by
  subst hK
  intro H G vs ds z Q hg hd e k
  unfold fLen at e
  split at e
  · cases e
    obtain ⟨v, rfl, d1⟩ := hd.one
    cases d1 with
    | lst h r => exact .inl (.inl ⟨_, _, rfl, .inl ⟨_, h.sq, rfl⟩, by rw [r.length]; exact k _ H G [] Al.refl ⟨rfl, .int _⟩ (by simp)⟩)
  · cases e
    obtain ⟨v, rfl, d1⟩ := hd.one
    cases d1 with
    | tup h r => exact .inl (.inl ⟨_, _, rfl, .inr ⟨_, h.sq, rfl⟩, by rw [r.length]; exact k _ H G [] Al.refl ⟨rfl, .int _⟩ (by simp)⟩)
  · cases e
    obtain ⟨v, rfl, d1⟩ := hd.one
    cases d1 with
    | kt h r => exact .inl (.inl ⟨_, _, rfl, .inr ⟨_, h.sq, rfl⟩, by rw [r.length]; exact k _ H G [] Al.refl ⟨rfl, .int _⟩ (by simp)⟩)
  · cases e
    obtain ⟨v, rfl, d1⟩ := hd.one
    cases d1 with
    | fz h r => exact .inl (.inl ⟨_, _, rfl, .inl ⟨_, h.sq, rfl⟩, by rw [r.length]; exact k _ H G [] Al.refl ⟨rfl, .int _⟩ (by simp)⟩)
  · split at e
    · cases e
      obtain ⟨v, rfl, d1⟩ := hd.one
      cases d1
      exact .inl (.inl ⟨_, _, rfl, ⟨by assumption, rfl⟩, k _ H G [] Al.refl ⟨rfl, .int _⟩ (by simp)⟩)
    · cases e
  · cases e
    obtain ⟨v, rfl, d1⟩ := hd.one
    cases d1 with
    | @dT a kvs _ f h ek r =>
      have hl := congrArg List.length ek
      rw [List.length_map, List.length_map] at hl
      exact .inl (.inr ⟨_, _, rfl, h, by rw [hl]; exact k _ H G [] Al.refl ⟨rfl, .int _⟩ (by simp)⟩)
  · cases e
    obtain ⟨v, rfl, d1⟩ := hd.one
    cases d1 with
    | @dK a kvs _ f h ek r =>
      have hl := congrArg List.length ek
      rw [List.length_map, List.length_map] at hl
      exact .inr ⟨_, _, rfl, h, by rw [hl]; exact k _ H G [] Al.refl ⟨rfl, .int _⟩ (by simp)⟩
  · cases e
@[simp] def D.kind : D → Option String
  | .non => some "NoneType"
  | .bl _ => some "bool"
  | .int _ => some "int"
  | .str _ => some "str"
  | .lst _ => some "list"
  | .tup _ => some "tuple"
  | .dK _ => some "dict"
  | .dT _ => some "dict"
  | _ => none
def kitB (t n : String) : Option Bool := if n ∈ ["int", "str", "bool", "list", "tuple", "dict"] then some (t == n || (t == "bool" && n == "int")) else none
@[simp] def fIsi : List D → Option SV
  | [d, .ty n] => d.kind.bind fun t => (kitB t n).map fun b => .sh (.bl b)
  | _ => none
theorem DA.kind {H : Hp} {G : Addr → Prop} {v : V} {d : D} {t : String} (h : DA B H G v d) (e : d.kind = some t) : TyOf B.K H v (.type t) ∧ t ∈ ["NoneType", "bool", "int", "str", "list", "tuple", "dict"] := by
  cases h with
  | non => cases e; exact ⟨.non, by simp⟩
  | bl b => cases e; exact ⟨.bl b, by simp⟩
  | int i => cases e; exact ⟨.int i, by simp⟩
  | str x => cases e; exact ⟨.str x, by simp⟩
  | lst h r => cases e; exact ⟨.lst h.2, by simp⟩
  | tup h r => cases e; exact ⟨.tup h.2, by simp⟩
  | dK f h _ _ => cases e; exact ⟨.dK h, by simp⟩
  | dT f h _ _ => cases e; exact ⟨.dT h, by simp⟩
  | _ => cases e
theorem kit_eq {K : PySem.W.Frag} {t n : String} {b : Bool} (ht : t ∈ ["NoneType", "bool", "int", "str", "list", "tuple", "dict"]) (e : kitB t n = some b) : PySem.W.kitOne K (.type t) (.type n) = some b := by
  unfold kitB at e
  split at e
  · rename_i hn
    cases e
    simp only [List.mem_cons, List.not_mem_nil, or_false] at ht hn
    rcases ht with rfl | rfl | rfl | rfl | rfl | rfl | rfl <;> rcases hn with rfl | rfl | rfl | rfl | rfl | rfl <;> rfl
  · cases e
theorem c_isi (hK : B.K = K) : CallE B (rIsinst K) fIsi := by
  subst hK
  intro H G vs ds z Q hg hd e k
  unfold fIsi at e
  split at e
  · rename_i d n
    obtain ⟨t, e1, e2⟩ := bind1 e
    rw [Option.map_eq_some_iff] at e2
    obtain ⟨b, e3, rfl⟩ := e2
    obtain ⟨v, w, rfl, d1, d2⟩ := hd.two
    cases d2
    obtain ⟨h1, h2⟩ := d1.kind e1
    exact ⟨v, n, _, b, rfl, h1, kit_eq h2 e3, k _ H G [] Al.refl ⟨rfl, .bl _⟩ (by simp)⟩
  · cases e
end
end L2

set_option Elab.async false
set_option linter.all false
set_option maxRecDepth 100000
set_option maxHeartbeats 4000000
namespace L2
open PySem PySem.Spec PyProof.Rows

/-! ### parts -/
def FO (B : Bk) (t : TO) (m : FSt → Option (Option Int)) : Prop :=
  ∀ (S : FSt) (σ : St) (H : Hp) (F : Addr → Prop) (os : Nat → List Addr) (Q : Option Int → Hp → Prop) (c : Option Int), Rep B H F σ S os → m S = some c →
    (∀ H' F', Al H F H' F' → Rep B H' F' σ S os → Q c H') → t σ H Q
@[simp] def mNo : FSt → Option (Option Int) := fun _ => some none
@[simp] def mAt (m : FSt → Option D) : FSt → Option (Option Int) := fun S => (m S).bind fun d => match d with
  | .int i => some (some i)
  | _ => none
def cutG {α : Type} (xs : List α) (lo hi : Option Int) : List α := (xs.drop (HT.sIx xs.length 0 lo)).take (HT.sIx xs.length xs.length hi - HT.sIx xs.length 0 lo)
@[simp] def oSl : D → Option Int → Option Int → Option SV
  | .lst xs, lo, hi => some (.li (cutG xs lo hi))
  | .fz xs, lo, hi => some (.li (cutG xs lo hi))
  | .str z, lo, hi => if z.length ≤ sizeLine then some (.sh (.str (Txt.slice z lo hi))) else none
  | .tup xs, lo, hi => if HT.sIx xs.length 0 lo = 0 ∧ HT.sIx xs.length xs.length hi = xs.length then none else some (.sh (.tup (cutG xs lo hi)))
  | .kt xs, lo, hi => if HT.sIx xs.length 0 lo = 0 ∧ HT.sIx xs.length xs.length hi = xs.length then none else some (.sh (.tup (cutG xs lo hi)))
  | _, _, _ => none
@[simp] def mSl (a : FSt → Option D) (l h : FSt → Option (Option Int)) : FSt → Option SV := fun S => (a S).bind fun d => (l S).bind fun lo => (h S).bind fun hi => oSl d lo hi
section
variable {B : Bk} {te : TE} {L : List Nat} {md : FSt → Option D} {tl th : TO} {ml mh : FSt → Option (Option Int)} {K : PySem.W.Frag}
theorem fo_none : FO B tNoPart mNo := fun S σ H F os Q c r e k => by cases e; exact k H F Al.refl r
theorem fo_some (h : FD B te L md) : FO B (tPart te) (mAt md) := by
  intro S σ H F os Q c r e k
  obtain ⟨d, e1, e2⟩ := bind1 e
  refine h S σ H F os _ d r e1 fun v H' F' a r' da => ?_
  cases d with
  | int i => cases e2; cases da; exact ⟨_, rfl, k H' F' a r'⟩
  | _ => cases e2
theorem DAs.cut {H : Hp} {F : Addr → Prop} {vs : List V} {ds : List D} (r : DAs B H F vs ds) (lo hi : Option Int) : DAs B H F (cutV vs lo hi) (cutG ds lo hi) := by
  unfold cutV cutG
  rw [r.length]
  exact (r.drop _).take _
theorem fe_sl (hK : B.K = K) (he : FD B te L md) (hl : FO B tl ml) (hh : FO B th mh) : FE B (tSl (rSlE K) te tl th) L (mSl md ml mh) := by
  subst hK
  intro S σ H F os Q z r e k
  obtain ⟨d, e1, e⟩ := bind1 e
  obtain ⟨lo, e2, e⟩ := bind1 e
  obtain ⟨hi, e3, e⟩ := bind1 e
  refine he S σ H F os _ d r e1 fun v H1 F1 a1 r1 d1 => hl S σ H1 F1 os _ lo r1 e2 fun H2 F2 a2 r2 => hh S σ H2 F2 os _ hi r2 e3 fun H3 F3 a3 r3 => ?_
  have d3 : DA B H3 (orF F3 (osL os L)) v d := (d1.later a2 fun _ h => h).later a3 fun _ h => h
  have al := (a1.trans a2).trans a3
  have fin : ∀ v H' G' o, Al H3 (orF F3 (osL os L)) H' G' → VA B H' G' v z o → (∀ a, a ∈ o → H3 a = none) → Q v H' := fun u H4 G4 o a4 va fr => by
    obtain ⟨F4, al4, r4, va2⟩ := ve_split r3 a4 va fr
    refine k u H4 F4 o (al.trans al4) r4 va2 fun b e => ?_
    cases q : H b with
    | none => rfl
    | some w => have := fr b e; rw [al.same b w q] at this; cases this
  have hg := r3.gd L
  unfold oSl at e
  split at e
  · cases e
    cases d3 with
    | lst h q => exact .inr (.inl ⟨_, _, rfl, h.sq, fun p hp => new_li hg hp (q.cut _ _) fin⟩)
  · cases e
    cases d3 with
    | fz h q => exact .inr (.inl ⟨_, _, rfl, h.sq, fun p hp => new_li hg hp (q.cut _ _) fin⟩)
  · split at e
    · cases e; cases d3
      exact .inl ⟨_, rfl, by assumption, fin _ H3 _ [] Al.refl ⟨rfl, .str _⟩ (by simp)⟩
    · cases e
  · split at e
    · cases e
    · rename_i hw
      cases e
      cases d3 with
      | tup h q => exact .inr (.inr ⟨_, _, rfl, h.sq, by rw [q.length]; exact hw, fun p hp => new_tup hp (q.cut _ _) fin⟩)
  · split at e
    · cases e
    · rename_i hw
      cases e
      cases d3 with
      | kt h q => exact .inr (.inr ⟨_, _, rfl, h.sq, by rw [q.length]; exact hw, fun p hp => new_tup hp (q.cut _ _) fin⟩)
  · cases e
end

/-! ### tables -/
def valG {κ α : Type} [DecidableEq κ] (kvs : List (κ × α)) (k : κ) : Option α := (kvs.find? fun kv => decide (kv.1 = k)).map (·.2)
def putG {κ α : Type} [DecidableEq κ] (kvs : List (κ × α)) (k : κ) (v : α) : List (κ × α) :=
  if (kvs.any fun kv => decide (kv.1 = k)) = true then kvs.map (fun kv => if kv.1 = k then (kv.1, v) else kv) else kvs ++ [(k, v)]
section
variable {B : Bk} {H : Hp} {G : Addr → Prop} {κ : Type} [DecidableEq κ]
theorem val_rel {kvs : List (κ × V)} {ds : List (κ × D)} (e : kvs.map (·.1) = ds.map (·.1)) (r : DAs B H G (kvs.map (·.2)) (ds.map (·.2))) (k : κ) :
    (∀ d, valG ds k = some d → ∃ v, valV kvs k = some v ∧ DA B H G v d) ∧ (valG ds k = none → valV kvs k = none) := by
  induction kvs generalizing ds with
  | nil => cases ds with
    | nil => exact ⟨fun d h => (nomatch h), fun _ => rfl⟩
    | cons _ _ => simp at e
  | cons p kvs ih => cases ds with
    | nil => simp at e
    | cons q ds =>
      simp only [List.map_cons, List.cons.injEq] at e r
      cases r with
      | cons h r =>
        have := ih e.2 r
        by_cases c : p.1 = k
        · have c' : q.1 = k := e.1 ▸ c
          have e1 : valG (q :: ds) k = some q.2 := by simp [valG, List.find?_cons, c']
          have e2 : valV (p :: kvs) k = some p.2 := by simp [valV, List.find?_cons, c]
          rw [e1, e2]
          exact ⟨fun d z => by cases z; exact ⟨_, rfl, h⟩, fun z => nomatch z⟩
        · have c' : ¬ q.1 = k := e.1 ▸ c
          have e1 : valG (q :: ds) k = valG ds k := by simp [valG, List.find?_cons, c']
          have e2 : valV (p :: kvs) k = valV kvs k := by simp [valV, List.find?_cons, c]
          rw [e1, e2]; exact this
theorem put_rel {kvs : List (κ × V)} {ds : List (κ × D)} (e : kvs.map (·.1) = ds.map (·.1)) (r : DAs B H G (kvs.map (·.2)) (ds.map (·.2))) {k : κ} {v : V} {d : D} (h : DA B H G v d) :
    (putK kvs k v).map (·.1) = (putG ds k d).map (·.1) ∧ DAs B H G ((putK kvs k v).map (·.2)) ((putG ds k d).map (·.2)) := by
  have ea : (kvs.any fun kv => decide (kv.1 = k)) = (ds.any fun kv => decide (kv.1 = k)) := by
    have : ∀ {α : Type} (l : List (κ × α)), (l.any fun kv => decide (kv.1 = k)) = ((l.map (·.1)).any fun x => decide (x = k)) := fun l => by rw [List.any_map]; rfl
    rw [this, this, e]
  unfold putK putG
  rw [ea]
  split
  · clear ea
    induction kvs generalizing ds with
    | nil => cases ds with
      | nil => exact ⟨rfl, .nil⟩
      | cons _ _ => simp at e
    | cons p kvs ih => cases ds with
      | nil => simp at e
      | cons q ds =>
        simp only [List.map_cons, List.cons.injEq] at e r
        cases r with
        | cons h1 r =>
          have key : (kvs.map (fun kv => if kv.1 = k then (kv.1, v) else kv)).map (·.1) = (ds.map (fun kv => if kv.1 = k then (kv.1, d) else kv)).map (·.1) ∧ DAs B H G ((kvs.map (fun kv => if kv.1 = k then (kv.1, v) else kv)).map (·.2)) ((ds.map (fun kv => if kv.1 = k then (kv.1, d) else kv)).map (·.2)) := by
            have : ∀ (kvs : List (κ × V)) (ds : List (κ × D)), kvs.map (·.1) = ds.map (·.1) → DAs B H G (kvs.map (·.2)) (ds.map (·.2)) → (kvs.map (fun kv => if kv.1 = k then (kv.1, v) else kv)).map (·.1) = (ds.map (fun kv => if kv.1 = k then (kv.1, d) else kv)).map (·.1) ∧ DAs B H G ((kvs.map (fun kv => if kv.1 = k then (kv.1, v) else kv)).map (·.2)) ((ds.map (fun kv => if kv.1 = k then (kv.1, d) else kv)).map (·.2)) := by
              intro kvs
              induction kvs with
              | nil => intro ds e r; cases ds with
                | nil => exact ⟨rfl, .nil⟩
                | cons _ _ => simp at e
              | cons p kvs ih => intro ds e r; cases ds with
                | nil => simp at e
                | cons q ds =>
                  simp only [List.map_cons, List.cons.injEq] at e r
                  cases r with
                  | cons h1 r =>
                    obtain ⟨i1, i2⟩ := ih ds e.2 r
                    by_cases c : p.1 = k
                    · have c' : q.1 = k := e.1 ▸ c
                      simp only [List.map_cons, if_pos c, if_pos c']
                      exact ⟨by rw [i1, e.1], .cons h i2⟩
                    · have c' : ¬ q.1 = k := e.1 ▸ c
                      simp only [List.map_cons, if_neg c, if_neg c']
                      exact ⟨by rw [i1, e.1], .cons h1 i2⟩
            exact this kvs ds e.2 r
          by_cases c : p.1 = k
          · have c' : q.1 = k := e.1 ▸ c
            simp only [List.map_cons, if_pos c, if_pos c']
            exact ⟨by rw [key.1, e.1], .cons h key.2⟩
          · have c' : ¬ q.1 = k := e.1 ▸ c
            simp only [List.map_cons, if_neg c, if_neg c']
            exact ⟨by rw [key.1, e.1], .cons h1 key.2⟩
  · rw [List.map_append, List.map_append, List.map_append, List.map_append, e]
    exact ⟨rfl, r.append (.cons h .nil)⟩
end
@[simp] def asK : D → Option Key
  | .int i => some (.inl i)
  | .str x => some (.inr x)
  | _ => none
@[simp] def asKs : List D → Option (List Key)
  | [] => some []
  | d :: r => (asK d).bind fun k => (asKs r).map fun ks => k :: ks
@[simp] def kD : Key → D
  | .inl i => .int i
  | .inr x => .str x
@[simp] def oGet : D → D → Option D
  | .dK kvs, y => (asK y).bind (valG kvs)
  | .dT kvs, .tup ds => (asKs ds).bind (valG kvs)
  | _, _ => none
def hasB : D → D → Option Bool
  | y, .dK kvs => (asK y).map fun k => (valG kvs k).isSome
  | .tup ds, .dT kvs => (asKs ds).map fun k => (valG kvs k).isSome
  | _, _ => none
section
variable {B : Bk} {H : Hp} {G : Addr → Prop}
theorem asK_v {v : V} {d : D} {k : Key} (h : DA B H G v d) (e : asK d = some k) : v = kV k := by
  cases h with
  | int i => cases e; rfl
  | str x => cases e; rfl
  | _ => cases e
theorem asKs_v : ∀ {vs : List V} {ds : List D} {ks : List Key}, DAs B H G vs ds → asKs ds = some ks → vs = ks.map kV
  | _, _, _, .nil, e => by cases e; rfl
  | _, _, _, .cons h r, e => by
    obtain ⟨k, e1, e2⟩ := bind1 e
    rw [Option.map_eq_some_iff] at e2
    obtain ⟨ks, e3, rfl⟩ := e2
    rw [asK_v h e1, asKs_v r e3]; rfl
theorem kD_da (k : Key) : DA B H G (kV k) (kD k) := by cases k <;> constructor
theorem kDs_da : ∀ ks : List Key, DAs B H G (ks.map kV) (ks.map kD)
  | [] => .nil
  | k :: ks => .cons (kD_da k) (kDs_da ks)
theorem get_core {x y : V} {dx dy z : D} (hx : DA B H G x dx) (hy : DA B H G y dy) (e : oGet dx dy = some z) : ∃ a v, x = .ref a ∧ DGet H a y (some v) ∧ DA B H G v z := by
  unfold oGet at e
  split at e
  · obtain ⟨k, e1, e2⟩ := bind1 e
    cases hx with
    | dK f h ek r =>
      obtain ⟨v, e3, d3⟩ := (val_rel ek r k).1 z e2
      rw [asK_v hy e1]
      exact ⟨_, v, rfl, by rw [← e3]; exact DGet.k h, d3⟩
  · obtain ⟨k, e1, e2⟩ := bind1 e
    cases hx with
    | dT f h ek r =>
      obtain ⟨v, e3, d3⟩ := (val_rel ek r k).1 z e2
      cases hy with
      | tup ht q =>
        have := asKs_v q e1
        subst this
        exact ⟨_, v, rfl, by rw [← e3]; exact DGet.t h ht.2, d3⟩
  · cases e
theorem has_core {x y : V} {dx dy : D} {c : Bool} (hx : DA B H G x dx) (hy : DA B H G y dy) (e : hasB dy dx = some c) : ∃ a o, x = .ref a ∧ DGet H a y o ∧ o.isSome = c := by
  have conv : ∀ {κ : Type} [DecidableEq κ] {kvs : List (κ × V)} {ds : List (κ × D)} (k : κ), kvs.map (·.1) = ds.map (·.1) → DAs B H G (kvs.map (·.2)) (ds.map (·.2)) → (valV kvs k).isSome = (valG ds k).isSome := fun k ek r => by
    cases q : valG _ k with
    | some d => obtain ⟨v, e, _⟩ := (val_rel ek r k).1 d q; rw [e]; rfl
    | none => rw [(val_rel ek r k).2 q]; rfl
  unfold hasB at e
  split at e
  · rw [Option.map_eq_some_iff] at e
    obtain ⟨k, e1, rfl⟩ := e
    cases hx with
    | dK f h ek r =>
      rw [asK_v hy e1]
      exact ⟨_, _, rfl, DGet.k h, conv k ek r⟩
  · rw [Option.map_eq_some_iff] at e
    obtain ⟨k, e1, rfl⟩ := e
    cases hx with
    | dT f h ek r =>
      cases hy with
      | tup ht q =>
        have := asKs_v q e1
        subst this
        exact ⟨_, _, rfl, DGet.t h ht.2, conv k ek r⟩
  · cases e
end
def oHas : D → D → Option D := fun y x => (hasB y x).map fun b => .bl b
def oHasnt : D → D → Option D := fun y x => (hasB y x).map fun b => .bl (!b)
section
variable {B : Bk} {ta tb tv : TE} {La Lb Lv : List Nat} {ma mb mv : FSt → Option D}
theorem fd_get (ha : FD B ta La ma) (hb : FD B tb Lb mb) : FD B (tDGet ta tb) (La ++ Lb) (m2 oGet ma mb) :=
  fd_op (r := fun x y H Q => ∃ a v, x = .ref a ∧ DGet H a y (some v) ∧ Q v H) (fun H G x y dx dy z Q hx hy e k => by
    obtain ⟨a, v, e1, e2, e3⟩ := get_core hx hy e
    exact ⟨a, v, e1, e2, k v H G Al.refl e3⟩) ha hb
theorem fd_has (ha : FD B ta La ma) (hb : FD B tb Lb mb) : FD B (tDIn ta tb) (La ++ Lb) (m2 oHas ma mb) :=
  fd_op (r := fun y x H Q => ∃ a o, x = .ref a ∧ DGet H a y o ∧ Q (.bl o.isSome) H) (fun H G y x dy dx z Q hy hx e k => by
    unfold oHas at e
    rw [Option.map_eq_some_iff] at e
    obtain ⟨c, e1, rfl⟩ := e
    obtain ⟨a, o, e2, e3, e4⟩ := has_core hx hy e1
    exact ⟨a, o, e2, e3, by rw [e4]; exact k _ H G Al.refl (.bl _)⟩) ha hb
theorem fd_hasnt (ha : FD B ta La ma) (hb : FD B tb Lb mb) : FD B (tDNotIn ta tb) (La ++ Lb) (m2 oHasnt ma mb) :=
  fd_op (r := fun y x H Q => ∃ a o, x = .ref a ∧ DGet H a y o ∧ Q (.bl (!o.isSome)) H) (fun H G y x dy dx z Q hy hx e k => by
    unfold oHasnt at e
    rw [Option.map_eq_some_iff] at e
    obtain ⟨c, e1, rfl⟩ := e
    obtain ⟨a, o, e2, e3, e4⟩ := has_core hx hy e1
    exact ⟨a, o, e2, e3, by rw [e4]; exact k _ H G Al.refl (.bl _)⟩) ha hb
@[simp] def mDK : FSt → Option SV := fun _ => some (.dK [])
@[simp] def mDT : FSt → Option SV := fun _ => some (.dT [])
theorem fe_newK : FE B tDNewK [] mDK := by
  intro S σ H F os Q x r e k p hp
  cases e
  have al := al_fresh (F := F) (u := .dK []) hp
  exact k (.ref p) _ F [p] al (r.mono al) ⟨p, [], rfl, rfl, fun z => r.gd [] p z hp, upd_same, rfl, .nil⟩ fun a ha => by rw [List.mem_singleton.mp ha]; exact hp
theorem fe_newT : FE B tDNewT [] mDT := by
  intro S σ H F os Q x r e k p hp
  cases e
  have al := al_fresh (F := F) (u := .dT []) hp
  exact k (.ref p) _ F [p] al (r.mono al) ⟨p, [], rfl, rfl, fun z => r.gd [] p z hp, upd_same, rfl, .nil⟩ fun a ha => by rw [List.mem_singleton.mp ha]; exact hp
/-- d[k] = v, d a slot's own dict -/
@[simp] def putD : SV → D → D → Option SV
  | .dK kvs, y, d => (asK y).bind fun k => if kvs.length < sizeLine then some (.dK (putG kvs k d)) else none
  | .dT kvs, .tup ys, d => (asKs ys).bind fun k => if kvs.length < sizeLine then some (.dT (putG kvs k d)) else none
  | _, _, _ => none
@[simp] def mPut (i : Nat) (L : List Nat) (mk mv : FSt → Option D) : FSt → Fl := fun S => match mv S, mk S with
  | some d, some y => if d.plain = true ∨ L.any (isLk S) = false then
      match (if d.plain = true then S else frzs L S)[i]? with
      | some (some x) => match putD x y d with
        | some x' => .nx ((if d.plain = true then S else frzs L S).set i (some x'))
        | none => .bad
      | _ => .bad
    else .bad
  | _, _ => .bad
theorem putD_ok {H : Hp} {G : Addr → Prop} {v w y : V} {x x' : SV} {dy d : D} {o : List Addr} (va : VA B H G v x o) (hy : DA B H G y dy) (hd : DA B H G w d) (e : putD x dy d = some x') :
    ∃ a u, v = .ref a ∧ o = [a] ∧ DPut H a y w (upd H a u) ∧ VA B (upd H a u) G v x' o ∧ (∀ d', x ≠ .sh d') ∧ isLk [some x] 0 = false := by
  unfold putD at e
  split at e
  · obtain ⟨k, e1, e2⟩ := bind1 e
    split at e2
    · rename_i hl
      cases e2
      obtain ⟨a, vs, rfl, rfl, nf, hh, ek, r⟩ := va
      have hl' : vs.length < sizeLine := by have := congrArg List.length ek; simp at this; omega
      obtain ⟨p1, p2⟩ := put_rel ek r (k := k) hd
      refine ⟨a, .dK (putK vs k w), rfl, rfl, by rw [asK_v hy e1]; exact DPut.k hh hl', ⟨a, _, rfl, rfl, nf, upd_same, p1, p2.mono (fun b u f e => by rw [upd_ne]; exact e; rintro rfl; exact nf f) fun _ f => f⟩, fun _ => by simp, rfl⟩
    · cases e2
  · obtain ⟨k, e1, e2⟩ := bind1 e
    split at e2
    · rename_i hl
      cases e2
      obtain ⟨a, vs, rfl, rfl, nf, hh, ek, r⟩ := va
      have hl' : vs.length < sizeLine := by have := congrArg List.length ek; simp at this; omega
      obtain ⟨p1, p2⟩ := put_rel ek r (k := k) hd
      cases hy with
      | tup ht q =>
        have := asKs_v q e1
        subst this
        refine ⟨a, .dT (putK vs k w), rfl, rfl, DPut.t hh ht.2 hl', ⟨a, _, rfl, rfl, nf, upd_same, p1, p2.mono (fun b u f e => by rw [upd_ne]; exact e; rintro rfl; exact nf f) fun _ f => f⟩, fun _ => by simp, rfl⟩
    · cases e2
  · cases e
theorem asK_plain {d : D} {k : Key} (h : asK d = some k) : d.plain = true := by cases d <;> first | rfl | cases h
theorem asKs_plain : ∀ {ds : List D} {ks : List Key}, asKs ds = some ks → D.plains ds = true
  | [], _, _ => rfl
  | d :: ds, _, h => by
    obtain ⟨k, e1, e2⟩ := bind1 h
    rw [Option.map_eq_some_iff] at e2
    obtain ⟨ks, e3, _⟩ := e2
    simp [D.plains, asK_plain e1, asKs_plain e3]
theorem putD_plain {x x' : SV} {y d : D} (e : putD x y d = some x') : y.plain = true := by
  unfold putD at e
  split at e
  · obtain ⟨k, e1, _⟩ := bind1 e; exact asK_plain e1
  · obtain ⟨k, e1, _⟩ := bind1 e; simpa [D.plain] using asKs_plain e1
  · cases e
theorem fs_put {i : Nat} (hk : FD B tb Lb mb) (hv : FD B tv Lv mv) : FS B (sDPut (tVar i) tb tv) (mPut i Lv mb mv) := by
  intro S σ H F os E r h
  unfold mPut at h
  split at h
  case h_2 => exact h.elim
  case h_1 d y ed ey =>
    split at h
    case isFalse => exact h.elim
    case isTrue c =>
      split at h
      case h_2 => exact h.elim
      case h_1 x hx =>
        split at h
        case h_2 => exact h.elim
        case h_1 x' ex =>
          have hp := putD_plain ex
          refine hv S σ H F os _ d r ed fun w H1 F1 a1 r1 d1 => ?_
          have nsh : ∀ d', x ≠ .sh d' := fun d' z => by subst z; cases ex
          have hS : S[i]? = some (some x) ∧ (d.plain = true ∨ i ∉ Lv) := by
            by_cases p : d.plain = true
            · rw [if_pos p] at hx; exact ⟨hx, .inl p⟩
            · rw [if_neg p, frzs_get] at hx
              by_cases hi : i ∈ Lv
              · rw [if_pos hi] at hx
                cases e : S[i]? with
                | none => rw [e] at hx; cases hx
                | some z => cases z with
                  | none => rw [e] at hx; cases hx
                  | some y => rw [e] at hx; cases hx; exact absurd rfl (nsh _)
              · rw [if_neg hi] at hx; exact ⟨hx, .inr hi⟩
          obtain ⟨v, hσ, _⟩ := r.at' i x hS.1
          refine ⟨v, hσ, hk S σ H1 F1 os _ y r1 ey fun yv H2 F2 a2 r2 d2 => ?_⟩
          have d2' : DA B H2 F2 yv y := d2.toF r2 hp
          have st1 : FStep σ S H F os σ S H2 F2 os := (a1.trans a2).step
          obtain ⟨v', hv', va⟩ := r2.at' i x hS.1
          rw [hσ] at hv'; cases hv'
          by_cases p : d.plain = true
          · rw [if_pos p] at h
            have d1' : DA B H2 F2 w d := (d1.later a2 fun _ h => h).toF r2 p
            obtain ⟨a, u, rfl, eo, dp, va', _, nl⟩ := putD_ok va d2' d1' ex
            have em : a ∈ os i := by rw [eo]; simp
            have nl' : isLk S i = false := by unfold isLk at nl ⊢; rw [hS.1]; exact nl
            exact ⟨a, _, rfl, dp, h σ _ F2 os (st1.trans (write_step em (.inl nl'))) (r2.write em hσ va')⟩
          · rw [if_neg p] at h
            have hi := hS.2.resolve_left p
            have c' := c.resolve_left p
            have r3 := r2.frz Lv
            have va3 : VA B H2 (orF F2 (osL os Lv)) v x (os i) := va.sub (fun b z => .inl z) fun b e z => by
              rcases z with z | ⟨k, hk, z⟩
              · exact (r2.alive e).2 z
              · exact hi (r2.inj i k b e z ▸ hk)
            have d1' : DA B H2 (orF F2 (osL os Lv)) w d := d1.later a2 fun _ h => h
            obtain ⟨a, u, rfl, eo, dp, va', _, nl⟩ := putD_ok va3 (d2'.mono (fun _ _ _ e => e) fun _ z => .inl z) d1' ex
            have eo1 : (fun j => if j ∈ Lv then [] else os j) i = os i := by show (if i ∈ Lv then [] else os i) = _; rw [if_neg hi]
            have em1 : a ∈ (fun j => if j ∈ Lv then [] else os j) i := by rw [eo1, eo]; simp
            have nl1 : isLk (frzs Lv S) i = false := by unfold isLk at nl ⊢; rw [frzs_get, if_neg hi, hS.1]; exact nl
            exact ⟨a, _, rfl, dp, h σ _ _ _ ((st1.trans (frz_step r2 c')).trans (write_step em1 (.inl nl1))) (r3.write em1 hσ (by show VA B _ _ _ _ (if i ∈ Lv then [] else os i); rw [if_neg hi]; exact va'))⟩
end

/-! ### list(..), tuple(..) -/
def rListT : List V → Hp → VK → Prop := fun xs H Q => ∃ a kvs, xs = [V.ref a] ∧ H a = some (.dT kvs) ∧ ∀ l ks, H l = none → Paired (fun (k : List Key) (b : Addr) => H b = some (.tup (k.map kV))) (kvs.map (·.1)) ks → Q (.ref l) (upd H l (.lst (ks.map V.ref)))
theorem call_listT {X : Cx} (hc : X.calm = true) : CallR X (.type "list") rListT := by
  intro pins s σ H xs us Q I r h
  obtain ⟨a, kvs, rfl, ha, q⟩ := h
  obtain ⟨u, rfl, ru⟩ := vals1 r
  cases ru
  obtain ⟨z, hd, ys, rel, o, es, ep, h1, h2, h3, h4, _⟩ := dt_of I.hok ha
  have hl : es.size = kvs.length := by
    have e1 : es.toList.length = ys.length := by rw [h4, List.length_map]
    have e2 : kvs.length = ys.length := Paired.length rel
    rw [Array.length_toList] at e1
    omega
  refine raw_list (I.ok.hd hc) hd ⟨o, h1, h2.1, h3⟩ (by rw [hl]; exact z) fun h' tk acc c' kp e it => ?_
  have eacc : acc.toList = (ys.map (·.2.1)).map Value.ref := by
    refine List.ext_getElem? fun i => ?_
    by_cases hi : i < acc.size
    · obtain ⟨en, e1, e2⟩ := it.2 i acc[i] (by simp [hi])
      have e3 : es.toList[i]? = some en := by simpa using e1
      rw [h4, List.getElem?_map] at e3
      cases qy : ys[i]? with
      | none => rw [qy] at e3; cases e3
      | some y =>
        rw [qy] at e3; cases e3
        have : acc.toList[i]? = some acc[i] := by simp [hi]
        rw [this, e2, List.getElem?_map, List.getElem?_map, qy]; rfl
    · have h5 : ys.length ≤ i := by
        have e1 : es.toList.length = ys.length := by rw [h4, List.length_map]
        rw [Array.length_toList] at e1
        have := it.1
        omega
      rw [List.getElem?_eq_none (by simp; omega), List.getElem?_eq_none (by simp; exact h5)]
  have vals : Vals ((ys.map (·.2.1)).map V.ref) acc.toList := by
    rw [eacc]
    have : ∀ l : List Addr, Vals (l.map V.ref) (l.map Value.ref) := fun l => by
      induction l with
      | nil => exact .nil
      | cons y ys ih => exact .cons rfl ih
    exact this _
  refine ⟨.ref s.heap.objs.size, _, I.laid (t' := tk) kp (Nat.le_refl _) (show ObjOk X.prog X.w _ h' _ (.lst ((ys.map (·.2.1)).map V.ref)) from ⟨?_, acc.toList, c', vals, by simpa using e⟩), rfl, q _ _ (I.hok.fresh (Nat.le_refl _)) ?_⟩
  · have e2 : kvs.length = ys.length := Paired.length rel
    simp; omega
  · have : ∀ {l : List (List Key × V)} {m : List (List Key × Addr × Value)}, KT H l m → Paired (fun (k : List Key) (b : Addr) => H b = some (.tup (k.map kV))) (l.map (·.1)) (m.map (·.2.1)) := fun {l m} rel => by
      unfold KT at rel
      induction rel with
      | nil => exact .nil
      | cons h _ ih =>
        obtain ⟨e1, e2, _⟩ := h
        exact .cons (by exact e2) ih
    exact this rel
def rListF (K : PySem.W.Frag) : List V → Hp → VK → Prop := fun xs H Q => rListOf K xs H Q ∨ rListT xs H Q
theorem call_listF {X : Cx} {K : PySem.W.Frag} (hK : X.K = K) (hc : X.calm = true) : CallR X (.type "list") (rListF K) := (call_listK hK).or (call_listT hc)
@[simp] def fList : List D → Option SV
  | [.lst xs] => some (.li xs)
  | [.fz xs] => some (.li xs)
  | [.tup xs] => some (.li xs)
  | [.kt xs] => some (.li xs)
  | [.dT kvs] => some (.li (kvs.map fun kv => .tup (kv.1.map kD)))
  | _ => none
@[simp] def fTuple : List D → Option SV
  | [.lst xs] => some (.sh (.tup xs))
  | [.fz xs] => some (.sh (.tup xs))
  | [.tup xs] => some (.sh (.tup xs))
  | [.kt xs] => some (.sh (.kt xs))
  | _ => none
section
variable {B : Bk} {K : PySem.W.Frag}
theorem c_list (hK : B.K = K) : CallE B (rListF K) fList := by
  subst hK
  intro H G vs ds z Q hg hd e k
  unfold fList at e
  split at e
  · cases e
    obtain ⟨v, rfl, d1⟩ := hd.one
    cases d1 with
    | lst h r => exact .inl ⟨_, _, rfl, .inl h.sq, fun p hp => new_li hg hp r k⟩
  · cases e
    obtain ⟨v, rfl, d1⟩ := hd.one
    cases d1 with
    | fz h r => exact .inl ⟨_, _, rfl, (.inl h.sq), fun p hp => new_li hg hp r k⟩
  · cases e
    obtain ⟨v, rfl, d1⟩ := hd.one
    cases d1 with
    | tup h r => exact .inl ⟨_, _, rfl, .inr h.sq, fun p hp => new_li hg hp r k⟩
  · cases e
    obtain ⟨v, rfl, d1⟩ := hd.one
    cases d1 with
    | kt h r => exact .inl ⟨_, _, rfl, .inr h.sq, fun p hp => new_li hg hp r k⟩
  · cases e
    obtain ⟨v, rfl, d1⟩ := hd.one
    cases d1 with
    | @dT a kvs _ f h ek r =>
      rename_i es
      refine .inr ⟨_, _, rfl, h, fun l ks hl pk => ?_⟩
      rw [ek] at pk
      let G' : Addr → Prop := fun b => G b ∨ isT H b
      have al : Al H G (upd H l (.lst (ks.map V.ref))) G' := ⟨same_upd hl, fun b z => .inl z, fun b z => by
        rcases z with z | z
        · exact .inl z
        · exact .inr (.inr z)⟩
      have das : DAs B (upd H l (.lst (ks.map V.ref))) G' (ks.map V.ref) (es.map fun kv => .tup (kv.1.map kD)) := by
        have : ∀ {ls : List (List Key)} {bs : List Addr}, Paired (fun (k : List Key) (b : Addr) => H b = some (.tup (k.map kV))) ls bs → DAs B (upd H l (.lst (ks.map V.ref))) G' (bs.map V.ref) (ls.map fun k => .tup (k.map kD)) := by
          intro ls bs p
          induction p with
          | nil => exact .nil
          | cons h _ ih => exact .cons (.tup ⟨.inr ⟨_, h⟩, al.same _ _ h⟩ (kDs_da _)) ih
        have := this pk
        rwa [List.map_map] at this
      have nl : ¬ G' l := fun z => by
        rcases z with z | ⟨ys, z⟩
        · exact hg l z hl
        · rw [hl] at z; cases z
      exact k (.ref l) _ G' [l] al ⟨l, _, rfl, rfl, nl, upd_same, das⟩ fun b hb => by rw [List.mem_singleton.mp hb]; exact hl
  · cases e
theorem c_tuple (hK : B.K = K) : CallE B (rTupOf K) fTuple := by
  subst hK
  intro H G vs ds z Q hg hd e k
  unfold fTuple at e
  split at e
  · cases e
    obtain ⟨v, rfl, d1⟩ := hd.one
    cases d1 with
    | lst h r => exact ⟨_, _, rfl, .inl ⟨h.sq, fun p hp => new_tup hp r k⟩⟩
  · cases e
    obtain ⟨v, rfl, d1⟩ := hd.one
    cases d1 with
    | fz h r => exact ⟨_, _, rfl, .inl ⟨h.sq, fun p hp => new_tup hp r k⟩⟩
  · cases e
    obtain ⟨v, rfl, d1⟩ := hd.one
    cases d1 with
    | tup h r => exact ⟨_, _, rfl, .inr ⟨h.sq, k _ H G [] Al.refl ⟨rfl, .tup h r⟩ (by simp)⟩⟩
  · cases e
    obtain ⟨v, rfl, d1⟩ := hd.one
    cases d1 with
    | kt h r => exact ⟨_, _, rfl, .inr ⟨h.sq, k _ H G [] Al.refl ⟨rfl, .kt h r⟩ (by simp)⟩⟩
  · cases e

/-! ### small built-ins -/
@[simp] def fMax : List D → Option SV
  | [.int i, .int j] => some (.sh (.int (if j > i then j else i)))
  | _ => none
@[simp] def fMin : List D → Option SV
  | [.int i, .int j] => some (.sh (.int (if j < i then j else i)))
  | _ => none
@[simp] def fInt : List D → Option SV
  | [.int i] => some (.sh (.int i))
  | [.bl b] => some (.sh (.int (if b then 1 else 0)))
  | _ => none
theorem c_max : CallE B (fun xs H Q => ∃ i j, xs = [.int i, .int j] ∧ Q (.int (if j > i then j else i)) H) fMax := by
  intro H G vs ds z Q hg hd e k
  unfold fMax at e
  split at e
  · cases e
    obtain ⟨v, w, rfl, d1, d2⟩ := hd.two
    cases d1; cases d2
    exact ⟨_, _, rfl, k _ H G [] Al.refl ⟨rfl, .int _⟩ (by simp)⟩
  · cases e
theorem c_min : CallE B (fun xs H Q => ∃ i j, xs = [.int i, .int j] ∧ Q (.int (if j < i then j else i)) H) fMin := by
  intro H G vs ds z Q hg hd e k
  unfold fMin at e
  split at e
  · cases e
    obtain ⟨v, w, rfl, d1, d2⟩ := hd.two
    cases d1; cases d2
    exact ⟨_, _, rfl, k _ H G [] Al.refl ⟨rfl, .int _⟩ (by simp)⟩
  · cases e
theorem c_int : CallE B (fun xs H Q => (∃ i, xs = [.int i] ∧ Q (.int i) H) ∨ ∃ k, xs = [.bl k] ∧ Q (.int (if k then 1 else 0)) H) fInt := by
  intro H G vs ds z Q hg hd e k
  unfold fInt at e
  split at e
  · cases e
    obtain ⟨v, rfl, d1⟩ := hd.one
    cases d1
    exact .inl ⟨_, rfl, k _ H G [] Al.refl ⟨rfl, .int _⟩ (by simp)⟩
  · cases e
    obtain ⟨v, rfl, d1⟩ := hd.one
    cases d1
    exact .inr ⟨_, rfl, k _ H G [] Al.refl ⟨rfl, .int _⟩ (by simp)⟩
  · cases e
end
end L2

set_option Elab.async false
set_option linter.all false
set_option maxRecDepth 100000
set_option maxHeartbeats 4000000
namespace L2
open PySem PySem.Spec PyProof.Rows
section
variable {B : Bk} {ta tb te : TE} {L L' La Lb : List Nat} {ma mb md : FSt → Option D} {me : FSt → Option SV} {tr : TA} {mr : FSt → Option (List D)} {K : PySem.W.Frag}
theorem FE.wk (h : FE B ta L me) (hl : ∀ i, i ∈ L → i ∈ L') : FE B ta L' me := by
  intro S σ H F os Q x r e k
  refine h S σ H F os Q x r e fun v H' F' o a r' va fr => k v H' F' o a r' (va.sub (orF_sub (fun _ h => h) hl) fun b e q => ?_) fr
  rcases q with q | ⟨i, _, q⟩
  · exact (va.alive e).2.1 (.inl q)
  · exact (r.alive q).1 (fr b e)
theorem FD.wk (h : FD B ta L ma) (hl : ∀ i, i ∈ L → i ∈ L') : FD B ta L' ma := by
  intro S σ H F os Q x r e k
  exact h S σ H F os Q x r e fun v H' F' a r' da => k v H' F' a r' (da.mono (fun _ _ _ e => e) (orF_sub (fun _ h => h) hl))
theorem sub_dec {L L' : List Nat} (h : (L.all fun i => L'.contains i) = true) : ∀ i, i ∈ L → i ∈ L' := fun i hi => by
  have := List.all_eq_true.mp h i hi
  simpa using this
theorem ws_set {i : Nat} (L' : List Nat) (he : FE B te L me) (hl : (L.all fun i => L'.contains i) = true := by rfl) : FS B (tAsg te (gName i)) (mSet i L' me) := fs_set (he.wk (sub_dec hl))
theorem ws_app {i : Nat} (L' : List Nat) (hK : B.K = K) (he : FD B te L md) (hl : (L.all fun i => L'.contains i) = true := by rfl) : FS B (tDrop (tBM K "list" rAppend (tVar i) (tCons te tNil))) (mApp i L' md) := fs_app hK (he.wk (sub_dec hl))
theorem ws_put {i : Nat} (L' : List Nat) (hk : FD B tb Lb mb) (hv : FD B te L md) (hl : (L.all fun i => L'.contains i) = true := by rfl) : FS B (sDPut (tVar i) tb te) (mPut i L' mb md) := fs_put hk (hv.wk (sub_dec hl))
theorem wi_seq (L' : List Nat) (hK : B.K = K) (he : FE B te L me) (hl : (L.all fun i => L'.contains i) = true := by rfl) : FI B (iSeq K te) (mIt L' me) := fi_seq hK (he.wk (sub_dec hl))

/-! ### lists of lists of one's own -/
def FL (B : Bk) (t : TA) (L : List Nat) (m : FSt → Option (List (List D))) : Prop :=
  ∀ (S : FSt) (σ : St) (H : Hp) (F : Addr → Prop) (os : Nat → List Addr) (Q : List V → Hp → Prop) (dss : List (List D)), Rep B H F σ S os → m S = some dss →
    (∀ as H' F', Al H F H' F' → Rep B H' F' σ S os → LAs B H' (orF F' (osL os L)) as dss → as.Nodup → (∀ b, b ∈ as → H b = none ∧ ¬ orF F' (osL os L) b) → Q (as.map V.ref) H') → t σ H Q
@[simp] def asLi : SV → Option (List D)
  | .li xs => some xs
  | _ => none
@[simp] def mLs (a : FSt → Option SV) (r : FSt → Option (List (List D))) : FSt → Option (List (List D)) := fun S => (a S).bind fun x => (asLi x).bind fun xs => (r S).map fun xss => xs :: xss
@[simp] def mLs0 : FSt → Option (List (List D)) := fun _ => some []
@[simp] def mLl (r : FSt → Option (List (List D))) : FSt → Option SV := fun S => (r S).bind fun xss => if xss.length ≤ sizeLine then some (.ll xss) else none
theorem fl_nil : FL B tNil [] mLs0 := by
  intro S σ H F os Q dss r e k
  cases e
  exact k [] H F Al.refl r .nil List.nodup_nil fun b hb => absurd hb (by simp)
theorem fl_cons {ml : FSt → Option (List (List D))} (ha : FE B ta La me) (hr : FL B tr Lb ml) : FL B (tCons ta tr) (La ++ Lb) (mLs me ml) := by
  intro S σ H F os Q dss r e k
  obtain ⟨x, e1, e⟩ := bind1 e
  obtain ⟨xs, e2, e⟩ := bind1 e
  rw [Option.map_eq_some_iff] at e
  obtain ⟨xss, e3, rfl⟩ := e
  cases x with
  | li ys =>
    cases e2
    refine ha S σ H F os _ _ r e1 fun v H1 F1 o a1 r1 va fr => ?_
    obtain ⟨a, vs, rfl, rfl, nf, hh, das⟩ := va
    refine hr S σ H1 F1 os _ xss r1 e3 fun as H2 F2 a2 r2 la nd fr2 => ?_
    have hne : a ∉ as := fun z => by have := (fr2 a z).1; rw [hh] at this; cases this
    have sub1 : ∀ b, orF F1 (osL os La) b → orF F2 (osL os (La ++ Lb)) b := orF_sub a2.up fun i h => List.mem_append_left _ h
    have sub2 : ∀ b, orF F2 (osL os Lb) b → orF F2 (osL os (La ++ Lb)) b := orF_sub (fun _ h => h) fun i h => List.mem_append_right _ h
    have no : ∀ b, H b = none → ¬ F2 b → ¬ orF F2 (osL os (La ++ Lb)) b := fun b hb n z => by
      rcases z with z | ⟨i, _, z⟩
      · exact n z
      · exact (r.alive z).1 hb
    have back : ∀ b, H1 b = none → H b = none := fun b hb => by
      cases q : H b with
      | none => rfl
      | some w => rw [a1.same b w q] at hb; cases hb
    refine k (a :: as) H2 F2 (a1.trans a2) r2 (.cons (a2.same _ _ hh) (das.mono (fun b o _ e => a2.same b o e) sub1) (la.mono (fun _ _ _ e => e) sub2 fun _ _ _ e => e)) (List.nodup_cons.mpr ⟨hne, nd⟩) fun b hb => ?_
    rcases List.mem_cons.mp hb with rfl | hb
    · refine ⟨fr b (by simp), no b (fr b (by simp)) fun z => ?_⟩
      rcases a2.new b z with z | z | ⟨ys, z⟩
      · exact nf (.inl z)
      · rw [hh] at z; cases z.1
      · rw [hh] at z; cases z
    · exact ⟨back b (fr2 b hb).1, no b (back b (fr2 b hb).1) fun z => (fr2 b hb).2 (.inl z)⟩
  | _ => cases e2
theorem fe_ll {ml : FSt → Option (List (List D))} (hr : FL B tr L ml) : FE B (tLst tr) L (mLl ml) := by
  intro S σ H F os Q x r e k
  obtain ⟨xss, e1, e2⟩ := bind1 e
  split at e2
  · rename_i hl
    cases e2
    refine hr S σ H F os _ xss r e1 fun as H1 F1 a1 r1 la nd fr => ⟨by rw [List.length_map, la.length]; exact hl, fun p hp => ?_⟩
    have al := al_fresh (F := F1) (u := .lst (as.map V.ref)) hp
    have hpa : p ∉ as := fun z => by obtain ⟨ys, hy⟩ := la.alive p z; rw [hp] at hy; cases hy
    refine k (.ref p) _ F1 (p :: as) (a1.trans al) (r1.mono al) ⟨p, as, rfl, rfl, List.nodup_cons.mpr ⟨hpa, nd⟩, fun b hb z => ?_, upd_same, la.mono (fun b o _ e => al.same b o e) (fun _ h => h) fun b o _ e => al.same b o e⟩ fun b hb => ?_
    · rcases List.mem_cons.mp hb with rfl | hb
      · exact r1.gd L b z hp
      · exact (fr b hb).2 z
    · rcases List.mem_cons.mp hb with rfl | hb
      · cases q : H b with
        | none => rfl
        | some w => have := a1.same b w q; rw [hp] at this; cases this
      · exact (fr b hb).1
  · cases e2
/-- x[k].append(v): x a slot's own list of own lists -/
@[simp] def mAppAt (i : Nat) (mk md : FSt → Option D) : FSt → Fl := fun S => match S[i]?, mk S, md S with
  | some (some (.ll xss)), some (.int k), some d => if d.plain = true then (match ixN xss.length k with
      | some j => match xss[j]? with
        | some xs => if xs.length < sizeLine then .nx (S.set i (some (.ll (xss.set j (xs ++ [d]))))) else .bad
        | none => .bad
      | none => .bad) else .bad
  | _, _, _ => .bad
theorem LAs.at' {H : Hp} {F : Addr → Prop} : ∀ {as : List Addr} {dss : List (List D)} {j : Nat} {ds : List D}, LAs B H F as dss → dss[j]? = some ds → ∃ a xs, as[j]? = some a ∧ H a = some (.lst xs) ∧ DAs B H F xs ds
  | _, _, _, _, .nil, e => by simp at e
  | _, _, 0, _, .cons h q r, e => by simp at e; subst e; exact ⟨_, _, rfl, h, q⟩
  | _, _, j + 1, _, .cons h q r, e => by simpa using LAs.at' (j := j) r (by simpa using e)
theorem LAs.put {H : Hp} {F : Addr → Prop} {vs : List V} {ds : List D} : ∀ {as : List Addr} {dss : List (List D)} {j : Nat} {a : Addr}, LAs B H F as dss → as.Nodup → as[j]? = some a → (∀ b, F b → b ≠ a) → DAs B (upd H a (.lst vs)) F vs ds → LAs B (upd H a (.lst vs)) F as (dss.set j ds)
  | _, _, _, _, .nil, _, e, _, _ => by simp at e
  | _, _, 0, a, .cons (a := a') h q r, nd, e, nf, hd => by
    simp at e; subst e
    have n := List.nodup_cons.mp nd
    exact .cons upd_same hd (r.mono (fun b o f e => by rw [upd_ne (nf b f)]; exact e) (fun _ f => f) fun b o hb e => by rw [upd_ne]; exact e; rintro rfl; exact n.1 hb)
  | _, _, j + 1, a, .cons (a := a') (as := as0) h q r, nd, e, nf, hd => by
    have n := List.nodup_cons.mp nd
    have e' : as0[j]? = some a := by simpa using e
    have hne : a' ≠ a := by rintro rfl; exact n.1 (List.mem_of_getElem? e')
    simp only [List.set_cons_succ]
    exact .cons (by rw [upd_ne hne]; exact h) (q.mono (fun b o f e => by rw [upd_ne (nf b f)]; exact e) fun _ f => f) (LAs.put r n.2 e' nf hd)
theorem fs_appAt {i : Nat} {tk : TE} {Lk : List Nat} {mk : FSt → Option D} (hK : B.K = K) (hk : FD B tk Lk mk) (he : FD B te L md) : FS B (tDrop (tBM K "list" rAppend (tOp (rIx K) (tVar i) tk) (tCons te tNil))) (mAppAt i mk md) := by
  subst hK
  intro S σ H F os E r h
  unfold mAppAt at h
  split at h
  case h_2 => exact h.elim
  case h_1 xss k d hS ek ed =>
    split at h
    case isFalse => exact h.elim
    case isTrue p =>
      split at h
      case h_2 => exact h.elim
      case h_1 j hj =>
        split at h
        case h_2 => exact h.elim
        case h_1 xs hx =>
          split at h
          case isFalse => exact h.elim
          case isTrue hz =>
            obtain ⟨v, hv, _⟩ := r.at' i _ hS
            refine ⟨v, hv, hk S σ H F os _ _ r ek fun kv H1 F1 a1 r1 dk => ?_⟩
            cases dk
            obtain ⟨v1, hv1, a, as, e1, eo, nd, nf, hh, la⟩ := r1.at' i _ hS
            rw [hv] at hv1; cases hv1; subst e1
            obtain ⟨b, vs, eb, hb, das⟩ := la.at' hx
            have hat : atI (as.map V.ref) k = some (.ref b) := by
              unfold atI
              rw [List.length_map, la.length, hj]
              show (as.map V.ref)[j]? = _
              rw [List.getElem?_map, eb]; rfl
            refine .inl ⟨a, as.map V.ref, k, .ref b, rfl, rfl, .inl (.inl hh), hat, .inl ⟨rfl, vs, .inl (.inl hb)⟩, ?_⟩
            refine he S σ H1 F1 os _ d r1 ed fun w H2 F2 a2 r2 d2 => ?_
            have d2' := d2.toF r2 p
            obtain ⟨v2, hv2, a', as', e2, eo2, nd2, nf2, hh2, la2⟩ := r2.at' i _ hS
            rw [hv] at hv2; cases hv2; cases e2
            have eas : as' = as := by rw [eo] at eo2; exact ((List.cons.inj eo2).2).symm
            subst eas
            obtain ⟨b', vs', eb', hb', das'⟩ := la2.at' hx
            rw [eb] at eb'; cases eb'
            refine ⟨b, vs', w, rfl, rfl, hb', by rw [das'.length]; exact hz, ?_⟩
            have hbm : b ∈ as' := List.mem_of_getElem? eb
            have hbo : b ∈ os i := by rw [eo2]; simp [hbm]
            have hba : b ≠ a := by rintro rfl; exact (List.nodup_cons.mp nd2).1 hbm
            have nfb : ¬ F2 b := nf2 b (by simp [hbm])
            have kp : ∀ c o, F2 c → H2 c = some o → upd H2 b (.lst (vs' ++ [w])) c = some o := fun c o f e => by rw [upd_ne]; exact e; rintro rfl; exact nfb f
            have va : VA B (upd H2 b (.lst (vs' ++ [w]))) F2 (.ref a) (.ll (xss.set j (xs ++ [d]))) (os i) :=
              ⟨a, as', rfl, eo2, nd2, nf2, by rw [upd_ne (Ne.symm hba)]; exact hh2, la2.put (List.nodup_cons.mp nd2).2 eb (fun c f => by rintro rfl; exact nfb f) ((das'.append (.cons d2' .nil)).mono kp fun _ f => f)⟩
            have nl : isLk S i = false := by unfold isLk; rw [hS]; rfl
            exact h σ _ F2 os ((a1.trans a2).step.trans (write_step hbo (.inl nl))) (r2.write hbo hv va)
end

/-! ### more targets -/
@[simp] def mAsg (L : List Nat) (me : FSt → Option SV) (mg : D → FSt → Option FSt) : FSt → Fl := fun S => match me S with
  | some x => if x.plain = true then (match mg x.fr S with | some S' => .nx S' | none => .bad) else if L.any (isLk S) = false then (match mg x.fr (frzs L S) with | some S' => .nx S' | none => .bad) else .bad
  | none => .bad
section
variable {B : Bk} {te : TE} {L : List Nat} {me : FSt → Option SV} {g : TG} {mg : D → FSt → Option FSt}
theorem fs_asg (he : FE B te L me) (hg : FG B g mg) : FS B (tAsg te g) (mAsg L me mg) := by
  intro S σ H F os E r h
  unfold mAsg at h
  cases q : me S with
  | none => rw [q] at h; exact h.elim
  | some x =>
    rw [q] at h
    dsimp only at h
    refine he S σ H F os _ x r q fun v H' F' o a r' va fr => ?_
    have al : ∀ {F0 : Addr → Prop}, Al H F0 H' F' → Al H F0 H' (fun b => F' b ∨ b ∈ o) := fun {F0} a => ⟨a.same, fun b z => .inl (a.up b z), fun b z => by
      rcases z with z | z
      · exact a.new b z
      · exact .inr (.inl ⟨fr b z, (va.alive z).1⟩)⟩
    have r2 := r.mono (al a)
    have st : FStep σ S H F os σ S H' (fun b => F' b ∨ b ∈ o) os := (al a).step
    split at h
    · rename_i p
      have va' := va.toF r' p
      have da : DA B H' (fun b => F' b ∨ b ∈ o) v x.fr := va'.frozen (fun b z => .inl z) fun b z => .inr z
      split at h
      · rename_i S' e
        exact hg S σ H' _ os v x.fr S' _ r2 da e fun σ' os' st2 r3 => h σ' H' _ os' (st.trans st2) r3
      · exact h.elim
    · split at h
      · rename_i nl
        have r3 := r2.frz L
        have da : DA B H' (orF (fun b => F' b ∨ b ∈ o) (osL os L)) v x.fr := va.frozen (fun b z => by
          rcases z with z | z
          · exact .inl (.inl z)
          · exact .inr z) fun b z => .inl (.inr z)
        split at h
        · rename_i S' e
          exact hg _ σ H' _ _ v x.fr S' _ r3 da e fun σ' os' st2 r4 => h σ' H' _ os' ((st.trans (frz_step r2 nl)).trans st2) r4
        · exact h.elim
      · exact h.elim
end
@[simp] def mR1 (mr : FSt → Option (List D)) : FSt → Option (List D) := fun S => (mr S).bind fun ds => if ds.length = 1 then fRng ds else none
@[simp] def mR2 (mr : FSt → Option (List D)) : FSt → Option (List D) := fun S => (mr S).bind fun ds => if ds.length = 2 then fRng ds else none
section
variable {B : Bk} {tr : TA} {L : List Nat} {mr : FSt → Option (List D)}
theorem wi_rng1 (hr : FA B tr L mr) : FI B (iRng1 tr) (mR1 mr) := fi_rng1 hr
theorem wi_rng2 (hr : FA B tr L mr) : FI B (iRng2 tr) (mR2 mr) := fi_rng2 hr
end

/-! ### what a call of a def needs -/
theorem runF_len' {m : FSt → Fl} {n k : Nat} : ∀ ds z, runF m n k ds = some z → ds.length = n := fun _ _ h => runF_len h
theorem Fun.okF {P : Program} {w : World} {K : PySem.W.Frag} {mg : Str → Option Value} {base : Heap} {x qual : Str} {st : Stmt} {f : Addr} {fd : FuncData} {N ps : List Str} {k : Nat} {B : Bk} {m : FSt → Fl} (F : Fun K x qual st f fd) (S : FnScope N ps (defScope st))
    (hbody : ∀ (cdv : Value) (A : Around) (outer : List Env) (s : Shared) (H : Hp) (E : XK), Room k (A.deeper (envOfC qual (defScope st) s.heap.objs.size f cdv)) →
      ∃ t, PSs (cxOf CX0 P w K mg base N qual (defScope st) f cdv A outer s H E).nox (defBody st) t ∧ FS B t m) : FnOk P w K mg base CX0 (k + 1) f fd ps (SpF B ps.length (runF m ps.length N.length)) := by
  obtain ⟨oc, od, kV, doc, pm, an, cdv, ct, osl, rfl, lk, hcd⟩ := F.ex
  refine fn_F lk hcd S fun A outer s H E hr => ?_
  obtain ⟨t, h, q⟩ := hbody cdv A outer s H E hr
  exact ⟨t, h.nox, q⟩
/-- the law's own call -/
def sp_law (K : PySem.W.Frag) : Sp := fun vs H Q _ => ∃ (a : Addr) (ns : List Int), vs = [.ref a] ∧ SqL K H a (ns.map V.int) ∧ Only H ∧ ns.length ≤ 63 ∧ ∀ H', Q (.bl true) H'
theorem ints_da {B : Bk} {H : Hp} {G : Addr → Prop} : ∀ ns : List Int, DAs B H G (ns.map V.int) (ns.map D.int)
  | [] => .nil
  | n :: ns => .cons (.int n) (ints_da ns)
theorem sp_law_of {K : PySem.W.Frag} {B : Bk} {f : List D → Option SV} (hK : B.K = K) (h : ∀ ns : List Int, ns.length ≤ 63 → f [.fz (ns.map D.int)] = some (.sh (.bl true))) : ∀ vs H Q E, sp_law K vs H Q E → SpF B 1 f vs H Q E := by
  subst hK
  rintro vs H Q E ⟨a, ns, rfl, hs, ho, hl, k⟩
  refine ⟨rfl, fun b => H b ≠ none, [.fz (ns.map D.int)], .sh (.bl true), fun _ z => z, .cons (.fz ?_ (ints_da ns)) .nil, h ns hl, fun v H' G' o _ va _ => ?_⟩
  · rcases hs with (hs | ⟨o, hs⟩) | hs
    · rcases ho a with z | ⟨o, xs, z⟩
      · rw [hs] at z; cases z
      · rw [hs] at z; cases z
    · exact .inl ⟨by show H a ≠ none; rw [hs]; simp, o, hs⟩
    · exact .inr hs
  · obtain ⟨_, da⟩ := va
    cases da
    exact k H'
end L2

set_option Elab.async false
set_option linter.all false
set_option maxRecDepth 100000
set_option maxHeartbeats 4000000
namespace My
open PySem L2
/-! ### whole numbers from 0 on, by bits -/
theorem bAnd (a b : Nat) : Builtin.bitAnd (a : Int) (b : Int) = ((a &&& b : Nat) : Int) := by
  simp [Builtin.bitAnd]
theorem bOr (a b : Nat) : Builtin.bitOr (a : Int) (b : Int) = ((a ||| b : Nat) : Int) := by
  have h1 : ¬ (0 : Int) ≤ Builtin.bitNot a := by unfold Builtin.bitNot; omega
  have h2 : ¬ (0 : Int) ≤ Builtin.bitNot b := by unfold Builtin.bitNot; omega
  have e1 : Builtin.bitNot (Builtin.bitNot (a : Int)) = a := by unfold Builtin.bitNot; omega
  have e2 : Builtin.bitNot (Builtin.bitNot (b : Int)) = b := by unfold Builtin.bitNot; omega
  have e3 : ∀ n : Nat, Builtin.bitNot (Builtin.bitNot (n : Int)) = n := fun n => by unfold Builtin.bitNot; omega
  unfold Builtin.bitOr Builtin.bitAnd
  rw [decide_eq_false h1, decide_eq_false h2]
  simp only [e1, e2, e3, Int.toNat_natCast]
theorem int0 (n : Nat) : ((n : Int) == 0) = (n == 0) := by
  rw [Bool.eq_iff_iff]; simp
/-! ### ways -/
abbrev Wy := Nat × Nat
def wD (p : Wy) : D := .tup [.int p.1, .int p.2]
def wP (p : Wy) : PyData := .tuple [.int p.1, .int p.2]
theorem wD_plain (p : Wy) : (wD p).plain = true := rfl
theorem wDs_plain (ws : List Wy) : D.plains (ws.map wD) = true := by
  induction ws with
  | nil => rfl
  | cons w ws ih => simp [D.plains, wD_plain, ih]
theorem wD_dat (p : Wy) : (wD p).dat = some (wP p) := rfl
theorem wD_dats (ws : List Wy) : D.dats (ws.map wD) = some (ws.map wP) := by
  induction ws with
  | nil => rfl
  | cons w ws ih => simp [D.dats, wD_dat, ih]
theorem wP_lay (ws : List Wy) : PyData.canLayAll0 (ws.map wP) = true := by
  induction ws with
  | nil => rfl
  | cons w ws ih => simp [PyData.canLayAll0, PyData.canLay0, wP, ih]
theorem wP_depth (ws : List Wy) : PyData.depthAll (ws.map wP) ≤ 1 := by
  induction ws with
  | nil => simp [PyData.depthAll]
  | cons w ws ih =>
    have : PyData.depth (wP w) = 1 := rfl
    simp only [List.map_cons, PyData.depthAll, this]
    omega
theorem wP_shaped (w : Wy) : SeqAt.shaped (wP w) = true := by simp [SeqAt.shaped, wP, PyData.canLay0, PyData.canLayAll0, PyData.depth, PyData.depthAll]
theorem wPs_shaped (ws : List Wy) : SeqAt.shaped (.list (ws.map wP)) = true := by
  have := wP_depth ws
  simp [SeqAt.shaped, PyData.canLay0, wP_lay, PyData.depth]
  omega
theorem shp_ways (ws : List Wy) : shp (.lst (ws.map wD)) = some (.list (ws.map wP)) := by
  simp [shp, D.dat, wD_dats, wPs_shaped]
theorem shp_way (w : Wy) : shp (wD w) = some (wP w) := by simp [shp, wD_dat, wP_shaped]
theorem eqv_way (a b : Wy) : PyData.eqv (wP a) (wP b) = decide (a = b) := by
  obtain ⟨a1, a2⟩ := a
  obtain ⟨b1, b2⟩ := b
  show ((a1 : Int) == (b1 : Int) && ((a2 : Int) == (b2 : Int) && true)) = _
  rw [Bool.eq_iff_iff]
  simp [beq_iff_eq]
  omega
theorem eqv_ways : ∀ xs ys : List Wy, PyData.eqvAll (xs.map wP) (ys.map wP) = decide (xs = ys)
  | [], [] => by simp [PyData.eqvAll]
  | [], y :: ys => by simp [PyData.eqvAll]
  | x :: xs, [] => by simp [PyData.eqvAll]
  | x :: xs, y :: ys => by
    show (PyData.eqv (wP x) (wP y) && PyData.eqvAll (xs.map wP) (ys.map wP)) = _
    rw [eqv_way, eqv_ways xs ys, Bool.eq_iff_iff]
    simp
theorem ne_ways (xs ys : List Wy) : oNe (.lst (xs.map wD)) (.lst (ys.map wD)) = some (.bl (!decide (xs = ys))) := by
  simp [oNe, shp_ways, PyData.eqv, eqv_ways]
theorem ne_ways0 (xs : List Wy) : oNe (.lst (xs.map wD)) (.lst []) = some (.bl (!decide (xs = []))) := ne_ways xs []
theorem any_ways (w : Wy) (ys : List Wy) : ((ys.map wP).any fun e => PyData.eqv e (wP w)) = decide (w ∈ ys) := by
  induction ys with
  | nil => simp
  | cons y ys ih =>
    simp only [List.map_cons, List.any_cons, ih, eqv_way]
    by_cases h : y = w
    · simp [h]
    · have h' : ¬ w = y := fun z => h z.symm
      simp [h, h']
theorem notIn_ways (w : Wy) (ys : List Wy) : oNotIn (wD w) (.lst (ys.map wD)) = some (.bl (!decide (w ∈ ys))) := by
  have : inB (wD w) (.lst (ys.map wD)) = some (decide (w ∈ ys)) := by
    show (D.dats (ys.map wD)).bind _ = _
    rw [wD_dats]
    simp only [Option.bind_some, shp_way, wPs_shaped, if_true, any_ways]
  simp [oNotIn, this]
/-! ### ways met -/
def jn (a b : Wy) : Wy := (a.1 ||| b.1, a.2 ||| b.2)
def fits (w : Wy) : Bool := (w.1 &&& w.2) == 0
def insW (acc : List Wy) (w : Wy) : List Wy := if w ∈ acc then acc else acc ++ [w]
def stepW (a : Wy) (acc : List Wy) (b : Wy) : List Wy := if fits (jn a b) = true then insW acc (jn a b) else acc
def metW (one other : List Wy) : List Wy := one.foldl (fun acc a => other.foldl (stepW a) acc) []
def keyW (w : Wy) : List Key := [.inl w.1, .inl w.2]
def kvW (acc : List Wy) : List (List Key × D) := acc.map fun w => (keyW w, D.bl true)
theorem keyW_inj {a b : Wy} (h : keyW a = keyW b) : a = b := by
  obtain ⟨a1, a2⟩ := a
  obtain ⟨b1, b2⟩ := b
  simp [keyW] at h
  simp; omega
theorem put_W (acc : List Wy) (w : Wy) : putG (kvW acc) (keyW w) (D.bl true) = kvW (insW acc w) := by
  unfold putG insW
  have hany : ((kvW acc).any fun kv => decide (kv.1 = keyW w)) = decide (w ∈ acc) := by
    unfold kvW
    rw [List.any_map, Bool.eq_iff_iff]
    simp only [List.any_eq_true, Function.comp, decide_eq_true_eq]
    constructor
    · rintro ⟨x, hx, e⟩; rw [← keyW_inj e]; exact hx
    · intro h; exact ⟨w, h, rfl⟩
  rw [hany]
  by_cases h : w ∈ acc
  · rw [if_pos (by simpa using h), if_pos h]
    unfold kvW
    rw [List.map_map]
    refine List.map_congr_left fun x _ => ?_
    simp only [Function.comp]
    split <;> rfl
  · rw [if_neg (by simpa using h), if_neg h]
    simp [kvW]
theorem insW_len (acc : List Wy) (w : Wy) : (insW acc w).length ≤ acc.length + 1 := by
  unfold insW; split <;> simp
theorem stepW_len (a : Wy) (acc : List Wy) (b : Wy) : (stepW a acc b).length ≤ acc.length + 1 := by
  unfold stepW; split
  · exact insW_len _ _
  · omega
theorem fold_len (a : Wy) (bs acc : List Wy) : (bs.foldl (stepW a) acc).length ≤ acc.length + bs.length := by
  induction bs generalizing acc with
  | nil => simp
  | cons b bs ih => have := ih (stepW a acc b); have := stepW_len a acc b; simp only [List.foldl_cons, List.length_cons]; omega
theorem kv_fst (acc : List Wy) : ((kvW acc).map fun kv => D.tup (kv.1.map kD)) = acc.map wD := by
  simp [kvW, keyW, kD, wD]
end My

set_option Elab.async false
set_option linter.all false
set_option maxRecDepth 100000
set_option maxHeartbeats 4000000
namespace My
open PySem L2

noncomputable section
def b_met_ways_0 : FSt → Fl :=
  (mSeq (mSet 7 [3, 4, 5, 6] (mSh (mTup (mCons (m2 oOr (mV 3) (mV 5)) (mCons (m2 oOr (mV 4) (mV 6)) mNil)))))
       (mIf (mTruth (m2 oEq (m2 oAnd (m2 oIx (mV 7) (mC (.int 0))) (m2 oIx (mV 7) (mC (.int 1)))) (mC (.int 0))))
        (mPut 2 [] (mV 7) (mC (.bl true)))
        mPass))
def b_met_ways_1 : FSt → Fl :=
  (mForV 1 (gSq 2 (gCs (gN 5) (gCs (gN 6) gNs)))
      b_met_ways_0)
def m_met_ways : FSt → Fl :=
  (mSeq (mSet 2 [] mDT)
   (mSeq (mForV 0 (gSq 2 (gCs (gN 3) (gCs (gN 4) gNs)))
    b_met_ways_1)
   (mRet (m1 fList (mCons (mV 2) mNil)))))
def f_met_ways : List D → Option SV := runF m_met_ways 2 8
def b_law_due_0 : FSt → Fl :=
  (mSeq (mSet 5 [3, 4] (mSh (mTup (mCons (m2 oOr (m2 oIx (mV 3) (mC (.int 0))) (m2 oIx (mV 4) (mC (.int 0)))) (mCons (m2 oOr (m2 oIx (mV 3) (mC (.int 1))) (m2 oIx (mV 4) (mC (.int 1)))) mNil)))))
       (mIf (mAnd (mTruth (m2 oEq (m2 oAnd (m2 oIx (mV 5) (mC (.int 0))) (m2 oIx (mV 5) (mC (.int 1)))) (mC (.int 0)))) (mTruth (m2 oNotIn (mV 5) (mV 2))))
        (mApp 2 [5] (mV 5))
        mPass))
def b_law_due_1 : FSt → Fl :=
  (mForV 1 (gN 4)
      b_law_due_0)
def m_law_due : FSt → Fl :=
  (mSeq (mSet 2 [] (mLst mNil))
   (mSeq (mForV 0 (gN 3)
    b_law_due_1)
   (mRetV 2)))
def f_law_due : List D → Option SV := runF m_law_due 2 6
def m_law_of : FSt → Fl :=
  (mRet (mSh (mIte (mTruth (m2 oEq (m2 oAnd (mV 0) (m2 oIx (mV 1) (mC (.int 0)))) (m2 oIx (mV 1) (mC (.int 0))))) (m2 oEq (m2 oAnd (mV 0) (m2 oIx (mV 1) (mC (.int 1)))) (mC (.int 0))) (mC (.bl false)))))
def f_law_of : List D → Option SV := runF m_law_of 2 2
def m_law_some : FSt → Fl :=
  (mRet (mSh (m2 oNe (mFr (mComp 1 [0] (mItc (mV 1)) (gN 0) (mTruth (mFr (m1 f_law_of (mCons (mV 1) (mCons (mV 0) mNil))))) (mV 0))) (mFr (mLst mNil)))))
def f_law_some : List D → Option SV := runF m_law_some 2 2
def b_law_met_0 : FSt → Fl :=
  (mIf (mNot (mTruth (mFr (m1 fIsi (mCons (mV 5) (mCons (mC (.ty "tuple")) mNil))))))
      (mRet (mSh (mC (.bl false))))
      mPass)
def b_law_met_1 : FSt → Fl :=
  (mSeq (mSet 8 [2, 7] (mSh (m2 oMod (mFr (m2 oMul (mV 7) (m2 oIx (mFr (mLst (mCons (mC (.int 1)) (mCons (mC (.int 65)) mNil)))) (mFr (m1 fInt (mCons (m2 oEq (mV 2) (mC (.int 12))) mNil)))))) (m2 oShl (mC (.int 1)) (mV 2)))))
     (mIf (mTruth (m2 oNe (mFr (m1 f_law_some (mCons (mV 8) (mCons (mV 6) mNil)))) (mIte (mTruth (mFr (m1 f_law_some (mCons (mV 8) (mCons (mFr (mSl (mV 0) mNo (mAt (mC (.int 6))))) mNil))))) (mFr (m1 f_law_some (mCons (mV 8) (mCons (mFr (mSl (mV 1) mNo (mAt (mC (.int 6))))) mNil)))) (mC (.bl false)))))
      (mRet (mSh (mC (.bl false))))
      mPass))
def m_law_met : FSt → Fl :=
  (mSeq (mSet 3 [0, 1] (mLst (mCons (mFr (m1 fList (mCons (mV 0) mNil))) (mCons (mFr (m1 fList (mCons (mV 1) mNil))) mNil))))
   (mSeq (mSet 4 [3] (m1 f_met_ways (mCons (m2 oIx (mV 3) (mC (.int 0))) (mCons (m2 oIx (mV 3) (mC (.int 1))) mNil))))
   (mSeq (mIf (mOr (mTruth (m2 oNe (mV 3) (mFr (mLst (mCons (mV 0) (mCons (mV 1) mNil)))))) (mOr (mNot (mTruth (mFr (m1 fIsi (mCons (mV 4) (mCons (mC (.ty "list")) mNil)))))) (mTruth (m2 oNe (mV 4) (mFr (m1 f_law_due (mCons (mV 0) (mCons (mV 1) mNil))))))))
    (mRet (mSh (mC (.bl false))))
    mPass)
   (mSeq (mForV 4 (gN 5)
    b_law_met_0)
   (mSeq (mApp 4 [] (mTup (mCons (mC (.int 0)) (mCons (mC (.int 0)) mNil))))
   (mSeq (mIf (mTruth (m2 oNe (mFr (m1 f_met_ways (mCons (mV 0) (mCons (mV 1) mNil)))) (mFr (m1 f_law_due (mCons (mV 0) (mCons (mV 1) mNil))))))
    (mRet (mSh (mC (.bl false))))
    mPass)
   (mSeq (mSet 6 [0, 1] (m1 f_met_ways (mCons (mFr (mSl (mV 0) mNo (mAt (mC (.int 6))))) (mCons (mFr (mSl (mV 1) mNo (mAt (mC (.int 6))))) mNil))))
   (mSeq (mFor (mR1 (mCons (mC (.int 64)) mNil)) (gN 7)
    b_law_met_1)
   (mRet (mSh (mC (.bl true))))))))))))
def f_law_met : List D → Option SV := runF m_law_met 3 9
def m_law_cell_at : FSt → Fl :=
  (mSeq (mIf (mTruth (m2 oLt (mV 1) (mFr (m1 fLen (mCons (mV 0) mNil)))))
    (mRet (mSh (m2 oIx (mV 0) (mV 1))))
    mPass)
   (mRet (mSh (mC (.int 0)))))
def f_law_cell_at : List D → Option SV := runF m_law_cell_at 2 2
def b_law_stream_0 : FSt → Fl :=
  (mSeq (mSet 4 [4, 5] (mSh (m2 oMod (mFr (m2 oAdd (mFr (m2 oAdd (mFr (m2 oAdd (mFr (m2 oMul (mV 4) (mV 4))) (mFr (m2 oMul (mC (.int 48271)) (mV 4))))) (mFr (m2 oMul (mC (.int 7919)) (mV 5))))) (mC (.int 11)))) (mC (.int 2147483647)))))
     (mSeq (mApp 2 [0, 3, 4] (m2 oIx (mFr (mLst (mCons (mV 4) (mCons (m2 oMod (mV 3) (mC (.int 1000003))) mNil)))) (mFr (m1 fInt (mCons (mIte (mTruth (m2 oEq (m2 oMod (mV 0) (mC (.int 2))) (mC (.int 1)))) (m2 oGt (mV 3) (mC (.int 0))) (mC (.bl false))) mNil)))))
     (mSet 3 [3] (mSh (m2 oFdiv (mV 3) (mC (.int 1000003)))))))
def m_law_stream : FSt → Fl :=
  (mSeq (mSet 2 [] (mLst mNil))
   (mSeq (mSet 3 [0] (mSh (m2 oFdiv (mV 0) (mC (.int 2)))))
   (mSeq (mSet 4 [3] (mSh (m2 oMod (mV 3) (mC (.int 2147483647)))))
   (mSeq (mFor (mR1 (mCons (mV 1) mNil)) (gN 5)
    b_law_stream_0)
   (mRetV 2)))))
def f_law_stream : List D → Option SV := runF m_law_stream 2 6
def m_law_way : FSt → Fl :=
  (mSeq (mSet 2 [0, 1] (mSh (m2 oMod (mV 0) (m2 oShl (mC (.int 1)) (mV 1)))))
   (mSeq (mSet 3 [0, 1] (mSh (m2 oMod (m2 oFdiv (mV 0) (m2 oShl (mC (.int 1)) (mV 1))) (m2 oShl (mC (.int 1)) (mV 1)))))
   (mRet (mSh (mTup (mCons (m2 oSub (mV 2) (m2 oAnd (mV 2) (mV 3))) (mCons (mV 3) mNil)))))))
def f_law_way : List D → Option SV := runF m_law_way 2 4
def b_law_0 : FSt → Fl :=
  (mSeq (mSet 4 [0, 3] (mSh (m2 oIx (mFr (m1 f_law_stream (mCons (mFr (m1 f_law_cell_at (mCons (mV 0) (mCons (mV 3) mNil)))) (mCons (mC (.int 2)) mNil)))) (m2 oMod (mV 3) (mC (.int 2))))))
     (mSeq (mAppAt 2 (m2 oMod (mV 4) (mC (.int 2))) (mFr (m1 f_law_way (mCons (m2 oFdiv (mV 4) (mC (.int 2))) (mCons (mV 1) mNil)))))
     (mIf (mAnd (mTruth (m2 oEq (m2 oMod (mV 3) (mC (.int 8))) (mC (.int 0)))) (mNot (mTruth (mFr (m1 f_law_met (mCons (mFr (mSl (m2 oIx (mV 2) (mC (.int 0))) (mAt (m1 oNeg (mC (.int 12)))) mNo)) (mCons (mFr (mSl (m2 oIx (mV 2) (mC (.int 1))) (mAt (m1 oNeg (mC (.int 12)))) mNo)) (mCons (mV 1) mNil))))))))
      (mRet (mSh (mC (.bl false))))
      mPass)))
def b_law_1 : FSt → Fl :=
  (mSeq (mSet 6 [5] (m1 f_law_due (mCons (mV 5) (mCons (mFr (mLst (mCons (mTup (mCons (mC (.int 0)) (mCons (mC (.int 0)) mNil))) mNil))) mNil))))
     (mSeq (mIf (mOr (mTruth (m2 oNe (mFr (m1 f_met_ways (mCons (mV 5) (mCons (mFr (mLst (mCons (mTup (mCons (mC (.int 0)) (mCons (mC (.int 0)) mNil))) mNil))) mNil)))) (mV 6))) (mTruth (m2 oNe (mFr (m1 f_met_ways (mCons (mFr (mLst (mCons (mTup (mCons (mC (.int 0)) (mCons (mC (.int 0)) mNil))) mNil))) (mCons (mV 5) mNil)))) (mV 6))))
      (mRet (mSh (mC (.bl false))))
      mPass)
     (mIf (mOr (mTruth (m2 oNe (mFr (m1 f_met_ways (mCons (mV 5) (mCons (mFr (mLst mNil)) mNil)))) (mFr (mLst mNil)))) (mTruth (m2 oNe (mFr (m1 f_met_ways (mCons (mFr (mLst mNil)) (mCons (mV 5) mNil)))) (mFr (mLst mNil)))))
      (mRet (mSh (mC (.bl false))))
      mPass)))
def m_law : FSt → Fl :=
  (mSeq (mSet 1 [0] (mSh (m2 oIx (mFr (mLst (mCons (mC (.int 6)) (mCons (mC (.int 6)) (mCons (mC (.int 3)) (mCons (mC (.int 12)) mNil)))))) (m2 oMod (mFr (m1 f_law_cell_at (mCons (mV 0) (mCons (mC (.int 0)) mNil)))) (mC (.int 4))))))
   (mSeq (mSet 2 [] (mLl (mLs (mLst mNil) (mLs (mLst mNil) mLs0))))
   (mSeq (mFor (mR2 (mCons (mC (.int 1)) (mCons (mFr (m1 fMax (mCons (mC (.int 4)) (mCons (mFr (m1 fMin (mCons (mFr (m1 fLen (mCons (mV 0) mNil))) (mCons (mC (.int 61)) mNil)))) mNil)))) mNil))) (gN 3)
    b_law_0)
   (mSeq (mForV 2 (gN 5)
    b_law_1)
   (mRet (m1 f_law_met (mCons (mFr (mSl (m2 oIx (mV 2) (mC (.int 0))) mNo (mAt (mC (.int 12))))) (mCons (mFr (mSl (m2 oIx (mV 2) (mC (.int 1))) mNo (mAt (mC (.int 12))))) (mCons (mV 1) mNil)))))))))
def f_law : List D → Option SV := runF m_law 1 7
end
end My

set_option Elab.async false
set_option linter.all false
set_option maxRecDepth 100000
set_option maxHeartbeats 4000000
namespace My
open PySem L2
theorem sl_big : sizeLine = 16777216 := sizeLine_eq
@[simp] theorem ix0 {α : Type} (a b : α) : atI [a, b] 0 = some a := rfl
@[simp] theorem ix1 {α : Type} (a b : α) : atI [a, b] 1 = some b := rfl
/-- oEq of ints -/
theorem eqI (i j : Int) : oEq (.int i) (.int j) = some (.bl (i == j)) := rfl
abbrev sI (i : Int) : Option SV := some (.sh (.int i))
abbrev oD (x : Option D) : Option SV := x.map SV.sh
/-- the inner loop of met_ways -/
theorem inner_met (A0 B0 : Option SV) (a : Wy) : ∀ (bs acc : List Wy) (x5 x6 x7 : Option D), acc.length + bs.length < sizeLine → ∃ y5 y6 y7,
    loopM (gSq 2 (gCs (gN 5) (gCs (gN 6) gNs)))
      b_met_ways_0 (bs.map wD) [A0, B0, some (.dT (kvW acc)), sI a.1, sI a.2, oD x5, oD x6, oD x7] = .nx [A0, B0, some (.dT (kvW (bs.foldl (stepW a) acc))), sI a.1, sI a.2, oD y5, oD y6, oD y7]
  | [], acc, x5, x6, x7, _ => ⟨x5, x6, x7, rfl⟩
  | b :: bs, acc, x5, x6, x7, hl => by
    have hs := stepW_len a acc b
    simp only [List.length_cons] at hl
    obtain ⟨y5, y6, y7, h⟩ := inner_met A0 B0 a bs (stepW a acc b) (some (.int b.1)) (some (.int b.2)) (some (wD (jn a b))) (by omega)
    refine ⟨y5, y6, y7, ?_⟩
    rw [List.foldl_cons, ← h, List.map_cons, loopM]
    have hk : (kvW acc).length < sizeLine := by simp [kvW]; omega
    have hz : (2 : Nat) ≤ sizeLine := by rw [sl_big]; omega
    by_cases c : fits (jn a b) = true
    · have c' : ((Builtin.bitAnd (((jn a b).1 : Nat) : Int) (((jn a b).2 : Nat) : Int)) == 0) = true := by rw [bAnd, int0]; exact c
      have e : stepW a acc b = insW acc (jn a b) := by unfold stepW; rw [if_pos c]
      rw [e, ← put_W]
      have c2 : (Builtin.bitAnd ((a.1 ||| b.1 : Nat) : Int) ((a.2 ||| b.2 : Nat) : Int) == 0) = true := c'
      simp [b_met_ways_0, bOr, eqI, c2, hk, keyW, jn, wD, hz]
    · have c' : ((Builtin.bitAnd (((jn a b).1 : Nat) : Int) (((jn a b).2 : Nat) : Int)) == 0) = false := by rw [bAnd, int0]; simpa [fits] using c
      have e : stepW a acc b = acc := by unfold stepW; rw [if_neg c]
      rw [e]
      have c2 : (Builtin.bitAnd ((a.1 ||| b.1 : Nat) : Int) ((a.2 ||| b.2 : Nat) : Int) == 0) = false := c'
      simp [b_met_ways_0, bOr, eqI, c2, hk, keyW, jn, wD, hz]
theorem outer_met (A0 : Option SV) (bs : List Wy) : ∀ (as acc : List Wy) (x3 x4 x5 x6 x7 : Option D), acc.length + as.length * bs.length < sizeLine → ∃ y3 y4 y5 y6 y7,
    loopM (gSq 2 (gCs (gN 3) (gCs (gN 4) gNs)))
    b_met_ways_1 (as.map wD) [A0, some (.sh (.lst (bs.map wD))), some (.dT (kvW acc)), oD x3, oD x4, oD x5, oD x6, oD x7] =
      .nx [A0, some (.sh (.lst (bs.map wD))), some (.dT (kvW (as.foldl (fun acc a => bs.foldl (stepW a) acc) acc))), oD y3, oD y4, oD y5, oD y6, oD y7]
  | [], acc, x3, x4, x5, x6, x7, _ => ⟨x3, x4, x5, x6, x7, rfl⟩
  | a :: as, acc, x3, x4, x5, x6, x7, hl => by
    have hs := fold_len a bs acc
    simp only [List.length_cons, Nat.add_mul, Nat.one_mul] at hl
    obtain ⟨z5, z6, z7, h1⟩ := inner_met A0 (some (.sh (.lst (bs.map wD)))) a bs acc x5 x6 x7 (by omega)
    obtain ⟨y3, y4, y5, y6, y7, h⟩ := outer_met A0 bs as (bs.foldl (stepW a) acc) (some (.int a.1)) (some (.int a.2)) z5 z6 z7 (by omega)
    refine ⟨y3, y4, y5, y6, y7, ?_⟩
    rw [List.foldl_cons, ← h, List.map_cons, loopM]
    have hg : gSq 2 (gCs (gN 3) (gCs (gN 4) gNs)) (wD a) [A0, some (.sh (.lst (bs.map wD))), some (.dT (kvW acc)), oD x3, oD x4, oD x5, oD x6, oD x7] = some [A0, some (.sh (.lst (bs.map wD))), some (.dT (kvW acc)), sI a.1, sI a.2, oD x5, oD x6, oD x7] := by
      simp [wD]
    rw [hg]
    simp only [b_met_ways_1, mForV, List.getElem?_cons_succ, List.getElem?_cons_zero, itemsD, h1, Option.map_some]
theorem f_met (as bs : List Wy) (hl : as.length * bs.length < sizeLine) : f_met_ways [.lst (as.map wD), .lst (bs.map wD)] = some (.li ((metW as bs).map wD)) := by
  obtain ⟨y3, y4, y5, y6, y7, h⟩ := outer_met (some (.sh (.lst (as.map wD)))) bs as [] none none none none none (by simpa using hl)
  simp only [oD, Option.map_none] at h
  unfold f_met_ways runF m_met_ways
  simp only [kvW, List.map_nil] at h
  simp [h]
  rw [← List.map_map]
  exact kv_fst _

/-! ### what is due -/
theorem inner_due (A0 B0 : Option SV) (a : Wy) : ∀ (bs acc : List Wy) (x4 x5 : Option D), acc.length + bs.length < sizeLine → ∃ y4 y5,
    loopM (gN 4)
      b_law_due_0 (bs.map wD) [A0, B0, some (.li (acc.map wD)), some (.sh (wD a)), oD x4, oD x5] = .nx [A0, B0, some (.li ((bs.foldl (stepW a) acc).map wD)), some (.sh (wD a)), oD y4, oD y5]
  | [], acc, x4, x5, _ => ⟨x4, x5, rfl⟩
  | b :: bs, acc, x4, x5, hl => by
    have hs := stepW_len a acc b
    simp only [List.length_cons] at hl
    obtain ⟨y4, y5, h⟩ := inner_due A0 B0 a bs (stepW a acc b) (some (wD b)) (some (wD (jn a b))) (by omega)
    refine ⟨y4, y5, ?_⟩
    rw [List.foldl_cons, ← h, List.map_cons, loopM]
    have hk : acc.length < sizeLine := by omega
    have hz : (2 : Nat) ≤ sizeLine := by rw [sl_big]; omega
    have hn : oNotIn (D.tup [D.int ((a.1 ||| b.1 : Nat) : Int), D.int ((a.2 ||| b.2 : Nat) : Int)]) (.lst (acc.map wD)) = some (.bl (!decide (jn a b ∈ acc))) := notIn_ways (jn a b) acc
    by_cases c : fits (jn a b) = true
    · have c' : ((Builtin.bitAnd (((jn a b).1 : Nat) : Int) (((jn a b).2 : Nat) : Int)) == 0) = true := by rw [bAnd, int0]; exact c
      have c2 : (Builtin.bitAnd ((a.1 ||| b.1 : Nat) : Int) ((a.2 ||| b.2 : Nat) : Int) == 0) = true := c'
      have e : stepW a acc b = insW acc (jn a b) := by unfold stepW; rw [if_pos c]
      rw [e]
      by_cases m : jn a b ∈ acc
      · have e2 : insW acc (jn a b) = acc := by unfold insW; rw [if_pos m]
        rw [e2]
        rw [decide_eq_true m] at hn
        simp [b_law_due_0, bOr, eqI, c2, jn, wD, hz, hn]
      · have e2 : insW acc (jn a b) = acc ++ [jn a b] := by unfold insW; rw [if_neg m]
        rw [e2]
        rw [decide_eq_false m] at hn
        simp [b_law_due_0, bOr, eqI, c2, jn, wD, hz, hn, hk]
    · have c' : ((Builtin.bitAnd (((jn a b).1 : Nat) : Int) (((jn a b).2 : Nat) : Int)) == 0) = false := by rw [bAnd, int0]; simpa [fits] using c
      have e : stepW a acc b = acc := by unfold stepW; rw [if_neg c]
      rw [e]
      have c2 : (Builtin.bitAnd ((a.1 ||| b.1 : Nat) : Int) ((a.2 ||| b.2 : Nat) : Int) == 0) = false := c'
      simp [b_law_due_0, bOr, eqI, c2, hk, jn, wD, hz]
theorem outer_due (A0 : Option SV) (bs : List Wy) : ∀ (as acc : List Wy) (x3 x4 x5 : Option D), acc.length + as.length * bs.length < sizeLine → ∃ y3 y4 y5,
    loopM (gN 3)
    b_law_due_1 (as.map wD) [A0, some (.sh (.lst (bs.map wD))), some (.li (acc.map wD)), oD x3, oD x4, oD x5] =
      .nx [A0, some (.sh (.lst (bs.map wD))), some (.li ((as.foldl (fun acc a => bs.foldl (stepW a) acc) acc).map wD)), oD y3, oD y4, oD y5]
  | [], acc, x3, x4, x5, _ => ⟨x3, x4, x5, rfl⟩
  | a :: as, acc, x3, x4, x5, hl => by
    have hs := fold_len a bs acc
    simp only [List.length_cons, Nat.add_mul, Nat.one_mul] at hl
    obtain ⟨z4, z5, h1⟩ := inner_due A0 (some (.sh (.lst (bs.map wD)))) a bs acc x4 x5 (by omega)
    obtain ⟨y3, y4, y5, h⟩ := outer_due A0 bs as (bs.foldl (stepW a) acc) (some (wD a)) z4 z5 (by omega)
    refine ⟨y3, y4, y5, ?_⟩
    rw [List.foldl_cons, ← h, List.map_cons, loopM]
    have hg : gN 3 (wD a) [A0, some (.sh (.lst (bs.map wD))), some (.li (acc.map wD)), oD x3, oD x4, oD x5] = some [A0, some (.sh (.lst (bs.map wD))), some (.li (acc.map wD)), some (.sh (wD a)), oD x4, oD x5] := by
      simp
    rw [hg]
    simp only [b_law_due_1, mForV, List.getElem?_cons_succ, List.getElem?_cons_zero, itemsD, h1, Option.map_some]
theorem f_due (as bs : List Wy) (hl : as.length * bs.length < sizeLine) : f_law_due [.lst (as.map wD), .lst (bs.map wD)] = some (.li ((metW as bs).map wD)) := by
  obtain ⟨y3, y4, y5, h⟩ := outer_due (some (.sh (.lst (as.map wD)))) bs as [] none none none (by simpa using hl)
  simp only [oD, Option.map_none, List.map_nil] at h
  unfold f_law_due runF m_law_due
  simp [h]
  rfl
/-! ### states of ways -/
def ofW (s : Nat) (w : Wy) : Bool := (s &&& w.1) == w.1 && (s &&& w.2) == 0
theorem f_of (s : Nat) (w : Wy) : f_law_of [.int s, wD w] = some (.sh (.bl (ofW s w))) := by
  obtain ⟨a, b⟩ := w
  have e : ∀ x y : Nat, ((x : Int) == (y : Int)) = (x == y) := fun x y => by rw [Bool.eq_iff_iff]; simp; omega
  by_cases c : (s &&& a) = a
  · simp [f_law_of, runF, m_law_of, wD, bAnd, eqI, ofW, c, int0, e]
  · simp [f_law_of, runF, m_law_of, wD, bAnd, eqI, ofW, c, e]
theorem comp_some (s : Nat) : ∀ (ws : List Wy) (x : Option D), compM (gN 0) (mTruth (mFr (m1 f_law_of (mCons (mV 1) (mCons (mV 0) mNil))))) (mV 0) (ws.map wD) [oD x, sI s] = some ((ws.filter (ofW s)).map wD)
  | [], _ => rfl
  | w :: ws, x => by
    have ih := comp_some s ws (some (wD w))
    simp only [oD, Option.map_some] at ih
    rw [List.map_cons, compM]
    by_cases c : ofW s w = true
    · simp [f_of, c, ih]
    · simp [f_of, c, ih]
theorem f_some (s : Nat) (ws : List Wy) (hl : ws.length ≤ sizeLine) : f_law_some [.int s, .lst (ws.map wD)] = some (.sh (.bl (ws.any (ofW s)))) := by
  have h := comp_some s ws none
  simp only [oD, Option.map_none] at h
  have h2 : (0 : Nat) ≤ sizeLine := Nat.zero_le _
  simp only [f_law_some, runF, m_law_some, mRet, mSh, m2, mFr, mComp, mItc, mV, mLst, mNil, compS]
  simp [hl, h, ne_ways0]
  rw [Bool.eq_iff_iff]
  simp

/-! ### a state is of a way that was met just where it is of one of each -/
theorem and_sub {s x y : Nat} (h : (s &&& (x ||| y)) = (x ||| y)) : (s &&& x) = x := by
  refine Nat.eq_of_testBit_eq fun i => ?_
  have := congrArg (fun z => z.testBit i) h
  simp only [Nat.testBit_and, Nat.testBit_or] at this ⊢
  revert this
  cases s.testBit i <;> cases x.testBit i <;> cases y.testBit i <;> decide
theorem of_jn (s : Nat) (a b : Wy) : ofW s (jn a b) = (ofW s a && ofW s b) := by
  obtain ⟨a1, a2⟩ := a
  obtain ⟨b1, b2⟩ := b
  simp only [ofW, jn]
  have e1 : ((s &&& (a1 ||| b1)) == (a1 ||| b1)) = (((s &&& a1) == a1) && ((s &&& b1) == b1)) := by
    rw [Bool.eq_iff_iff]
    simp only [beq_iff_eq, Bool.and_eq_true]
    constructor
    · intro h
      exact ⟨and_sub h, and_sub (x := b1) (y := a1) (by rw [Nat.or_comm b1 a1]; exact h)⟩
    · rintro ⟨h1, h2⟩
      rw [Nat.and_or_distrib_left, h1, h2]
  have e2 : ((s &&& (a2 ||| b2)) == 0) = (((s &&& a2) == 0) && ((s &&& b2) == 0)) := by
    rw [Bool.eq_iff_iff]
    simp only [beq_iff_eq, Bool.and_eq_true]
    rw [Nat.and_or_distrib_left]
    constructor
    · intro h
      exact ⟨Nat.or_eq_zero_iff.mp h |>.1, Nat.or_eq_zero_iff.mp h |>.2⟩
    · rintro ⟨h1, h2⟩
      rw [h1, h2]; rfl
  rw [e1, e2]
  cases ((s &&& a1) == a1) <;> cases ((s &&& b1) == b1) <;> cases ((s &&& a2) == 0) <;> cases ((s &&& b2) == 0) <;> rfl
theorem of_fits {s : Nat} {w : Wy} (h : ofW s w = true) : fits w = true := by
  obtain ⟨x, y⟩ := w
  simp only [ofW, Bool.and_eq_true, beq_iff_eq, fits] at h ⊢
  refine Nat.eq_of_testBit_eq fun i => ?_
  have h1 := congrArg (fun z => z.testBit i) h.1
  have h2 := congrArg (fun z => z.testBit i) h.2
  simp only [Nat.testBit_and, Nat.zero_testBit] at h1 h2 ⊢
  cases hs : s.testBit i <;> cases hx : x.testBit i <;> cases hy : y.testBit i <;> simp_all
theorem mem_ins (acc : List Wy) (w v : Wy) : v ∈ insW acc w ↔ v ∈ acc ∨ v = w := by
  unfold insW
  by_cases h : w ∈ acc
  · rw [if_pos h]
    constructor
    · exact fun z => .inl z
    · rintro (z | rfl)
      · exact z
      · exact h
  · rw [if_neg h]; simp
theorem mem_fold (a : Wy) (v : Wy) : ∀ (bs acc : List Wy), v ∈ bs.foldl (stepW a) acc ↔ v ∈ acc ∨ ∃ b ∈ bs, v = jn a b ∧ fits v = true
  | [], acc => by simp
  | b :: bs, acc => by
    rw [List.foldl_cons, mem_fold a v bs]
    unfold stepW
    by_cases c : fits (jn a b) = true
    · rw [if_pos c, mem_ins]
      constructor
      · rintro ((h | rfl) | ⟨x, h1, h2⟩)
        · exact .inl h
        · exact .inr ⟨b, by simp, rfl, c⟩
        · exact .inr ⟨x, by simp [h1], h2⟩
      · rintro (h | ⟨x, h1, h2, h3⟩)
        · exact .inl (.inl h)
        · rcases List.mem_cons.mp h1 with rfl | h1
          · exact .inl (.inr h2)
          · exact .inr ⟨x, h1, h2, h3⟩
    · rw [if_neg c]
      constructor
      · rintro (h | ⟨x, h1, h2⟩)
        · exact .inl h
        · exact .inr ⟨x, by simp [h1], h2⟩
      · rintro (h | ⟨x, h1, h2, h3⟩)
        · exact .inl h
        · rcases List.mem_cons.mp h1 with rfl | h1
          · subst h2; exact absurd h3 c
          · exact .inr ⟨x, h1, h2, h3⟩
theorem mem_met (v : Wy) (bs : List Wy) : ∀ (as acc : List Wy), v ∈ as.foldl (fun acc a => bs.foldl (stepW a) acc) acc ↔ v ∈ acc ∨ ∃ a ∈ as, ∃ b ∈ bs, v = jn a b ∧ fits v = true
  | [], acc => by simp
  | a :: as, acc => by
    rw [List.foldl_cons, mem_met v bs as, mem_fold]
    constructor
    · rintro ((h | ⟨b, h1, h2⟩) | ⟨x, h1, h2⟩)
      · exact .inl h
      · exact .inr ⟨a, by simp, b, h1, h2⟩
      · exact .inr ⟨x, by simp [h1], h2⟩
    · rintro (h | ⟨x, h1, b, h2, h3⟩)
      · exact .inl (.inl h)
      · rcases List.mem_cons.mp h1 with rfl | h1
        · exact .inl (.inr ⟨b, h2, h3⟩)
        · exact .inr ⟨x, h1, b, h2, h3⟩
theorem any_met (s : Nat) (as bs : List Wy) : (metW as bs).any (ofW s) = (as.any (ofW s) && bs.any (ofW s)) := by
  rw [Bool.eq_iff_iff, Bool.and_eq_true, List.any_eq_true, List.any_eq_true, List.any_eq_true]
  constructor
  · rintro ⟨v, h1, h2⟩
    rcases (mem_met v bs as []).mp h1 with h | ⟨a, ha, b, hb, rfl, _⟩
    · simp at h
    · rw [of_jn, Bool.and_eq_true] at h2
      exact ⟨⟨a, ha, h2.1⟩, ⟨b, hb, h2.2⟩⟩
  · rintro ⟨⟨a, ha, h1⟩, ⟨b, hb, h2⟩⟩
    have h3 : ofW s (jn a b) = true := by rw [of_jn, h1, h2]; rfl
    exact ⟨jn a b, (mem_met _ bs as []).mpr (.inr ⟨a, ha, b, hb, rfl, of_fits h3⟩), h3⟩
theorem met_len (as bs : List Wy) : (metW as bs).length ≤ as.length * bs.length := by
  have : ∀ (as acc : List Wy), (as.foldl (fun acc a => bs.foldl (stepW a) acc) acc).length ≤ acc.length + as.length * bs.length := by
    intro as
    induction as with
    | nil => intro acc; simp
    | cons a as ih =>
      intro acc
      have h1 := ih (bs.foldl (stepW a) acc)
      have h2 := fold_len a bs acc
      simp only [List.foldl_cons, List.length_cons, Nat.add_mul, Nat.one_mul]
      omega
  have := this as []
  rw [List.length_nil, Nat.zero_add] at this
  exact this
/-- with [(0, 0)] on either side -/
theorem jn_0 (a : Wy) : jn a (0, 0) = a := by simp [jn]
theorem jn_0' (a : Wy) : jn (0, 0) a = a := by simp [jn]
theorem met_comm0 (xs : List Wy) : metW [(0, 0)] xs = metW xs [(0, 0)] := by
  unfold metW
  have : ∀ acc, xs.foldl (stepW (0, 0)) acc = xs.foldl (fun acc a => [(0, 0)].foldl (stepW a) acc) acc := by
    induction xs with
    | nil => intro acc; rfl
    | cons x xs ih =>
      intro acc
      simp only [List.foldl_cons, List.foldl_nil] at ih ⊢
      rw [ih]
      simp only [stepW, jn_0, jn_0']
  exact this []
theorem met_nil (xs : List Wy) : metW xs [] = [] := by
  unfold metW
  induction xs with
  | nil => rfl
  | cons x xs ih => simpa using ih
theorem met_nil' (xs : List Wy) : metW [] xs = [] := rfl
/-! ### the drawn ways -/
theorem f_cell (ns : List Int) (k : Nat) : ∃ v, f_law_cell_at [.fz (ns.map D.int), .int k] = some (.sh (.int v)) := by
  by_cases h : (k : Int) < ns.length
  · have hk : k < ns.length := by omega
    refine ⟨ns[k], ?_⟩
    have : atI (ns.map D.int) (k : Int) = some (.int ns[k]) := by
      simp [atI, ixN, hk]
    simp [f_law_cell_at, runF, m_law_cell_at, h, this]
  · exact ⟨0, by simp [f_law_cell_at, runF, m_law_cell_at, h]⟩
theorem f_way (m : Int) (n : Nat) (hn : n ≤ 12) : ∃ w, f_law_way [.int m, .int n] = some (.sh (wD w)) := by
  have hp : CPow 1 (n : Int) := ⟨by omega, by omega, by decide⟩
  have h2 : (0 : Int) < 2 ^ n := Int.pow_pos (by omega)
  have h3 : (2 : Int) ^ n < 1606938044258990275541962092341162602522202993782792835301376 := by
    have : ∀ n, n ≤ 12 → (2 : Int) ^ n < 1606938044258990275541962092341162602522202993782792835301376 := by decide
    exact this n hn
  obtain ⟨a, ha⟩ := Int.eq_ofNat_of_zero_le (Int.emod_nonneg m (Int.ne_of_gt h2))
  obtain ⟨b, hb⟩ := Int.eq_ofNat_of_zero_le (Int.emod_nonneg (m / 2 ^ n) (Int.ne_of_gt h2))
  refine ⟨(a - (a &&& b), b), ?_⟩
  have hz : (2 : Nat) ≤ sizeLine := by rw [sl_big]; omega
  have hs : ((a : Int) - ((a &&& b : Nat) : Int)) = ((a - (a &&& b) : Nat) : Int) := by
    have : (a &&& b) ≤ a := Nat.and_le_left
    omega
  simp [f_law_way, runF, m_law_way, hp, h2, h3, ha, hb, bAnd, hz, wD, hs]

theorem stream_step (c left num k : Int) (xs : List D) (x5 : Option D) (hx : xs.length < sizeLine) (h0 : 0 ≤ num) (h1 : num < 2147483647) (k0 : 0 ≤ k) (k1 : k < 100) : ∃ v num', 0 ≤ num' ∧ num' < 2147483647 ∧
    b_law_stream_0 [sI c, sI 2, some (.li xs), sI left, sI num, sI k] = .nx [sI c, sI 2, some (.li (xs ++ [.int v])), sI (left / 1000003), sI num', sI k] := by
  have c1 : CMul num num := .inl ⟨by omega, by omega⟩
  have c2 : CMul 48271 num := .inl ⟨by omega, by omega⟩
  have c3 : CMul 7919 k := .inl ⟨by omega, by omega⟩
  have hz : (2 : Nat) ≤ sizeLine := by rw [sl_big]; omega
  have n0 : 0 ≤ (num * num + 48271 * num + 7919 * k + 11) % 2147483647 := Int.emod_nonneg _ (by omega)
  have n1 : (num * num + 48271 * num + 7919 * k + 11) % 2147483647 < 2147483647 := Int.emod_lt_of_pos _ (by omega)
  by_cases d : (c % 2 == 1) = true
  · by_cases e : 0 < left
    · exact ⟨left % 1000003, _, n0, n1, by simp [b_law_stream_0, c1, c2, c3, eqI, d, e, hz, hx]⟩
    · exact ⟨(num * num + 48271 * num + 7919 * k + 11) % 2147483647, _, n0, n1, by simp [b_law_stream_0, c1, c2, c3, eqI, d, e, hz, hx]⟩
  · exact ⟨(num * num + 48271 * num + 7919 * k + 11) % 2147483647, _, n0, n1, by simp [b_law_stream_0, c1, c2, c3, eqI, d, hz, hx]⟩
theorem f_stream (c : Int) : ∃ a b, f_law_stream [.int c, .int 2] = some (.li [.int a, .int b]) := by
  have hz : (2 : Nat) < sizeLine := by rw [sl_big]; omega
  obtain ⟨v1, n1, a1, b1, h1⟩ := stream_step c (c / 2) (c / 2 % 2147483647) 0 [] none (by simp; omega) (Int.emod_nonneg _ (by omega)) (Int.emod_lt_of_pos _ (by omega)) (by omega) (by omega)
  obtain ⟨v2, n2, a2, b2, h2⟩ := stream_step c (c / 2 / 1000003) n1 1 [.int v1] none (by simp; omega) a1 b1 (by omega) (by omega)
  refine ⟨v1, v2, ?_⟩
  have hr : fRng [.int 2] = some [.int 0, .int 1] := rfl
  simp only [List.nil_append, List.cons_append] at h1 h2
  simp [f_law_stream, runF, m_law_stream, hr, loopM, h1, h2]

/-! ### the law's own checks -/
theorem cut_map {α β : Type} (f : α → β) (xs : List α) (lo hi : Option Int) : cutG (xs.map f) lo hi = (cutG xs lo hi).map f := by
  simp [cutG]
theorem cut_len {α : Type} (xs : List α) (lo hi : Option Int) : (cutG xs lo hi).length ≤ xs.length := by
  simp [cutG]; omega
theorem ne_pair (as bs : List Wy) : oNe (.lst [.lst (as.map wD), .lst (bs.map wD)]) (.lst [.lst (as.map wD), .lst (bs.map wD)]) = some (.bl false) := by
  have hd : shp (.lst [.lst (as.map wD), .lst (bs.map wD)]) = some (.list [.list (as.map wP), .list (bs.map wP)]) := by
    have h1 := wP_depth as
    have h2 := wP_depth bs
    have hs : SeqAt.shaped (.list [.list (as.map wP), .list (bs.map wP)]) = true := by
      simp [SeqAt.shaped, PyData.canLay0, PyData.canLayAll0, wP_lay, PyData.depth, PyData.depthAll]
      omega
    simp [shp, D.dat, D.dats, wD_dats, hs]
  have he : PyData.eqv (.list [.list (as.map wP), .list (bs.map wP)]) (.list [.list (as.map wP), .list (bs.map wP)]) = true := by
    show (PyData.eqvAll (as.map wP) (as.map wP) && (PyData.eqvAll (bs.map wP) (bs.map wP) && true)) = true
    simp [eqv_ways]
  simp [oNe, hd, he]
@[simp] theorem kit_ll : kitB "list" "list" = some true := rfl
@[simp] theorem kit_tt : kitB "tuple" "tuple" = some true := rfl
theorem loop_tup (s0 s1 s2 s3 s4 s6 s7 s8 : Option SV) : ∀ (ws : List Wy) (x : Option D), ∃ y, loopM (gN 5) b_law_met_0 (ws.map wD) [s0, s1, s2, s3, s4, oD x, s6, s7, s8] = .nx [s0, s1, s2, s3, s4, oD y, s6, s7, s8]
  | [], x => ⟨x, rfl⟩
  | w :: ws, x => by
    obtain ⟨y, h⟩ := loop_tup s0 s1 s2 s3 s4 s6 s7 s8 ws (some (wD w))
    refine ⟨y, ?_⟩
    rw [← h, List.map_cons, loopM]
    simp [b_law_met_0, wD]
theorem bits_mod (x n : Nat) (c : Int) (hc : 0 ≤ c) : ∃ p : Nat, ((x : Int) * c) % 2 ^ n = p := by
  have h2 : (0 : Int) < 2 ^ n := Int.pow_pos (by omega)
  obtain ⟨p, hp⟩ := Int.eq_ofNat_of_zero_le (Int.emod_nonneg ((x : Int) * c) (Int.ne_of_gt h2))
  exact ⟨p, hp⟩
theorem nb (a b : Bool) : oNe (.bl a) (.bl b) = some (.bl (!(a == b))) := rfl
theorem m2_of {α : Type} {f : D → D → Option α} {a b : FSt → Option D} {S : FSt} {x y : D} (ha : a S = some x) (hb : b S = some y) : m2 f a b S = f x y := by unfold m2; rw [ha, hb]; rfl
theorem mFr_of {m : FSt → Option SV} {S : FSt} {x : SV} (h : m S = some x) : mFr m S = some x.fr := by unfold mFr; rw [h]; rfl
theorem mSh_of {m : FSt → Option D} {S : FSt} {x : D} (h : m S = some x) : mSh m S = some (.sh x) := by unfold mSh; rw [h]; rfl
theorem pl_b (n : Nat) (hn : n ≤ 12) (S : FSt) (e2 : S[2]? = some (sI n)) : m2 oShl (mC (.int 1)) (mV 2) S = some (.int (2 ^ n)) := by
  have hp : CPow 1 (n : Int) := ⟨by omega, by omega, by decide⟩
  simp [e2, hp]
theorem pl_a (n : Nat) (S : FSt) (e2 : S[2]? = some (sI n)) : ∃ m : Int, (m = 1 ∨ m = 65) ∧ m2 oIx (mFr (mLst (mCons (mC (.int 1)) (mCons (mC (.int 65)) mNil)))) (mFr (m1 fInt (mCons (m2 oEq (mV 2) (mC (.int 12))) mNil))) S = some (.int m) := by
  have hz : (2 : Nat) ≤ sizeLine := by rw [sl_big]; omega
  by_cases c : ((n : Int) == 12) = true
  · exact ⟨65, .inr rfl, by simp [e2, eqI, c, hz]⟩
  · exact ⟨1, .inl rfl, by simp [e2, eqI, c, hz]⟩
theorem place_at (n k : Nat) (hn : n ≤ 12) (hk : k < 64) (S : FSt) (e2 : S[2]? = some (sI n)) (e7 : S[7]? = some (sI k)) : ∃ p : Nat,
    mSh (m2 oMod (mFr (m2 oMul (mV 7) (m2 oIx (mFr (mLst (mCons (mC (.int 1)) (mCons (mC (.int 65)) mNil)))) (mFr (m1 fInt (mCons (m2 oEq (mV 2) (mC (.int 12))) mNil)))))) (m2 oShl (mC (.int 1)) (mV 2))) S = some (.sh (.int p)) := by
  obtain ⟨m, hm, e⟩ := pl_a n S e2
  have h2 : (0 : Int) < 2 ^ n := Int.pow_pos (by omega)
  have cm : CMul (k : Int) m := .inl ⟨by omega, by omega⟩
  obtain ⟨p, ep⟩ := bits_mod k n m (by omega)
  have h7 : mV 7 S = some (.int k) := by unfold mV; rw [e7]; rfl
  have e3 : m2 oMul (mV 7) (m2 oIx (mFr (mLst (mCons (mC (.int 1)) (mCons (mC (.int 65)) mNil)))) (mFr (m1 fInt (mCons (m2 oEq (mV 2) (mC (.int 12))) mNil)))) S = some (.sh (.int (k * m))) := by
    rw [m2_of h7 e, oMul, if_pos cm]
  refine ⟨p, mSh_of ?_⟩
  rw [m2_of (mFr_of e3) (pl_b n hn S e2)]
  show (if (0 : Int) < 2 ^ n then some (D.int (k * m % 2 ^ n)) else none) = _
  rw [if_pos h2, ep]
theorem test_at (as bs ws : List Wy) (p : Nat) (S : FSt) (e0 : S[0]? = some (some (.sh (.lst (as.map wD))))) (e1 : S[1]? = some (some (.sh (.lst (bs.map wD))))) (e6 : S[6]? = some (some (.li (ws.map wD)))) (e8 : S[8]? = some (sI p))
    (g1 : f_law_some [.int p, .lst (ws.map wD)] = some (.sh (.bl ((cutG as none (some 6)).any (ofW p) && (cutG bs none (some 6)).any (ofW p)))))
    (g2 : f_law_some [.int p, .lst ((cutG as none (some 6)).map wD)] = some (.sh (.bl ((cutG as none (some 6)).any (ofW p)))))
    (g3 : f_law_some [.int p, .lst ((cutG bs none (some 6)).map wD)] = some (.sh (.bl ((cutG bs none (some 6)).any (ofW p))))) :
    mTruth (m2 oNe (mFr (m1 f_law_some (mCons (mV 8) (mCons (mV 6) mNil)))) (mIte (mTruth (mFr (m1 f_law_some (mCons (mV 8) (mCons (mFr (mSl (mV 0) mNo (mAt (mC (.int 6))))) mNil))))) (mFr (m1 f_law_some (mCons (mV 8) (mCons (mFr (mSl (mV 1) mNo (mAt (mC (.int 6))))) mNil)))) (mC (.bl false)))) S = some false := by
  cases q : (cutG as none (some 6)).any (ofW p)
  · rw [q] at g1 g2
    simp [e0, e1, e6, e8, g1, g2, g3, cut_map, nb]
  · rw [q] at g1 g2
    simp [e0, e1, e6, e8, g1, g2, g3, cut_map, nb]
theorem state_step (as bs : List Wy) (n : Nat) (hn : n ≤ 12) (s3 s4 s5 : Option SV) (x8 : Option D) (k : Nat) (hk : k < 64) (ha : as.length * bs.length ≤ sizeLine) (hA : as.length ≤ sizeLine) (hB : bs.length ≤ sizeLine) : ∃ y8,
    b_law_met_1 [some (.sh (.lst (as.map wD))), some (.sh (.lst (bs.map wD))), sI n, s3, s4, s5, some (.li ((metW (cutG as none (some 6)) (cutG bs none (some 6))).map wD)), sI k, oD x8] =
      .nx [some (.sh (.lst (as.map wD))), some (.sh (.lst (bs.map wD))), sI n, s3, s4, s5, some (.li ((metW (cutG as none (some 6)) (cutG bs none (some 6))).map wD)), sI k, oD y8] := by
  have l1 := cut_len as none (some 6)
  have l2 := cut_len bs none (some 6)
  have l3 := met_len (cutG as none (some 6)) (cutG bs none (some 6))
  have l4 : (cutG as none (some 6)).length * (cutG bs none (some 6)).length ≤ as.length * bs.length := Nat.mul_le_mul l1 l2
  obtain ⟨p, e⟩ := place_at n k hn hk [some (.sh (.lst (as.map wD))), some (.sh (.lst (bs.map wD))), sI n, s3, s4, s5, some (.li ((metW (cutG as none (some 6)) (cutG bs none (some 6))).map wD)), sI k, oD x8] rfl rfl
  have t := test_at as bs (metW (cutG as none (some 6)) (cutG bs none (some 6))) p [some (.sh (.lst (as.map wD))), some (.sh (.lst (bs.map wD))), sI n, s3, s4, s5, some (.li ((metW (cutG as none (some 6)) (cutG bs none (some 6))).map wD)), sI k, sI p] rfl rfl rfl rfl
    (by rw [f_some p _ (by omega), any_met]) (f_some p _ (by omega)) (f_some p _ (by omega))
  refine ⟨some (.int p), ?_⟩
  unfold b_law_met_1
  rw [mSeq, mSet, e]
  simp only [put, isLk, List.getElem?_cons_succ, List.getElem?_cons_zero, Option.join_some, lkO_map, SV.plain, D.plain, List.length_cons, List.length_nil, true_or, and_true, if_true, List.set_cons_succ, List.set_cons_zero]
  rw [if_pos (by omega)]
  unfold mIf
  dsimp only
  rw [t]
  rfl
end My

set_option Elab.async false
set_option linter.all false
set_option maxRecDepth 100000
set_option maxHeartbeats 4000000
namespace My
open PySem L2
theorem states_loop (as bs : List Wy) (n : Nat) (hn : n ≤ 12) (s3 s4 s5 : Option SV) (ha : as.length * bs.length ≤ sizeLine) (hA : as.length ≤ sizeLine) (hB : bs.length ≤ sizeLine) : ∀ (ks : List Nat) (x7 x8 : Option D), (∀ k ∈ ks, k < 64) → ∃ y7 y8,
    loopM (gN 7) b_law_met_1 (ks.map fun k : Nat => .int k) [some (.sh (.lst (as.map wD))), some (.sh (.lst (bs.map wD))), sI n, s3, s4, s5, some (.li ((metW (cutG as none (some 6)) (cutG bs none (some 6))).map wD)), oD x7, oD x8] =
      .nx [some (.sh (.lst (as.map wD))), some (.sh (.lst (bs.map wD))), sI n, s3, s4, s5, some (.li ((metW (cutG as none (some 6)) (cutG bs none (some 6))).map wD)), oD y7, oD y8]
  | [], x7, x8, _ => ⟨x7, x8, rfl⟩
  | k :: ks, x7, x8, h => by
    obtain ⟨z8, h1⟩ := state_step as bs n hn s3 s4 s5 x8 k (h k (by simp)) ha hA hB
    obtain ⟨y7, y8, h2⟩ := states_loop as bs n hn s3 s4 s5 ha hA hB ks (some (.int k)) z8 fun x hx => h x (by simp [hx])
    refine ⟨y7, y8, ?_⟩
    rw [← h2, List.map_cons, loopM]
    simp [h1]
theorem rng_nat (n : Nat) : rngD 0 n = (List.range n).map fun k : Nat => D.int k := by
  unfold rngD
  refine List.map_congr_left fun k _ => ?_
  simp
theorem f_lmet (as bs : List Wy) (n : Nat) (hn : n ≤ 12) (hA : as.length ≤ 63) (hB : bs.length ≤ 63) : f_law_met [.lst (as.map wD), .lst (bs.map wD), .int n] = some (.sh (.bl true)) := by
  have hm : as.length * bs.length ≤ 63 * 63 := Nat.mul_le_mul hA hB
  have hz : (2 : Nat) ≤ sizeLine := by rw [sl_big]; omega
  have hl : as.length * bs.length < sizeLine := by rw [sl_big]; omega
  have l1 := cut_len as none (some 6)
  have l2 := cut_len bs none (some 6)
  have l3 := met_len as bs
  have l4 : (cutG as none (some 6)).length * (cutG bs none (some 6)).length ≤ as.length * bs.length := Nat.mul_le_mul l1 l2
  have g1 := f_met as bs hl
  have g2 := f_due as bs hl
  have g3 := f_met (cutG as none (some 6)) (cutG bs none (some 6)) (by omega)
  have hw : (metW as bs).length < sizeLine := by omega
  obtain ⟨y5, g4⟩ := loop_tup (some (.sh (.lst (as.map wD)))) (some (.sh (.lst (bs.map wD)))) (sI n) (some (.li [.lst (as.map wD), .lst (bs.map wD)])) (some (.lk ((metW as bs).map wD))) none none none (metW as bs) none
  simp only [oD, Option.map_none] at g4
  obtain ⟨y7, y8, g5⟩ := states_loop as bs n hn (some (.li [.lst (as.map wD), .lst (bs.map wD)])) (some (.li ((metW as bs).map wD ++ [.tup [.int 0, .int 0]]))) (oD y5) (by omega) (by rw [sl_big]; omega) (by rw [sl_big]; omega) (List.range 64) none none (fun k hk => List.mem_range.mp hk)
  simp only [oD, Option.map_none, ← rng_nat] at g5
  have hr : fRng [.int 64] = some (rngD 0 64) := rfl
  simp [f_law_met, runF, m_law_met, g1, g2, ne_pair, ne_ways, wDs_plain, g4, hw, hz, cut_map, g3, hr, g5]
end My

set_option Elab.async false
set_option linter.all false
set_option maxRecDepth 100000
set_option maxHeartbeats 4000000
namespace My
open PySem L2
theorem bits_at (v : Int) : ∃ n : Nat, n ≤ 12 ∧ atI [D.int 6, D.int 6, D.int 3, D.int 12] (v % 4) = some (.int n) := by
  have h0 : 0 ≤ v % 4 := Int.emod_nonneg _ (by omega)
  have h1 : v % 4 < 4 := Int.emod_lt_of_pos _ (by omega)
  have : v % 4 = 0 ∨ v % 4 = 1 ∨ v % 4 = 2 ∨ v % 4 = 3 := by omega
  rcases this with h | h | h | h <;> rw [h]
  · exact ⟨6, by omega, rfl⟩
  · exact ⟨6, by omega, rfl⟩
  · exact ⟨3, by omega, rfl⟩
  · exact ⟨12, by omega, rfl⟩
theorem two_at (a b : Int) (v : Int) : ∃ x, atI [D.int a, D.int b] (v % 2) = some (.int x) := by
  have : v % 2 = 0 ∨ v % 2 = 1 := by omega
  rcases this with h | h <;> rw [h]
  · exact ⟨a, rfl⟩
  · exact ⟨b, rfl⟩
theorem eqII (i j : Int) : oEq (.int i) (.int j) = some (.bl (i == j)) := rfl
theorem law_step (ns : List Int) (n : Nat) (hn : n ≤ 12) (k : Nat) (as bs : List Wy) (x4 : Option D) (hl : as.length + bs.length ≤ 61) : ∃ (as' bs' : List Wy) (y4 : Option D), as'.length + bs'.length ≤ as.length + bs.length + 1 ∧
    b_law_0 [some (.sh (.fz (ns.map D.int))), sI n, some (.ll [as.map wD, bs.map wD]), sI k, oD x4, none, none] = .nx [some (.sh (.fz (ns.map D.int))), sI n, some (.ll [as'.map wD, bs'.map wD]), sI k, oD y4, none, none] := by
  obtain ⟨v, hv⟩ := f_cell ns k
  obtain ⟨a, b, hs⟩ := f_stream v
  obtain ⟨x, hx⟩ := two_at a b (k : Int)
  obtain ⟨w, hw⟩ := f_way (x / 2) n hn
  have hb : 63 < sizeLine := by rw [sl_big]; omega
  have c2 : CDiv 0 2 := ⟨by omega, by omega⟩
  have key : ∀ as' bs' : List Wy, as'.length ≤ 63 → bs'.length ≤ 63 → mIf (mAnd (mTruth (m2 oEq (m2 oMod (mV 3) (mC (.int 8))) (mC (.int 0)))) (mNot (mTruth (mFr (m1 f_law_met (mCons (mFr (mSl (m2 oIx (mV 2) (mC (.int 0))) (mAt (m1 oNeg (mC (.int 12)))) mNo)) (mCons (mFr (mSl (m2 oIx (mV 2) (mC (.int 1))) (mAt (m1 oNeg (mC (.int 12)))) mNo)) (mCons (mV 1) mNil))))))))
      (mRet (mSh (mC (.bl false))))
      mPass [some (.sh (.fz (ns.map D.int))), sI n, some (.ll [as'.map wD, bs'.map wD]), sI k, sI x, none, none] = .nx [some (.sh (.fz (ns.map D.int))), sI n, some (.ll [as'.map wD, bs'.map wD]), sI k, sI x, none, none] := fun as' bs' h1 h2 => by
    have l1 := cut_len as' (some (-12)) none
    have l2 := cut_len bs' (some (-12)) none
    have hm := f_lmet (cutG as' (some (-12)) none) (cutG bs' (some (-12)) none) n hn (by omega) (by omega)
    by_cases c : ((k : Int) % 8 == 0) = true
    · simp [eqII, c, cut_map, hm]
    · simp [eqII, c]
  have hm2 : x % 2 = 0 ∨ x % 2 = 1 := by omega
  have i0 : ixN 2 0 = some 0 := rfl
  have i1 : ixN 2 1 = some 1 := rfl
  have wp : (wD w).plain = true := rfl
  rcases hm2 with hm | hm
  · refine ⟨as ++ [w], bs, some (.int x), by simp; omega, ?_⟩
    have := key (as ++ [w]) bs (by simp; omega) (by omega)
    rw [show oD (some (.int x)) = sI x from rfl, ← this]
    have la : as.length < sizeLine := by omega
    simp [b_law_0, hv, hs, hx, hm, hw, i0, wp, la, -mIf]
  · refine ⟨as, bs ++ [w], some (.int x), by simp; omega, ?_⟩
    have := key as (bs ++ [w]) (by omega) (by simp; omega)
    rw [show oD (some (.int x)) = sI x from rfl, ← this]
    have la : bs.length < sizeLine := by omega
    simp [b_law_0, hv, hs, hx, hm, hw, i1, wp, la, -mIf]
theorem law_loop (ns : List Int) (n : Nat) (hn : n ≤ 12) : ∀ (ks : List Nat) (as bs : List Wy) (x3 x4 : Option D), as.length + bs.length + ks.length ≤ 61 → ∃ (as' bs' : List Wy) (y3 y4 : Option D), as'.length + bs'.length ≤ 61 ∧
    loopM (gN 3) b_law_0 (ks.map fun k : Nat => .int k) [some (.sh (.fz (ns.map D.int))), sI n, some (.ll [as.map wD, bs.map wD]), oD x3, oD x4, none, none] = .nx [some (.sh (.fz (ns.map D.int))), sI n, some (.ll [as'.map wD, bs'.map wD]), oD y3, oD y4, none, none]
  | [], as, bs, x3, x4, h => ⟨as, bs, x3, x4, by simpa using h, rfl⟩
  | k :: ks, as, bs, x3, x4, h => by
    simp only [List.length_cons] at h
    obtain ⟨as1, bs1, z4, h1, e1⟩ := law_step ns n hn k as bs x4 (by omega)
    obtain ⟨as2, bs2, y3, y4, h2, e2⟩ := law_loop ns n hn ks as1 bs1 (some (.int k)) z4 (by omega)
    refine ⟨as2, bs2, y3, y4, h2, ?_⟩
    rw [← e2, List.map_cons, loopM]
    simp [e1]
theorem zero_way : D.lst [D.tup [D.int 0, D.int 0]] = D.lst ([((0, 0) : Wy)].map wD) := rfl
theorem alone_step (xs : List Wy) (s0 s1 s2 s3 s4 x6 : Option SV) (hx : lkO x6 = false) (hl : xs.length ≤ 63) : ∃ ws : List Wy,
    b_law_1 [s0, s1, s2, s3, s4, some (.sh (.lst (xs.map wD))), x6] = .nx [s0, s1, s2, s3, s4, some (.sh (.lst (xs.map wD))), some (.li (ws.map wD))] := by
  have hb : 63 < sizeLine := by rw [sl_big]; omega
  have h2 : 2 ≤ sizeLine := by omega
  have h1 : 1 ≤ sizeLine := by omega
  have g1 := f_due xs [(0, 0)] (by simp; omega)
  have g2 := f_met xs [(0, 0)] (by simp; omega)
  have g3 := f_met [(0, 0)] xs (by simp; omega)
  have g4 := f_met xs [] (by simp; omega)
  have g5 := f_met [] xs (by simp; omega)
  rw [met_comm0] at g3
  rw [met_nil] at g4
  rw [met_nil'] at g5
  simp only [← zero_way, List.map_nil] at g1 g2 g3 g4 g5
  have n0 : oNe (.lst []) (.lst []) = some (.bl false) := rfl
  refine ⟨metW xs [(0, 0)], ?_⟩
  simp [b_law_1, g1, g2, g3, g4, g5, h1, h2, hx, wDs_plain, ne_ways, n0]
theorem law_true (ns : List Int) (hl : ns.length ≤ 63) : f_law [.fz (ns.map D.int)] = some (.sh (.bl true)) := by
  obtain ⟨v, hv⟩ := f_cell ns 0
  obtain ⟨n, hn, hb⟩ := bits_at v
  have hz : 63 < sizeLine := by rw [sl_big]; omega
  have h4 : 4 ≤ sizeLine := by omega
  have h0 : (0 : Nat) ≤ sizeLine := by omega
  have h2 : 2 ≤ sizeLine := by omega
  obtain ⟨m, hmx, hm⟩ : ∃ m : Int, fMax [.int 4, .int (if (61 : Int) < ns.length then 61 else (ns.length : Int))] = some (.sh (.int m)) ∧ 4 ≤ m ∧ m ≤ 61 := by
    refine ⟨_, rfl, ?_, ?_⟩ <;> split <;> split <;> omega
  have hr : fRng [.int 1, .int m] = some ((List.range (m - 1).toNat).map fun k : Nat => D.int (1 + k)) := by
    simp only [fRng]
    rw [if_pos (by omega)]
    rfl
  have er : ((List.range (m - 1).toNat).map fun k : Nat => D.int (1 + k)) = (((List.range (m - 1).toNat).map fun k => k + 1).map fun k : Nat => D.int k) := by
    rw [List.map_map]
    refine List.map_congr_left fun k _ => ?_
    simp
    omega
  obtain ⟨as, bs, y3, y4, h1, e1⟩ := law_loop ns n hn ((List.range (m - 1).toNat).map fun k => k + 1) [] [] none none (by simp; omega)
  rw [← er] at e1
  simp only [oD, Option.map_none, List.map_nil] at e1
  obtain ⟨w1, a1⟩ := alone_step as (some (.sh (.fz (ns.map D.int)))) (sI n) (some (.sh (.lst [.lst (as.map wD), .lst (bs.map wD)]))) (oD y3) (oD y4) none rfl (by omega)
  obtain ⟨w2, a2⟩ := alone_step bs (some (.sh (.fz (ns.map D.int)))) (sI n) (some (.sh (.lst [.lst (as.map wD), .lst (bs.map wD)]))) (oD y3) (oD y4) (some (.li (w1.map wD))) rfl (by omega)
  have l1 := cut_len as none (some 12)
  have l2 := cut_len bs none (some 12)
  have hmet := f_lmet (cutG as none (some 12)) (cutG bs none (some 12)) n hn (by omega) (by omega)
  have hv' : f_law_cell_at [.fz (ns.map D.int), .int 0] = some (.sh (.int v)) := hv
  simp only [sI, oD] at e1 a1 a2
  clear er
  generalize ((List.range (m - 1).toNat).map fun k : Nat => D.int (1 + k)) = its at hr e1
  simp [f_law, runF, m_law, hv', hb, h2, h4, hmx, hr, e1, loopM, a1, a2, cut_map, hmet, -fMax]
end My

set_option Elab.async false
set_option linter.all false
set_option maxRecDepth 100000
set_option maxHeartbeats 4000000
namespace My
open PySem L2

def top (i : Nat) : Stmt := PySem.Challenge.pw_mightever_k12_ways_met.main.body.getD i (.Pass ⟨0, 0, 0, 0⟩)
abbrev s_met_ways : Stmt := top 1
theorem sc_met_ways : FnScope ["one", "other", "met", "held", "free", "more_held", "more_free", "way"] ["one", "other"] (defScope s_met_ways) := ⟨rfl, rfl, rfl, by decide +kernel, rfl, by decide +kernel, by decide +kernel⟩
abbrev s_law_due : Stmt := top 8
theorem sc_law_due : FnScope ["_law_one", "_law_other", "_law_found", "_law_way_here", "_law_more", "_law_both"] ["_law_one", "_law_other"] (defScope s_law_due) := ⟨rfl, rfl, rfl, by decide +kernel, rfl, by decide +kernel, by decide +kernel⟩
abbrev s_law_of : Stmt := top 6
theorem sc_law_of : FnScope ["_law_state", "_law_way_here"] ["_law_state", "_law_way_here"] (defScope s_law_of) := ⟨rfl, rfl, rfl, by decide +kernel, rfl, by decide +kernel, by decide +kernel⟩
abbrev s_law_some : Stmt := top 7
theorem sc_law_some : FnScope ["_law_state", "_law_ways"] ["_law_state", "_law_ways"] (defScope s_law_some) := ⟨rfl, rfl, rfl, by decide +kernel, rfl, by decide +kernel, by decide +kernel⟩
abbrev s_law_met : Stmt := top 9
theorem sc_law_met : FnScope ["_law_one", "_law_other", "_law_bits", "_law_handed", "_law_found", "_law_way_here", "_law_both", "_law_state", "_law_place"] ["_law_one", "_law_other", "_law_bits"] (defScope s_law_met) := ⟨rfl, rfl, rfl, by decide +kernel, rfl, by decide +kernel, by decide +kernel⟩
abbrev s_law_cell_at : Stmt := top 3
theorem sc_law_cell_at : FnScope ["_law_script", "_law_k"] ["_law_script", "_law_k"] (defScope s_law_cell_at) := ⟨rfl, rfl, rfl, by decide +kernel, rfl, by decide +kernel, by decide +kernel⟩
abbrev s_law_stream : Stmt := top 4
theorem sc_law_stream : FnScope ["_law_cell", "_law_many", "_law_found", "_law_left", "_law_number", "_law_k"] ["_law_cell", "_law_many"] (defScope s_law_stream) := ⟨rfl, rfl, rfl, by decide +kernel, rfl, by decide +kernel, by decide +kernel⟩
abbrev s_law_way : Stmt := top 5
theorem sc_law_way : FnScope ["_law_number", "_law_bits", "_law_held", "_law_free"] ["_law_number", "_law_bits"] (defScope s_law_way) := ⟨rfl, rfl, rfl, by decide +kernel, rfl, by decide +kernel, by decide +kernel⟩
abbrev s_law : Stmt := top 10
theorem sc_law : FnScope ["_law_script", "_law_bits", "_law_lists", "_law_k", "_law_number", "_law_some_here", "_law_alone"] ["_law_script"] (defScope s_law) := ⟨rfl, rfl, rfl, by decide +kernel, rfl, by decide +kernel, by decide +kernel⟩
structure Adr where
  f_met_ways : Addr
  d_met_ways : FuncData
  f_law_due : Addr
  d_law_due : FuncData
  f_law_of : Addr
  d_law_of : FuncData
  f_law_some : Addr
  d_law_some : FuncData
  f_law_met : Addr
  d_law_met : FuncData
  f_law_cell_at : Addr
  d_law_cell_at : FuncData
  f_law_stream : Addr
  d_law_stream : FuncData
  f_law_way : Addr
  d_law_way : FuncData
  f_law : Addr
  d_law : FuncData
structure Txt (K : PySem.W.Frag) (mg : Str → Option Value) (A : Adr) : Prop where
  F_met_ways : Fun K "met_ways" "met_ways" s_met_ways A.f_met_ways A.d_met_ways
  m_met_ways : mg "met_ways" = some (.ref A.f_met_ways)
  F_law_due : Fun K "_law_due" "_law_due" s_law_due A.f_law_due A.d_law_due
  m_law_due : mg "_law_due" = some (.ref A.f_law_due)
  F_law_of : Fun K "_law_of" "_law_of" s_law_of A.f_law_of A.d_law_of
  m_law_of : mg "_law_of" = some (.ref A.f_law_of)
  F_law_some : Fun K "_law_some" "_law_some" s_law_some A.f_law_some A.d_law_some
  m_law_some : mg "_law_some" = some (.ref A.f_law_some)
  F_law_met : Fun K "_law_met" "_law_met" s_law_met A.f_law_met A.d_law_met
  m_law_met : mg "_law_met" = some (.ref A.f_law_met)
  F_law_cell_at : Fun K "_law_cell_at" "_law_cell_at" s_law_cell_at A.f_law_cell_at A.d_law_cell_at
  m_law_cell_at : mg "_law_cell_at" = some (.ref A.f_law_cell_at)
  F_law_stream : Fun K "_law_stream" "_law_stream" s_law_stream A.f_law_stream A.d_law_stream
  m_law_stream : mg "_law_stream" = some (.ref A.f_law_stream)
  F_law_way : Fun K "_law_way" "_law_way" s_law_way A.f_law_way A.d_law_way
  m_law_way : mg "_law_way" = some (.ref A.f_law_way)
  F_law : Fun K "law" "law" s_law A.f_law A.d_law
  m_law : mg "law" = some (.ref A.f_law)
  z_int : mg "int" = none
  z_isinstance : mg "isinstance" = none
  z_len : mg "len" = none
  z_list : mg "list" = none
  z_max : mg "max" = none
  z_min : mg "min" = none
  z_range : mg "range" = none
  z_tuple : mg "tuple" = none
section
variable {K : PySem.W.Frag} {mg : Str → Option Value} {A : Adr}
theorem b_met_ways (T : Txt K mg A) : Binds K A.d_met_ways ["one", "other"] [] := T.F_met_ways.binds (ps := ["one", "other"]) fun _ _ _ _ _ _ us hl => match us, hl with | [_, _], _ => rfl
theorem b_law_due (T : Txt K mg A) : Binds K A.d_law_due ["_law_one", "_law_other"] [] := T.F_law_due.binds (ps := ["_law_one", "_law_other"]) fun _ _ _ _ _ _ us hl => match us, hl with | [_, _], _ => rfl
theorem b_law_of (T : Txt K mg A) : Binds K A.d_law_of ["_law_state", "_law_way_here"] [] := T.F_law_of.binds (ps := ["_law_state", "_law_way_here"]) fun _ _ _ _ _ _ us hl => match us, hl with | [_, _], _ => rfl
theorem b_law_some (T : Txt K mg A) : Binds K A.d_law_some ["_law_state", "_law_ways"] [] := T.F_law_some.binds (ps := ["_law_state", "_law_ways"]) fun _ _ _ _ _ _ us hl => match us, hl with | [_, _], _ => rfl
theorem b_law_met (T : Txt K mg A) : Binds K A.d_law_met ["_law_one", "_law_other", "_law_bits"] [] := T.F_law_met.binds (ps := ["_law_one", "_law_other", "_law_bits"]) fun _ _ _ _ _ _ us hl => match us, hl with | [_, _, _], _ => rfl
theorem b_law_cell_at (T : Txt K mg A) : Binds K A.d_law_cell_at ["_law_script", "_law_k"] [] := T.F_law_cell_at.binds (ps := ["_law_script", "_law_k"]) fun _ _ _ _ _ _ us hl => match us, hl with | [_, _], _ => rfl
theorem b_law_stream (T : Txt K mg A) : Binds K A.d_law_stream ["_law_cell", "_law_many"] [] := T.F_law_stream.binds (ps := ["_law_cell", "_law_many"]) fun _ _ _ _ _ _ us hl => match us, hl with | [_, _], _ => rfl
theorem b_law_way (T : Txt K mg A) : Binds K A.d_law_way ["_law_number", "_law_bits"] [] := T.F_law_way.binds (ps := ["_law_number", "_law_bits"]) fun _ _ _ _ _ _ us hl => match us, hl with | [_, _], _ => rfl
theorem b_law (T : Txt K mg A) : Binds K A.d_law ["_law_script"] [] := T.F_law.binds (ps := ["_law_script"]) fun _ _ _ _ _ _ us hl => match us, hl with | [_], _ => rfl
end
def bk (K : PySem.W.Frag) (A : Adr) : Bk := ⟨K, fun _ => 0⟩
section
variable {P : Program} {w : World} {K : PySem.W.Frag} {mg : Str → Option Value} {base : Heap} {A : Adr}
theorem ok_met_ways (T : Txt K mg A) : FnOk P w K mg base CX0 1 A.f_met_ways A.d_met_ways ["one", "other"] (SpF (bk K A) 2 f_met_ways) :=
  T.F_met_ways.okF sc_met_ways fun cdv A' outer s H E hr => have hu := hu_of hr; ⟨_, (pss_cons (ps_set (i := 2) sc_met_ways.nd rfl (Or.inl rfl) pe_dnewT)
   (pss_cons (ps_for PassesOwn.never rfl (pi_seqK (K := K) rfl (pv 0)) (pg_seqK (K := K) rfl rfl (pgs_cons (pg_name (i := 3) sc_met_ways.nd rfl (Or.inl rfl)) (pgs_cons (pg_name (i := 4) sc_met_ways.nd rfl (Or.inl rfl)) pgs_nil)))
    (pss_one (ps_for PassesOwn.never rfl (pi_seqK (K := K) rfl (pv 1)) (pg_seqK (K := K) rfl rfl (pgs_cons (pg_name (i := 5) sc_met_ways.nd rfl (Or.inl rfl)) (pgs_cons (pg_name (i := 6) sc_met_ways.nd rfl (Or.inl rfl)) pgs_nil)))
      (pss_cons (ps_set (i := 7) sc_met_ways.nd rfl (Or.inl rfl) (pe_tup (pa_cons (pe_op op_or (pv 3) (pv 5)) (pa_cons (pe_op op_or (pv 4) (pv 6)) pa_nil))))
       (pss_one (ps_if (pt_cmpR (op_eqD (K := K) rfl hr.c64) (pe_op op_and (pe_ix (ix_seqK (K := K) rfl) (pv 7) pe_int (fun _ _ => rfl)) (pe_ix (ix_seqK (K := K) rfl) (pv 7) pe_int (fun _ _ => rfl))) pe_int (nomark _))
        (pss_one (ps_dput hu (pv 2) (pv 7) pe_bl rfl))
        pss_nil))))))
   (pss_one (ps_ret (pe_callTy (call_listF (K := K) rfl rfl) rfl T.z_list PyProof.Rows.Boot.«list» (pa_cons (pv 2) pa_nil)))))),
   (fs_seq (ws_set [] fe_newT)
   (fs_seq (fs_forV (j := 0) rfl (fg_seq rfl (fgs_cons (fg_name 3) (fgs_cons (fg_name 4) fgs_nil)))
    (fs_forV (j := 1) rfl (fg_seq rfl (fgs_cons (fg_name 5) (fgs_cons (fg_name 6) fgs_nil)))
      (fs_seq (ws_set [3, 4, 5, 6] ((fd_tup (fa_cons (fd_op od_or (fd_var 3) (fd_var 5)) (fa_cons (fd_op od_or (fd_var 4) (fd_var 6)) fa_nil)))).fe)
       (fs_if (ft_of (fd_op (od_eq rfl) (fd_op od_and (fd_op (od_ix rfl) (fd_var 7) (fd_C (.int _))) (fd_op (od_ix rfl) (fd_var 7) (fd_C (.int _)))) (fd_C (.int _))))
        (ws_put [] (fd_var 7) (fd_C (.bl _)))
        fs_next))))
   (fs_ret (fe_CB (c_list rfl) (fa_cons (fd_var 2) fa_nil)))))⟩
theorem ok_law_due (T : Txt K mg A) : FnOk P w K mg base CX0 1 A.f_law_due A.d_law_due ["_law_one", "_law_other"] (SpF (bk K A) 2 f_law_due) :=
  T.F_law_due.okF sc_law_due fun cdv A' outer s H E hr => have hu := hu_of hr; ⟨_, (pss_cons (ps_set (i := 2) sc_law_due.nd rfl (Or.inl rfl) (pe_lst pa_nil))
   (pss_cons (ps_for PassesOwn.never rfl (pi_seqK (K := K) rfl (pv 0)) (pg_name (i := 3) sc_law_due.nd rfl (Or.inl rfl))
    (pss_one (ps_for PassesOwn.never rfl (pi_seqK (K := K) rfl (pv 1)) (pg_name (i := 4) sc_law_due.nd rfl (Or.inl rfl))
      (pss_cons (ps_set (i := 5) sc_law_due.nd rfl (Or.inl rfl) (pe_tup (pa_cons (pe_op op_or (pe_ix (ix_seqK (K := K) rfl) (pv 3) pe_int (fun _ _ => rfl)) (pe_ix (ix_seqK (K := K) rfl) (pv 4) pe_int (fun _ _ => rfl))) (pa_cons (pe_op op_or (pe_ix (ix_seqK (K := K) rfl) (pv 3) pe_int (fun _ _ => rfl)) (pe_ix (ix_seqK (K := K) rfl) (pv 4) pe_int (fun _ _ => rfl))) pa_nil))))
       (pss_one (ps_if (PW.pt (pw_and (pt_cmpR (op_eqD (K := K) rfl hr.c64) (pe_op op_and (pe_ix (ix_seqK (K := K) rfl) (pv 5) pe_int (fun _ _ => rfl)) (pe_ix (ix_seqK (K := K) rfl) (pv 5) pe_int (fun _ _ => rfl))) pe_int (nomark _)) (pw_and1 (pt_cmpR (op_notInE (K := K) rfl hr.c64) (pv 5) (pv 2) rfl))))
        (pss_one (ps_expr (pe_bmK (K := K) rfl PySem.F.plainAttrs_list PySem.F.slot_list_append PySem.F.type_list_append mt_append (pv 2) (pa_cons (pv 5) pa_nil))))
        pss_nil))))))
   (pss_one (ps_ret (pv 2))))),
   (fs_seq (ws_set [] (fe_lst fa_nil))
   (fs_seq (fs_forV (j := 0) rfl (fg_name 3)
    (fs_forV (j := 1) rfl (fg_name 4)
      (fs_seq (ws_set [3, 4] ((fd_tup (fa_cons (fd_op od_or (fd_op (od_ix rfl) (fd_var 3) (fd_C (.int _))) (fd_op (od_ix rfl) (fd_var 4) (fd_C (.int _)))) (fa_cons (fd_op od_or (fd_op (od_ix rfl) (fd_var 3) (fd_C (.int _))) (fd_op (od_ix rfl) (fd_var 4) (fd_C (.int _)))) fa_nil)))).fe)
       (fs_if (ft_and (ft_of (fd_op (od_eq rfl) (fd_op od_and (fd_op (od_ix rfl) (fd_var 5) (fd_C (.int _))) (fd_op (od_ix rfl) (fd_var 5) (fd_C (.int _)))) (fd_C (.int _)))) (ft_of (fd_op (od_notIn rfl) (fd_var 5) (fd_var 2))))
        (ws_app [5] rfl (fd_var 5))
        fs_next))))
   (fs_retV 2)))⟩
theorem ok_law_of (T : Txt K mg A) : FnOk P w K mg base CX0 1 A.f_law_of A.d_law_of ["_law_state", "_law_way_here"] (SpF (bk K A) 2 f_law_of) :=
  T.F_law_of.okF sc_law_of fun cdv A' outer s H E hr => have hu := hu_of hr; ⟨_, (pss_one (ps_ret (pe_and (pe_cmpR (op_eqD (K := K) rfl hr.c64) (pe_op op_and (pv 0) (pe_ix (ix_seqK (K := K) rfl) (pv 1) pe_int (fun _ _ => rfl))) (pe_ix (ix_seqK (K := K) rfl) (pv 1) pe_int (fun _ _ => rfl)) (nomark _)) (pe_one (pe_cmpR (op_eqD (K := K) rfl hr.c64) (pe_op op_and (pv 0) (pe_ix (ix_seqK (K := K) rfl) (pv 1) pe_int (fun _ _ => rfl))) pe_int (nomark _)))))),
   (fs_ret ((fd_andV (fd_op (od_eq rfl) (fd_op od_and (fd_var 0) (fd_op (od_ix rfl) (fd_var 1) (fd_C (.int _)))) (fd_op (od_ix rfl) (fd_var 1) (fd_C (.int _)))) (fd_op (od_eq rfl) (fd_op od_and (fd_var 0) (fd_op (od_ix rfl) (fd_var 1) (fd_C (.int _)))) (fd_C (.int _))))).fe)⟩
theorem ok_law_some (T : Txt K mg A) : FnOk P w K mg base CX0 2 A.f_law_some A.d_law_some ["_law_state", "_law_ways"] (SpF (bk K A) 2 f_law_some) :=
  T.F_law_some.okF sc_law_some fun cdv A' outer s H E hr => have hu := hu_of hr; ⟨_, (pss_one (ps_ret (pe_cmpR (op_neD (K := K) rfl hr.c64) (pe_comp (NX := ["_law_state", "_law_ways"]) (SX := defScope s_law_some) (N := ["_law_way_here", "_law_state"]) (own := 1) (fi := [0]) ⟨rfl, by decide +kernel, by decide +kernel, by decide +kernel, rfl, by decide +kernel⟩ rfl (pi_seqK (K := K) rfl (pv 1)) (fun _ _ _ => (pg_name (i := 0) (show (["_law_way_here", "_law_state"] : List Str).Nodup by decide +kernel) rfl (Or.inl rfl))) (fun _ _ _ => (pif_one (pt_val (pe_call (ok_law_of T) (hr.mono (by decide)) rfl T.m_law_of T.F_law_of.kp (b_law_of T) .nil pass0 (pa_cons (pv 1) (pa_cons (pv 0) pa_nil)))))) (fun _ _ _ => (pv 0))) (pe_lst pa_nil) (nomark _)))),
   (fs_ret ((fd_op (od_ne rfl) ((fe_comp (fic_seq rfl (fd_var 1)) (fg_name 0) (ft_val ((fe_call runF_len' (fa_cons (fd_var 1) (fa_cons (fd_var 0) fa_nil)))).fd) (fd_var 0))).fd ((fe_lst fa_nil)).fd)).fe)⟩
theorem ok_law_met (T : Txt K mg A) : FnOk P w K mg base CX0 3 A.f_law_met A.d_law_met ["_law_one", "_law_other", "_law_bits"] (SpF (bk K A) 3 f_law_met) :=
  T.F_law_met.okF sc_law_met fun cdv A' outer s H E hr => have hu := hu_of hr; ⟨_, (pss_cons (ps_set (i := 3) sc_law_met.nd rfl (Or.inl rfl) (pe_lst (pa_cons (pe_callTy (call_listF (K := K) rfl rfl) rfl T.z_list PyProof.Rows.Boot.«list» (pa_cons (pv 0) pa_nil)) (pa_cons (pe_callTy (call_listF (K := K) rfl rfl) rfl T.z_list PyProof.Rows.Boot.«list» (pa_cons (pv 1) pa_nil)) pa_nil))))
   (pss_cons (ps_set (i := 4) sc_law_met.nd rfl (Or.inl rfl) (pe_call (ok_met_ways T) (hr.mono (by decide)) rfl T.m_met_ways T.F_met_ways.kp (b_met_ways T) .nil pass0 (pa_cons (pe_ix (ix_seqK (K := K) rfl) (pv 3) pe_int (fun _ _ => rfl)) (pa_cons (pe_ix (ix_seqK (K := K) rfl) (pv 3) pe_int (fun _ _ => rfl)) pa_nil))))
   (pss_cons (ps_if (PW.pt (pw_or (pt_cmpR (op_neD (K := K) rfl hr.c64) (pv 3) (pe_lst (pa_cons (pv 0) (pa_cons (pv 1) pa_nil))) (nomark _)) (pw_or (pt_not (pt_val (pe_callB (call_isinstK (K := K) rfl) rfl T.z_isinstance PyProof.Rows.Boot.«isinstance» (pa_cons (pv 4) (pa_cons (pe_bltn (v := V.ty "list") rfl T.z_list PyProof.Rows.Boot.«list» rfl) pa_nil))))) (pw_or1 (pt_cmpR (op_neD (K := K) rfl hr.c64) (pv 4) (pe_call (ok_law_due T) (hr.mono (by decide)) rfl T.m_law_due T.F_law_due.kp (b_law_due T) .nil pass0 (pa_cons (pv 0) (pa_cons (pv 1) pa_nil))) (nomark _))))))
    (pss_one (ps_ret pe_bl))
    pss_nil)
   (pss_cons (ps_for PassesOwn.never rfl (pi_seqK (K := K) rfl (pv 4)) (pg_name (i := 5) sc_law_met.nd rfl (Or.inl rfl))
    (pss_one (ps_if (pt_not (pt_val (pe_callB (call_isinstK (K := K) rfl) rfl T.z_isinstance PyProof.Rows.Boot.«isinstance» (pa_cons (pv 5) (pa_cons (pe_bltn (v := V.ty "tuple") rfl T.z_tuple PyProof.Rows.Boot.«tuple» rfl) pa_nil)))))
      (pss_one (ps_ret pe_bl))
      pss_nil)))
   (pss_cons (ps_expr (pe_bmK (K := K) rfl PySem.F.plainAttrs_list PySem.F.slot_list_append PySem.F.type_list_append mt_append (pv 4) (pa_cons (pe_tup (pa_cons pe_int (pa_cons pe_int pa_nil))) pa_nil)))
   (pss_cons (ps_if (pt_cmpR (op_neD (K := K) rfl hr.c64) (pe_call (ok_met_ways T) (hr.mono (by decide)) rfl T.m_met_ways T.F_met_ways.kp (b_met_ways T) .nil pass0 (pa_cons (pv 0) (pa_cons (pv 1) pa_nil))) (pe_call (ok_law_due T) (hr.mono (by decide)) rfl T.m_law_due T.F_law_due.kp (b_law_due T) .nil pass0 (pa_cons (pv 0) (pa_cons (pv 1) pa_nil))) (nomark _))
    (pss_one (ps_ret pe_bl))
    pss_nil)
   (pss_cons (ps_set (i := 6) sc_law_met.nd rfl (Or.inl rfl) (pe_call (ok_met_ways T) (hr.mono (by decide)) rfl T.m_met_ways T.F_met_ways.kp (b_met_ways T) .nil pass0 (pa_cons (pe_slice (sl_seqE (K := K) rfl) (pv 0) po_none (po_some pe_int)) (pa_cons (pe_slice (sl_seqE (K := K) rfl) (pv 1) po_none (po_some pe_int)) pa_nil))))
   (pss_cons (ps_for PassesOwn.never rfl (pi_range1 rfl T.z_range (pa_cons pe_int pa_nil)) (pg_name (i := 7) sc_law_met.nd rfl (Or.inl rfl))
    (pss_cons (ps_set (i := 8) sc_law_met.nd rfl (Or.inl rfl) (pe_op op_mod (pe_op op_mulG (pv 7) (pe_ix (ix_seqK (K := K) rfl) (pe_lst (pa_cons pe_int (pa_cons pe_int pa_nil))) (pe_callTy call_int1 rfl T.z_int PyProof.Rows.Boot.«int» (pa_cons (pe_cmpR (op_eqD (K := K) rfl hr.c64) (pv 2) pe_int (nomark _)) pa_nil)) (fun _ _ => rfl))) (pe_op op_shl pe_int (pv 2))))
     (pss_one (ps_if (pt_cmpR (op_neD (K := K) rfl hr.c64) (pe_call (ok_law_some T) (hr.mono (by decide)) rfl T.m_law_some T.F_law_some.kp (b_law_some T) .nil pass0 (pa_cons (pv 8) (pa_cons (pv 6) pa_nil))) (pe_and (pe_call (ok_law_some T) (hr.mono (by decide)) rfl T.m_law_some T.F_law_some.kp (b_law_some T) .nil pass0 (pa_cons (pv 8) (pa_cons (pe_slice (sl_seqE (K := K) rfl) (pv 0) po_none (po_some pe_int)) pa_nil))) (pe_one (pe_call (ok_law_some T) (hr.mono (by decide)) rfl T.m_law_some T.F_law_some.kp (b_law_some T) .nil pass0 (pa_cons (pv 8) (pa_cons (pe_slice (sl_seqE (K := K) rfl) (pv 1) po_none (po_some pe_int)) pa_nil))))) (nomark _))
      (pss_one (ps_ret pe_bl))
      pss_nil))))
   (pss_one (ps_ret pe_bl)))))))))),
   (fs_seq (ws_set [0, 1] (fe_lst (fa_cons ((fe_CB (c_list rfl) (fa_cons (fd_var 0) fa_nil))).fd (fa_cons ((fe_CB (c_list rfl) (fa_cons (fd_var 1) fa_nil))).fd fa_nil))))
   (fs_seq (ws_set [3] (fe_call runF_len' (fa_cons (fd_op (od_ix rfl) (fd_var 3) (fd_C (.int _))) (fa_cons (fd_op (od_ix rfl) (fd_var 3) (fd_C (.int _))) fa_nil))))
   (fs_seq (fs_if (ft_or (ft_of (fd_op (od_ne rfl) (fd_var 3) ((fe_lst (fa_cons (fd_var 0) (fa_cons (fd_var 1) fa_nil)))).fd)) (ft_or (ft_not (ft_val ((fe_CB (c_isi rfl) (fa_cons (fd_var 4) (fa_cons (fd_C (.ty _)) fa_nil)))).fd)) (ft_of (fd_op (od_ne rfl) (fd_var 4) ((fe_call runF_len' (fa_cons (fd_var 0) (fa_cons (fd_var 1) fa_nil)))).fd))))
    (fs_ret ((fd_C (.bl _))).fe)
    fs_next)
   (fs_seq (fs_forV (j := 4) rfl (fg_name 5)
    (fs_if (ft_not (ft_val ((fe_CB (c_isi rfl) (fa_cons (fd_var 5) (fa_cons (fd_C (.ty _)) fa_nil)))).fd))
      (fs_ret ((fd_C (.bl _))).fe)
      fs_next))
   (fs_seq (ws_app [] rfl (fd_tup (fa_cons (fd_C (.int _)) (fa_cons (fd_C (.int _)) fa_nil))))
   (fs_seq (fs_if (ft_of (fd_op (od_ne rfl) ((fe_call runF_len' (fa_cons (fd_var 0) (fa_cons (fd_var 1) fa_nil)))).fd ((fe_call runF_len' (fa_cons (fd_var 0) (fa_cons (fd_var 1) fa_nil)))).fd))
    (fs_ret ((fd_C (.bl _))).fe)
    fs_next)
   (fs_seq (ws_set [0, 1] (fe_call runF_len' (fa_cons ((fe_sl rfl (fd_var 0) fo_none (fo_some (fd_C (.int _))))).fd (fa_cons ((fe_sl rfl (fd_var 1) fo_none (fo_some (fd_C (.int _))))).fd fa_nil))))
   (fs_seq (fs_for (wi_rng1 (fa_cons (fd_C (.int _)) fa_nil)) (fg_name 7)
    (fs_seq (ws_set [2, 7] ((fd_op od_mod ((fe_op e_mul (fd_var 7) (fd_op (od_ix rfl) ((fe_lst (fa_cons (fd_C (.int _)) (fa_cons (fd_C (.int _)) fa_nil)))).fd ((fe_CB c_int (fa_cons (fd_op (od_eq rfl) (fd_var 2) (fd_C (.int _))) fa_nil))).fd))).fd (fd_op od_shl (fd_C (.int _)) (fd_var 2)))).fe)
     (fs_if (ft_of (fd_op (od_ne rfl) ((fe_call runF_len' (fa_cons (fd_var 8) (fa_cons (fd_var 6) fa_nil)))).fd (fd_andV ((fe_call runF_len' (fa_cons (fd_var 8) (fa_cons ((fe_sl rfl (fd_var 0) fo_none (fo_some (fd_C (.int _))))).fd fa_nil)))).fd ((fe_call runF_len' (fa_cons (fd_var 8) (fa_cons ((fe_sl rfl (fd_var 1) fo_none (fo_some (fd_C (.int _))))).fd fa_nil)))).fd)))
      (fs_ret ((fd_C (.bl _))).fe)
      fs_next)))
   (fs_ret ((fd_C (.bl _))).fe)))))))))⟩
theorem ok_law_cell_at (T : Txt K mg A) : FnOk P w K mg base CX0 1 A.f_law_cell_at A.d_law_cell_at ["_law_script", "_law_k"] (SpF (bk K A) 2 f_law_cell_at) :=
  T.F_law_cell_at.okF sc_law_cell_at fun cdv A' outer s H E hr => have hu := hu_of hr; ⟨_, (pss_cons (ps_if (pt_cmpR op_lt (pv 1) (pe_callB (call_lenF (K := K) rfl) rfl T.z_len PyProof.Rows.Boot.«len» (pa_cons (pv 0) pa_nil)) (nomark _))
    (pss_one (ps_ret (pe_ix (ix_seqK (K := K) rfl) (pv 0) (pv 1) (fun _ _ => rfl))))
    pss_nil)
   (pss_one (ps_ret pe_int))),
   (fs_seq (fs_if (ft_of (fd_op od_lt (fd_var 1) ((fe_CB (c_len rfl) (fa_cons (fd_var 0) fa_nil))).fd))
    (fs_ret ((fd_op (od_ix rfl) (fd_var 0) (fd_var 1))).fe)
    fs_next)
   (fs_ret ((fd_C (.int _))).fe))⟩
theorem ok_law_stream (T : Txt K mg A) : FnOk P w K mg base CX0 1 A.f_law_stream A.d_law_stream ["_law_cell", "_law_many"] (SpF (bk K A) 2 f_law_stream) :=
  T.F_law_stream.okF sc_law_stream fun cdv A' outer s H E hr => have hu := hu_of hr; ⟨_, (pss_cons (ps_set (i := 2) sc_law_stream.nd rfl (Or.inl rfl) (pe_lst pa_nil))
   (pss_cons (ps_set (i := 3) sc_law_stream.nd rfl (Or.inl rfl) (pe_op op_fdivB (pv 0) pe_int))
   (pss_cons (ps_set (i := 4) sc_law_stream.nd rfl (Or.inl rfl) (pe_op op_mod (pv 3) pe_int))
   (pss_cons (ps_for PassesOwn.never rfl (pi_range1 rfl T.z_range (pa_cons (pv 1) pa_nil)) (pg_name (i := 5) sc_law_stream.nd rfl (Or.inl rfl))
    (pss_cons (ps_set (i := 4) sc_law_stream.nd rfl (Or.inl rfl) (pe_op op_mod (pe_op (op_addK (K := K) rfl) (pe_op (op_addK (K := K) rfl) (pe_op (op_addK (K := K) rfl) (pe_op op_mulG (pv 4) (pv 4)) (pe_op op_mulG pe_int (pv 4))) (pe_op op_mulG pe_int (pv 5))) pe_int) pe_int))
     (pss_cons (ps_expr (pe_bmK (K := K) rfl PySem.F.plainAttrs_list PySem.F.slot_list_append PySem.F.type_list_append mt_append (pv 2) (pa_cons (pe_ix (ix_seqK (K := K) rfl) (pe_lst (pa_cons (pv 4) (pa_cons (pe_op op_mod (pv 3) pe_int) pa_nil))) (pe_callTy call_int1 rfl T.z_int PyProof.Rows.Boot.«int» (pa_cons (pe_and (pe_cmpR (op_eqD (K := K) rfl hr.c64) (pe_op op_mod (pv 0) pe_int) pe_int (nomark _)) (pe_one (pe_cmpR op_gt (pv 3) pe_int (nomark _)))) pa_nil)) (fun _ _ => rfl)) pa_nil)))
     (pss_one (ps_set (i := 3) sc_law_stream.nd rfl (Or.inl rfl) (pe_op op_fdivB (pv 3) pe_int))))))
   (pss_one (ps_ret (pv 2))))))),
   (fs_seq (ws_set [] (fe_lst fa_nil))
   (fs_seq (ws_set [0] ((fd_op od_fdiv (fd_var 0) (fd_C (.int _)))).fe)
   (fs_seq (ws_set [3] ((fd_op od_mod (fd_var 3) (fd_C (.int _)))).fe)
   (fs_seq (fs_for (wi_rng1 (fa_cons (fd_var 1) fa_nil)) (fg_name 5)
    (fs_seq (ws_set [4, 5] ((fd_op od_mod ((fe_op (e_add rfl) ((fe_op (e_add rfl) ((fe_op (e_add rfl) ((fe_op e_mul (fd_var 4) (fd_var 4))).fd ((fe_op e_mul (fd_C (.int _)) (fd_var 4))).fd)).fd ((fe_op e_mul (fd_C (.int _)) (fd_var 5))).fd)).fd (fd_C (.int _)))).fd (fd_C (.int _)))).fe)
     (fs_seq (ws_app [0, 3, 4] rfl (fd_op (od_ix rfl) ((fe_lst (fa_cons (fd_var 4) (fa_cons (fd_op od_mod (fd_var 3) (fd_C (.int _))) fa_nil)))).fd ((fe_CB c_int (fa_cons (fd_andV (fd_op (od_eq rfl) (fd_op od_mod (fd_var 0) (fd_C (.int _))) (fd_C (.int _))) (fd_op od_gt (fd_var 3) (fd_C (.int _)))) fa_nil))).fd))
     (ws_set [3] ((fd_op od_fdiv (fd_var 3) (fd_C (.int _)))).fe))))
   (fs_retV 2)))))⟩
theorem ok_law_way (T : Txt K mg A) : FnOk P w K mg base CX0 1 A.f_law_way A.d_law_way ["_law_number", "_law_bits"] (SpF (bk K A) 2 f_law_way) :=
  T.F_law_way.okF sc_law_way fun cdv A' outer s H E hr => have hu := hu_of hr; ⟨_, (pss_cons (ps_set (i := 2) sc_law_way.nd rfl (Or.inl rfl) (pe_op op_mod (pv 0) (pe_op op_shl pe_int (pv 1))))
   (pss_cons (ps_set (i := 3) sc_law_way.nd rfl (Or.inl rfl) (pe_op op_mod (pe_op op_fdivB (pv 0) (pe_op op_shl pe_int (pv 1))) (pe_op op_shl pe_int (pv 1))))
   (pss_one (ps_ret (pe_tup (pa_cons (pe_op op_sub (pv 2) (pe_op op_and (pv 2) (pv 3))) (pa_cons (pv 3) pa_nil))))))),
   (fs_seq (ws_set [0, 1] ((fd_op od_mod (fd_var 0) (fd_op od_shl (fd_C (.int _)) (fd_var 1)))).fe)
   (fs_seq (ws_set [0, 1] ((fd_op od_mod (fd_op od_fdiv (fd_var 0) (fd_op od_shl (fd_C (.int _)) (fd_var 1))) (fd_op od_shl (fd_C (.int _)) (fd_var 1)))).fe)
   (fs_ret ((fd_tup (fa_cons (fd_op od_sub (fd_var 2) (fd_op od_and (fd_var 2) (fd_var 3))) (fa_cons (fd_var 3) fa_nil)))).fe)))⟩
theorem ok_law (T : Txt K mg A) : FnOk P w K mg base CX0 4 A.f_law A.d_law ["_law_script"] (SpF (bk K A) 1 f_law) :=
  T.F_law.okF sc_law fun cdv A' outer s H E hr => have hu := hu_of hr; ⟨_, (pss_cons (ps_set (i := 1) sc_law.nd rfl (Or.inl rfl) (pe_ix (ix_seqK (K := K) rfl) (pe_lst (pa_cons pe_int (pa_cons pe_int (pa_cons pe_int (pa_cons pe_int pa_nil))))) (pe_op op_mod (pe_call (ok_law_cell_at T) (hr.mono (by decide)) rfl T.m_law_cell_at T.F_law_cell_at.kp (b_law_cell_at T) .nil pass0 (pa_cons (pv 0) (pa_cons pe_int pa_nil))) pe_int) (fun _ _ => rfl)))
   (pss_cons (ps_set (i := 2) sc_law.nd rfl (Or.inl rfl) (pe_lst (pa_cons (pe_lst pa_nil) (pa_cons (pe_lst pa_nil) pa_nil))))
   (pss_cons (ps_for PassesOwn.never rfl (pi_range2 rfl T.z_range (pa_cons pe_int (pa_cons (pe_callB (call_max2 rfl) rfl T.z_max PyProof.Rows.Boot.«max» (pa_cons pe_int (pa_cons (pe_callB (call_min2 rfl) rfl T.z_min PyProof.Rows.Boot.«min» (pa_cons (pe_callB (call_lenF (K := K) rfl) rfl T.z_len PyProof.Rows.Boot.«len» (pa_cons (pv 0) pa_nil)) (pa_cons pe_int pa_nil))) pa_nil))) pa_nil))) (pg_name (i := 3) sc_law.nd rfl (Or.inl rfl))
    (pss_cons (ps_set (i := 4) sc_law.nd rfl (Or.inl rfl) (pe_ix (ix_seqK (K := K) rfl) (pe_call (ok_law_stream T) (hr.mono (by decide)) rfl T.m_law_stream T.F_law_stream.kp (b_law_stream T) .nil pass0 (pa_cons (pe_call (ok_law_cell_at T) (hr.mono (by decide)) rfl T.m_law_cell_at T.F_law_cell_at.kp (b_law_cell_at T) .nil pass0 (pa_cons (pv 0) (pa_cons (pv 3) pa_nil))) (pa_cons pe_int pa_nil))) (pe_op op_mod (pv 3) pe_int) (fun _ _ => rfl)))
     (pss_cons (ps_expr (pe_bmK (K := K) rfl PySem.F.plainAttrs_list PySem.F.slot_list_append PySem.F.type_list_append mt_append (pe_ix (ix_seqK (K := K) rfl) (pv 2) (pe_op op_mod (pv 4) pe_int) (fun _ _ => rfl)) (pa_cons (pe_call (ok_law_way T) (hr.mono (by decide)) rfl T.m_law_way T.F_law_way.kp (b_law_way T) .nil pass0 (pa_cons (pe_op op_fdivB (pv 4) pe_int) (pa_cons (pv 1) pa_nil))) pa_nil)))
     (pss_one (ps_if (PW.pt (pw_and (pt_cmpR (op_eqD (K := K) rfl hr.c64) (pe_op op_mod (pv 3) pe_int) pe_int (nomark _)) (pw_and1 (pt_not (pt_val (pe_call (ok_law_met T) (hr.mono (by decide)) rfl T.m_law_met T.F_law_met.kp (b_law_met T) .nil pass0 (pa_cons (pe_slice (sl_seqE (K := K) rfl) (pe_ix (ix_seqK (K := K) rfl) (pv 2) pe_int (fun _ _ => rfl)) (po_some (pe_un un_neg pe_int)) po_none) (pa_cons (pe_slice (sl_seqE (K := K) rfl) (pe_ix (ix_seqK (K := K) rfl) (pv 2) pe_int (fun _ _ => rfl)) (po_some (pe_un un_neg pe_int)) po_none) (pa_cons (pv 1) pa_nil)))))))))
      (pss_one (ps_ret pe_bl))
      pss_nil)))))
   (pss_cons (ps_for PassesOwn.never rfl (pi_seqK (K := K) rfl (pv 2)) (pg_name (i := 5) sc_law.nd rfl (Or.inl rfl))
    (pss_cons (ps_set (i := 6) sc_law.nd rfl (Or.inl rfl) (pe_call (ok_law_due T) (hr.mono (by decide)) rfl T.m_law_due T.F_law_due.kp (b_law_due T) .nil pass0 (pa_cons (pv 5) (pa_cons (pe_lst (pa_cons (pe_tup (pa_cons pe_int (pa_cons pe_int pa_nil))) pa_nil)) pa_nil))))
     (pss_cons (ps_if (PW.pt (pw_or (pt_cmpR (op_neD (K := K) rfl hr.c64) (pe_call (ok_met_ways T) (hr.mono (by decide)) rfl T.m_met_ways T.F_met_ways.kp (b_met_ways T) .nil pass0 (pa_cons (pv 5) (pa_cons (pe_lst (pa_cons (pe_tup (pa_cons pe_int (pa_cons pe_int pa_nil))) pa_nil)) pa_nil))) (pv 6) (nomark _)) (pw_or1 (pt_cmpR (op_neD (K := K) rfl hr.c64) (pe_call (ok_met_ways T) (hr.mono (by decide)) rfl T.m_met_ways T.F_met_ways.kp (b_met_ways T) .nil pass0 (pa_cons (pe_lst (pa_cons (pe_tup (pa_cons pe_int (pa_cons pe_int pa_nil))) pa_nil)) (pa_cons (pv 5) pa_nil))) (pv 6) (nomark _)))))
      (pss_one (ps_ret pe_bl))
      pss_nil)
     (pss_one (ps_if (PW.pt (pw_or (pt_cmpR (op_neD (K := K) rfl hr.c64) (pe_call (ok_met_ways T) (hr.mono (by decide)) rfl T.m_met_ways T.F_met_ways.kp (b_met_ways T) .nil pass0 (pa_cons (pv 5) (pa_cons (pe_lst pa_nil) pa_nil))) (pe_lst pa_nil) (nomark _)) (pw_or1 (pt_cmpR (op_neD (K := K) rfl hr.c64) (pe_call (ok_met_ways T) (hr.mono (by decide)) rfl T.m_met_ways T.F_met_ways.kp (b_met_ways T) .nil pass0 (pa_cons (pe_lst pa_nil) (pa_cons (pv 5) pa_nil))) (pe_lst pa_nil) (nomark _)))))
      (pss_one (ps_ret pe_bl))
      pss_nil)))))
   (pss_one (ps_ret (pe_call (ok_law_met T) (hr.mono (by decide)) rfl T.m_law_met T.F_law_met.kp (b_law_met T) .nil pass0 (pa_cons (pe_slice (sl_seqE (K := K) rfl) (pe_ix (ix_seqK (K := K) rfl) (pv 2) pe_int (fun _ _ => rfl)) po_none (po_some pe_int)) (pa_cons (pe_slice (sl_seqE (K := K) rfl) (pe_ix (ix_seqK (K := K) rfl) (pv 2) pe_int (fun _ _ => rfl)) po_none (po_some pe_int)) (pa_cons (pv 1) pa_nil)))))))))),
   (fs_seq (ws_set [0] ((fd_op (od_ix rfl) ((fe_lst (fa_cons (fd_C (.int _)) (fa_cons (fd_C (.int _)) (fa_cons (fd_C (.int _)) (fa_cons (fd_C (.int _)) fa_nil)))))).fd (fd_op od_mod ((fe_call runF_len' (fa_cons (fd_var 0) (fa_cons (fd_C (.int _)) fa_nil)))).fd (fd_C (.int _))))).fe)
   (fs_seq (ws_set [] (fe_ll (fl_cons (fe_lst fa_nil) (fl_cons (fe_lst fa_nil) fl_nil))))
   (fs_seq (fs_for (wi_rng2 (fa_cons (fd_C (.int _)) (fa_cons ((fe_CB c_max (fa_cons (fd_C (.int _)) (fa_cons ((fe_CB c_min (fa_cons ((fe_CB (c_len rfl) (fa_cons (fd_var 0) fa_nil))).fd (fa_cons (fd_C (.int _)) fa_nil)))).fd fa_nil)))).fd fa_nil))) (fg_name 3)
    (fs_seq (ws_set [0, 3] ((fd_op (od_ix rfl) ((fe_call runF_len' (fa_cons ((fe_call runF_len' (fa_cons (fd_var 0) (fa_cons (fd_var 3) fa_nil)))).fd (fa_cons (fd_C (.int _)) fa_nil)))).fd (fd_op od_mod (fd_var 3) (fd_C (.int _))))).fe)
     (fs_seq (fs_appAt rfl (fd_op od_mod (fd_var 4) (fd_C (.int _))) ((fe_call runF_len' (fa_cons (fd_op od_fdiv (fd_var 4) (fd_C (.int _))) (fa_cons (fd_var 1) fa_nil)))).fd)
     (fs_if (ft_and (ft_of (fd_op (od_eq rfl) (fd_op od_mod (fd_var 3) (fd_C (.int _))) (fd_C (.int _)))) (ft_not (ft_val ((fe_call runF_len' (fa_cons ((fe_sl rfl (fd_op (od_ix rfl) (fd_var 2) (fd_C (.int _))) (fo_some (fd_un od_neg (fd_C (.int _)))) fo_none)).fd (fa_cons ((fe_sl rfl (fd_op (od_ix rfl) (fd_var 2) (fd_C (.int _))) (fo_some (fd_un od_neg (fd_C (.int _)))) fo_none)).fd (fa_cons (fd_var 1) fa_nil))))).fd)))
      (fs_ret ((fd_C (.bl _))).fe)
      fs_next))))
   (fs_seq (fs_forV (j := 2) rfl (fg_name 5)
    (fs_seq (ws_set [5] (fe_call runF_len' (fa_cons (fd_var 5) (fa_cons ((fe_lst (fa_cons (fd_tup (fa_cons (fd_C (.int _)) (fa_cons (fd_C (.int _)) fa_nil))) fa_nil))).fd fa_nil))))
     (fs_seq (fs_if (ft_or (ft_of (fd_op (od_ne rfl) ((fe_call runF_len' (fa_cons (fd_var 5) (fa_cons ((fe_lst (fa_cons (fd_tup (fa_cons (fd_C (.int _)) (fa_cons (fd_C (.int _)) fa_nil))) fa_nil))).fd fa_nil)))).fd (fd_var 6))) (ft_of (fd_op (od_ne rfl) ((fe_call runF_len' (fa_cons ((fe_lst (fa_cons (fd_tup (fa_cons (fd_C (.int _)) (fa_cons (fd_C (.int _)) fa_nil))) fa_nil))).fd (fa_cons (fd_var 5) fa_nil)))).fd (fd_var 6))))
      (fs_ret ((fd_C (.bl _))).fe)
      fs_next)
     (fs_if (ft_or (ft_of (fd_op (od_ne rfl) ((fe_call runF_len' (fa_cons (fd_var 5) (fa_cons ((fe_lst fa_nil)).fd fa_nil)))).fd ((fe_lst fa_nil)).fd)) (ft_of (fd_op (od_ne rfl) ((fe_call runF_len' (fa_cons ((fe_lst fa_nil)).fd (fa_cons (fd_var 5) fa_nil)))).fd ((fe_lst fa_nil)).fd)))
      (fs_ret ((fd_C (.bl _))).fe)
      fs_next))))
   (fs_ret (fe_call runF_len' (fa_cons ((fe_sl rfl (fd_op (od_ix rfl) (fd_var 2) (fd_C (.int _))) fo_none (fo_some (fd_C (.int _))))).fd (fa_cons ((fe_sl rfl (fd_op (od_ix rfl) (fd_var 2) (fd_C (.int _))) fo_none (fo_some (fd_C (.int _))))).fd (fa_cons (fd_var 1) fa_nil)))))))))⟩
end
end My

set_option Elab.async false
set_option linter.all false
set_option maxRecDepth 100000
set_option maxHeartbeats 4000000
namespace My
open PySem L2

section
variable {P : Program} {w : World} {K : PySem.W.Frag} {mg : Str → Option Value} {base : Heap} {A : Adr}
theorem ok_law' (T : Txt K mg A) : FnOk P w K mg base CX0 4 A.f_law A.d_law ["_law_script"] (sp_law K) := (ok_law T).imp (sp_law_of (B := bk K A) rfl law_true)
end
theorem all_mk {l : PySem.W.OpenLaw} {w : World} {K : PySem.W.Frag} {h : Heap} {mg : Str → Option Value} {fa : Addr} (X : K.In h) (G : h.Ns mainGlobals mg) (hfa : mg "law" = some (.ref fa))
    {f0 : Addr} {od0 an0 : Option Addr} {sl0 : Array (Option Value)} {oc0 kV0 dc0 pm0 cd0 ct0 : Value}
    {f1 : Addr} {od1 an1 : Option Addr} {sl1 : Array (Option Value)} {oc1 kV1 dc1 pm1 cd1 ct1 : Value}
    {f2 : Addr} {od2 an2 : Option Addr} {sl2 : Array (Option Value)} {oc2 kV2 dc2 pm2 cd2 ct2 : Value}
    {f3 : Addr} {od3 an3 : Option Addr} {sl3 : Array (Option Value)} {oc3 kV3 dc3 pm3 cd3 ct3 : Value}
    {f4 : Addr} {od4 an4 : Option Addr} {sl4 : Array (Option Value)} {oc4 kV4 dc4 pm4 cd4 ct4 : Value}
    {f5 : Addr} {od5 an5 : Option Addr} {sl5 : Array (Option Value)} {oc5 kV5 dc5 pm5 cd5 ct5 : Value}
    {f6 : Addr} {od6 an6 : Option Addr} {sl6 : Array (Option Value)} {oc6 kV6 dc6 pm6 cd6 ct6 : Value}
    {f7 : Addr} {od7 an7 : Option Addr} {sl7 : Array (Option Value)} {oc7 kV7 dc7 pm7 cd7 ct7 : Value}
    {f8 : Addr} {od8 an8 : Option Addr} {sl8 : Array (Option Value)} {oc8 kV8 dc8 pm8 cd8 ct8 : Value}
    (a0 : PySem.W.nsIn K mainGlobals "met_ways" = some (some (.ref f0)))
    (l0 : K.lookup f0 = some ⟨oc0, od0, .func (PySem.W.fnOf "met_ways" "met_ways" (defArgs s_met_ways) (defBody s_met_ways) (defScope s_met_ways) .none kV0 dc0 pm0 an0 cd0 ct0), sl0⟩)
    (c0 : PySem.W.codeIn K cd0 "met_ways" = true)
    (k0 : PySem.W.keepIn K (.ref f0) = true)
    (a1 : PySem.W.nsIn K mainGlobals "_law_due" = some (some (.ref f1)))
    (l1 : K.lookup f1 = some ⟨oc1, od1, .func (PySem.W.fnOf "_law_due" "_law_due" (defArgs s_law_due) (defBody s_law_due) (defScope s_law_due) .none kV1 dc1 pm1 an1 cd1 ct1), sl1⟩)
    (c1 : PySem.W.codeIn K cd1 "_law_due" = true)
    (k1 : PySem.W.keepIn K (.ref f1) = true)
    (a2 : PySem.W.nsIn K mainGlobals "_law_of" = some (some (.ref f2)))
    (l2 : K.lookup f2 = some ⟨oc2, od2, .func (PySem.W.fnOf "_law_of" "_law_of" (defArgs s_law_of) (defBody s_law_of) (defScope s_law_of) .none kV2 dc2 pm2 an2 cd2 ct2), sl2⟩)
    (c2 : PySem.W.codeIn K cd2 "_law_of" = true)
    (k2 : PySem.W.keepIn K (.ref f2) = true)
    (a3 : PySem.W.nsIn K mainGlobals "_law_some" = some (some (.ref f3)))
    (l3 : K.lookup f3 = some ⟨oc3, od3, .func (PySem.W.fnOf "_law_some" "_law_some" (defArgs s_law_some) (defBody s_law_some) (defScope s_law_some) .none kV3 dc3 pm3 an3 cd3 ct3), sl3⟩)
    (c3 : PySem.W.codeIn K cd3 "_law_some" = true)
    (k3 : PySem.W.keepIn K (.ref f3) = true)
    (a4 : PySem.W.nsIn K mainGlobals "_law_met" = some (some (.ref f4)))
    (l4 : K.lookup f4 = some ⟨oc4, od4, .func (PySem.W.fnOf "_law_met" "_law_met" (defArgs s_law_met) (defBody s_law_met) (defScope s_law_met) .none kV4 dc4 pm4 an4 cd4 ct4), sl4⟩)
    (c4 : PySem.W.codeIn K cd4 "_law_met" = true)
    (k4 : PySem.W.keepIn K (.ref f4) = true)
    (a5 : PySem.W.nsIn K mainGlobals "_law_cell_at" = some (some (.ref f5)))
    (l5 : K.lookup f5 = some ⟨oc5, od5, .func (PySem.W.fnOf "_law_cell_at" "_law_cell_at" (defArgs s_law_cell_at) (defBody s_law_cell_at) (defScope s_law_cell_at) .none kV5 dc5 pm5 an5 cd5 ct5), sl5⟩)
    (c5 : PySem.W.codeIn K cd5 "_law_cell_at" = true)
    (k5 : PySem.W.keepIn K (.ref f5) = true)
    (a6 : PySem.W.nsIn K mainGlobals "_law_stream" = some (some (.ref f6)))
    (l6 : K.lookup f6 = some ⟨oc6, od6, .func (PySem.W.fnOf "_law_stream" "_law_stream" (defArgs s_law_stream) (defBody s_law_stream) (defScope s_law_stream) .none kV6 dc6 pm6 an6 cd6 ct6), sl6⟩)
    (c6 : PySem.W.codeIn K cd6 "_law_stream" = true)
    (k6 : PySem.W.keepIn K (.ref f6) = true)
    (a7 : PySem.W.nsIn K mainGlobals "_law_way" = some (some (.ref f7)))
    (l7 : K.lookup f7 = some ⟨oc7, od7, .func (PySem.W.fnOf "_law_way" "_law_way" (defArgs s_law_way) (defBody s_law_way) (defScope s_law_way) .none kV7 dc7 pm7 an7 cd7 ct7), sl7⟩)
    (c7 : PySem.W.codeIn K cd7 "_law_way" = true)
    (k7 : PySem.W.keepIn K (.ref f7) = true)
    (a8 : PySem.W.nsIn K mainGlobals "law" = some (some (.ref f8)))
    (l8 : K.lookup f8 = some ⟨oc8, od8, .func (PySem.W.fnOf "law" "law" (defArgs s_law) (defBody s_law) (defScope s_law) .none kV8 dc8 pm8 an8 cd8 ct8), sl8⟩)
    (c8 : PySem.W.codeIn K cd8 "law" = true)
    (k8 : PySem.W.keepIn K (.ref f8) = true)
    (z_int : PySem.W.nsIn K mainGlobals "int" = some none)
    (z_isinstance : PySem.W.nsIn K mainGlobals "isinstance" = some none)
    (z_len : PySem.W.nsIn K mainGlobals "len" = some none)
    (z_list : PySem.W.nsIn K mainGlobals "list" = some none)
    (z_max : PySem.W.nsIn K mainGlobals "max" = some none)
    (z_min : PySem.W.nsIn K mainGlobals "min" = some none)
    (z_range : PySem.W.nsIn K mainGlobals "range" = some none)
    (z_tuple : PySem.W.nsIn K mainGlobals "tuple" = some none) :
    ∃ fd : FuncData, (∀ (s : Shared) (v : Value), BindsTo s fd ⟨[v], []⟩ [("_law_script", v)]) ∧ ∀ base : Heap, K.In base → base.Ns mainGlobals mg → FnOk l.prog w K mg base CX0 4 fa fd ["_law_script"] (sp_law K) := by
  have e := hfa.symm.trans (PySem.W.mg_of X G a8)
  have e2 : f8 = fa := by
    injection e with e
    injection e with e
    exact e.symm
  subst e2
  have T : Txt K mg ⟨f0, PySem.W.fnOf "met_ways" "met_ways" (defArgs s_met_ways) (defBody s_met_ways) (defScope s_met_ways) .none kV0 dc0 pm0 an0 cd0 ct0, f1, PySem.W.fnOf "_law_due" "_law_due" (defArgs s_law_due) (defBody s_law_due) (defScope s_law_due) .none kV1 dc1 pm1 an1 cd1 ct1, f2, PySem.W.fnOf "_law_of" "_law_of" (defArgs s_law_of) (defBody s_law_of) (defScope s_law_of) .none kV2 dc2 pm2 an2 cd2 ct2, f3, PySem.W.fnOf "_law_some" "_law_some" (defArgs s_law_some) (defBody s_law_some) (defScope s_law_some) .none kV3 dc3 pm3 an3 cd3 ct3, f4, PySem.W.fnOf "_law_met" "_law_met" (defArgs s_law_met) (defBody s_law_met) (defScope s_law_met) .none kV4 dc4 pm4 an4 cd4 ct4, f5, PySem.W.fnOf "_law_cell_at" "_law_cell_at" (defArgs s_law_cell_at) (defBody s_law_cell_at) (defScope s_law_cell_at) .none kV5 dc5 pm5 an5 cd5 ct5, f6, PySem.W.fnOf "_law_stream" "_law_stream" (defArgs s_law_stream) (defBody s_law_stream) (defScope s_law_stream) .none kV6 dc6 pm6 an6 cd6 ct6, f7, PySem.W.fnOf "_law_way" "_law_way" (defArgs s_law_way) (defBody s_law_way) (defScope s_law_way) .none kV7 dc7 pm7 an7 cd7 ct7, f8, PySem.W.fnOf "law" "law" (defArgs s_law) (defBody s_law) (defScope s_law) .none kV8 dc8 pm8 an8 cd8 ct8⟩ := ⟨fun_mk (st := s_met_ways) l0 c0 k0, PySem.W.mg_of X G a0, fun_mk (st := s_law_due) l1 c1 k1, PySem.W.mg_of X G a1, fun_mk (st := s_law_of) l2 c2 k2, PySem.W.mg_of X G a2, fun_mk (st := s_law_some) l3 c3 k3, PySem.W.mg_of X G a3, fun_mk (st := s_law_met) l4 c4 k4, PySem.W.mg_of X G a4, fun_mk (st := s_law_cell_at) l5 c5 k5, PySem.W.mg_of X G a5, fun_mk (st := s_law_stream) l6 c6 k6, PySem.W.mg_of X G a6, fun_mk (st := s_law_way) l7 c7 k7, PySem.W.mg_of X G a7, fun_mk (st := s_law) l8 c8 k8, PySem.W.mg_of X G a8, PySem.W.mg_none_of X G z_int, PySem.W.mg_none_of X G z_isinstance, PySem.W.mg_none_of X G z_len, PySem.W.mg_none_of X G z_list, PySem.W.mg_none_of X G z_max, PySem.W.mg_none_of X G z_min, PySem.W.mg_none_of X G z_range, PySem.W.mg_none_of X G z_tuple⟩
  exact ⟨_, fun s v => .of_eq rfl, fun base _ _ => ok_law' T⟩
theorem walk {l : PySem.W.OpenLaw} {q : Program} {loose : List Str} {XP : (Str → Option Value) → Heap → Prop} {YP : World → Heap → Prop} {d : DefRec} {K : Params → PySem.W.Frag} (hn : l.most = some 63) (hdf : d.params.defaults = [])
    (hY : ∀ (w : World) (h : Heap), YP w h → (K w.params).In h)
    (F : ∀ (w : World) (mg : Str → Option Value) (fa : Addr) (h : Heap), (K w.params).In h → h.Ns mainGlobals mg → mg d.name = some (.ref fa) →
      ∃ fd : FuncData, (∀ (s : Shared) (u : Value), BindsTo s fd ⟨[u], []⟩ [("_law_script", u)]) ∧ ∀ base : Heap, (K w.params).In base → base.Ns mainGlobals mg → FnOk l.prog w (K w.params) mg base CX0 4 fa fd ["_law_script"] (sp_law (K w.params))) :
    PySem.W.WalkO q loose XP YP l.row.toRowW d [] (fun f vs => PySem.call f vs) :=
  L2.walk_of (n := 63) (k := 4) (x := "_law_script") (CX := fun _ => CX0) (sp := fun w => sp_law (K w.params)) hn (by decide) hdf ⟨rfl, by decide, by decide⟩ hY F (fun _ _ a ns hl hO hS => ⟨a, ns, rfl, hS, hO, hl, fun _ => rfl⟩) fun _ _ _ _ _ z => z
end My
open PySem PySem.W PyProof.Rows
set_option maxRecDepth 100000 in
set_option maxHeartbeats 0 in
theorem PySem.Challenge.cw_mightever_k12_ways_met_holds : PySem.Challenge.rw_mightever_k12_ways_met.Holds := by
  w_on; o_law; k_head; (case hw => w_witness2)
  k_fill
  refine My.walk (l := PySem.Challenge.rw_mightever_k12_ways_met) rfl rfl (fun w h Y => PySem.W.kIn_of Y) ?F
  case F =>
    intro w mg fa h KX G hmg
    refine' My.all_mk KX G hmg ?a0 ?l0 ?c0 ?k0 ?a1 ?l1 ?c1 ?k1 ?a2 ?l2 ?c2 ?k2 ?a3 ?l3 ?c3 ?k3 ?a4 ?l4 ?c4 ?k4 ?a5 ?l5 ?c5 ?k5 ?a6 ?l6 ?c6 ?k6 ?a7 ?l7 ?c7 ?k7 ?a8 ?l8 ?c8 ?k8 ?z_int ?z_isinstance ?z_len ?z_list ?z_max ?z_min ?z_range ?z_tuple
    (case a0 => k_is)
    (case l0 => k_is)
    (case c0 => k_is)
    (case k0 => k_is)
    (case a1 => k_is)
    (case l1 => k_is)
    (case c1 => k_is)
    (case k1 => k_is)
    (case a2 => k_is)
    (case l2 => k_is)
    (case c2 => k_is)
    (case k2 => k_is)
    (case a3 => k_is)
    (case l3 => k_is)
    (case c3 => k_is)
    (case k3 => k_is)
    (case a4 => k_is)
    (case l4 => k_is)
    (case c4 => k_is)
    (case k4 => k_is)
    (case a5 => k_is)
    (case l5 => k_is)
    (case c5 => k_is)
    (case k5 => k_is)
    (case a6 => k_is)
    (case l6 => k_is)
    (case c6 => k_is)
    (case k6 => k_is)
    (case a7 => k_is)
    (case l7 => k_is)
    (case c7 => k_is)
    (case k7 => k_is)
    (case a8 => k_is)
    (case l8 => k_is)
    (case c8 => k_is)
    (case k8 => k_is)
    (case z_int => k_is)
    (case z_isinstance => k_is)
    (case z_len => k_is)
    (case z_list => k_is)
    (case z_max => k_is)
    (case z_min => k_is)
    (case z_range => k_is)
    (case z_tuple => k_is)
#print axioms PySem.Challenge.cw_mightever_k12_ways_met_holds
