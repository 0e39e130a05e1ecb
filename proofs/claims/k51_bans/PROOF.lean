import PyProof.Rows.All
import Wide.All
import OpenK.AllK
import Wide.FinOn
import Lean
import PyProof.EqAt
import PyProof.EqKinds
import PyProof.TupleCall
import PySem.Challenge.RW_mightever_k51_bans_and_ways
set_option Elab.async false
set_option linter.all false
set_option maxRecDepth 100000
namespace L2
open PySem PySem.Spec PyProof.Rows

abbrev Key := Sum Int Str
def keyIs : Key → Value → Bool
  | .inl k, v => Value.isInt k v
  | .inr x, v => Value.isStrOf x v
def keyH (w : World) : Key → Int
  | .inl k => hashInt k
  | .inr x => hashStr w x
theorem keyIs_shape : ∀ {k : Key} {v : Value}, keyIs k v = true → (∃ i t, k = Sum.inl i ∧ v = Value.int i t) ∨ (∃ x t, k = Sum.inr x ∧ v = Value.str x t)
  | .inl i, v, h => by
    obtain ⟨t, e⟩ := Value.isInt_shape (k := i) (v := v) h
    exact .inl ⟨i, t, rfl, e⟩
  | .inr x, v, h => by
    obtain ⟨t, e⟩ := Value.isStrOf_shape (x := x) (v := v) h
    exact .inr ⟨x, t, rfl, e⟩
theorem keyIs_int (i : Int) (t : Tok) : keyIs (.inl i) (.int i t) = true := by simp [keyIs, Value.isInt]
theorem keyIs_str (x : Str) (t : Tok) : keyIs (.inr x) (.str x t) = true := by simp [keyIs, Value.isStrOf]
theorem key_ll (a b : Int) : decide ((Sum.inl a : Key) = Sum.inl b) = (a == b) := by
  by_cases e : a = b
  · subst e; simp
  · have h : ¬ (Sum.inl a : Key) = Sum.inl b := fun q => e (Sum.inl.inj q)
    rw [decide_eq_false h]
    exact (beq_eq_false_iff_ne.mpr e).symm
theorem key_rr (a b : Str) : decide ((Sum.inr a : Key) = Sum.inr b) = decide (a = b) := by
  by_cases e : a = b
  · subst e; simp
  · have h : ¬ (Sum.inr a : Key) = Sum.inr b := fun q => e (Sum.inr.inj q)
    rw [decide_eq_false h, decide_eq_false e]
theorem key_lr (a : Int) (b : Str) : decide ((Sum.inl a : Key) = Sum.inr b) = false := decide_eq_false (fun q => nomatch q)
theorem key_rl (a : Str) (b : Int) : decide ((Sum.inr a : Key) = Sum.inl b) = false := decide_eq_false (fun q => nomatch q)

def mixKind (prog : Program) (w : World) : PySem.KeyKind prog w Key where
  is := keyIs
  hash := keyH w
  inj := fun v a b ha hb => by
    rcases keyIs_shape ha with ⟨i, t, rfl, rfl⟩ | ⟨x, t, rfl, rfl⟩
    · rcases keyIs_shape hb with ⟨j, u, rfl, e⟩ | ⟨y, u, rfl, e⟩
      · injection e with e1 _; rw [e1]
      · exact nomatch e
    · rcases keyIs_shape hb with ⟨j, u, rfl, e⟩ | ⟨y, u, rfl, e⟩
      · exact nomatch e
      · injection e with e1 _; rw [e1]
  byValue := fun k v h => by
    rcases keyIs_shape h with ⟨i, t, rfl, rfl⟩ | ⟨x, t, rfl, rfl⟩ <;> rfl
  pyHash := fun hv h => by
    rcases keyIs_shape hv with ⟨i, t, rfl, rfl⟩ | ⟨x, t, rfl, rfl⟩
    · exact wpAny_pyHash_int h
    · exact wpAny_pyHash_str h
  eqBool := fun hu hv h => by
    rcases keyIs_shape hu with ⟨i, t, rfl, rfl⟩ | ⟨x, t, rfl, rfl⟩
    · rcases keyIs_shape hv with ⟨j, u, rfl, rfl⟩ | ⟨y, u, rfl, rfl⟩
      · rw [key_ll] at h; exact wpAny_eqBool_int h
      · rw [key_lr] at h; exact SeqAt.EqAt.int_str i t y u _ _ _ _ h
    · rcases keyIs_shape hv with ⟨j, u, rfl, rfl⟩ | ⟨y, u, rfl, rfl⟩
      · rw [key_rl] at h; exact SeqAt.EqAt.str_int x t j u _ _ _ _ h
      · rw [key_rr] at h; exact wpAny_eqBool_str h
  «strs» := fun k x t v h => by
    rcases keyIs_shape h with ⟨i, u, rfl, e⟩ | ⟨y, u, rfl, e⟩
    · exact nomatch e
    · injection e with e1 _
      subst e1
      cases v <;> rfl

theorem mixKind_int (prog : Program) (w : World) (i : Int) (t : Tok) : (mixKind prog w).is (.inl i) (.int i t) = true := keyIs_int i t
theorem mixKind_str (prog : Program) (w : World) (x : Str) (t : Tok) : (mixKind prog w).is (.inr x) (.str x t) = true := keyIs_str x t
end L2

namespace L2
open PySem PySem.Spec PyProof.Rows

inductive V where
  | non | bl (b : Bool) | int (i : Int) | str (x : Str) | byt (b : Array UInt8) | flt (b : UInt64) | ref (a : Addr) | ty (n : String)
  deriving DecidableEq

def RelV : V → Value → Prop
  | .non, u => u = Value.none
  | .bl b, u => u = Value.bool b
  | .int i, u => ∃ t, u = Value.int i t
  | .str x, u => ∃ t, u = Value.str x t
  | .byt b, u => ∃ t, u = Value.bytes b t
  | .flt b, u => ∃ t, u = Value.float b t
  | .ref a, u => u = Value.ref a
  | .ty n, u => u = Value.type n

abbrev Vals : List V → List Value → Prop := Paired RelV
theorem Vals.length {xs : List V} {us : List Value} (r : Vals xs us) : xs.length = us.length := Paired.length r
theorem Vals.get : ∀ {xs : List V} {us : List Value} {i : Nat} {x : V}, Vals xs us → xs[i]? = some x → ∃ u, us[i]? = some u ∧ RelV x u
  | _, _, _, _, .nil, e => by simp at e
  | _, _, 0, _, .cons r _, e => by simp at e; subst e; exact ⟨_, rfl, r⟩
  | _, _, i + 1, x, .cons _ t, e => by
    obtain ⟨u, h1, h2⟩ := Vals.get (i := i) (x := x) t (by simpa using e)
    exact ⟨u, by simpa using h1, h2⟩
theorem Vals.append : ∀ {xs ys : List V} {us ws : List Value}, Vals xs us → Vals ys ws → Vals (xs ++ ys) (us ++ ws)
  | _, _, _, _, .nil, s => s
  | _, _, _, _, .cons r t, s => .cons r (Vals.append t s)
theorem Vals.take : ∀ {xs : List V} {us : List Value} (n : Nat), Vals xs us → Vals (xs.take n) (us.take n)
  | _, _, 0, _ => .nil
  | _, _, _ + 1, .nil => .nil
  | _, _, n + 1, .cons r t => .cons r (Vals.take n t)
theorem Vals.drop : ∀ {xs : List V} {us : List Value} (n : Nat), Vals xs us → Vals (xs.drop n) (us.drop n)
  | _, _, 0, r => r
  | _, _, _ + 1, .nil => .nil
  | _, _, n + 1, .cons _ t => Vals.drop n t
def RelO : Option V → Option Value → Prop
  | some v, some u => RelV v u
  | none, none => True
  | _, _ => False
def KV {κ : Type} : List (κ × V) → List (κ × Value) → Prop := Paired fun (p : κ × V) (q : κ × Value) => p.1 = q.1 ∧ RelV p.2 q.2

def kV : Key → V
  | .inl i => .int i
  | .inr x => .str x

inductive HO where
  /-- a list -/
  | lst (xs : List V)
  /-- a tuple (never changes) -/
  | tup (xs : List V)
  /-- a dict whose keys are ints and texts; one whose keys are tuples of ints and texts (the empty one is both) -/
  | dK (kvs : List (Key × V)) | dT (kvs : List (List Key × V))
  /-- a set of ints: its members, its size -/
  | set (S : Int → Bool) (n : Nat)
  /-- an instance of the class at C, its dict at dx, its attributes -/
  | ins (C dx : Addr) (fs : List (Str × V))
  /-- the dict of the instance at x -/
  | own (x : Addr)
  /-- the dict of an exception -/
  | xd (fs : List (Str × V))
  /-- a bound method, f of x -/
  | met (f x : Addr)
  /-- a range object lo, lo + 1, .. below hi -/
  | rng (lo hi : Int)
  /-- a thing that is known to the object (the script; a dict while a loop walks it): read, never written while it is so -/
  | frz (o : Obj) (u : HO)
  /-- a code object's table -/
  | tbl (ps : Array Value)
  /-- any other thing, by what is true of its one object (a def of one's own: SetO a S n := HO.ext fun h => ..) -/
  | ext (φ : Heap → Prop)

abbrev Hp := Addr → Option HO
def upd (H : Hp) (a : Addr) (o : HO) : Hp := fun b => if b = a then some o else H b
theorem upd_same {H : Hp} {a : Addr} {o : HO} : upd H a o a = some o := by unfold upd; rw [if_pos rfl]
theorem upd_ne {H : Hp} {a b : Addr} {o : HO} (h : b ≠ a) : upd H a o b = H b := by unfold upd; rw [if_neg h]
theorem ne_of_none {H : Hp} {a b : Addr} {o : HO} (h : H a = some o) (h' : H b = none) : a ≠ b := by
  intro e; subst e; rw [h] at h'; cases h'

section
variable (P : Program) (w : World)
def ObjOk (H : Hp) (h : Heap) (a : Addr) : HO → Prop
  | .lst xs => xs.length ≤ sizeLine ∧ ∃ (its : List Value) (n : Nat), Vals xs its ∧ h.get? a = some { cls := .type "list", data := .seq its.toArray n }
  | .tup xs => xs.length ≤ sizeLine ∧ ∃ its : List Value, Vals xs its ∧ IsTup h a its.toArray
  | .dK kvs => kvs.length ≤ sizeLine ∧ (a == sysModules) = false ∧ ∃ vs, KV kvs vs ∧ h.DictOf (mixKind P w) a vs
  | .dT kvs => kvs.length ≤ sizeLine ∧ (a == sysModules) = false ∧ ∃ xs : List (List Key × Addr × Value),
      Paired (fun (p : List Key × V) (q : List Key × Addr × Value) => p.1 = q.1 ∧ H q.2.1 = some (.tup (p.1.map kV)) ∧ RelV p.2 q.2.2) kvs xs ∧
      ∃ o es ep, h.get? a = some o ∧ o.ExactDict ∧ o.data = .dict es ep ∧ es.toList = xs.map (entryOfKey (tupleKind (mixKind P w))) ∧ (xs.map (·.1)).Nodup
  | .set S n => h.SetOf (intKind P w) a S n
  | .ins C dx fs => H dx = some (.own a) ∧ fs.length ≤ 1000 ∧ dx ≠ a ∧ h.get? a = some (PySem.W.instObj C dx) ∧
      ∃ mA, h.Ns1 dx mA ∧ (∀ f, RelO (fs.lookup f) (mA f)) ∧ PySem.Within mA (fs.map (·.1))
  | .own _ => ∃ o, h.get? a = some o
  | .xd fs => ∃ mA, h.Ns1 a mA ∧ ∀ f, RelO (fs.lookup f) (mA f)
  | .rng lo hi => ∃ t u v, h.get? a = some { cls := .type "range", data := .fields #[.int lo t, .int hi u, .int 1 v] }
  | .frz o u => h.get? a = some o ∧ ObjOk H h a u
  | .tbl ps => h.get? a = some { cls := .none, data := .fields ps }
  | .met f x => h.get? a = some (PySem.W.methodObj (.ref f) (.ref x))
  | .ext φ => φ h ∧ (∃ o, h.get? a = some o) ∧ ∀ h1 h2 : Heap, φ h1 → (∀ o, h1.get? a = some o → h2.get? a = some o) → φ h2
def HOk (H : Hp) (h : Heap) : Prop := ∀ a o, H a = some o → ObjOk P w H h a o
end

section
variable {P : Program} {w : World} {H H' : Hp} {h h' : Heap} {a : Addr} {o : HO}
theorem ObjOk.lt (x : ObjOk P w H h a o) : a < h.objs.size := by
  cases o with
  | lst xs => obtain ⟨_, _, _, _, e⟩ := x; exact Heap.lt_size e
  | tup xs => obtain ⟨_, _, _, p⟩ := x; exact p.lt
  | dK kvs => obtain ⟨_, _, _, _, o, _, _, e, _⟩ := x; exact Heap.lt_size e
  | dT kvs => obtain ⟨_, _, _, _, o, _, _, e, _⟩ := x; exact Heap.lt_size e
  | set S n => obtain ⟨o, _, _, _, e, _⟩ := x; exact Heap.lt_size e
  | ins C dx fs => obtain ⟨_, _, _, e, _⟩ := x; exact Heap.lt_size e
  | own y => obtain ⟨_, e⟩ := x; exact Heap.lt_size e
  | xd fs => obtain ⟨_, ⟨_, _, _, e, _⟩, _⟩ := x; exact Heap.lt_size e
  | rng lo hi => obtain ⟨_, _, _, e⟩ := x; exact Heap.lt_size e
  | frz ob u => obtain ⟨e, _⟩ := x; exact Heap.lt_size e
  | tbl ps => exact Heap.lt_size (show h.get? a = some _ from x)
  | met f y => exact Heap.lt_size (show h.get? a = some _ from x)
  | ext φ => obtain ⟨_, ⟨_, e⟩, _⟩ := x; exact Heap.lt_size e
theorem Paired.mapP {α β : Type} {F G : α → β → Prop} : ∀ {l₁ : List α} {l₂ : List β}, Paired F l₁ l₂ → (∀ a b, F a b → G a b) → Paired G l₁ l₂
  | _, _, .nil, _ => .nil
  | _, _, .cons r t, f => .cons (f _ _ r) (Paired.mapP t f)
theorem ObjOk.stay (x : ObjOk P w H h a o) (k : ∀ b u, (b = a ∨ H b = some (.own a)) → h.get? b = some u → h'.get? b = some u)
    (ho : ∀ b, H b = some (.own a) → H' b = some (.own a)) (ht : ∀ b xs, H b = some (.tup xs) → H' b = some (.tup xs)) : ObjOk P w H' h' a o := by
  induction o with
  | lst xs => obtain ⟨z, its, n, r, e⟩ := x; exact ⟨z, its, n, r, k _ _ (.inl rfl) e⟩
  | tup xs => obtain ⟨z, its, r, ob, e, c⟩ := x; exact ⟨z, its, r, ob, k _ _ (.inl rfl) e, c⟩
  | dK kvs => obtain ⟨z, y, vs, r, ob, es, ep, e, c⟩ := x; exact ⟨z, y, vs, r, ob, es, ep, k _ _ (.inl rfl) e, c⟩
  | dT kvs =>
    obtain ⟨z, y, xs, r, ob, es, ep, e, c⟩ := x
    exact ⟨z, y, xs, Paired.mapP r fun p q z => ⟨z.1, ht _ _ z.2.1, z.2.2⟩, ob, es, ep, k _ _ (.inl rfl) e, c⟩
  | set S n => obtain ⟨ob, es, ep, t, e, c⟩ := x; exact ⟨ob, es, ep, t, k _ _ (.inl rfl) e, c⟩
  | ins C dx fs =>
    obtain ⟨d, z, ne, e, mA, ⟨od, es, ep, e2, c⟩, r⟩ := x
    exact ⟨ho _ d, z, ne, k _ _ (.inl rfl) e, mA, ⟨od, es, ep, k _ _ (.inr d) e2, c⟩, r⟩
  | own y => obtain ⟨ob, e⟩ := x; exact ⟨ob, k _ _ (.inl rfl) e⟩
  | xd fs => obtain ⟨mA, ⟨od, es, ep, e, c⟩, r⟩ := x; exact ⟨mA, ⟨od, es, ep, k _ _ (.inl rfl) e, c⟩, r⟩
  | rng lo hi => obtain ⟨t, u, v, e⟩ := x; exact ⟨t, u, v, k _ _ (.inl rfl) e⟩
  | frz ob u ih => obtain ⟨e, q⟩ := x; exact ⟨k _ _ (.inl rfl) e, ih q⟩
  | tbl ps =>
    have e : h.get? a = some { cls := .none, data := .fields ps } := x
    show h'.get? a = some { cls := .none, data := .fields ps }
    exact k a _ (.inl rfl) e
  | met f y =>
    have e : h.get? a = some (PySem.W.methodObj (.ref f) (.ref y)) := x
    show h'.get? a = some (PySem.W.methodObj (.ref f) (.ref y))
    exact k a _ (.inl rfl) e
  | ext φ => obtain ⟨p, ⟨o, e⟩, st⟩ := x; exact ⟨st _ _ p fun o q => k _ _ (.inl rfl) q, ⟨o, k _ _ (.inl rfl) e⟩, st⟩
theorem HOk.lt (x : HOk P w H h) (e : H a = some o) : a < h.objs.size := (x a o e).lt
theorem HOk.fresh (x : HOk P w H h) (e : h.objs.size ≤ a) : H a = none := by
  cases q : H a with
  | none => rfl
  | some u => exact absurd (Nat.lt_of_lt_of_le (x.lt q) e) (Nat.lt_irrefl _)
theorem HOk.kept (x : HOk P w H h) (k : ∀ b u, h.get? b = some u → h'.get? b = some u) : HOk P w H h' := fun a o e =>
  (x a o e).stay (fun b u _ q => k b u q) (fun _ q => q) fun _ _ q => q
theorem HOk.laid (x : HOk P w H h) (k : ∀ b u, h.get? b = some u → h'.get? b = some u) (hp : h.objs.size ≤ a) (new : ObjOk P w (upd H a o) h' a o) : HOk P w (upd H a o) h' := fun b u e => by
  have hn := x.fresh hp
  by_cases hb : b = a
  · subst hb; rw [upd_same] at e; cases e; exact new
  · rw [upd_ne hb] at e
    exact (x b u e).stay (fun c v _ q => k c v q) (fun c q => by rw [upd_ne (ne_of_none q hn)]; exact q) fun c xs q => by rw [upd_ne (ne_of_none q hn)]; exact q
end

def Rd (H : Hp) (a : Addr) (u : HO) : Prop := H a = some u ∨ ∃ o, H a = some (.frz o u)
theorem Rd.ok {P : Program} {w : World} {H : Hp} {h : Heap} {a : Addr} {u : HO} (r : Rd H a u) (x : HOk P w H h) : ObjOk P w H h a u := by
  rcases r with r | ⟨o, r⟩
  · exact x a u r
  · obtain ⟨_, q⟩ := x a _ r
    exact q
def Mut : Option HO → Prop
  | some (.lst _) => True
  | some (.dK _) => True
  | some (.dT _) => True
  | some (.set _ _) => True
  | some (.ins _ _ _) => True
  | some (.ext _) => True
  | _ => False
section
variable {P : Program} {w : World} {H : Hp} {h h' : Heap} {x e : Addr} {o' : HO}
theorem HOk.write (ok : HOk P w H h) (mu : Mut (H x)) (he : e = x ∨ H e = some (.own x)) (k : ∀ b u, b ≠ e → h.get? b = some u → h'.get? b = some u) (heo : ∃ u, h'.get? e = some u)
    (new : ObjOk P w (upd H x o') h' x o') : HOk P w (upd H x o') h' := fun b u q => by
  have nown : ∀ c y, H c = some (.own y) → c ≠ x := fun c y r z => by subst z; rw [r] at mu; exact mu
  have ntup : ∀ c xs, H c = some (.tup xs) → c ≠ x := fun c xs r z => by subst z; rw [r] at mu; exact mu
  by_cases hb : b = x
  · subst hb; rw [upd_same] at q; cases q; exact new
  · rw [upd_ne hb] at q
    by_cases hbe : b = e
    · have q' : H b = some (.own x) := by
        rcases he with z | z
        · exact absurd (hbe.trans z) hb
        · rw [hbe]; exact z
      rw [q] at q'; cases q'
      obtain ⟨v, hv⟩ := heo
      exact ⟨v, by rw [hbe]; exact hv⟩
    · refine (ok b u q).stay (fun c v hc r => k c v ?_ r) (fun c r => by rw [upd_ne (nown c b r)]; exact r) fun c xs r => by rw [upd_ne (ntup c xs r)]; exact r
      rcases hc with rfl | hc
      · exact hbe
      · rintro rfl
        rcases he with z | z
        · exact nown c b hc z
        · rw [hc] at z; cases z; exact hb rfl
end

structure Un (fs ex : List Addr) (H H' : Hp) (h h' : Heap) : Prop where
  keep : ∀ b o, h.get? b = some o → H b = none → b ∉ fs → b ∉ ex → h'.get? b = some o
  slot : ∀ b o, h.get? b = some o → H b = none → b ∈ fs → b ∉ ex → ∃ sl, h'.get? b = some { o with slots := sl }
  free : ∀ b o, h.get? b = some o → H b = none → b ∉ ex → H' b = none
  there : ∀ b o, h.get? b = some o → b ∉ ex → ∃ o', h'.get? b = some o'
  tups : ∀ b xs, H b = some (.tup xs) → H' b = some (.tup xs)
  frzs : ∀ b o u, H b = some (.frz o u) → H' b = some (.frz o u)
  tbls : ∀ b ps, H b = some (.tbl ps) → ∃ more, H' b = some (.tbl (ps ++ more))
section
variable {fs fs' ex ex' : List Addr} {H H1 H2 : Hp} {h h1 h2 h' : Heap} {a x e : Addr} {o : HO}
theorem Un.any (u : Un fs ex H H1 h h1) {b : Addr} {ob : Obj} (q : h.get? b = some ob) (n : H b = none) (hx : b ∉ ex) : ∃ sl, h1.get? b = some { ob with slots := sl } := by
  by_cases hb : b ∈ fs
  · exact u.slot b ob q n hb hx
  · exact ⟨ob.slots, u.keep b ob q n hb hx⟩
theorem Un.kept (k : ∀ b u, h.get? b = some u → h'.get? b = some u) : Un fs ex H H h h' :=
  ⟨fun b ob q _ _ _ => k b ob q, fun b ob q _ _ _ => ⟨ob.slots, k b ob q⟩, fun _ _ _ n _ => n, fun b ob q _ => ⟨ob, k b ob q⟩, fun _ _ q => q, fun _ _ _ q => q, fun _ ps q => ⟨#[], by rw [q]; simp⟩⟩
theorem Un.refl : Un fs ex H H h h := Un.kept fun _ _ q => q
theorem Un.laid (k : ∀ b u, h.get? b = some u → h'.get? b = some u) (hp : h.objs.size ≤ a) (hn : H a = none) : Un fs ex H (upd H a o) h h' where
  keep := fun b u q _ _ _ => k b u q
  slot := fun b u q _ _ _ => ⟨u.slots, k b u q⟩
  free := fun b u q n _ => by rw [upd_ne (Nat.ne_of_lt (Nat.lt_of_lt_of_le (Heap.lt_size q) hp))]; exact n
  there := fun b u q _ => ⟨u, k b u q⟩
  tups := fun b xs q => by rw [upd_ne (ne_of_none q hn)]; exact q
  frzs := fun b u xs q => by rw [upd_ne (ne_of_none q hn)]; exact q
  tbls := fun b ps q => ⟨#[], by rw [upd_ne (ne_of_none q hn), q]; simp⟩
theorem Un.write (mu : Mut (H x)) (he : e = x ∨ H e = some (.own x)) (k : ∀ b u, b ≠ e → h.get? b = some u → h'.get? b = some u) (heo : ∃ u, h'.get? e = some u) : Un fs ex H (upd H x o) h h' := by
  have hx : ∀ b, H b = none → b ≠ x := fun b n z => by subst z; rw [n] at mu; exact mu
  have hb : ∀ b, H b = none → b ≠ e := fun b n z => by
    subst z
    rcases he with r | r
    · exact hx b n r
    · rw [n] at r; cases r
  have hm : ∀ b u, H b = some u → ¬ Mut (some u) → b ≠ x := fun b u q nm z => by subst z; rw [q] at mu; exact nm mu
  refine ⟨fun b u q n _ _ => k b u (hb b n) q, fun b u q n _ _ => ⟨u.slots, k b u (hb b n) q⟩, fun b u q n _ => by rw [upd_ne (hx b n)]; exact n, fun b u q _ => ?_,
    fun b xs q => by rw [upd_ne (hm b _ q fun z => z)]; exact q, fun b u xs q => by rw [upd_ne (hm b _ q fun z => z)]; exact q, fun b ps q => ⟨#[], by rw [upd_ne (hm b _ q fun z => z), q]; simp⟩⟩
  by_cases hbe : b = e
  · subst hbe; exact heo
  · exact ⟨u, k b u hbe q⟩
end

def trk (h : Heap) (H : Hp) : List Addr := (List.range h.objs.size).filter fun a => (H a).isSome
def hidT (h : Heap) (H : Hp) : Heap := PySem.W.hideAll h (trk h H)
theorem hidT_size (h : Heap) (H : Hp) : (hidT h H).objs.size = h.objs.size := PySem.W.hideAll_size _ _
theorem hidT_get {h : Heap} {H : Hp} {b : Addr} {o : Obj} (e : h.get? b = some o) (n : H b = none) : (hidT h H).get? b = some o :=
  PySem.W.hideAll_get _ e fun hm => by
    have q : (H b).isSome = true := (List.mem_filter.mp hm).2
    rw [n] at q; simp at q
theorem of_hidT {h : Heap} {H : Hp} {b : Addr} {o : Obj} (e : (hidT h H).get? b = some o) : h.get? b = some o ∧ H b = none := by
  have e' : h.get? b = some o := PySem.W.of_hideAll (trk h H) e
  refine ⟨e', ?_⟩
  cases q : H b with
  | none => rfl
  | some x =>
    have hm : b ∈ trk h H := List.mem_filter.mpr ⟨List.mem_range.mpr (Heap.lt_size e'), by simp [q]⟩
    have z : (hidT h H).get? b = none := PySem.W.hideAll_none (trk h H) hm
    rw [z] at e; cases e

def allNews (g h : Heap) (L : Addr) : List (Addr × Obj) := (List.range h.objs.size).filterMap fun a => if a = L ∨ (g.get? a).isSome = true then none else (h.get? a).map fun o => (a, o)
def rest (g h : Heap) (L d : Addr) : List (Addr × Obj) := (allNews g h L).filter fun p => decide (p.1 ≠ d)
end L2

namespace L2
open PySem PySem.Spec PyProof.Rows

structure Mod (K : PySem.W.Frag) (mg : Str → Option Value) (base : Heap) : Prop where
  kin : K.In base
  glob : base.Ns mainGlobals mg
  blt : ∃ mb, base.Ns builtinsNs mb ∧ ∀ x : Str, x ≠ "__name__" → mb x = bootBuiltins x
  nolimit : base.NoLimit

structure Cx where
  prog : Program
  w : World
  K : PySem.W.Frag
  mg : Str → Option Value
  base : Heap
  A : Around
  N : List Str
  s₀ : Shared
  H₀ : Hp
  env : Env
  outer : List Env
  stack : List Env
  ex : List Addr
  fn : Str → Bool
  calm : Bool
  pn : List (Addr × Obj)
  xe : Value → Shared → Prop
def frs (l : List Env) : List Addr := l.filterMap (·.frame)
abbrev Cx.fs (X : Cx) : List Addr := frs X.outer

def Vis (sc : Scope) (x : Str) : Prop := sc.names.lookup x = some .local ∨ sc.names.lookup x = some .cell ∨ sc.names.lookup x = some .free
def Loc (sc : Scope) (x : Str) : Prop := sc.names.lookup x = some .local ∨ sc.names.lookup x = some .cell
def Look (env : Env) (h : Heap) (m : Str → Option Value) (x : Str) (u : Value) : Prop :=
  (env.kindOf x = some .local ∧ m x = some u) ∨ ((env.kindOf x = some .cell ∨ env.kindOf x = some .free) ∧ ∃ c, env.cells.lookup x = some c ∧ h.IsCell c (some u))

structure Cx.Ok (X : Cx) : Prop where
  mod : Mod X.K X.mg X.base
  kind : X.env.scope.kind = .function
  glob : X.env.globals = mainGlobals
  blt : X.env.builtins = builtinsNs
  above : X.s₀.heap.objs.size ≤ X.env.locals
  inj : ∀ x y c, X.env.cells.lookup x = some c → X.env.cells.lookup y = some c → x = y
  has : ∀ x, (X.env.kindOf x = some .cell ∨ X.env.kindOf x = some .free) → ∃ c, X.env.cells.lookup x = some c
  cab : ∀ x c, X.fn x = true → X.env.cells.lookup x = some c → X.s₀.heap.objs.size ≤ c
  hd : X.calm = true → X.A.handled = none
  frames : X.A.frames = some X.stack
  stk : X.stack = X.outer ∨ (X.stack = X.env :: X.outer ∧ X.env.frame = some X.env.locals)
  exf : ∀ b ∈ X.ex, b ≠ X.env.locals ∧ ∀ x c, X.env.cells.lookup x = some c → c ≠ b
  bs : ∀ b o, X.base.get? b = some o → X.s₀.heap.get? b = some o ∧ X.H₀ b = none
  bsz : X.base.objs.size ≤ X.s₀.heap.objs.size
  noex : ∀ b o, X.base.get? b = some o → b ∉ X.ex
  exfs : ∀ b ∈ X.ex, b ∉ X.fs
  funs : X.s₀.heap.FunFrames X.base X.outer
  frf : ∀ b ∈ X.fs, X.H₀ b = none

structure Inv (X : Cx) (pins : List (Addr × Obj)) (σ : List (Option V)) (H : Hp) (s : Shared) : Prop where
  ok : X.Ok
  os : s.os = X.s₀.os
  bare : AllBare s.gens
  base : Un X.fs X.ex X.H₀ H X.s₀.heap s.heap
  loc : ∃ m, s.heap.Ns X.env.locals m ∧ ∀ (i : Nat) (x : Str) (v : V), X.N[i]? = some x → σ[i]? = some (some v) → Vis X.env.scope x → ∃ u, RelV v u ∧ Look X.env s.heap m x u
  cell : ∀ x c, X.env.cells.lookup x = some c → ∃ v, s.heap.IsCell c v
  free : H X.env.locals = none
  freeC : ∀ x c, X.env.cells.lookup x = some c → H c = none
  pin : ∀ p ∈ X.pn ++ pins, s.heap.get? p.1 = some p.2 ∧ H p.1 = none ∧ p.1 ≠ X.env.locals ∧ p.1 ∉ X.fs ∧ ∀ v, p.2.data ≠ .cell v
  hok : HOk X.prog X.w H s.heap
  len : σ.length = X.N.length

section
variable {X : Cx} {pins : List (Addr × Obj)} {σ : List (Option V)} {H H' : Hp} {s : Shared} {h' : Heap}

theorem Cx.Ok.nofr (ok : X.Ok) {b : Addr} {o : Obj} (e : X.base.get? b = some o) : b ∉ X.fs := fun hb => by
  have := (ok.funs.mem hb).1
  rw [e] at this; cases this
theorem Inv.bs (I : Inv X pins σ H s) : ∀ b o, X.base.get? b = some o → s.heap.get? b = some o ∧ H b = none := fun b o e =>
  ⟨I.base.keep b o (I.ok.bs b o e).1 (I.ok.bs b o e).2 (I.ok.nofr e) (I.ok.noex b o e), I.base.free b o (I.ok.bs b o e).1 (I.ok.bs b o e).2 (I.ok.noex b o e)⟩
theorem Inv.bk (I : Inv X pins σ H s) : ∀ b o, X.base.get? b = some o → s.heap.get? b = some o := fun b o e => (I.bs b o e).1
theorem Inv.mod (I : Inv X pins σ H s) : Mod X.K X.mg X.base := I.ok.mod
theorem Inv.kIn (I : Inv X pins σ H s) : X.K.In s.heap := I.ok.mod.kin.keeps I.bk
theorem Inv.lt (I : Inv X pins σ H s) : X.env.locals < s.heap.objs.size := let ⟨_, hn, _⟩ := I.loc; hn.lt
theorem Inv.sz (I : Inv X pins σ H s) : X.s₀.heap.objs.size ≤ s.heap.objs.size := Nat.le_trans I.ok.above (Nat.le_of_lt I.lt)
theorem Inv.nofs (I : Inv X pins σ H s) {a : Addr} (h : s.heap.objs.size ≤ a) : a ∉ X.fs := fun hb => by
  obtain ⟨_, o, ho, _⟩ := I.ok.funs.mem hb
  exact absurd (Nat.lt_of_lt_of_le (Heap.lt_size ho) (Nat.le_trans I.sz h)) (Nat.lt_irrefl _)
theorem Inv.cne (I : Inv X pins σ H s) : ∀ x c, X.env.cells.lookup x = some c → c ≠ X.env.locals := fun x c e z => by
  obtain ⟨v, o, ho, hd⟩ := I.cell x c e
  obtain ⟨m, ⟨o', es, ep, ho', hd', _⟩, _⟩ := I.loc
  rw [z, ho'] at ho; cases ho; rw [hd'] at hd; cases hd
theorem Inv.funs (I : Inv X pins σ H s) : s.heap.FunFrames X.base X.outer := by
  have all : ∀ (l : List Env), (∀ b ∈ frs l, b ∈ X.fs) → X.s₀.heap.FunFrames X.base l → s.heap.FunFrames X.base l := by
    intro l
    induction l with
    | nil => intro _ _; trivial
    | cons env r ih =>
      intro hs hl
      obtain ⟨hk, ⟨L, o, hf, hn, ho, hd⟩, hr⟩ := hl
      have hL : L ∈ X.fs := hs L (by unfold frs; rw [List.filterMap_cons, hf]; exact List.mem_cons_self)
      obtain ⟨sl, e⟩ := I.base.slot L o ho (I.ok.frf L hL) hL fun z => I.ok.exfs L z hL
      exact ⟨hk, ⟨L, _, hf, hn, e, hd⟩, ih (fun b hb => hs b (by unfold frs; rw [List.filterMap_cons, hf]; exact List.mem_cons_of_mem _ hb)) hr⟩
  exact all X.outer (fun _ hb => hb) I.ok.funs

theorem Inv.stack (I : Inv X pins σ H s) : s.heap.FunFrames X.base X.stack := by
  rcases I.ok.stk with e | ⟨e, hf⟩
  · rw [e]; exact I.funs
  · rw [e]
    obtain ⟨m, hn, _⟩ := I.loc
    refine .cons (by rw [I.ok.kind]; decide) hf hn ?_ I.funs
    exact Heap.get?_none_of_le (Nat.le_trans I.ok.bsz I.ok.above)
theorem Inv.stkSub (I : Inv X pins σ H s) : ∀ b ∈ frs X.stack, b ∈ X.env.locals :: X.fs := fun b hb => by
  rcases I.ok.stk with e | ⟨e, hf⟩
  · rw [e] at hb; exact List.mem_cons_of_mem _ hb
  · rw [e] at hb
    unfold frs at hb
    rw [List.filterMap_cons, hf] at hb
    exact hb
theorem Inv.stkFree (I : Inv X pins σ H s) : ∀ b ∈ frs X.stack, H b = none := fun b hb => by
  rcases List.mem_cons.mp (I.stkSub b hb) with e | hb
  · rw [e]; exact I.free
  · obtain ⟨_, o, ho, _⟩ := I.ok.funs.mem hb
    exact I.base.free b o ho (I.ok.frf b hb) fun z => I.ok.exfs b z hb

theorem Inv.step {g' : Array GenState} {t' : Nat} {d' : Drawn} {ch : List Addr} (I : Inv X pins σ H s)
    (hch : ∀ b ∈ ch, (b ∈ X.ex ∨ X.s₀.heap.objs.size ≤ b) ∧ b ≠ X.env.locals ∧ (∀ x c, X.env.cells.lookup x = some c → c ≠ b) ∧ ∀ p ∈ X.pn ++ pins, p.1 ≠ b)
    (keep : ∀ b o, b ≠ X.env.locals → b ∉ X.fs → b ∉ ch → s.heap.get? b = some o → H b = none → h'.get? b = some o)
    (slot : ∀ b o, b ≠ X.env.locals → b ∈ X.fs → b ∉ ch → s.heap.get? b = some o → H b = none → ∃ sl, h'.get? b = some { o with slots := sl }) (free : ∀ b o, b ∉ ch → s.heap.get? b = some o → H b = none → H' b = none)
    (there : ∀ b o, b ∉ ch → s.heap.get? b = some o → ∃ o', h'.get? b = some o')
    (tups : ∀ b xs, H b = some (.tup xs) → H' b = some (.tup xs)) (frzs : ∀ b o u, H b = some (.frz o u) → H' b = some (.frz o u)) (tbls : ∀ b ps, H b = some (.tbl ps) → ∃ more, H' b = some (.tbl (ps ++ more)))
    (ns : ∀ m, s.heap.Ns X.env.locals m → h'.Ns X.env.locals m) (hok : HOk X.prog X.w H' h') (hg : AllBare g') :
    Inv X pins σ H' { s with heap := h', gens := g', drawn := d', toks := t' } := by
  have neL : ∀ b o, X.s₀.heap.get? b = some o → b ≠ X.env.locals := fun b o e => Nat.ne_of_lt (Nat.lt_of_lt_of_le (Heap.lt_size e) I.ok.above)
  have neC : ∀ b o, X.s₀.heap.get? b = some o → b ∉ X.ex → b ∉ ch := fun b o e hx hb => by
    rcases (hch b hb).1 with z | z
    · exact hx z
    · exact absurd (Nat.lt_of_lt_of_le (Heap.lt_size e) z) (Nat.lt_irrefl _)
  have cellK : ∀ x c, X.env.cells.lookup x = some c → ∀ v, s.heap.IsCell c v → h'.IsCell c v := fun x c e v ⟨o, ho, hd⟩ => by
    have nch : c ∉ ch := fun z => (hch c z).2.2.1 x c e rfl
    by_cases hc : c ∈ X.fs
    · obtain ⟨sl, q⟩ := slot c o (I.cne x c e) hc nch ho (I.freeC x c e)
      exact ⟨_, q, hd⟩
    · exact ⟨o, keep c o (I.cne x c e) hc nch ho (I.freeC x c e), hd⟩
  refine ⟨I.ok, I.os, hg, ⟨fun b o e n hb hx => ?_, fun b o e n hb hx => ?_, fun b o e n hx => ?_, fun b o e hx => ?_, fun b xs e => tups b xs (I.base.tups b xs e), fun b o xs e => frzs b o xs (I.base.frzs b o xs e), fun b ps e => ?_⟩, ?_, fun x c e => ?_, ?_, fun x c e => ?_, fun p hp => ?_, hok, I.len⟩
  · exact keep b o (neL b o e) hb (neC b o e hx) (I.base.keep b o e n hb hx) (I.base.free b o e n hx)
  · obtain ⟨sl, e1⟩ := I.base.slot b o e n hb hx
    obtain ⟨sl', e2⟩ := slot b _ (neL b o e) hb (neC b o e hx) e1 (I.base.free b o e n hx)
    exact ⟨sl', e2⟩
  · obtain ⟨o', e1⟩ := I.base.there b o e hx
    exact free b o' (neC b o e hx) e1 (I.base.free b o e n hx)
  · obtain ⟨o', e1⟩ := I.base.there b o e hx
    exact there b o' (neC b o e hx) e1
  · obtain ⟨m1, e1⟩ := I.base.tbls b ps e
    obtain ⟨m2, e2⟩ := tbls b _ e1
    exact ⟨m1 ++ m2, by rw [e2, Array.append_assoc]⟩
  · obtain ⟨m, hn, hl⟩ := I.loc
    refine ⟨m, ns m hn, fun i x v e1 e2 e3 => ?_⟩
    obtain ⟨u, r, l⟩ := hl i x v e1 e2 e3
    refine ⟨u, r, ?_⟩
    rcases l with l | ⟨k, c, e, z⟩
    · exact .inl l
    · exact .inr ⟨k, c, e, cellK x c e _ z⟩
  · obtain ⟨v, z⟩ := I.cell x c e
    exact ⟨v, cellK x c e v z⟩
  · obtain ⟨m, ⟨o, _, _, ho, _⟩, _⟩ := I.loc
    exact free _ o (fun z => (hch _ z).2.1 rfl) ho I.free
  · obtain ⟨v, o, ho, hd⟩ := I.cell x c e
    exact free c o (fun z => (hch c z).2.2.1 x c e rfl) ho (I.freeC x c e)
  · obtain ⟨e, n, ne, nf, d⟩ := I.pin p hp
    have nch : p.1 ∉ ch := fun z => (hch p.1 z).2.2.2 p hp rfl
    exact ⟨keep p.1 p.2 ne nf nch e n, free p.1 p.2 nch e n, ne, nf, d⟩
theorem Inv.un {t' : Nat} (I : Inv X pins σ H s) (u : Un X.fs [] H H' s.heap h') (hok : HOk X.prog X.w H' h') : Inv X pins σ H' { s with heap := h', toks := t' } := by
  obtain ⟨m, ⟨o, es, ep, ho, r⟩, _⟩ := id I.loc
  obtain ⟨sl, hL⟩ := u.any ho I.free (by simp)
  exact I.step (g' := s.gens) (d' := s.drawn) (ch := []) (fun _ z => nomatch z) (fun b o _ hb _ e n => u.keep b o e n hb (by simp)) (fun b o _ hb _ e n => u.slot b o e n hb (by simp)) (fun b o _ e n => u.free b o e n (by simp)) (fun b o _ e => u.there b o e (by simp)) u.tups u.frzs u.tbls (fun m' hm => by
    obtain ⟨o', es', ep', ho', r'⟩ := hm
    rw [ho] at ho'; cases ho'
    exact ⟨_, es', ep', hL, r'⟩) hok I.bare
theorem Inv.call {g' : Array GenState} {t' : Nat} {d' : Drawn} {ch : List Addr} (I : Inv X pins σ H s) (u : Un (frs X.stack) ch H H' s.heap h') (hok : HOk X.prog X.w H' h') (hg : AllBare g')
    (hch : ∀ b ∈ ch, (b ∈ X.ex ∨ X.s₀.heap.objs.size ≤ b) ∧ b ≠ X.env.locals ∧ (∀ x c, X.env.cells.lookup x = some c → c ≠ b) ∧ ∀ p ∈ X.pn ++ pins, p.1 ≠ b) :
    Inv X pins σ H' { s with heap := h', gens := g', drawn := d', toks := t' } := by
  obtain ⟨m, ⟨o, es, ep, ho, r⟩, _⟩ := id I.loc
  obtain ⟨sl, hL⟩ := u.any ho I.free fun z => (hch _ z).2.1 rfl
  exact I.step (ch := ch) hch (fun b o hL hb hc e n => u.keep b o e n (fun z => (List.mem_cons.mp (I.stkSub b z)).elim hL hb) hc) (fun b o _ _ hc e n => u.any e n hc) (fun b o hc e n => u.free b o e n hc) (fun b o hc e => u.there b o e hc) u.tups u.frzs u.tbls (fun m' hm => by
    obtain ⟨o', es', ep', ho', r'⟩ := hm
    rw [ho] at ho'; cases ho'
    exact ⟨_, es', ep', hL, r'⟩) hok hg
theorem Inv.turned {t' : Nat} {it : Addr} (I : Inv X pins σ H s) (k : ∀ b o, b ≠ it → s.heap.get? b = some o → h'.get? b = some o) (hn : H it = none) (hL : it ≠ X.env.locals)
    (h1 : it ∈ X.ex ∨ X.s₀.heap.objs.size ≤ it) (h2 : ∀ x c, X.env.cells.lookup x = some c → c ≠ it) (h3 : ∀ p ∈ X.pn ++ pins, p.1 ≠ it) : Inv X pins σ H { s with heap := h', toks := t' } := by
  have nit : ∀ b u, H b = some u → b ≠ it := fun b u e z => by rw [z, hn] at e; cases e
  refine I.step (g' := s.gens) (d' := s.drawn) (ch := [it]) (fun b hb => ?_) (fun b o _ _ hc e _ => k b o (fun z => hc (by simp [z])) e) (fun b o _ _ hc e _ => ⟨o.slots, k b o (fun z => hc (by simp [z])) e⟩) (fun _ _ _ _ n => n)
    (fun b o hc e => ⟨o, k b o (fun z => hc (by simp [z])) e⟩) (fun _ _ e => e) (fun _ _ _ e => e) (fun b ps e => ⟨#[], by rw [e]; simp⟩) (fun m hm => ?_) (fun b u e => ?_) I.bare
  · have e : b = it := by simpa using hb
    subst e
    exact ⟨h1, hL, h2, h3⟩
  · obtain ⟨o, es, ep, ho, r⟩ := hm
    exact ⟨o, es, ep, k _ o (Ne.symm hL) ho, r⟩
  · refine (I.hok b u e).stay (fun c v hc q => k c v ?_ q) (fun _ q => q) fun _ _ q => q
    rcases hc with z | z
    · rw [z]; exact nit b u e
    · exact nit c _ z
theorem Inv.tok (I : Inv X pins σ H s) (t : Nat) : Inv X pins σ H { s with toks := t } := I.un (h' := s.heap) (t' := t) Un.refl I.hok
theorem Inv.kept {t' : Nat} (I : Inv X pins σ H s) (k : ∀ b u, s.heap.get? b = some u → h'.get? b = some u) : Inv X pins σ H { s with heap := h', toks := t' } := I.un (Un.kept k) (I.hok.kept k)
theorem Inv.laid {a : Addr} {o : HO} {t' : Nat} (I : Inv X pins σ H s) (k : ∀ b u, s.heap.get? b = some u → h'.get? b = some u) (hp : s.heap.objs.size ≤ a) (new : ObjOk X.prog X.w (upd H a o) h' a o) :
    Inv X pins σ (upd H a o) { s with heap := h', toks := t' } := I.un (Un.laid k hp (I.hok.fresh hp)) (I.hok.laid k hp new)
theorem Inv.write {x e : Addr} {o : HO} {t' : Nat} (I : Inv X pins σ H s) (mu : Mut (H x)) (he : e = x ∨ H e = some (.own x)) (k : ∀ b u, b ≠ e → s.heap.get? b = some u → h'.get? b = some u) (heo : ∃ u, h'.get? e = some u)
    (new : ObjOk X.prog X.w (upd H x o) h' x o) : Inv X pins σ (upd H x o) { s with heap := h', toks := t' } := I.un (Un.write mu he k heo) (I.hok.write mu he k heo new)
theorem Inv.pins_of {pins' : List (Addr × Obj)} (I : Inv X pins σ H s) (h : ∀ p ∈ pins', s.heap.get? p.1 = some p.2 ∧ H p.1 = none ∧ p.1 ≠ X.env.locals ∧ p.1 ∉ X.fs ∧ ∀ v, p.2.data ≠ .cell v) : Inv X pins' σ H s :=
  ⟨I.ok, I.os, I.bare, I.base, I.loc, I.cell, I.free, I.freeC, fun p hp => (List.mem_append.mp hp).elim (fun z => I.pin p (List.mem_append_left _ z)) (h p), I.hok, I.len⟩

theorem nodup_ix {N : List Str} (hN : N.Nodup) {i j : Nat} {x : Str} (a : N[i]? = some x) (b : N[j]? = some x) : i = j := by
  obtain ⟨h1, e1⟩ := List.getElem?_eq_some_iff.mp a
  obtain ⟨h2, e2⟩ := List.getElem?_eq_some_iff.mp b
  exact (List.getElem_inj hN).mp (e1.trans e2.symm)

theorem store_ok2 {M : Model} {A : Around} {E : Value → Shared → Prop} {i : Nat} {x : Str} {v : V} {u : Value} {Q : Unit → Shared → Prop} (I : Inv X pins σ H s) (hN : X.N.Nodup) (hi : X.N[i]? = some x) (hx : Loc X.env.scope x) (r : RelV v u)
    (h : ∀ s', Inv X pins (σ.set i (some v)) H s' → (∃ a, Heap.SameBut a s.heap s'.heap ∧ (a = X.env.locals ∨ X.env.cells.lookup x = some a)) → Q () s') (hf : X.fn x = true ∨ X.env.scope.names.lookup x = some .local := by first | exact .inl rfl | exact .inr rfl | assumption) : wpAny M A (storeName X.env x u) Q E s := by
  obtain ⟨m, hn, hl⟩ := id I.loc
  have hcls : (X.env.scope.kind == .class || (X.env.scope.kind == .module && X.env.locals != X.env.globals)) = false := by rw [I.ok.kind]; rfl
  have hiσ : i < σ.length := by rw [I.len]; exact (List.getElem?_eq_some_iff.mp hi).1
  have cne := I.cne
  have tracked : ∀ {a : Addr} {h' : Heap}, (∃ o, s.heap.get? a = some o ∧ H a = none) → Heap.SameBut a s.heap h' → HOk X.prog X.w H h' := fun {a h'} ha hs b ob e => by
    obtain ⟨_, _, hfree⟩ := ha
    refine (I.hok b ob e).stay (fun c w' hc q => (hs.2 c ?_).trans q) (fun _ q => q) fun _ _ q => q
    rintro rfl
    rcases hc with rfl | hc
    · rw [hfree] at e; cases e
    · rw [hfree] at hc; cases hc
  rcases hx with hk | hk
  · refine wpAny_storeName_local hk hn (fun h' hn' hs => ?_) hcls
    obtain ⟨oL, _, _, hoL, _⟩ := id hn
    refine h _ ⟨I.ok, I.os, I.bare, ⟨fun b o e n hb hx => ?_, fun b o e n hb hx => ?_, I.base.free, fun b o e hx => ?_, I.base.tups, I.base.frzs, I.base.tbls⟩, ⟨_, hn', fun j y v' e1 e2 e3 => ?_⟩, fun y c e => ?_, I.free, I.freeC, fun p hp => ?_, tracked ⟨oL, hoL, I.free⟩ hs, by simpa using I.len⟩ ⟨_, hs, .inl rfl⟩
    · exact (hs.2 b (Nat.ne_of_lt (Nat.lt_of_lt_of_le (Heap.lt_size e) I.ok.above))).trans (I.base.keep b o e n hb hx)
    · obtain ⟨sl, e1⟩ := I.base.slot b o e n hb hx
      exact ⟨sl, (hs.2 b (Nat.ne_of_lt (Nat.lt_of_lt_of_le (Heap.lt_size e) I.ok.above))).trans e1⟩
    · obtain ⟨o', e1⟩ := I.base.there b o e hx
      exact ⟨o', (hs.2 b (Nat.ne_of_lt (Nat.lt_of_lt_of_le (Heap.lt_size e) I.ok.above))).trans e1⟩
    · by_cases hj : j = i
      · subst hj
        rw [hi] at e1; cases e1
        rw [List.getElem?_set_self hiσ] at e2
        cases e2
        exact ⟨u, r, .inl ⟨hk, by simp⟩⟩
      · rw [List.getElem?_set_ne (Ne.symm hj)] at e2
        obtain ⟨u', r', q⟩ := hl j y v' e1 e2 e3
        refine ⟨u', r', ?_⟩
        rcases q with ⟨k, e⟩ | ⟨k, c, e, z⟩
        · refine .inl ⟨k, ?_⟩
          have : y ≠ x := fun e => hj (nodup_ix hN e1 (e ▸ hi))
          simp [this, e]
        · exact .inr ⟨k, c, e, z.sameBut hs (cne y c e)⟩
    · obtain ⟨w', z⟩ := I.cell y c e
      exact ⟨w', z.sameBut hs (cne y c e)⟩
    · obtain ⟨e, n, ne, nf, d⟩ := I.pin p hp
      exact ⟨(hs.2 p.1 ne).trans e, n, ne, nf, d⟩
  · have hfn : X.fn x = true := by
      rcases hf with z | z
      · exact z
      · rw [z] at hk; cases hk
    obtain ⟨c, hc⟩ := I.ok.has x (.inl hk)
    obtain ⟨w', z⟩ := I.cell x c hc
    refine wpAny_storeName_cell I.ok.kind hk hc z (fun h' hc' hs => ?_)
    obtain ⟨oc, hoc, hocd⟩ := id z
    refine h { s with heap := h' } ⟨I.ok, I.os, I.bare, ⟨fun b o e n hb hx => ?_, fun b o e n hb hx => ?_, I.base.free, fun b o e hx => ?_, I.base.tups, I.base.frzs, I.base.tbls⟩, ⟨m, hn.sameBut hs (Ne.symm (cne x c hc)), fun j y v' e1 e2 e3 => ?_⟩, fun y c' e => ?_, I.free, I.freeC, fun p hp => ?_, tracked ⟨oc, hoc, I.freeC x c hc⟩ hs, by simpa using I.len⟩ ⟨c, hs, .inr hc⟩
    · exact (hs.2 b (Nat.ne_of_lt (Nat.lt_of_lt_of_le (Heap.lt_size e) (I.ok.cab x c hfn hc)))).trans (I.base.keep b o e n hb hx)
    · obtain ⟨sl, e1⟩ := I.base.slot b o e n hb hx
      exact ⟨sl, (hs.2 b (Nat.ne_of_lt (Nat.lt_of_lt_of_le (Heap.lt_size e) (I.ok.cab x c hfn hc)))).trans e1⟩
    · obtain ⟨o', e1⟩ := I.base.there b o e hx
      exact ⟨o', (hs.2 b (Nat.ne_of_lt (Nat.lt_of_lt_of_le (Heap.lt_size e) (I.ok.cab x c hfn hc)))).trans e1⟩
    · by_cases hj : j = i
      · subst hj
        rw [hi] at e1; cases e1
        rw [List.getElem?_set_self hiσ] at e2
        cases e2
        exact ⟨u, r, .inr ⟨.inl hk, c, hc, hc'⟩⟩
      · rw [List.getElem?_set_ne (Ne.symm hj)] at e2
        obtain ⟨u', r', q⟩ := hl j y v' e1 e2 e3
        refine ⟨u', r', ?_⟩
        rcases q with q | ⟨k, c', e, z'⟩
        · exact .inl q
        · refine .inr ⟨k, c', e, z'.sameBut hs ?_⟩
          rintro rfl
          exact hj (nodup_ix hN e1 (I.ok.inj _ _ _ e hc ▸ hi))
    · by_cases hcc : c' = c
      · subst hcc; exact ⟨_, hc'⟩
      · obtain ⟨w2, z2⟩ := I.cell y c' e
        exact ⟨w2, z2.sameBut hs hcc⟩
    · obtain ⟨e, n, ne, nf, d⟩ := I.pin p hp
      refine ⟨(hs.2 p.1 ?_).trans e, n, ne, nf, d⟩
      intro q
      rw [q, hoc] at e
      have q' : oc = p.2 := Option.some.inj e
      exact d w' (by rw [← q']; exact hocd)
theorem store_ok {M : Model} {A : Around} {E : Value → Shared → Prop} {i : Nat} {x : Str} {v : V} {u : Value} {Q : Unit → Shared → Prop} (I : Inv X pins σ H s) (hN : X.N.Nodup) (hi : X.N[i]? = some x) (hx : Loc X.env.scope x) (r : RelV v u)
    (h : ∀ s', Inv X pins (σ.set i (some v)) H s' → Q () s') (hf : X.fn x = true ∨ X.env.scope.names.lookup x = some .local := by first | exact .inl rfl | exact .inr rfl | assumption) : wpAny M A (storeName X.env x u) Q E s :=
  store_ok2 I hN hi hx r (fun s' I' _ => h s' I') hf
theorem Inv.call' {s' : Shared} {ch : List Addr} (I : Inv X pins σ H s) (ho : s'.os = s.os) (u : Un (frs X.stack) ch H H' s.heap s'.heap) (hok : HOk X.prog X.w H' s'.heap) (hg : AllBare s'.gens)
    (hch : ∀ b ∈ ch, (b ∈ X.ex ∨ X.s₀.heap.objs.size ≤ b) ∧ b ≠ X.env.locals ∧ (∀ x c, X.env.cells.lookup x = some c → c ≠ b) ∧ ∀ p ∈ X.pn ++ pins, p.1 ≠ b) : Inv X pins σ H' s' := by
  obtain ⟨h', g', d', t', o'⟩ := s'
  have e : o' = s.os := ho
  subst e
  exact I.call (g' := g') (t' := t') (d' := d') u hok hg hch
end

abbrev XK := Value → Option Addr → Hp → Prop
abbrev St := List (Option V)
abbrev VK := V → Hp → Prop
abbrev TE := St → Hp → VK → Prop
abbrev TT := St → Hp → (Bool → Hp → Prop) → Prop
abbrev TA := St → Hp → (List V → Hp → Prop) → Prop
structure Ends where
  nx : St → Hp → Prop
  rt : VK
  bk : St → Hp → Prop := fun _ _ => False
  ct : St → Hp → Prop := fun _ _ => False
abbrev TS := Ends → St → Hp → Prop

def EP (X : Cx) (pins : List (Addr × Obj)) (σ : St) (Q : VK) (u : Value) (s' : Shared) : Prop := ∃ v H', Inv X pins σ H' s' ∧ RelV v u ∧ Q v H'
def TP (X : Cx) (pins : List (Addr × Obj)) (σ : St) (Q : Bool → Hp → Prop) (b : Bool) (s' : Shared) : Prop := ∃ H', Inv X pins σ H' s' ∧ Q b H'
def AP (X : Cx) (pins : List (Addr × Obj)) (σ : St) (Q : List V → Hp → Prop) (us : List Value) (s' : Shared) : Prop := ∃ vs H', Inv X pins σ H' s' ∧ Vals vs us ∧ Q vs H'
def SP (X : Cx) (pins : List (Addr × Obj)) (D : Ends) (f : Flow) (s' : Shared) : Prop :=
  match f with
  | .next => ∃ σ' H', Inv X pins σ' H' s' ∧ D.nx σ' H'
  | .brk => ∃ σ' H', Inv X pins σ' H' s' ∧ D.bk σ' H'
  | .cont => ∃ σ' H', Inv X pins σ' H' s' ∧ D.ct σ' H'
  | .ret u => ∃ v σ' H', Inv X pins σ' H' s' ∧ RelV v u ∧ D.rt v H'

def PE (X : Cx) (e : Expr) (t : TE) : Prop :=
  ∀ (pins : List (Addr × Obj)) (s : Shared) (σ : St) (H : Hp) (Q : VK), Inv X pins σ H s → t σ H Q → wpAny (model X.prog X.w) X.A (eval e X.env) (EP X pins σ Q) X.xe s
def PT (X : Cx) (e : Expr) (t : TT) : Prop :=
  ∀ (pins : List (Addr × Obj)) (s : Shared) (σ : St) (H : Hp) (Q : Bool → Hp → Prop), Inv X pins σ H s → t σ H Q → wpAny (model X.prog X.w) X.A (isTrue e X.env (eval e X.env)) (TP X pins σ Q) X.xe s
def PW (X : Cx) (e : Expr) (t : TT) : Prop :=
  ∀ (whole : Sem Value) (pins : List (Addr × Obj)) (s : Shared) (σ : St) (H : Hp) (Q : Bool → Hp → Prop), Inv X pins σ H s → t σ H Q → wpAny (model X.prog X.w) X.A (isTrue e X.env whole) (TP X pins σ Q) X.xe s
theorem PW.pt {X : Cx} {e : Expr} {t : TT} (h : PW X e t) : PT X e t := h _
def PA (X : Cx) (es : List Expr) (t : TA) : Prop :=
  ∀ (pos : Pos) (pins : List (Addr × Obj)) (s : Shared) (σ : St) (H : Hp) (Q : List V → Hp → Prop), Inv X pins σ H s → t σ H Q → wpAny (model X.prog X.w) X.A (spliced (backTo pos (starEach es X.env))) (AP X pins σ Q) X.xe s
def PS (X : Cx) (st : Stmt) (t : TS) : Prop :=
  ∀ (pins : List (Addr × Obj)) (s : Shared) (σ : St) (H : Hp) (D : Ends), Inv X pins σ H s → t D σ H → wpAny (model X.prog X.w) X.A (exec st X.env) (SP X pins D) X.xe s
def PSs (X : Cx) (st : List Stmt) (t : TS) : Prop :=
  ∀ (pins : List (Addr × Obj)) (s : Shared) (σ : St) (H : Hp) (D : Ends), Inv X pins σ H s → t D σ H → wpAny (model X.prog X.w) X.A (execs st X.env) (SP X pins D) X.xe s
theorem thn {α : Type} {t : Sem α} {Q Q' : α → Shared → Prop} {M : Model} {A : Around} {E : Value → Shared → Prop} {s : Shared} (h : wpAny M A t Q E s) (hQ : ∀ a s, Q a s → Q' a s) : wpAny M A t Q' E s := wpAny_mono h hQ fun _ _ x => x
end L2

namespace L2
open PySem PySem.Spec PyProof.Rows
section
variable {X : Cx}

def tVar (i : Nat) : TE := fun σ H Q => ∃ v, σ[i]? = some (some v) ∧ Q v H
def tC (v : V) : TE := fun _ H Q => Q v H
theorem pe_var {i : Nat} {x : Str} {pos : Pos} (hN : X.N[i]? = some x) (hv : Vis X.env.scope x) (hd : (x == ("__debug__" : Str)) = false := by decide) (hcd : (x == ("__classdict__" : Str)) = false := by decide) : PE X (.Name x pos) (tVar i) := by
  intro pins s σ H Q I h
  obtain ⟨v, e, h⟩ := h
  obtain ⟨m, hn, hl⟩ := I.loc
  obtain ⟨u, r, l⟩ := hl i x v hN e hv
  have fin : EP X pins σ Q u s := ⟨v, H, I, r, h⟩
  rcases l with ⟨hk, hm⟩ | ⟨hk, c, hc, hcell⟩
  · exact wpAny_Name (wpAny_loadName_local I.ok.kind hk hn hm fin) hd
  · rcases hk with hk | hk
    · exact wpAny_Name (wpAny_loadName_cell I.ok.kind hk hc hcell fin) hd
    · exact wpAny_Name (wpAny_loadName_free I.ok.kind hk hc hcell fin hcd) hd
theorem pe_int {i j pos} : PE X (.Constant (.int i) j pos) (tC (.int i)) := fun _ _ _ H _ I h => wpAny_Constant_int ⟨.int i, H, I.tok _, ⟨_, rfl⟩, h⟩
theorem pe_bl {b j pos} : PE X (.Constant (.bool b) j pos) (tC (.bl b)) := fun _ _ _ H _ I h => Constant_bool ⟨.bl b, H, I, rfl, h⟩
theorem pe_non {j pos} : PE X (.Constant .none j pos) (tC .non) := fun _ _ _ H _ I h => Constant_none ⟨.non, H, I, rfl, h⟩
def Gl (X : Cx) (x : Str) : Prop := X.env.kindOf x = some .globalImplicit
theorem ld_glob {E : Value → Shared → Prop} {pins : List (Addr × Obj)} {s : Shared} {σ : St} {H : Hp} {x : Str} {u : Value} {pos : Pos} {Q : Value → Shared → Prop} (I : Inv X pins σ H s) (hg : Gl X x) (hm : X.mg x = some u) (h : Q u s)
    (hd : (x == ("__debug__" : Str)) = false := by decide) : wpAny (model X.prog X.w) X.A (eval (.Name x pos) X.env) Q E s :=
  Calls.Name_function_global I.ok.kind hg (Calls.loadGlobal_global (by rw [I.ok.glob]; exact I.mod.glob.keeps I.bk) hm h) hd
theorem ld_blt {E : Value → Shared → Prop} {pins : List (Addr × Obj)} {s : Shared} {σ : St} {H : Hp} {x : Str} {u : Value} {pos : Pos} {Q : Value → Shared → Prop} (I : Inv X pins σ H s) (hg : Gl X x) (hm : X.mg x = none) (hv : bootBuiltins x = some u) (h : Q u s)
    (hn : x ≠ "__name__" := by decide) (hd : (x == ("__debug__" : Str)) = false := by decide) : wpAny (model X.prog X.w) X.A (eval (.Name x pos) X.env) Q E s := by
  obtain ⟨mb, h1, h2⟩ := I.mod.blt
  exact Calls.Name_function_global I.ok.kind hg (Calls.loadGlobal_builtin (by rw [I.ok.glob]; exact I.mod.glob.keeps I.bk) hm (by rw [I.ok.blt]; exact h1.keeps I.bk) ((h2 x hn).trans hv) h) hd
theorem pe_bltn {x : Str} {v : V} {u : Value} {pos : Pos} (hg : Gl X x) (hm : X.mg x = none) (hv : bootBuiltins x = some u) (r : RelV v u) (hn : x ≠ "__name__" := by decide) (hd : (x == ("__debug__" : Str)) = false := by decide) : PE X (.Name x pos) (tC v) :=
  fun _ _ _ H _ I h => ld_blt I hg hm hv ⟨v, H, I, r, h⟩ hn hd

variable {a b : Expr} {ta tb : TE} {pos : Pos}
def tB (t : TE) : TT := fun σ H Q => t σ H fun x H1 => ∃ c, x = .bl c ∧ Q c H1
theorem pt_val {e : Expr} {t : TE} (h : PE X e t) (he : ∀ whole, isTrue e X.env whole = (do let v ← whole; standAt e.pos; holding [v] (truthy v)) := by intro _; rfl) : PT X e (tB t) := by
  intro pins s σ H Q I hw
  refine isTrue_plain (thn (h pins s σ H _ I hw) fun v s1 ⟨x, H1, I1, r1, q1⟩ => ?_) (he _)
  obtain ⟨d, rfl, q⟩ := q1
  cases r1
  exact wpAny_truthy_bool ⟨H1, I1, q⟩

variable {tA tB' : TT} {rest : List Expr}
def tAnd (t u : TT) : TT := fun σ H Q => t σ H fun c H1 => if c = true then u σ H1 Q else Q false H1
def tOr (t u : TT) : TT := fun σ H Q => t σ H fun c H1 => if c = true then Q true H1 else u σ H1 Q
def tNot (t : TT) : TT := fun σ H Q => t σ H fun c H1 => Q (!c) H1
theorem pw_and1 (ha : PT X a tA) : PW X (.BoolOp .And [a] pos) tA := by
  intro wh pins s σ H Q I h
  refine isTrue_and (thn (ha pins s σ H Q I h) fun c s1 e => ?_)
  cases c with
  | true => exact isTrue_and_nil e
  | false => exact e
theorem pw_or1 (ha : PT X a tA) : PW X (.BoolOp .Or [a] pos) tA := by
  intro wh pins s σ H Q I h
  refine isTrue_or (thn (ha pins s σ H Q I h) fun c s1 e => ?_)
  cases c with
  | false => exact isTrue_or_nil e
  | true => exact e
theorem pw_and (ha : PT X a tA) (hb : PW X (.BoolOp .And (b :: rest) pos) tB') : PW X (.BoolOp .And (a :: b :: rest) pos) (tAnd tA tB') := by
  intro wh pins s σ H Q I h
  refine isTrue_and (thn (ha pins s σ H _ I h) fun c s1 ⟨H1, I1, q1⟩ => ?_)
  cases c with
  | true => exact hb wh pins s1 σ H1 Q I1 q1
  | false => exact ⟨H1, I1, q1⟩
theorem pw_or (ha : PT X a tA) (hb : PW X (.BoolOp .Or (b :: rest) pos) tB') : PW X (.BoolOp .Or (a :: b :: rest) pos) (tOr tA tB') := by
  intro wh pins s σ H Q I h
  refine isTrue_or (thn (ha pins s σ H _ I h) fun c s1 ⟨H1, I1, q1⟩ => ?_)
  cases c with
  | true => exact ⟨H1, I1, q1⟩
  | false => exact hb wh pins s1 σ H1 Q I1 q1
theorem pt_not (ha : PT X a tA) : PT X (.UnaryOp .Not a pos) (tNot tA) := by
  intro pins s σ H Q I h
  exact isTrue_not (ha pins s σ H (fun c H1 => Q (!c) H1) I h)
def tAndV (ta tb : TE) : TE := fun σ H Q => ta σ H fun x H1 => ∃ c, x = .bl c ∧ if c = true then tb σ H1 Q else Q (.bl false) H1
theorem pe_one {op} {t : TE} (h : PE X a t) : PE X (.BoolOp op [a] pos) t := fun pins s σ H Q I hw => BoolOp_one (h pins s σ H Q I hw)
theorem pe_and (ha : PE X a ta) (hb : PE X (.BoolOp .And (b :: rest) pos) tb) : PE X (.BoolOp .And (a :: b :: rest) pos) (tAndV ta tb) := by
  intro pins s σ H Q I h
  refine BoolOp_and (thn (ha pins s σ H _ I h) fun v s1 ⟨x, H1, I1, r1, q1⟩ => ?_)
  obtain ⟨c, rfl, q1⟩ := q1
  cases r1
  refine wpAny_truthy_bool ?_
  cases c with
  | true => exact hb pins s1 σ H1 Q I1 q1
  | false => exact ⟨.bl false, H1, I1, rfl, q1⟩
def tIf (t : TT) (ta tb : TE) : TE := fun σ H Q => t σ H fun c H1 => if c = true then ta σ H1 Q else tb σ H1 Q
theorem pe_ifExp {c : Expr} (hc : PT X c tA) (ha : PE X a ta) (hb : PE X b tb) : PE X (.IfExp c a b pos) (tIf tA ta tb) := by
  intro pins s σ H Q I h
  refine wpAny_IfExp (thn (hc pins s σ H _ I h) fun d s1 ⟨H1, I1, q1⟩ => ?_)
  cases d with
  | true => exact ha pins s1 σ H1 Q I1 q1
  | false => exact hb pins s1 σ H1 Q I1 q1
end
end L2

namespace L2
open PySem PySem.Spec PyProof.Rows

def SqL (K : PySem.W.Frag) (H : Hp) (a : Addr) (xs : List V) : Prop :=
  Rd H a (.lst xs) ∨
    ∃ (o : Obj) (its : Array Value) (n : Nat), K.lookup a = some o ∧ o.cls = .type "list" ∧ o.dict = none ∧ o.data = .seq its n ∧ its.size ≤ sizeLine ∧ Vals xs its.toList
def SqT (K : PySem.W.Frag) (H : Hp) (a : Addr) (xs : List V) : Prop :=
  Rd H a (.tup xs) ∨
    ∃ (o : Obj) (its : Array Value) (n : Nat), K.lookup a = some o ∧ o.cls = .type "tuple" ∧ o.data = .seq its n ∧ its.size ≤ sizeLine ∧ Vals xs its.toList
def absV : Value → Option V
  | .none => some .non
  | .bool b => some (.bl b)
  | .int i _ => some (.int i)
  | .str x _ => some (.str x)
  | .bytes b _ => some (.byt b)
  | .float b _ => some (.flt b)
  | .ref a => some (.ref a)
  | .type n => some (.ty n)
  | _ => none
theorem RelV.abs {x : V} {u : Value} (r : RelV x u) : absV u = some x := by
  cases x with
  | non => cases r; rfl
  | bl _ => cases r; rfl
  | int _ => obtain ⟨t, rfl⟩ := r; rfl
  | str _ => obtain ⟨t, rfl⟩ := r; rfl
  | byt _ => obtain ⟨t, rfl⟩ := r; rfl
  | flt _ => obtain ⟨t, rfl⟩ := r; rfl
  | ref _ => cases r; rfl
  | ty _ => cases r; rfl
theorem RelV.inj {x y : V} {u : Value} (r : RelV x u) (q : RelV y u) : x = y := Option.some.inj (r.abs.symm.trans q.abs)
theorem Vals.inj : ∀ {xs ys : List V} {us : List Value}, Vals xs us → Vals ys us → xs = ys
  | _, _, _, .nil, .nil => rfl
  | _, _, _, .cons r t, .cons r' t' => by rw [r.inj r', Vals.inj t t']
section
variable {X : Cx} {pins : List (Addr × Obj)} {σ : St} {H : Hp} {s : Shared} {a : Addr} {xs ys : List V}
theorem Inv.list (I : Inv X pins σ H s) (h : SqL X.K H a xs) : ∃ its : List Value, Vals xs its ∧ PlainL s.heap a its.toArray ∧ xs.length ≤ sizeLine := by
  rcases h with h | ⟨o, its, n, hk, hc, hd, hs, hz, r⟩
  · obtain ⟨z, its, n, r, e⟩ := h.ok I.hok
    exact ⟨its, r, ⟨_, n, e, rfl, rfl, rfl⟩, z⟩
  · refine ⟨its.toList, r, ⟨o, n, I.kIn a o hk, hc, hd, by simpa using hs⟩, ?_⟩
    have e := r.length
    simp only [Array.length_toList] at e
    omega
theorem Inv.tuple (I : Inv X pins σ H s) (h : SqT X.K H a xs) : ∃ its : List Value, Vals xs its ∧ IsTup s.heap a its.toArray ∧ xs.length ≤ sizeLine := by
  rcases h with h | ⟨o, its, n, hk, hc, hs, hz, r⟩
  · obtain ⟨z, its, r, p⟩ := h.ok I.hok
    exact ⟨its, r, p, z⟩
  · refine ⟨its.toList, r, ⟨o, I.kIn a o hk, hc, n, by simpa using hs⟩, ?_⟩
    have e := r.length
    simp only [Array.length_toList] at e
    omega
theorem Inv.list_inj (I : Inv X pins σ H s) (h : SqL X.K H a xs) (h' : SqL X.K H a ys) : xs = ys := by
  obtain ⟨its, r, ⟨o, n, e, _, _, d⟩, _⟩ := I.list h
  obtain ⟨its', r', ⟨o', n', e', _, _, d'⟩, _⟩ := I.list h'
  rw [e] at e'; cases e'
  rw [d] at d'
  injection d' with d1 _
  have : its = its' := by simpa using congrArg Array.toList d1
  subst this
  exact r.inj r'
theorem Inv.tuple_inj (I : Inv X pins σ H s) (h : SqT X.K H a xs) (h' : SqT X.K H a ys) : xs = ys := by
  obtain ⟨its, r, ⟨o, e, _, n, d⟩, _⟩ := I.tuple h
  obtain ⟨its', r', ⟨o', e', _, n', d'⟩, _⟩ := I.tuple h'
  rw [e] at e'; cases e'
  rw [d] at d'
  injection d' with d1 _
  have : its = its' := by simpa using congrArg Array.toList d1
  subst this
  exact r.inj r'
end

abbrev Cx.wish (X : Cx) (E : Value → Shared → Prop) : Cx := { X with xe := E }
abbrev Cx.nox (X : Cx) : Cx := X.wish fun _ _ => False
theorem Cx.Ok.wish {X : Cx} (ok : X.Ok) (E : Value → Shared → Prop) : (X.wish E).Ok :=
  ⟨ok.mod, ok.kind, ok.glob, ok.blt, ok.above, ok.inj, ok.has, ok.cab, ok.hd, ok.frames, ok.stk, ok.exf, ok.bs, ok.bsz, ok.noex, ok.exfs, ok.funs, ok.frf⟩
theorem Cx.Ok.unwish {X : Cx} {E : Value → Shared → Prop} (ok : (X.wish E).Ok) : X.Ok :=
  ⟨ok.mod, ok.kind, ok.glob, ok.blt, ok.above, ok.inj, ok.has, ok.cab, ok.hd, ok.frames, ok.stk, ok.exf, ok.bs, ok.bsz, ok.noex, ok.exfs, ok.funs, ok.frf⟩
section
variable {X : Cx} {pins : List (Addr × Obj)} {σ : St} {H : Hp} {s : Shared} {E : Value → Shared → Prop}
theorem Inv.wish (I : Inv X pins σ H s) (E : Value → Shared → Prop) : Inv (X.wish E) pins σ H s := ⟨I.ok.wish E, I.os, I.bare, I.base, I.loc, I.cell, I.free, I.freeC, I.pin, I.hok, I.len⟩
theorem Inv.unwish (I : Inv (X.wish E) pins σ H s) : Inv X pins σ H s := ⟨I.ok.unwish, I.os, I.bare, I.base, I.loc, I.cell, I.free, I.freeC, I.pin, I.hok, I.len⟩
theorem SP.unwish {D : Ends} {f : Flow} {s' : Shared} (h : SP (X.wish E) pins D f s') : SP X pins D f s' := by
  cases f with
  | next => obtain ⟨σ', H', I, q⟩ := h; exact ⟨σ', H', I.unwish, q⟩
  | brk => obtain ⟨σ', H', I, q⟩ := h; exact ⟨σ', H', I.unwish, q⟩
  | cont => obtain ⟨σ', H', I, q⟩ := h; exact ⟨σ', H', I.unwish, q⟩
  | ret u => obtain ⟨v, σ', H', I, r, q⟩ := h; exact ⟨v, σ', H', I.unwish, r, q⟩
theorem PSs.nox {st : List Stmt} {t : TS} (h : PSs X.nox st t) : PSs X st t := fun pins s σ H D I hw =>
  wpAny_mono (h pins s σ H D (I.wish _) hw) (fun _ _ q => q.unwish) fun _ _ z => False.elim z
end

section
variable {X : Cx} {st : Stmt} {rest : List Stmt} {t u : TS} {e : Expr} {te : TE} {pos : Pos}
def tNext : TS := fun D σ H => D.nx σ H
def tSeq (t u : TS) : TS := fun D σ H => t { D with nx := u D } σ H
theorem pss_nil : PSs X [] tNext := fun _ _ σ H _ I h => wpAny_execs_nil ⟨σ, H, I, h⟩
theorem pss_cons (h1 : PS X st t) (h2 : PSs X rest u) : PSs X (st :: rest) (tSeq t u) := by
  intro pins s σ H D I h
  refine wpAny_execs_cons (thn (h1 pins s σ H { D with nx := u D } I h) fun f s1 q => ?_)
  cases f with
  | next =>
    obtain ⟨σ', H', I', q⟩ := q
    exact h2 pins s1 σ' H' D I' q
  | ret v => exact q
  | brk => exact q
  | cont => exact q
theorem pss_one (h1 : PS X st t) : PSs X [st] t := by
  intro pins s σ H D I h
  refine wpAny_execs_cons (thn (h1 pins s σ H D I h) fun f s1 q => ?_)
  cases f with
  | next => exact wpAny_execs_nil q
  | ret v => exact q
  | brk => exact q
  | cont => exact q
theorem Inv.quiet {pins : List (Addr × Obj)} {σ : St} {H : Hp} {s : Shared} (I : Inv X pins σ H s) : interactive X.env = false := by simp [interactive, I.ok.kind]
def tDrop (te : TE) : TS := fun D σ H => te σ H fun _ H1 => D.nx σ H1
theorem ps_expr (he : PE X e te) (hs : swapsWith e none pos.line X.env = pure false := by rfl) : PS X (.Expr e pos) (tDrop te) := by
  intro pins s σ H D I h
  exact wpAny_Expr_any (thn (he pins s σ H _ I h) fun v s1 ⟨x, H1, I1, r1, q1⟩ => ⟨σ, H1, I1, q1⟩) I.quiet hs
def tRet (te : TE) : TS := fun D σ H => te σ H D.rt
theorem ps_ret (he : PE X e te) : PS X (.Return (some e) pos) (tRet te) := by
  intro pins s σ H D I h
  exact wpAny_Return_some (thn (he pins s σ H _ I h) fun v s1 ⟨x, H1, I1, r1, q1⟩ => ⟨x, σ, H1, I1, r1, q1⟩)
def tIfS (c : TT) (t u : TS) : TS := fun D σ H => c σ H fun b H1 => if b = true then t D σ H1 else u D σ H1
theorem ps_if {c : Expr} {a b : List Stmt} {tc : TT} (hc : PT X c tc) (ha : PSs X a t) (hb : PSs X b u) : PS X (.If c a b pos) (tIfS tc t u) := by
  intro pins s σ H D I h
  refine wpAny_If (thn (hc pins s σ H _ I h) fun d s1 ⟨H1, I1, q1⟩ => ?_)
  cases d with
  | true => exact ha pins s1 σ H1 D I1 q1
  | false => exact hb pins s1 σ H1 D I1 q1
end

abbrev TG := V → St → Hp → (St → Hp → Prop) → Prop
abbrev TGs := List V → St → Hp → (St → Hp → Prop) → Prop
def PG (X : Cx) (target : Expr) (t : TG) : Prop :=
  ∀ (pins : List (Addr × Obj)) (s : Shared) (σ : St) (H : Hp) (v : V) (u : Value) (Q : St → Hp → Prop), Inv X pins σ H s → RelV v u → t v σ H Q →
    wpAny (model X.prog X.w) X.A (assign target X.env u) (fun _ s' => ∃ σ' H', Inv X pins σ' H' s' ∧ Q σ' H') X.xe s
section
variable {X : Cx} {pos : Pos}
def gName (i : Nat) : TG := fun v σ H Q => Q (σ.set i (some v)) H
theorem pg_name {i : Nat} {x : Str} (hN : X.N.Nodup) (hi : X.N[i]? = some x) (hx : Loc X.env.scope x) (hf : X.fn x = true ∨ X.env.scope.names.lookup x = some .local := by first | exact .inl rfl | exact .inr rfl | assumption) : PG X (.Name x pos) (gName i) := by
  intro pins s σ H v u Q I r h
  exact wpAny_assign_Name (store_ok I hN hi hx r (fun s' I' => ⟨_, H, I', h⟩) hf)
def tAsg (te : TE) (g : TG) : TS := fun D σ H => te σ H fun x H1 => g x σ H1 D.nx
theorem ps_set {i : Nat} {x : Str} {e : Expr} {te : TE} {pos' : Pos} (hN : X.N.Nodup) (hi : X.N[i]? = some x) (hx : Loc X.env.scope x) (he : PE X e te) (hs : swapsWith e (some (.Name x pos')) pos.line X.env = pure false := by rfl) (hf : X.fn x = true ∨ X.env.scope.names.lookup x = some .local := by first | exact .inl rfl | exact .inr rfl | assumption) :
    PS X (.Assign [.Name x pos'] e pos) (tAsg te (gName i)) := by
  intro pins s σ H D I h
  refine wpAny_Assign_Name (thn (he pins s σ H _ I h) fun v s1 ⟨y, H1, I1, r1, q1⟩ => ?_) hs
  exact store_ok I1 hN hi hx r1 (fun s2 I2 => ⟨_, H1, I2, q1⟩) hf
end

section
variable {X : Cx} {pos : Pos}
end

structure It where
  go : Nat → Hp → Prop
  yld : Nat → Hp → V → Hp → Prop
  stop : Nat → Hp → Prop
def FpOk (X : Cx) (pins : List (Addr × Obj)) (H : Hp) (b : Addr) : Prop :=
  H b = none ∧ b ≠ X.env.locals ∧ b ∉ X.fs ∧ (b ∈ X.ex ∨ X.s₀.heap.objs.size ≤ b) ∧ (∀ x c, X.env.cells.lookup x = some c → c ≠ b) ∧ ∀ p ∈ X.pn ++ pins, p.1 ≠ b
theorem Inv.fpOk {X : Cx} {pins : List (Addr × Obj)} {σ : St} {H H' : Hp} {s : Shared} {b : Addr} (I : Inv X pins σ H s) (hb : s.heap.objs.size ≤ b) (hn : H' b = none) : FpOk X pins H' b := by
  refine ⟨hn, Nat.ne_of_gt (Nat.lt_of_lt_of_le I.lt hb), I.nofs hb, .inr (Nat.le_trans I.sz hb), fun x c e z => ?_, fun p hp z => ?_⟩
  · obtain ⟨v, q⟩ := I.cell x c e
    exact absurd (Nat.lt_of_lt_of_le q.lt (by rw [z]; exact hb)) (Nat.lt_irrefl _)
  · exact absurd (Nat.lt_of_lt_of_le (Heap.lt_size (I.pin p hp).1) (by rw [z]; exact hb)) (Nat.lt_irrefl _)
structure Turn (P : Program) (w : World) (K : PySem.W.Frag) (tg : Expr) (J : It) (fp : List Addr) (it : Addr) (tn : Nat → Heap → Prop) : Prop where
  mem : it ∈ fp
  obj : ∀ i h, tn i h → ∀ b ∈ fp, ∃ o, h.get? b = some o ∧ ∀ v, o.data ≠ .cell v
  keep : ∀ i h h', tn i h → (∀ b ∈ fp, ∀ o, h.get? b = some o → h'.get? b = some o) → tn i h'
  item : ∀ (X : Cx), X.prog = P → X.w = w → X.K = K → X.calm = true → ∀ (i : Nat) (pins : List (Addr × Obj)) (s : Shared) (σ : St) (H : Hp) (E : Value → Shared → Prop), Inv X pins σ H s → (∀ b ∈ fp, FpOk X pins H b) → tn i s.heap → J.go i H →
    wpAny (model P w) X.A (pyNext (.ref it)) (fun r s1 => ∃ u, r = some u ∧
      wpAny (model P w) X.A (letOwnedTupleGo tg (.ref it) u) (fun _ s2 => ∃ x H', Inv X pins σ H' s2 ∧ RelV x u ∧ J.yld i H x H' ∧ tn (i + 1) s2.heap ∧ ∀ b ∈ fp, H' b = none) E s1) E s
  done : ∀ (X : Cx), X.prog = P → X.w = w → X.K = K → X.calm = true → ∀ (i : Nat) (pins : List (Addr × Obj)) (s : Shared) (σ : St) (H : Hp) (E : Value → Shared → Prop), Inv X pins σ H s → (∀ b ∈ fp, FpOk X pins H b) → tn i s.heap → J.stop i H →
    wpAny (model P w) X.A (pyNext (.ref it)) (fun r s1 => r = none ∧ Inv X pins σ H s1) E s
  self : ∀ (A : Around) (i : Nat) (s : Shared) (Q : Value → Shared → Prop) (E : Value → Shared → Prop), tn i s.heap → Q (.ref it) s → wpAny (model P w) A (pyIter (.ref it)) Q E s
abbrev TI := St → Hp → (It → Hp → Prop) → Prop
def PIE (X : Cx) (pins : List (Addr × Obj)) (σ : St) (tg : Expr) (R : It → Hp → Prop) (itv : Value) (s2 : Shared) : Prop :=
  ∃ (it : Addr) (fp : List Addr) (tn : Nat → Heap → Prop) (J : It) (H' : Hp), itv = .ref it ∧ Inv X pins σ H' s2 ∧ Turn X.prog X.w X.K tg J fp it tn ∧ tn 0 s2.heap ∧ (∀ b ∈ fp, FpOk X pins H' b) ∧ R J H'
def PI (X : Cx) (tg iter : Expr) (wi : TI) : Prop :=
  ∀ (pins : List (Addr × Obj)) (s : Shared) (σ : St) (H : Hp) (R : It → Hp → Prop), Inv X pins σ H s → wi σ H R →
    wpAny (model X.prog X.w) X.A (eval iter X.env) (fun v s1 => wpAny (model X.prog X.w) X.A (pyIter v) (PIE X pins σ tg R) X.xe s1) X.xe s

theorem go_of {M : Model} {A : Around} {E : Value → Shared → Prop} {s : Shared} {tg : Expr} {it : Addr} {u : Value} {o : Obj} {n : String} {vs : Array Value} {Q : Unit → Shared → Prop} (ho : s.heap.get? it = some o) (hc : o.cls = .type n) (hd : o.data = .fields vs)
    (hn : ["enumerate", "zip", "dict_itemiterator", "dict_reverseitemiterator", "odict_iterator", "itertools.zip_longest", "itertools.pairwise"].contains n = false) (hQ : Q () s) : wpAny M A (letOwnedTupleGo tg (.ref it) u) Q E s := by
  unfold letOwnedTupleGo
  cases tg <;> first
    | exact wpAny_pure hQ
    | (cases u <;> first
        | exact wpAny_pure hQ
        | (refine wpAny_bind (wpAny_load ho ?_)
           rw [hc, hd]
           show wpAny M A (if (["enumerate", "zip", "dict_itemiterator", "dict_reverseitemiterator", "odict_iterator", "itertools.zip_longest", "itertools.pairwise"].contains n && vs[0]? == some (rawInt _)) = true then _ else _) Q E s
           rw [if_neg (by intro h; rw [hn, Bool.false_and] at h; cases h)]
           exact wpAny_pure hQ))

def Itl (K : PySem.W.Frag) (a : Addr) : It :=
  ⟨fun i H => ∃ xs x, SqL K H a xs ∧ xs[i]? = some x, fun i H x H' => H' = H ∧ ∀ xs, SqL K H a xs → xs[i]? = some x, fun i H => ∃ xs, SqL K H a xs ∧ xs.length ≤ i⟩
def Itt (K : PySem.W.Frag) (a : Addr) : It :=
  ⟨fun i H => ∃ xs x, SqT K H a xs ∧ xs[i]? = some x, fun i H x H' => H' = H ∧ ∀ xs, SqT K H a xs → xs[i]? = some x, fun i H => ∃ xs, SqT K H a xs ∧ xs.length ≤ i⟩
def Itr (lo : Int) (n : Nat) : It := ⟨fun i _ => i < n, fun i H x H' => H' = H ∧ x = .int (lo + i), fun i _ => n ≤ i⟩
theorem turn_list {P : Program} {w : World} {K : PySem.W.Frag} {tg : Expr} (a it : Addr) : Turn P w K tg (Itl K a) [it] it (fun i h => h.IsListIter it a i) where
  mem := by simp
  obj := fun i h st b hb => by
    have e : b = it := by simpa using hb
    subst e
    obtain ⟨o, e, c, d⟩ := st
    exact ⟨o, e, fun v z => by rw [d] at z; cases z⟩
  keep := fun i h h' st k => st.at fun o e => k it (by simp) o e
  item := by
    intro X hP hw hK hc i pins s σ H E I hf st hg
    subst hP hw hK
    obtain ⟨xs, x, hq, hx⟩ := hg
    obtain ⟨its, rv, p, hz⟩ := I.list hq
    obtain ⟨u, hu, ru⟩ := rv.get hx
    obtain ⟨f0, f1, f2, f3, f4, f5⟩ := hf it (by simp)
    refine wpAny_pyNext_list_item st p.isList (x := u) (by simpa using hu) fun h' st' sb => ?_
    have I1 : Inv X pins σ H { s with heap := h' } := I.turned (t' := s.toks) (fun b o hb e => (sb.2 b hb).trans e) f0 f1 f3 f4 f5
    obtain ⟨o, e, c, d⟩ := id st'
    exact ⟨u, rfl, go_of (s := { s with heap := h' }) e c d (by decide) ⟨x, H, I1, ru, ⟨rfl, fun ys hy => by rw [I.list_inj hy hq]; exact hx⟩, st', fun b hb => (hf b hb).1⟩⟩
  done := by
    intro X hP hw hK hc i pins s σ H E I hf st hg
    subst hP hw hK
    obtain ⟨xs, hq, hx⟩ := hg
    obtain ⟨its, rv, p, hz⟩ := I.list hq
    obtain ⟨f0, f1, f2, f3, f4, f5⟩ := hf it (by simp)
    have hl := rv.length
    exact wpAny_pyNext_list_end (I.ok.hd hc) st p.isList (by simp; omega) fun h' eb => ⟨rfl, I.turned (t' := s.toks) (fun b o hb e => eb b o hb e) f0 f1 f3 f4 f5⟩
  self := fun _ _ _ _ _ st h => wpAny_pyIter_listiter st h
theorem turn_tuple {P : Program} {w : World} {K : PySem.W.Frag} {tg : Expr} (a it : Addr) : Turn P w K tg (Itt K a) [it] it (fun i h => h.IsTupleIter it a i) where
  mem := by simp
  obj := fun i h st b hb => by
    have e : b = it := by simpa using hb
    subst e
    obtain ⟨o, e, c, d⟩ := st
    exact ⟨o, e, fun v z => by rw [d] at z; cases z⟩
  keep := fun i h h' st k => st.at fun o e => k it (by simp) o e
  item := by
    intro X hP hw hK hc i pins s σ H E I hf st hg
    subst hP hw hK
    obtain ⟨xs, x, hq, hx⟩ := hg
    obtain ⟨its, rv, p, hz⟩ := I.tuple hq
    obtain ⟨u, hu, ru⟩ := rv.get hx
    obtain ⟨f0, f1, f2, f3, f4, f5⟩ := hf it (by simp)
    refine wpAny_pyNext_tuple_item st (show s.heap.IsTuple a its.toArray from p) (x := u) (by simpa using hu) fun h' st' sb => ?_
    have I1 : Inv X pins σ H { s with heap := h' } := I.turned (t' := s.toks) (fun b o hb e => (sb.2 b hb).trans e) f0 f1 f3 f4 f5
    obtain ⟨o, e, c, d⟩ := id st'
    exact ⟨u, rfl, go_of (s := { s with heap := h' }) e c d (by decide) ⟨x, H, I1, ru, ⟨rfl, fun ys hy => by rw [I.tuple_inj hy hq]; exact hx⟩, st', fun b hb => (hf b hb).1⟩⟩
  done := by
    intro X hP hw hK hc i pins s σ H E I hf st hg
    subst hP hw hK
    obtain ⟨xs, hq, hx⟩ := hg
    obtain ⟨its, rv, p, hz⟩ := I.tuple hq
    obtain ⟨f0, f1, f2, f3, f4, f5⟩ := hf it (by simp)
    have hl := rv.length
    exact wpAny_pyNext_tuple_end (I.ok.hd hc) st (show s.heap.IsTuple a its.toArray from p) (by simp; omega) fun h' eb => ⟨rfl, I.turned (t' := s.toks) (fun b o hb e => eb b o hb e) f0 f1 f3 f4 f5⟩
  self := fun _ _ _ _ _ st h => wpAny_pyIter_tupleiter st h
theorem turn_range {P : Program} {w : World} {K : PySem.W.Frag} {tg : Expr} (it : Addr) (lo : Int) (n : Nat) : Turn P w K tg (Itr lo n) [it] it (fun i h => IsRangeIter h it (lo + (i : Nat) * 1) ((n : Int) - (i : Nat)) 1) where
  mem := by simp
  obj := fun i h st b hb => by
    have e : b = it := by simpa using hb
    subst e
    exact ⟨_, st, fun v z => by
      have z' : Data.fields _ = Data.cell v := z
      cases z'⟩
  keep := fun i h h' st k => k it (by simp) _ st
  item := by
    intro X hP hw hK hc i pins s σ H E I hf st hg
    subst hP hw hK
    obtain ⟨f0, f1, f2, f3, f4, f5⟩ := hf it (by simp)
    have W := Walks.range (prog := X.prog) (w := X.w) (I.ok.hd hc) it lo 1 n
    refine W.item i s _ _ hg st fun v h' tk hv st' kk => ?_
    obtain ⟨t, rfl⟩ := hv
    have I1 : Inv X pins σ H { s with heap := h', toks := tk } := I.turned (fun b o hb e => kk b o (by simpa using hb) e) f0 f1 f3 f4 f5
    refine ⟨_, rfl, go_of (s := { s with heap := h', toks := tk }) (n := "range_iterator") st' rfl rfl (by decide) ⟨.int (lo + i), H, I1, ⟨t, ?_⟩, ⟨rfl, rfl⟩, st', fun b hb => (hf b hb).1⟩⟩
    rw [Int.mul_one]
  done := by
    intro X hP hw hK hc i pins s σ H E I hf st hg
    subst hP hw hK
    obtain ⟨f0, f1, f2, f3, f4, f5⟩ := hf it (by simp)
    exact wpAny_pyNext_range_end (I.ok.hd hc) st (by have : n ≤ i := hg; omega) fun h' eb => ⟨rfl, I.turned (t' := s.toks) (fun b o hb e => eb b o hb e) f0 f1 f3 f4 f5⟩
  self := fun _ _ _ _ _ st h => wpAny_pyIter_rangeiter st h
end L2

namespace L2
open PySem PySem.Spec PyProof.Rows
section
variable {X : Cx} {tg : Expr}
def iList (K : PySem.W.Frag) (tl : TE) : TI := fun σ H R => tl σ H fun x H1 => ∃ a, x = .ref a ∧ (∃ xs, SqL K H1 a xs) ∧ R (Itl K a) H1
def iTup (K : PySem.W.Frag) (tl : TE) : TI := fun σ H R => tl σ H fun x H1 => ∃ a, x = .ref a ∧ (∃ xs, SqT K H1 a xs) ∧ R (Itt K a) H1
theorem pi_list {l : Expr} {tl : TE} (hl : PE X l tl) : PI X tg l (iList X.K tl) := by
  intro pins s σ H R I h
  refine thn (hl pins s σ H _ I h) fun v s1 ⟨x, H1, I1, r1, q1⟩ => ?_
  obtain ⟨a, e, ⟨xs, hq⟩, q⟩ := q1
  subst e
  cases r1
  obtain ⟨its, rv, p, hz⟩ := I1.list hq
  refine wpAny_pyIter_list p.isList ?_
  refine ⟨s1.heap.objs.size, [s1.heap.objs.size], _, _, H1, rfl, I1.kept (t' := s1.toks) fun b o e => Heap.get?_push_of_some _ e, turn_list a _, ⟨_, Heap.get?_push_size _ rfl, rfl, rfl⟩, fun b hb => ?_, q⟩
  have e : b = s1.heap.objs.size := by simpa using hb
  subst e
  exact I1.fpOk (Nat.le_refl _) (I1.hok.fresh (Nat.le_refl _))
theorem pi_tup {l : Expr} {tl : TE} (hl : PE X l tl) : PI X tg l (iTup X.K tl) := by
  intro pins s σ H R I h
  refine thn (hl pins s σ H _ I h) fun v s1 ⟨x, H1, I1, r1, q1⟩ => ?_
  obtain ⟨a, e, ⟨xs, hq⟩, q⟩ := q1
  subst e
  cases r1
  obtain ⟨its, rv, p, hz⟩ := I1.tuple hq
  refine wpAny_pyIter_tuple (show s1.heap.IsTuple a its.toArray from p) ?_
  refine ⟨s1.heap.objs.size, [s1.heap.objs.size], _, _, H1, rfl, I1.kept (t' := s1.toks) fun b o e => Heap.get?_push_of_some _ e, turn_tuple a _, ⟨_, Heap.get?_push_size _ rfl, rfl, rfl⟩, fun b hb => ?_, q⟩
  have e : b = s1.heap.objs.size := by simpa using hb
  subst e
  exact I1.fpOk (Nat.le_refl _) (I1.hok.fresh (Nat.le_refl _))
theorem range_it {pins : List (Addr × Obj)} {σ : St} {H : Hp} {s : Shared} {R : It → Hp → Prop} {E : Value → Shared → Prop} {lo hi : Int} {t u v : Tok} {tk : Nat} (I : Inv X pins σ H s) (h1 : -(2 ^ 62) ≤ lo) (h2 : lo < 2 ^ 62) (h3 : -(2 ^ 62) ≤ hi) (h4 : hi < 2 ^ 62)
    (q : R (Itr lo (hi - lo).toNat) H) : wpAny (model X.prog X.w) X.A (pyIter (.ref s.heap.objs.size)) (PIE X pins σ tg R) E { s with heap := s.heap.push { cls := .type "range", data := .fields #[.int lo t, .int hi u, .int 1 v] }, toks := tk } := by
  refine wpAny_pyIter_range (IsRange.new ..) (small_one h1 h2 h3 h4) ?_
  have I1 : Inv X pins σ H { s with heap := s.heap.push { cls := .type "range", data := .fields #[.int lo t, .int hi u, .int 1 v] }, toks := tk } := I.kept fun b o e => Heap.get?_push_of_some _ e
  refine ⟨(s.heap.push { cls := .type "range", data := .fields #[.int lo t, .int hi u, .int 1 v] }).objs.size, [(s.heap.push { cls := .type "range", data := .fields #[.int lo t, .int hi u, .int 1 v] }).objs.size], _, _, H, rfl,
    I1.kept (t' := tk) fun b o e => Heap.get?_push_of_some _ e, turn_range _ lo (hi - lo).toNat, ?_, fun b hb => ?_, q⟩
  · have e1 : lo + ((0 : Nat) : Int) * 1 = lo := by simp
    have e2 : (((hi - lo).toNat : Nat) : Int) - ((0 : Nat) : Int) = Builtin.Range.rangeSize lo hi 1 := by rw [rangeSize_one]; split <;> omega
    show IsRangeIter _ _ (lo + ((0 : Nat) : Int) * 1) ((((hi - lo).toNat : Nat) : Int) - ((0 : Nat) : Int)) 1
    rw [e1, e2]
    exact Heap.get?_push_size _ rfl
  · have e : b = (s.heap.push { cls := .type "range", data := .fields #[.int lo t, .int hi u, .int 1 v] }).objs.size := by simpa using hb
    subst e
    exact I1.fpOk (Nat.le_refl _) (I1.hok.fresh (Nat.le_refl _))
def iRng1 (ta : TA) : TI := fun σ H R => ta σ H fun vs H1 => ∃ j : Int, vs = [.int j] ∧ -(2 ^ 62) ≤ j ∧ j < 2 ^ 62 ∧ R (Itr 0 j.toNat) H1
theorem pi_range1 {a : Expr} {ta : TA} {p pos : Pos} (hg : Gl X "range") (hm : X.mg "range" = none) (ha : PA X [a] ta) (hs : starEach [a] X.env = [(false, eval a X.env)] := by rfl) : PI X tg (.Call (.Name "range" p) [a] [] pos) (iRng1 ta) := by
  intro pins s σ H R I h
  refine Call_ (ld_blt I hg hm boot_range (PyProof.Rows.callWith_type1 (thn (ha pos pins s σ H _ I h) fun us s1 ⟨vs, H1, I1, r1, q1⟩ => ?_) hs rfl))
  obtain ⟨j, e, q1, q2, q⟩ := q1
  subst e
  cases r1 with
  | cons r rr =>
    cases rr
    obtain ⟨t, rfl⟩ := r
    exact call_range_1 (range_it I1 (by omega) (by omega) q1 q2 (by simpa using q))
def tFor (wi : TI) (g : TG) (tb : TS) : TS := fun D σ H => wi σ H fun J H1 => ∃ W : Nat → Nat → St → Hp → Prop, (∃ m, W 0 m σ H1) ∧ ∀ i m σ H, W i m σ H →
  (J.stop i H ∧ D.nx σ H) ∨ (J.go i H ∧ ∃ N : St → Hp → Prop, (∀ σ' H', N σ' H' → ∃ m', m' < m ∧ W (i + 1) m' σ' H') ∧ ∀ x H', J.yld i H x H' → g x σ H' fun σ2 H2 => tb { D with nx := N, ct := N, bk := D.nx } σ2 H2)
def pinsAt (fp : List Addr) (h : Heap) : List (Addr × Obj) := fp.filterMap fun b => (h.get? b).map fun o => (b, o)
theorem mem_pinsAt {fp : List Addr} {h : Heap} {b : Addr} {o : Obj} (hb : b ∈ fp) (e : h.get? b = some o) : (b, o) ∈ pinsAt fp h := List.mem_filterMap.mpr ⟨b, hb, by rw [e]; rfl⟩
theorem of_pinsAt {fp : List Addr} {h : Heap} {p : Addr × Obj} (hp : p ∈ pinsAt fp h) : p.1 ∈ fp ∧ h.get? p.1 = some p.2 := by
  obtain ⟨b, hb, e⟩ := List.mem_filterMap.mp hp
  cases q : h.get? b with
  | none => rw [q] at e; cases e
  | some o =>
    rw [q] at e
    have e' : (b, o) = p := Option.some.inj e
    subst e'
    exact ⟨hb, q⟩
theorem Inv.pinned {pins : List (Addr × Obj)} {σ : St} {H : Hp} {s : Shared} {fp : List Addr} (I : Inv X pins σ H s) (hf : ∀ b ∈ fp, FpOk X pins H b) (ho : ∀ b ∈ fp, ∃ o, s.heap.get? b = some o ∧ ∀ v, o.data ≠ .cell v) : Inv X (pins ++ pinsAt fp s.heap) σ H s :=
  I.pins_of fun p hp => (List.mem_append.mp hp).elim (fun z => I.pin p (List.mem_append_right _ z)) fun z => by
    obtain ⟨hb, e⟩ := of_pinsAt z
    obtain ⟨f0, f1, f2, _⟩ := hf p.1 hb
    obtain ⟨o, e', d⟩ := ho p.1 hb
    rw [e] at e'; cases e'
    exact ⟨e, f0, f1, f2, d⟩
theorem Inv.unpinned {pins pl : List (Addr × Obj)} {σ : St} {H : Hp} {s : Shared} (I : Inv X (pins ++ pl) σ H s) : Inv X pins σ H s := I.pins_of fun p hp => I.pin p (List.mem_append_right _ (List.mem_append_left _ hp))
theorem ps_for {iter : Expr} {body : List Stmt} {wi : TI} {g : TG} {tb : TS} {pos : Pos} (hp : PassesOwn (model X.prog X.w) X.A X.env X.xe) (hc : X.calm = true) (hi : PI X tg iter wi) (hg : PG X tg g) (hb : PSs X body tb)
    (hs : ∀ x, foldedSetIterable iter X.env x = pure x := by intro _; rfl) : PS X (.For tg iter body [] pos) (tFor wi g tb) := by
  intro pins s σ H D I h
  refine wpAny_For (thn (hi pins s σ H _ I h) fun v s1 h1 => thn h1 fun itv s2 h2 => ?_) hs
  obtain ⟨it, fp, tn, J, H2, e, I2, T, st2, f2, W, ⟨m0, w0⟩, turn⟩ := h2
  subst e
  -- what stays true of the iterator's objects through the loop
  have stat : ∀ {H' : Hp}, (∀ b ∈ fp, H' b = none) → ∀ b ∈ fp, FpOk X pins H' b := fun hn b hb => ⟨hn b hb, (f2 b hb).2⟩
  refine codeAny_forLoop_any (fun n s' => ∃ i σ' H', Inv X pins σ' H' s' ∧ tn i s'.heap ∧ (∀ b ∈ fp, H' b = none) ∧ W i n σ' H') ?_ m0 ⟨0, σ, H2, I2, st2, fun b hb => (f2 b hb).1, w0⟩
  rintro n s3 ⟨i, σ3, H3, I3, st3, fr3, w3⟩
  rcases turn i n σ3 H3 w3 with ⟨stop, qn⟩ | ⟨go, N, hN, step⟩
  · refine wpAny_passesOwn hp (thn (T.done X rfl rfl rfl hc i pins s3 σ3 H3 X.xe I3 (stat fr3) st3 stop) fun r s4 ⟨hr, I4⟩ => ?_)
    subst hr
    exact wpAny_execs_nil ⟨σ3, H3, I4, qn⟩
  · refine wpAny_passesOwn hp (thn (T.item X rfl rfl rfl hc i pins s3 σ3 H3 X.xe I3 (stat fr3) st3 go) fun r s4 ⟨u, hr, h4⟩ => ?_)
    subst hr
    refine wpAny_passesOwn hp (thn h4 fun _ s5 ⟨x, H5, I5, r5, y5, st5, fr5⟩ => ?_)
    have I5' := I5.pinned (stat fr5) (T.obj _ _ st5)
    refine wpAny_passesOwn hp (thn (hg _ s5 σ3 H5 x u _ I5' r5 (step x H5 y5)) fun _ s6 ⟨σ6, H6, I6, q6⟩ => ?_)
    refine wpAny_passesOwn hp (thn (hb _ s6 σ6 H6 _ I6 q6) fun f s7 q7 => ?_)
    have again : ∀ {σ7 : St} {H7 : Hp}, Inv X (pins ++ pinsAt fp s5.heap) σ7 H7 s7 → N σ7 H7 → ∃ m, m < n ∧ ∃ i σ' H', Inv X pins σ' H' s7 ∧ tn i s7.heap ∧ (∀ b ∈ fp, H' b = none) ∧ W i m σ' H' := fun {σ7 H7} I7 n7 => by
      obtain ⟨m', hm, w7⟩ := hN σ7 H7 n7
      refine ⟨m', hm, i + 1, σ7, H7, I7.unpinned, T.keep _ _ _ st5 fun b hb o e => (I7.pin (b, o) (List.mem_append_right _ (List.mem_append_right _ (mem_pinsAt hb e)))).1, fun b hb => ?_, w7⟩
      obtain ⟨o, e, d⟩ := T.obj _ _ st5 b hb
      exact (I7.pin (b, o) (List.mem_append_right _ (List.mem_append_right _ (mem_pinsAt hb e)))).2.1
    cases f with
    | next => obtain ⟨σ7, H7, I7, n7⟩ := q7; exact again I7 n7
    | cont => obtain ⟨σ7, H7, I7, n7⟩ := q7; exact again I7 n7
    | brk => obtain ⟨σ7, H7, I7, q7⟩ := q7; exact ⟨σ7, H7, I7.unpinned, q7⟩
    | ret v => obtain ⟨x7, σ7, H7, I7, r7, q7⟩ := q7; exact ⟨x7, σ7, H7, I7.unpinned, r7, q7⟩
end

end L2

namespace L2
open PySem PySem.Spec PyProof.Rows

abbrev R2 := V → V → Hp → VK → Prop
def OpR (X : Cx) (f : Value → Value → Sem Value) (r : R2) : Prop :=
  ∀ (pins : List (Addr × Obj)) (s : Shared) (σ : St) (H : Hp) (x y : V) (v u : Value) (Q : VK), Inv X pins σ H s → RelV x v → RelV y u → r x y H Q →
    wpAny (model X.prog X.w) X.A (f v u) (EP X pins σ Q) X.xe s
def UnR (X : Cx) (f : Value → Sem Value) (r : V → Hp → VK → Prop) : Prop :=
  ∀ (pins : List (Addr × Obj)) (s : Shared) (σ : St) (H : Hp) (x : V) (v : Value) (Q : VK), Inv X pins σ H s → RelV x v → r x H Q →
    wpAny (model X.prog X.w) X.A (f v) (EP X pins σ Q) X.xe s
def CallR (X : Cx) (f : Value) (r : List V → Hp → VK → Prop) : Prop :=
  ∀ (pins : List (Addr × Obj)) (s : Shared) (σ : St) (H : Hp) (xs : List V) (us : List Value) (Q : VK), Inv X pins σ H s → Vals xs us → r xs H Q →
    wpAny (model X.prog X.w) X.A (call f us) (EP X pins σ Q) X.xe s
def tOp (r : R2) (ta tb : TE) : TE := fun σ H Q => ta σ H fun x H1 => tb σ H1 fun y H2 => r x y H2 Q
def tUn (r : V → Hp → VK → Prop) (ta : TE) : TE := fun σ H Q => ta σ H fun x H1 => r x H1 Q
def rI (C : Int → Int → Prop) (g : Int → Int → V) : R2 := fun x y H Q => ∃ i j, x = .int i ∧ y = .int j ∧ C i j ∧ Q (g i j) H
def rI0 (g : Int → Int → V) : R2 := fun x y H Q => ∃ i j, x = .int i ∧ y = .int j ∧ Q (g i j) H
def rU (g : Int → V) : V → Hp → VK → Prop := fun x H Q => ∃ i, x = .int i ∧ Q (g i) H

section
variable {X : Cx} {a b c : Expr} {ta tb tc : TE} {pos : Pos}

theorem binT (ha : PE X a ta) (hb : PE X b tb) {pins : List (Addr × Obj)} {s : Shared} {σ : St} {H : Hp} {R : V → V → Hp → Prop} (I : Inv X pins σ H s)
    (h : ta σ H fun x H1 => tb σ H1 fun y H2 => R x y H2) {Q : Value → Shared → Prop} {f : Value → Value → Sem Value}
    (hf : ∀ v u s2 x y H2, Inv X pins σ H2 s2 → RelV x v → RelV y u → R x y H2 → wpAny (model X.prog X.w) X.A (f v u) Q X.xe s2) :
    wpAny (model X.prog X.w) X.A (eval a X.env) (fun v s₁ => wpAny (model X.prog X.w) X.A (eval b X.env) (fun u s₂ => wpAny (model X.prog X.w) X.A (f v u) Q X.xe s₂) X.xe s₁) X.xe s := by
  refine thn (ha pins s σ H _ I h) fun v s1 ⟨x, H1, I1, r1, q1⟩ => ?_
  refine thn (hb pins s1 σ H1 _ I1 q1) fun u s2 ⟨y, H2, I2, r2, q2⟩ => ?_
  exact hf v u s2 x y H2 I2 r1 r2 q2

theorem pe_op {op : Operator} {r : R2} (ho : OpR X (binaryOp op) r) (ha : PE X a ta) (hb : PE X b tb) : PE X (.BinOp a op b pos) (tOp r ta tb) := by
  intro pins s σ H Q I h
  exact wpAny_BinOp (binT ha hb I h fun v u s2 x y H2 I2 rx ry q => ho pins s2 σ H2 x y v u Q I2 rx ry q)
theorem pe_un {op : UnaryOp} {r : V → Hp → VK → Prop} (ho : UnR X (unaryOp op) r) (ha : PE X a ta) : PE X (.UnaryOp op a pos) (tUn r ta) := by
  intro pins s σ H Q I h
  exact UnaryOp_ (thn (ha pins s σ H _ I h) fun v s1 ⟨x, H1, I1, r1, q1⟩ => ho pins s1 σ H1 x v Q I1 r1 q1)
theorem opI {f : Value → Value → Sem Value} {C : Int → Int → Prop} {g : Int → Int → Int}
    (rule : ∀ (i j : Int) (t u : Tok) (s : Shared) (Q : Value → Shared → Prop) (E : Value → Shared → Prop), C i j → Q (.int (g i j) s.toks) { s with toks := s.toks + 1 } → wpAny (model X.prog X.w) X.A (f (.int i t) (.int j u)) Q E s) :
    OpR X f (rI C fun i j => .int (g i j)) := by
  intro pins s σ H x y v u Q I rx ry h
  obtain ⟨i, j, rfl, rfl, hc, q⟩ := h
  obtain ⟨t, rfl⟩ := rx
  obtain ⟨t', rfl⟩ := ry
  exact rule i j t t' s _ _ hc ⟨.int (g i j), H, I.tok _, ⟨_, rfl⟩, q⟩
theorem opI0 {f : Value → Value → Sem Value} {g : Int → Int → Int}
    (rule : ∀ (i j : Int) (t u : Tok) (s : Shared) (Q : Value → Shared → Prop) (E : Value → Shared → Prop), Q (.int (g i j) s.toks) { s with toks := s.toks + 1 } → wpAny (model X.prog X.w) X.A (f (.int i t) (.int j u)) Q E s) :
    OpR X f (rI0 fun i j => .int (g i j)) := by
  intro pins s σ H x y v u Q I rx ry h
  obtain ⟨i, j, rfl, rfl, q⟩ := h
  obtain ⟨t, rfl⟩ := rx
  obtain ⟨t', rfl⟩ := ry
  exact rule i j t t' s _ _ ⟨.int (g i j), H, I.tok _, ⟨_, rfl⟩, q⟩
theorem opB0 {f : Value → Value → Sem Value} {g : Int → Int → Bool}
    (rule : ∀ (i j : Int) (t u : Tok) (s : Shared) (Q : Value → Shared → Prop) (E : Value → Shared → Prop), Q (.bool (g i j)) s → wpAny (model X.prog X.w) X.A (f (.int i t) (.int j u)) Q E s) :
    OpR X f (rI0 fun i j => .bl (g i j)) := by
  intro pins s σ H x y v u Q I rx ry h
  obtain ⟨i, j, rfl, rfl, q⟩ := h
  obtain ⟨t, rfl⟩ := rx
  obtain ⟨t', rfl⟩ := ry
  exact rule i j t t' s _ _ ⟨.bl (g i j), H, I, rfl, q⟩

def CPow (i j : Int) : Prop := 0 ≤ j ∧ j ≤ 1000000 ∧ i.natAbs < 2 ^ 64
def CMul (i j : Int) : Prop := (-(2 ^ 64) < i ∧ i < 2 ^ 64) ∨ (-(2 ^ 64) < j ∧ j < 2 ^ 64)
theorem CMul.ok {i j : Int} (h : CMul i j) : IntMulOk i j := by
  rcases h with ⟨h1, h2⟩ | ⟨h1, h2⟩
  · exact .of_left (intBits_le_64 h1 h2)
  · exact .of_right (intBits_le_64 h1 h2)
theorem two_pow_nn (k : Nat) : (0 : Int) ≤ 2 ^ k := by
  rw [two_pow_cast]
  exact Int.natCast_nonneg _

theorem op_add : OpR X (binaryOp .Add) (rI0 fun i j => .int (i + j)) := opI0 fun _ _ _ _ _ _ _ q => add_int q
theorem op_mul : OpR X (binaryOp .Mult) (rI CMul fun i j => .int (i * j)) := opI fun _ _ _ _ _ _ _ hc q => mul_int q hc.ok
theorem op_mod : OpR X (binaryOp .Mod) (rI (fun _ j => 0 < j) fun i j => .int (i % j)) := opI fun i j _ _ _ _ _ hc q => by
  have h1 : (0 : Int) < j := hc
  exact mod_int' (by omega) (by rw [Int.fmod_eq_emod_of_nonneg i (by omega)]; exact q)
theorem op_shl : OpR X (binaryOp .LShift) (rI CPow fun i j => .int (i * 2 ^ j.toNat)) := opI fun _ _ _ _ _ _ _ hc q => lshift_int_small hc.1 hc.2.1 hc.2.2 q
theorem op_shr : OpR X (binaryOp .RShift) (rI (fun _ j => 0 ≤ j) fun i j => .int (i / 2 ^ j.toNat)) := opI fun i j _ _ _ _ _ hc q =>
  rshift_int hc (by rw [Int.fdiv_eq_ediv_of_nonneg i (two_pow_nn _)]; exact q)
theorem op_and : OpR X (binaryOp .BitAnd) (rI0 fun i j => .int (Builtin.bitAnd i j)) := opI0 fun _ _ _ _ _ _ _ q => and_int q
theorem op_or : OpR X (binaryOp .BitOr) (rI0 fun i j => .int (Builtin.bitOr i j)) := opI0 fun _ _ _ _ _ _ _ q => or_int q
theorem op_xor : OpR X (binaryOp .BitXor) (rI0 fun i j => .int (Builtin.bitXor i j)) := opI0 fun _ _ _ _ _ _ _ q => xor_int q

theorem unI {f : Value → Sem Value} {g : Int → Int}
    (rule : ∀ (i : Int) (t : Tok) (s : Shared) (Q : Value → Shared → Prop) (E : Value → Shared → Prop), Q (.int (g i) s.toks) { s with toks := s.toks + 1 } → wpAny (model X.prog X.w) X.A (f (.int i t)) Q E s) :
    UnR X f (rU fun i => .int (g i)) := by
  intro pins s σ H x v Q I rx h
  obtain ⟨i, rfl, q⟩ := h
  obtain ⟨t, rfl⟩ := rx
  exact rule i t s _ _ ⟨.int (g i), H, I.tok _, ⟨_, rfl⟩, q⟩
theorem un_inv : UnR X (unaryOp .Invert) (rU fun i => .int (Builtin.bitNot i)) := unI fun _ _ _ _ _ q => invert_int q

end

section
variable {X : Cx} {a b c : Expr} {ta tb tc : TE} {pos : Pos}
theorem fin_bl {pins : List (Addr × Obj)} {σ : St} {H : Hp} {s : Shared} {Q : VK} {k k' : Bool} (I : Inv X pins σ H s) (q : Q (.bl k) H) (e : k = k') : EP X pins σ Q (.bool k') s := by
  subst e
  exact ⟨.bl k, H, I, rfl, q⟩
theorem op_gt : OpR X (compareOp .Gt) (rI0 fun i j => .bl (decide (j < i))) := opB0 fun _ _ _ _ _ _ _ q => gt_int q
theorem op_isN : OpR X (compareOp .Is) (fun x y H Q => y = .non ∧ Q (.bl (decide (x = .non))) H) := by
  intro pins s σ H x y v u Q I rx ry h
  obtain ⟨rfl, q⟩ := h
  cases ry
  refine is_none_gen (fin_bl I q ?_)
  cases x <;> first
    | (cases rx; rfl)
    | (obtain ⟨t, rfl⟩ := rx; rfl)
theorem OpR.or {f : Value → Value → Sem Value} {r r' : R2} (h : OpR X f r) (h' : OpR X f r') : OpR X f (fun x y H Q => r x y H Q ∨ r' x y H Q) := by
  intro pins s σ H x y v u Q I rx ry q
  rcases q with q | q
  · exact h pins s σ H x y v u Q I rx ry q
  · exact h' pins s σ H x y v u Q I rx ry q

theorem nomark (b : Expr) {op : CmpOp} (h : op ≠ .In := by decide) (h2 : op ≠ .NotIn := by decide) : behindInMarks op b = false := by
  have e1 : (op == CmpOp.In) = false := by cases op <;> first | rfl | exact absurd rfl h
  have e2 : (op == CmpOp.NotIn) = false := by cases op <;> first | rfl | exact absurd rfl h2
  cases b <;> simp [behindInMarks, e1, e2]
theorem pe_cmpR {op : CmpOp} {r : R2} (ho : OpR X (compareOp op) r) (ha : PE X a ta) (hb : PE X b tb) (hm : behindInMarks op b = false) : PE X (.Compare a [op] [b] pos) (tOp r ta tb) := by
  intro pins s σ H Q I h
  exact wpAny_Compare1 (binT ha hb I h fun v u s2 x y H2 I2 rx ry q => ho pins s2 σ H2 x y v u Q I2 rx ry q) hm
def tTest (t : TE) : TT := fun σ H Q => t σ H fun x H' => ∃ k, x = .bl k ∧ Q k H'
theorem pt_cmpR {op : CmpOp} {r : R2} (ho : OpR X (compareOp op) r) (ha : PE X a ta) (hb : PE X b tb) (hm : behindInMarks op b = false) : PT X (.Compare a [op] [b] pos) (tTest (tOp r ta tb)) := by
  intro pins s σ H Q I h
  refine wpAny_isTrue_Compare1 (thn (ha pins s σ H _ I h) fun v s1 ⟨x, H1, I1, r1, q1⟩ => thn (hb pins s1 σ H1 _ I1 q1) fun u s2 ⟨y, H2, I2, r2, q2⟩ =>
    thn (ho pins s2 σ H2 x y v u _ I2 r1 r2 q2) fun c s3 ⟨z, H3, I3, r3, k, e, q3⟩ => ?_) hm
  subst e
  cases r3
  exact wpAny_truthy_bool ⟨H3, I3, q3⟩
theorem line63 : (sizeLine : Nat) < 2 ^ 63 := by rw [sizeLine_eq]; decide
theorem op_add_str : OpR X (binaryOp .Add) (fun x y H Q => ∃ i j, x = .str i ∧ y = .str j ∧ i.length + j.length ≤ sizeLine ∧ Q (.str (i ++ j)) H) := by
  intro pins s σ H x y v u Q I rx ry h
  obtain ⟨i, j, rfl, rfl, hz, q⟩ := h
  obtain ⟨t, rfl⟩ := rx
  obtain ⟨t', rfl⟩ := ry
  exact add_str (fun t' tk => ⟨.str (i ++ j), H, I.tok _, ⟨_, rfl⟩, q⟩) hz
theorem vals1 {x : V} {us : List Value} (r : Vals [x] us) : ∃ u, us = [u] ∧ RelV x u := by
  cases r with
  | cons r1 r2 => cases r2; exact ⟨_, rfl, r1⟩
def LenV (K : PySem.W.Frag) (x : V) (H : Hp) (n : Nat) : Prop :=
  match x with
  | .str y => y.length ≤ sizeLine ∧ n = y.length
  | .byt y => y.size ≤ sizeLine ∧ n = y.size
  | .ref p => (∃ xs, SqL K H p xs ∧ n = xs.length) ∨ ∃ xs, SqT K H p xs ∧ n = xs.length
  | _ => False
theorem call_len : CallR X (.builtin "len") (fun xs H Q => ∃ x n, xs = [x] ∧ LenV X.K x H n ∧ Q (.int n) H) := by
  intro pins s σ H xs us Q I r h
  obtain ⟨x, n, rfl, e, q⟩ := h
  obtain ⟨u, rfl, rx⟩ := vals1 r
  have hl := line63
  have hs : sizeLine = 16777216 := sizeLine_eq
  cases x with
  | str y =>
    obtain ⟨t, rfl⟩ := rx
    obtain ⟨hy, e'⟩ : y.length ≤ sizeLine ∧ n = y.length := e
    subst e'
    exact len_str (by omega) ⟨.int _, H, I.tok _, ⟨_, rfl⟩, q⟩
  | byt y =>
    obtain ⟨t, rfl⟩ := rx
    obtain ⟨hy, e'⟩ : y.size ≤ sizeLine ∧ n = y.size := e
    subst e'
    exact PySem.W.len_bytes (by omega) ⟨.int _, H, I.tok _, ⟨_, rfl⟩, q⟩
  | ref p =>
    cases rx
    have e' : (∃ xs, SqL X.K H p xs ∧ n = xs.length) ∨ ∃ xs, SqT X.K H p xs ∧ n = xs.length := e
    rcases e' with ⟨xs, hx, e'⟩ | ⟨xs, hx, e'⟩
    · subst e'
      obtain ⟨its, r', pl, hz⟩ := I.list hx
      have hlen := r'.length
      exact Calls.call_len_list pl.isList (by simp only [List.size_toArray]; omega) ⟨.int xs.length, H, I.tok _, ⟨_, by simp only [List.size_toArray]; rw [hlen]⟩, q⟩
    · subst e'
      obtain ⟨its, r', pl, hz⟩ := I.tuple hx
      have hlen := r'.length
      exact len_tuple pl (by simp only [List.size_toArray]; omega) ⟨.int xs.length, H, I.tok _, ⟨_, by simp only [List.size_toArray]; rw [hlen]⟩, q⟩
  | _ => exact (show False from e).elim
end
end L2

namespace L2
open PySem PySem.Spec PyProof.Rows

structure ObjM (h : Heap) (x dx C : Addr) (mA : Str → Option Value) : Prop where
  obj : h.get? x = some (PySem.W.instObj C dx)
  ns : h.Ns1 dx mA
  ne : dx ≠ x

theorem lookIn_ns {h : Heap} {dx : Addr} {mA : Str → Option Value} (n : h.Ns1 dx mA) : ∃ od, h.get? dx = some od ∧ ∀ name, PySem.W.lookIn name od = some (mA name) := by
  obtain ⟨o, es, ep, ho, hd, hk, _, hm⟩ := n
  refine ⟨o, ho, fun name => ?_⟩
  have e := hm name
  unfold nsFind findBy at e
  rw [← Array.find?_toList] at e
  unfold PySem.W.lookIn
  rw [hd]
  dsimp only
  split
  · rename_i y q
    rw [q] at e
    exact congrArg some e
  · rename_i q
    rw [q] at e
    have a : es.toList.any (·.refKey) = false := by
      rw [List.any_eq_false]
      intro y hy
      obtain ⟨z, t, hkey⟩ := hk y (Array.mem_toList_iff.mp hy)
      simp [DictEntry.refKey, hkey]
    have a' : ¬ es.toList.any (·.refKey) = true := by rw [a]; exact Bool.false_ne_true
    rw [if_neg a']
    exact congrArg some e

theorem ObjM.look {h : Heap} {x dx C : Addr} {mA : Str → Option Value} (I : ObjM h x dx C mA) : ∃ od, PySem.W.InstAt h x (PySem.W.instObj C dx) C (some od) ∧ ∀ name, PySem.W.lookIn name od = some (mA name) :=
  let ⟨od, ho, hl⟩ := lookIn_ns I.ns
  ⟨od, ⟨I.obj, rfl, rfl, ho⟩, hl⟩

section
variable {prog : Program} {w : World} {A : Around} {E : Value → Shared → Prop} {s : Shared} {K : PySem.W.Frag} {x dx C f : Addr} {mA : Str → Option Value} {name : Str} {v : Value}

end

section
variable {P : Program} {w : World} {H H' : Hp} {h h' : Heap} {a C dx : Addr} {fs fs' : List (Str × V)}
theorem ins_get (hok : HOk P w H h) (e : H a = some (.ins C dx fs)) : ∃ mA, ObjM h a dx C mA ∧ (∀ f, RelO (fs.lookup f) (mA f)) ∧ PySem.Within mA (fs.map (·.1)) ∧ fs.length ≤ 1000 ∧ H dx = some (.own a) := by
  obtain ⟨d, z, ne, ob, mA, n, r, q⟩ := (show ObjOk P w H h a (.ins C dx fs) from hok a _ e)
  exact ⟨mA, ⟨ob, n, ne⟩, r, q, z, d⟩
end

structure Cls (K : PySem.W.Frag) (C : Addr) : Prop where
  pg : PySem.W.plainGet K C Str.empty = true
  hd : PySem.W.hasDictIn K C = true
  po : PySem.W.plainOver K C = true
  sa : PySem.W.findIn K (.ref C) "__setattr__" = some (some (.builtin "object.__setattr__"))
theorem Cls.get {K : PySem.W.Frag} {C : Addr} (c : Cls K C) (f : Str) : PySem.W.plainGet K C f = true := c.pg
section
variable {X : Cx} {pins : List (Addr × Obj)} {σ : St} {H : Hp} {s : Shared} {a C dx : Addr} {fs : List (Str × V)} {f : Str} {v : V} {A : Around} {E : Value → Shared → Prop}

end

section
variable {X : Cx} {o e value : Expr} {f : Str} {pos pos' tpos : Pos} {ta tv : TE}
end

section
variable {X : Cx} {pins : List (Addr × Obj)} {σ : St} {H : Hp} {s : Shared} {A : Around} {E : Value → Shared → Prop} {Q : Value → Shared → Prop} {c : Value} {b : Bool}
inductive TyOf (K : PySem.W.Frag) (H : Hp) : V → Value → Prop where
  | non : TyOf K H .non (.type "NoneType")
  | bl (x : Bool) : TyOf K H (.bl x) (.type "bool")
  | int (i : Int) : TyOf K H (.int i) (.type "int")
  | str (x : Str) : TyOf K H (.str x) (.type "str")
  | flt (x : UInt64) : TyOf K H (.flt x) (.type "float")
  | lst {a : Addr} {xs : List V} (e : H a = some (.lst xs)) : TyOf K H (.ref a) (.type "list")
  | frz {a : Addr} {o : Obj} {xs : List V} (e : H a = some (.frz o (.lst xs))) : TyOf K H (.ref a) (.type "list")
  | tup {a : Addr} {xs : List V} (e : H a = some (.tup xs)) : TyOf K H (.ref a) (.type "tuple")
  | dK {a : Addr} {kvs : List (Key × V)} (e : H a = some (.dK kvs)) : TyOf K H (.ref a) (.type "dict")
  | dT {a : Addr} {kvs : List (List Key × V)} (e : H a = some (.dT kvs)) : TyOf K H (.ref a) (.type "dict")
  | ins {a C dx : Addr} {fs : List (Str × V)} (e : H a = some (.ins C dx fs)) (cl : Cls K C) (ha : PySem.W.findIn K (.ref C) "__class__" = some (some (.builtin "object.__class__")))
      (hn : PySem.W.specialIn K (.builtin "object.__class__") "__get__" = some (some (.builtin "getset_descriptor.__get__"))) (htk : PySem.W.takesIn K (.builtin "object.__class__") = some true)
      (hm : PySem.W.mroIn K C (.type "object") = some true) : TyOf K H (.ref a) (.ref C)
theorem isinst_ok {x : V} {u t : Value} (I : Inv X pins σ H s) (rx : RelV x u) (ty : TyOf X.K H x t) (e : PySem.W.kitOne X.K t c = some b) (h : ∀ tk, Q (.bool b) { s with toks := tk }) :
    wpAny (model X.prog X.w) A (call (.builtin "isinstance") [u, c]) Q E s := by
  cases ty with
  | non => cases (show u = Value.none from rx); exact PySem.W.kia_one PySem.W.kitx_none I.kIn True.intro e (fun z => nomatch z) h
  | bl y => cases (show u = Value.bool y from rx); exact PySem.W.kia_one PySem.W.kitx_bool I.kIn True.intro e (fun z => nomatch z) h
  | int i => obtain ⟨t, q⟩ := (show ∃ t, u = Value.int i t from rx); cases q; exact PySem.W.kia_one PySem.W.kitx_int I.kIn True.intro e (fun z => nomatch z) h
  | str y => obtain ⟨t, q⟩ := (show ∃ t, u = Value.str y t from rx); cases q; exact PySem.W.kia_one PySem.W.kitx_str I.kIn True.intro e (fun z => nomatch z) h
  | flt y => obtain ⟨t, q⟩ := (show ∃ t, u = Value.float y t from rx); cases q; exact PySem.W.kia_one PySem.W.kitx_float I.kIn True.intro e (fun z => nomatch z) h
  | @lst a xs ea =>
    cases (show u = Value.ref a from rx)
    obtain ⟨_, _, n, _, h1⟩ := (show ObjOk X.prog X.w H s.heap a (.lst xs) from I.hok a _ ea)
    exact PySem.W.kia_one PySem.W.kitx_list I.kIn ⟨_, h1, rfl⟩ e (fun z => nomatch z) h
  | @frz a ob xs ea =>
    cases (show u = Value.ref a from rx)
    obtain ⟨_, _, _, n, _, h1⟩ := (show ObjOk X.prog X.w H s.heap a (.frz ob (.lst xs)) from I.hok a _ ea)
    exact PySem.W.kia_one PySem.W.kitx_list I.kIn ⟨_, h1, rfl⟩ e (fun z => nomatch z) h
  | @tup a xs ea =>
    cases (show u = Value.ref a from rx)
    obtain ⟨_, _, _, p⟩ := (show ObjOk X.prog X.w H s.heap a (.tup xs) from I.hok a _ ea)
    obtain ⟨o, h1, h2, _⟩ := p
    exact PySem.W.kia_one PySem.W.kitx_tuple I.kIn ⟨o, h1, h2⟩ e (fun z => nomatch z) h
  | @dK a kvs ea =>
    cases (show u = Value.ref a from rx)
    obtain ⟨_, _, vs, _, p⟩ := (show ObjOk X.prog X.w H s.heap a (.dK kvs) from I.hok a _ ea)
    obtain ⟨o, es, ep, h1, h2, _⟩ := p
    exact PySem.W.kia_one PySem.W.kitx_dict I.kIn ⟨o, h1, h2.1⟩ e (fun z => nomatch z) h
  | @dT a kvs ea =>
    cases (show u = Value.ref a from rx)
    obtain ⟨_, _, xs, _, o, es, ep, h1, h2, _⟩ := (show ObjOk X.prog X.w H s.heap a (.dT kvs) from I.hok a _ ea)
    exact PySem.W.kia_one PySem.W.kitx_dict I.kIn ⟨o, h1, h2.1⟩ e (fun z => nomatch z) h
  | @ins a C dx fs ea cl ha hn htk hm =>
    cases (show u = Value.ref a from rx)
    obtain ⟨mA, O, _⟩ := ins_get I.hok ea
    obtain ⟨od, J, _⟩ := O.look
    exact PySem.W.kia_one (PySem.W.kitx_own (cl.get _) cl.hd ha hn htk hm) I.kIn J e (fun z => nomatch z) h
end
end L2

namespace L2
open PySem PySem.Spec PyProof.Rows

structure Room (k : Nat) (A : Around) : Prop where
  hd : A.handled = none
  dp : A.depth + 3 * k + 5 < recursionLimit
  un : A.units + 16 * k + 200 < cLine
theorem Room.mono {j k : Nat} {A : Around} (r : Room k A) (h : j ≤ k) : Room j A := ⟨r.hd, by have := r.dp; omega, by have := r.un; omega⟩
theorem Room.deeper {k : Nat} {A : Around} (r : Room (k + 1) A) (env : Env) : Room k (A.deeper env) :=
  ⟨r.hd, by have := r.dp; show A.depth + 1 + 3 * k + 5 < _; omega, by have := r.un; show A.units + 3 + 16 * k + 200 < _; omega⟩
theorem Room.depth {k : Nat} {A : Around} (r : Room k A) : A.depth < recursionLimit := by have := r.dp; omega
def tNil : TA := fun _ H Q => Q [] H
def tCons (ta : TE) (tr : TA) : TA := fun σ H Q => ta σ H fun x H1 => tr σ H1 fun xs H2 => Q (x :: xs) H2
section
variable {X : Cx} {e : Expr} {es : List Expr} {te : TE} {t : TA} {pos : Pos}
theorem pa_nil : PA X [] tNil := fun _ _ _ _ H Q I h => Calls.spliced_nil ⟨[], H, I, .nil, h⟩
theorem pa_cons (ha : PE X e te) (hr : PA X es t) (hs : starEach (e :: es) X.env = (false, eval e X.env) :: starEach es X.env := by rfl) : PA X (e :: es) (tCons te t) := by
  intro pos pins s σ H Q I h
  rw [hs]
  show wpAny _ _ (spliced ((false, eval e X.env) :: backTo pos (starEach es X.env))) _ _ s
  refine Calls.spliced_cons (thn (ha pins s σ H _ I h) fun u s1 ⟨x, H1, I1, r1, q1⟩ => ?_)
  exact thn (hr pos pins s1 σ H1 _ I1 q1) fun us s2 ⟨xs, H2, I2, r2, q2⟩ => ⟨x :: xs, H2, I2, .cons r1 r2, q2⟩

def tTup (t : TA) : TE := fun σ H Q => t σ H fun xs H1 => xs.length ≤ sizeLine ∧ ∀ p, H1 p = none → Q (.ref p) (upd H1 p (.tup xs))
def tLst (t : TA) : TE := fun σ H Q => t σ H fun xs H1 => xs.length ≤ sizeLine ∧ ∀ p, H1 p = none → Q (.ref p) (upd H1 p (.lst xs))
theorem pe_tup {x1} (h : PA X es t) : PE X (.Tuple es x1 pos) (tTup t) := by
  intro pins s σ H Q I hq
  refine wpAny_Tuple_spliced (thn (h pos pins s σ H _ I hq) fun us s1 ⟨xs, H1, I1, r, z, q⟩ => ⟨by rw [← r.length]; exact z, ?_⟩)
  have hf : H1 s1.heap.objs.size = none := I1.hok.fresh (Nat.le_refl _)
  refine ⟨.ref s1.heap.objs.size, upd H1 s1.heap.objs.size (.tup xs), I1.laid (t' := s1.toks) (fun b u e => Heap.get?_push_of_some _ e) (Nat.le_refl _) ?_, rfl, q _ hf⟩
  exact ⟨z, us, r, ⟨_, Heap.get?_push_size _ rfl, rfl, _, rfl⟩⟩
theorem pe_lst (h : PA X es t) : PE X (.List es pos) (tLst t) := by
  intro pins s σ H Q I hq
  refine wpAny_List_spliced (thn (h pos pins s σ H _ I hq) fun us s1 ⟨xs, H1, I1, r, z, q⟩ => ⟨by rw [← r.length]; exact z, ?_⟩)
  have hf : H1 s1.heap.objs.size = none := I1.hok.fresh (Nat.le_refl _)
  refine ⟨.ref s1.heap.objs.size, upd H1 s1.heap.objs.size (.lst xs), I1.laid (t' := s1.toks) (fun b u e => Heap.get?_push_of_some _ e) (Nat.le_refl _) ?_, rfl, q _ hf⟩
  exact ⟨z, us, 0, r, Heap.get?_push_size _ rfl⟩
end

abbrev Sp := List V → Hp → VK → XK → Prop
abbrev CXT := List Env → Hp → Shared → XK → Value → Shared → Prop

structure Env0 (P : Program) (w : World) (K : PySem.W.Frag) (mg : Str → Option Value) (base : Heap) (A : Around) (outer : List Env) (s : Shared) (H : Hp) : Prop where
  frames : A.frames = some outer
  mod : Mod K mg base
  bs : ∀ b o, base.get? b = some o → s.heap.get? b = some o ∧ H b = none
  bsz : base.objs.size ≤ s.heap.objs.size
  funs : s.heap.FunFrames base outer
  frf : ∀ b ∈ frs outer, H b = none
  hok : HOk P w H s.heap
  bare : AllBare s.gens
def CE (outer : List Env) (P : Program) (w : World) (H : Hp) (s : Shared) (Q : VK) (u : Value) (s' : Shared) : Prop :=
  ∃ v H', s'.os = s.os ∧ AllBare s'.gens ∧ Un (frs outer) [] H H' s.heap s'.heap ∧ HOk P w H' s'.heap ∧ RelV v u ∧ Q v H'
def CR (CX : CXT) (outer : List Env) (P : Program) (w : World) (H : Hp) (s : Shared) (Q : VK) (E : XK) (r : Result) (s' : Shared) : Prop :=
  match r with
  | .ok (.ret u) => CE outer P w H s Q u s'
  | .ok _ => False
  | .error e => CX outer H s E e s'
structure FnOk (P : Program) (w : World) (K : PySem.W.Frag) (mg : Str → Option Value) (base : Heap) (CX : CXT) (k : Nat) (f : Addr) (fd : FuncData) (ps : List Str) (sp : Sp) : Prop where
  len : ∀ vs H Q E, sp vs H Q E → vs.length = ps.length
  run : ∀ (A : Around) (outer : List Env) (s : Shared) (H : Hp) (args : Args) (us : List Value) (vs : List V) (Q : VK) (E : XK), Room k A → Env0 P w K mg base A outer s H → BindsTo s fd args (ps.zip us) → Vals vs us → sp vs H Q E →
    codeAny (model P w) A (.call (.ref f) args) (CR CX outer P w H s Q E) s
theorem FnOk.imp {P : Program} {w : World} {K : PySem.W.Frag} {mg : Str → Option Value} {base : Heap} {CX : CXT} {k : Nat} {f : Addr} {fd : FuncData} {ps : List Str} {sp sp' : Sp} (F : FnOk P w K mg base CX k f fd ps sp)
    (h : ∀ vs H Q E, sp' vs H Q E → sp vs H Q E) : FnOk P w K mg base CX k f fd ps sp' :=
  ⟨fun vs H Q E q => F.len vs H Q E (h _ _ _ _ q), fun A outer s H args us vs Q E hr he hb hv hs => F.run A outer s H args us vs Q E hr he hb hv (h _ _ _ _ hs)⟩

section
variable {X : Cx} {pins : List (Addr × Obj)} {σ : St} {H : Hp} {s s' : Shared}
theorem Inv.env0 (I : Inv X pins σ H s) : Env0 X.prog X.w X.K X.mg X.base X.A X.stack s H :=
  ⟨I.ok.frames, I.ok.mod, I.bs, Nat.le_trans I.ok.bsz I.sz, I.stack, I.stkFree, I.hok, I.bare⟩
theorem Inv.after {Q : VK} {u : Value} (I : Inv X pins σ H s) (h : CE X.stack X.prog X.w H s Q u s') : EP X pins σ Q u s' := by
  obtain ⟨v, H', os, bare, un, hok, r, q⟩ := h
  obtain ⟨hh, g, d, t, os'⟩ := s'
  obtain rfl : os' = s.os := os
  exact ⟨v, H', I.call (h' := hh) (g' := g) (d' := d) (t' := t) (ch := []) un hok bare (fun b z => absurd z (by simp)), r, q⟩
end

def tCall (sp : Sp) (dvs : List V) (E : XK) (t : TA) : TE := fun σ H Q => t σ H fun vs H1 => sp (vs ++ dvs) H1 Q E
def Binds (K : PySem.W.Frag) (fd : FuncData) (ps : List Str) (ds : List Value) : Prop :=
  ∀ (s : Shared) (us : List Value), K.In s.heap → (us ++ ds).length = ps.length → BindsTo s fd ⟨us, []⟩ (ps.zip (us ++ ds))
theorem Binds.all {K : PySem.W.Frag} {fd : FuncData} {ps : List Str} (h : ∀ us : List Value, us.length = ps.length → bindArgs fd ⟨us, []⟩ = pure (ps.zip us)) : Binds K fd ps [] := fun s us _ hl => by
  rw [List.append_nil] at hl ⊢
  exact .of_eq (h us hl)

def Passes (CX : CXT) (X : Cx) (E : XK) : Prop := ∀ (pins : List (Addr × Obj)) (σ : St) (H : Hp) (s : Shared) (e : Value) (s' : Shared), Inv X pins σ H s → CX X.stack H s E e s' → X.xe e s'

section
variable {X : Cx} {CX : CXT} {k : Nat} {f C : Addr} {fd : FuncData} {ps : List Str} {sp : Sp} {dvs : List V} {ds : List Value} {E : XK} {x m : Str} {p pos apos : Pos} {e o : Expr} {es : List Expr} {ta : TE} {t : TA}

theorem run_fn {pins : List (Addr × Obj)} {σ : St} {H : Hp} {s : Shared} {Q : VK} {us : List Value} {vs : List V} (F : FnOk X.prog X.w X.K X.mg X.base CX k f fd ps sp) (hr : Room k X.A) (hb : Binds X.K fd ps ds) (hd : Vals dvs ds) (hx : Passes CX X E)
    (I : Inv X pins σ H s) (r : Vals vs us) (h : sp (vs ++ dvs) H Q E) : wpAny (model X.prog X.w) X.A (call (.ref f) us) (EP X pins σ Q) X.xe s := by
  have r2 : Vals (vs ++ dvs) (us ++ ds) := r.append hd
  have hl : (us ++ ds).length = ps.length := by rw [← r2.length]; exact F.len _ _ _ _ h
  refine wpAny_call (codeAny_mono (F.run X.A X.stack s H ⟨us, []⟩ (us ++ ds) (vs ++ dvs) Q E hr I.env0 (hb s us I.kIn hl) r2 h) fun r s' hq => ?_)
  cases r with
  | error e => exact hx pins σ H s e s' I hq
  | ok fl =>
    cases fl with
    | ret u => exact I.after hq
    | next => exact False.elim hq
    | brk => exact False.elim hq
    | cont => exact False.elim hq

theorem pe_call (F : FnOk X.prog X.w X.K X.mg X.base CX k f fd ps sp) (hr : Room k X.A) (hg : Gl X x) (hm : X.mg x = some (.ref f)) (hk : PySem.W.keepIn X.K (.ref f) = true) (hb : Binds X.K fd ps ds) (hd : Vals dvs ds) (hx : Passes CX X E)
    (ha : PA X (e :: es) t) (hdb : (x == ("__debug__" : Str)) = false := by decide) (he : starEach (e :: es) X.env = (false, eval e X.env) :: starEach es X.env := by rfl) (hpl : (backTo pos (starEach es X.env)).any (·.1) = false := by rfl) :
    PE X (.Call (.Name x p) (e :: es) [] pos) (tCall sp dvs E t) := by
  intro pins s σ H Q I h
  refine wpAny_Call_Name_kw (ld_glob I hg hm ?_ hdb)
  refine PySem.W.callWith_K (h₀ := X.base) I.ok.mod.kin hk (thn (ha pos pins s σ H _ I h) fun us s1 ⟨vs, H1, I1, r, q⟩ => ⟨I1.kIn, ?_⟩) he hpl
  exact run_fn F hr hb hd hx I1 r q
end

section
variable {X : Cx} {CX : CXT} {k : Nat} {f C : Addr} {fd : FuncData} {ps ks : List Str} {sp : Sp} {E : XK} {x m : Str} {p pos apos kpos : Pos} {e o : Expr} {es : List Expr} {kws : List Keyword} {te ta : TE} {t tk : TA} {nm : Option Str}
variable {g : List Value → List Value → List Value} {gV : List V → List V → List V}
end

structure FnScope (N P : List Str) (sc : Scope) : Prop where
  kind : sc.kind = .function
  co : sc.isCoroutine = false
  gen : sc.isGenerator = false
  nd : N.Nodup
  pre : N.take P.length = P
  par : ∀ x ∈ P, sc.names.lookup x = some .local ∨ sc.names.lookup x = some .cell
  nofree : ∀ y ∈ sc.names, y.2 ≠ .free

theorem bindL_out {kindOf : Str → Option NameKind} {x : Str} : ∀ {binds : List (Str × Value)} {m : Str → Option Value}, (∀ v, (x, v) ∉ binds) → bindL kindOf binds m x = m x
  | [], _, _ => rfl
  | (n, v) :: r, m, h => by
    unfold bindL
    rw [bindL_out fun w hw => h w (List.mem_cons_of_mem _ hw)]
    split
    · have : x ≠ n := by rintro rfl; exact h v List.mem_cons_self
      simp [this]
    · rfl
theorem bindC_out {kindOf : Str → Option NameKind} {x : Str} : ∀ {binds : List (Str × Value)} {m : Str → Option Value}, (∀ v, (x, v) ∉ binds) → bindC kindOf binds m x = m x
  | [], _, _ => rfl
  | (n, v) :: r, m, h => by
    unfold bindC
    rw [bindC_out fun w hw => h w (List.mem_cons_of_mem _ hw)]
    split
    · rfl
    · have : x ≠ n := by rintro rfl; exact h v List.mem_cons_self
      simp [this]
theorem bindL_get {kindOf : Str → Option NameKind} {x : Str} {v : Value} : ∀ {P : List Str} {vs : List Value} {i : Nat} {m : Str → Option Value}, P.Nodup → P[i]? = some x → vs[i]? = some v → kindOf x = some .local →
    bindL kindOf (P.zip vs) m x = some v
  | [], _, _, _, _, h, _, _ => by simp at h
  | _ :: _, [], _, _, _, _, h, _ => by simp at h
  | p :: P, w :: vs, 0, m, nd, h1, h2, hk => by
    simp at h1 h2; subst h1; subst h2
    show bindL kindOf ((p, w) :: P.zip vs) m p = _
    unfold bindL
    rw [bindL_out fun v hv => (List.nodup_cons.mp nd).1 (List.of_mem_zip hv).1, if_pos hk]
    simp
  | p :: P, w :: vs, i + 1, m, nd, h1, h2, hk => by
    show bindL kindOf ((p, w) :: P.zip vs) m x = _
    unfold bindL
    exact bindL_get (i := i) (List.nodup_cons.mp nd).2 (by simpa using h1) (by simpa using h2) hk
theorem bindC_get {kindOf : Str → Option NameKind} {x : Str} {v : Value} : ∀ {P : List Str} {vs : List Value} {i : Nat} {m : Str → Option Value}, P.Nodup → P[i]? = some x → vs[i]? = some v → kindOf x ≠ some .local →
    bindC kindOf (P.zip vs) m x = some v
  | [], _, _, _, _, h, _, _ => by simp at h
  | _ :: _, [], _, _, _, _, h, _ => by simp at h
  | p :: P, w :: vs, 0, m, nd, h1, h2, hk => by
    simp at h1 h2; subst h1; subst h2
    show bindC kindOf ((p, w) :: P.zip vs) m p = _
    unfold bindC
    rw [bindC_out fun v hv => (List.nodup_cons.mp nd).1 (List.of_mem_zip hv).1, if_neg hk]
    simp
  | p :: P, w :: vs, i + 1, m, nd, h1, h2, hk => by
    show bindC kindOf ((p, w) :: P.zip vs) m x = _
    unfold bindC
    exact bindC_get (i := i) (List.nodup_cons.mp nd).2 (by simpa using h1) (by simpa using h2) hk

def start (N : List Str) (vs : List V) : St := vs.map some ++ List.replicate (N.length - vs.length) none

def cxOf (CX : CXT) (P : Program) (w : World) (K : PySem.W.Frag) (mg : Str → Option Value) (base : Heap) (N : List Str) (qual : Str) (scope : Scope) (f : Addr) (cd : Value) (A : Around) (outer : List Env) (s : Shared) (H : Hp) (E : XK) : Cx where
  prog := P
  w := w
  K := K
  mg := mg
  base := base
  A := A.deeper (envOfC qual scope s.heap.objs.size f cd)
  N := N
  s₀ := s
  H₀ := H
  env := envOfC qual scope s.heap.objs.size f cd
  outer := outer
  stack := envOfC qual scope s.heap.objs.size f cd :: outer
  ex := []
  calm := true
  fn := fun _ => true
  pn := []
  xe := fun e s' => wpAny (model P w) (A.deeper (envOfC qual scope s.heap.objs.size f cd)) (leaving (envOfC qual scope s.heap.objs.size f cd) e) (fun _ s'' => CX outer H s E e s'') (fun e' s'' => CX outer H s E e' s'') s'

theorem cell_has {sc : Scope} {n : Nat} {x : Str} (h : sc.names.lookup x = some .cell) : ∃ c, (cellsFrom n sc.names []).lookup x = some c := by
  have q := PySem.W.cellsFrom_some sc.names n [] (.inl h)
  exact Option.isSome_iff_exists.mp q

theorem inv_start {CX : CXT} {P : Program} {w : World} {K : PySem.W.Frag} {mg : Str → Option Value} {base : Heap} {N ps : List Str} {qual : Str} {scope : Scope} {f : Addr} {cd : Value} {A : Around} {outer : List Env} {s s1 : Shared} {H : Hp} {E : XK} {us : List Value} {vs : List V}
    (S : FnScope N ps scope) (hd : A.handled = none) (e0 : Env0 P w K mg base A outer s H) (hl : vs.length = ps.length) (r : Vals vs us)
    (x : InCallC s s.heap.objs.size (bindL (envOfC qual scope s.heap.objs.size f cd).kindOf (ps.zip us) fun _ => none) (cellsFrom (s.heap.objs.size + 1) scope.names []) (bindC (envOfC qual scope s.heap.objs.size f cd).kindOf (ps.zip us) fun _ => none) s1) :
    Inv (cxOf CX P w K mg base N qual scope f cd A outer s H E) [] (start N vs) H s1 := by
  have hpl : ps.length ≤ N.length := by have := congrArg List.length S.pre; rw [List.length_take] at this; omega
  obtain ⟨h1, tk, rfl, hk⟩ := x.done
  have noA : ∀ b : Addr, b ∉ (cxOf CX P w K mg base N qual scope f cd A outer s H E).ex := fun b z => absurd (show b ∈ ([] : List Addr) from z) (by simp)
  refine ⟨⟨e0.mod, S.kind, rfl, rfl, Nat.le_refl _, fun y z c h1 h2 => ?_, fun y hy => ?_, fun y c _ h => ?_, fun _ => hd, Around.frames_deeper e0.frames, .inr ⟨rfl, rfl⟩, fun b z => absurd z (noA b), e0.bs, e0.bsz, fun b _ _ => noA b, fun b z => absurd z (noA b), e0.funs, e0.frf⟩,
    rfl, e0.bare, Un.kept hk, ⟨_, x.toInCall.ns, fun i y v h1 h2 h3 => ?_⟩, fun y c h => ⟨_, x.cell y c h⟩, e0.hok.fresh (Nat.le_refl _), fun y c h => ?_, fun p hp => absurd (show p ∈ ([] : List (Addr × Obj)) from hp) (by simp), e0.hok.kept hk, ?_⟩
  · exact name_of_addr x.apart (PySem.mem_of_lookup h1) (PySem.mem_of_lookup h2)
  · have hy : scope.names.lookup y = some .cell ∨ scope.names.lookup y = some .free := hy
    rcases hy with hy | hy
    · exact cell_has hy
    · exact absurd rfl (S.nofree _ (PySem.mem_of_lookup hy))
  · exact Nat.le_of_lt (x.above y c (PySem.mem_of_lookup h))
  · have hi : i < vs.length := by
      unfold start at h2
      by_cases hi : i < vs.length
      · exact hi
      · rw [List.getElem?_append_right (by simpa using hi)] at h2
        rw [List.getElem?_replicate] at h2
        split at h2 <;> cases h2
    have ha : vs[i]? = some v := by
      unfold start at h2
      rw [List.getElem?_append_left (by simpa using hi), List.getElem?_map] at h2
      cases e : vs[i]? with
      | none => rw [e] at h2; cases h2
      | some a => rw [e] at h2; cases h2; rfl
    obtain ⟨u, hu, rv⟩ := r.get ha
    have hp : ps[i]? = some y := by
      rw [← S.pre, List.getElem?_take_of_lt (by omega)]; exact h1
    have ndP : ps.Nodup := by rw [← S.pre]; exact S.nd.sublist (List.take_sublist _ _)
    refine ⟨u, rv, ?_⟩
    rcases S.par y (List.mem_of_getElem? hp) with k | k
    · exact .inl ⟨k, bindL_get ndP hp hu k⟩
    · obtain ⟨c, e⟩ := cell_has (n := s.heap.objs.size + 1) k
      refine .inr ⟨.inl k, c, e, ?_⟩
      have q := x.cell y c e
      rw [bindC_get ndP hp hu (by show scope.names.lookup y ≠ _; rw [k]; decide)] at q
      exact q
  · exact e0.hok.fresh (Nat.le_of_lt (x.above y c (PySem.mem_of_lookup h)))
  · unfold start
    show _ = N.length
    rw [List.length_append, List.length_map, List.length_replicate]
    omega

theorem fn_of {CX : CXT} {P : Program} {w : World} {K : PySem.W.Frag} {mg : Str → Option Value} {base : Heap} {k : Nat} {f : Addr} {name qual : Str} {params : Arguments} {body : List Stmt} {scope : Scope} {dV kV doc pm cdv ct oc : Value} {an od : Option Addr}
    {osl : Array (Option Value)} {N ps : List Str} {sp : Sp} (lk : K.lookup f = some ⟨oc, od, .func (PySem.W.fnOf name qual params body scope dV kV doc pm an cdv ct), osl⟩) (hcd : PySem.W.codeIn K cdv qual = true) (S : FnScope N ps scope)
    (len : ∀ vs H Q E, sp vs H Q E → vs.length = ps.length)
    (hbody : ∀ (A : Around) (outer : List Env) (s : Shared) (H : Hp) (vs : List V) (Q : VK) (E : XK), Room k (A.deeper (envOfC qual scope s.heap.objs.size f cdv)) → sp vs H Q E →
      ∃ t, PSs (cxOf CX P w K mg base N qual scope f cdv A outer s H E) body t ∧ t { nx := fun _ H' => Q .non H', rt := Q } (start N vs) H) :
    FnOk P w K mg base CX (k + 1) f (PySem.W.fnOf name qual params body scope dV kV doc pm an cdv ct) ps sp := by
  refine ⟨len, fun A outer s H args us vs Q E hr e0 hb r hsp => ?_⟩
  have hl := len _ _ _ _ hsp
  have KX : K.In s.heap := e0.mod.kin.keeps fun b o e => (e0.bs b o e).1
  have lim : s.heap.NoLimit := e0.mod.nolimit.keeps fun b o e => (e0.bs b o e).1
  have hkind : ∀ y ∈ ps.zip us, scope.names.lookup y.1 = some .local ∨ (scope.names.lookup y.1 = some .cell ∧ ((cellsFrom (s.heap.objs.size + 1) scope.names []).lookup y.1).isSome = true) := fun ⟨n, v⟩ hy => by
    rcases S.par n (List.of_mem_zip hy).1 with q | q
    · exact .inl q
    · exact .inr ⟨q, PySem.W.cellsFrom_some _ _ _ (.inl q)⟩
  refine codeAny_call_function hr.depth (KX _ _ lk) rfl S.co S.gen rfl (PySem.W.codeRec_of KX hcd) (hb _ _ _ _ ?_)
  refine wpAny_newFunctionEnv_cells S.kind hkind fun env he s1 x => ?_
  subst he
  refine ⟨lim.keeps x.toInCall.keep, codeAny_func ?_⟩
  obtain ⟨t, ht, hq⟩ := hbody A outer s H vs Q E (hr.deeper _) hsp
  have I : Inv (cxOf CX P w K mg base N qual scope f cdv A outer s H E) [] (start N vs) H s1 := inv_start S hr.hd e0 hl r x
  refine wpAny_mono (ht [] s1 (start N vs) H _ I hq) (fun fl s' hs => ?_) fun e s' hs => hs
  have fin : ∀ {σ' : St} {H' : Hp} {v : V} {u : Value}, Inv (cxOf CX P w K mg base N qual scope f cdv A outer s H E) [] σ' H' s' → RelV v u → Q v H' → CE outer P w H s Q u s' :=
    fun {σ' H' v u} J rv q => ⟨v, H', J.os, J.bare, J.base, J.hok, rv, q⟩
  cases fl with
  | ret u =>
    obtain ⟨v, σ', H', J, rv, q⟩ := hs
    exact fin J rv q
  | next =>
    obtain ⟨σ', H', J, q⟩ := hs
    exact fin (v := V.non) (u := Value.none) J rfl q
  | brk =>
    obtain ⟨_, _, _, q⟩ := hs
    exact False.elim q
  | cont =>
    obtain ⟨_, _, _, q⟩ := hs
    exact False.elim q
end L2

namespace L2
open PySem PySem.Spec PyProof.Rows
section
variable {X : Cx} {x : Str} {p pos : Pos} {e : Expr} {es : List Expr} {t : TA} {id T : String} {r : List V → Hp → VK → Prop}

def tCB (r : List V → Hp → VK → Prop) (t : TA) : TE := fun σ H Q => t σ H fun vs H1 => r vs H1 Q
theorem pe_callB (hc : CallR X (.builtin id) r) (hg : Gl X x) (hm : X.mg x = none) (hv : bootBuiltins x = some (.builtin id)) (ha : PA X (e :: es) t) (hn : x ≠ "__name__" := by decide) (hdb : (x == ("__debug__" : Str)) = false := by decide)
    (he : starEach (e :: es) X.env = (false, eval e X.env) :: starEach es X.env := by rfl) (hpl : (backTo pos (starEach es X.env)).any (·.1) = false := by rfl) : PE X (.Call (.Name x p) (e :: es) [] pos) (tCB r t) := by
  intro pins s σ H Q I h
  refine wpAny_Call_Name_kw (ld_blt I hg hm hv ?_ hn hdb)
  exact PyProof.Rows.callWith_builtin1 (thn (ha pos pins s σ H _ I h) fun us s1 ⟨vs, H1, I1, r1, q1⟩ => hc pins s1 σ H1 vs us Q I1 r1 q1) he hpl
theorem pe_callTy (hc : CallR X (.type T) r) (hg : Gl X x) (hm : X.mg x = none) (hv : bootBuiltins x = some (.type T)) (ha : PA X (e :: es) t) (hn : x ≠ "__name__" := by decide) (hdb : (x == ("__debug__" : Str)) = false := by decide)
    (he : starEach (e :: es) X.env = (false, eval e X.env) :: starEach es X.env := by rfl) (hpl : (backTo pos (starEach es X.env)).any (·.1) = false := by rfl) : PE X (.Call (.Name x p) (e :: es) [] pos) (tCB r t) := by
  intro pins s σ H Q I h
  refine wpAny_Call_Name_kw (ld_blt I hg hm hv ?_ hn hdb)
  exact PyProof.Rows.callWith_type1 (thn (ha pos pins s σ H _ I h) fun us s1 ⟨vs, H1, I1, r1, q1⟩ => hc pins s1 σ H1 vs us Q I1 r1 q1) he hpl
end
end L2

namespace HT
open PySem PyProof.Rows

section
open PySem.SeqAt
open PySem.AutoSeq1 (wpAny_loadPart')
open PySem.MeetsSeq PySem.MeetsSeq2 PySem.MeetsSeq3

end

section
variable {prog : Program} {w : World} {A : Around} {E : Value → Shared → Prop} {s : Shared}

theorem cat_tup {t b : Addr} {vs ws : List Value} {Q : Value → Shared → Prop} (ht : IsTup s.heap t vs.toArray) (hb : IsTup s.heap b ws.toArray) (hv : vs ≠ [])
    (h1 : ws = [] → Q (.ref t) s) (h2 : ws ≠ [] → Q (.ref s.heap.objs.size) { s with heap := s.heap.push { cls := .type "tuple", data := .seq (vs ++ ws).toArray } })
    (hsz : vs.length + ws.length ≤ sizeLine) : wpAny (model prog w) A (binaryOp .Add (.ref t) (.ref b)) Q E s := by
  obtain ⟨⟨cls, dd, data, sl⟩, ho, hc, n, hd⟩ := id ht
  obtain ⟨⟨cls2, dd2, data2, sl2⟩, ho2, hc2, n2, hd2⟩ := id hb
  simp only at hc hd hc2 hd2
  subst hc hd hc2 hd2
  have e : vs.toArray ++ ws.toArray = (vs ++ ws).toArray := by simp
  by_cases hw : ws = []
  · exact concat_meets ⟨_, ho, rfl⟩ ⟨_, ho2, rfl⟩ noFill_tuple_add seq_tuple_add PySem.F.slot_tuple_add PySem.F.entry_tuple_add (PySem.F.args_tuple_add_2 _ _)
      (tuple_addW1 t b vs.toArray ws.toArray n n2 dd dd2 sl sl2 (by simpa using hv) (by simp [hw])) ⟨ho, ho2, h1 hw⟩
  · refine concat_meets ⟨_, ho, rfl⟩ ⟨_, ho2, rfl⟩ noFill_tuple_add seq_tuple_add PySem.F.slot_tuple_add PySem.F.entry_tuple_add (PySem.F.args_tuple_add_2 _ _)
      (tuple_addW2 t b vs.toArray ws.toArray n n2 dd dd2 sl sl2 (by simpa using hv) (by simpa using hw) (by rw [List.size_toArray, List.size_toArray]; exact hsz)) ⟨ho, ho2, ?_⟩
    rw [e]
    exact h2 hw

def sIx (n d : Nat) : Option Int → Nat
  | none => d
  | some v => if v < 0 then (v + (n : Int)).toNat else min v.toNat n
theorem sIx_le (n d : Nat) (hd : d ≤ n) (o : Option Int) : sIx n d o ≤ n := by
  cases o with
  | none => exact hd
  | some v =>
    show (if v < 0 then (v + (n : Int)).toNat else min v.toNat n) ≤ n
    by_cases hv : v < 0
    · rw [if_pos hv]; omega
    · rw [if_neg hv]; exact Nat.min_le_right _ _
theorem clip_eq (v : Int) (n d : Nat) : (if v < 0 then max (v + (n : Int)) 0 else min v (n : Int)) = ((sIx n d (some v) : Nat) : Int) := by
  show (if v < 0 then max (v + (n : Int)) 0 else min v (n : Int)) = (((if v < 0 then (v + (n : Int)).toNat else min v.toNat n) : Nat) : Int)
  by_cases hv : v < 0
  · simp only [if_pos hv]; omega
  · simp only [if_neg hv]; omega
theorem adjust_gen (lo hi : Option Int) (n : Nat) : Builtin.Slice.sliceAdjust lo hi 1 (n : Int) = (((sIx n 0 lo : Nat) : Int), ((sIx n n hi : Nat) : Int)) := by
  have h1 : ¬ ((1 : Int) < 0) := by omega
  unfold Builtin.Slice.sliceAdjust
  simp only [h1, if_false]
  refine Prod.ext ?_ ?_
  · cases lo with
    | none => rfl
    | some v => exact clip_eq v n 0
  · cases hi with
    | none => rfl
    | some v => exact clip_eq v n n
theorem places_gen (i j : Nat) : Builtin.Slice.slicePlaces (i : Int) (j : Int) 1 = j - i := by
  unfold Builtin.Slice.slicePlaces
  have h1 : (1 : Int) > 0 := by omega
  simp only [h1, if_true, Int.ediv_one]
  split <;> omega
theorem slicePart_ {v : Value} {o : Option Int} {Q : Option Int → Shared → Prop} (p : IsPart v o) (h : Q o s) : wpAny (model prog w) A (Builtin.Slice.slicePartIndex v) Q E s := by
  cases p with
  | none => exact slicePart_none h
  | int i t => exact slicePart_int h
theorem sliceApplied_gen {sl : Addr} {vl vu : Value} {lo hi : Option Int} {n : Nat} {Q : Int × Int × Nat → Shared → Prop} (hs : s.heap.IsSliceOf sl vl vu .none) (pl : IsPart vl lo) (pu : IsPart vu hi)
    (h : Q (((sIx n 0 lo : Nat) : Int), 1, sIx n n hi - sIx n 0 lo) s) : wpAny (model prog w) A (Builtin.Slice.sliceApplied (.ref sl) (pure (n : Int))) Q E s := by
  obtain ⟨os, hos, hcs, hds⟩ := id hs
  unfold Builtin.Slice.sliceApplied Builtin.Slice.sliceFields
  refine wpAny_bind (wpAny_bind (wpAny_field hos hds (x := vl) rfl (wpAny_bind (wpAny_field hos hds (x := vu) rfl (wpAny_bind (wpAny_field hos hds (x := .none) rfl (wpAny_pure ?_)))))))
  refine wpAny_bind (slicePart_none ?_)
  show wpAny _ _ (if ((1 : Int) == 0) = true then _ else _) _ _ s
  rw [if_neg (by decide)]
  refine wpAny_bind (slicePart_ pl (wpAny_bind (slicePart_ pu (wpAny_bind (wpAny_pure ?_)))))
  show wpAny _ _ (match Builtin.Slice.sliceAdjust lo hi 1 (n : Int) with | (lo, hi) => pure (lo, (1 : Int), Builtin.Slice.slicePlaces lo hi 1)) _ _ s
  rw [adjust_gen lo hi n]
  show wpAny _ _ (pure (((sIx n 0 lo : Nat) : Int), (1 : Int), Builtin.Slice.slicePlaces ((sIx n 0 lo : Nat) : Int) ((sIx n n hi : Nat) : Int) 1)) _ _ s
  rw [places_gen]
  exact wpAny_pure h
theorem pick_gen (xs : Array Value) (i k : Nat) : ((List.range k).filterMap fun (m : Nat) => xs[((i : Int) + (m : Int) * 1).toNat]?).toArray = ((xs.toList.drop i).take k).toArray := by
  have e : (fun (m : Nat) => xs[((i : Int) + (m : Int) * 1).toNat]?) = fun m => xs[i + m]? := by
    funext m
    have : ((i : Int) + (m : Int) * 1).toNat = i + m := by omega
    rw [this]
  rw [e]
  have := pick_run xs i k
  rw [List.filterMap_map] at this
  have e2 : ((fun x => xs[x]?) ∘ fun x => i + x) = fun m => xs[i + m]? := rfl
  rw [e2] at this
  rw [this]

theorem getItem_tuple_cut {t sl : Addr} {items : Array Value} {vl vu : Value} {lo hi : Option Int} {Q : Value → Shared → Prop} (ht : IsTup s.heap t items) (hs : s.heap.IsSliceOf sl vl vu .none) (pl : IsPart vl lo) (pu : IsPart vu hi)
    (hw : ¬ (sIx items.size 0 lo = 0 ∧ sIx items.size items.size hi = items.size))
    (h : Q (.ref s.heap.objs.size) { s with heap := s.heap.push { cls := .type "tuple", data := .seq ((items.toList.drop (sIx items.size 0 lo)).take (sIx items.size items.size hi - sIx items.size 0 lo)).toArray } })
    (hsz : items.size ≤ sizeLine) : wpAny (model prog w) A (getItem (.ref t) (.ref sl)) Q E s := by
  have htake : sizeOk (.seq ((items.toList.drop (sIx items.size 0 lo)).take (sIx items.size items.size hi - sIx items.size 0 lo)).toArray) := by
    show ((items.toList.drop (sIx items.size 0 lo)).take (sIx items.size items.size hi - sIx items.size 0 lo)).toArray.size ≤ sizeLine
    rw [List.size_toArray, List.length_take, List.length_drop, Array.length_toList]
    omega
  have hj : sIx items.size items.size hi ≤ items.size := sIx_le _ _ (Nat.le_refl _) hi
  obtain ⟨os, hos, hcs, hds⟩ := id hs
  have hTs : s.TypeIs (.ref sl) "slice" := ⟨os, hos, hcs⟩
  unfold getItem
  try with_reducible refine wpAny_holding ?_
  first | refine wpAny_bind (wpAny_pure ?_) | skip
  refine wpAny_bind (wpAny_sequenceKey ht.typeIs (by decide) ?_)
  refine wpAny_bind (wpAny_callSpecial?_slot (name := Str.ofString "__getitem__") ht.typeIs PyProof.Rows.slot_tuple_getitem
    (wpAny_call_entry PyProof.Rows.slot_tuple_getitem ht.typeIs entry_tuple_getitem ?_ (args_tuple_getitem _ _)))
  show wpAny _ _ (Builtin.Tuple.tupleItemsOf (.ref t) >>= _) _ _ s
  refine wpAny_bind (tupleItemsOf_ ht ?_)
  refine wpAny_bind (wpAny_typeOf hTs ?_)
  rw [if_pos (by decide)]
  refine wpAny_bind (sliceApplied_gen hs pl pu ?_)
  have hno : ¬ ((((sIx items.size 0 lo : Nat) : Int) == 0 && (1 : Int) == 1 && (sIx items.size items.size hi - sIx items.size 0 lo) == items.size) = true) := by
    intro q
    rw [Bool.and_eq_true, Bool.and_eq_true] at q
    have q1 : ((sIx items.size 0 lo : Nat) : Int) = 0 := eq_of_beq q.1.1
    have q2 : sIx items.size items.size hi - sIx items.size 0 lo = items.size := eq_of_beq q.2
    exact hw ⟨by omega, by omega⟩
  show wpAny _ _ (if (((sIx items.size 0 lo : Nat) : Int) == 0 && (1 : Int) == 1 && (sIx items.size items.size hi - sIx items.size 0 lo) == items.size) = true then _ else _) _ _ s
  rw [if_neg hno, pick_gen]
  first
    | exact wpAny_bind (m := Builtin.Tuple.tupleExact _) (wpAny_newObj_type (wpAny_pure ⟨_, rfl, wpAny_pure h⟩) htake)
    | exact wpAny_bind (m := Builtin.Tuple.tupleExact _) (wpAny_newObj_type (wpAny_bind (wpAny_pure (wpAny_pure ⟨_, rfl, wpAny_pure h⟩))) htake)
    | exact wpAny_bind (wpAny_bind (m := Builtin.Tuple.tupleExact _) (wpAny_newObj_type (wpAny_pure (wpAny_pure ⟨_, rfl, wpAny_pure h⟩)) htake))
    | exact wpAny_bind (wpAny_bind (m := Builtin.Tuple.tupleExact _) (wpAny_newObj_type (wpAny_pure ⟨_, rfl, wpAny_pure h⟩) htake))
end
end HT

namespace L2
open PySem PySem.Spec PyProof.Rows

abbrev TO := St → Hp → (Option Int → Hp → Prop) → Prop
def PO (X : Cx) (e : Option Expr) (t : TO) : Prop :=
  ∀ (pins : List (Addr × Obj)) (s : Shared) (σ : St) (H : Hp) (Q : Option Int → Hp → Prop), Inv X pins σ H s → t σ H Q →
    wpAny (model X.prog X.w) X.A (evalPart e X.env) (fun u s' => ∃ o H', Inv X pins σ H' s' ∧ IsPart u o ∧ Q o H') X.xe s
def tNoPart : TO := fun _ H Q => Q none H
def tPart (t : TE) : TO := fun σ H Q => t σ H fun x H1 => ∃ i, x = .int i ∧ Q (some i) H1

section
variable {X : Cx} {e : Expr} {te : TE} {lo hi : Option Expr} {tl th : TO} {pos p2 : Pos}

theorem po_none : PO X none tNoPart := by
  intro pins s σ H Q I h
  rw [evalPart_none]
  exact wpAny_pure ⟨none, H, I, .none, h⟩
theorem po_some (h : PE X e te) : PO X (some e) (tPart te) := by
  intro pins s σ H Q I hw
  rw [evalPart_some]
  refine thn (h pins s σ H _ I hw) fun u s1 ⟨x, H1, I1, r1, q1⟩ => ?_
  obtain ⟨i, rfl, q⟩ := q1
  obtain ⟨t, rfl⟩ := r1
  exact ⟨some i, H1, I1, .int i t, q⟩

def SlR (X : Cx) (r : V → Option Int → Option Int → Hp → VK → Prop) : Prop :=
  ∀ (pins : List (Addr × Obj)) (s : Shared) (σ : St) (H : Hp) (x : V) (v vl vu : Value) (lo hi : Option Int) (sl : Addr) (Q : VK), Inv X pins σ H s → RelV x v → s.heap.IsSliceOf sl vl vu .none → IsPart vl lo → IsPart vu hi → r x lo hi H Q →
    ∃ T id, typeLookup (.type T) "__getitem__" = pure (some (.builtin id)) ∧ s.TypeIs v T ∧ wpAny (model X.prog X.w) X.A (getItem v (.ref sl)) (EP X pins σ Q) X.xe s
theorem SlR.or {r r' : V → Option Int → Option Int → Hp → VK → Prop} (h : SlR X r) (h' : SlR X r') : SlR X (fun x lo hi H Q => r x lo hi H Q ∨ r' x lo hi H Q) := by
  intro pins s σ H x v vl vu lo hi sl Q I rx hs pl pu q
  rcases q with q | q
  · exact h pins s σ H x v vl vu lo hi sl Q I rx hs pl pu q
  · exact h' pins s σ H x v vl vu lo hi sl Q I rx hs pl pu q
def tSl (r : V → Option Int → Option Int → Hp → VK → Prop) (te : TE) (tl th : TO) : TE := fun σ H Q => te σ H fun x H1 => tl σ H1 fun l H2 => th σ H2 fun u H3 => r x l u H3 Q
theorem pe_slice {r : V → Option Int → Option Int → Hp → VK → Prop} (hr : SlR X r) (he : PE X e te) (hl : PO X lo tl) (hu : PO X hi th) : PE X (.Subscript e (.Slice lo hi none p2) pos) (tSl r te tl th) := by
  intro pins s σ H Q I h
  refine Subscript_ (thn (he pins s σ H _ I h) fun v s1 ⟨x, H1, I1, r1, q1⟩ => ?_)
  refine wpAny_Slice (thn (hl pins s1 σ H1 _ I1 q1) fun vl s2 ⟨l, H2, I2, pl, q2⟩ => thn (hu pins s2 σ H2 _ I2 q2) fun vu s3 ⟨u, H3, I3, pu, q3⟩ => ?_)
  rw [evalPart_none]
  refine wpAny_pure ?_
  have I4 : Inv X pins σ H3 { s3 with heap := s3.heap.push { cls := .type "slice", data := .fields #[vl, vu, .none] } } := I3.kept (t' := s3.toks) fun b ob q => Heap.get?_push_of_some _ q
  obtain ⟨T, id, hT, ht, hg⟩ := hr pins { s3 with heap := s3.heap.push { cls := .type "slice", data := .fields #[vl, vu, .none] } } σ H3 x v vl vu l u s3.heap.objs.size Q I4 r1 (Heap.IsSliceOf.new ..) pl pu q3
  show wpAny (model X.prog X.w) X.A (subscriptTail e (.Slice lo hi none p2) v (.ref s3.heap.objs.size)) (EP X pins σ Q) X.xe { s3 with heap := s3.heap.push { cls := .type "slice", data := .fields #[vl, vu, .none] } }
  exact tail_any (ops := [.ref s3.heap.objs.size, v]) ht hT hg (by with_unfolding_all rfl)

def cutV (xs : List V) (lo hi : Option Int) : List V := (xs.drop (HT.sIx xs.length 0 lo)).take (HT.sIx xs.length xs.length hi - HT.sIx xs.length 0 lo)
theorem cutV_length (xs : List V) (lo hi : Option Int) : (cutV xs lo hi).length ≤ xs.length := by
  unfold cutV
  rw [List.length_take, List.length_drop]
  omega
def rSlT (K : PySem.W.Frag) : V → Option Int → Option Int → Hp → VK → Prop := fun x lo hi H Q => ∃ a xs, x = .ref a ∧ SqT K H a xs ∧
  ¬ (HT.sIx xs.length 0 lo = 0 ∧ HT.sIx xs.length xs.length hi = xs.length) ∧ ∀ p, H p = none → Q (.ref p) (upd H p (.tup (cutV xs lo hi)))
theorem sl_tup : SlR X (rSlT X.K) := by
  intro pins s σ H x v vl vu lo hi sl Q I rx hs pl pu h
  obtain ⟨a, xs, rfl, hx, hw, q⟩ := h
  cases rx
  obtain ⟨its, r, ht, hz⟩ := I.tuple hx
  have hlen : its.toArray.size = xs.length := by rw [List.size_toArray]; exact r.length.symm
  refine ⟨"tuple", _, PyProof.Rows.slot_tuple_getitem.lookup, ht.typeIs, ?_⟩
  refine HT.getItem_tuple_cut ht hs pl pu (by rw [hlen]; exact hw) ?_ (by rw [hlen]; exact hz)
  rw [hlen]
  refine ⟨.ref s.heap.objs.size, _, I.laid (t' := s.toks) (o := .tup (cutV xs lo hi)) (fun b ob q => Heap.get?_push_of_some _ q) (Nat.le_refl _) ?_, rfl, q _ (I.hok.fresh (Nat.le_refl _))⟩
  exact ⟨Nat.le_trans (cutV_length xs lo hi) hz, _, (r.drop (HT.sIx xs.length 0 lo)).take (HT.sIx xs.length xs.length hi - HT.sIx xs.length 0 lo), IsTup.new _ _⟩

def rCatT (K : PySem.W.Frag) : R2 := fun x y H Q => ∃ a b xs ys, x = .ref a ∧ y = .ref b ∧ SqT K H a xs ∧ SqT K H b ys ∧ xs ≠ [] ∧ xs.length + ys.length ≤ sizeLine ∧
  (ys = [] → Q (.ref a) H) ∧ (ys ≠ [] → ∀ p, H p = none → Q (.ref p) (upd H p (.tup (xs ++ ys))))
theorem Vals.nil_iff {xs : List V} {us : List Value} (r : Vals xs us) : us = [] ↔ xs = [] := by
  cases r with
  | nil => simp
  | cons _ _ => simp
theorem op_catT : OpR X (binaryOp .Add) (rCatT X.K) := by
  intro pins s σ H x y v u Q I rx ry h
  obtain ⟨a, b, xs, ys, rfl, rfl, ha, hb, hx, hz, q1, q2⟩ := h
  cases rx
  cases ry
  obtain ⟨its, r1, p1, _⟩ := I.tuple ha
  obtain ⟨its2, r2, p2, _⟩ := I.tuple hb
  refine HT.cat_tup p1 p2 (fun z => hx (r1.nil_iff.mp z)) (fun z => ⟨.ref a, H, I, rfl, q1 (r2.nil_iff.mp z)⟩) (fun z => ?_) (by rw [← r1.length, ← r2.length]; exact hz)
  refine ⟨.ref s.heap.objs.size, _, I.laid (t' := s.toks) (o := .tup (xs ++ ys)) (fun b ob q => Heap.get?_push_of_some _ q) (Nat.le_refl _) ?_, rfl, q2 (fun w => z (r2.nil_iff.mpr w)) _ (I.hok.fresh (Nat.le_refl _))⟩
  exact ⟨by rw [List.length_append]; exact hz, _, r1.append r2, IsTup.new _ _⟩
end
end L2

namespace L2
open PySem PySem.Spec PyProof.Rows

def ixN (n : Nat) (i : Int) : Option Nat := if 0 ≤ i then (if i < n then some i.toNat else none) else if -(n : Int) ≤ i then some (i + n).toNat else none
def atI {α : Type} (xs : List α) (i : Int) : Option α := (ixN xs.length i).bind fun j => xs[j]?
theorem ixN_seq {n : Nat} {i : Int} {j : Nat} (h : ixN n i = some j) : seqIndex? i n = some j ∧ j < n ∧ -(n : Int) ≤ i ∧ i < n := by
  unfold ixN at h
  by_cases h0 : 0 ≤ i
  · rw [if_pos h0] at h
    by_cases h1 : i < n
    · rw [if_pos h1] at h
      have e : i.toNat = j := Option.some.inj h
      exact ⟨by rw [seqIndex_of h0 h1, e], by omega, by omega, h1⟩
    · rw [if_neg h1] at h; cases h
  · rw [if_neg h0] at h
    by_cases h1 : -(n : Int) ≤ i
    · rw [if_pos h1] at h
      have e : (i + n).toNat = j := Option.some.inj h
      exact ⟨by rw [seqIndex_neg (by omega) h1, e], by omega, h1, by omega⟩
    · rw [if_neg h1] at h; cases h
theorem atI_get {α : Type} {xs : List α} {i : Int} {v : α} (h : atI xs i = some v) : ∃ j, seqIndex? i xs.length = some j ∧ xs[j]? = some v ∧ j < xs.length ∧ -(xs.length : Int) ≤ i ∧ i < xs.length := by
  unfold atI at h
  cases e : ixN xs.length i with
  | none => rw [e] at h; cases h
  | some j =>
    rw [e] at h
    obtain ⟨h1, h2, h3, h4⟩ := ixN_seq e
    exact ⟨j, h1, h, h2, h3, h4⟩
def PlainIx (b : Expr) : Prop := ∀ o i, subscripted b false o i = operate [o, i] (getItem o i)
def IxR (X : Cx) (r : R2) : Prop :=
  ∀ (value slice : Expr) (pins : List (Addr × Obj)) (s : Shared) (σ : St) (H : Hp) (x y : V) (v u : Value) (Q : VK), Inv X pins σ H s → RelV x v → RelV y u → r x y H Q →
    subscripted slice false v u = operate [v, u] (getItem v u) → wpAny (model X.prog X.w) X.A (subscriptTail value slice v u) (EP X pins σ Q) X.xe s
def MtR (X : Cx) (id : String) (r : V → List V → Hp → VK → Prop) : Prop :=
  ∀ (pins : List (Addr × Obj)) (s : Shared) (σ : St) (H : Hp) (x : V) (xs : List V) (v : Value) (us : List Value) (Q : VK), Inv X pins σ H s → RelV x v → Vals xs us → r x xs H Q →
    wpAny (model X.prog X.w) X.A (call (.builtin id) (v :: us)) (EP X pins σ Q) X.xe s
section
variable {X : Cx} {a b : Expr} {ta tb : TE} {pos : Pos}
theorem IxR.or {r r' : R2} (h : IxR X r) (h' : IxR X r') : IxR X (fun x y H Q => r x y H Q ∨ r' x y H Q) := by
  intro value slice pins s σ H x y v u Q I rx ry q hs
  rcases q with q | q
  · exact h value slice pins s σ H x y v u Q I rx ry q hs
  · exact h' value slice pins s σ H x y v u Q I rx ry q hs
theorem pe_ix {r : R2} (hr : IxR X r) (ha : PE X a ta) (hb : PE X b tb) (hs : PlainIx b) : PE X (.Subscript a b pos) (tOp r ta tb) := by
  intro pins s σ H Q I h
  exact Subscript_ (binT ha hb I h fun v u s2 x y H2 I2 rx ry q => hr a b pins s2 σ H2 x y v u Q I2 rx ry q (hs _ _))

def rIxL (K : PySem.W.Frag) : R2 := fun x y H Q => ∃ p xs i v, x = .ref p ∧ y = .int i ∧ SqL K H p xs ∧ atI xs i = some v ∧ Q v H
def rIxT (K : PySem.W.Frag) : R2 := fun x y H Q => ∃ p xs i v, x = .ref p ∧ y = .int i ∧ SqT K H p xs ∧ atI xs i = some v ∧ Q v H
def rIxS : R2 := fun x y H Q => ∃ z i c, x = .str z ∧ y = .int i ∧ z.length ≤ sizeLine ∧ atI z.cps.toList i = some c ∧ Q (.str ⟨#[c]⟩) H
theorem ix_list : IxR X (rIxL X.K) := by
  intro value slice pins s σ H x y v u Q I rx ry h hs
  obtain ⟨p, xs, i, z, rfl, rfl, hq, he, q⟩ := h
  cases rx
  obtain ⟨t, rfl⟩ := ry
  obtain ⟨its, r, pl, hz⟩ := I.list hq
  obtain ⟨j, h1, h2, h3, h4, h5⟩ := atI_get he
  obtain ⟨w, ew, rw'⟩ := r.get h2
  have hl := r.length
  have hn := line63
  have fin : EP X pins σ Q w s := ⟨z, H, I, rw', q⟩
  by_cases h0 : 0 ≤ i
  · have hj : i.toNat = j := by
      rw [seqIndex_of h0 h5] at h1
      exact Option.some.inj h1
    exact item_listR pl.isList h0 (by omega) (by rw [hj]; simpa using ew) fin hs
  · have hj : (i + (its.toArray.size : Int)).toNat = j := by
      rw [seqIndex_neg (by omega) h4] at h1
      rw [List.size_toArray, ← hl]
      exact Option.some.inj h1
    exact subscriptTail_builtinR (x := w) pl.isList.typeIs slot_list_getitem.lookup
      (wpAny_getItem_list_neg (Q := fun r s' => r = w ∧ EP X pins σ Q r s') pl.isList (by omega) (by rw [List.size_toArray] <;> omega) (by omega) (by rw [hj]; simpa using ew) ⟨rfl, fin⟩) hs
theorem ix_tup : IxR X (rIxT X.K) := by
  intro value slice pins s σ H x y v u Q I rx ry h hs
  obtain ⟨p, xs, i, z, rfl, rfl, hq, he, q⟩ := h
  cases rx
  obtain ⟨t, rfl⟩ := ry
  obtain ⟨its, r, pl, hz⟩ := I.tuple hq
  obtain ⟨j, h1, h2, h3, h4, h5⟩ := atI_get he
  obtain ⟨w, ew, rw'⟩ := r.get h2
  have hl := r.length
  have hn := line63
  have fin : EP X pins σ Q w s := ⟨z, H, I, rw', q⟩
  exact subscriptTail_builtinR (x := w) pl.typeIs slot_tuple_getitem.lookup
    (getItem_tuple (j := j) (Q := fun r s' => r = w ∧ EP X pins σ Q r s') pl (by omega) (by omega) (by rw [List.size_toArray, ← hl]; exact h1) (by simpa using ew) ⟨rfl, fin⟩) hs
theorem ix_str : IxR X rIxS := by
  intro value slice pins s σ H x y v u Q I rx ry h hs
  obtain ⟨z, i, c, rfl, rfl, hz, he, q⟩ := h
  obtain ⟨t, rfl⟩ := rx
  obtain ⟨t', rfl⟩ := ry
  obtain ⟨j, h1, h2, h3, h4, h5⟩ := atI_get he
  have hl : z.cps.toList.length = z.length := by simp [Str.length]
  rw [hl] at h1 h4 h5
  have hn := line63
  exact tail_any (typeIs_str s z t) slot_str_getitem.lookup (getItem_str (c := c) (by
    have e1 : decide (i < -(2 ^ 63 : Int)) = false := decide_eq_false (by omega)
    have e2 : decide (i ≥ 2 ^ 63) = false := decide_eq_false (by omega)
    rw [e1, e2, Bool.or_false]) (by rw [h1]; simpa using h2) ⟨.str ⟨#[c]⟩, H, I.tok _, ⟨_, rfl⟩, q⟩) hs
def rIx (K : PySem.W.Frag) : R2 := fun x y H Q => rIxL K x y H Q ∨ rIxT K x y H Q ∨ rIxS x y H Q
theorem ix_seq : IxR X (rIx X.K) := ix_list.or (ix_tup.or ix_str)

theorem slice_bounds (lo hi : Option Int) (n : Nat) : (sliceBounds lo hi none n).1 = ((HT.sIx n 0 lo : Nat) : Int) ∧ (sliceBounds lo hi none n).2.1 = ((HT.sIx n n hi : Nat) : Int) ∧ (sliceBounds lo hi none n).2.2 = 1 := by
  refine ⟨?_, ?_, rfl⟩
  · cases lo with
    | none => simp [sliceBounds, HT.sIx]
    | some i =>
      simp only [sliceBounds, HT.sIx, Option.getD_none, show (1 : Int) > 0 by decide, if_true]
      by_cases h : i < 0
      · simp only [h, if_true] <;> omega
      · simp only [h, if_false] <;> omega
  · cases hi with
    | none => simp [sliceBounds, HT.sIx]
    | some i =>
      simp only [sliceBounds, HT.sIx, Option.getD_none, show (1 : Int) > 0 by decide, if_true]
      by_cases h : i < 0
      · simp only [h, if_true] <;> omega
      · simp only [h, if_false] <;> omega
theorem slicePick_cut (its : List Value) (lo hi : Option Int) : slicePick its.toArray lo hi none = ((its.drop (HT.sIx its.length 0 lo)).take (HT.sIx its.length its.length hi - HT.sIx its.length 0 lo)).toArray := by
  obtain ⟨h1, h2, h3⟩ := slice_bounds lo hi its.toArray.size
  unfold slicePick
  rw [h1, h2, h3]
  simp only [sliceRange_one, pick_run, List.size_toArray] <;> rfl
def rSlL (K : PySem.W.Frag) : V → Option Int → Option Int → Hp → VK → Prop := fun x lo hi H Q => ∃ a xs, x = .ref a ∧ SqL K H a xs ∧ ∀ p, H p = none → Q (.ref p) (upd H p (.lst (cutV xs lo hi)))
theorem sl_list : SlR X (rSlL X.K) := by
  intro pins s σ H x v vl vu lo hi sl Q I rx hs pl pu h
  obtain ⟨a, xs, rfl, hx, q⟩ := h
  cases rx
  obtain ⟨its, r, ht, hz⟩ := I.list hx
  have hlen := r.length
  refine ⟨"list", _, slot_list_getitem.lookup, ht.isList.typeIs, ?_⟩
  refine wpAny_getItem_list_slice ht.isList hs pl pu .none (by simp) ?_ (by rw [List.size_toArray] <;> omega)
  rw [slicePick_cut, ← hlen]
  refine ⟨.ref s.heap.objs.size, _, I.laid (t' := s.toks) (o := .lst (cutV xs lo hi)) (fun b ob q => Heap.get?_push_of_some _ q) (Nat.le_refl _) ?_, rfl, q _ (I.hok.fresh (Nat.le_refl _))⟩
  exact ⟨Nat.le_trans (cutV_length xs lo hi) hz, _, 0, (r.drop (HT.sIx xs.length 0 lo)).take (HT.sIx xs.length xs.length hi - HT.sIx xs.length 0 lo), Heap.get?_push_size _ rfl⟩

theorem op_notIn_str : OpR X (compareOp .NotIn) (fun x y H Q => ∃ i j, x = .str i ∧ y = .str j ∧ Q (.bl (!(!(Builtin.Str.occurrences j i 0 j.length 1).isEmpty))) H) := by
  intro pins s σ H x y v u Q I rx ry h
  obtain ⟨i, j, rfl, rfl, q⟩ := h
  obtain ⟨t, rfl⟩ := rx
  obtain ⟨t', rfl⟩ := ry
  exact notIn_str ⟨.bl _, H, I, rfl, q⟩

theorem CallR.or {f : Value} {r r' : List V → Hp → VK → Prop} (h : CallR X f r) (h' : CallR X f r') : CallR X f (fun xs H Q => r xs H Q ∨ r' xs H Q) := by
  intro pins s σ H xs us Q I rs q
  rcases q with q | q
  · exact h pins s σ H xs us Q I rs q
  · exact h' pins s σ H xs us Q I rs q
theorem call_list_of : CallR X (.type "list") (fun xs H Q => ∃ p ys, xs = [.ref p] ∧ (SqL X.K H p ys ∨ SqT X.K H p ys) ∧ ∀ l, H l = none → Q (.ref l) (upd H l (.lst ys))) := by
  intro pins s σ H xs us Q I r h
  obtain ⟨p, ys, rfl, hq, q⟩ := h
  obtain ⟨u, rfl, rx⟩ := vals1 r
  cases rx
  have fin : ∀ (its : List Value), Vals ys its → ys.length ≤ sizeLine → ∀ (h' : Heap) (c' : Nat), (∀ b o', s.heap.get? b = some o' → h'.get? b = some o') →
      h'.get? s.heap.objs.size = some { cls := .type "list", dict := none, data := .seq its.toArray c', slots := #[] } → EP X pins σ Q (.ref s.heap.objs.size) { s with heap := h' } := fun its r' hz h' c' kp e =>
    ⟨.ref s.heap.objs.size, _, I.laid (t' := s.toks) kp (Nat.le_refl _) (show ObjOk X.prog X.w _ h' _ (.lst ys) from ⟨hz, its, c', r', e⟩), rfl, q _ (I.hok.fresh (Nat.le_refl _))⟩
  rcases hq with hq | hq
  · obtain ⟨its, r', pl, hz⟩ := I.list hq
    have hlen := r'.length
    obtain ⟨o, ho, hc, n, hd⟩ := pl.isList
    exact call_list_seq p (.inl rfl) ho hc hd (fun h' c' kp e => fin its r' hz h' c' kp e) (by simp only [List.size_toArray] <;> omega)
  · obtain ⟨its, r', pl, hz⟩ := I.tuple hq
    have hlen := r'.length
    obtain ⟨o, ho, hc, n, hd⟩ := pl
    exact call_list_seq p (.inr rfl) ho hc hd (fun h' c' kp e => fin its r' hz h' c' kp e) (by simp only [List.size_toArray] <;> omega)
def tyV (K : PySem.W.Frag) (T : String) (x : V) (H : Hp) : Prop := match x with
  | .str _ => T = "str"
  | .int _ => T = "int"
  | .ref p => (T = "list" ∧ ∃ xs, SqL K H p xs) ∨ (T = "tuple" ∧ ∃ o, K.lookup p = some o ∧ o.cls = .type "tuple" ∧ o.dict = none) ∨
      (T = "dict" ∧ ((∃ kvs, H p = some (.dK kvs)) ∨ ∃ kvs, H p = some (.dT kvs))) ∨ (T = "set" ∧ ∃ S n, H p = some (.set S n))
  | _ => False
theorem tyV_is {pins : List (Addr × Obj)} {σ : St} {H : Hp} {s : Shared} {T : String} {x : V} {v : Value} (I : Inv X pins σ H s) (r : RelV x v) (ty : tyV X.K T x H) :
    s.TypeIs v T ∧ ∀ a, v = .ref a → ∃ ob, s.heap.get? a = some ob ∧ ob.dict = none := by
  cases x with
  | str z =>
    obtain ⟨t, rfl⟩ := r
    cases (show T = "str" from ty)
    exact ⟨typeIs_str s z t, fun _ e => nomatch e⟩
  | int i =>
    obtain ⟨t, rfl⟩ := r
    cases (show T = "int" from ty)
    exact ⟨typeIs_int s i t, fun _ e => nomatch e⟩
  | ref p =>
    cases r
    rcases ty with ⟨rfl, xs, hq⟩ | ⟨rfl, o, hk, hc, hd⟩ | ⟨rfl, hk⟩ | ⟨rfl, S, n, hk⟩
    · obtain ⟨its, _, pl, _⟩ := I.list hq
      refine ⟨pl.isList.typeIs, fun a e => ?_⟩
      cases e
      obtain ⟨o, n, e, c, hd, _⟩ := pl
      exact ⟨o, e, hd⟩
    · refine ⟨⟨o, I.kIn p o hk, hc⟩, fun a e => ?_⟩
      cases e
      exact ⟨o, I.kIn _ o hk, hd⟩
    · have z : ∃ o, s.heap.get? p = some o ∧ o.ExactDict := by
        rcases hk with ⟨kvs, hk⟩ | ⟨kvs, hk⟩
        · obtain ⟨_, _, _, _, o, _, _, e, ex, _⟩ := I.hok p _ hk
          exact ⟨o, e, ex⟩
        · obtain ⟨_, _, _, _, o, _, _, e, ex, _⟩ := I.hok p _ hk
          exact ⟨o, e, ex⟩
      obtain ⟨o, e, ex⟩ := z
      refine ⟨⟨o, e, ex.1⟩, fun a e2 => ?_⟩
      cases e2
      exact ⟨o, e, ex.2.1⟩
    · obtain ⟨o, _, _, _, e, ex, _⟩ := I.hok p _ hk
      refine ⟨⟨o, e, ex.1⟩, fun a e2 => ?_⟩
      cases e2
      exact ⟨o, e, ex.2.1⟩
  | _ => exact False.elim ty
def tBM (K : PySem.W.Frag) (T : String) (r : V → List V → Hp → VK → Prop) (to : TE) (t : TA) : TE := fun σ H Q => to σ H fun x H1 => tyV K T x H1 ∧ t σ H1 fun xs H2 => r x xs H2 Q
variable {o e : Expr} {es : List Expr} {to : TE} {t : TA} {name : Str} {apos cpos : Pos} {T id : String} {r : V → List V → Hp → VK → Prop}
theorem pe_bm (pa : PlainAttrs T) (slot : Slot T name id) (hty : typeOf (.builtin id) = pure (.type "method_descriptor")) (hm : MtR X id r) (ho : PE X o to) (ha : PA X (e :: es) t)
    (hbase : attributeBase o name X.env (eval o X.env) = eval o X.env := by rfl)
    (hfew : ((backTo cpos (starEach (e :: es) X.env)).all (fun x => !x.1) && (backToKw cpos (keywordEach [] X.env)).all (fun x => x.1.isSome)
      && decide ((e :: es).length + ([] : List Keyword).length + (if ([] : List Keyword).isEmpty then 0 else 1) < 30)) = true := by rfl)
    (hline : (apos.endLine == cpos.line) = true := by rfl) (hs : starEach (e :: es) X.env = (false, eval e X.env) :: starEach es X.env := by rfl) (hplain : (backTo cpos (starEach es X.env)).any (·.1) = false := by rfl) :
    PE X (.Call (.Attribute o name apos) (e :: es) [] cpos) (tBM X.K T r to t) := by
  intro pins s σ H Q I h
  refine wpAny_Call_method_late hbase hfew hline rfl (thn (ho pins s σ H _ I h) fun v s1 ⟨x, H1, I1, r1, ty, q1⟩ => ?_)
  obtain ⟨h1, h2⟩ := tyV_is I1 r1 ty
  refine ⟨T, id, pa, slot, hty, h1, h2, ?_⟩
  have hA := ha cpos pins s1 σ H1 _ I1 q1
  rw [hs] at hA ⊢
  refine Calls.callWith_builtin (by show (false || (backTo cpos (starEach es X.env)).any (·.1)) = false; rw [hplain] <;> rfl) (Calls.evalArgs_plain ?_)
  exact thn hA fun us s2 ⟨vs, H2, I2, r2, q2⟩ => hm pins s2 σ H2 x vs v us Q I2 r1 r2 q2
end
end L2

namespace L2
open PySem PySem.Spec PyProof.Rows

def MtM (X : Cx) (id : String) (r : V → List V → Hp → VK → Prop) : Prop :=
  ∀ (pins : List (Addr × Obj)) (s : Shared) (σ : St) (H : Hp) (x : V) (xs : List V) (v : Value) (us : List Value) (Q : VK), Inv X pins σ H s → RelV x v → Vals xs us → r x xs H Q →
    wpAny (model X.prog X.w) X.A (call (.builtin id) (v :: us)) (EP X pins σ Q) X.xe s

theorem Vals.one : ∀ {x : V} {us : List Value}, Vals [x] us → ∃ u, us = [u] ∧ RelV x u
  | _, _, .cons r .nil => ⟨_, rfl, r⟩
theorem Vals.two : ∀ {x y : V} {us : List Value}, Vals [x, y] us → ∃ u v, us = [u, v] ∧ RelV x u ∧ RelV y v
  | _, _, _, .cons r (.cons q .nil) => ⟨_, _, rfl, r, q⟩
theorem Vals.rep {xs : List V} {us : List Value} (h : Vals xs us) : ∀ k : Nat, Vals (List.replicate k xs).flatten (List.replicate k us).flatten
  | 0 => .nil
  | k + 1 => by
    rw [List.replicate_succ, List.replicate_succ, List.flatten_cons, List.flatten_cons]
    exact Vals.append h (Vals.rep h k)
theorem foldl_rep (its : List Value) : ∀ (k : Nat) (acc : List Value),
    List.foldl (fun x1 x2 => x1 ++ x2) acc.toArray (List.replicate k its.toArray) = (acc ++ (List.replicate k its).flatten).toArray
  | 0, acc => by simp
  | k + 1, acc => by
    have e : acc.toArray ++ its.toArray = (acc ++ its).toArray := by simp
    have e2 : (acc ++ its) ++ (List.replicate k its).flatten = acc ++ (List.replicate (k + 1) its).flatten := by
      rw [List.replicate_succ, List.flatten_cons, List.append_assoc]
    rw [← e2, ← foldl_rep its k (acc ++ its), ← e, List.replicate_succ, List.foldl_cons]

section
variable {X : Cx} {pins : List (Addr × Obj)} {σ : St} {H : Hp} {s : Shared} {l b : Addr} {xs ys zs : List V}

theorem Inv.lset {its its' : List Value} {n : Nat} {f : Array Value → Array Value} {t' : Nat} (I : Inv X pins σ H s) (hH : H l = some (.lst xs))
    (e : s.heap.get? l = some { cls := .type "list", data := .seq its.toArray n }) (hf : f its.toArray = its'.toArray) (hv : Vals ys its') (hz : ys.length ≤ sizeLine) :
    Inv X pins σ (upd H l (.lst ys)) { s with heap := s.heap.update l (Obj.mapSeq f), toks := t' } := by
  have q := PySem.IsL.update e f
  rw [hf] at q
  refine I.write (x := l) (e := l) (by rw [hH]; exact trivial) (.inl rfl) (fun b' u hb hu => (Heap.get?_update_other s.heap (Obj.mapSeq f) (Ne.symm hb)).trans hu) ⟨_, q⟩ ?_
  exact ⟨hz, its', _, hv, q⟩
theorem Inv.lnew {its : List Value} {t' : Nat} (I : Inv X pins σ H s) (hv : Vals ys its) (hz : ys.length ≤ sizeLine) :
    Inv X pins σ (upd H s.heap.objs.size (.lst ys)) { s with heap := s.heap.push { cls := .type "list", data := .seq its.toArray }, toks := t' } :=
  I.laid (fun _ _ q => Heap.get?_push_of_some _ q) (Nat.le_refl _) ⟨hz, its, 0, hv, Heap.get?_push_size _ rfl⟩
theorem Inv.fresh (I : Inv X pins σ H s) : H s.heap.objs.size = none := I.hok.fresh (Nat.le_refl _)
theorem Inv.lstM (I : Inv X pins σ H s) (hH : H l = some (.lst xs)) : xs.length ≤ sizeLine ∧ ∃ (its : List Value) (n : Nat), Vals xs its ∧ xs.length = its.length ∧ s.heap.get? l = some { cls := .type "list", data := .seq its.toArray n } := by
  obtain ⟨z, its, n, r, e⟩ := I.hok l _ hH
  exact ⟨z, its, n, r, r.length, e⟩

theorem notLongL {n : Nat} (h : n ≤ sizeLine) : Builtin.List.listTooLong n = false := by
  unfold Builtin.List.listTooLong
  exact decide_eq_false (by omega)
end

section
variable {X : Cx}

def rAppend : V → List V → Hp → VK → Prop := fun x vs H Q => ∃ l xs y, x = .ref l ∧ vs = [y] ∧ H l = some (.lst xs) ∧ xs.length < sizeLine ∧ Q .non (upd H l (.lst (xs ++ [y])))
theorem mt_append : MtM X "list.append" rAppend := by
  intro pins s σ H x vs v us Q I rx rv h
  obtain ⟨l, xs, y, rfl, rfl, hH, hz, q⟩ := h
  cases rx
  obtain ⟨u, rfl, ru⟩ := rv.one
  obtain ⟨z, its, n, r, hl, e⟩ := I.lstM hH
  refine call_meets F.slot_list_append ⟨_, e, rfl⟩ F.entry_list_append (F.args_list_append_2 _ _) (PySem.list_append l its.toArray n u (by rw [List.size_toArray]; omega)) ⟨e, ?_⟩
  refine ⟨.non, _, I.lset (its' := its ++ [u]) hH e (by simp) (r.append (.cons ru .nil)) ?_, rfl, q⟩
  rw [List.length_append, List.length_singleton]
  omega

def rCat : R2 := fun x y H Q => ∃ l b xs zs, x = .ref l ∧ y = .ref b ∧ H l = some (.lst xs) ∧ H b = some (.lst zs) ∧ xs.length + zs.length ≤ sizeLine ∧ ∀ p, H p = none → Q (.ref p) (upd H p (.lst (xs ++ zs)))
theorem op_cat : OpR X (binaryOp .Add) rCat := by
  intro pins s σ H x y v u Q I rx ry h
  obtain ⟨l, b, xs, zs, rfl, rfl, hH, hB, hz, q⟩ := h
  cases rx
  cases ry
  obtain ⟨z, its, n, r, hl, e⟩ := I.lstM hH
  obtain ⟨z2, its2, n2, r2, hl2, e2⟩ := I.lstM hB
  refine PySem.P.add_list e e2 ?_ (by rw [List.size_toArray, List.size_toArray]; omega)
  have ea : its.toArray ++ its2.toArray = (its ++ its2).toArray := by simp
  rw [ea]
  exact ⟨.ref _, _, I.lnew (t' := s.toks) (r.append r2) (by rw [List.length_append]; omega), rfl, q _ I.fresh⟩
def rRep : R2 := fun x y H Q => ∃ l k xs, x = .ref l ∧ y = .int k ∧ H l = some (.lst xs) ∧ -(2 ^ 63) ≤ k ∧ k < 2 ^ 63 ∧ xs.length * k.toNat ≤ sizeLine ∧
  ∀ p, H p = none → Q (.ref p) (upd H p (.lst (List.replicate k.toNat xs).flatten))
theorem len_rep {α : Type} (xs : List α) (k : Nat) : (List.replicate k xs).flatten.length = k * xs.length := by
  induction k with
  | zero => simp
  | succ k ih => rw [List.replicate_succ, List.flatten_cons, List.length_append, ih, Nat.succ_mul, Nat.add_comm]
theorem op_rep : OpR X (binaryOp .Mult) rRep := by
  intro pins s σ H x y v u Q I rx ry h
  obtain ⟨l, k, xs, rfl, rfl, hH, h1, h2, hz, q⟩ := h
  cases rx
  obtain ⟨t, rfl⟩ := ry
  obtain ⟨z, its, n, r, hl, e⟩ := I.lstM hH
  have hlen : its.toArray.size * k.toNat ≤ sizeLine := by rw [List.size_toArray, ← hl]; exact hz
  have hcap : ¬ its.toArray.size * k.toNat > (2 ^ 63 - 1) / 8 := by
    have : (sizeLine : Nat) ≤ (2 ^ 63 - 1) / 8 := by decide
    omega
  have hfit : ¬ (!Builtin.List.listFitsIndex k) = true := by
    rw [fitsIndex_both h1 h2]
    exact Bool.false_ne_true
  have hlong : ¬ Builtin.List.listTooLong (its.toArray.size * k.toNat) = true := by
    rw [notLongL hlen]
    exact Bool.false_ne_true
  have hnew : List.foldl (fun x1 x2 => x1 ++ x2) #[] (List.replicate (if its.toArray.isEmpty = true then 0 else k.toNat) its.toArray) = (List.replicate k.toNat its).flatten.toArray := by
    have f0 : ∀ m : Nat, List.foldl (fun x1 x2 => x1 ++ x2) #[] (List.replicate m its.toArray) = (List.replicate m its).flatten.toArray := fun m => by
      have := foldl_rep its m []
      rw [List.nil_append] at this
      exact this
    rw [f0]
    cases its with
    | nil => simp
    | cons a r' => rw [if_neg (by simp)]
  refine wpAny_binaryOp_repeat_ref (T := "list") (U := "int") (by decide) ⟨_, e, rfl⟩ (fun s' => typeIs_int s' k t) noFill_list_mul F.fills_int_mul F.slot_int_rmul repeat_list F.slot_int_index.lookup
    (call_meets F.slot_int_rmul (typeIs_int s k t) F.entry_int_rmul (F.args_int_rmul_2 _ _) (int___rmul___int_list k t l its.toArray n)
      ⟨e, rfl, ⟨_, e, rfl⟩, call_meets F.slot_list_mul ⟨_, e, rfl⟩ F.entry_list_mul (F.args_list_mul_2 _ _) (AutoListH.list___mul___list_int_3 l its.toArray n k t hfit hcap hlong) ⟨e, ?_⟩⟩)
  rw [hnew]
  exact ⟨.ref _, _, I.lnew (t' := s.toks) (r.rep k.toNat) (by rw [len_rep, Nat.mul_comm]; exact hz), rfl, q _ I.fresh⟩

end

section
variable {prog : Program} {w : World} {A : Around} {E : Value → Shared → Prop} {s : Shared}
end

section
variable {X : Cx}
end
end L2

namespace Att
open PySem PySem.W PySem.Calls PyProof.Rows

theorem ints_of_wellAll {P : Params} {h : Heap} : ∀ (ns : List Int) (vs : List Value), WellAll P h vs (ns.map WData.int) → IntsAre vs ns := by
  intro ns
  induction ns with
  | nil =>
    intro vs w
    rw [List.map_nil] at w
    cases w
    exact .nil
  | cons n ns ih =>
    intro vs w
    rw [List.map_cons] at w
    cases w with
    | cons a b =>
      cases a
      exact .cons _ _ (ih _ b)

theorem script_of {l : OpenLaw} {n : Nat} (hn : l.most = some n) {P : Params} {h : Heap} {args : List WData} {vals : List Value}
    (hpre : l.row.toRowW.claim.pre args = true) (hwl : WellAll P h vals args) :
    ∃ a vs ns, vals = [Value.ref a] ∧ args = [WData.list (ns.map WData.int)] ∧ h.get? a = some { cls := .type "list", data := .seq vs.toArray } ∧ IntsAre vs ns ∧ ns.length ≤ n := by
  have hsh : WShape.hasAll [] args [.list .int] = true := (pre_splitW hpre).1
  have hc : l.pre.holds [] { args := args } = true := (pre_splitW hpre).2
  obtain ⟨d, r, rfl, h1, h2⟩ := hasAllW_cons hsh
  obtain rfl := hasAllW_nil h2
  obtain ⟨xs, rfl, h3⟩ := hasW_list h1
  obtain ⟨ns, rfl⟩ := items_int h3
  have hlen : ns.length ≤ n := by
    unfold OpenLaw.pre at hc
    have h4 : (WTm.not (.lt (.lit (.int (n : Int))) (.len (.arg 0)))).holds [] { args := [.list (ns.map .int)] } = true := by
      have h4 := (holds_andW hc).1
      rw [hn] at h4
      exact h4
    have h5 := condW_of h4 (w_not (w_lt w_lit (w_len_list (w_arg rfl))))
    rw [List.length_map] at h5
    refine Nat.le_of_not_lt fun q => ?_
    have q' : (n : Int) < ((ns.length : Nat) : Int) := by omega
    first
      | (rw [decide_eq_true q'] at h5; exact absurd h5 (by decide))
      | (simp at h5; omega)
  cases hwl with
  | cons w1 w2 =>
    cases w2
    cases w1 with
    | list ho hall => exact ⟨_, _, ns, rfl, rfl, ho, ints_of_wellAll ns _ hall, hlen⟩

theorem post_true (l : OpenLaw) (args : List WData) : l.row.toRowW.claim.post args (.bool true) args = true :=
  postW_of (r := l.row.toRowW) (X := (true == true))
    (show WShape.has [] (.bool true) .bool = true by first | rfl | decide | simp [WShape.has, WShape.arms, WShape.armsAll])
    (show (WTm.eq .res (.lit (.bool true))).value [] { args := args, res := some (.bool true), after := args } = some (.bool (true == true)) from w_eq_bool (w_res rfl) w_lit) rfl

theorem attach_call {l : OpenLaw} {n : Nat} {q : Program} {loose : List Str} {XP : (Str → Option Value) → Heap → Prop} {YP : World → Heap → Prop} {d : DefRec}
    (hn : l.most = some n) (hdf : d.params.defaults = [])
    (call : ∀ (w : World) (s₀ s₁ : Shared) (mg mb : Str → Option Value) (fa : Addr) (o : Obj) (pm cd doc : Value) (a : Addr) (vs : List Value) (ns : List Int),
      Ground q loose [] XP w s₀ mg mb s₁.heap → YP w s₁.heap →
      s₁.heap.get? fa = some o → o.data = .func (docDef d.name d.params d.body d.scope pm cd doc) → s₁.heap.CodeRec cd d.name → mg d.name = some (.ref fa) →
      s₁.heap.get? a = some { cls := .type "list", data := .seq vs.toArray } → IntsAre vs ns → ns.length ≤ n → s₁.gens = #[] →
      codeAny (model l.prog w) callerA (.call (.ref fa) ⟨[.ref a], []⟩) (fun r s' => r = .ok (.ret (.bool true)) ∧ OldK s₁.heap s'.heap ∧ s'.os = s₁.os ∧ AllBare s'.gens) s₁) :
    WalkO q loose XP YP l.row.toRowW d [] (fun f vs => PySem.call f vs) := by
  intro w s₀ s₁ mg mb G Y fa o pm cd doc dV kV ho hd hcd hD hmg hg args vals as hpre hlay hrd hwl hlo
  obtain rfl : dV = .none := Dflts.none hD hdf
  obtain rfl : kV = .none := Dflts.noKw hD
  obtain ⟨a, vs, ns, rfl, rfl, hobj, hints, hlen⟩ := script_of hn hpre hwl
  refine enter_call (codeAny_mono (call w s₀ s₁ mg mb fa o pm cd doc a vs ns G Y ho (fd_plain hd) hcd hmg hobj hints hlen hg) fun r s' hq => ?_)
  obtain ⟨rfl, h2, h3, h4⟩ := hq
  exact ⟨.inl ⟨.bool true, .bool true, [], rfl, fun _ => rfl, .bool true, post_true l _, fun _ => ⟨List.Pairwise.nil, fun _ hm => (nomatch hm)⟩⟩, h2, h3, h4⟩

section
variable {prog : Program} {w : World} {A : Around} {E : Value → Shared → Prop} {s : Shared} {K : Frag}

end
end Att

namespace L2
open PySem PySem.Spec PyProof.Rows

theorem vals_ints : ∀ {vs : List Value} {ns : List Int}, IntsAre vs ns → Vals (ns.map V.int) vs
  | _, _, .nil => .nil
  | _, _, .cons n t h => .cons ⟨t, rfl⟩ (vals_ints h)

def Only (H : Hp) : Prop := ∀ b, H b = none ∨ ∃ o xs, H b = some (.frz o (.lst xs))

theorem law_call {P : Program} {w : World} {K : PySem.W.Frag} {mg mb : Str → Option Value} {CX : CXT} {k : Nat} {fa a : Addr} {fd : FuncData} {x : Str} {sp : Sp} {s₁ : Shared} {vs : List Value} {ns : List Int}
    (KX : K.In s₁.heap) (hns : s₁.heap.Ns mainGlobals mg) (hb : s₁.heap.Ns builtinsNs mb) (hbb : ∀ x : Str, x ≠ "__name__" → mb x = bootBuiltins x) (hlim : s₁.heap.NoLimit) (hg : s₁.gens = #[])
    (ha : s₁.heap.get? a = some { cls := .type "list", data := .seq vs.toArray }) (hi : IntsAre vs ns) (hl : ns.length ≤ sizeLine) (hr : Room k callerA)
    (F : ∀ base : Heap, K.In base → base.Ns mainGlobals mg → FnOk P w K mg base CX k fa fd [x] sp) (hbind : ∀ (s : Shared) (u : Value), BindsTo s fd ⟨[u], []⟩ [(x, u)])
    (hsp : ∀ H : Hp, Only H → SqL K H a (ns.map V.int) → sp [.ref a] H (fun v _ => v = .bl true) fun _ _ _ => False)
    (hCX : ∀ H e s', CX [] H s₁ (fun _ _ _ => False) e s' → False) :
    codeAny (model P w) callerA (.call (.ref fa) ⟨[.ref a], []⟩) (fun r s' => r = .ok (.ret (.bool true)) ∧ OldK s₁.heap s'.heap ∧ s'.os = s₁.os ∧ AllBare s'.gens) s₁ := by
  have rv := vals_ints hi
  have lenV := hi.length
  -- from an abstract heap in which nothing but the script may be tracked
  have core : ∀ H : Hp, Only H → SqL K H a (ns.map V.int) → HOk P w H s₁.heap → (∀ b, H b ≠ none → b = a) → (H a ≠ none → K.lookup a = none) →
      codeAny (model P w) callerA (.call (.ref fa) ⟨[.ref a], []⟩) (fun r s' => r = .ok (.ret (.bool true)) ∧ OldK s₁.heap s'.heap ∧ s'.os = s₁.os ∧ AllBare s'.gens) s₁ := by
    intro H hO hS hok hA hK
    have base_of : ∀ {b : Addr} {o : Obj}, s₁.heap.get? b = some o → H b = none → (hidT s₁.heap H).get? b = some o := fun e n => hidT_get e n
    have noA : ∀ {b : Addr} {o : Obj} {es : Array DictEntry} {ep : Nat}, s₁.heap.get? b = some o → o.data = .dict es ep → H b = none := fun {b o es ep} e d => by
      cases q : H b with
      | none => rfl
      | some u =>
        have e' : b = a := hA b (by rw [q]; simp)
        subst e'
        rw [ha] at e; cases e
        have d' : Data.seq vs.toArray _ = Data.dict es ep := d
        cases d'
    have nsK : ∀ {b : Addr} {m : Str → Option Value}, s₁.heap.Ns b m → (hidT s₁.heap H).Ns b m := fun {b m} ⟨o, es, ep, e, d, r⟩ => ⟨o, es, ep, base_of e (noA e d), d, r⟩
    have hKb : K.In (hidT s₁.heap H) := fun b o e => base_of (KX b o e) (by
      cases q : H b with
      | none => rfl
      | some u =>
        have e' : b = a := hA b (by rw [q]; simp)
        subst e'
        rw [hK (by rw [q]; simp)] at e; cases e)
    have hM : Mod K mg (hidT s₁.heap H) := ⟨hKb, nsK hns, ⟨mb, nsK hb, hbb⟩, let ⟨mc, h1, h2⟩ := hlim; ⟨mc, nsK h1, h2⟩⟩
    have e0 : Env0 P w K mg (hidT s₁.heap H) callerA [] s₁ H := ⟨rfl, hM, fun b o e => of_hidT e, Nat.le_of_eq (hidT_size _ _), trivial, fun b hb => absurd (show b ∈ ([] : List Addr) from hb) (by simp), hok, .of_eq hg⟩
    refine codeAny_mono ((F _ hKb (nsK hns)).run callerA [] s₁ H ⟨[.ref a], []⟩ [.ref a] [.ref a] _ _ hr e0 (hbind s₁ (.ref a)) (.cons rfl .nil) (hsp H hO hS)) fun r s' h => ?_
    cases r with
    | error e => exact (hCX H e s' h).elim
    | ok fl =>
      cases fl with
      | next => exact False.elim h
      | brk => exact False.elim h
      | cont => exact False.elim h
      | ret u =>
        obtain ⟨v, H', os, bare, un, hok', r', q⟩ := h
        have q' : v = .bl true := q
        subst q'
        obtain rfl : u = Value.bool true := r'
        refine ⟨rfl, OldK.of_keep fun b o e => ?_, os, bare⟩
        cases q : H b with
        | none => exact un.keep b o e q (by intro z; exact absurd (show b ∈ ([] : List Addr) from z) (by simp)) (by simp)
        | some u =>
          rcases hO b with z | ⟨ob, xs, z⟩
          · rw [q] at z; cases z
          · have z2 := un.frzs b ob _ z
            obtain ⟨e1, _⟩ := hok b _ z
            obtain ⟨e2, _⟩ := hok' b _ z2
            rw [e] at e1; cases e1
            exact e2
  cases hk : K.lookup a with
  | some o =>
    -- the script is one of the module's own objects
    have e := KX a o hk
    rw [ha] at e
    cases e
    refine core (fun _ => none) (fun _ => .inl rfl) (.inr ⟨_, vs.toArray, _, hk, rfl, rfl, rfl, by rw [List.size_toArray, lenV]; exact hl, by simpa using rv⟩) (fun b u z => by have z' : (none : Option HO) = some u := z; cases z') (fun b z => absurd rfl z) fun z => absurd rfl z
  | none =>
    refine core (fun b => if b = a then some (.frz { cls := .type "list", data := .seq vs.toArray } (.lst (ns.map V.int))) else none) (fun b => ?_) (.inl (.inr ⟨{ cls := .type "list", data := .seq vs.toArray }, if_pos rfl⟩)) (fun b u z => ?_) (fun b z => ?_) fun _ => hk
    · by_cases hb : b = a
      · exact .inr ⟨_, _, if_pos hb⟩
      · exact .inl (if_neg hb)
    · by_cases hb : b = a
      · have z' := (if_pos hb).symm.trans z
        cases z'
        subst hb
        exact ⟨ha, by rw [List.length_map]; exact hl, vs, _, rv, ha⟩
      · have z' := (if_neg hb).symm.trans z
        cases z'
    · by_cases hb : b = a
      · exact hb
      · exact absurd (if_neg hb) z
end L2

namespace L2
open PySem PySem.Spec PyProof.Rows

theorem walk_of {l : PySem.W.OpenLaw} {n k : Nat} {q : Program} {loose : List Str} {XP : (Str → Option Value) → Heap → Prop} {YP : World → Heap → Prop} {d : DefRec} {K : Params → PySem.W.Frag} {CX : World → CXT} {sp : World → Sp} {x : Str}
    (hn : l.most = some n) (hn2 : n ≤ sizeLine) (hdf : d.params.defaults = []) (hr : Room k callerA)
    (hY : ∀ (w : World) (h : Heap), YP w h → (K w.params).In h)
    (F : ∀ (w : World) (mg : Str → Option Value) (fa : Addr) (h : Heap), (K w.params).In h → h.Ns mainGlobals mg → mg d.name = some (.ref fa) →
      ∃ fd : FuncData, (∀ (s : Shared) (u : Value), BindsTo s fd ⟨[u], []⟩ [(x, u)]) ∧
        ∀ base : Heap, (K w.params).In base → base.Ns mainGlobals mg → FnOk l.prog w (K w.params) mg base (CX w) k fa fd [x] (sp w))
    (hsp : ∀ (w : World) (H : Hp) (a : Addr) (ns : List Int), ns.length ≤ n → Only H → SqL (K w.params) H a (ns.map V.int) → sp w [.ref a] H (fun v _ => v = .bl true) fun _ _ _ => False)
    (hCX : ∀ (w : World) (H : Hp) (s : Shared) (e : Value) (s' : Shared), CX w [] H s (fun _ _ _ => False) e s' → False) :
    PySem.W.WalkO q loose XP YP l.row.toRowW d [] (fun f vs => PySem.call f vs) := by
  refine Att.attach_call hn hdf fun w s₀ s₁ mg mb fa o pm cd doc a vs ns G Y ho hd hcd hmg hobj hints hlen hg => ?_
  have KX := hY w _ Y
  obtain ⟨fd, hb, hF⟩ := F w mg fa _ KX G.T.g hmg
  exact law_call KX G.T.g G.T.b G.T.builtins G.T.nolimit hg hobj hints (Nat.le_trans hlen hn2) hr hF hb (fun H hO hS => hsp w H a ns hlen hO hS) fun H e s' => hCX w H s₁ e s'
end L2

namespace L2
open PySem PySem.Spec PyProof.Rows

def defArgs (s : Stmt) : Arguments := match s with
  | .FunctionDef _ a _ _ _ _ _ _ _ _ => a
  | _ => { posonlyargs := [], args := [], vararg := none, kwonlyargs := [], kw_defaults := [], kwarg := none, defaults := [] }
def defBody (s : Stmt) : List Stmt := match s with
  | .FunctionDef _ _ b _ _ _ _ _ _ _ => b
  | _ => []
def defScope (s : Stmt) : Scope := match s with
  | .FunctionDef _ _ _ _ _ _ sc _ _ _ => sc
  | _ => { kind := .function, names := [], isGenerator := false, isCoroutine := false }

abbrev CX0 : CXT := fun _ _ _ _ _ _ => False
abbrev E0 : XK := fun _ _ _ => False
theorem pass0 {X : Cx} : Passes CX0 X E0 := fun _ _ _ _ _ _ _ h => h.elim

structure Fun (K : PySem.W.Frag) (x qual : Str) (st : Stmt) (f : Addr) (fd : FuncData) : Prop where
  ex : ∃ (oc : Value) (od : Option Addr) (kV doc pm : Value) (an : Option Addr) (cdv ct : Value) (osl : Array (Option Value)),
    fd = PySem.W.fnOf x qual (defArgs st) (defBody st) (defScope st) .none kV doc pm an cdv ct ∧ K.lookup f = some ⟨oc, od, .func fd, osl⟩ ∧ PySem.W.codeIn K cdv qual = true
  kp : PySem.W.keepIn K (.ref f) = true
section
variable {P : Program} {w : World} {K : PySem.W.Frag} {mg : Str → Option Value} {base : Heap}
theorem Fun.binds {x qual : Str} {st : Stmt} {f : Addr} {fd : FuncData} {ps : List Str} (F : Fun K x qual st f fd)
    (h : ∀ (kV doc pm : Value) (an : Option Addr) (cdv ct : Value) (us : List Value), us.length = ps.length → bindArgs (PySem.W.fnOf x qual (defArgs st) (defBody st) (defScope st) .none kV doc pm an cdv ct) ⟨us, []⟩ = pure (ps.zip us)) : Binds K fd ps [] := by
  obtain ⟨oc, od, kV, doc, pm, an, cdv, ct, osl, rfl, lk, hcd⟩ := F.ex
  exact .all (h kV doc pm an cdv ct)
theorem fun_mk {x qual : Str} {st : Stmt} {f : Addr} {oc : Value} {od an : Option Addr} {osl : Array (Option Value)} {kV doc pm cdv ct : Value} (l : K.lookup f = some ⟨oc, od, .func (PySem.W.fnOf x qual (defArgs st) (defBody st) (defScope st) .none kV doc pm an cdv ct), osl⟩)
    (c : PySem.W.codeIn K cdv qual = true) (k : PySem.W.keepIn K (.ref f) = true) : Fun K x qual st f (PySem.W.fnOf x qual (defArgs st) (defBody st) (defScope st) .none kV doc pm an cdv ct) := ⟨⟨oc, od, kV, doc, pm, an, cdv, ct, osl, rfl, l, c⟩, k⟩
end
section
variable {X : Cx}
end

def Same (H H' : Hp) : Prop := ∀ b o, H b = some o → H' b = some o
end L2

set_option Elab.async false
set_option linter.all false
set_option maxRecDepth 100000

namespace L2
open PySem PySem.Spec PyProof.Rows

section
variable {κ : Type} [DecidableEq κ]
theorem KV.length {kvs : List (κ × V)} {vs : List (κ × Value)} (r : KV kvs vs) : kvs.length = vs.length := Paired.length r
end

theorem kV_is {P : Program} {w : World} {k : Key} {u : Value} (r : RelV (kV k) u) : (mixKind P w).is k u = true := by
  cases k with
  | inl i => obtain ⟨t, e⟩ := (show ∃ t, u = Value.int i t from r); subst e; exact mixKind_int P w i t
  | inr x => obtain ⟨t, e⟩ := (show ∃ t, u = Value.str x t from r); subst e; exact mixKind_str P w x t
theorem items_are {P : Program} {w : World} : ∀ {ks : List Key} {us : List Value}, Vals (ks.map kV) us → ItemsAre (mixKind P w) ks us
  | [], _, r => by rw [List.map_nil] at r; cases r; exact .nil
  | k :: ks, _, r => by
    rw [List.map_cons] at r
    cases r with
    | cons h t => exact .cons (kV_is h) (items_are t)

abbrev KT (H : Hp) : List (List Key × V) → List (List Key × Addr × Value) → Prop := Paired fun p q => p.1 = q.1 ∧ H q.2.1 = some (.tup (p.1.map kV)) ∧ RelV p.2 q.2.2
section
variable {P : Program} {w : World} {H : Hp} {h : Heap} {a : Addr}
theorem rd_of {u : HO} (ok : HOk P w H h) (e : Rd H a u) : ObjOk P w H h a u := e.ok ok
theorem dk_rd {kvs : List (Key × V)} (ok : HOk P w H h) (e : Rd H a (.dK kvs)) : kvs.length ≤ sizeLine ∧ (a == sysModules) = false ∧ ∃ vs, KV kvs vs ∧ h.DictOf (mixKind P w) a vs :=
  show ObjOk P w H h a (.dK kvs) from rd_of ok e
theorem key_of {ks : List Key} (ok : HOk P w H h) (e : H a = some (.tup (ks.map kV))) : (tupleKind (mixKind P w)).is h ks a := by
  obtain ⟨_, its, r, o, h1, h2, n, h3⟩ := (show ObjOk P w H h a (.tup (ks.map kV)) from ok a _ e)
  exact ⟨o, its.toArray, n, h1, h2, h3, by simpa using items_are r⟩
theorem dt_rd {kvs : List (List Key × V)} (ok : HOk P w H h) (e : Rd H a (.dT kvs)) : kvs.length ≤ sizeLine ∧ (a == sysModules) = false ∧
    ∃ xs, KT H kvs xs ∧ h.DictOfH (tupleKind (mixKind P w)) a xs := by
  obtain ⟨z, y, xs, r, o, es, ep, h1, h2, h3, h4, h5⟩ := (show ObjOk P w H h a (.dT kvs) from rd_of ok e)
  refine ⟨z, y, xs, r, o, es, ep, h1, h2, h3, h4, fun x hx => ?_, h5⟩
  have all : ∀ {l : List (List Key × V)} {m : List (List Key × Addr × Value)}, KT H l m → ∀ x ∈ m, (tupleKind (mixKind P w)).is h x.1 x.2.1 := by
    intro l m q
    induction q with
    | nil => intro x hx; exact nomatch hx
    | @cons p q ps qs hq t ih =>
      intro x hx
      rcases List.mem_cons.mp hx with e | hx
      · subst e
        exact key_of ok (by rw [← hq.1]; exact hq.2.1)
      · exact ih x hx
  exact all r x hx
theorem dt_of {kvs : List (List Key × V)} (ok : HOk P w H h) (e : H a = some (.dT kvs)) : kvs.length ≤ sizeLine ∧ (a == sysModules) = false ∧
    ∃ xs, KT H kvs xs ∧ h.DictOfH (tupleKind (mixKind P w)) a xs := dt_rd ok (.inl e)
end

section
variable {X : Cx} {pins : List (Addr × Obj)} {σ : St} {H : Hp} {s : Shared} {a : Addr} {y v : V} {u r : Value} {o : Option V} {A : Around} {E : Value → Shared → Prop}

end

section
variable {X : Cx} {pins : List (Addr × Obj)} {σ : St} {H : Hp} {s : Shared} {a : Addr} {kvs : List (Key × V)} {k : Key} {u : Value} {A : Around} {E : Value → Shared → Prop}
theorem d_len {Q : Value → Shared → Prop} (I : Inv X pins σ H s) (e : Rd H a (.dK kvs)) (h : ∀ t s', Inv X pins σ H s' → Q (.int kvs.length t) s') : wpAny (model X.prog X.w) A (call (.builtin "len") [.ref a]) Q E s := by
  obtain ⟨z, hd, vs, rel, dd⟩ := dk_rd I.hok e
  refine call_len_dict hd dd (by rw [← rel.length]; rw [sizeLine_eq] at z; omega) ?_
  rw [← rel.length]
  exact h _ _ (I.tok _)
end

section
variable {X : Cx} {o i e value : Expr} {pos pos' tpos : Pos} {td ty tv : TE}
end

section
variable {X : Cx} {pos : Pos}
end

section
variable {X : Cx} {pins : List (Addr × Obj)} {σ : St} {H : Hp} {s : Shared} {a : Addr} {y d : V} {u r : Value} {o : Option V} {A : Around} {E : Value → Shared → Prop}
end

section
variable {X : Cx} {o e f : Expr} {apos cpos : Pos} {td ty tx : TE}
end

section
variable {X : Cx} {pins : List (Addr × Obj)} {σ : St} {H : Hp} {s : Shared} {a : Addr} {kvs : List (Key × V)} {A : Around} {E : Value → Shared → Prop}
end

section
variable {X : Cx} {pins : List (Addr × Obj)} {σ : St} {H : Hp} {s : Shared} {a : Addr} {y : V} {u : Value} {A : Around} {E : Value → Shared → Prop}
end
end L2

namespace L2
open PySem PySem.Spec PyProof.Rows
section
variable {X : Cx}
theorem call_lenD : CallR X (.builtin "len") (fun xs H Q => ∃ a kvs, xs = [V.ref a] ∧ H a = some (.dK kvs) ∧ Q (.int kvs.length) H) := by
  intro pins s σ H xs us Q I r h
  obtain ⟨a, kvs, rfl, ha, q⟩ := h
  obtain ⟨u, rfl, ru⟩ := vals1 r
  cases ru
  exact d_len I (.inl ha) fun t s' I' => ⟨.int kvs.length, H, I', ⟨t, rfl⟩, q⟩
end
section
variable {κ : Type} [DecidableEq κ]
end
end L2

set_option Elab.async false
set_option linter.all false
set_option maxRecDepth 100000
set_option maxHeartbeats 4000000
namespace L2
open PySem PySem.Spec PyProof.Rows

def closOf (env : Env) : List (Str × NameKind) → List (Str × Addr) → List (Str × Addr)
  | [], acc => acc
  | (n, k) :: r, acc => closOf env r (if (k == NameKind.free) = true then (n, (env.cells.lookup n).getD 0) :: acc else acc)
theorem clos_loop {env : Env} (f : (Str × NameKind) → List (Str × Addr) → Sem (ForInStep (List (Str × Addr))))
    (hf : ∀ n k acc, f (n, k) acc = if (k == NameKind.free) = true then (cellOf env n >>= fun a => pure (.yield ((n, a) :: acc))) else pure (.yield acc)) :
    ∀ (l : List (Str × NameKind)) (acc : List (Str × Addr)), (∀ y ∈ l, y.2 = .free → ∃ c, env.cells.lookup y.1 = some c) → forIn l acc f = (pure (closOf env l acc) : Sem _)
  | [], acc, _ => rfl
  | (n, k) :: r, acc, h => by
    rw [List.forIn_cons, hf]
    have hr : ∀ y ∈ r, y.2 = .free → ∃ c, env.cells.lookup y.1 = some c := fun y hy => h y (List.mem_cons_of_mem _ hy)
    unfold closOf
    cases hk : (k == NameKind.free) with
    | true =>
      obtain ⟨c, hc⟩ := h (n, k) List.mem_cons_self (by simpa using hk)
      rw [if_pos rfl, if_pos rfl]
      have hc' : env.cells.lookup n = some c := hc
      simp only [cellOf, hc', pure_bind, Option.getD_some]
      exact clos_loop f hf r _ hr
    | false =>
      rw [if_neg Bool.false_ne_true, if_neg Bool.false_ne_true, pure_bind]
      exact clos_loop f hf r acc hr
theorem closureFor_eq {scope : Scope} {env : Env} (h : ∀ y ∈ scope.names, y.2 = .free → ∃ c, env.cells.lookup y.1 = some c) : closureFor scope env = pure (closOf env scope.names []) := by
  simp only [closureFor]
  rw [clos_loop (env := env) _ (fun n k acc => ?_) scope.names [] h, pure_bind]
  cases hk : (k == NameKind.free) <;> simp [hk]
theorem closOf_sub {env : Env} : ∀ {l : List (Str × NameKind)} {acc : List (Str × Addr)}, (∀ y ∈ l, y.2 = .free → ∃ c, env.cells.lookup y.1 = some c) → (∀ x c, acc.lookup x = some c → env.cells.lookup x = some c) →
    ∀ x c, (closOf env l acc).lookup x = some c → env.cells.lookup x = some c
  | [], _, _, ha, x, c, e => ha x c e
  | (n, k) :: r, acc, h, ha, x, c, e => by
    unfold closOf at e
    refine closOf_sub (l := r) (fun y hy => h y (List.mem_cons_of_mem _ hy)) (fun x c e => ?_) x c e
    cases hk : (k == NameKind.free) with
    | false => rw [hk, if_neg Bool.false_ne_true] at e; exact ha x c e
    | true =>
      rw [hk, if_pos rfl, List.lookup_cons] at e
      cases hx : x == n with
      | false => rw [hx] at e; exact ha x c e
      | true =>
        rw [hx] at e
        obtain ⟨d, hd⟩ := h (n, k) List.mem_cons_self (by simpa using hk)
        have hd' : env.cells.lookup n = some d := hd
        rw [hd', Option.getD_some] at e
        cases e
        rw [beq_iff_eq.mp hx]; exact hd'
theorem closOf_keep {env : Env} : ∀ {l : List (Str × NameKind)} {acc : List (Str × Addr)} {x : Str}, (acc.lookup x).isSome = true → ((closOf env l acc).lookup x).isSome = true
  | [], _, _, h => h
  | (n, k) :: r, acc, x, h => by
    unfold closOf
    refine closOf_keep (l := r) ?_
    cases hk : (k == NameKind.free) with
    | false => rw [if_neg Bool.false_ne_true]; exact h
    | true =>
      rw [if_pos rfl, List.lookup_cons]
      cases hx : x == n with
      | false => exact h
      | true => rfl
theorem closOf_has {env : Env} : ∀ {l : List (Str × NameKind)} {acc : List (Str × Addr)} {y : Str × NameKind}, y ∈ l → y.2 = .free → ((closOf env l acc).lookup y.1).isSome = true
  | (n, k) :: r, acc, y, hy, hk => by
    unfold closOf
    rcases List.mem_cons.mp hy with e | hy
    · subst e
      have hk' : (k == NameKind.free) = true := by simpa using hk
      rw [hk', if_pos rfl]
      exact closOf_keep (by rw [List.lookup_cons]; simp)
    · exact closOf_has hy hk

structure CompScope (NX : List Str) (SX scope : Scope) (N : List Str) (own : Nat) (fi : List Nat) : Prop where
  kind : scope.kind = .function
  nocell : ∀ y ∈ scope.names, y.2 ≠ .cell
  names : ∀ y ∈ scope.names, y.2 = .local → scope.names.lookup y.1 = some .local
  free : ∀ y ∈ scope.names, y.2 = .free → SX.names.lookup y.1 = some .cell ∨ SX.names.lookup y.1 = some .free
  len : N.length = own + fi.length
  outs : ∀ p ∈ (N.drop own).zip fi, NX[p.2]? = some p.1 ∧ scope.names.lookup p.1 = some .free
def compSt (own : Nat) (fi : List Nat) (σ : St) : St := List.replicate own none ++ fi.map fun i => (σ[i]?).join
def Cx.comp (X : Cx) (scope : Scope) (N : List Str) (ex : List Addr) (s : Shared) (H : Hp) : Cx :=
  { X with N := N, s₀ := s, H₀ := H, env := compEnvC scope (closOf X.env scope.names []) s.heap.objs.size X.env, outer := X.stack, stack := X.stack, ex := ex, fn := fun _ => false, pn := [], xe := fun _ _ => False }

theorem lookup_relabel {env : Env} {x : Str} : ∀ {names : List (Str × NameKind)}, (∀ y ∈ names, y.2 ≠ .cell) →
    (∀ k, (names.map fun (n, k) => if (k == NameKind.free && env.scope.kind == .function && env.kindOf n == some .cell) then (n, NameKind.cell) else (n, k)).lookup x = some k → k = .cell ∨ k = .free → names.lookup x = some .free)
  | [], _, k, h, _ => by simp at h
  | (n, k0) :: r, hc, k, h, hk => by
    have ih := @lookup_relabel env x r (fun y hy => hc y (List.mem_cons_of_mem _ hy)) k
    rw [List.map_cons] at h
    have h0 : k0 ≠ .cell := hc (n, k0) List.mem_cons_self
    cases hx : x == n with
    | false =>
      have e : ∀ z : NameKind, List.lookup x ((n, z) :: (r.map fun (n, k) => if (k == NameKind.free && env.scope.kind == .function && env.kindOf n == some .cell) then (n, NameKind.cell) else (n, k))) = List.lookup x (r.map fun (n, k) => if (k == NameKind.free && env.scope.kind == .function && env.kindOf n == some .cell) then (n, NameKind.cell) else (n, k)) := fun z => by rw [List.lookup_cons, hx]
      rw [List.lookup_cons, hx]
      refine ih ?_ hk
      by_cases hcnd : (k0 == NameKind.free && env.scope.kind == .function && env.kindOf n == some .cell) = true
      · simp only [hcnd, if_true] at h; rw [e] at h; exact h
      · simp only [Bool.not_eq_true] at hcnd; simp only [hcnd] at h; rw [if_neg Bool.false_ne_true, e] at h; exact h
    | true =>
      rw [List.lookup_cons, hx]
      show some k0 = some .free
      by_cases hcnd : (k0 == NameKind.free && env.scope.kind == .function && env.kindOf n == some .cell) = true
      · have : (k0 == NameKind.free) = true := by
          simp only [Bool.and_eq_true] at hcnd; exact hcnd.1.1
        rw [beq_iff_eq.mp this]
      · simp only [Bool.not_eq_true] at hcnd
        simp only [hcnd] at h
        rw [if_neg Bool.false_ne_true, List.lookup_cons, hx] at h
        cases h
        rcases hk with z | z
        · exact absurd z h0
        · rw [z]
theorem lookup_relabel_free {env : Env} {x : Str} : ∀ {names : List (Str × NameKind)}, names.lookup x = some .free →
    (names.map fun (n, k) => if (k == NameKind.free && env.scope.kind == .function && env.kindOf n == some .cell) then (n, NameKind.cell) else (n, k)).lookup x = some .cell ∨
    (names.map fun (n, k) => if (k == NameKind.free && env.scope.kind == .function && env.kindOf n == some .cell) then (n, NameKind.cell) else (n, k)).lookup x = some .free
  | [], h => by simp at h
  | (n, k0) :: r, h => by
    rw [List.map_cons]
    cases hx : x == n with
    | false =>
      rw [List.lookup_cons, hx] at h
      have ih := @lookup_relabel_free env x r h
      by_cases hcnd : (k0 == NameKind.free && env.scope.kind == .function && env.kindOf n == some .cell) = true
      · simp only [hcnd, if_true, List.lookup_cons, hx]; exact ih
      · simp only [Bool.not_eq_true] at hcnd; simp only [hcnd]; rw [if_neg Bool.false_ne_true, List.lookup_cons, hx]; exact ih
    | true =>
      rw [List.lookup_cons, hx] at h
      cases h
      by_cases hcnd : (NameKind.free == NameKind.free && env.scope.kind == .function && env.kindOf n == some .cell) = true
      · left; simp only [hcnd, if_true, List.lookup_cons, hx]
      · right; simp only [Bool.not_eq_true] at hcnd; simp only [hcnd]; rw [if_neg Bool.false_ne_true, List.lookup_cons, hx]

section
variable {X : Cx} {pins : List (Addr × Obj)} {σ : St} {H : Hp} {s : Shared} {NX N : List Str} {SX scope : Scope} {own : Nat} {fi : List Nat}
theorem CompScope.cells (S : CompScope NX SX scope N own fi) (hS : X.env.scope = SX) (ok : X.Ok) : ∀ y ∈ scope.names, y.2 = .free → ∃ c, X.env.cells.lookup y.1 = some c := fun y hy hk => by
  refine ok.has y.1 ?_
  have := S.free y hy hk
  rw [← hS] at this
  exact this

theorem Inv.comp {fp : List Addr} {h₁ : Heap} {t' : Nat} (S : CompScope NX SX scope N own fi) (hN : X.N = NX) (hS : X.env.scope = SX) (I : Inv X pins σ H s) (hfp : ∀ b ∈ fp, FpOk X pins H b) (hlt : ∀ b ∈ fp, b < s.heap.objs.size)
    (hns : h₁.Ns s.heap.objs.size (fun _ => none)) (k : ∀ b o, s.heap.get? b = some o → h₁.get? b = some o) :
    Inv (X.comp scope N fp s H) [] (compSt own fi σ) H { s with heap := h₁, toks := t' } := by
  have hcl := S.cells hS I.ok
  have sub : ∀ x c, (closOf X.env scope.names []).lookup x = some c → X.env.cells.lookup x = some c := closOf_sub hcl fun x c e => by simp at e
  have kinds : ∀ x, ((X.comp scope N fp s H).env.kindOf x = some .cell ∨ (X.comp scope N fp s H).env.kindOf x = some .free) → scope.names.lookup x = some .free := fun x hx => by
    rcases hx with hx | hx
    · exact lookup_relabel S.nocell _ hx (.inl rfl)
    · exact lookup_relabel S.nocell _ hx (.inr rfl)
  refine ⟨⟨I.ok.mod, S.kind, I.ok.glob, I.ok.blt, Nat.le_refl _, fun x y c h1 h2 => I.ok.inj x y c (sub _ _ h1) (sub _ _ h2), fun x hx => ?_, fun x c h => by exact absurd (show false = true from h) Bool.false_ne_true, I.ok.hd, I.ok.frames, .inl rfl,
    fun b hb => ⟨?_, fun x c e => (hfp b hb).2.2.2.2.1 x c (sub x c e)⟩, I.bs, Nat.le_trans I.ok.bsz I.sz, fun b o e hb => ?_, fun b hb hf => ?_, I.stack, I.stkFree⟩,
    rfl, I.bare, Un.kept k, ⟨_, hns, fun i x v e1 e2 e3 => ?_⟩, fun x c e => ?_, I.hok.fresh (Nat.le_refl _), fun x c e => I.freeC x c (sub x c e), fun p hp => absurd (show p ∈ ([] : List (Addr × Obj)) from hp) (by simp), I.hok.kept k, ?_⟩
  · have := closOf_has (env := X.env) (acc := []) (PySem.mem_of_lookup (kinds x hx)) rfl
    exact Option.isSome_iff_exists.mp this
  · exact Nat.ne_of_lt (hlt b hb)
  · rcases (hfp b hb).2.2.2.1 with z | z
    · exact I.ok.noex b o e z
    · exact absurd (Nat.lt_of_lt_of_le (Heap.lt_size e) (Nat.le_trans I.ok.bsz z)) (Nat.lt_irrefl _)
  · rcases List.mem_cons.mp (I.stkSub b hf) with z | z
    · exact (hfp b hb).2.1 z
    · exact (hfp b hb).2.2.1 z
  · -- the names from around
    have hi : own ≤ i := by
      by_cases hi : i < own
      · have : (compSt own fi σ)[i]? = some none := by
          unfold compSt
          rw [List.getElem?_append_left (by simpa using hi), List.getElem?_replicate, if_pos hi]
        rw [this] at e2; cases e2
      · omega
    have e2' : (fi.map fun i => (σ[i]?).join)[i - own]? = some (some v) := by
      unfold compSt at e2
      rw [List.getElem?_append_right (by simpa using hi), List.length_replicate] at e2
      exact e2
    rw [List.getElem?_map] at e2'
    cases ef : fi[i - own]? with
    | none => rw [ef] at e2'; cases e2'
    | some j =>
      rw [ef] at e2'
      have e4 : (σ[j]?).join = some v := by simpa using e2'
      have e5 : σ[j]? = some (some v) := by
        cases q : σ[j]? with
        | none => rw [q] at e4; cases e4
        | some z => rw [q] at e4; have e4' : z = some v := by simpa using e4
                    rw [e4']
      have e1' : N[i]? = some x := e1
      have hz : (x, j) ∈ (N.drop own).zip fi := by
        refine List.mem_of_getElem? (i := i - own) ?_
        rw [List.getElem?_zip_eq_some]
        refine ⟨?_, ef⟩
        rw [List.getElem?_drop]
        have : own + (i - own) = i := by omega
        rw [this]; exact e1'
      obtain ⟨o1, o2⟩ := S.outs (x, j) hz
      obtain ⟨m, hn, hl⟩ := I.loc
      have vis : SX.names.lookup x = some .cell ∨ SX.names.lookup x = some .free := S.free (x, .free) (PySem.mem_of_lookup o2) rfl
      have vis' : X.env.scope.names.lookup x = some .cell ∨ X.env.scope.names.lookup x = some .free := by rw [hS]; exact vis
      obtain ⟨u, r, l⟩ := hl j x v (by rw [hN]; exact o1) e5 (.inr vis')
      refine ⟨u, r, .inr ?_⟩
      rcases l with ⟨hk, _⟩ | ⟨_, c, hc, hcell⟩
      · have hk' : X.env.scope.names.lookup x = some .local := hk
        rcases vis' with z | z <;> (rw [z] at hk'; cases hk')
      · refine ⟨lookup_relabel_free (env := X.env) o2, c, ?_, hcell.keeps k⟩
        have hh := closOf_has (env := X.env) (acc := []) (PySem.mem_of_lookup o2) rfl
        obtain ⟨c', hc'⟩ := Option.isSome_iff_exists.mp hh
        have := sub x c' hc'
        rw [hc] at this; cases this
        exact hc'
  · obtain ⟨v, q⟩ := I.cell x c (sub x c e)
    exact ⟨v, q.keeps k⟩
  · unfold compSt
    show _ = N.length
    rw [List.length_append, List.length_replicate, List.length_map, S.len]
end

section
variable {prog : Program} {w : World} {A : Around} {R : Result → Shared → Prop} {s : Shared}
theorem compLoop_go {elt target iter : Expr} {ifs : List Expr} {scope : Scope} {pos : Pos} {it acc : Value} {env : Env} (I : Nat → Shared → Prop) {F : Value → Shared → Prop} (hF : ∀ e s, F e s → False)
    (turn : ∀ n s, I n s → wpAny (model prog w) A (pyNext it) (fun r s₁ => match r with
      | none => R (.ok .next) s₁
      | some v => wpAny (model prog w) A (letOwnedTupleGo target it v) (fun _ s₁' => wpAny (model prog w) A (assign target env v) (fun _ s₂ =>
          wpAny (model prog w) A (forIn ifs true fun c r => if r = true then do let ok ← isTrue c env (eval c env); pure (ForInStep.yield ok) else pure (ForInStep.yield r)) (fun ok s₃ =>
            if ok = true then wpAny (model prog w) A (eval elt env) (fun x s₄ =>
              wpAny (model prog w) A (call (.builtin "list.append") [acc, x]) (fun _ s₅ => ∃ m, m < n ∧ I m s₅) F s₄) F s₃
            else ∃ m, m < n ∧ I m s₃) F s₂) F s₁') F s₁) F s)
    (n : Nat) (h : I n s) :
    codeAny (model prog w) A (.compLoop (.ListComp elt [⟨target, iter, ifs, 0⟩] scope pos) 0 it acc env) R s := by
  refine codeAny_loop rfl I (fun n s hI => ?_) n h
  show wpAny _ A ((compTurn (.ListComp elt [⟨target, iter, ifs, 0⟩] scope pos) 0 it acc env).onRaise (fun x => do noteFrame x env; theTreesLotGoes x)) _ _ s
  refine wpAny_noted ?_
  rw [compTurn_list]
  refine wpAny_bind (wpAny_standAt (wpAny_bind (wpAny_mono (turn n s hI) (fun r s₁ h₁ => ?_) fun _ _ h' => (hF _ _ h').elim)))
  cases r with
  | none => exact wpAny_pure h₁
  | some v =>
    refine wpAny_bind (wpAny_mono h₁ (fun _ s₁' h₁' => ?_) fun _ _ h' => (hF _ _ h').elim)
    refine wpAny_bind (wpAny_mono h₁' (fun _ s₂ h₂ => wpAny_bind (wpAny_mono h₂ (fun ok s₃ h₃ => ?_) fun _ _ h' => (hF _ _ h').elim)) fun _ _ h' => (hF _ _ h').elim)
    cases ok with
    | false => exact wpAny_pure ⟨rfl, h₃⟩
    | true =>
      exact wpAny_bind (wpAny_bind (wpAny_mono h₃ (fun x s₄ h₄ => wpAny_bind (wpAny_mono h₄ (fun _ s₅ h₅ => wpAny_pure (wpAny_pure ⟨rfl, h₅⟩)) fun _ _ h' => (hF _ _ h').elim)) fun _ _ h' => (hF _ _ h').elim))
end

def PIf (X : Cx) (ifs : List Expr) (t : TT) : Prop :=
  ∀ (pins : List (Addr × Obj)) (s : Shared) (σ : St) (H : Hp) (Q : Bool → Hp → Prop), Inv X pins σ H s → t σ H Q →
    wpAny (model X.prog X.w) X.A (forIn ifs true fun c r => if r = true then do let ok ← isTrue c X.env (eval c X.env); pure (ForInStep.yield ok) else pure (ForInStep.yield r)) (TP X pins σ Q) X.xe s
theorem pif_one {X : Cx} {c : Expr} {t : TT} (h : PT X c t) : PIf X [c] t := fun pins s σ H Q I q => wpAny_tests_one (h pins s σ H Q I q)

def tCompR (wi : TI) (g : TG) (tt : TT) (te : TE) (own : Nat) (fi : List Nat) (σ : St) (H : Hp) (R : Addr → Hp → Prop) : Prop :=
  wi σ H fun J H1 => ∀ l, H1 l = none → ∃ W : Nat → Nat → St → Hp → Prop, (∃ m, W 0 m (compSt own fi σ) (upd H1 l (.lst []))) ∧ ∀ i m σ' H', W i m σ' H' →
    (J.stop i H' ∧ R l H') ∨ (J.go i H' ∧ ∃ N : St → Hp → Prop, (∀ σ'' H'', N σ'' H'' → ∃ m', m' < m ∧ W (i + 1) m' σ'' H'') ∧ ∀ x H2, J.yld i H' x H2 → g x σ' H2 fun σ2 H3 => tt σ2 H3 fun ok H4 =>
      if ok = true then te σ2 H4 fun y H5 => ∃ xs, H5 l = some (.lst xs) ∧ xs.length < sizeLine ∧ N σ2 (upd H5 l (.lst (xs ++ [y]))) else N σ2 H4)
def tComp (wi : TI) (g : TG) (tt : TT) (te : TE) (own : Nat) (fi : List Nat) : TE := fun σ H Q => tCompR wi g tt te own fi σ H fun l H' => Q (.ref l) H'

structure Gone (X : Cx) (pins : List (Addr × Obj)) (H : Hp) (C : Addr) : Prop where
  none : H C = none
  loc : C ≠ X.env.locals
  ab : X.s₀.heap.objs.size ≤ C
  cell : ∀ x c, X.env.cells.lookup x = some c → c ≠ C
  pin : ∀ p ∈ X.pn ++ pins, p.1 ≠ C

section
variable {X : Cx} {pins : List (Addr × Obj)} {σ : St} {H : Hp} {s : Shared} {NX N : List Str} {SX scope : Scope} {own : Nat} {fi : List Nat} {tg iter elt : Expr} {ifs : List Expr} {wi : TI} {g : TG} {tt : TT} {te : TE} {pos cpos : Pos} {use : Option (Value → Sem Unit)} {QQ : Value → Shared → Prop} {R : Addr → Hp → Prop}
theorem comp_walk (S : CompScope NX SX scope N own fi) (hN : X.N = NX) (hS : X.env.scope = SX) (hc : X.calm = true) (hi : PI X tg iter wi) (hg : ∀ ex s H, PG (X.comp scope N ex s H) tg g) (ht : ∀ ex s H, PIf (X.comp scope N ex s H) ifs tt)
    (he : ∀ ex s H, PE (X.comp scope N ex s H) elt te) (I : Inv X pins σ H s) (h : tCompR wi g tt te own fi σ H R)
    (post : ∀ l H' s' C, Inv X pins σ H' s' → R l H' → (∃ m, s'.heap.Ns C m) → Gone X pins H' C → compPost (model X.prog X.w) X.A X.xe use QQ (.ref l) C (.ok .next) s')
    (hs : ∀ x, foldedSetIterable iter X.env x = pure x) :
    wpAny (model X.prog X.w) X.A (comprehension (.ListComp elt [⟨tg, iter, ifs, 0⟩] scope pos) scope X.env cpos (newList []) false (eval iter X.env) use) QQ X.xe s := by
  have hcl := S.cells hS I.ok
  refine wpAny_comprehension_free (use := use) rfl hs (closureFor_eq hcl) S.kind S.names ?_
  refine thn (hi pins s σ H _ I h) fun v s1 h1 => thn h1 fun itv s2 h2 => ?_
  obtain ⟨it, fp, tn, J, H2, e, I2, T, st2, f2, q⟩ := h2
  subst e
  have hl : H2 s2.heap.objs.size = none := I2.hok.fresh (Nat.le_refl _)
  obtain ⟨W, ⟨m0, w0⟩, turn⟩ := q _ hl
  generalize hL : s2.heap.objs.size = L at w0 turn hl
  refine wpAny_newObj_type ?_
  rw [hL]
  have I3 : Inv X pins σ (upd H2 L (.lst [])) { s2 with heap := s2.heap.push { cls := .type "list", data := .seq ([] : List Value).toArray } } := by
    subst hL
    exact I2.laid (t' := s2.toks) (fun b u e => Heap.get?_push_of_some _ e) (Nat.le_refl _) ⟨Nat.zero_le _, [], 0, .nil, Heap.get?_push_size _ rfl⟩
  generalize hs3 : ({ s2 with heap := s2.heap.push { cls := .type "list", data := .seq ([] : List Value).toArray } } : Shared) = s3 at I3 ⊢
  have st3 : tn 0 s3.heap := T.keep _ _ _ st2 fun b _ o e => by subst hs3; exact Heap.get?_push_of_some _ e
  have hlt3 : ∀ b ∈ fp, b < s3.heap.objs.size := fun b hb => by
    obtain ⟨o, e, _⟩ := T.obj _ _ st3 b hb
    exact Heap.lt_size e
  have hfp3 : ∀ b ∈ fp, FpOk X pins (upd H2 L (.lst [])) b := fun b hb => by
    obtain ⟨f0, f1⟩ := f2 b hb
    refine ⟨?_, f1⟩
    obtain ⟨o, e, _⟩ := T.obj _ _ st2 b hb
    rw [upd_ne (by rw [← hL]; exact Nat.ne_of_lt (Heap.lt_size e))]; exact f0
  refine wpAny_newFunctionEnv S.nocell (by intro y hy; simp at hy) (fun h₁ hns₁ hsb₁ => ?_) S.kind
  have hns₁' : h₁.Ns s3.heap.objs.size (fun _ => none) := by
    have : (fun x => List.lookup x ([] : List (Str × Value)).reverse) = fun _ => (none : Option Value) := by funext x; rfl
    rw [← this]; exact hns₁
  have k1 : ∀ b o, s3.heap.get? b = some o → h₁.get? b = some o := fun b o e => hsb₁.extBut b o (Nat.ne_of_lt (Heap.lt_size e)) (Heap.get?_push_of_some _ e)
  have I4 := Inv.comp (t' := s3.toks + ([] : List (Str × Value)).length) S hN hS I3 hfp3 hlt3 hns₁' k1
  have stat : ∀ {H' : Hp}, (∀ b ∈ fp, H' b = none) → ∀ b ∈ fp, FpOk (X.comp scope N fp s3 (upd H2 L (.lst []))) [] H' b := fun {H'} hn b hb =>
    ⟨hn b hb, Nat.ne_of_lt (hlt3 b hb), I4.ok.exfs b hb, .inl hb, (I4.ok.exf b hb).2, fun p hp => absurd (show p ∈ ([] : List (Addr × Obj)) from hp) (by simp)⟩
  generalize hX' : X.comp scope N fp s3 (upd H2 L (.lst [])) = X' at I4 stat
  have hP : X'.prog = X.prog := by rw [← hX']; rfl
  have hw : X'.w = X.w := by rw [← hX']; rfl
  have hK : X'.K = X.K := by rw [← hX']; rfl
  have hA : X'.A = X.A := by rw [← hX']; rfl
  have hca : X'.calm = true := by rw [← hX']; exact hc
  have henv : X'.env = compEnvC scope (closOf X.env scope.names []) s3.heap.objs.size X.env := by rw [← hX']; rfl
  have hxe : X'.xe = fun _ _ => False := by rw [← hX']; rfl
  have hg' := hg fp s3 (upd H2 L (.lst []))
  have ht' := ht fp s3 (upd H2 L (.lst []))
  have he' := he fp s3 (upd H2 L (.lst []))
  rw [hX'] at hg' ht' he'
  have loop : ∀ s4 : Shared, s4 = { s3 with heap := h₁, toks := s3.toks + ([] : List (Str × Value)).length } →
      codeAny (model X.prog X.w) X.A (.compLoop (.ListComp elt [⟨tg, iter, ifs, 0⟩] scope pos) 0 (.ref it) (.ref L) (compEnvC scope (closOf X.env scope.names []) s3.heap.objs.size X.env))
        (compPost (model X.prog X.w) X.A X.xe use QQ (.ref L) s3.heap.objs.size) s4 := by
    intro s4 hs4
    refine compLoop_go (fun n s' => ∃ i σ' H', Inv X' [] σ' H' s' ∧ tn i s'.heap ∧ (∀ b ∈ fp, H' b = none) ∧ W i n σ' H') (F := X'.xe) (fun e s z => by rw [hxe] at z; exact z) ?_ m0
      ⟨0, _, _, by rw [hs4]; exact I4, by rw [hs4]; exact T.keep _ _ _ st3 fun b _ o e => k1 b o e, fun b hb => (hfp3 b hb).1, w0⟩
    rintro n s5 ⟨i, σ5, H5, I5, st5, fr5, w5⟩
    rcases turn i n σ5 H5 w5 with ⟨stop, qn⟩ | ⟨go, N', hN', step⟩
    · have hd := T.done X' hP hw hK hca i [] s5 σ5 H5 X'.xe I5 (stat fr5) st5 stop
      rw [hA] at hd
      refine thn hd fun r s6 ⟨hr, I6⟩ => ?_
      subst hr
      -- the end: back to the body around
      have hb := I6.base
      have e1 : X'.fs = frs X.stack := by rw [← hX']; rfl
      have e2 : X'.ex = fp := by rw [← hX']; rfl
      have e3 : X'.H₀ = upd H2 L (.lst []) := by rw [← hX']; rfl
      have e4 : X'.s₀ = s3 := by rw [← hX']; rfl
      rw [e1, e2, e3, e4] at hb
      have hok6 : HOk X.prog X.w H5 s6.heap := by rw [← hP, ← hw]; exact I6.hok
      have os6 : s6.os = s3.os := by rw [I6.os, e4]
      have I7 : Inv X pins σ H5 s6 := I3.call' os6 hb hok6 I6.bare fun b hb => ⟨(hfp3 b hb).2.2.2.1, (hfp3 b hb).2.1, (hfp3 b hb).2.2.2.2.1, (hfp3 b hb).2.2.2.2.2⟩
      refine post L H5 s6 _ I7 qn ?_ ⟨?_, Nat.ne_of_gt I3.lt, I3.sz, fun x c e z => ?_, fun p hp z => ?_⟩
      · obtain ⟨m, hn, _⟩ := I6.loc
        rw [henv] at hn
        exact ⟨m, hn⟩
      · have := I6.free
        rw [henv] at this
        exact this
      · obtain ⟨v', q'⟩ := I3.cell x c e
        exact absurd (z ▸ q'.lt) (Nat.lt_irrefl _)
      · exact absurd (z ▸ Heap.lt_size (I3.pin p hp).1) (Nat.lt_irrefl _)
    · have hd := T.item X' hP hw hK hca i [] s5 σ5 H5 X'.xe I5 (stat fr5) st5 go
      rw [hA] at hd
      refine thn hd fun r s6 ⟨u, hr, h6⟩ => ?_
      subst hr
      refine thn h6 fun _ s7 ⟨x, H7, I7, r7, y7, st7, fr7⟩ => ?_
      have I7' := I7.pinned (stat fr7) (T.obj _ _ st7)
      have ha := hg' _ s7 σ5 H7 x u _ I7' r7 (step x H7 y7)
      rw [hP, hw, hA, henv] at ha
      refine thn ha fun _ s8 ⟨σ8, H8, I8, q8⟩ => ?_
      have hb := ht' _ s8 σ8 H8 _ I8 q8
      rw [hP, hw, hA, henv] at hb
      refine thn hb fun ok s9 ⟨H9, I9, q9⟩ => ?_
      have again : ∀ {σ' : St} {H' : Hp} {s' : Shared}, Inv X' ([] ++ pinsAt fp s7.heap) σ' H' s' → N' σ' H' → ∃ m, m < n ∧ ∃ i σ' H', Inv X' [] σ' H' s' ∧ tn i s'.heap ∧ (∀ b ∈ fp, H' b = none) ∧ W i m σ' H' := fun {σ' H' s'} I' n' => by
        obtain ⟨m', hm, w'⟩ := hN' σ' H' n'
        refine ⟨m', hm, i + 1, σ', H', I'.unpinned, T.keep _ _ _ st7 fun b hb o e => (I'.pin (b, o) (List.mem_append_right _ (List.mem_append_right _ (mem_pinsAt hb e)))).1, fun b hb => ?_, w'⟩
        obtain ⟨o, e, d⟩ := T.obj _ _ st7 b hb
        exact (I'.pin (b, o) (List.mem_append_right _ (List.mem_append_right _ (mem_pinsAt hb e)))).2.1
      cases ok with
      | false =>
        rw [if_neg Bool.false_ne_true] at q9 ⊢
        exact again I9 q9
      | true =>
        rw [if_pos rfl] at q9 ⊢
        have hv := he' _ s9 σ8 H9 _ I9 q9
        rw [hP, hw, hA, henv] at hv
        refine thn hv fun y s10 ⟨yv, H10, I10, r10, xs, hx, hz, q10⟩ => ?_
        have hap := mt_append (X := X') _ s10 σ8 H10 (V.ref L) [yv] (Value.ref L) [y] (fun v H' => v = .non ∧ N' σ8 H') I10 rfl (.cons r10 .nil) ⟨L, xs, yv, rfl, rfl, hx, hz, rfl, q10⟩
        rw [hP, hw, hA] at hap
        refine thn hap fun _ s11 ⟨v, H11, I11, _, _, q11⟩ => ?_
        exact again I11 q11
  have e5 : ({ newEnv scope s3.heap.objs.size X.env.globals (closOf X.env scope.names []) X.env.qual none Value.none (some X.env) builtinsNs with scope := relabel scope X.env } : Env) = compEnvC scope (closOf X.env scope.names []) s3.heap.objs.size X.env := rfl
  exact codeAny_compStart_list (loop _ rfl) (T.self X.A 0 _ _ _ (T.keep _ _ _ st3 fun b _ o e => k1 b o e) (loop _ rfl))

theorem pe_comp (S : CompScope NX SX scope N own fi) (hc : X.calm = true) (hi : PI X tg iter wi) (hg : ∀ ex s H, PG (X.comp scope N ex s H) tg g) (ht : ∀ ex s H, PIf (X.comp scope N ex s H) ifs tt)
    (he : ∀ ex s H, PE (X.comp scope N ex s H) elt te) (hN : X.N = NX := by rfl) (hS : X.env.scope = SX := by rfl) (hs : ∀ x, foldedSetIterable iter X.env x = pure x := by intro _; rfl) :
    PE X (.ListComp elt [⟨tg, iter, ifs, 0⟩] scope pos) (tComp wi g tt te own fi) := by
  intro pins s σ H Q I h
  rw [eval_ListComp]
  refine comp_walk (use := none) (R := fun l H' => Q (.ref l) H') S hN hS hc hi hg ht he I h (fun l H' s' C I' q' hn G => ?_) hs
  obtain ⟨m, hn⟩ := hn
  exact ⟨m, hn, fun h' hs' => ⟨.ref l, H', I'.turned (t' := s'.toks) (fun b o hb e => (hs'.2 b hb).trans e) G.none G.loc (.inr G.ab) G.cell G.pin, rfl, q'⟩⟩
def tSetComp (i : Nat) (wi : TI) (g : TG) (tt : TT) (te : TE) (own : Nat) (fi : List Nat) : TS := fun D σ H => tCompR wi g tt te own fi σ H fun l H' => D.nx (σ.set i (some (.ref l))) H'
theorem ps_setcomp {i : Nat} {y : Str} {py spos : Pos} (hnd : X.N.Nodup) (hy : X.N[i]? = some y) (hl : X.env.scope.names.lookup y = some .local) (S : CompScope NX SX scope N own fi) (hc : X.calm = true) (hi : PI X tg iter wi)
    (hg : ∀ ex s H, PG (X.comp scope N ex s H) tg g) (ht : ∀ ex s H, PIf (X.comp scope N ex s H) ifs tt)
    (he : ∀ ex s H, PE (X.comp scope N ex s H) elt te) (hN : X.N = NX := by rfl) (hS : X.env.scope = SX := by rfl) (hs : ∀ x, foldedSetIterable iter X.env x = pure x := by intro _; rfl)
    (hsw : swapsWith (.ListComp elt [⟨tg, iter, ifs, 0⟩] scope pos) (some (.Name y py)) spos.line X.env = pure true := by rfl) :
    PS X (.Assign [.Name y py] (.ListComp elt [⟨tg, iter, ifs, 0⟩] scope pos) spos) (tSetComp i wi g tt te own fi) := by
  intro pins s σ H D I h
  rw [exec_Assign_Name_used _ _ _ _ hsw]
  refine wpAny_bind (wpAny_standAt (wpAny_bind ?_))
  show wpAny _ X.A (do let _ ← comprehension (.ListComp elt [⟨tg, iter, ifs, 0⟩] scope pos) scope X.env _ (newList []) false (eval iter X.env) (some (assign (.Name y py) X.env))) _ _ s
  refine wpAny_bind (wpAny_mono (comp_walk (use := some (assign (.Name y py) X.env)) (QQ := fun _ s' => SP X pins D .next s') (R := fun l H' => D.nx (σ.set i (some (.ref l))) H') S hN hS hc hi hg ht he I h (fun l H' s' C I' q' hn G => ?_) hs)
    (fun _ s' hq => wpAny_pure (wpAny_pure hq)) fun _ _ e => e)
  obtain ⟨m, hn⟩ := hn
  show wpAny _ X.A (assign (.Name y py) X.env (.ref l)) _ _ _
  refine wpAny_assign_Name (store_ok2 I' hnd hy (.inl hl) (v := .ref l) rfl (fun s'' I'' hsb => ?_) (.inr hl))
  obtain ⟨a, hsb, ha⟩ := hsb
  have hCa : C ≠ a := by
    rcases ha with z | z
    · rw [z]; exact G.loc
    · exact Ne.symm (G.cell y a z)
  exact ⟨m, hn.sameBut hsb hCa, fun h' hs' => ⟨_, H', I''.turned (t' := s''.toks) (fun b o hb e => (hs'.2 b hb).trans e) G.none G.loc (.inr G.ab) G.cell G.pin, q'⟩⟩
end
end L2

set_option Elab.async false
set_option linter.all false
set_option maxRecDepth 100000
set_option maxHeartbeats 4000000
namespace L2
open PySem PySem.Spec PyProof.Rows

def Its (x : Str) : It := ⟨fun i _ => i < x.cps.size, fun i H v H' => H' = H ∧ ∃ c, x.cps[i]? = some c ∧ v = .str ⟨#[c]⟩, fun i _ => x.cps.size ≤ i⟩
theorem turn_str {P : Program} {w : World} {K : PySem.W.Frag} {tg : Expr} (it : Addr) (x : Str) (t : Tok) (ty : String) (hty : ty = "str_ascii_iterator" ∨ ty = "str_iterator") : Turn P w K tg (Its x) [it] it (fun i h => i ≤ x.cps.size ∧ h.IsStrIter it ty x t i) where
  mem := by simp
  obj := fun i h st b hb => by
    have e : b = it := by simpa using hb
    subst e
    obtain ⟨_, o, e, c, d⟩ := st
    exact ⟨o, e, fun v z => by rw [d] at z; cases z⟩
  keep := fun i h h' st k => by
    obtain ⟨hi, o, e, r⟩ := st
    exact ⟨hi, o, k it (by simp) o e, r⟩
  item := by
    intro X hP hw hK hc i pins s σ H E I hf st hg
    subst hP hw hK
    obtain ⟨f0, f1, f2, f3, f4, f5⟩ := hf it (by simp)
    have hg' : i < x.cps.size := hg
    have key : ∀ h' : Heap, h'.IsStrIter it ty x t (i + 1) → Heap.SameBut it s.heap h' → (fun r s1 => ∃ u, r = some u ∧
      wpAny (model X.prog X.w) X.A (letOwnedTupleGo tg (.ref it) u) (fun _ s2 => ∃ y H', Inv X pins σ H' s2 ∧ RelV y u ∧ (Its x).yld i H y H' ∧ (i + 1 ≤ x.cps.size ∧ s2.heap.IsStrIter it ty x t (i + 1)) ∧ ∀ b ∈ [it], H' b = none) E s1)
        (some (.str ⟨#[x.cps[i]]⟩ s.toks)) { s with heap := h', toks := s.toks + 1 } := fun h' st' sb => by
      have I1 : Inv X pins σ H { s with heap := h', toks := s.toks + 1 } := I.turned (fun b o hb e => (sb.2 b hb).trans e) f0 f1 f3 f4 f5
      obtain ⟨o, e, c, d⟩ := id st'
      refine ⟨_, rfl, go_of (s := { s with heap := h', toks := s.toks + 1 }) e c d ?_ ⟨.str ⟨#[x.cps[i]]⟩, H, I1, ⟨_, rfl⟩, ⟨rfl, _, by simp [hg'], rfl⟩, ⟨hg', st'⟩, fun b hb => (hf b hb).1⟩⟩
      rcases hty with rfl | rfl <;> decide
    rcases hty with rfl | rfl
    · exact wpAny_pyNext_ascii_item st.2 (c := x.cps[i]) (by simp [hg']) fun h' hit' hs' => key h' hit' hs'
    · exact wpAny_pyNext_wide_item st.2 (c := x.cps[i]) (by simp [hg']) fun h' hit' hs' => key h' hit' hs'
  done := by
    intro X hP hw hK hc i pins s σ H E I hf st hg
    subst hP hw hK
    obtain ⟨f0, f1, f2, f3, f4, f5⟩ := hf it (by simp)
    have hg' : x.cps.size ≤ i := hg
    rcases hty with rfl | rfl
    · exact wpAny_pyNext_ascii_end (I.ok.hd hc) st.2 (by simp [hg']) fun h' eb => ⟨rfl, I.turned (t' := s.toks) (fun b o hb e => eb b o hb e) f0 f1 f3 f4 f5⟩
    · exact wpAny_pyNext_wide_end (I.ok.hd hc) st.2 (by simp [hg']) fun h' eb => ⟨rfl, I.turned (t' := s.toks) (fun b o hb e => eb b o hb e) f0 f1 f3 f4 f5⟩
  self := fun _ _ _ _ _ st h => by
    rcases hty with rfl | rfl
    · exact wpAny_pyIter_striter_ascii st.2 h
    · exact wpAny_pyIter_striter_wide st.2 h
def iStr (tl : TE) : TI := fun σ H R => tl σ H fun x H1 => ∃ z, x = .str z ∧ R (Its z) H1
theorem pi_str {X : Cx} {tg l : Expr} {tl : TE} (hl : PE X l tl) : PI X tg l (iStr tl) := by
  intro pins s σ H R I h
  refine thn (hl pins s σ H _ I h) fun v s1 ⟨x, H1, I1, r1, q1⟩ => ?_
  obtain ⟨z, e, q⟩ := q1
  subst e
  obtain ⟨t, rfl⟩ := r1
  have key : ∀ (o : Obj) (ty : String), (ty = "str_ascii_iterator" ∨ ty = "str_iterator") → (s1.heap.push o).IsStrIter s1.heap.objs.size ty z t 0 → PIE X pins σ tg R (.ref s1.heap.objs.size) { s1 with heap := s1.heap.push o } := fun o ty hty st => by
    refine ⟨s1.heap.objs.size, [s1.heap.objs.size], _, _, H1, rfl, I1.kept (t' := s1.toks) fun b o e => Heap.get?_push_of_some _ e, turn_str _ z t ty hty, ⟨Nat.zero_le _, st⟩, fun b hb => ?_, q⟩
    have e : b = s1.heap.objs.size := by simpa using hb
    subst e
    exact I1.fpOk (Nat.le_refl _) (I1.hok.fresh (Nat.le_refl _))
  cases ha : z.cps.all (· < 128)
  · exact wpAny_pyIter_wide ha (key _ _ (.inr rfl) ⟨_, Heap.get?_push_size _ rfl, rfl, rfl⟩)
  · exact wpAny_pyIter_ascii ha (key _ _ (.inl rfl) ⟨_, Heap.get?_push_size _ rfl, rfl, rfl⟩)

section
variable {X : Cx}
theorem call_isinst : CallR X (.builtin "isinstance") (fun xs H Q => ∃ x n t b, xs = [x, .ty n] ∧ TyOf X.K H x t ∧ PySem.W.kitOne X.K t (.type n) = some b ∧ Q (.bl b) H) := by
  intro pins s σ H xs us Q I r h
  obtain ⟨x, n, t, b, rfl, ty, e, q⟩ := h
  obtain ⟨u, c, rfl, ru, rc⟩ := Vals.two r
  cases rc
  exact isinst_ok I ru ty e fun tk => ⟨.bl b, H, I.tok tk, rfl, q⟩

theorem op_fdivB : OpR X (binaryOp .FloorDiv) (rI (fun _ j => 0 < j ∧ j < 2 ^ 200) fun i j => .int (i / j)) := opI fun i j _ _ _ _ _ hc q => by
  have h1 : (0 : Int) < j := hc.1
  have h2 : j < 2 ^ 200 := hc.2
  refine floordiv_int (by omega) (by rw [Int.fdiv_eq_ediv_of_nonneg i (by omega)]; exact q) (.inl (PyProof.noPylong_of_log2 ?_))
  have h3 : j.natAbs < 2 ^ 200 := by
    have e : ((2 : Int) ^ 200) = (((2 : Nat) ^ 200 : Nat) : Int) := by norm_cast
    rw [e] at h2
    omega
  have h4 : j.natAbs ≠ 0 := by omega
  exact Nat.lt_trans ((Nat.log2_lt h4).mpr h3) (by decide)
end

section
variable {K : PySem.W.Frag} {g : TG} {tt : TT} {te : TE} {σ0 : St} {H1 : Hp} {l : Addr} {R : Hp → Prop}
end
example (K : PySem.W.Frag) : PySem.W.kitOne K (.type "bool") (.type "int") = some true := by rfl
example (K : PySem.W.Frag) : PySem.W.kitOne K (.type "dict") (.type "int") = some false := by rfl
end L2

set_option Elab.async false
set_option linter.all false
set_option maxRecDepth 100000
set_option maxHeartbeats 4000000
namespace L2
open PySem PySem.Spec PyProof.Rows

section
variable {X : Cx}
def rAddS : R2 := fun x y H Q => ∃ i j, x = .str i ∧ y = .str j ∧ i.length + j.length ≤ sizeLine ∧ Q (.str (i ++ j)) H
def rAddG (K : PySem.W.Frag) : R2 := fun x y H Q => (rI0 fun i j => .int (i + j)) x y H Q ∨ rAddS x y H Q ∨ rCat x y H Q ∨ rCatT K x y H Q
theorem op_addG : OpR X (binaryOp .Add) (rAddG X.K) := op_add.or (op_add_str.or (op_cat.or op_catT))
def rMulG : R2 := fun x y H Q => (rI CMul fun i j => .int (i * j)) x y H Q ∨ rRep x y H Q
theorem op_mulG : OpR X (binaryOp .Mult) rMulG := op_mul.or op_rep
def rNotInS : R2 := fun x y H Q => ∃ i j, x = .str i ∧ y = .str j ∧ Q (.bl (!(!(Builtin.Str.occurrences j i 0 j.length 1).isEmpty))) H
theorem PI.or {tg l : Expr} {wi wi' : TI} (h : PI X tg l wi) (h' : PI X tg l wi') : PI X tg l (fun σ H R => wi σ H R ∨ wi' σ H R) := by
  intro pins s σ H R I q
  rcases q with q | q
  · exact h pins s σ H R I q
  · exact h' pins s σ H R I q
def iSeq (K : PySem.W.Frag) (tl : TE) : TI := fun σ H R => iList K tl σ H R ∨ iTup K tl σ H R ∨ iStr tl σ H R
theorem pi_seq {tg l : Expr} {tl : TE} (hl : PE X l tl) : PI X tg l (iSeq X.K tl) := (pi_list hl).or ((pi_tup hl).or (pi_str hl))
def rLenG (K : PySem.W.Frag) : List V → Hp → VK → Prop := fun xs H Q => ∃ x n, xs = [x] ∧ LenV K x H n ∧ Q (.int n) H
theorem call_lenG : CallR X (.builtin "len") (rLenG X.K) := call_len
end

section
variable {X : Cx} {K : PySem.W.Frag}
theorem op_addK (h : X.K = K) : OpR X (binaryOp .Add) (rAddG K) := h ▸ op_addG
theorem ix_seqK (h : X.K = K) : IxR X (rIx K) := h ▸ ix_seq
theorem pi_seqK {tg l : Expr} {tl : TE} (h : X.K = K) (hl : PE X l tl) : PI X tg l (iSeq K tl) := h ▸ pi_seq hl
theorem call_lenK (h : X.K = K) : CallR X (.builtin "len") (rLenG K) := h ▸ call_lenG
def rIsinst (K : PySem.W.Frag) : List V → Hp → VK → Prop := fun xs H Q => ∃ x n t b, xs = [x, .ty n] ∧ TyOf K H x t ∧ PySem.W.kitOne K t (.type n) = some b ∧ Q (.bl b) H
theorem call_isinstK (h : X.K = K) : CallR X (.builtin "isinstance") (rIsinst K) := h ▸ call_isinst
def rListOf (K : PySem.W.Frag) : List V → Hp → VK → Prop := fun xs H Q => ∃ p ys, xs = [.ref p] ∧ (SqL K H p ys ∨ SqT K H p ys) ∧ ∀ l, H l = none → Q (.ref l) (upd H l (.lst ys))
theorem call_listK (h : X.K = K) : CallR X (.type "list") (rListOf K) := h ▸ call_list_of
variable {T id : String} {name : Str} {r : V → List V → Hp → VK → Prop} {o e : Expr} {es : List Expr} {to : TE} {t : TA} {apos cpos pos : Pos}
theorem pe_bmK (h : X.K = K) (pa : PlainAttrs T) (slot : Slot T name id) (hty : typeOf (.builtin id) = pure (.type "method_descriptor")) (hm : MtR X id r) (ho : PE X o to) (ha : PA X (e :: es) t)
    (hbase : attributeBase o name X.env (eval o X.env) = eval o X.env := by rfl)
    (hfew : ((backTo cpos (starEach (e :: es) X.env)).all (fun x => !x.1) && (backToKw cpos (keywordEach [] X.env)).all (fun x => x.1.isSome)
      && decide ((e :: es).length + ([] : List Keyword).length + (if ([] : List Keyword).isEmpty then 0 else 1) < 30)) = true := by rfl)
    (hline : (apos.endLine == cpos.line) = true := by rfl) (hs : starEach (e :: es) X.env = (false, eval e X.env) :: starEach es X.env := by rfl) (hplain : (backTo cpos (starEach es X.env)).any (·.1) = false := by rfl) :
    PE X (.Call (.Attribute o name apos) (e :: es) [] cpos) (tBM K T r to t) := h ▸ pe_bm pa slot hty hm ho ha hbase hfew hline hs hplain
end

section
variable {K : PySem.W.Frag} {σ : St} {H : Hp} {Q : VK} {v x y : V} {i j : Int} {ta tb : TE} {D : Ends}
theorem len_str {z : Str} (h : z.length ≤ sizeLine) : LenV K (.str z) H z.length := ⟨h, rfl⟩
end
end L2

set_option Elab.async false
set_option linter.all false
set_option maxRecDepth 100000
set_option maxHeartbeats 4000000
namespace L2
open PySem PySem.Spec PyProof.Rows

mutual
inductive DAt (K : PySem.W.Frag) (H : Hp) : V → PyData → Prop
  | non : DAt K H .non .none
  | bl (b : Bool) : DAt K H (.bl b) (.bool b)
  | int (i : Int) : DAt K H (.int i) (.int i)
  | str (x : Str) : DAt K H (.str x) (.str x)
  | lst {a : Addr} {xs : List V} {ds : List PyData} (h : SqL K H a xs) (r : DAts K H xs ds) : DAt K H (.ref a) (.list ds)
  | tup {a : Addr} {xs : List V} {ds : List PyData} (h : SqT K H a xs) (r : DAts K H xs ds) : DAt K H (.ref a) (.tuple ds)
inductive DAts (K : PySem.W.Frag) (H : Hp) : List V → List PyData → Prop
  | nil : DAts K H [] []
  | cons {x : V} {d : PyData} {xs : List V} {ds : List PyData} (h : DAt K H x d) (r : DAts K H xs ds) : DAts K H (x :: xs) (d :: ds)
end
section
variable {X : Cx} {pins : List (Addr × Obj)} {σ : St} {H : Hp} {s : Shared}
mutual
theorem Inv.reads (I : Inv X pins σ H s) : ∀ {x : V} {d : PyData} {u : Value}, DAt X.K H x d → RelV x u → ∃ as, Reads s.heap u d as
  | _, _, _, .non, r => by cases r; exact ⟨_, .none⟩
  | _, _, _, .bl b, r => by cases r; exact ⟨_, .bool b⟩
  | _, _, _, .int i, r => by obtain ⟨t, rfl⟩ := r; exact ⟨_, .int i t⟩
  | _, _, _, .str x, r => by obtain ⟨t, rfl⟩ := r; exact ⟨_, .str x t⟩
  | _, _, _, .lst h q, r => by
    cases r
    obtain ⟨its, rv, ⟨o, n, e, c, _, d⟩, _⟩ := I.list h
    obtain ⟨as, ra⟩ := Inv.readsAll I q rv
    exact ⟨_, .list e c d (by simpa using ra)⟩
  | _, _, _, .tup h q, r => by
    cases r
    obtain ⟨its, rv, ⟨o, e, c, n, d⟩, _⟩ := I.tuple h
    obtain ⟨as, ra⟩ := Inv.readsAll I q rv
    exact ⟨_, .tuple e c d (by simpa using ra)⟩
theorem Inv.readsAll (I : Inv X pins σ H s) : ∀ {xs : List V} {ds : List PyData} {us : List Value}, DAts X.K H xs ds → Vals xs us → ∃ as, ReadsAll s.heap us ds as
  | _, _, _, .nil, .nil => ⟨_, .nil⟩
  | _, _, _, .cons h r, .cons v t => by
    obtain ⟨as, ra⟩ := Inv.reads I h v
    obtain ⟨bs, rb⟩ := Inv.readsAll I r t
    exact ⟨_, .cons ra rb⟩
end
end
theorem Room.c64 {k : Nat} {A : Around} (r : Room k A) : A.units + 65 < cLine := by have := r.un; omega
def rEqD (K : PySem.W.Frag) : R2 := fun x y H Q => ∃ da db, DAt K H x da ∧ DAt K H y db ∧ SeqAt.shaped da = true ∧ SeqAt.shaped db = true ∧ Q (.bl (PyData.eqv da db)) H
def rNeD (K : PySem.W.Frag) : R2 := fun x y H Q => ∃ da db, DAt K H x da ∧ DAt K H y db ∧ SeqAt.shaped da = true ∧ SeqAt.shaped db = true ∧ Q (.bl (!PyData.eqv da db)) H
def rNotInD (K : PySem.W.Frag) : R2 := fun x y H Q => ∃ ds d, (DAt K H y (.list ds) ∨ DAt K H y (.tuple ds)) ∧ DAt K H x d ∧ SeqAt.shaped (.list ds) = true ∧ SeqAt.shaped d = true ∧ Q (.bl (!(ds.any fun e => PyData.eqv e d))) H
section
variable {X : Cx} {K : PySem.W.Frag}
theorem op_eqD (hK : X.K = K) (hu : X.A.units + 65 < cLine) : OpR X (compareOp .Eq) (rEqD K) := by
  subst hK
  intro pins s σ H x y v u Q I rx ry h
  obtain ⟨da, db, ha, hb, sa, sb, q⟩ := h
  obtain ⟨as, ra⟩ := I.reads ha rx
  obtain ⟨bs, rb⟩ := I.reads hb ry
  exact eq_dataH ra rb sa sb (by omega) ⟨.bl _, H, I, rfl, q⟩
theorem op_neD (hK : X.K = K) (hu : X.A.units + 65 < cLine) : OpR X (compareOp .NotEq) (rNeD K) := by
  subst hK
  intro pins s σ H x y v u Q I rx ry h
  obtain ⟨da, db, ha, hb, sa, sb, q⟩ := h
  obtain ⟨as, ra⟩ := I.reads ha rx
  obtain ⟨bs, rb⟩ := I.reads hb ry
  exact ne_dataH ra rb sa sb (by omega) ⟨.bl _, H, I, rfl, q⟩
theorem op_notInD (hK : X.K = K) (hu : X.A.units + 65 < cLine) : OpR X (compareOp .NotIn) (rNotInD K) := by
  subst hK
  intro pins s σ H x y v u Q I rx ry h
  obtain ⟨ds, d, hc, hd, sa, sb, q⟩ := h
  obtain ⟨bs, rb⟩ := I.reads hd rx
  rcases hc with hc | hc
  · obtain ⟨as, ra⟩ := I.reads hc ry
    exact SeqAt.notIn_list_reads ra rb (SeqAt.canLay_of_shaped sa) (SeqAt.canLay_of_shaped sb) (room_in_shaped sb hu) ⟨.bl _, H, I, rfl, q⟩
  · obtain ⟨as, ra⟩ := I.reads hc ry
    exact SeqAt.notIn_tuple_reads ra rb (by have := SeqAt.canLay_of_shaped sa; simpa [PyData.canLay0] using this) (SeqAt.canLay_of_shaped sb) (room_in_shaped sb hu) ⟨.bl _, H, I, rfl, q⟩

def rSlS : V → Option Int → Option Int → Hp → VK → Prop := fun x lo hi H Q => ∃ z, x = .str z ∧ z.length ≤ sizeLine ∧ Q (.str (Txt.slice z lo hi)) H
theorem sl_str : SlR X rSlS := by
  intro pins s σ H x v vl vu lo hi sl Q I rx hs pl pu h
  obtain ⟨z, rfl, hz, q⟩ := h
  obtain ⟨t, rfl⟩ := rx
  refine ⟨"str", _, F.slot_str_getitem.lookup, typeIs_str _ _ _, ?_⟩
  have fin : ∀ t' k, EP X pins σ Q (.str (Txt.slice z lo hi) t') { s with toks := k } := fun t' k => ⟨.str _, H, I.tok k, ⟨t', rfl⟩, q⟩
  cases pl with
  | none => cases pu with
    | none => exact wpAny_getItem_str_slice (l := none) (u := none) (st := none) hs rfl (post_val_or_str ⟨Nat.le_trans (Txt.slice_le z _ _) hz, fin⟩)
    | int j uj => exact wpAny_getItem_str_slice (l := none) (u := some (j, uj)) (st := none) hs rfl (post_val_or_str ⟨Nat.le_trans (Txt.slice_le z _ _) hz, fin⟩)
  | int i ui => cases pu with
    | none => exact wpAny_getItem_str_slice (l := some (i, ui)) (u := none) (st := none) hs rfl (post_val_or_str ⟨Nat.le_trans (Txt.slice_le z _ _) hz, fin⟩)
    | int j uj => exact wpAny_getItem_str_slice (l := some (i, ui)) (u := some (j, uj)) (st := none) hs rfl (post_val_or_str ⟨Nat.le_trans (Txt.slice_le z _ _) hz, fin⟩)

theorem meets_len_raw {prog : Program} {w : World} {d : Addr} (hd : (d == sysModules) = false) :
    MeetsIn prog w (Builtin.«dict.__len__» ⟨[.ref d], []⟩) (fun _ R s => ∃ o es ep, s.heap.get? d = some o ∧ o.data = .dict es ep ∧ R (.ok (.ret (.int es.size s.toks))) { s with toks := s.toks + 1 }) :=
  .of_wp fun A R s ⟨o, es, ep, ho, hdat, h⟩ => by
    show wpAny _ _ (dictSize d >>= _) _ _ s
    unfold dictSize
    refine wpAny_bind (wpAny_bind (wpAny_dictEntries ho hdat (wpAny_pure ?_)))
    show wpAny _ _ (Builtin.Dict.pendingCount d >>= _) _ _ s
    refine wpAny_bind (wpAny_pendingCount_other hd ?_)
    refine wpAny_ret_mkInt ?_
    simpa using h
theorem len_raw {prog : Program} {w : World} {A : Around} {E : Value → Shared → Prop} {s : Shared} {d : Addr} {o : Obj} {es : Array DictEntry} {ep : Nat} {Q : Value → Shared → Prop} (hd : (d == sysModules) = false) (ho : s.heap.get? d = some o) (hc : o.cls = .type "dict") (hdat : o.data = .dict es ep) (hfit : (es.size : Int) < 2 ^ 63)
    (h : Q (.int es.size (s.toks + 1)) { s with toks := s.toks + 1 + 1 }) : wpAny (model prog w) A (call (.builtin "len") [.ref d]) Q E s := by
  have ht : s.TypeIs (.ref d) "dict" := ⟨o, ho, hc⟩
  refine Calls.call_function_entry kind_len plain_len entry_len (args_len1 _) ?_
  unfold Builtin.«len»
  refine wpAny_bind (m := oneArg "len" _) (wpAny_pure ?_)
  refine wpAny_bind (m := callSpecial? (.ref d) (Str.ofString "__len__")) (wpAny_callSpecial?_slot (name := Str.ofString "__len__") ht F.slot_dict_len
    (call_meetsIn F.slot_dict_len ht F.entry_dict_len (F.args_dict_len_1 _) (meets_len_raw hd) ⟨o, es, ep, ho, hdat, ?_⟩))
  show wpAny _ _ _ _ _ { s with toks := s.toks + 1 }
  refine wpAny_bind (wpAny_holding (wpAny_pure ?_))
  refine wpAny_bind (wpAny_letGo ?_)
  show wpAny _ _ (if ((es.size : Nat) : Int) < 0 then _ else _) _ _ _
  rw [if_neg (by omega)]
  show wpAny _ _ (if ((es.size : Nat) : Int) ≥ 2 ^ 63 then _ else _) _ _ _
  rw [if_neg (by omega)]
  exact wpAny_bind (wpAny_mkInt (wpAny_pure ⟨_, rfl, h⟩))
def rLenT : List V → Hp → VK → Prop := fun xs H Q => ∃ a kvs, xs = [V.ref a] ∧ H a = some (.dT kvs) ∧ Q (.int kvs.length) H
theorem call_lenT : CallR X (.builtin "len") rLenT := by
  intro pins s σ H xs us Q I r h
  obtain ⟨a, kvs, rfl, ha, q⟩ := h
  obtain ⟨u, rfl, ru⟩ := vals1 r
  cases ru
  obtain ⟨z, hd, xs, rel, o, es, ep, h1, h2, h3, h4, _⟩ := dt_of I.hok ha
  have hl : es.size = kvs.length := by
    have e1 : es.toList.length = xs.length := by rw [h4, List.length_map]
    have e2 : kvs.length = xs.length := Paired.length rel
    rw [Array.length_toList] at e1
    omega
  refine len_raw hd h1 h2.1 h3 (by rw [hl]; rw [sizeLine_eq] at z; omega) ?_
  rw [hl]
  exact ⟨.int kvs.length, H, I.tok _, ⟨_, rfl⟩, q⟩
end

section
variable {X : Cx} {K : PySem.W.Frag}
def rNotInE (K : PySem.W.Frag) : R2 := fun x y H Q => rNotInS x y H Q ∨ rNotInD K x y H Q
theorem op_notInE (hK : X.K = K) (hu : X.A.units + 65 < cLine) : OpR X (compareOp .NotIn) (rNotInE K) := op_notIn_str.or (op_notInD hK hu)
def rLenE (K : PySem.W.Frag) : List V → Hp → VK → Prop := fun xs H Q => rLenG K xs H Q ∨ rLenT xs H Q
theorem call_lenE (hK : X.K = K) : CallR X (.builtin "len") (rLenE K) := (call_lenK hK).or call_lenT
def rSlE (K : PySem.W.Frag) : V → Option Int → Option Int → Hp → VK → Prop := fun x lo hi H Q => rSlS x lo hi H Q ∨ rSlL K x lo hi H Q ∨ rSlT K x lo hi H Q
theorem sl_seqE (hK : X.K = K) : SlR X (rSlE K) := by
  subst hK
  exact sl_str.or (sl_list.or sl_tup)
end
section
variable {K : PySem.W.Frag} {σ : St} {H : Hp} {Q : VK} {v x y : V} {i j : Int} {ta tb : TE} {D : Ends} {p : Addr} {xs : List V}
end
end L2

set_option Elab.async false
set_option linter.all false
set_option maxRecDepth 100000
set_option maxHeartbeats 4000000
namespace L2
open PySem PySem.Spec PyProof.Rows
section
variable {prog : Program} {w : World} {A : Around} {E : Value → Shared → Prop} {s : Shared}
def RawD (h : Heap) (d : Addr) (es : Array DictEntry) (ep : Nat) : Prop := ∃ o, h.get? d = some o ∧ o.cls = .type "dict" ∧ o.data = .dict es ep
theorem RawD.at {h h' : Heap} {d : Addr} {es : Array DictEntry} {ep : Nat} (r : RawD h d es ep) (k : ∀ o, h.get? d = some o → h'.get? d = some o) : RawD h' d es ep := let ⟨o, e, q⟩ := r; ⟨o, k o e, q⟩
theorem raw_iter {d : Addr} {es : Array DictEntry} {ep : Nat} {Q : Value → Shared → Prop} (nd : (d == sysModules) = false) (r : RawD s.heap d es ep)
    (q : Q (.ref s.heap.objs.size) { s with heap := s.heap.push { cls := .type "dict_keyiterator", data := .fields #[.ref d, .int 0 0, .int es.size 0, .int ep 0] } }) : wpAny (model prog w) A (pyIter (.ref d)) Q E s := by
  obtain ⟨ob, e1, e2, e3⟩ := r
  have ty : s.TypeIs (.ref d) "dict" := ⟨ob, e1, e2⟩
  refine wpAny_pyIter_slot ty F.slot_dict_iter (wpAny_call_entry F.slot_dict_iter ty F.entry_dict_iter ?_ (F.args_dict_iter_1 _)); unfold Builtin.«dict.__iter__»
  refine wpAny_bind ?_; unfold Builtin.Dict.dictSlotNone
  refine wpAny_bind (wpAny_notOrdered_dict ty ?_); show wpAny _ _ (pure (Value.ref d)) _ _ s
  refine wpAny_pure ?_; show wpAny _ _ (Builtin.Dict.showsAll d >>= _) _ _ s; unfold Builtin.Dict.showsAll; rw [if_neg (by rw [nd]; exact Bool.false_ne_true)]
  refine wpAny_bind (wpAny_pure (wpAny_bind (wpAny_dictEntries e1 e3 (wpAny_bind (wpAny_dictEpoch e1 e3 ?_)))))
  refine wpAny_bind (wpAny_newObj_type (wpAny_pure ⟨_, rfl, "dict_keyiterator", _, ⟨_, Heap.get?_push_size _ rfl, rfl⟩, F.slot_dict_keyiterator_next.lookup, by simpa [rawInt] using q⟩))
theorem raw_next {it d : Addr} {i ep : Nat} {es : Array DictEntry} {Q : Option Value → Shared → Prop} (hi : s.heap.IsKeyIter it d i es.size ep) (r : RawD s.heap d es ep) (lt : i < es.size)
    (q : ∀ h', h'.IsKeyIter it d (i + 1) es.size ep → Heap.SameBut it s.heap h' → Q (some es[i].key) { s with heap := h' }) : wpAny (model prog w) A (pyNext (.ref it)) Q E s := by
  obtain ⟨oi, f1, f2, f3⟩ := id hi
  obtain ⟨ob, e1, e2, e3⟩ := r
  unfold pyNext; refine wpAny_bind (wpAny_attempt (wpAny_callSpecial?_slot (name := Str.ofString "__next__") hi.typeIs F.slot_dict_keyiterator_next (wpAny_call_entry F.slot_dict_keyiterator_next hi.typeIs F.entry_dict_keyiterator_next ?_ (F.args_dict_keyiterator_next_1 _))))
  refine wpAny_bind (wpAny_pure (wpAny_bind (wpAny_bind ?_)))
  first | (refine wpAny_bind (wpAny_typeNameOfWhole_keyiter hi.typeIs (wpAny_pure ?_)); skip) | (refine wpAny_bind (wpAny_typeNameOf_keyiter hi.typeIs (wpAny_pure ?_)); skip)
  refine wpAny_bind (wpAny_fieldsOf f1 f3 ?_)
  simp only [show Builtin.Dict_items.ownsTuple "dict_keyiterator" = false by decide, Bool.false_eq_true, if_false]; show wpAny _ _ (if (Value.ref d == Value.none) = true then _ else _) _ _ s
  rw [if_neg (by exact Bool.false_ne_true : ¬ ((Value.ref d == Value.none) = true))]
  refine wpAny_bind (wpAny_pure (wpAny_bind (wpAny_dictEntries e1 e3 ?_))); rw [if_neg (by simp)]
  refine wpAny_bind (wpAny_pure (wpAny_bind (wpAny_dictEpoch e1 e3 ?_))); rw [if_neg (by simp)]
  refine wpAny_pure ?_; simp only [show ¬ ((i : Int) < 0) by omega, if_false, Int.toNat_natCast, Array.getElem?_eq_getElem lt]
  refine wpAny_bind ?_; first | (refine wpAny_bind (wpAny_typeNameOfWhole_keyiter hi.typeIs (wpAny_pure ?_)); skip) | (refine wpAny_bind (wpAny_typeNameOf_keyiter hi.typeIs (wpAny_pure ?_)); skip)
  refine wpAny_bind (wpAny_isOneOf_keyiter hi.typeIs ?_); show wpAny _ _ (setField (.ref it) 1 (rawInt ((i : Int) + 1)) >>= _) _ _ s
  refine wpAny_bind (wpAny_setField f1 f3 (by simp) ?_)
  have hi' : (s.heap.update it (Obj.mapFields (·.setIfInBounds 1 (rawInt ((i : Int) + 1))))).IsKeyIter it d (i + 1) es.size ep := ⟨_, Heap.get?_update_self _ f1 (Obj.isFreed_of_fields (Obj.data_mapFields f3 _)), (Obj.cls_mapFields ..).trans f2, by rw [Obj.data_mapFields f3]; simp [rawInt]⟩
  refine wpAny_bind (wpAny_holding (wpAny_bind (wpAny_isOneOf_keyiter (s := { s with heap := s.heap.update it (Obj.mapFields (·.setIfInBounds 1 (rawInt ((i : Int) + 1)))) }) hi'.typeIs ?_))); show wpAny _ _ (pure es[i].key) _ _ _
  exact wpAny_pure (wpAny_pure ⟨_, rfl, wpAny_pure (q _ hi' (Heap.SameBut.update ..))⟩)
theorem raw_end {it d : Addr} {ep : Nat} {es : Array DictEntry} {Q : Option Value → Shared → Prop} (hh : A.handled = none) (hi : s.heap.IsKeyIter it d es.size es.size ep) (r : RawD s.heap d es ep)
    (q : ∀ h', Heap.ExtBut it s.heap h' → Q none { s with heap := h' }) : wpAny (model prog w) A (pyNext (.ref it)) Q E s := by
  obtain ⟨oi, f1, f2, f3⟩ := id hi
  obtain ⟨ob, e1, e2, e3⟩ := r
  unfold pyNext; refine wpAny_bind (wpAny_attempt (wpAny_callSpecial?_slot (name := Str.ofString "__next__") hi.typeIs F.slot_dict_keyiterator_next (wpAny_call_entry F.slot_dict_keyiterator_next hi.typeIs F.entry_dict_keyiterator_next ?_ (F.args_dict_keyiterator_next_1 _))))
  refine wpAny_bind (wpAny_pure (wpAny_bind (wpAny_bind ?_)))
  first | (refine wpAny_bind (wpAny_typeNameOfWhole_keyiter hi.typeIs (wpAny_pure ?_)); skip) | (refine wpAny_bind (wpAny_typeNameOf_keyiter hi.typeIs (wpAny_pure ?_)); skip)
  refine wpAny_bind (wpAny_fieldsOf f1 f3 ?_)
  simp only [show Builtin.Dict_items.ownsTuple "dict_keyiterator" = false by decide, Bool.false_eq_true, if_false]; show wpAny _ _ (if (Value.ref d == Value.none) = true then _ else _) _ _ s
  rw [if_neg (by exact Bool.false_ne_true : ¬ ((Value.ref d == Value.none) = true))]
  refine wpAny_bind (wpAny_pure (wpAny_bind (wpAny_dictEntries e1 e3 ?_))); rw [if_neg (by simp)]
  refine wpAny_bind (wpAny_pure (wpAny_bind (wpAny_dictEpoch e1 e3 ?_))); rw [if_neg (by simp)]
  refine wpAny_pure ?_; simp only [show ¬ ((es.size : Int) < 0) by omega, if_false, Int.toNat_natCast, Array.getElem?_eq_none (Nat.le_refl es.size)]
  refine wpAny_bind ?_; first | (refine wpAny_bind (wpAny_typeNameOfWhole_keyiter hi.typeIs (wpAny_pure ?_)); skip) | (refine wpAny_bind (wpAny_typeNameOf_keyiter hi.typeIs (wpAny_pure ?_)); skip)
  show wpAny _ _ (setField (.ref it) 0 .none >>= _) _ _ s; refine wpAny_bind (wpAny_setField f1 f3 (by simp) ?_)
  show wpAny _ _ (newExc (.type "StopIteration") [] >>= _) _ _ _; refine wpAny_bind ?_; simp only [newExc, newTuple]
  refine wpAny_bind (wpAny_newObj_type ?_ (by size_fits)); refine wpAny_bind (m := firstArgMember _ _) (wpAny_of_eq (a := Value.none) (by first | rfl | (simp only [firstArgMember]; rfl)) ?_)
  refine wpAny_newObj_type ?_ (by size_fits); simp only [raiseNew]; refine wpAny_bind (wpAny_handled ?_); rw [show A.in1.handled = none from hh]
  refine wpAny_bind (wpAny_pure (wpAny_throw ?_)); refine wpAny_bind (wpAny_isInstance (T := "StopIteration") (b := true) ⟨_, Heap.get?_push_size _ rfl, rfl⟩ isSubtype_stop ?_)
  exact wpAny_pure (q _ (((Heap.SameBut.update ..).extBut.push _).push _))
theorem raw_walks (hh : A.handled = none) (I d : Addr) (ne : d ≠ I) (es : Array DictEntry) (ep : Nat) : PySem.Walks prog w A I [I, d] [I] es.size (fun i v => ∃ e, es[i]? = some e ∧ v = e.key) (fun i h => h.IsKeyIter I d i es.size ep ∧ RawD h d es ep) where
  sub := fun b hb => by simp at hb; simp [hb]
  frame := fun _ _ _ st k => ⟨st.1.at fun o e => k I (by simp) o e, st.2.at fun o e => k d (by simp) o e⟩
  item := fun i s Q E lt st hQ => raw_next st.1 st.2 lt fun h' hi' hs' => hQ _ h' s.toks ⟨es[i], by simp [lt], rfl⟩ ⟨hi', st.2.at fun o e => hs'.extBut d o ne e⟩ fun b o hb e => hs'.extBut b o (fun z => hb (by simp [z])) e
  done := fun s Q E st hQ => raw_end hh st.1 st.2 fun h' he' => hQ h' s.toks fun b o hb e => he' b o (fun z => hb (by simp [z])) e
  self := fun _ _ _ _ st hQ => wpAny_pyIter_keyiter st.1 hQ
theorem raw_hint {d : Addr} {es : Array DictEntry} {ep : Nat} {Q : Bool → Shared → Prop} (r : RawD s.heap d es ep) (q : Q false s) : wpAny (model prog w) A (Builtin.List.listLengthHint (.ref d)) Q E s := by
  obtain ⟨ob, e1, e2, e3⟩ := id r
  have ty : s.TypeIs (.ref d) "dict" := ⟨ob, e1, e2⟩
  unfold Builtin.List.listLengthHint; refine wpAny_bind (wpAny_specialOf ty F.slot_dict_len.lookup ?_)
  generalize hid : ("dict.__len__" : String) = id0; wp_delta
  rw [show splitId id0 = some ("dict", "__len__") from by subst hid; decide +kernel]; subst hid
  refine wpAny_bind (wpAny_isInstance (T := "dict") (b := true) ty (by rw [isSubtype_type]; kernel_rfl) ?_)
  refine wpAny_ite_split (fun hab => absurd hab (by decide)) (fun _ => wpAny_ite_split (fun _ => ?_) (fun hab => absurd (by decide +kernel) hab))
  exact wpAny_bind (wpAny_typeOf ty (wpAny_pure q))
theorem raw_extend {R : Result → Shared → Prop} {d : Addr} {es : Array DictEntry} {ep : Nat} (hh : A.handled = none) (nd : (d == sysModules) = false) (r : RawD s.heap d es ep) (z : es.size ≤ sizeLine) (S : Addr) (c₀ : Nat) (hS : s.heap.get? S = some { cls := .type "list", data := .seq #[] c₀ })
    (hR : ∀ h' tk acc' c', (∀ b o, b ≠ S → s.heap.get? b = some o → h'.get? b = some o) → h'.get? S = some { cls := .type "list", dict := none, data := .seq acc' c', slots := #[] } → ItemsOf (fun i v => ∃ e, es[i]? = some e ∧ v = e.key) acc' es.size → R (.ok (.ret .none)) { s with heap := h', toks := tk }) :
    wpAny (model prog w) A.in1 (Builtin.List.listExtendWith (.ref S) (.ref d) .none) (fun fin s' => match fin with | .done f => R (.ok f) s' | .again c' => c'.quiet = true ∧ codeAny (model prog w) A c' R s') (fun e s' => R (.error e) s') s := by
  obtain ⟨ob, e1, e2, e3⟩ := id r
  have nSd : S ≠ d := fun e => by rw [e, e1] at hS; cases hS; exact absurd (show Value.type "list" = Value.type "dict" from e2) (by decide)
  have nSI : S ≠ s.heap.objs.size := Nat.ne_of_lt (Heap.lt_size hS)
  have ndI : d ≠ s.heap.objs.size := Nat.ne_of_lt (Heap.lt_size e1)
  have nSf : S ∉ [s.heap.objs.size, d] := by simp [nSd, nSI]
  have W := (raw_walks (prog := prog) (w := w) (A := A.in1) hh s.heap.objs.size d ndI es ep).toS
  have key : ∀ (h : Heap) (c₁ tk : Nat), (h.IsKeyIter s.heap.objs.size d 0 es.size ep ∧ RawD h d es ep) → (∀ b o, b ≠ S → s.heap.get? b = some o → h.get? b = some o) → h.get? S = some { cls := .type "list", data := .seq #[] c₁ } →
      codeAny (model prog w) A (.builtin "list.extend.loop" ⟨[.ref S, .ref s.heap.objs.size, .none], []⟩) R { s with heap := h, toks := tk } := fun h c₁ tk hit hk hS₁ => by
    refine codeAny_extend_loopS W z S nSf .none es.size 0 _ #[] c₁ rfl (Nat.zero_le _) hit hS₁ (ItemsOf.nil _) fun s' acc' c' hm hS' hacc => ?_
    rw [Moved.eq_with hm]; refine hR s'.heap s'.toks acc' c' (fun b o hb e => hm.heap b o (fun hmem => ?_) (hk b o hb e)) hS' hacc
    rcases List.mem_cons.mp hmem with e' | hmem
    · exact hb e'
    · rw [List.mem_singleton] at hmem; subst hmem; exact absurd (Heap.lt_size e) (Nat.lt_irrefl _)
  unfold Builtin.List.listExtendWith; refine wpAny_bind (wpAny_typeOf (T := "dict") ⟨ob, e1, e2⟩ ?_)
  simp only [show Builtin.List.listSameRef (.ref S) (.ref d) = false by simp [Builtin.List.listSameRef, nSd], show (Value.type "dict" == Value.type "list") = false by decide, show (Value.type "dict" == Value.type "tuple") = false by decide, Bool.or_false, Bool.false_eq_true, if_false]
  refine wpAny_bind (raw_iter nd r ?_)
  have r₁ : RawD (s.heap.push { cls := .type "dict_keyiterator", data := .fields #[.ref d, .int 0 0, .int es.size 0, .int ep 0] }) d es ep := r.at fun o e => Heap.get?_push_of_some _ e
  refine wpAny_bind (wpAny_holding (raw_hint r₁ ?_))
  have i₁ : (s.heap.push { cls := .type "dict_keyiterator", data := .fields #[.ref d, .int 0 0, .int es.size 0, .int ep 0] }).IsKeyIter s.heap.objs.size d 0 es.size ep := ⟨_, Heap.get?_push_size _ rfl, rfl, rfl⟩
  have S₁ := Heap.get?_push_of_some { cls := .type "dict_keyiterator", data := .fields #[.ref d, .int 0 0, .int es.size 0, .int ep 0] } hS
  refine wpAny_ite_split (fun _ => ?_) (fun hab => absurd (by decide) hab)
  refine wpAny_bind (wpAny_rule (wpAny_bind ?_)); show wpAny _ _ (updateSeq S (·.push .none) >>= fun _ => updateSeq S (·.pop)) _ _ _
  refine wpAny_bind (wpAny_updateSeq S₁ rfl ?_)
  have S₂ := Heap.get?_update_self (Obj.mapSeq (·.push Value.none)) S₁ rfl
  refine wpAny_updateSeq (hz := by seq_fits) S₂ rfl ?_
  have S₃ := Heap.get?_update_self (Obj.mapSeq (·.pop)) S₂ rfl
  have oth : ∀ b o, b ≠ S → (s.heap.push { cls := .type "dict_keyiterator", data := .fields #[.ref d, .int 0 0, .int es.size 0, .int ep 0] }).get? b = some o → ((((s.heap.push { cls := .type "dict_keyiterator", data := .fields #[.ref d, .int 0 0, .int es.size 0, .int ep 0] }).update S (Obj.mapSeq (·.push Value.none))).update S (Obj.mapSeq (·.pop)))).get? b = some o :=
    fun b o hb e => (Heap.get?_update_other _ _ (Ne.symm hb)).trans ((Heap.get?_update_other _ _ (Ne.symm hb)).trans e)
  exact wpAny_pure ⟨plainId_quiet F.plain_extend_loop _, key _ _ _ ⟨i₁.at fun o e => oth _ o (Ne.symm nSI) e, r₁.at fun o e => oth _ o (Ne.symm nSd) e⟩ (fun b o hb e => oth b o hb (Heap.get?_push_of_some _ e)) S₃⟩
theorem raw_list {Q : Value → Shared → Prop} {d : Addr} {es : Array DictEntry} {ep : Nat} (hh : A.handled = none) (nd : (d == sysModules) = false) (r : RawD s.heap d es ep) (z : es.size ≤ sizeLine)
    (hQ : ∀ h' tk acc' c', (∀ b o, s.heap.get? b = some o → h'.get? b = some o) → h'.get? s.heap.objs.size = some { cls := .type "list", dict := none, data := .seq acc' c', slots := #[] } → ItemsOf (fun i v => ∃ e, es[i]? = some e ∧ v = e.key) acc' es.size → Q (.ref s.heap.objs.size) { s with heap := h', toks := tk }) :
    wpAny (model prog w) A (call (.type "list") [.ref d]) Q E s := by
  refine callType_codes (Q₁ := fun obj s₁ => obj = .ref s.heap.objs.size ∧ s₁ = { s with heap := s.heap.push { cls := .type "list", data := .seq #[] } }) F.called_list (F.typeCall_list_1 _) F.entry_list_init (code_list_new _ ⟨rfl, rfl⟩) fun obj s₁ h₁ => ?_
  obtain ⟨rfl, rfl⟩ := h₁
  have hS : (s.heap.push { cls := .type "list", data := .seq #[] }).get? s.heap.objs.size = some { cls := .type "list", data := .seq #[] } := by exact Heap.get?_push_size _ rfl
  have r₁ : RawD (s.heap.push { cls := .type "list", data := .seq #[] }) d es ep := r.at fun o e => Heap.get?_push_of_some _ e
  refine ⟨⟨_, hS, rfl⟩, F.args_list_init_2 _ _, ?_⟩
  show wpAny _ _ (do let old ← Builtin.List.listItems (.ref s.heap.objs.size); Builtin.List.listUpdate (.ref s.heap.objs.size) (fun _ => #[]); letGo old.toList.reverse; Builtin.List.listExtendWith (.ref s.heap.objs.size) (.ref d) .none) _ _ _
  refine wpAny_bind ?_; unfold Builtin.List.listItems; refine wpAny_bind (wpAny_seqItems hS rfl (wpAny_pure ?_))
  show wpAny _ _ (updateSeq s.heap.objs.size (fun _ => #[]) >>= fun _ => letGo (#[] : Array Value).toList.reverse >>= fun _ => Builtin.List.listExtendWith (.ref s.heap.objs.size) (.ref d) .none) _ _ _
  refine wpAny_bind (wpAny_updateSeq hS rfl ?_)
  have S₂ := Heap.get?_update_self (Obj.mapSeq (fun _ => (#[] : Array Value))) hS rfl
  have oth : ∀ b o, b ≠ s.heap.objs.size → (s.heap.push { cls := .type "list", data := .seq #[] }).get? b = some o → ((s.heap.push { cls := .type "list", data := .seq #[] }).update s.heap.objs.size (Obj.mapSeq (fun _ => (#[] : Array Value)))).get? b = some o := fun b o hb e => by exact (Heap.get?_update_other _ _ (Ne.symm hb)).trans e
  have ndI : d ≠ s.heap.objs.size := by obtain ⟨ob, e1, _⟩ := r; exact Nat.ne_of_lt (Heap.lt_size e1)
  refine wpAny_bind (wpAny_letGo (raw_extend (A := A.in1) hh nd (r₁.at fun o e => oth d o ndI e) z _ _ S₂ fun h' tk acc' c' hk hS' hacc => ?_))
  exact ⟨rfl, hQ h' tk acc' c' (fun b o e => hk b o (Nat.ne_of_lt (Heap.lt_size e)) (oth b o (Nat.ne_of_lt (Heap.lt_size e)) (Heap.get?_push_of_some _ e))) hS' hacc⟩
end
end L2

set_option Elab.async false
set_option linter.all false
set_option maxRecDepth 100000
set_option maxHeartbeats 4000000
namespace L2
open PySem PySem.Spec PyProof.Rows

inductive D where
  | non | bl (b : Bool) | int (i : Int) | str (x : Str) | ty (n : String) | adr (a : Addr) | cls (c : Nat)
  | tup (xs : List D) | lst (xs : List D) | kt (xs : List D) | fz (xs : List D) | dK (kvs : List (Key × D)) | dT (kvs : List (List Key × D)) | ins (c : Nat) (fs : List (Str × D))
instance : Inhabited D := ⟨.non⟩
structure Bk where
  K : PySem.W.Frag
  cl : Nat → Addr
def KnL (K : PySem.W.Frag) (a : Addr) (xs : List V) : Prop := ∃ (o : Obj) (its : Array Value) (n : Nat), K.lookup a = some o ∧ o.cls = .type "list" ∧ o.dict = none ∧ o.data = .seq its n ∧ its.size ≤ sizeLine ∧ Vals xs its.toList
def KnT (K : PySem.W.Frag) (a : Addr) (xs : List V) : Prop := ∃ (o : Obj) (its : Array Value) (n : Nat), K.lookup a = some o ∧ o.cls = .type "tuple" ∧ o.data = .seq its n ∧ its.size ≤ sizeLine ∧ Vals xs its.toList
def NdL (B : Bk) (H : Hp) (F : Addr → Prop) (a : Addr) (xs : List V) : Prop := F a ∧ H a = some (.lst xs)
def NdT (B : Bk) (H : Hp) (F : Addr → Prop) (a : Addr) (xs : List V) : Prop := F a ∧ H a = some (.tup xs)
def NdF (B : Bk) (H : Hp) (F : Addr → Prop) (a : Addr) (xs : List V) : Prop := (F a ∧ ∃ o, H a = some (.frz o (.lst xs))) ∨ KnL B.K a xs
theorem NdF.sq {B : Bk} {H : Hp} {F : Addr → Prop} {a : Addr} {xs : List V} (h : NdF B H F a xs) : SqL B.K H a xs := by
  rcases h with ⟨_, o, h⟩ | h
  · exact .inl (.inr ⟨o, h⟩)
  · exact .inr h
theorem NdF.keep {B : Bk} {H H' : Hp} {F F' : Addr → Prop} {a : Addr} {xs : List V} (h : NdF B H F a xs) (k : ∀ b o, F b → H b = some o → H' b = some o) (up : ∀ b, F b → F' b) : NdF B H' F' a xs := by
  rcases h with ⟨f, o, h⟩ | h
  · exact .inl ⟨up _ f, o, k _ _ f h⟩
  · exact .inr h
theorem NdL.sq {B : Bk} {H : Hp} {F : Addr → Prop} {a : Addr} {xs : List V} (h : NdL B H F a xs) : SqL B.K H a xs := .inl (.inl h.2)
theorem NdT.sq {B : Bk} {H : Hp} {F : Addr → Prop} {a : Addr} {xs : List V} (h : NdT B H F a xs) : SqT B.K H a xs := .inl (.inl h.2)
theorem KnT.sq {K : PySem.W.Frag} {H : Hp} {a : Addr} {xs : List V} (h : KnT K a xs) : SqT K H a xs := .inr h
mutual
/-- the tree d lies at v, all its nodes within F -/
inductive DA (B : Bk) (H : Hp) (F : Addr → Prop) : V → D → Prop
  | non : DA B H F .non .non
  | bl (b : Bool) : DA B H F (.bl b) (.bl b)
  | int (i : Int) : DA B H F (.int i) (.int i)
  | str (x : Str) : DA B H F (.str x) (.str x)
  | ty (n : String) : DA B H F (.ty n) (.ty n)
  | adr (a : Addr) : DA B H F (.ref a) (.adr a)
  | cls (c : Nat) : DA B H F (.ref (B.cl c)) (.cls c)
  | tup {a : Addr} {xs : List V} {ds : List D} (h : NdT B H F a xs) (r : DAs B H F xs ds) : DA B H F (.ref a) (.tup ds)
  | lst {a : Addr} {xs : List V} {ds : List D} (h : NdL B H F a xs) (r : DAs B H F xs ds) : DA B H F (.ref a) (.lst ds)
  | kt {a : Addr} {xs : List V} {ds : List D} (h : KnT B.K a xs) (r : DAs B H F xs ds) : DA B H F (.ref a) (.kt ds)
  | fz {a : Addr} {xs : List V} {ds : List D} (h : NdF B H F a xs) (r : DAs B H F xs ds) : DA B H F (.ref a) (.fz ds)
  | dK {a : Addr} {kvs : List (Key × V)} {ds : List (Key × D)} (f : F a) (h : H a = some (.dK kvs)) (e : kvs.map (·.1) = ds.map (·.1)) (r : DAs B H F (kvs.map (·.2)) (ds.map (·.2))) : DA B H F (.ref a) (.dK ds)
  | dT {a : Addr} {kvs : List (List Key × V)} {ds : List (List Key × D)} (f : F a) (h : H a = some (.dT kvs)) (e : kvs.map (·.1) = ds.map (·.1)) (r : DAs B H F (kvs.map (·.2)) (ds.map (·.2))) : DA B H F (.ref a) (.dT ds)
  | ins {a dx : Addr} {c : Nat} {fs : List (Str × V)} {ds : List (Str × D)} (f : F a) (h : H a = some (.ins (B.cl c) dx fs)) (e : fs.map (·.1) = ds.map (·.1)) (r : DAs B H F (fs.map (·.2)) (ds.map (·.2))) : DA B H F (.ref a) (.ins c ds)
inductive DAs (B : Bk) (H : Hp) (F : Addr → Prop) : List V → List D → Prop
  | nil : DAs B H F [] []
  | cons {x : V} {d : D} {xs : List V} {ds : List D} (h : DA B H F x d) (r : DAs B H F xs ds) : DAs B H F (x :: xs) (d :: ds)
end
section
variable {B : Bk} {H H' : Hp} {F F' : Addr → Prop}
mutual
theorem DA.mono (k : ∀ b o, F b → H b = some o → H' b = some o) (up : ∀ b, F b → F' b) : ∀ {v : V} {d : D}, DA B H F v d → DA B H' F' v d
  | _, _, .non => .non
  | _, _, .bl b => .bl b
  | _, _, .int i => .int i
  | _, _, .str x => .str x
  | _, _, .ty n => .ty n
  | _, _, .adr a => .adr a
  | _, _, .cls c => .cls c
  | _, _, .tup h r => .tup ⟨up _ h.1, k _ _ h.1 h.2⟩ (DAs.mono k up r)
  | _, _, .lst h r => .lst ⟨up _ h.1, k _ _ h.1 h.2⟩ (DAs.mono k up r)
  | _, _, .kt h r => .kt h (DAs.mono k up r)
  | _, _, .fz h r => .fz (h.keep k up) (DAs.mono k up r)
  | _, _, .dK f h e r => .dK (up _ f) (k _ _ f h) e (DAs.mono k up r)
  | _, _, .dT f h e r => .dT (up _ f) (k _ _ f h) e (DAs.mono k up r)
  | _, _, .ins f h e r => .ins (up _ f) (k _ _ f h) e (DAs.mono k up r)
theorem DAs.mono (k : ∀ b o, F b → H b = some o → H' b = some o) (up : ∀ b, F b → F' b) : ∀ {vs : List V} {ds : List D}, DAs B H F vs ds → DAs B H' F' vs ds
  | _, _, .nil => .nil
  | _, _, .cons h r => .cons (DA.mono k up h) (DAs.mono k up r)
end
theorem DAs.length : ∀ {vs : List V} {ds : List D}, DAs B H F vs ds → vs.length = ds.length
  | _, _, .nil => rfl
  | _, _, .cons _ r => by rw [List.length_cons, List.length_cons, DAs.length r]
theorem DAs.get : ∀ {vs : List V} {ds : List D} {i : Nat} {d : D}, DAs B H F vs ds → ds[i]? = some d → ∃ v, vs[i]? = some v ∧ DA B H F v d
  | _, _, _, _, .nil, e => by simp at e
  | _, _, 0, _, .cons h _, e => by simp at e; subst e; exact ⟨_, rfl, h⟩
  | _, _, i + 1, _, .cons _ r, e => by simpa using DAs.get (i := i) r (by simpa using e)
theorem DAs.append : ∀ {vs ws : List V} {ds es : List D}, DAs B H F vs ds → DAs B H F ws es → DAs B H F (vs ++ ws) (ds ++ es)
  | _, _, _, _, .nil, q => q
  | _, _, _, _, .cons h r, q => .cons h (DAs.append r q)
theorem DAs.one {vs : List V} {d : D} (h : DAs B H F vs [d]) : ∃ v, vs = [v] ∧ DA B H F v d := by
  cases h with
  | cons h r => cases r; exact ⟨_, rfl, h⟩
theorem DAs.two {vs : List V} {d e : D} (h : DAs B H F vs [d, e]) : ∃ v w, vs = [v, w] ∧ DA B H F v d ∧ DA B H F w e := by
  cases h with
  | cons h r => cases r with
    | cons h' r => cases r; exact ⟨_, _, rfl, h, h'⟩
theorem DAs.take : ∀ {vs : List V} {ds : List D} (n : Nat), DAs B H F vs ds → DAs B H F (vs.take n) (ds.take n)
  | _, _, 0, _ => by simpa using DAs.nil
  | _, _, _ + 1, .nil => by simpa using DAs.nil
  | _, _, n + 1, .cons h r => by simpa using DAs.cons h (DAs.take n r)
theorem DAs.drop : ∀ {vs : List V} {ds : List D} (n : Nat), DAs B H F vs ds → DAs B H F (vs.drop n) (ds.drop n)
  | _, _, 0, h => by simpa using h
  | _, _, _ + 1, .nil => by simpa using DAs.nil
  | _, _, n + 1, .cons h r => by simpa using DAs.drop n r
end

inductive SV where
  | sh (d : D) | li (xs : List D) | lk (xs : List D) | ll (xss : List (List D)) | dK (kvs : List (Key × D)) | dT (kvs : List (List Key × D)) | ob (c : Nat) (fs : List (Str × D))
@[simp] def SV.fr : SV → D
  | .sh d => d
  | .li xs => .lst xs
  | .lk xs => .lst xs
  | .ll xss => .lst (xss.map D.lst)
  | .dK kvs => .dK kvs
  | .dT kvs => .dT kvs
  | .ob c fs => .ins c fs
inductive LAs (B : Bk) (H : Hp) (F : Addr → Prop) : List Addr → List (List D) → Prop
  | nil : LAs B H F [] []
  | cons {a : Addr} {xs : List V} {ds : List D} {as : List Addr} {dss : List (List D)} (h : H a = some (.lst xs)) (q : DAs B H F xs ds) (r : LAs B H F as dss) : LAs B H F (a :: as) (ds :: dss)
def VA (B : Bk) (H : Hp) (F : Addr → Prop) (v : V) : SV → List Addr → Prop
  | .sh d, o => o = [] ∧ DA B H F v d
  | .li ds, o => ∃ a xs, v = .ref a ∧ o = [a] ∧ ¬ F a ∧ H a = some (.lst xs) ∧ DAs B H F xs ds
  | .lk ds, o => ∃ a xs, v = .ref a ∧ o = [a] ∧ ¬ F a ∧ H a = some (.lst xs) ∧ DAs B H F xs ds
  | .ll dss, o => ∃ a as, v = .ref a ∧ o = a :: as ∧ (a :: as).Nodup ∧ (∀ b ∈ a :: as, ¬ F b) ∧ H a = some (.lst (as.map V.ref)) ∧ LAs B H F as dss
  | .dK ds, o => ∃ a kvs, v = .ref a ∧ o = [a] ∧ ¬ F a ∧ H a = some (.dK kvs) ∧ kvs.map (·.1) = ds.map (·.1) ∧ DAs B H F (kvs.map (·.2)) (ds.map (·.2))
  | .dT ds, o => ∃ a kvs, v = .ref a ∧ o = [a] ∧ ¬ F a ∧ H a = some (.dT kvs) ∧ kvs.map (·.1) = ds.map (·.1) ∧ DAs B H F (kvs.map (·.2)) (ds.map (·.2))
  | .ob c ds, o => ∃ a dx fs, v = .ref a ∧ o = [a] ∧ ¬ F a ∧ H a = some (.ins (B.cl c) dx fs) ∧ fs.map (·.1) = ds.map (·.1) ∧ DAs B H F (fs.map (·.2)) (ds.map (·.2))
section
variable {B : Bk} {H H' : Hp} {F F' : Addr → Prop} {v : V} {x : SV} {o : List Addr}
theorem LAs.mono (k : ∀ b u, F b → H b = some u → H' b = some u) (up : ∀ b, F b → F' b) : ∀ {as : List Addr} {dss : List (List D)}, (∀ b u, b ∈ as → H b = some u → H' b = some u) → LAs B H F as dss → LAs B H' F' as dss
  | _, _, _, .nil => .nil
  | _, _, ko, .cons h q r => .cons (ko _ _ (by simp) h) (q.mono k up) (LAs.mono k up (fun b u hb => ko b u (by simp [hb])) r)
theorem LAs.alive : ∀ {as : List Addr} {dss : List (List D)}, LAs B H F as dss → ∀ b, b ∈ as → ∃ xs, H b = some (.lst xs)
  | _, _, .nil, b, hb => by simp at hb
  | _, _, .cons h q r, b, hb => by
    rcases List.mem_cons.mp hb with rfl | hb
    · exact ⟨_, h⟩
    · exact LAs.alive r b hb
theorem LAs.frozen (up : ∀ b, F b → F' b) : ∀ {as : List Addr} {dss : List (List D)}, LAs B H F as dss → (∀ b, b ∈ as → F' b) → DAs B H F' (as.map V.ref) (dss.map D.lst)
  | _, _, .nil, _ => .nil
  | _, _, .cons h q r, yes => .cons (.lst ⟨yes _ (by simp), h⟩ (q.mono (fun _ _ _ e => e) up)) (LAs.frozen up r fun b hb => yes b (by simp [hb]))
theorem VA.mono (h : VA B H F v x o) (k : ∀ b u, F b → H b = some u → H' b = some u) (ko : ∀ b u, b ∈ o → H b = some u → H' b = some u) (up : ∀ b, F b → F' b) (no : ∀ b, b ∈ o → ¬ F' b) : VA B H' F' v x o := by
  cases x with
  | sh d => exact ⟨h.1, h.2.mono k up⟩
  | li ds => obtain ⟨a, xs, e, rfl, _, hh, r⟩ := h; exact ⟨a, xs, e, rfl, no a (by simp), ko a _ (by simp) hh, r.mono k up⟩
  | lk ds => obtain ⟨a, xs, e, rfl, _, hh, r⟩ := h; exact ⟨a, xs, e, rfl, no a (by simp), ko a _ (by simp) hh, r.mono k up⟩
  | ll ds => obtain ⟨a, as, e, rfl, nd, _, hh, r⟩ := h; exact ⟨a, as, e, rfl, nd, no, ko a _ (by simp) hh, r.mono k up fun b u hb => ko b u (by simp [hb])⟩
  | dK ds => obtain ⟨a, xs, e, rfl, _, hh, q, r⟩ := h; exact ⟨a, xs, e, rfl, no a (by simp), ko a _ (by simp) hh, q, r.mono k up⟩
  | dT ds => obtain ⟨a, xs, e, rfl, _, hh, q, r⟩ := h; exact ⟨a, xs, e, rfl, no a (by simp), ko a _ (by simp) hh, q, r.mono k up⟩
  | ob c ds => obtain ⟨a, dx, xs, e, rfl, _, hh, q, r⟩ := h; exact ⟨a, dx, xs, e, rfl, no a (by simp), ko a _ (by simp) hh, q, r.mono k up⟩
theorem VA.alive (h : VA B H F v x o) {a : Addr} (e : a ∈ o) : H a ≠ none ∧ ¬ F a ∧ ∀ xs, H a ≠ some (.tup xs) := by
  have fin : ∀ {u : HO}, H a = some u → (∀ xs, u ≠ .tup xs) → (∀ ob xs, u ≠ .frz ob (.tup xs)) → ¬ F a → H a ≠ none ∧ ¬ F a ∧ ∀ xs, H a ≠ some (.tup xs) := fun {u} hu n1 n2 nf => by
    refine ⟨by rw [hu]; simp, nf, fun ys q => ?_⟩
    rw [hu] at q; exact n1 _ (Option.some.inj q)
  cases x with
  | sh d => rw [h.1] at e; simp at e
  | li ds => obtain ⟨b, xs, e1, rfl, nf, hh, r⟩ := h; cases List.mem_singleton.mp e; exact fin hh (by simp) (by simp) nf
  | lk ds => obtain ⟨b, xs, e1, rfl, nf, hh, r⟩ := h; cases List.mem_singleton.mp e; exact fin hh (by simp) (by simp) nf
  | ll ds =>
    obtain ⟨b, as, e1, rfl, nd, nf, hh, r⟩ := h
    rcases List.mem_cons.mp e with rfl | e'
    · exact fin hh (by simp) (by simp) (nf _ e)
    · obtain ⟨xs, hx⟩ := r.alive _ e'
      exact fin hx (by simp) (by simp) (nf _ e)
  | dK ds => obtain ⟨b, xs, e1, rfl, nf, hh, r⟩ := h; cases List.mem_singleton.mp e; exact fin hh (by simp) (by simp) nf
  | dT ds => obtain ⟨b, xs, e1, rfl, nf, hh, r⟩ := h; cases List.mem_singleton.mp e; exact fin hh (by simp) (by simp) nf
  | ob c ds => obtain ⟨b, dx, xs, e1, rfl, nf, hh, r⟩ := h; cases List.mem_singleton.mp e; exact fin hh (by simp) (by simp) nf
theorem VA.frozen (h : VA B H F v x o) (up : ∀ b, F b → F' b) (yes : ∀ b, b ∈ o → F' b) : DA B H F' v x.fr := by
  have id' : ∀ b u, F b → H b = some u → H b = some u := fun _ _ _ q => q
  cases x with
  | sh d => exact h.2.mono id' up
  | li ds => obtain ⟨a, xs, rfl, rfl, _, hh, r⟩ := h; exact .lst ⟨yes a (by simp), hh⟩ (r.mono id' up)
  | lk ds => obtain ⟨a, xs, rfl, rfl, _, hh, r⟩ := h; exact .lst ⟨yes a (by simp), hh⟩ (r.mono id' up)
  | ll ds => obtain ⟨a, as, rfl, rfl, _, _, hh, r⟩ := h; exact .lst ⟨yes a (by simp), hh⟩ (r.frozen up fun b hb => yes b (by simp [hb]))
  | dK ds => obtain ⟨a, xs, rfl, rfl, _, hh, q, r⟩ := h; exact .dK (yes a (by simp)) hh q (r.mono id' up)
  | dT ds => obtain ⟨a, xs, rfl, rfl, _, hh, q, r⟩ := h; exact .dT (yes a (by simp)) hh q (r.mono id' up)
  | ob c ds => obtain ⟨a, dx, xs, rfl, rfl, _, hh, q, r⟩ := h; exact .ins (yes a (by simp)) hh q (r.mono id' up)
end

abbrev FSt := List (Option SV)
structure Rep (B : Bk) (H : Hp) (F : Addr → Prop) (σ : St) (S : FSt) (os : Nat → List Addr) : Prop where
  at' : ∀ i x, S[i]? = some (some x) → ∃ v, σ[i]? = some (some v) ∧ VA B H F v x (os i)
  out : ∀ i, (∀ x, S[i]? ≠ some (some x)) → os i = []
  inj : ∀ i j a, a ∈ os i → a ∈ os j → i = j
  fd : ∀ b, F b → H b ≠ none
  len : σ.length = S.length
def isT (H : Hp) (b : Addr) : Prop := ∃ xs, H b = some (.tup xs)
structure Al (H : Hp) (F : Addr → Prop) (H' : Hp) (F' : Addr → Prop) : Prop where
  same : Same H H'
  up : ∀ b, F b → F' b
  new : ∀ b, F' b → F b ∨ (H b = none ∧ H' b ≠ none) ∨ isT H b
theorem Al.refl {H : Hp} {F : Addr → Prop} : Al H F H F := ⟨fun _ _ h => h, fun _ h => h, fun _ h => .inl h⟩
theorem Al.trans {H H1 H2 : Hp} {F F1 F2 : Addr → Prop} (a : Al H F H1 F1) (b : Al H1 F1 H2 F2) : Al H F H2 F2 := by
  refine ⟨fun x o h => b.same x o (a.same x o h), fun x h => b.up x (a.up x h), fun x h => ?_⟩
  have old : ∀ {u : HO}, H1 x = some u → H2 x ≠ none := fun {u} e => by rw [b.same x u e]; simp
  rcases b.new x h with h | ⟨h, h'⟩ | ⟨ys, h⟩
  · rcases a.new x h with h | ⟨h, h'⟩ | h
    · exact .inl h
    · refine .inr (.inl ⟨h, ?_⟩)
      cases e : H1 x with
      | none => exact absurd e h'
      | some o => exact old e
    · exact .inr (.inr h)
  · refine .inr (.inl ⟨?_, h'⟩)
    cases e : H x with
    | none => rfl
    | some o => rw [a.same x o e] at h; cases h
  · cases e : H x with
    | none => exact .inr (.inl ⟨rfl, old h⟩)
    | some o => have := a.same x o e; rw [h] at this; cases this; exact .inr (.inr ⟨ys, e⟩)
def osL (os : Nat → List Addr) (L : List Nat) : Addr → Prop := fun b => ∃ i ∈ L, b ∈ os i
def orF (F G : Addr → Prop) : Addr → Prop := fun b => F b ∨ G b
section
variable {B : Bk} {H H' : Hp} {F F' G : Addr → Prop} {σ : St} {S : FSt} {os : Nat → List Addr} {L : List Nat}
theorem Rep.own (r : Rep B H F σ S os) {i : Nat} {a : Addr} (e : a ∈ os i) : ∃ x v, S[i]? = some (some x) ∧ σ[i]? = some (some v) ∧ VA B H F v x (os i) := by
  cases q : S[i]? with
  | none => rw [r.out i (by rw [q]; simp)] at e; simp at e
  | some z => cases z with
    | none => rw [r.out i (by rw [q]; simp)] at e; simp at e
    | some x => obtain ⟨v, h1, h2⟩ := r.at' i x q; exact ⟨x, v, rfl, h1, h2⟩
theorem Rep.alive (r : Rep B H F σ S os) {i : Nat} {a : Addr} (e : a ∈ os i) : H a ≠ none ∧ ¬ F a := by
  obtain ⟨x, v, _, _, h⟩ := r.own e
  exact ⟨(h.alive e).1, (h.alive e).2.1⟩
theorem Rep.mono (r : Rep B H F σ S os) (a : Al H F H' F') : Rep B H' F' σ S os := by
  refine ⟨fun i x h => ?_, r.out, r.inj, fun b h => ?_, r.len⟩
  · obtain ⟨v, h1, h2⟩ := r.at' i x h
    refine ⟨v, h1, h2.mono (fun b u _ q => a.same b u q) (fun b u _ q => a.same b u q) a.up fun b e q => ?_⟩
    have al := r.alive e
    rcases a.new b q with q | q | ⟨ys, q⟩
    · exact al.2 q
    · exact al.1 q.1
    · obtain ⟨_, _, _, _, va⟩ := r.own e
      exact (va.alive e).2.2 ys q
  · rcases a.new b h with h | h | ⟨ys, h⟩
    · cases e : H b with
      | none => exact absurd e (r.fd b h)
      | some o => rw [a.same b o e]; simp
    · exact h.2
    · rw [a.same b _ h]; simp
theorem Rep.split (r : Rep B H F σ S os) (a : Al H (orF F (osL os L)) H' G) : ∃ F', Al H F H' F' ∧ Rep B H' F' σ S os ∧ (∀ b, G b → orF F' (osL os L) b) ∧ ∀ b, F' b → G b := by
  have al : Al H F H' (fun b => G b ∧ ∀ i, b ∉ os i) := by
    refine ⟨a.same, fun b h => ⟨a.up b (.inl h), fun i e => (r.alive e).2 h⟩, fun b h => ?_⟩
    rcases a.new b h.1 with q | q
    · rcases q with q | ⟨i, _, q⟩
      · exact .inl q
      · exact absurd q (h.2 i)
    · exact .inr q
  refine ⟨_, al, r.mono al, fun b h => ?_, fun b h => h.1⟩
  by_cases q : ∀ i, b ∉ os i
  · exact .inl ⟨h, q⟩
  · have ⟨i, e⟩ : ∃ i, b ∈ os i := by
      apply Classical.byContradiction
      intro n
      exact q fun i e => n ⟨i, e⟩
    rcases a.new b h with z | z | ⟨ys, z⟩
    · rcases z with z | z
      · exact absurd z (r.alive e).2
      · exact .inr z
    · exact absurd z.1 (r.alive e).1
    · obtain ⟨_, _, _, _, va⟩ := r.own e
      exact absurd z ((va.alive e).2.2 ys)
end
end L2

set_option Elab.async false
set_option linter.all false
set_option maxRecDepth 100000
set_option maxHeartbeats 4000000
namespace L2
open PySem PySem.Spec PyProof.Rows

def FD (B : Bk) (t : TE) (L : List Nat) (m : FSt → Option D) : Prop :=
  ∀ (S : FSt) (σ : St) (H : Hp) (F : Addr → Prop) (os : Nat → List Addr) (Q : VK) (d : D), Rep B H F σ S os → m S = some d →
    (∀ v H' F', Al H F H' F' → Rep B H' F' σ S os → DA B H' (orF F' (osL os L)) v d → Q v H') → t σ H Q
def FE (B : Bk) (t : TE) (L : List Nat) (m : FSt → Option SV) : Prop :=
  ∀ (S : FSt) (σ : St) (H : Hp) (F : Addr → Prop) (os : Nat → List Addr) (Q : VK) (x : SV), Rep B H F σ S os → m S = some x →
    (∀ v H' F' o, Al H F H' F' → Rep B H' F' σ S os → VA B H' (orF F' (osL os L)) v x o → (∀ a, a ∈ o → H a = none) → Q v H') → t σ H Q
def FT (B : Bk) (t : TT) (m : FSt → Option Bool) : Prop :=
  ∀ (S : FSt) (σ : St) (H : Hp) (F : Addr → Prop) (os : Nat → List Addr) (Q : Bool → Hp → Prop) (c : Bool), Rep B H F σ S os → m S = some c →
    (∀ H' F', Al H F H' F' → Rep B H' F' σ S os → Q c H') → t σ H Q
def FA (B : Bk) (t : TA) (L : List Nat) (m : FSt → Option (List D)) : Prop :=
  ∀ (S : FSt) (σ : St) (H : Hp) (F : Addr → Prop) (os : Nat → List Addr) (Q : List V → Hp → Prop) (ds : List D), Rep B H F σ S os → m S = some ds →
    (∀ vs H' F', Al H F H' F' → Rep B H' F' σ S os → DAs B H' (orF F' (osL os L)) vs ds → Q vs H') → t σ H Q

@[simp] def mV (i : Nat) : FSt → Option D := fun S => (S[i]?.join).map SV.fr
@[simp] def mC (d : D) : FSt → Option D := fun _ => some d
@[simp] def mFr (m : FSt → Option SV) : FSt → Option D := fun S => (m S).map SV.fr
@[simp] def mSh (m : FSt → Option D) : FSt → Option SV := fun S => (m S).map SV.sh
@[simp] def m2 {α : Type} (f : D → D → Option α) (a b : FSt → Option D) : FSt → Option α := fun S => (a S).bind fun x => (b S).bind fun y => f x y
@[simp] def m1 {α β : Type} (f : β → Option α) (a : FSt → Option β) : FSt → Option α := fun S => (a S).bind f
@[simp] def mNil : FSt → Option (List D) := fun _ => some []
@[simp] def mCons (a : FSt → Option D) (r : FSt → Option (List D)) : FSt → Option (List D) := fun S => (a S).bind fun x => (r S).bind fun xs => some (x :: xs)
@[simp] def asB : D → Option Bool
  | .bl b => some b
  | _ => none
@[simp] def mTruth (a : FSt → Option D) : FSt → Option Bool := fun S => (a S).bind asB
@[simp] def mAnd (a b : FSt → Option Bool) : FSt → Option Bool := fun S => (a S).bind fun c => if c = true then b S else some false
@[simp] def mOr (a b : FSt → Option Bool) : FSt → Option Bool := fun S => (a S).bind fun c => if c = true then some true else b S
@[simp] def mNot (a : FSt → Option Bool) : FSt → Option Bool := fun S => (a S).map fun c => !c
@[simp] def mBl (a : FSt → Option Bool) : FSt → Option D := fun S => (a S).map D.bl
@[simp] def mIte {α : Type} (c : FSt → Option Bool) (a b : FSt → Option α) : FSt → Option α := fun S => (c S).bind fun x => if x = true then a S else b S
@[simp] def mAlt {α : Type} (a b : FSt → Option α) : FSt → Option α := fun S => (a S).orElse fun _ => b S

section
variable {B : Bk} {ta tb tc : TE} {La Lb Lc L : List Nat} {ma mb mc : FSt → Option D} {t u : TT} {mt mu : FSt → Option Bool} {tr : TA} {mr : FSt → Option (List D)} {me me' : FSt → Option SV}
theorem orF_sub {F F' : Addr → Prop} {os : Nat → List Addr} {L L' : List Nat} (h1 : ∀ b, F b → F' b) (h2 : ∀ i, i ∈ L → i ∈ L') : ∀ b, orF F (osL os L) b → orF F' (osL os L') b := fun b h => by
  rcases h with h | ⟨i, h, e⟩
  · exact .inl (h1 b h)
  · exact .inr ⟨i, h2 i h, e⟩
theorem DA.later {H H' : Hp} {F F' : Addr → Prop} {os : Nat → List Addr} {L L' : List Nat} {v : V} {d : D} (h : DA B H (orF F (osL os L)) v d) (a : Al H F H' F') (hl : ∀ i, i ∈ L → i ∈ L') : DA B H' (orF F' (osL os L')) v d :=
  h.mono (fun b o _ e => a.same b o e) (orF_sub a.up hl)
theorem FD.fe (h : FD B ta L ma) : FE B ta L (mSh ma) := by
  intro S σ H F os Q x r e k
  unfold mSh at e
  cases q : ma S with
  | none => rw [q] at e; cases e
  | some d =>
    rw [q] at e; cases e
    exact h S σ H F os Q d r q fun v H' F' a r' da => k v H' F' [] a r' ⟨rfl, da⟩ (by simp)
theorem FE.fd (h : FE B ta L me) : FD B ta L (mFr me) := by
  intro S σ H F os Q d r e k
  unfold mFr at e
  cases q : me S with
  | none => rw [q] at e; cases e
  | some x =>
    rw [q] at e; cases e
    refine h S σ H F os Q x r q fun v H' F' o a r' va fr => ?_
    have al : Al H F H' (fun b => F' b ∨ b ∈ o) := by
      refine ⟨a.same, fun b h => .inl (a.up b h), fun b h => ?_⟩
      rcases h with h | h
      · exact a.new b h
      · exact .inr (.inl ⟨fr b h, (va.alive h).1⟩)
    refine k v H' _ al (r.mono al) (va.frozen (fun b h => ?_) fun b h => .inl (.inr h))
    rcases h with h | h
    · exact .inl (.inl h)
    · exact .inr h
theorem fd_var (i : Nat) : FD B (tVar i) [i] (mV i) := by
  intro S σ H F os Q d r e k
  unfold mV at e
  cases q : S[i]? with
  | none => rw [q] at e; cases e
  | some z => cases z with
    | none => rw [q] at e; cases e
    | some x =>
      rw [q] at e; cases e
      obtain ⟨v, h1, h2⟩ := r.at' i x q
      exact ⟨v, h1, k v H F Al.refl r (h2.frozen (fun b h => .inl h) fun b h => .inr ⟨i, by simp, h⟩)⟩
inductive Sc : V → D → Prop
  | non : Sc .non .non
  | bl (b : Bool) : Sc (.bl b) (.bl b)
  | int (i : Int) : Sc (.int i) (.int i)
  | str (x : Str) : Sc (.str x) (.str x)
  | ty (n : String) : Sc (.ty n) (.ty n)
  | adr (a : Addr) : Sc (.ref a) (.adr a)
theorem Sc.da {H : Hp} {F : Addr → Prop} {v : V} {d : D} (h : Sc v d) : DA B H F v d := by cases h <;> constructor
theorem fd_C {v : V} {d : D} (h : Sc v d) : FD B (tC v) [] (mC d) := by
  intro S σ H F os Q d' r e k
  cases e
  exact k v H F Al.refl r h.da
theorem fd_and2 {R : V → V → Hp → VK → Prop} (ha : FD B ta La ma) (hb : FD B tb Lb mb) {S : FSt} {σ : St} {H : Hp} {F : Addr → Prop} {os : Nat → List Addr} {Q : VK} {da db : D} (r : Rep B H F σ S os) (ea : ma S = some da) (eb : mb S = some db)
    (k : ∀ v w H' F', Al H F H' F' → Rep B H' F' σ S os → DA B H' (orF F' (osL os (La ++ Lb))) v da → DA B H' (orF F' (osL os (La ++ Lb))) w db → R v w H' Q) : ta σ H fun x H1 => tb σ H1 fun y H2 => R x y H2 Q := by
  refine ha S σ H F os _ da r ea fun v H1 F1 a1 r1 d1 => hb S σ H1 F1 os _ db r1 eb fun w H2 F2 a2 r2 d2 => ?_
  exact k v w H2 F2 (a1.trans a2) r2 (d1.later a2 fun i h => List.mem_append_left _ h) (d2.later Al.refl fun i h => List.mem_append_right _ h)

def OpD (B : Bk) (r : R2) (f : D → D → Option D) : Prop := ∀ (H : Hp) (G : Addr → Prop) (x y : V) (dx dy z : D) (Q : VK), DA B H G x dx → DA B H G y dy → f dx dy = some z →
  (∀ v H' G', Al H G H' G' → DA B H' G' v z → Q v H') → r x y H Q
def OpE (B : Bk) (r : R2) (f : D → D → Option SV) : Prop := ∀ (H : Hp) (G : Addr → Prop) (x y : V) (dx dy : D) (z : SV) (Q : VK), (∀ b, G b → H b ≠ none) → DA B H G x dx → DA B H G y dy → f dx dy = some z →
  (∀ v H' G' o, Al H G H' G' → VA B H' G' v z o → (∀ a, a ∈ o → H a = none) → Q v H') → r x y H Q
theorem Rep.gd {H : Hp} {F : Addr → Prop} {σ : St} {S : FSt} {os : Nat → List Addr} (r : Rep B H F σ S os) (L : List Nat) : ∀ b, orF F (osL os L) b → H b ≠ none := fun b h => by
  rcases h with h | ⟨i, _, e⟩
  · exact r.fd b h
  · exact (r.alive e).1
theorem bind2 {α β γ : Type} {a : Option α} {b : Option β} {f : α → β → Option γ} {z : γ} (h : (a.bind fun x => b.bind fun y => f x y) = some z) : ∃ x y, a = some x ∧ b = some y ∧ f x y = some z := by
  cases a with
  | none => cases h
  | some x => cases b with
    | none => cases h
    | some y => exact ⟨x, y, rfl, rfl, h⟩
theorem bind1 {α γ : Type} {a : Option α} {f : α → Option γ} {z : γ} (h : a.bind f = some z) : ∃ x, a = some x ∧ f x = some z := by
  cases a with
  | none => cases h
  | some x => exact ⟨x, rfl, h⟩
theorem fd_op {r : R2} {f : D → D → Option D} (ho : OpD B r f) (ha : FD B ta La ma) (hb : FD B tb Lb mb) : FD B (tOp r ta tb) (La ++ Lb) (m2 f ma mb) := by
  intro S σ H F os Q z rp e k
  obtain ⟨da, db, ea, eb, ef⟩ := bind2 e
  refine fd_and2 (R := r) ha hb rp ea eb fun v w H' F' a r' d1 d2 => ?_
  refine ho H' _ v w da db z Q d1 d2 ef fun u H2 G2 a2 dz => ?_
  obtain ⟨F2, al, r2, q, _⟩ := r'.split a2
  exact k u H2 F2 (a.trans al) r2 (dz.mono (fun _ _ _ e => e) q)
theorem VA.sub {H : Hp} {G F : Addr → Prop} {v : V} {x : SV} {o : List Addr} (h : VA B H G v x o) (q : ∀ b, G b → F b) (no : ∀ b, b ∈ o → ¬ F b) : VA B H F v x o := h.mono (fun _ _ _ e => e) (fun _ _ _ e => e) q no
theorem ve_split {H H' : Hp} {F G : Addr → Prop} {σ : St} {S : FSt} {os : Nat → List Addr} {L : List Nat} {v : V} {z : SV} {o : List Addr} (r : Rep B H F σ S os) (a : Al H (orF F (osL os L)) H' G) (va : VA B H' G v z o) (fr : ∀ b, b ∈ o → H b = none) :
    ∃ F', Al H F H' F' ∧ Rep B H' F' σ S os ∧ VA B H' (orF F' (osL os L)) v z o := by
  obtain ⟨F2, al, r2, q, q'⟩ := r.split a
  refine ⟨F2, al, r2, va.sub q fun b e z => ?_⟩
  rcases z with z | ⟨i, _, z⟩
  · exact (va.alive e).2.1 (q' b z)
  · exact (r.alive z).1 (fr b e)
theorem fe_op {r : R2} {f : D → D → Option SV} (ho : OpE B r f) (ha : FD B ta La ma) (hb : FD B tb Lb mb) : FE B (tOp r ta tb) (La ++ Lb) (m2 f ma mb) := by
  intro S σ H F os Q z rp e k
  obtain ⟨da, db, ea, eb, ef⟩ := bind2 e
  refine fd_and2 (R := r) ha hb rp ea eb fun v w H' F' a r' d1 d2 => ?_
  refine ho H' _ v w da db z Q (r'.gd _) d1 d2 ef fun u H2 G2 o a2 va fr => ?_
  obtain ⟨F2, al, r2, va2⟩ := ve_split r' a2 va fr
  refine k u H2 F2 o (a.trans al) r2 va2 fun b e => ?_
  cases q : H b with
  | none => rfl
  | some w => have := fr b e; rw [a.same b w q] at this; cases this
def UnD (B : Bk) (r : V → Hp → VK → Prop) (f : D → Option D) : Prop := ∀ (H : Hp) (G : Addr → Prop) (x : V) (dx z : D) (Q : VK), DA B H G x dx → f dx = some z → (∀ v H' G', Al H G H' G' → DA B H' G' v z → Q v H') → r x H Q
theorem fd_un {r : V → Hp → VK → Prop} {f : D → Option D} (ho : UnD B r f) (ha : FD B ta L ma) : FD B (tUn r ta) L (m1 f ma) := by
  intro S σ H F os Q z rp e k
  obtain ⟨da, ea, ef⟩ := bind1 e
  refine ha S σ H F os _ da rp ea fun v H' F' a r' d1 => ho H' _ v da z Q d1 ef fun u H2 G2 a2 dz => ?_
  obtain ⟨F2, al, r2, q, _⟩ := r'.split a2
  exact k u H2 F2 (a.trans al) r2 (dz.mono (fun _ _ _ e => e) q)

theorem ft_of (h : FD B ta L ma) : FT B (tTest ta) (mTruth ma) := by
  intro S σ H F os Q c rp e k
  obtain ⟨d, ed, ef⟩ := bind1 e
  refine h S σ H F os _ d rp ed fun v H' F' a r' d1 => ?_
  cases d with
  | bl b => cases ef; cases d1; exact ⟨_, rfl, k H' F' a r'⟩
  | _ => cases ef
theorem ft_val (h : FD B ta L ma) : FT B (tB ta) (mTruth ma) := ft_of h
theorem ft_and (h1 : FT B t mt) (h2 : FT B u mu) : FT B (tAnd t u) (mAnd mt mu) := by
  intro S σ H F os Q c rp e k
  obtain ⟨b, eb, ef⟩ := bind1 e
  refine h1 S σ H F os _ b rp eb fun H' F' a r' => ?_
  cases b with
  | true => rw [if_pos rfl] at ef ⊢; exact h2 S σ H' F' os Q c r' ef fun H2 F2 a2 r2 => k H2 F2 (a.trans a2) r2
  | false => rw [if_neg Bool.false_ne_true] at ef ⊢; cases ef; exact k H' F' a r'
theorem ft_or (h1 : FT B t mt) (h2 : FT B u mu) : FT B (tOr t u) (mOr mt mu) := by
  intro S σ H F os Q c rp e k
  obtain ⟨b, eb, ef⟩ := bind1 e
  refine h1 S σ H F os _ b rp eb fun H' F' a r' => ?_
  cases b with
  | true => rw [if_pos rfl] at ef ⊢; cases ef; exact k H' F' a r'
  | false => rw [if_neg Bool.false_ne_true] at ef ⊢; exact h2 S σ H' F' os Q c r' ef fun H2 F2 a2 r2 => k H2 F2 (a.trans a2) r2
theorem ft_not (h1 : FT B t mt) : FT B (tNot t) (mNot mt) := by
  intro S σ H F os Q c rp e k
  unfold mNot at e
  cases q : mt S with
  | none => rw [q] at e; cases e
  | some b => rw [q] at e; cases e; exact h1 S σ H F os _ b rp q fun H' F' a r' => k H' F' a r'
theorem fd_andV (ha : FD B ta La ma) (hb : FD B tb Lb mb) : FD B (tAndV ta tb) (La ++ Lb) (mIte (mTruth ma) mb (mC (.bl false))) := by
  intro S σ H F os Q z rp e k
  obtain ⟨c, ec, ef⟩ := bind1 e
  obtain ⟨d, ed, ec⟩ := bind1 ec
  refine ha S σ H F os _ d rp ed fun v H' F' a r' d1 => ?_
  cases d with
  | bl b =>
    cases ec; cases d1
    refine ⟨_, rfl, ?_⟩
    cases c with
    | true => rw [if_pos rfl] at ef ⊢; exact hb S σ H' F' os Q z r' ef fun v H2 F2 a2 r2 d2 => k v H2 F2 (a.trans a2) r2 (d2.later Al.refl fun i h => List.mem_append_right _ h)
    | false => rw [if_neg Bool.false_ne_true] at ef ⊢; cases ef; exact k _ H' F' a r' (.bl false)
  | _ => cases ec
theorem fe_if {mx my : FSt → Option SV} (hc : FT B t mt) (ha : FE B ta La mx) (hb : FE B tb Lb my) : FE B (tIf t ta tb) (La ++ Lb) (mIte mt mx my) := by
  intro S σ H F os Q z rp e k
  obtain ⟨c, ec, ef⟩ := bind1 e
  refine hc S σ H F os _ c rp ec fun H' F' a r' => ?_
  have lift : ∀ {L : List Nat}, (∀ i, i ∈ L → i ∈ La ++ Lb) → ∀ v H2 F2 o, Al H' F' H2 F2 → Rep B H2 F2 σ S os → VA B H2 (orF F2 (osL os L)) v z o → (∀ a, a ∈ o → H' a = none) → Q v H2 := fun hl v H2 F2 o a2 r2 va fr => by
    refine k v H2 F2 o (a.trans a2) r2 (va.sub (orF_sub (fun _ h => h) hl) fun b e q => ?_) fun b e => ?_
    · rcases q with q | ⟨i, _, q⟩
      · exact (va.alive e).2.1 (.inl q)
      · exact (r'.alive q).1 (fr b e)
    · cases q : H b with
      | none => rfl
      | some w => have := fr b e; rw [a.same b w q] at this; cases this
  cases c with
  | true => rw [if_pos rfl] at ef ⊢; exact ha S σ H' F' os Q z r' ef (lift fun i h => List.mem_append_left _ h)
  | false => rw [if_neg Bool.false_ne_true] at ef ⊢; exact hb S σ H' F' os Q z r' ef (lift fun i h => List.mem_append_right _ h)

theorem fa_nil : FA B tNil [] mNil := by
  intro S σ H F os Q ds rp e k
  cases e
  exact k [] H F Al.refl rp .nil
theorem DAs.later {H H' : Hp} {F F' : Addr → Prop} {os : Nat → List Addr} {L L' : List Nat} {v : List V} {d : List D} (h : DAs B H (orF F (osL os L)) v d) (a : Al H F H' F') (hl : ∀ i, i ∈ L → i ∈ L') : DAs B H' (orF F' (osL os L')) v d :=
  h.mono (fun b o _ e => a.same b o e) (orF_sub a.up hl)
theorem fa_cons (ha : FD B ta La ma) (hr : FA B tr Lb mr) : FA B (tCons ta tr) (La ++ Lb) (mCons ma mr) := by
  intro S σ H F os Q ds rp e k
  obtain ⟨d, es, ed, ee, ef⟩ := bind2 e
  cases ef
  refine ha S σ H F os _ d rp ed fun v H1 F1 a1 r1 d1 => hr S σ H1 F1 os _ es r1 ee fun vs H2 F2 a2 r2 d2 => ?_
  exact k (v :: vs) H2 F2 (a1.trans a2) r2 (.cons (d1.later a2 fun i h => List.mem_append_left _ h) (d2.later Al.refl fun i h => List.mem_append_right _ h))

theorem same_upd {H : Hp} {p : Addr} {u : HO} (h : H p = none) : Same H (upd H p u) := fun b o e => by rw [upd_ne (ne_of_none e h)]; exact e
theorem al_fresh {H : Hp} {F : Addr → Prop} {p : Addr} {u : HO} (h : H p = none) : Al H F (upd H p u) F := ⟨same_upd h, fun _ q => q, fun _ q => .inl q⟩
theorem al_fresh' {H : Hp} {F : Addr → Prop} {p : Addr} {u : HO} (h : H p = none) : Al H F (upd H p u) (fun b => F b ∨ b = p) := by
  refine ⟨same_upd h, fun _ q => .inl q, fun b q => ?_⟩
  rcases q with q | rfl
  · exact .inl q
  · exact .inr (.inl ⟨h, by rw [upd_same]; simp⟩)
@[simp] def mLst (m : FSt → Option (List D)) : FSt → Option SV := fun S => (m S).bind fun ds => if ds.length ≤ sizeLine then some (.li ds) else none
@[simp] def mTup (m : FSt → Option (List D)) : FSt → Option D := fun S => (m S).bind fun ds => if ds.length ≤ sizeLine then some (.tup ds) else none
theorem fe_lst (hr : FA B tr L mr) : FE B (tLst tr) L (mLst mr) := by
  intro S σ H F os Q x rp e k
  obtain ⟨ds, ed, ef⟩ := bind1 e
  by_cases hl : ds.length ≤ sizeLine
  · rw [if_pos hl] at ef; cases ef
    refine hr S σ H F os _ ds rp ed fun vs H1 F1 a1 r1 d1 => ⟨by rw [d1.length]; exact hl, fun p hp => ?_⟩
    have al := al_fresh (F := F1) (u := .lst vs) hp
    refine k (.ref p) _ F1 [p] (a1.trans al) (r1.mono al) ⟨p, vs, rfl, rfl, fun q => ?_, upd_same, d1.mono (fun b o _ e => al.same b o e) fun _ h => h⟩ fun a e => ?_
    · exact r1.gd L p q hp
    · obtain rfl := List.mem_singleton.mp e
      cases q : H a with
      | none => rfl
      | some w => have := a1.same a w q; rw [hp] at this; cases this
  · rw [if_neg hl] at ef; cases ef
theorem fd_tup (hr : FA B tr L mr) : FD B (tTup tr) L (mTup mr) := by
  intro S σ H F os Q x rp e k
  obtain ⟨ds, ed, ef⟩ := bind1 e
  by_cases hl : ds.length ≤ sizeLine
  · rw [if_pos hl] at ef; cases ef
    refine hr S σ H F os _ ds rp ed fun vs H1 F1 a1 r1 d1 => ⟨by rw [d1.length]; exact hl, fun p hp => ?_⟩
    have al := al_fresh' (F := F1) (u := .tup vs) hp
    refine k (.ref p) _ _ (a1.trans al) (r1.mono al) (.tup ⟨.inl (.inr rfl), upd_same⟩ (d1.mono (fun b o _ e => al.same b o e) fun b h => ?_))
    rcases h with h | h
    · exact .inl (.inl h)
    · exact .inr h
  · rw [if_neg hl] at ef; cases ef

def CallE (B : Bk) (r : List V → Hp → VK → Prop) (f : List D → Option SV) : Prop := ∀ (H : Hp) (G : Addr → Prop) (vs : List V) (ds : List D) (z : SV) (Q : VK), (∀ b, G b → H b ≠ none) → DAs B H G vs ds → f ds = some z →
  (∀ v H' G' o, Al H G H' G' → VA B H' G' v z o → (∀ a, a ∈ o → H a = none) → Q v H') → r vs H Q
theorem fe_callR {r : List V → Hp → VK → Prop} {f : List D → Option SV} {tx : TE} (htx : ∀ σ H Q, (tr σ H fun vs H1 => r vs H1 Q) → tx σ H Q) (ho : CallE B r f) (hr : FA B tr L mr) : FE B tx L (m1 f mr) := by
  intro S σ H F os Q z rp e k
  obtain ⟨ds, ed, ef⟩ := bind1 e
  refine htx σ H Q (hr S σ H F os _ ds rp ed fun vs H1 F1 a1 r1 d1 => ho H1 _ vs ds z Q (r1.gd _) d1 ef fun u H2 G2 o a2 va fr => ?_)
  obtain ⟨F2, al, r2, va2⟩ := ve_split r1 a2 va fr
  refine k u H2 F2 o (a1.trans al) r2 va2 fun b e => ?_
  cases q : H b with
  | none => rfl
  | some w => have := fr b e; rw [a1.same b w q] at this; cases this
theorem fe_CB {r : List V → Hp → VK → Prop} {f : List D → Option SV} (ho : CallE B r f) (hr : FA B tr L mr) : FE B (tCB r tr) L (m1 f mr) := fe_callR (fun _ _ _ h => h) ho hr
def SpF (B : Bk) (n : Nat) (f : List D → Option SV) : Sp := fun vs H Q _ => vs.length = n ∧ ∃ (G : Addr → Prop) (ds : List D) (z : SV), (∀ b, G b → H b ≠ none) ∧ DAs B H G vs ds ∧ f ds = some z ∧
  ∀ v H' G' o, Al H G H' G' → VA B H' G' v z o → (∀ a, a ∈ o → H a = none) → Q v H'
theorem fe_call {n : Nat} {f : List D → Option SV} {E : XK} (hf : ∀ ds z, f ds = some z → ds.length = n) (hr : FA B tr L mr) : FE B (tCall (SpF B n f) [] E tr) L (m1 f mr) := by
  refine fe_callR (r := fun vs H Q => SpF B n f (vs ++ []) H Q E) (fun _ _ _ h => h) ?_ hr
  intro H G vs ds z Q hg hd hz k
  rw [List.append_nil]
  exact ⟨by rw [hd.length]; exact hf _ _ hz, G, ds, z, hg, hd, hz, k⟩
@[simp] def mMeth (c : Nat) (mn : Str) (f : List D → Option SV) (a : FSt → Option D) (r : FSt → Option (List D)) : FSt → Option SV := fun S => (a S).bind fun x => (r S).bind fun ds => match x with
  | .ins k fs => if k = c then (if (fs.lookup mn).isNone then f (.ins k fs :: ds) else none) else none
  | _ => none
@[simp] def fFld (cs : List Nat) (f : Str) : D → Option D
  | .ins c fs => if c ∈ cs then fs.lookup f else none
  | _ => none
end
end L2

set_option Elab.async false
set_option linter.all false
set_option maxRecDepth 100000
set_option maxHeartbeats 4000000
namespace L2
open PySem PySem.Spec PyProof.Rows

mutual
@[simp] def D.plain : D → Bool
  | .tup xs => D.plains xs
  | .kt xs => D.plains xs
  | .fz _ => false
  | .lst _ => false
  | .dK _ => false
  | .dT _ => false
  | .ins _ _ => false
  | _ => true
@[simp] def D.plains : List D → Bool
  | [] => true
  | d :: r => d.plain && D.plains r
end
@[simp] def SV.plain : SV → Bool
  | .sh d => d.plain
  | .li xs => D.plains xs
  | .lk _ => false
  | .ll xss => xss.all D.plains
  | .dK kvs => D.plains (kvs.map (·.2))
  | .dT kvs => D.plains (kvs.map (·.2))
  | .ob _ fs => D.plains (fs.map (·.2))
section
variable {B : Bk} {H H' : Hp} {F F' : Addr → Prop} {σ : St} {S : FSt} {os : Nat → List Addr} {L : List Nat}
mutual
theorem DA.toF (r : Rep B H F σ S os) : ∀ {v : V} {d : D}, DA B H (orF F (osL os L)) v d → d.plain = true → DA B H F v d
  | _, _, .non, _ => .non
  | _, _, .bl b, _ => .bl b
  | _, _, .int i, _ => .int i
  | _, _, .str x, _ => .str x
  | _, _, .ty n, _ => .ty n
  | _, _, .adr a, _ => .adr a
  | _, _, .cls c, _ => .cls c
  | _, _, .tup h q, p => by
    refine .tup ?_ (DAs.toF r q (by simpa [D.plain] using p))
    obtain ⟨h | ⟨i, _, e⟩, h'⟩ := h
    · exact ⟨h, h'⟩
    · obtain ⟨x, v, _, _, va⟩ := r.own e
      exact absurd h' ((va.alive e).2.2 _)
  | _, _, .kt h q, p => .kt h (DAs.toF r q (by simpa [D.plain] using p))
  | _, _, .fz _ _, p => by simp [D.plain] at p
  | _, _, .lst _ _, p => by simp [D.plain] at p
  | _, _, .dK _ _ _ _, p => by simp [D.plain] at p
  | _, _, .dT _ _ _ _, p => by simp [D.plain] at p
  | _, _, .ins _ _ _ _, p => by simp [D.plain] at p
theorem DAs.toF (r : Rep B H F σ S os) : ∀ {vs : List V} {ds : List D}, DAs B H (orF F (osL os L)) vs ds → D.plains ds = true → DAs B H F vs ds
  | _, _, .nil, _ => .nil
  | _, _, .cons h q, p => by
    simp only [D.plains, Bool.and_eq_true] at p
    exact .cons (DA.toF r h p.1) (DAs.toF r q p.2)
end
theorem VA.toF (r : Rep B H F σ S os) {v : V} {x : SV} {o : List Addr} (h : VA B H (orF F (osL os L)) v x o) (p : x.plain = true) : VA B H F v x o := by
  cases x with
  | sh d => exact ⟨h.1, h.2.toF r p⟩
  | li ds => obtain ⟨a, xs, e, eo, nf, hh, q⟩ := h; exact ⟨a, xs, e, eo, fun z => nf (.inl z), hh, q.toF r p⟩
  | lk ds => cases p
  | ll ds =>
    obtain ⟨a, as, e, eo, nd, nf, hh, q⟩ := h
    refine ⟨a, as, e, eo, nd, fun b hb z => nf b hb (.inl z), hh, ?_⟩
    clear nd nf hh e eo
    induction q with
    | nil => exact .nil
    | cons h q _ ih =>
      simp only [SV.plain, List.all_cons, Bool.and_eq_true] at p
      exact .cons h (q.toF r p.1) (ih p.2)
  | dK ds => obtain ⟨a, xs, e, eo, nf, hh, e2, q⟩ := h; exact ⟨a, xs, e, eo, fun z => nf (.inl z), hh, e2, q.toF r p⟩
  | dT ds => obtain ⟨a, xs, e, eo, nf, hh, e2, q⟩ := h; exact ⟨a, xs, e, eo, fun z => nf (.inl z), hh, e2, q.toF r p⟩
  | ob c ds => obtain ⟨a, dx, xs, e, eo, nf, hh, e2, q⟩ := h; exact ⟨a, dx, xs, e, eo, fun z => nf (.inl z), hh, e2, q.toF r p⟩
end

@[simp] def frz1 (S : FSt) (i : Nat) : FSt := match S[i]? with
  | some (some (.sh _)) => S
  | some (some x) => S.set i (some (.sh x.fr))
  | _ => S
@[simp] def frzs : List Nat → FSt → FSt
  | [], S => S
  | i :: L, S => frzs L (frz1 S i)
theorem frz1_get (S : FSt) (i j : Nat) : (frz1 S i)[j]? = if j = i then (S[j]?).map (Option.map fun x => .sh x.fr) else S[j]? := by
  unfold frz1
  split
  · rename_i d e
    by_cases h : j = i
    · subst h; rw [if_pos rfl, e]; rfl
    · rw [if_neg h]
  · rename_i x _ e
    by_cases h : j = i
    · subst h
      rw [if_pos rfl, e]
      have : j < S.length := (List.getElem?_eq_some_iff.mp e).1
      simp [List.getElem?_set, this]
    · rw [if_neg h]
      simp [List.getElem?_set, Ne.symm h]
  · rename_i h1 h2
    by_cases h : j = i
    · subst h
      rw [if_pos rfl]
      cases q : S[j]? with
      | none => rfl
      | some z => cases z with
        | none => rfl
        | some x => exact absurd q (h2 x)
    · rw [if_neg h]
theorem frzs_get : ∀ (L : List Nat) (S : FSt) (j : Nat), (frzs L S)[j]? = if j ∈ L then (S[j]?).map (Option.map fun x => .sh x.fr) else S[j]?
  | [], S, j => by simp [frzs]
  | i :: L, S, j => by
    rw [frzs, frzs_get L, frz1_get]
    by_cases h : j = i
    · subst h
      simp only [if_pos rfl, List.mem_cons, true_or, if_true]
      split
      · cases S[j]? with
        | none => rfl
        | some z => cases z <;> rfl
      · rfl
    · simp [h]
theorem frz1_len (S : FSt) (i : Nat) : (frz1 S i).length = S.length := by
  unfold frz1
  split <;> simp
theorem frzs_len : ∀ (L : List Nat) (S : FSt), (frzs L S).length = S.length
  | [], _ => rfl
  | i :: L, S => by rw [frzs, frzs_len L, frz1_len]
def lkO : Option SV → Bool
  | some (.lk _) => true
  | some (.ob _ _) => true
  | _ => false
@[simp] def isLk (S : FSt) (i : Nat) : Bool := lkO (S[i]?.join)
@[simp] theorem lkO_none : lkO none = false := rfl
@[simp] theorem lkO_sh (d : D) : lkO (some (.sh d)) = false := rfl
@[simp] theorem lkO_li (d : List D) : lkO (some (.li d)) = false := rfl
@[simp] theorem lkO_ll (d : List (List D)) : lkO (some (.ll d)) = false := rfl
@[simp] theorem lkO_dK (d : List (Key × D)) : lkO (some (.dK d)) = false := rfl
@[simp] theorem lkO_dT (d : List (List Key × D)) : lkO (some (.dT d)) = false := rfl
@[simp] theorem lkO_lk (d : List D) : lkO (some (.lk d)) = true := rfl
@[simp] theorem lkO_ob (c : Nat) (d : List (Str × D)) : lkO (some (.ob c d)) = true := rfl
@[simp] theorem lkO_map (x : Option D) : lkO (x.map SV.sh) = false := by cases x <;> rfl
section
variable {B : Bk} {H H' : Hp} {F F' : Addr → Prop} {σ : St} {S : FSt} {os : Nat → List Addr} {L : List Nat}
theorem Rep.frz (r : Rep B H F σ S os) (L : List Nat) : Rep B H (orF F (osL os L)) σ (frzs L S) (fun j => if j ∈ L then [] else os j) := by
  refine ⟨fun i x h => ?_, fun i h => ?_, fun i j a e1 e2 => ?_, r.gd L, by rw [frzs_len]; exact r.len⟩
  · rw [frzs_get] at h
    by_cases q : i ∈ L
    · rw [if_pos q] at h
      rw [if_pos q]
      cases e : S[i]? with
      | none => rw [e] at h; cases h
      | some z => cases z with
        | none => rw [e] at h; cases h
        | some y =>
          rw [e] at h; cases h
          obtain ⟨v, h1, h2⟩ := r.at' i y e
          exact ⟨v, h1, rfl, h2.frozen (fun b z => .inl z) fun b z => .inr ⟨i, q, z⟩⟩
    · rw [if_neg q] at h
      rw [if_neg q]
      obtain ⟨v, h1, h2⟩ := r.at' i x h
      refine ⟨v, h1, h2.sub (fun b z => .inl z) fun b e z => ?_⟩
      rcases z with z | ⟨j, hj, z⟩
      · exact (r.alive e).2 z
      · exact q (r.inj i j b e z ▸ hj)
  · show (if i ∈ L then [] else os i) = []
    by_cases q : i ∈ L
    · rw [if_pos q]
    · rw [if_neg q]
      refine r.out i fun x e => h x ?_
      rw [frzs_get, if_neg q]; exact e
  · have e1 : a ∈ (if i ∈ L then [] else os i) := e1
    have e2 : a ∈ (if j ∈ L then [] else os j) := e2
    split at e1
    · simp at e1
    · split at e2
      · simp at e2
      · exact r.inj i j a e1 e2
theorem Rep.set (r : Rep B H F σ S os) {i : Nat} {v : V} {x : SV} {o : List Addr} (va : VA B H F v x o) (no : ∀ b, b ∈ o → ∀ j, j ≠ i → b ∉ os j) (hi : i < S.length) :
    Rep B H F (σ.set i (some v)) (S.set i (some x)) (fun j => if j = i then o else os j) := by
  refine ⟨fun j y h => ?_, fun j h => ?_, fun j k a e1 e2 => ?_, r.fd, by simp [r.len]⟩
  · by_cases q : j = i
    · subst q
      simp only [List.getElem?_set, if_pos rfl, hi, if_true] at h
      cases h
      have hs : j < σ.length := by rw [r.len]; exact hi
      exact ⟨v, by simp [List.getElem?_set, hs], by rw [if_pos rfl]; exact va⟩
    · simp only [List.getElem?_set, if_neg (Ne.symm q)] at h
      obtain ⟨w, h1, h2⟩ := r.at' j y h
      exact ⟨w, by simp only [List.getElem?_set, if_neg (Ne.symm q)]; exact h1, by rw [if_neg q]; exact h2⟩
  · by_cases q : j = i
    · subst q
      exact absurd (by simp [List.getElem?_set, hi]) (h x)
    · show (if j = i then o else os j) = []
      rw [if_neg q]
      refine r.out j fun y e => h y ?_
      simp only [List.getElem?_set, if_neg (Ne.symm q)]; exact e
  · have e1 : a ∈ (if j = i then o else os j) := e1
    have e2 : a ∈ (if k = i then o else os k) := e2
    by_cases q1 : j = i
    · by_cases q2 : k = i
      · rw [q1, q2]
      · rw [if_pos q1] at e1; rw [if_neg q2] at e2; exact absurd e2 (no a e1 k q2)
    · by_cases q2 : k = i
      · rw [if_neg q1] at e1; rw [if_pos q2] at e2; exact absurd e1 (no a e2 j q1)
      · rw [if_neg q1] at e1; rw [if_neg q2] at e2; exact r.inj j k a e1 e2
end

inductive Fl where
  | nx (S : FSt) | rt (x : SV) | bk (S : FSt) | ct (S : FSt) | bad
structure FStep (σ : St) (S : FSt) (H : Hp) (F : Addr → Prop) (os : Nat → List Addr) (σ' : St) (S' : FSt) (H' : Hp) (F' : Addr → Prop) (os' : Nat → List Addr) : Prop where
  keep : ∀ b o, H b = some o → (∀ i, b ∉ os i) → H' b = some o
  liv : ∀ b, H b ≠ none → H' b ≠ none
  up : ∀ b, F b → F' b
  new : ∀ b, F' b → F b ∨ H b = none ∨ (∃ i, b ∈ os i) ∨ isT H b
  own : ∀ i b, b ∈ os' i → H b = none ∨ ∃ j, b ∈ os j
  lok : ∀ (i : Nat) (xs : List D), S[i]? = some (some (SV.lk xs)) → S'[i]? = some (some (SV.lk xs)) ∧ σ'[i]? = σ[i]?
  lob : ∀ (i c : Nat) (fs : List (Str × D)), S[i]? = some (some (SV.ob c fs)) → (∃ fs', S'[i]? = some (some (SV.ob c fs'))) ∧ σ'[i]? = σ[i]?
structure FStepR (H : Hp) (F : Addr → Prop) (os : Nat → List Addr) (H' : Hp) (F' : Addr → Prop) (o : List Addr) : Prop where
  keep : ∀ b u, H b = some u → (∀ i, b ∉ os i) → H' b = some u
  up : ∀ b, F b → F' b
  new : ∀ b, F' b → F b ∨ H b = none ∨ (∃ i, b ∈ os i) ∨ isT H b
  own : ∀ b, b ∈ o → H b = none ∨ ∃ j, b ∈ os j
  fd : ∀ b, F' b → H' b ≠ none
section
variable {σ σ1 σ2 : St} {S S1 S2 : FSt} {H H1 H2 : Hp} {F F1 F2 : Addr → Prop} {os os1 os2 : Nat → List Addr} {o : List Addr}
theorem FStep.refl : FStep σ S H F os σ S H F os := ⟨fun _ _ h _ => h, fun _ h => h, fun _ h => h, fun _ h => .inl h, fun i b h => .inr ⟨i, h⟩, fun i xs h => ⟨h, rfl⟩, fun i c fs h => ⟨⟨fs, h⟩, rfl⟩⟩
theorem FStep.outside (a : FStep σ S H F os σ1 S1 H1 F1 os1) {b : Addr} {u : HO} (h : H b = some u) (n : ∀ i, b ∉ os i) : ∀ i, b ∉ os1 i := fun i e => by
  rcases a.own i b e with q | ⟨j, q⟩
  · rw [q] at h; cases h
  · exact n j q
theorem none_back {b : Addr} (l : ∀ b, H b ≠ none → H1 b ≠ none) (h : H1 b = none) : H b = none := by
  cases e : H b with
  | none => rfl
  | some u => exact absurd h (l b (by rw [e]; simp))
theorem FStep.trans (a : FStep σ S H F os σ1 S1 H1 F1 os1) (c : FStep σ1 S1 H1 F1 os1 σ2 S2 H2 F2 os2) : FStep σ S H F os σ2 S2 H2 F2 os2 := by
  refine ⟨fun b u h n => c.keep b u (a.keep b u h n) (a.outside h n), fun b h => c.liv b (a.liv b h), fun b h => c.up b (a.up b h), fun b h => ?_, fun i b h => ?_, fun i xs h => ?_, fun i k fs h => ?_⟩
  · rcases c.new b h with q | q | ⟨i, q⟩ | ⟨ys, q⟩
    · exact a.new b q
    · exact .inr (.inl (none_back a.liv q))
    · rcases a.own i b q with q | q
      · exact .inr (.inl q)
      · exact .inr (.inr (.inl q))
    · cases e : H b with
      | none => exact .inr (.inl rfl)
      | some u =>
        by_cases z : ∃ i, b ∈ os i
        · exact .inr (.inr (.inl z))
        · have := a.keep b u e fun i hi => z ⟨i, hi⟩
          rw [q] at this; cases this
          exact .inr (.inr (.inr ⟨ys, e⟩))
  · rcases c.own i b h with q | ⟨j, q⟩
    · exact .inl (none_back a.liv q)
    · exact a.own j b q
  · obtain ⟨h1, h2⟩ := a.lok i xs h
    obtain ⟨h3, h4⟩ := c.lok i xs h1
    exact ⟨h3, h4.trans h2⟩
  · obtain ⟨⟨fs1, h1⟩, h2⟩ := a.lob i k fs h
    obtain ⟨h3, h4⟩ := c.lob i k fs1 h1
    exact ⟨h3, h4.trans h2⟩
theorem FStep.transR (a : FStep σ S H F os σ1 S1 H1 F1 os1) (c : FStepR H1 F1 os1 H2 F2 o) : FStepR H F os H2 F2 o := by
  refine ⟨fun b u h n => c.keep b u (a.keep b u h n) (a.outside h n), fun b h => c.up b (a.up b h), fun b h => ?_, fun b h => ?_, c.fd⟩
  · rcases c.new b h with q | q | ⟨i, q⟩ | ⟨ys, q⟩
    · exact a.new b q
    · exact .inr (.inl (none_back a.liv q))
    · rcases a.own i b q with q | q
      · exact .inr (.inl q)
      · exact .inr (.inr (.inl q))
    · cases e : H b with
      | none => exact .inr (.inl rfl)
      | some u =>
        by_cases z : ∃ i, b ∈ os i
        · exact .inr (.inr (.inl z))
        · have := a.keep b u e fun i hi => z ⟨i, hi⟩
          rw [q] at this; cases this
          exact .inr (.inr (.inr ⟨ys, e⟩))
  · rcases c.own b h with q | ⟨j, q⟩
    · exact .inl (none_back a.liv q)
    · exact a.own j b q
theorem Al.step (a : Al H F H1 F1) : FStep σ S H F os σ S H1 F1 os := by
  refine ⟨fun b u h _ => a.same b u h, fun b h => ?_, a.up, fun b h => ?_, fun i b h => .inr ⟨i, h⟩, fun i xs h => ⟨h, rfl⟩, fun i c fs h => ⟨⟨fs, h⟩, rfl⟩⟩
  · cases e : H b with
    | none => exact absurd e h
    | some u => rw [a.same b u e]; simp
  · rcases a.new b h with q | q | q
    · exact .inl q
    · exact .inr (.inl q.1)
    · exact .inr (.inr (.inr q))
end
def Lands (B : Bk) (σ : St) (S : FSt) (H : Hp) (F : Addr → Prop) (os : Nat → List Addr) (D : Ends) : Fl → Prop
  | .nx S' => ∀ σ' H' F' os', FStep σ S H F os σ' S' H' F' os' → Rep B H' F' σ' S' os' → D.nx σ' H'
  | .bk S' => ∀ σ' H' F' os', FStep σ S H F os σ' S' H' F' os' → Rep B H' F' σ' S' os' → D.bk σ' H'
  | .ct S' => ∀ σ' H' F' os', FStep σ S H F os σ' S' H' F' os' → Rep B H' F' σ' S' os' → D.ct σ' H'
  | .rt x => ∀ v H' F' o, FStepR H F os H' F' o → VA B H' F' v x o → D.rt v H'
  | .bad => False
def FS (B : Bk) (t : TS) (m : FSt → Fl) : Prop :=
  ∀ (S : FSt) (σ : St) (H : Hp) (F : Addr → Prop) (os : Nat → List Addr) (D : Ends), Rep B H F σ S os → Lands B σ S H F os D (m S) → t D σ H
section
variable {B : Bk} {σ σ1 : St} {S S1 : FSt} {H H1 : Hp} {F F1 : Addr → Prop} {os os1 : Nat → List Addr} {E : Ends}
theorem Lands.later {r : Fl} (h : Lands B σ S H F os E r) (a : FStep σ S H F os σ1 S1 H1 F1 os1) : Lands B σ1 S1 H1 F1 os1 E r := by
  cases r with
  | nx S' => exact fun σ' H' F' os' st => h σ' H' F' os' (a.trans st)
  | bk S' => exact fun σ' H' F' os' st => h σ' H' F' os' (a.trans st)
  | ct S' => exact fun σ' H' F' os' st => h σ' H' F' os' (a.trans st)
  | rt x => exact fun v H' F' o st => h v H' F' o (a.transR st)
  | bad => exact h
end

@[simp] def mSeq (a b : FSt → Fl) : FSt → Fl := fun S => match a S with
  | .nx S1 => b S1
  | r => r
@[simp] def mPass : FSt → Fl := fun S => .nx S
@[simp] def put (i : Nat) (L : List Nat) (x : SV) (S : FSt) : Fl :=
  if i < S.length ∧ isLk S i = false ∧ (x.plain = true ∨ L.any (isLk S) = false) then .nx ((if x.plain = true then S else frzs L S).set i (some x)) else .bad
@[simp] def mSet (i : Nat) (L : List Nat) (m : FSt → Option SV) : FSt → Fl := fun S => match m S with
  | some x => put i L x S
  | none => .bad
@[simp] def mRet (m : FSt → Option SV) : FSt → Fl := fun S => match m S with
  | some x => .rt x
  | none => .bad
@[simp] def SV.un : SV → SV
  | .lk xs => .li xs
  | x => x
@[simp] def mRetV (i : Nat) : FSt → Fl := fun S => match S[i]?.join with
  | some x => .rt x.un
  | none => .bad
@[simp] def mRetN : FSt → Fl := fun _ => .rt (.sh .non)
@[simp] def mDo (m : FSt → Option SV) : FSt → Fl := fun S => match m S with
  | some _ => .nx S
  | none => .bad
@[simp] def mIf (c : FSt → Option Bool) (a b : FSt → Fl) : FSt → Fl := fun S => match c S with
  | some true => a S
  | some false => b S
  | none => .bad
@[simp] def mBad : FSt → Fl := fun _ => .bad
@[simp] def mBrk : FSt → Fl := fun S => .bk S
@[simp] def mCnt : FSt → Fl := fun S => .ct S
@[simp] def mApp (i : Nat) (L : List Nat) (m : FSt → Option D) : FSt → Fl := fun S => match m S with
  | some d => if d.plain = true ∨ L.any (isLk S) = false then
      match (if d.plain = true then S else frzs L S)[i]? with
      | some (some (.li xs)) => if xs.length < sizeLine then .nx ((if d.plain = true then S else frzs L S).set i (some (.li (xs ++ [d])))) else .bad
      | _ => .bad
    else .bad
  | none => .bad
section
variable {B : Bk} {te : TE} {L : List Nat} {me : FSt → Option SV} {md : FSt → Option D} {t u : TS} {ma mb : FSt → Fl} {tt : TT} {mt : FSt → Option Bool}
theorem fs_next : FS B tNext mPass := fun S σ H F os E r h => h σ H F os FStep.refl r
theorem fs_seq (h1 : FS B t ma) (h2 : FS B u mb) : FS B (tSeq t u) (mSeq ma mb) := by
  intro S σ H F os E r h
  refine h1 S σ H F os _ r ?_
  unfold mSeq at h
  cases q : ma S with
  | nx S1 =>
    rw [q] at h
    intro σ' H' F' os' st r'
    exact h2 S1 σ' H' F' os' E r' (h.later st)
  | bk S1 => rw [q] at h; exact h
  | ct S1 => rw [q] at h; exact h
  | rt x => rw [q] at h; exact h
  | bad => rw [q] at h; exact h
theorem fs_if (hc : FT B tt mt) (h1 : FS B t ma) (h2 : FS B u mb) : FS B (tIfS tt t u) (mIf mt ma mb) := by
  intro S σ H F os E r h
  unfold mIf at h
  cases q : mt S with
  | none => rw [q] at h; exact h.elim
  | some c =>
    rw [q] at h
    refine hc S σ H F os _ c r q fun H' F' a r' => ?_
    cases c with
    | true => rw [if_pos rfl]; exact h1 S σ H' F' os E r' (h.later a.step)
    | false => rw [if_neg Bool.false_ne_true]; exact h2 S σ H' F' os E r' (h.later a.step)
theorem fs_ret (he : FE B te L me) : FS B (tRet te) (mRet me) := by
  intro S σ H F os E r h
  unfold mRet at h
  cases q : me S with
  | none => rw [q] at h; exact h.elim
  | some x =>
    rw [q] at h
    refine he S σ H F os _ x r q fun v H' F' o a r' va fr => h v H' _ o ⟨fun b u e _ => a.same b u e, fun b z => .inl (a.up b z), fun b z => ?_, fun b z => .inl (fr b z), r'.gd L⟩ va
    rcases z with z | ⟨i, _, z⟩
    · rcases a.new b z with z | z | z
      · exact .inl z
      · exact .inr (.inl z.1)
      · exact .inr (.inr (.inr z))
    · exact .inr (.inr (.inl ⟨i, z⟩))
theorem fs_retV (i : Nat) : FS B (tRet (tVar i)) (mRetV i) := by
  intro S σ H F os E r h
  unfold mRetV at h
  cases q : S[i]? with
  | none => rw [q] at h; exact h.elim
  | some z => cases z with
    | none => rw [q] at h; exact h.elim
    | some x =>
      rw [q] at h
      obtain ⟨v, h1, h2⟩ := r.at' i x q
      refine ⟨v, h1, h v H F (os i) ⟨fun b u e _ => e, fun b z => z, fun b z => .inl z, fun b z => .inr ⟨i, z⟩, r.fd⟩ ?_⟩
      cases x <;> exact h2
theorem put_ok {S : FSt} {σ : St} {H H' : Hp} {F F' : Addr → Prop} {os : Nat → List Addr} {i : Nat} {v : V} {x : SV} {o : List Addr} {E : Ends} (r : Rep B H F σ S os) (h : Lands B σ S H F os E (put i L x S)) (a : Al H F H' F') (r' : Rep B H' F' σ S os)
    (va : VA B H' (orF F' (osL os L)) v x o) (fr : ∀ b, b ∈ o → H b = none) : E.nx (σ.set i (some v)) H' := by
  unfold put at h
  split at h
  case isFalse => exact h.elim
  case isTrue c =>
    obtain ⟨hi, hl, hp⟩ := c
    have lokI : ∀ (S' : FSt), (∀ (j : Nat) (xs : List D), S[j]? = some (some (SV.lk xs)) → j ≠ i → S'[j]? = some (some (SV.lk xs))) → ∀ (j : Nat) (xs : List D), S[j]? = some (some (SV.lk xs)) → (S'.set i (some x))[j]? = some (some (SV.lk xs)) ∧ (σ.set i (some v))[j]? = σ[j]? := fun S' hS j xs e => by
      have hj : j ≠ i := by rintro rfl; unfold isLk at hl; rw [e] at hl; cases hl
      exact ⟨by rw [List.getElem?_set_ne (Ne.symm hj)]; exact hS j xs e hj, by rw [List.getElem?_set_ne (Ne.symm hj)]⟩
    have lobI : ∀ (S' : FSt), (∀ (j c : Nat) (fs : List (Str × D)), S[j]? = some (some (SV.ob c fs)) → j ≠ i → S'[j]? = some (some (SV.ob c fs))) → ∀ (j c : Nat) (fs : List (Str × D)), S[j]? = some (some (SV.ob c fs)) → (∃ fs', (S'.set i (some x))[j]? = some (some (SV.ob c fs'))) ∧ (σ.set i (some v))[j]? = σ[j]? := fun S' hS j c fs e => by
      have hj : j ≠ i := by rintro rfl; unfold isLk at hl; rw [e] at hl; cases hl
      exact ⟨⟨fs, by rw [List.getElem?_set_ne (Ne.symm hj)]; exact hS j c fs e hj⟩, by rw [List.getElem?_set_ne (Ne.symm hj)]⟩
    by_cases p : x.plain = true
    · rw [if_pos p] at h
      have va' := va.toF r' p
      have r2 := r'.set (i := i) va' (fun b e j _ z => (r.alive z).1 (fr b e)) hi
      refine h _ H' F' _ ⟨fun b u e _ => a.same b u e, a.step (σ := σ) (S := S) (os := os) |>.liv, a.up, a.step (σ := σ) (S := S) (os := os) |>.new, fun j b e => ?_, lokI S fun j xs e _ => e, lobI S fun j c fs e _ => e⟩ r2
      have e : b ∈ (if j = i then o else os j) := e
      split at e
      · exact .inl (fr b e)
      · exact .inr ⟨j, e⟩
    · rw [if_neg p] at h
      have hp : L.any (isLk S) = false := hp.resolve_left p
      have r1 := r'.frz L
      have r2 := r1.set (i := i) va (fun b e j _ z => by
        have z : b ∈ (if j ∈ L then [] else os j) := z
        split at z
        · simp at z
        · exact (r.alive z).1 (fr b e)) (by rw [frzs_len]; exact hi)
      refine h _ H' _ _ ⟨fun b u e _ => a.same b u e, a.step (σ := σ) (S := S) (os := os) |>.liv, fun b z => .inl (a.up b z), fun b z => ?_, fun j b e => ?_, lokI (frzs L S) fun j xs e _ => ?_, lobI (frzs L S) fun j c fs e _ => ?_⟩ r2
      · rcases z with z | ⟨k, _, z⟩
        · exact (a.step (σ := σ) (S := S) (os := os)).new b z
        · exact .inr (.inr (.inl ⟨k, z⟩))
      · have e : b ∈ (if j = i then o else if j ∈ L then [] else os j) := e
        split at e
        · exact .inl (fr b e)
        · split at e
          · simp at e
          · exact .inr ⟨j, e⟩
      · rw [frzs_get, if_neg, e]
        intro z
        rw [List.any_eq_false] at hp
        have := hp j z
        unfold isLk at this
        rw [e] at this
        exact this rfl
      · rw [frzs_get, if_neg, e]
        intro z
        rw [List.any_eq_false] at hp
        have := hp j z
        unfold isLk at this
        rw [e] at this
        exact this rfl
theorem fs_set {i : Nat} (he : FE B te L me) : FS B (tAsg te (gName i)) (mSet i L me) := by
  intro S σ H F os E r h
  unfold mSet at h
  cases q : me S with
  | none => rw [q] at h; exact h.elim
  | some x =>
    rw [q] at h
    exact he S σ H F os _ x r q fun v H' F' o a r' va fr => put_ok r h a r' va fr
end
end L2

set_option Elab.async false
set_option linter.all false
set_option maxRecDepth 100000
set_option maxHeartbeats 4000000
namespace L2
open PySem PySem.Spec PyProof.Rows

section
variable {B : Bk} {H H' : Hp} {F F' : Addr → Prop} {σ : St} {S : FSt} {os : Nat → List Addr} {L : List Nat}
theorem Rep.write (r : Rep B H F σ S os) {i : Nat} {a : Addr} {u : HO} {x : SV} {v : V} (e : a ∈ os i) (hv : σ[i]? = some (some v)) (va : VA B (upd H a u) F v x (os i)) : Rep B (upd H a u) F σ (S.set i (some x)) os := by
  obtain ⟨y, v', h1, h2, h3⟩ := r.own e
  have hi : i < S.length := (List.getElem?_eq_some_iff.mp h1).1
  have hF : ∀ b o, F b → H b = some o → upd H a u b = some o := fun b o f h => by rw [upd_ne]; exact h; rintro rfl; exact (r.alive e).2 f
  refine ⟨fun j z h => ?_, fun j h => ?_, r.inj, fun b h => ?_, by simp [r.len]⟩
  · by_cases q : j = i
    · subst q
      simp only [List.getElem?_set, if_pos rfl, hi, if_true] at h
      cases h
      exact ⟨v, hv, va⟩
    · simp only [List.getElem?_set, if_neg (Ne.symm q)] at h
      obtain ⟨w, k1, k2⟩ := r.at' j z h
      refine ⟨w, k1, k2.mono hF (fun b o ob h => ?_) (fun _ h => h) fun b ob => (r.alive ob).2⟩
      rw [upd_ne]; exact h
      rintro rfl
      exact q (r.inj j i b ob e)
  · by_cases q : j = i
    · subst q
      exact absurd (by simp [List.getElem?_set, hi]) (h x)
    · refine r.out j fun y k => h y ?_
      simp only [List.getElem?_set, if_neg (Ne.symm q)]; exact k
  · unfold upd
    split
    · simp
    · exact r.fd b h
theorem write_step {a : Addr} {u : HO} {i : Nat} {x : SV} (e : a ∈ os i) (nl : isLk S i = false ∨ ∃ c fs fs', S[i]? = some (some (SV.ob c fs)) ∧ x = .ob c fs') : FStep σ S H F os σ (S.set i (some x)) (upd H a u) F os := by
  refine ⟨fun b o h n => ?_, fun b h => ?_, fun _ h => h, fun _ h => .inl h, fun j b h => .inr ⟨j, h⟩, fun j xs h => ⟨?_, rfl⟩, fun j c fs h => ⟨?_, rfl⟩⟩
  · rw [upd_ne]; exact h
    rintro rfl; exact n i e
  · unfold upd
    split
    · simp
    · exact h
  · have hj : j ≠ i := by
      rintro rfl
      rcases nl with nl | ⟨c, fs, fs', nl, _⟩
      · unfold isLk at nl; rw [h] at nl; cases nl
      · rw [h] at nl; cases nl
    rw [List.getElem?_set_ne (Ne.symm hj)]; exact h
  · by_cases hj : j = i
    · subst hj
      rcases nl with nl | ⟨c', fs1, fs', nl, rfl⟩
      · unfold isLk at nl; rw [h] at nl; cases nl
      · rw [h] at nl; cases nl
        exact ⟨fs', by simp [List.getElem?_set, (List.getElem?_eq_some_iff.mp h).1]⟩
    · exact ⟨fs, by rw [List.getElem?_set_ne (Ne.symm hj)]; exact h⟩
theorem frz_step (r : Rep B H F σ S os) (nl : L.any (isLk S) = false) : FStep σ S H F os σ (frzs L S) H (orF F (osL os L)) (fun j => if j ∈ L then [] else os j) := by
  refine ⟨fun b o h n => h, fun b h => h, fun _ h => .inl h, fun b h => ?_, fun j b h => ?_, fun j xs h => ⟨?_, rfl⟩, fun j c fs h => ⟨⟨fs, ?_⟩, rfl⟩⟩
  · rcases h with h | ⟨i, _, h⟩
    · exact .inl h
    · exact .inr (.inr (.inl ⟨i, h⟩))
  · have h : b ∈ (if j ∈ L then [] else os j) := h
    split at h
    · simp at h
    · exact .inr ⟨j, h⟩
  · rw [frzs_get, if_neg, h]
    intro z
    rw [List.any_eq_false] at nl
    have := nl j z
    unfold isLk at this
    rw [h] at this
    exact this rfl
  · rw [frzs_get, if_neg, h]
    intro z
    rw [List.any_eq_false] at nl
    have := nl j z
    unfold isLk at this
    rw [h] at this
    exact this rfl
end
section
variable {B : Bk} {te : TE} {L : List Nat} {md : FSt → Option D}
theorem fs_app {i : Nat} {K : PySem.W.Frag} (hK : B.K = K) (he : FD B te L md) : FS B (tDrop (tBM K "list" rAppend (tVar i) (tCons te tNil))) (mApp i L md) := by
  subst hK
  intro S σ H F os E r h
  unfold mApp at h
  cases q : md S with
  | none => rw [q] at h; exact h.elim
  | some d =>
    rw [q] at h
    dsimp only at h
    split at h
    case isFalse => exact h.elim
    case isTrue c =>
      split at h
      case h_2 => exact h.elim
      case h_1 xs hx =>
        split at h
        case isFalse => exact h.elim
        case isTrue hz =>
          have hS : S[i]? = some (some (.li xs)) ∧ (d.plain = true ∨ i ∉ L) := by
            by_cases p : d.plain = true
            · rw [if_pos p] at hx; exact ⟨hx, .inl p⟩
            · rw [if_neg p, frzs_get] at hx
              by_cases hi : i ∈ L
              · rw [if_pos hi] at hx
                cases e : S[i]? with
                | none => rw [e] at hx; cases hx
                | some z => cases z with
                  | none => rw [e] at hx; cases hx
                  | some y => rw [e] at hx; cases hx
              · rw [if_neg hi] at hx; exact ⟨hx, .inr hi⟩
          obtain ⟨v, hv, a, vs, rfl, eo, nf, hh, das⟩ := r.at' i _ hS.1
          have nl : isLk S i = false := by unfold isLk; rw [hS.1]; rfl
          refine ⟨.ref a, hv, .inl ⟨rfl, vs, .inl (.inl hh)⟩, he S σ H F os _ d r q fun w H' F' al r' da => ?_⟩
          obtain ⟨v', hv', a', vs', e1, eo', nf', hh', das'⟩ := r'.at' i _ hS.1
          have ea : a' = a := by rw [eo] at eo'; exact (List.cons.inj eo').1.symm
          subst ea
          refine ⟨a', vs', w, rfl, rfl, hh', by rw [das'.length]; exact hz, ?_⟩
          have st1 : FStep σ S H F os σ S H' F' os := al.step
          have em : a' ∈ os i := by rw [eo]; simp
          by_cases p : d.plain = true
          · rw [if_pos p] at h
            have da' := da.toF r' p
            have hk : ∀ b o, F' b → H' b = some o → upd H' a' (.lst (vs' ++ [w])) b = some o := fun b o f h => by rw [upd_ne]; exact h; rintro rfl; exact nf' f
            have r2 := r'.write (u := .lst (vs' ++ [w])) (x := .li (xs ++ [d])) em hv ⟨a', vs' ++ [w], rfl, eo, nf', upd_same, (das'.append (.cons da' .nil)).mono hk fun _ h => h⟩
            exact h σ _ F' os (st1.trans (write_step em (.inl nl))) r2
          · rw [if_neg p] at h
            have hi := hS.2.resolve_left p
            have c' := c.resolve_left p
            have r1 := r'.frz L
            have eo1 : (fun j => if j ∈ L then [] else os j) i = [a'] := by show (if i ∈ L then [] else os i) = _; rw [if_neg hi]; exact eo
            have em1 : a' ∈ (fun j => if j ∈ L then [] else os j) i := by rw [eo1]; simp
            have nf1 : ¬ orF F' (osL os L) a' := fun z => by
              rcases z with z | ⟨k, hk, z⟩
              · exact nf' z
              · exact hi (r.inj i k a' em z ▸ hk)
            have hk : ∀ b o, orF F' (osL os L) b → H' b = some o → upd H' a' (.lst (vs' ++ [w])) b = some o := fun b o f h => by rw [upd_ne]; exact h; rintro rfl; exact nf1 f
            have d0 : DAs B H' (orF F' (osL os L)) vs' xs := das'.mono (fun _ _ _ e => e) fun _ h => .inl h
            have r2 := r1.write (u := .lst (vs' ++ [w])) (x := .li (xs ++ [d])) em1 hv ⟨a', vs' ++ [w], rfl, eo1, nf1, upd_same, (d0.append (.cons da .nil)).mono hk fun _ h => h⟩
            have nl1 : isLk (frzs L S) i = false := by unfold isLk; rw [frzs_get, if_neg hi, hS.1]; rfl
            exact h σ _ _ _ ((st1.trans (frz_step r' c')).trans (write_step em1 (.inl nl1))) r2
end

def FG (B : Bk) (g : TG) (m : D → FSt → Option FSt) : Prop :=
  ∀ (S : FSt) (σ : St) (H : Hp) (F : Addr → Prop) (os : Nat → List Addr) (v : V) (d : D) (S' : FSt) (Q : St → Hp → Prop), Rep B H F σ S os → DA B H F v d → m d S = some S' →
    (∀ σ' os', FStep σ S H F os σ' S' H F os' → Rep B H F σ' S' os' → Q σ' H) → g v σ H Q
@[simp] def gN (i : Nat) : D → FSt → Option FSt := fun d S => if i < S.length ∧ isLk S i = false then some (S.set i (some (.sh d))) else none
@[simp] def gNs : List D → FSt → Option FSt := fun ds S => match ds with
  | [] => some S
  | _ => none
@[simp] def gCs (a : D → FSt → Option FSt) (r : List D → FSt → Option FSt) : List D → FSt → Option FSt := fun ds S => match ds with
  | d :: ds => (a d S).bind (r ds)
  | _ => none
@[simp] def gSq (n : Nat) (r : List D → FSt → Option FSt) : D → FSt → Option FSt := fun d S => match d with
  | .tup ds => if ds.length = n then r ds S else none
  | .lst ds => if ds.length = n then r ds S else none
  | .kt ds => if ds.length = n then r ds S else none
  | .fz ds => if ds.length = n then r ds S else none
  | _ => none
section
variable {B : Bk} {g : TG} {gs : TGs} {mg : D → FSt → Option FSt} {ms : List D → FSt → Option FSt}
theorem fg_name (i : Nat) : FG B (gName i) (gN i) := by
  intro S σ H F os v d S' Q r da e k
  unfold gN at e
  split at e
  case isFalse => cases e
  case isTrue c =>
    cases e
    have r2 := r.set (i := i) (v := v) (x := .sh d) (o := []) ⟨rfl, da⟩ (fun b e => absurd e (by simp)) c.1
    refine k _ _ ⟨fun b u h _ => h, fun _ h => h, fun _ h => h, fun _ h => .inl h, fun j b h => ?_, fun j xs h => ?_, fun j c' fs h => ?_⟩ r2
    · have h : b ∈ (if j = i then [] else os j) := h
      split at h
      · simp at h
      · exact .inr ⟨j, h⟩
    · have hj : j ≠ i := by rintro rfl; have := c.2; unfold isLk at this; rw [h] at this; cases this
      exact ⟨by rw [List.getElem?_set_ne (Ne.symm hj)]; exact h, by rw [List.getElem?_set_ne (Ne.symm hj)]⟩
    · have hj : j ≠ i := by rintro rfl; have := c.2; unfold isLk at this; rw [h] at this; cases this
      exact ⟨⟨fs, by rw [List.getElem?_set_ne (Ne.symm hj)]; exact h⟩, by rw [List.getElem?_set_ne (Ne.symm hj)]⟩
end

def Walks (B : Bk) (J : It) (H : Hp) (F : Addr → Prop) (its : List D) : Prop := ∀ (H2 : Hp) (F2 : Addr → Prop), (∀ b o, F b → H b = some o → H2 b = some o) → (∀ b, F b → F2 b) →
  (∀ i d, its[i]? = some d → J.go i H2 ∧ ∀ x H3, J.yld i H2 x H3 → ∃ F3, Al H2 F2 H3 F3 ∧ DA B H3 F3 x d) ∧ ∀ i, its.length ≤ i → J.stop i H2
def FI (B : Bk) (wi : TI) (m : FSt → Option (List D)) : Prop :=
  ∀ (S : FSt) (σ : St) (H : Hp) (F : Addr → Prop) (os : Nat → List Addr) (R : It → Hp → Prop) (its : List D), Rep B H F σ S os → m S = some its →
    (∀ J H' F', Al H F H' F' → Rep B H' F' σ S os → Walks B J H' F' its → R J H') → wi σ H R
@[simp] def unow (S : FSt) (i : Nat) : Bool := match S[i]? with
  | some (some (SV.sh _)) => true
  | some (some _) => false
  | _ => true
def chars (z : Str) : List D := z.cps.toList.map fun c => .str ⟨#[c]⟩
@[simp] def itemsD : D → Option (List D)
  | .lst ds => some ds
  | .tup ds => some ds
  | .kt ds => some ds
  | .fz ds => some ds
  | .str z => some (chars z)
  | _ => none
@[simp] def mIt (L : List Nat) (m : FSt → Option SV) : FSt → Option (List D) := fun S => (m S).bind fun x => if x.plain = true ∨ L.all (unow S) = true then itemsD x.fr else none
def rngD (lo : Int) (n : Nat) : List D := (List.range n).map fun (k : Nat) => .int (lo + k)
def fRng : List D → Option (List D)
  | [.int j] => if -(2 ^ 62) ≤ j ∧ j < 2 ^ 62 then some (rngD 0 j.toNat) else none
  | [.int i, .int j] => if -(2 ^ 62) ≤ i ∧ i < 2 ^ 62 ∧ -(2 ^ 62) ≤ j ∧ j < 2 ^ 62 then some (rngD i (j - i).toNat) else none
  | _ => none
section
variable {B : Bk} {te : TE} {L : List Nat} {me : FSt → Option SV} {tr : TA} {mr : FSt → Option (List D)}
theorem walks_lst {H : Hp} {F : Addr → Prop} {a : Addr} {xs : List V} {ds : List D} (h : ∀ H2, (∀ b o, F b → H b = some o → H2 b = some o) → SqL B.K H2 a xs) (q : DAs B H F xs ds) : Walks B (Itl B.K a) H F ds := by
  intro H2 F2 k up
  have h2 := h H2 k
  have q2 := q.mono k up
  refine ⟨fun i d e => ?_, fun i hi => ⟨xs, h2, by rw [q.length]; exact hi⟩⟩
  obtain ⟨v, e1, d1⟩ := q2.get e
  refine ⟨⟨xs, v, h2, e1⟩, fun x H3 y => ?_⟩
  obtain ⟨rfl, y⟩ := y
  have := y xs h2
  rw [e1] at this; cases this
  exact ⟨F2, Al.refl, d1⟩
theorem walks_tup {H : Hp} {F : Addr → Prop} {a : Addr} {xs : List V} {ds : List D} (h : ∀ H2, (∀ b o, F b → H b = some o → H2 b = some o) → SqT B.K H2 a xs) (q : DAs B H F xs ds) : Walks B (Itt B.K a) H F ds := by
  intro H2 F2 k up
  have h2 := h H2 k
  have q2 := q.mono k up
  refine ⟨fun i d e => ?_, fun i hi => ⟨xs, h2, by rw [q.length]; exact hi⟩⟩
  obtain ⟨v, e1, d1⟩ := q2.get e
  refine ⟨⟨xs, v, h2, e1⟩, fun x H3 y => ?_⟩
  obtain ⟨rfl, y⟩ := y
  have := y xs h2
  rw [e1] at this; cases this
  exact ⟨F2, Al.refl, d1⟩
theorem walks_str {H : Hp} {F : Addr → Prop} (z : Str) : Walks B (Its z) H F (chars z) := by
  intro H2 F2 k up
  refine ⟨fun i d e => ?_, fun i hi => by
    have hi : z.cps.size ≤ i := by simpa [chars] using hi
    exact hi⟩
  unfold chars at e
  rw [List.getElem?_map] at e
  cases q : z.cps.toList[i]? with
  | none => rw [q] at e; cases e
  | some c =>
    rw [q] at e; cases e
    have hlt : i < z.cps.size := by simpa using (List.getElem?_eq_some_iff.mp q).1
    refine ⟨hlt, fun x H3 y => ?_⟩
    obtain ⟨rfl, c', e', rfl⟩ := y
    have e2 : z.cps.toList[i]? = some c' := by simpa using e'
    rw [q] at e2; cases e2
    exact ⟨F2, Al.refl, .str _⟩
theorem walks_rng {H : Hp} {F : Addr → Prop} (lo : Int) (n : Nat) : Walks B (Itr lo n) H F (rngD lo n) := by
  intro H2 F2 k up
  refine ⟨fun i d e => ?_, fun i hi => by
    have hi : n ≤ i := by simpa [rngD] using hi
    exact hi⟩
  have hi : i < n := by have := (List.getElem?_eq_some_iff.mp e).1; simpa [rngD] using this
  have : (rngD lo n)[i]? = some (.int (lo + i)) := by simp [rngD, hi]
  rw [this] at e; cases e
  exact ⟨hi, fun x H3 y => by obtain ⟨rfl, rfl⟩ := y; exact ⟨F2, Al.refl, .int _⟩⟩
theorem toF_of {H : Hp} {F : Addr → Prop} {σ : St} {S : FSt} {os : Nat → List Addr} {v : V} {x : SV} {o : List Addr} (r : Rep B H F σ S os) (va : VA B H (orF F (osL os L)) v x o) (c : x.plain = true ∨ L.all (unow S) = true) : VA B H F v x o := by
  rcases c with c | c
  · exact va.toF r c
  · refine va.sub (fun b h => ?_) fun b e z => (va.alive e).2.1 (.inl z)
    rcases h with h | ⟨i, hi, e⟩
    · exact h
    · obtain ⟨y, w, h1, _, h2⟩ := r.own e
      have := List.all_eq_true.mp c i hi
      unfold unow at this
      rw [h1] at this
      cases y with
      | sh d => rw [h2.1] at e; simp at e
      | _ => cases this
theorem fi_seq {K : PySem.W.Frag} (hK : B.K = K) (he : FE B te L me) : FI B (iSeq K te) (mIt L me) := by
  subst hK
  intro S σ H F os R its r e k
  obtain ⟨x, ex, ef⟩ := bind1 e
  split at ef
  case isFalse => cases ef
  case isTrue c =>
    have key : ∀ (P : V → Hp → Prop), (∀ v H' F', Al H F H' F' → Rep B H' F' σ S os → DA B H' F' v x.fr → P v H') → te σ H P := fun P hP => by
      refine he S σ H F os P x r ex fun v H' F' o a r' va fr => ?_
      have va := toF_of r' va c
      have al : Al H F H' (fun b => F' b ∨ b ∈ o) := by
        refine ⟨a.same, fun b h => .inl (a.up b h), fun b h => ?_⟩
        rcases h with h | h
        · exact a.new b h
        · exact .inr (.inl ⟨fr b h, (va.alive h).1⟩)
      exact hP v H' _ al (r.mono al) (va.frozen (fun b h => .inl h) fun b h => .inr h)
    cases hx : x.fr with
    | lst ds =>
      rw [hx] at ef key; cases ef
      refine .inl (key _ fun v H' F' al r' da => ?_)
      cases da with
      | lst h q => exact ⟨_, rfl, ⟨_, h.sq⟩, k _ H' F' al r' (walks_lst (fun H2 kk => .inl (.inl (kk _ _ h.1 h.2))) q)⟩
    | fz ds =>
      rw [hx] at ef key; cases ef
      refine .inl (key _ fun v H' F' al r' da => ?_)
      cases da with
      | fz h q => exact ⟨_, rfl, ⟨_, h.sq⟩, k _ H' F' al r' (walks_lst (fun H2 kk => (h.keep kk fun _ z => z).sq) q)⟩
    | tup ds =>
      rw [hx] at ef key; cases ef
      refine .inr (.inl (key _ fun v H' F' al r' da => ?_))
      cases da with
      | tup h q => exact ⟨_, rfl, ⟨_, h.sq⟩, k _ H' F' al r' (walks_tup (fun H2 kk => .inl (.inl (kk _ _ h.1 h.2))) q)⟩
    | kt ds =>
      rw [hx] at ef key; cases ef
      refine .inr (.inl (key _ fun v H' F' al r' da => ?_))
      cases da with
      | kt h q => exact ⟨_, rfl, ⟨_, h.sq⟩, k _ H' F' al r' (walks_tup (fun H2 kk => h.sq) q)⟩
    | str z =>
      rw [hx] at ef key; cases ef
      refine .inr (.inr (key _ fun v H' F' al r' da => ?_))
      cases da
      exact ⟨_, rfl, k _ H' F' al r' (walks_str z)⟩
    | _ => rw [hx] at ef; cases ef
theorem fi_rng1 (hr : FA B tr L mr) : FI B (iRng1 tr) (fun S => (mr S).bind fun ds => if ds.length = 1 then fRng ds else none) := by
  intro S σ H F os R its r e k
  obtain ⟨ds, ed, ef⟩ := bind1 e
  refine hr S σ H F os _ ds r ed fun vs H' F' a r' da => ?_
  split at ef
  case isFalse => cases ef
  case isTrue c =>
    match ds, c with
    | [d], _ =>
      obtain ⟨v, rfl, d1⟩ := da.one
      cases d with
      | int j =>
        cases d1
        unfold fRng at ef
        dsimp only at ef
        split at ef
        case isFalse => cases ef
        case isTrue hj => cases ef; exact ⟨j, rfl, hj.1, hj.2, k _ H' F' a r' (walks_rng 0 _)⟩
      | _ => cases ef
end

def loopM (mg : D → FSt → Option FSt) (mb : FSt → Fl) : List D → FSt → Fl
  | [], S => .nx S
  | d :: r, S => match mg d S with
    | none => .bad
    | some S1 => match mb S1 with
      | .nx S2 => loopM mg mb r S2
      | .ct S2 => loopM mg mb r S2
      | .bk S2 => .nx S2
      | .rt x => .rt x
      | .bad => .bad
@[simp] def mFor (mi : FSt → Option (List D)) (mg : D → FSt → Option FSt) (mb : FSt → Fl) : FSt → Fl := fun S => match mi S with
  | some its => loopM mg mb its S
  | none => .bad
@[simp] def unlk (j : Nat) (S : FSt) : FSt := match S[j]? with
  | some (some (.lk xs)) => S.set j (some (.li xs))
  | _ => S
@[simp] def mForV (j : Nat) (mg : D → FSt → Option FSt) (mb : FSt → Fl) : FSt → Fl := fun S => match S[j]? with
  | some (some (.li xs)) => match loopM mg mb xs (S.set j (some (.lk xs))) with
    | .nx S' => .nx (unlk j S')
    | r => r
  | some (some (.sh d)) => match itemsD d with
    | some its => loopM mg mb its S
    | none => .bad
  | some (some (.ll xss)) => loopM mg mb (xss.map D.lst) (S.set j (some (.sh (.lst (xss.map D.lst)))))
  | _ => .bad
section
variable {B : Bk} {wi : TI} {mi : FSt → Option (List D)} {g : TG} {mg : D → FSt → Option FSt} {tb : TS} {mb : FSt → Fl}
theorem loop_go {J : It} {its : List D} {E : Ends} (hg : FG B g mg) (hb : FS B tb mb) (Z : St → FSt → Hp → (Addr → Prop) → (Nat → List Addr) → Prop)
    (zs : ∀ {σ S H F os σ' S' H' F' os'}, Rep B H F σ S os → Rep B H' F' σ' S' os' → FStep σ S H F os σ' S' H' F' os' → Z σ S H F os → Z σ' S' H' F' os')
    (zi : ∀ {σ S H F os} (i : Nat) (d : D), Rep B H F σ S os → Z σ S H F os → its[i]? = some d → J.go i H ∧ ∀ x H3, J.yld i H x H3 → ∃ F3, Al H F H3 F3 ∧ DA B H3 F3 x d)
    (ze : ∀ {σ S H F os} (i : Nat), Rep B H F σ S os → Z σ S H F os → its.length ≤ i → J.stop i H)
    {S : FSt} {σ : St} {H : Hp} {F : Addr → Prop} {os : Nat → List Addr} (r : Rep B H F σ S os) (z : Z σ S H F os) (h : Lands B σ S H F os E (loopM mg mb its S)) :
    ∃ W : Nat → Nat → St → Hp → Prop, (∃ m, W 0 m σ H) ∧ ∀ i m σ H, W i m σ H →
      (J.stop i H ∧ E.nx σ H) ∨ (J.go i H ∧ ∃ N : St → Hp → Prop, (∀ σ' H', N σ' H' → ∃ m', m' < m ∧ W (i + 1) m' σ' H') ∧ ∀ x H', J.yld i H x H' → g x σ H' fun σ2 H2 => tb { E with nx := N, ct := N, bk := E.nx } σ2 H2) := by
  refine ⟨fun i m σ' H' => i ≤ its.length ∧ m = its.length - i ∧ ∃ S' F' os', Rep B H' F' σ' S' os' ∧ Z σ' S' H' F' os' ∧ Lands B σ' S' H' F' os' E (loopM mg mb (its.drop i) S'),
    ⟨_, Nat.zero_le _, rfl, S, F, os, r, z, by simpa using h⟩, ?_⟩
  rintro i m σ1 H1 ⟨hi, hm, S1, F1, os1, r1, z1, h1⟩
  cases q : its[i]? with
  | none =>
    have hle : its.length ≤ i := List.getElem?_eq_none_iff.mp q
    rw [List.drop_eq_nil_of_le hle] at h1
    exact .inl ⟨ze i r1 z1 hle, h1 σ1 H1 F1 os1 FStep.refl r1⟩
  | some d =>
    have hlt : i < its.length := (List.getElem?_eq_some_iff.mp q).1
    have hd : its.drop i = d :: its.drop (i + 1) := by
      rw [List.drop_eq_getElem_cons hlt]
      have : its[i] = d := (List.getElem?_eq_some_iff.mp q).2
      rw [this]
    rw [hd, loopM] at h1
    obtain ⟨go, yl⟩ := zi i d r1 z1 q
    refine .inr ⟨go, fun σ' H' => i + 1 ≤ its.length ∧ ∃ S' F' os', Rep B H' F' σ' S' os' ∧ Z σ' S' H' F' os' ∧ Lands B σ' S' H' F' os' E (loopM mg mb (its.drop (i + 1)) S'),
      fun σ' H' n => ⟨its.length - (i + 1), by omega, n.1, rfl, n.2⟩, fun x H2 y => ?_⟩
    obtain ⟨F2, al, da⟩ := yl x H2 y
    have r2 := r1.mono al
    cases e1 : mg d S1 with
    | none => rw [e1] at h1; exact h1.elim
    | some S2 =>
      rw [e1] at h1
      dsimp only at h1
      refine hg S1 σ1 H2 F2 os1 x d S2 _ r2 da e1 fun σ2 os2 st2 r3 => ?_
      have stA : FStep σ1 S1 H1 F1 os1 σ2 S2 H2 F2 os2 := al.step.trans st2
      refine hb S2 σ2 H2 F2 os2 _ r3 ?_
      cases e2 : mb S2 with
      | nx S3 =>
        rw [e2] at h1
        intro σ' H' F' os' st r'
        exact ⟨hlt, S3, F', os', r', zs r1 r' (stA.trans st) z1, h1.later (stA.trans st)⟩
      | ct S3 =>
        rw [e2] at h1
        intro σ' H' F' os' st r'
        exact ⟨hlt, S3, F', os', r', zs r1 r' (stA.trans st) z1, h1.later (stA.trans st)⟩
      | bk S3 =>
        rw [e2] at h1
        intro σ' H' F' os' st r'
        exact h1 σ' H' F' os' (stA.trans st) r'
      | rt x =>
        rw [e2] at h1
        exact h1.later stA
      | bad => rw [e2] at h1; exact h1.elim
theorem fs_for (hi : FI B wi mi) (hg : FG B g mg) (hb : FS B tb mb) : FS B (tFor wi g tb) (mFor mi mg mb) := by
  intro S σ H F os E r h
  unfold mFor at h
  cases q : mi S with
  | none => rw [q] at h; exact h.elim
  | some its =>
    rw [q] at h
    refine hi S σ H F os _ its r q fun J H1 F1 al r1 wk => ?_
    refine loop_go (J := J) (its := its) hg hb (fun _ _ H' F' _ => (∀ b o, F1 b → H1 b = some o → H' b = some o) ∧ ∀ b, F1 b → F' b) ?_ ?_ ?_ r1 ⟨fun _ _ _ e => e, fun _ h => h⟩ (h.later al.step)
    · intro σ S H F os σ' S' H' F' os' r r' st z
      exact ⟨fun b o f e => st.keep b o (z.1 b o f e) fun i e => (r.alive e).2 (z.2 b f), fun b f => st.up b (z.2 b f)⟩
    · intro σ S H F os i d r z e
      exact (wk H F z.1 z.2).1 i d e
    · intro σ S H F os i r z e
      exact (wk H F z.1 z.2).2 i e
end

def runF (m : FSt → Fl) (n k : Nat) (ds : List D) : Option SV := if ds.length = n then (match m (ds.map (fun d => some (.sh d)) ++ List.replicate (k - n) none) with
  | .nx _ => some (.sh .non)
  | .rt x => some x
  | _ => none) else none
theorem runF_len {m : FSt → Fl} {n k : Nat} {ds : List D} {z : SV} (h : runF m n k ds = some z) : ds.length = n := by
  unfold runF at h
  split at h
  · assumption
  · cases h
theorem rep_start {B : Bk} {H : Hp} {G : Addr → Prop} {N : List Str} {vs : List V} {ds : List D} (hg : ∀ b, G b → H b ≠ none) (da : DAs B H G vs ds) (hn : vs.length ≤ N.length) :
    Rep B H G (start N vs) (ds.map (fun d => some (.sh d)) ++ List.replicate (N.length - ds.length) none) (fun _ => []) := by
  refine ⟨fun i x h => ?_, fun i _ => rfl, fun i j a e => absurd e (by simp), hg, ?_⟩
  · by_cases hi : i < ds.length
    · rw [List.getElem?_append_left (by simpa using hi), List.getElem?_map] at h
      cases q : ds[i]? with
      | none => rw [q] at h; cases h
      | some d =>
        rw [q] at h; cases h
        obtain ⟨v, e, da'⟩ := da.get q
        refine ⟨v, ?_, rfl, da'⟩
        unfold start
        rw [List.getElem?_append_left (by simp; rw [da.length]; exact hi), List.getElem?_map, e]; rfl
    · rw [List.getElem?_append_right (by simpa using hi)] at h
      rw [List.getElem?_replicate] at h
      split at h <;> cases h
  · unfold start
    have := da.length
    simp
    omega
theorem fn_F {CX : CXT} {P : Program} {w : World} {K : PySem.W.Frag} {mg : Str → Option Value} {base : Heap} {k : Nat} {f : Addr} {name qual : Str} {params : Arguments} {body : List Stmt} {scope : Scope} {dV kV doc pm cdv ct oc : Value} {an od : Option Addr}
    {osl : Array (Option Value)} {N ps : List Str} {B : Bk} {m : FSt → Fl} (lk : K.lookup f = some ⟨oc, od, .func (PySem.W.fnOf name qual params body scope dV kV doc pm an cdv ct), osl⟩) (hcd : PySem.W.codeIn K cdv qual = true) (S : FnScope N ps scope)
    (hbody : ∀ (A : Around) (outer : List Env) (s : Shared) (H : Hp) (E : XK), Room k (A.deeper (envOfC qual scope s.heap.objs.size f cdv)) →
      ∃ t, PSs (cxOf CX P w K mg base N qual scope f cdv A outer s H E) body t ∧ FS B t m) :
    FnOk P w K mg base CX (k + 1) f (PySem.W.fnOf name qual params body scope dV kV doc pm an cdv ct) ps (SpF B ps.length (runF m ps.length N.length)) := by
  have hpl : ps.length ≤ N.length := by have := congrArg List.length S.pre; rw [List.length_take] at this; omega
  refine fn_of lk hcd S (fun vs H Q E h => h.1) fun A outer s H vs Q E hr ⟨hl, G, ds, z, hg, da, hz, post⟩ => ?_
  obtain ⟨t, ht, hf⟩ := hbody A outer s H E hr
  refine ⟨t, ht, hf _ _ H G (fun _ => []) _ (rep_start hg da (by omega)) ?_⟩
  have hdl : ds.length = ps.length := by rw [← da.length]; exact hl
  unfold runF at hz
  rw [if_pos hdl] at hz
  rw [hdl]
  have done : ∀ {H' : Hp} {F' : Addr → Prop} {o : List Addr} {v : V} {x : SV}, FStepR H G (fun _ => []) H' F' o → VA B H' F' v x o → z = x → Q v H' := by
    intro H' F' o v x st va e
    subst e
    refine post v H' F' o ⟨fun b u h => st.keep b u h (fun i e => absurd e (by simp)), st.up, fun b h => ?_⟩ va fun b h => ?_
    · rcases st.new b h with q | q | ⟨i, q⟩ | q
      · exact .inl q
      · exact .inr (.inl ⟨q, st.fd b h⟩)
      · simp at q
      · exact .inr (.inr q)
    · rcases st.own b h with q | ⟨i, q⟩
      · exact q
      · simp at q
  cases q : m (ds.map (fun d => some (.sh d)) ++ List.replicate (N.length - ps.length) none) with
  | nx S' =>
    rw [q] at hz
    intro σ' H' F' os' st r'
    exact done (v := .non) (x := .sh .non) ⟨st.keep, st.up, st.new, fun b e => absurd e (by simp), r'.fd⟩ ⟨rfl, .non⟩ (Option.some.inj hz).symm
  | rt x =>
    rw [q] at hz
    intro v H' F' o st va
    exact done st va (Option.some.inj hz).symm
  | bk S' => rw [q] at hz; cases hz
  | ct S' => rw [q] at hz; cases hz
  | bad => rw [q] at hz; cases hz
end L2

set_option Elab.async false
set_option linter.all false
set_option maxRecDepth 100000
set_option maxHeartbeats 4000000
namespace L2
open PySem PySem.Spec PyProof.Rows

def compM (mg : D → FSt → Option FSt) (mt : FSt → Option Bool) (me : FSt → Option D) : List D → FSt → Option (List D)
  | [], _ => some []
  | d :: r, S => (mg d S).bind fun S1 => (mt S1).bind fun c => if c = true then (me S1).bind fun x => (compM mg mt me r S1).map fun xs => x :: xs else compM mg mt me r S1
@[simp] def compS (own : Nat) (fi : List Nat) (S : FSt) : FSt := List.replicate own none ++ fi.map fun j => (S[j]?.join).map fun x => SV.sh x.fr
@[simp] def mComp (own : Nat) (fi : List Nat) (mi : FSt → Option (List D)) (mg : D → FSt → Option FSt) (mt : FSt → Option Bool) (me : FSt → Option D) : FSt → Option SV := fun S =>
  (mi S).bind fun its => if its.length ≤ sizeLine then (compM mg mt me its (compS own fi S)).map SV.li else none
@[simp] def mTrue : FSt → Option Bool := fun _ => some true
section
variable {B : Bk} {wi : TI} {mi : FSt → Option (List D)} {g : TG} {mg : D → FSt → Option FSt} {tt : TT} {mt : FSt → Option Bool} {te : TE} {me : FSt → Option D} {own : Nat} {fi L : List Nat}
def FIc (B : Bk) (wi : TI) (L : List Nat) (m : FSt → Option (List D)) : Prop :=
  ∀ (S : FSt) (σ : St) (H : Hp) (F : Addr → Prop) (os : Nat → List Addr) (R : It → Hp → Prop) (its : List D), Rep B H F σ S os → m S = some its →
    (∀ J H' F', Al H F H' F' → Rep B H' F' σ S os → Walks B J H' (orF F' (osL os L)) its → R J H') → wi σ H R
theorem FI.c (h : FI B wi mi) : FIc B wi [] mi := fun S σ H F os R its r e k => h S σ H F os R its r e fun J H' F' a r' w => k J H' F' a r' fun H2 F2 k2 up => w H2 F2 (fun b o f e => k2 b o (.inl f) e) fun b f => up b (.inl f)
@[simp] def mItc (m : FSt → Option D) : FSt → Option (List D) := fun S => (m S).bind itemsD
theorem fic_seq {K : PySem.W.Frag} (hK : B.K = K) (he : FD B te L me) : FIc B (iSeq K te) L (mItc me) := by
  subst hK
  intro S σ H F os R its r e k
  obtain ⟨d, ed, ef⟩ := bind1 e
  cases d with
  | lst ds =>
    cases ef
    refine .inl (he S σ H F os _ _ r ed fun v H' F' al r' da => ?_)
    cases da with
    | lst h q => exact ⟨_, rfl, ⟨_, h.sq⟩, k _ H' F' al r' (walks_lst (fun H2 kk => .inl (.inl (kk _ _ h.1 h.2))) q)⟩
  | fz ds =>
    cases ef
    refine .inl (he S σ H F os _ _ r ed fun v H' F' al r' da => ?_)
    cases da with
    | fz h q => exact ⟨_, rfl, ⟨_, h.sq⟩, k _ H' F' al r' (walks_lst (fun H2 kk => (h.keep kk fun _ z => z).sq) q)⟩
  | tup ds =>
    cases ef
    refine .inr (.inl (he S σ H F os _ _ r ed fun v H' F' al r' da => ?_))
    cases da with
    | tup h q => exact ⟨_, rfl, ⟨_, h.sq⟩, k _ H' F' al r' (walks_tup (fun H2 kk => .inl (.inl (kk _ _ h.1 h.2))) q)⟩
  | kt ds =>
    cases ef
    refine .inr (.inl (he S σ H F os _ _ r ed fun v H' F' al r' da => ?_))
    cases da with
    | kt h q => exact ⟨_, rfl, ⟨_, h.sq⟩, k _ H' F' al r' (walks_tup (fun H2 kk => h.sq) q)⟩
  | str z =>
    cases ef
    refine .inr (.inr (he S σ H F os _ _ r ed fun v H' F' al r' da => ?_))
    cases da
    exact ⟨_, rfl, k _ H' F' al r' (walks_str z)⟩
  | _ => cases ef
theorem comp_start {H : Hp} {F : Addr → Prop} {σ : St} {S : FSt} {os : Nat → List Addr} (r : Rep B H F σ S os) (own : Nat) (fi Li : List Nat) : Rep B H (orF F (osL os (fi ++ Li))) (compSt own fi σ) (compS own fi S) (fun _ => []) := by
  refine ⟨fun i x h => ?_, fun i _ => rfl, fun i j a e => absurd e (by simp), r.gd (fi ++ Li), by simp [compSt, compS]⟩
  unfold compS at h
  by_cases hi : i < own
  · rw [List.getElem?_append_left (by simpa using hi), List.getElem?_replicate, if_pos hi] at h
    cases h
  · rw [List.getElem?_append_right (by simpa using hi), List.length_replicate, List.getElem?_map] at h
    unfold compSt
    rw [List.getElem?_append_right (by simpa using hi), List.length_replicate, List.getElem?_map]
    cases q : fi[i - own]? with
    | none => rw [q] at h; cases h
    | some j =>
      rw [q] at h
      simp only [Option.map_some, Option.some.injEq] at h
      cases e : S[j]? with
      | none => rw [e] at h; cases h
      | some z => cases z with
        | none => rw [e] at h; cases h
        | some y =>
          rw [e] at h; cases h
          obtain ⟨v, h1, h2⟩ := r.at' j y e
          refine ⟨v, by simp [h1], rfl, h2.frozen (fun b z => .inl z) fun b z => .inr ⟨j, List.mem_append_left _ (List.mem_of_getElem? q), z⟩⟩
theorem fe_comp {Li : List Nat} (hi : FIc B wi Li mi) (hg : FG B g mg) (ht : FT B tt mt) (he : FD B te L me) : FE B (tComp wi g tt te own fi) (fi ++ Li) (mComp own fi mi mg mt me) := by
  intro S σ H F os Q x r e k
  obtain ⟨its, ei, ef⟩ := bind1 e
  split at ef
  case isFalse => cases ef
  case isTrue hz =>
  cases ec : compM mg mt me its (compS own fi S) with
  | none => rw [ec] at ef; cases ef
  | some ds =>
  rw [ec] at ef; cases ef
  refine hi S σ H F os _ its r ei fun J H1 F1 al r1 wk l hl => ?_
  have rc := comp_start r1 own fi Li
  have al0 : Al H1 (orF F1 (osL os (fi ++ Li))) (upd H1 l (.lst [])) (orF F1 (osL os (fi ++ Li))) := al_fresh hl
  have rc0 := rc.mono al0
  have nl0 : ¬ orF F1 (osL os (fi ++ Li)) l := fun z => r1.gd (fi ++ Li) l z hl
  refine ⟨fun i m σ' H' => i ≤ its.length ∧ m = its.length - i ∧ ∃ S' G xs acc rest, Rep B H' G σ' S' (fun _ => []) ∧ Al H1 (orF F1 (osL os (fi ++ Li))) H' G ∧ H' l = some (.lst xs) ∧ ¬ G l ∧ DAs B H' G xs acc ∧ acc.length ≤ i ∧
      compM mg mt me (its.drop i) S' = some rest ∧ acc ++ rest = ds,
    ⟨_, Nat.zero_le _, rfl, _, _, [], [], ds, rc0, al0, upd_same, nl0, .nil, Nat.zero_le _, by simpa using ec, rfl⟩, ?_⟩
  rintro i m σ' H' ⟨hi, hm, S', G, xs, acc, rest, r', a', hl', nl', da', la, ec', ea⟩
  have w2 := wk H' G (fun b o f e => a'.same b o e) (fun b f => a'.up b (orF_sub (fun _ z => z) (fun i h => List.mem_append_right _ h) b f))
  cases q : its[i]? with
  | none =>
    have hle : its.length ≤ i := List.getElem?_eq_none_iff.mp q
    rw [List.drop_eq_nil_of_le hle] at ec'
    cases ec'
    rw [List.append_nil] at ea
    subst ea
    refine .inl ⟨w2.2 i hle, ?_⟩
    have a1 : Al H1 (orF F1 (osL os (fi ++ Li))) H' G := a'
    have va : VA B H' G (.ref l) (.li acc) [l] := ⟨l, xs, rfl, rfl, nl', hl', da'⟩
    have fr1 : ∀ b, b ∈ [l] → H1 b = none := fun b hb => by rw [List.mem_singleton.mp hb]; exact hl
    obtain ⟨F2, al2, r2, va2⟩ := ve_split r1 a1 va fr1
    refine k (.ref l) H' F2 [l] (al.trans al2) r2 va2 fun b hb => ?_
    cases qq : H b with
    | none => rfl
    | some w => have := fr1 b hb; rw [al.same b w qq] at this; cases this
  | some d =>
    have hlt : i < its.length := (List.getElem?_eq_some_iff.mp q).1
    have hd : its.drop i = d :: its.drop (i + 1) := by
      rw [List.drop_eq_getElem_cons hlt]
      have : its[i] = d := (List.getElem?_eq_some_iff.mp q).2
      rw [this]
    rw [hd, compM] at ec'
    obtain ⟨go, yl⟩ := w2.1 i d q
    refine .inr ⟨go, fun σ'' H'' => i + 1 ≤ its.length ∧ ∃ S' G xs acc rest, Rep B H'' G σ'' S' (fun _ => []) ∧ Al H1 (orF F1 (osL os (fi ++ Li))) H'' G ∧ H'' l = some (.lst xs) ∧ ¬ G l ∧ DAs B H'' G xs acc ∧ acc.length ≤ i + 1 ∧
      compM mg mt me (its.drop (i + 1)) S' = some rest ∧ acc ++ rest = ds, fun σ'' H'' n => ⟨its.length - (i + 1), by omega, n.1, rfl, n.2⟩, fun x H2 y => ?_⟩
    obtain ⟨G2, al2, da2⟩ := yl x H2 y
    have r2 := r'.mono al2
    obtain ⟨S1, e1, ec'⟩ := bind1 ec'
    obtain ⟨c, e2, ec'⟩ := bind1 ec'
    refine hg S' σ' H2 G2 _ x d S1 _ r2 da2 e1 fun σ2 os2 st2 r3 => ?_
    have nos : ∀ j, os2 j = [] := fun j => by
      cases qq : os2 j with
      | nil => rfl
      | cons b _ =>
        rcases st2.own j b (by rw [qq]; simp) with z | ⟨_, z⟩
        · exact absurd z (r3.alive (i := j) (a := b) (by rw [qq]; simp)).1
        · simp at z
    have eos : os2 = fun _ => [] := funext nos
    subst eos
    refine ht S1 σ2 H2 G2 _ _ c r3 e2 fun H3 G3 al3 r4 => ?_
    have hl3 : H3 l = some (.lst xs) := al3.same l _ (al2.same l _ hl')
    have nl3 : ¬ G3 l := fun z => by
      rcases al3.new l z with z | z | ⟨ys, z⟩
      · rcases al2.new l z with z | z | ⟨ys, z⟩
        · exact nl' z
        · rw [hl'] at z; cases z.1
        · rw [hl'] at z; cases z
      · rw [al2.same l _ hl'] at z; cases z.1
      · rw [al2.same l _ hl'] at z; cases z
    have da3 : DAs B H3 G3 xs acc := da'.mono (fun b o f e => al3.same b o (al2.same b o e)) fun b f => al3.up b (al2.up b f)
    cases c with
    | false =>
      rw [if_neg Bool.false_ne_true] at ec' ⊢
      exact ⟨hlt, S1, G3, xs, acc, rest, r4, (a'.trans al2).trans al3, hl3, nl3, da3, by omega, ec', ea⟩
    | true =>
      rw [if_pos rfl] at ec' ⊢
      obtain ⟨w, ew, ec'⟩ := bind1 ec'
      cases er : compM mg mt me (its.drop (i + 1)) S1 with
      | none => rw [er] at ec'; cases ec'
      | some rest' =>
        rw [er] at ec'; cases ec'
        refine he S1 σ2 H3 G3 _ _ w r4 ew fun y H4 G4 al4 r5 dy => ?_
        have hl4 : H4 l = some (.lst xs) := al4.same l _ hl3
        have nl4 : ¬ G4 l := fun z => by
          rcases al4.new l z with z | z | ⟨ys, z⟩
          · exact nl3 z
          · rw [hl3] at z; cases z.1
          · rw [hl3] at z; cases z
        have da4 : DAs B H4 G4 xs acc := da3.mono (fun b o f e => al4.same b o e) al4.up
        have dy' : DA B H4 G4 y w := dy.mono (fun _ _ _ e => e) fun b z => by
          rcases z with z | ⟨_, _, z⟩
          · exact z
          · simp at z
        refine ⟨xs, hl4, by rw [da4.length]; omega, hlt, S1, G4, xs ++ [y], acc ++ [w], rest', ?_, ?_, upd_same, nl4, ?_, ?_, er, by simpa using ea⟩
        · refine ⟨fun j x h => ?_, r5.out, r5.inj, fun b f => ?_, r5.len⟩
          · obtain ⟨v, h1, h2⟩ := r5.at' j x h
            exact ⟨v, h1, h2.mono (fun b u f e => by rw [upd_ne]; exact e; rintro rfl; exact nl4 f) (fun b u hb => absurd hb (by simp)) (fun _ f => f) fun b hb => absurd hb (by simp)⟩
          · unfold upd
            split
            · simp
            · exact r5.fd b f
        · have a4 := ((a'.trans al2).trans al3).trans al4
          refine ⟨fun b o e => ?_, a4.up, fun b z => ?_⟩
          · rw [upd_ne (ne_of_none e hl)]; exact a4.same b o e
          · rcases a4.new b z with z | z | z
            · exact .inl z
            · refine .inr (.inl ⟨z.1, ?_⟩)
              unfold upd
              split
              · simp
              · exact z.2
            · exact .inr (.inr z)
        · exact (da4.append (.cons dy' .nil)).mono (fun b u f e => by rw [upd_ne]; exact e; rintro rfl; exact nl4 f) fun _ f => f
        · simp; omega
end
end L2

set_option Elab.async false
set_option linter.all false
set_option maxRecDepth 100000
set_option maxHeartbeats 4000000
namespace L2
open PySem PySem.Spec PyProof.Rows

@[simp] def fI {α : Type} (f : Int → Int → Option α) : D → D → Option α
  | .int i, .int j => f i j
  | _, _ => none
@[simp] def fI1 {α : Type} (f : Int → Option α) : D → Option α
  | .int i => f i
  | _ => none
section
variable {B : Bk}
theorem fI_some {α : Type} {f : Int → Int → Option α} {a b : D} {z : α} (h : fI f a b = some z) : ∃ i j, a = .int i ∧ b = .int j ∧ f i j = some z := by
  unfold fI at h
  split at h
  · exact ⟨_, _, rfl, rfl, h⟩
  · cases h
theorem opd_I0 {g : Int → Int → V} {gd : Int → Int → D} (h : ∀ i j, Sc (g i j) (gd i j)) : OpD B (rI0 g) (fI fun i j => some (gd i j)) := by
  intro H G x y dx dy z Q hx hy e k
  obtain ⟨i, j, rfl, rfl, e⟩ := fI_some e
  cases e; cases hx; cases hy
  exact ⟨i, j, rfl, rfl, k _ H G Al.refl (h i j).da⟩
theorem opd_I {C : Int → Int → Prop} [∀ i j, Decidable (C i j)] {g : Int → Int → V} {gd : Int → Int → D} (h : ∀ i j, Sc (g i j) (gd i j)) : OpD B (rI C g) (fI fun i j => if C i j then some (gd i j) else none) := by
  intro H G x y dx dy z Q hx hy e k
  obtain ⟨i, j, rfl, rfl, e'⟩ := fI_some e
  clear e
  split at e'
  · cases e'; cases hx; cases hy
    exact ⟨i, j, rfl, rfl, by assumption, k _ H G Al.refl (h i j).da⟩
  · cases e'
theorem und_I {g : Int → V} {gd : Int → D} (h : ∀ i, Sc (g i) (gd i)) : UnD B (rU g) (fI1 fun i => some (gd i)) := by
  intro H G x dx z Q hx e k
  unfold fI1 at e
  split at e
  · cases e; cases hx; exact ⟨_, rfl, k _ H G Al.refl (h _).da⟩
  · cases e
end
def cMulB (i j : Int) : Bool := (decide (-(2 ^ 64) < i) && decide (i < 2 ^ 64)) || (decide (-(2 ^ 64) < j) && decide (j < 2 ^ 64))
def cPowB (i j : Int) : Bool := decide (0 ≤ j) && decide (j ≤ 1000000) && decide (i.natAbs < 2 ^ 64)
theorem cMul_iff {i j : Int} : cMulB i j = true ↔ CMul i j := by simp only [cMulB, CMul, Bool.or_eq_true, Bool.and_eq_true, decide_eq_true_eq]
theorem cPow_iff {i j : Int} : cPowB i j = true ↔ CPow i j := by simp only [cPowB, CPow, Bool.and_eq_true, decide_eq_true_eq, and_assoc]
theorem opd_IB {C : Int → Int → Prop} {cb : Int → Int → Bool} (hc : ∀ i j, cb i j = true → C i j) {B : Bk} {g : Int → Int → V} {gd : Int → Int → D} (h : ∀ i j, Sc (g i j) (gd i j)) : OpD B (rI C g) (fI fun i j => if cb i j = true then some (gd i j) else none) := by
  intro H G x y dx dy z Q hx hy e k
  obtain ⟨i, j, rfl, rfl, e'⟩ := fI_some e
  clear e
  split at e'
  · rename_i hb
    cases e'; cases hx; cases hy
    exact ⟨i, j, rfl, rfl, hc i j hb, k _ H G Al.refl (h i j).da⟩
  · cases e'
abbrev oFdiv : D → D → Option D := fI fun i j => if 0 < j ∧ j < 2 ^ 200 then some (.int (i / j)) else none
abbrev oMod : D → D → Option D := fI fun i j => if 0 < j then some (.int (i % j)) else none
abbrev oShl : D → D → Option D := fI fun i j => if cPowB i j = true then some (.int (i * 2 ^ j.toNat)) else none
abbrev oShr : D → D → Option D := fI fun i j => if 0 ≤ j then some (.int (i / 2 ^ j.toNat)) else none
abbrev oAnd : D → D → Option D := fI fun i j => some (.int (Builtin.bitAnd i j))
abbrev oOr : D → D → Option D := fI fun i j => some (.int (Builtin.bitOr i j))
abbrev oXor : D → D → Option D := fI fun i j => some (.int (Builtin.bitXor i j))
abbrev oGt : D → D → Option D := fI fun i j => some (.bl (decide (j < i)))
section
variable {B : Bk}
theorem od_fdiv : OpD B (rI (fun _ j => 0 < j ∧ j < 2 ^ 200) fun i j => .int (i / j)) oFdiv := opd_I fun _ _ => .int _
theorem od_mod : OpD B (rI (fun _ j => 0 < j) fun i j => .int (i % j)) oMod := opd_I fun _ _ => .int _
theorem od_shl : OpD B (rI CPow fun i j => .int (i * 2 ^ j.toNat)) oShl := opd_IB (fun _ _ h => cPow_iff.mp h) fun _ _ => .int _
theorem od_shr : OpD B (rI (fun _ j => 0 ≤ j) fun i j => .int (i / 2 ^ j.toNat)) oShr := opd_I fun _ _ => .int _
theorem od_and : OpD B (rI0 fun i j => .int (Builtin.bitAnd i j)) oAnd := opd_I0 fun _ _ => .int _
theorem od_or : OpD B (rI0 fun i j => .int (Builtin.bitOr i j)) oOr := opd_I0 fun _ _ => .int _
theorem od_xor : OpD B (rI0 fun i j => .int (Builtin.bitXor i j)) oXor := opd_I0 fun _ _ => .int _
theorem od_gt : OpD B (rI0 fun i j => .bl (decide (j < i))) oGt := opd_I0 fun _ _ => .bl _
end

@[simp] def oAdd : D → D → Option SV
  | .int i, .int j => some (.sh (.int (i + j)))
  | .str a, .str b => if a.length + b.length ≤ sizeLine then some (.sh (.str (a ++ b))) else none
  | .lst xs, .lst ys => if xs.length + ys.length ≤ sizeLine then some (.li (xs ++ ys)) else none
  | .tup xs, .tup ys => if xs ≠ [] ∧ ys ≠ [] ∧ xs.length + ys.length ≤ sizeLine then some (.sh (.tup (xs ++ ys))) else none
  | _, _ => none
@[simp] def oMul : D → D → Option SV
  | .int i, .int j => if cMulB i j = true then some (.sh (.int (i * j))) else none
  | .lst xs, .int k => if -(2 ^ 63) ≤ k ∧ k < 2 ^ 63 ∧ xs.length * k.toNat ≤ sizeLine then some (.li (List.replicate k.toNat xs).flatten) else none
  | _, _ => none
section
variable {B : Bk}
theorem DAs.rep {H : Hp} {F : Addr → Prop} {vs : List V} {ds : List D} (h : DAs B H F vs ds) : ∀ n, DAs B H F (List.replicate n vs).flatten (List.replicate n ds).flatten
  | 0 => .nil
  | n + 1 => by simpa [List.replicate_succ] using h.append (DAs.rep h n)
theorem new_li {H : Hp} {G : Addr → Prop} {p : Addr} {vs : List V} {ds : List D} {Q : VK} (hg : ∀ b, G b → H b ≠ none) (hp : H p = none) (da : DAs B H G vs ds)
    (k : ∀ v H' G' o, Al H G H' G' → VA B H' G' v (.li ds) o → (∀ a, a ∈ o → H a = none) → Q v H') : Q (.ref p) (upd H p (.lst vs)) := by
  have al := al_fresh (F := G) (u := .lst vs) hp
  exact k (.ref p) _ G [p] al ⟨p, vs, rfl, rfl, fun z => hg p z hp, upd_same, da.mono (fun b o _ e => al.same b o e) fun _ z => z⟩ fun a ha => by rw [List.mem_singleton.mp ha]; exact hp
theorem new_tup {H : Hp} {G : Addr → Prop} {p : Addr} {vs : List V} {ds : List D} {Q : VK} (hp : H p = none) (da : DAs B H G vs ds)
    (k : ∀ v H' G' o, Al H G H' G' → VA B H' G' v (.sh (.tup ds)) o → (∀ a, a ∈ o → H a = none) → Q v H') : Q (.ref p) (upd H p (.tup vs)) := by
  have al := al_fresh' (F := G) (u := .tup vs) hp
  exact k (.ref p) _ _ [] al ⟨rfl, .tup ⟨.inr rfl, upd_same⟩ (da.mono (fun b o _ e => al.same b o e) fun _ z => .inl z)⟩ fun a ha => absurd ha (by simp)
theorem e_add {K : PySem.W.Frag} (hK : B.K = K) : OpE B (rAddG K) oAdd := by
  subst hK
  intro H G x y dx dy z Q hg hx hy e k
  unfold oAdd at e
  split at e
  · cases e; cases hx; cases hy
    exact .inl ⟨_, _, rfl, rfl, k _ H G [] Al.refl ⟨rfl, .int _⟩ (by simp)⟩
  · split at e
    · cases e; cases hx; cases hy
      exact .inr (.inl ⟨_, _, rfl, rfl, by assumption, k _ H G [] Al.refl ⟨rfl, .str _⟩ (by simp)⟩)
    · cases e
  · split at e
    · rename_i hl
      cases e
      cases hx with
      | lst h1 r1 => cases hy with
        | lst h2 r2 => exact .inr (.inr (.inl ⟨_, _, _, _, rfl, rfl, h1.2, h2.2, by rw [r1.length, r2.length]; exact hl, fun p hp => new_li hg hp (r1.append r2) k⟩))
    · cases e
  · split at e
    · rename_i hl
      cases e
      cases hx with
      | tup h1 r1 => cases hy with
        | tup h2 r2 =>
          have nx : ∀ {vs : List V} {ds : List D}, DAs B H G vs ds → ds ≠ [] → vs ≠ [] := fun r n z => by subst z; cases r; exact n rfl
          exact .inr (.inr (.inr ⟨_, _, _, _, rfl, rfl, h1.sq, h2.sq, nx r1 hl.1, by rw [r1.length, r2.length]; exact hl.2.2, fun z => absurd z (nx r2 hl.2.1), fun _ p hp => new_tup hp (r1.append r2) k⟩))
    · cases e
  · cases e
theorem e_mul : OpE B rMulG oMul := by
  intro H G x y dx dy z Q hg hx hy e k
  unfold oMul at e
  split at e
  · split at e
    · rename_i hb
      cases e; cases hx; cases hy
      exact .inl ⟨_, _, rfl, rfl, cMul_iff.mp hb, k _ H G [] Al.refl ⟨rfl, .int _⟩ (by simp)⟩
    · cases e
  · split at e
    · rename_i hl
      cases e; cases hy
      cases hx with
      | lst h1 r1 => exact .inr ⟨_, _, _, rfl, rfl, h1.2, hl.1, hl.2.1, by rw [r1.length]; exact hl.2.2, fun p hp => new_li hg hp (r1.rep _) k⟩
    · cases e
  · cases e
end

mutual
def D.dat : D → Option PyData
  | .non => some .none
  | .bl b => some (.bool b)
  | .int i => some (.int i)
  | .str x => some (.str x)
  | .tup xs => (D.dats xs).map .tuple
  | .kt xs => (D.dats xs).map .tuple
  | .lst xs => (D.dats xs).map .list
  | .fz xs => (D.dats xs).map .list
  | _ => none
def D.dats : List D → Option (List PyData)
  | [] => some []
  | d :: r => (D.dat d).bind fun p => (D.dats r).map fun ps => p :: ps
end
section
variable {B : Bk} {H : Hp} {F : Addr → Prop}
mutual
theorem DA.dat : ∀ {v : V} {d : D} {p : PyData}, DA B H F v d → d.dat = some p → DAt B.K H v p
  | _, _, _, .non, e => by simp [D.dat] at e; subst e; exact .non
  | _, _, _, .bl b, e => by simp [D.dat] at e; subst e; exact .bl b
  | _, _, _, .int i, e => by simp [D.dat] at e; subst e; exact .int i
  | _, _, _, .str x, e => by simp [D.dat] at e; subst e; exact .str x
  | _, _, _, .tup h r, e => by
    simp only [D.dat, Option.map_eq_some_iff] at e
    obtain ⟨ps, e1, rfl⟩ := e
    exact .tup h.sq (DAs.dats r e1)
  | _, _, _, .kt h r, e => by
    simp only [D.dat, Option.map_eq_some_iff] at e
    obtain ⟨ps, e1, rfl⟩ := e
    exact .tup h.sq (DAs.dats r e1)
  | _, _, _, .lst h r, e => by
    simp only [D.dat, Option.map_eq_some_iff] at e
    obtain ⟨ps, e1, rfl⟩ := e
    exact .lst h.sq (DAs.dats r e1)
  | _, _, _, .fz h r, e => by
    simp only [D.dat, Option.map_eq_some_iff] at e
    obtain ⟨ps, e1, rfl⟩ := e
    exact .lst h.sq (DAs.dats r e1)
  | _, _, _, .ty n, e => by simp [D.dat] at e
  | _, _, _, .adr a, e => by simp [D.dat] at e
  | _, _, _, .cls _, e => by simp [D.dat] at e
  | _, _, _, .dK _ _ _ _, e => by simp [D.dat] at e
  | _, _, _, .dT _ _ _ _, e => by simp [D.dat] at e
  | _, _, _, .ins _ _ _ _, e => by simp [D.dat] at e
theorem DAs.dats : ∀ {vs : List V} {ds : List D} {ps : List PyData}, DAs B H F vs ds → D.dats ds = some ps → DAts B.K H vs ps
  | _, _, _, .nil, e => by simp [D.dats] at e; subst e; exact .nil
  | _, _, _, .cons h r, e => by
    simp only [D.dats, Option.bind_eq_some_iff, Option.map_eq_some_iff] at e
    obtain ⟨p, e1, ps, e2, rfl⟩ := e
    exact .cons (DA.dat h e1) (DAs.dats r e2)
end
end
def shp (d : D) : Option PyData := d.dat.bind fun p => if SeqAt.shaped p = true then some p else none
def oEq : D → D → Option D := fun a b => (shp a).bind fun p => (shp b).bind fun q => some (.bl (PyData.eqv p q))
def oNe : D → D → Option D := fun a b => (shp a).bind fun p => (shp b).bind fun q => some (.bl (!PyData.eqv p q))
theorem shp_some {d : D} {p : PyData} (h : shp d = some p) : d.dat = some p ∧ SeqAt.shaped p = true := by
  obtain ⟨q, e, h⟩ := bind1 h
  split at h
  · cases h; exact ⟨e, by assumption⟩
  · cases h
section
variable {B : Bk} {K : PySem.W.Frag}
theorem od_eq (hK : B.K = K) : OpD B (rEqD K) oEq := by
  subst hK
  intro H G x y dx dy z Q hx hy e k
  obtain ⟨p, q, e1, e2, e3⟩ := bind2 e
  cases e3
  exact ⟨p, q, hx.dat (shp_some e1).1, hy.dat (shp_some e2).1, (shp_some e1).2, (shp_some e2).2, k _ H G Al.refl (.bl _)⟩
theorem od_ne (hK : B.K = K) : OpD B (rNeD K) oNe := by
  subst hK
  intro H G x y dx dy z Q hx hy e k
  obtain ⟨p, q, e1, e2, e3⟩ := bind2 e
  cases e3
  exact ⟨p, q, hx.dat (shp_some e1).1, hy.dat (shp_some e2).1, (shp_some e1).2, (shp_some e2).2, k _ H G Al.refl (.bl _)⟩
def inB : D → D → Option Bool
  | .str a, .str b => some (!(Builtin.Str.occurrences b a 0 b.length 1).isEmpty)
  | x, .lst ys => (D.dats ys).bind fun ps => (shp x).bind fun p => if SeqAt.shaped (.list ps) = true then some (ps.any fun e => PyData.eqv e p) else none
  | x, .fz ys => (D.dats ys).bind fun ps => (shp x).bind fun p => if SeqAt.shaped (.list ps) = true then some (ps.any fun e => PyData.eqv e p) else none
  | x, .tup ys => (D.dats ys).bind fun ps => (shp x).bind fun p => if SeqAt.shaped (.list ps) = true then some (ps.any fun e => PyData.eqv e p) else none
  | x, .kt ys => (D.dats ys).bind fun ps => (shp x).bind fun p => if SeqAt.shaped (.list ps) = true then some (ps.any fun e => PyData.eqv e p) else none
  | _, _ => none
def oNotIn : D → D → Option D := fun x y => (inB x y).map fun b => .bl (!b)
theorem in_core {H : Hp} {G : Addr → Prop} {x y : V} {dx dy : D} {c : Bool} (hx : DA B H G x dx) (hy : DA B H G y dy) (e : inB dx dy = some c) :
    (∃ i j, x = .str i ∧ y = .str j ∧ c = (!(Builtin.Str.occurrences j i 0 j.length 1).isEmpty)) ∨ ∃ ds d, (DAt B.K H y (.list ds) ∨ DAt B.K H y (.tuple ds)) ∧ DAt B.K H x d ∧ SeqAt.shaped (.list ds) = true ∧ SeqAt.shaped d = true ∧ c = (ds.any fun e => PyData.eqv e d) := by
  have fin : ∀ {ys : List D} {vs : List V}, DAs B H G vs ys → (∀ ps, DAts B.K H vs ps → DAt B.K H y (.list ps) ∨ DAt B.K H y (.tuple ps)) → ((D.dats ys).bind fun ps => (shp dx).bind fun p => if SeqAt.shaped (.list ps) = true then some (ps.any fun e => PyData.eqv e p) else none) = some c →
      ∃ ds d, (DAt B.K H y (.list ds) ∨ DAt B.K H y (.tuple ds)) ∧ DAt B.K H x d ∧ SeqAt.shaped (.list ds) = true ∧ SeqAt.shaped d = true ∧ c = (ds.any fun e => PyData.eqv e d) := fun r mk e => by
    obtain ⟨ps, p, e1, e2, e3⟩ := bind2 e
    split at e3
    · cases e3
      exact ⟨ps, p, mk ps (r.dats e1), hx.dat (shp_some e2).1, by assumption, (shp_some e2).2, rfl⟩
    · cases e3
  unfold inB at e
  split at e
  · cases e; cases hx; cases hy; exact .inl ⟨_, _, rfl, rfl, rfl⟩
  · cases hy with
    | lst h r => exact .inr (fin r (fun ps q => .inl (.lst h.sq q)) e)
  · cases hy with
    | fz h r => exact .inr (fin r (fun ps q => .inl (.lst h.sq q)) e)
  · cases hy with
    | tup h r => exact .inr (fin r (fun ps q => .inr (.tup h.sq q)) e)
  · cases hy with
    | kt h r => exact .inr (fin r (fun ps q => .inr (.tup h.sq q)) e)
  · cases e
theorem od_notIn (hK : B.K = K) : OpD B (rNotInE K) oNotIn := by
  subst hK
  intro H G x y dx dy z Q hx hy e k
  unfold oNotIn at e
  rw [Option.map_eq_some_iff] at e
  obtain ⟨c, e1, rfl⟩ := e
  rcases in_core hx hy e1 with ⟨i, j, rfl, rfl, rfl⟩ | ⟨ds, d, h1, h2, h3, h4, rfl⟩
  · exact .inl ⟨i, j, rfl, rfl, k _ H G Al.refl (.bl _)⟩
  · exact .inr ⟨ds, d, h1, h2, h3, h4, k _ H G Al.refl (.bl _)⟩
def D.isNon : D → Bool
  | .non => true
  | _ => false
theorem DA.isNon {H : Hp} {G : Addr → Prop} {x : V} {d : D} (h : DA B H G x d) : decide (x = .non) = d.isNon := by cases h <;> rfl
def oIs : D → D → Option D := fun a b => if b.isNon = true then some (.bl a.isNon) else none
theorem od_is : OpD B (fun x y H Q => y = .non ∧ Q (.bl (decide (x = .non))) H) oIs := by
  intro H G x y dx dy z Q hx hy e k
  unfold oIs at e
  split at e
  · cases e
    rename_i h
    rw [hx.isNon]
    refine ⟨?_, k _ H G Al.refl (.bl _)⟩
    rw [← hy.isNon] at h
    exact of_decide_eq_true h
  · cases e
@[simp] def oIx : D → D → Option D
  | .lst xs, .int i => atI xs i
  | .tup xs, .int i => atI xs i
  | .kt xs, .int i => atI xs i
  | .fz xs, .int i => atI xs i
  | .str z, .int i => if z.length ≤ sizeLine then (atI z.cps.toList i).map fun c => .str ⟨#[c]⟩ else none
  | _, _ => none
theorem atI_rel {H : Hp} {G : Addr → Prop} {vs : List V} {ds : List D} {i : Int} {d : D} (r : DAs B H G vs ds) (e : atI ds i = some d) : ∃ v, atI vs i = some v ∧ DA B H G v d := by
  unfold atI at e ⊢
  obtain ⟨j, e1, e2⟩ := bind1 e
  rw [r.length, e1]
  exact r.get e2
theorem od_ix (hK : B.K = K) : OpD B (rIx K) oIx := by
  subst hK
  intro H G x y dx dy z Q hx hy e k
  unfold oIx at e
  split at e
  · cases hy
    cases hx with
    | lst h r => obtain ⟨v, e1, d1⟩ := atI_rel r e; exact .inl ⟨_, _, _, v, rfl, rfl, h.sq, e1, k v H G Al.refl d1⟩
  · cases hy
    cases hx with
    | tup h r => obtain ⟨v, e1, d1⟩ := atI_rel r e; exact .inr (.inl ⟨_, _, _, v, rfl, rfl, h.sq, e1, k v H G Al.refl d1⟩)
  · cases hy
    cases hx with
    | kt h r => obtain ⟨v, e1, d1⟩ := atI_rel r e; exact .inr (.inl ⟨_, _, _, v, rfl, rfl, h.sq, e1, k v H G Al.refl d1⟩)
  · cases hy
    cases hx with
    | fz h r => obtain ⟨v, e1, d1⟩ := atI_rel r e; exact .inl ⟨_, _, _, v, rfl, rfl, h.sq, e1, k v H G Al.refl d1⟩
  · split at e
    · rw [Option.map_eq_some_iff] at e
      obtain ⟨c, e1, rfl⟩ := e
      cases hx; cases hy
      exact .inr (.inr ⟨_, _, c, rfl, rfl, by assumption, e1, k _ H G Al.refl (.str _)⟩)
    · cases e
  · cases e
def rLenF (K : PySem.W.Frag) : List V → Hp → VK → Prop := fun xs H Q => rLenE K xs H Q ∨ ∃ a kvs, xs = [V.ref a] ∧ H a = some (.dK kvs) ∧ Q (.int kvs.length) H
theorem call_lenF {X : Cx} (hK : X.K = K) : CallR X (.builtin "len") (rLenF K) := (call_lenE hK).or call_lenD
@[simp] def fLen : List D → Option SV
  | [.lst xs] => some (.sh (.int xs.length))
  | [.tup xs] => some (.sh (.int xs.length))
  | [.kt xs] => some (.sh (.int xs.length))
  | [.fz xs] => some (.sh (.int xs.length))
  | [.str z] => if z.length ≤ sizeLine then some (.sh (.int z.length)) else none
  | [.dT kvs] => some (.sh (.int kvs.length))
  | [.dK kvs] => some (.sh (.int kvs.length))
  | _ => none
theorem c_len (hK : B.K = K) : CallE B (rLenF K) fLen := by
  subst hK
  intro H G vs ds z Q hg hd e k
  unfold fLen at e
  split at e
  · cases e
    obtain ⟨v, rfl, d1⟩ := hd.one
    cases d1 with
    | lst h r => exact .inl (.inl ⟨_, _, rfl, .inl ⟨_, h.sq, rfl⟩, by rw [r.length]; exact k _ H G [] Al.refl ⟨rfl, .int _⟩ (by simp)⟩)
  · cases e
    obtain ⟨v, rfl, d1⟩ := hd.one
    cases d1 with
    | tup h r => exact .inl (.inl ⟨_, _, rfl, .inr ⟨_, h.sq, rfl⟩, by rw [r.length]; exact k _ H G [] Al.refl ⟨rfl, .int _⟩ (by simp)⟩)
  · cases e
    obtain ⟨v, rfl, d1⟩ := hd.one
    cases d1 with
    | kt h r => exact .inl (.inl ⟨_, _, rfl, .inr ⟨_, h.sq, rfl⟩, by rw [r.length]; exact k _ H G [] Al.refl ⟨rfl, .int _⟩ (by simp)⟩)
  · cases e
    obtain ⟨v, rfl, d1⟩ := hd.one
    cases d1 with
    | fz h r => exact .inl (.inl ⟨_, _, rfl, .inl ⟨_, h.sq, rfl⟩, by rw [r.length]; exact k _ H G [] Al.refl ⟨rfl, .int _⟩ (by simp)⟩)
  · split at e
    · cases e
      obtain ⟨v, rfl, d1⟩ := hd.one
      cases d1
      exact .inl (.inl ⟨_, _, rfl, ⟨by assumption, rfl⟩, k _ H G [] Al.refl ⟨rfl, .int _⟩ (by simp)⟩)
    · cases e
  · cases e
    obtain ⟨v, rfl, d1⟩ := hd.one
    cases d1 with
    | @dT a kvs _ f h ek r =>
      have hl := congrArg List.length ek
      rw [List.length_map, List.length_map] at hl
      exact .inl (.inr ⟨_, _, rfl, h, by rw [hl]; exact k _ H G [] Al.refl ⟨rfl, .int _⟩ (by simp)⟩)
  · cases e
    obtain ⟨v, rfl, d1⟩ := hd.one
    cases d1 with
    | @dK a kvs _ f h ek r =>
      have hl := congrArg List.length ek
      rw [List.length_map, List.length_map] at hl
      exact .inr ⟨_, _, rfl, h, by rw [hl]; exact k _ H G [] Al.refl ⟨rfl, .int _⟩ (by simp)⟩
  · cases e
@[simp] def D.kind : D → Option String
  | .non => some "NoneType"
  | .bl _ => some "bool"
  | .int _ => some "int"
  | .str _ => some "str"
  | .lst _ => some "list"
  | .tup _ => some "tuple"
  | .dK _ => some "dict"
  | .dT _ => some "dict"
  | _ => none
def kitB (t n : String) : Option Bool := if n ∈ ["int", "str", "bool", "list", "tuple", "dict"] then some (t == n || (t == "bool" && n == "int")) else none
@[simp] def fIsi : List D → Option SV
  | [d, .ty n] => d.kind.bind fun t => (kitB t n).map fun b => .sh (.bl b)
  | _ => none
theorem DA.kind {H : Hp} {G : Addr → Prop} {v : V} {d : D} {t : String} (h : DA B H G v d) (e : d.kind = some t) : TyOf B.K H v (.type t) ∧ t ∈ ["NoneType", "bool", "int", "str", "list", "tuple", "dict"] := by
  cases h with
  | non => cases e; exact ⟨.non, by simp⟩
  | bl b => cases e; exact ⟨.bl b, by simp⟩
  | int i => cases e; exact ⟨.int i, by simp⟩
  | str x => cases e; exact ⟨.str x, by simp⟩
  | lst h r => cases e; exact ⟨.lst h.2, by simp⟩
  | tup h r => cases e; exact ⟨.tup h.2, by simp⟩
  | dK f h _ _ => cases e; exact ⟨.dK h, by simp⟩
  | dT f h _ _ => cases e; exact ⟨.dT h, by simp⟩
  | _ => cases e
theorem kit_eq {K : PySem.W.Frag} {t n : String} {b : Bool} (ht : t ∈ ["NoneType", "bool", "int", "str", "list", "tuple", "dict"]) (e : kitB t n = some b) : PySem.W.kitOne K (.type t) (.type n) = some b := by
  unfold kitB at e
  split at e
  · rename_i hn
    cases e
    simp only [List.mem_cons, List.not_mem_nil, or_false] at ht hn
    rcases ht with rfl | rfl | rfl | rfl | rfl | rfl | rfl <;> rcases hn with rfl | rfl | rfl | rfl | rfl | rfl <;> rfl
  · cases e
theorem c_isi (hK : B.K = K) : CallE B (rIsinst K) fIsi := by
  subst hK
  intro H G vs ds z Q hg hd e k
  unfold fIsi at e
  split at e
  · rename_i d n
    obtain ⟨t, e1, e2⟩ := bind1 e
    rw [Option.map_eq_some_iff] at e2
    obtain ⟨b, e3, rfl⟩ := e2
    obtain ⟨v, w, rfl, d1, d2⟩ := hd.two
    cases d2
    obtain ⟨h1, h2⟩ := d1.kind e1
    exact ⟨v, n, _, b, rfl, h1, kit_eq h2 e3, k _ H G [] Al.refl ⟨rfl, .bl _⟩ (by simp)⟩
  · cases e
end
end L2

set_option Elab.async false
set_option linter.all false
set_option maxRecDepth 100000
set_option maxHeartbeats 4000000
namespace L2
open PySem PySem.Spec PyProof.Rows

def FO (B : Bk) (t : TO) (m : FSt → Option (Option Int)) : Prop :=
  ∀ (S : FSt) (σ : St) (H : Hp) (F : Addr → Prop) (os : Nat → List Addr) (Q : Option Int → Hp → Prop) (c : Option Int), Rep B H F σ S os → m S = some c →
    (∀ H' F', Al H F H' F' → Rep B H' F' σ S os → Q c H') → t σ H Q
@[simp] def mNo : FSt → Option (Option Int) := fun _ => some none
@[simp] def mAt (m : FSt → Option D) : FSt → Option (Option Int) := fun S => (m S).bind fun d => match d with
  | .int i => some (some i)
  | _ => none
def cutG {α : Type} (xs : List α) (lo hi : Option Int) : List α := (xs.drop (HT.sIx xs.length 0 lo)).take (HT.sIx xs.length xs.length hi - HT.sIx xs.length 0 lo)
@[simp] def oSl : D → Option Int → Option Int → Option SV
  | .lst xs, lo, hi => some (.li (cutG xs lo hi))
  | .fz xs, lo, hi => some (.li (cutG xs lo hi))
  | .str z, lo, hi => if z.length ≤ sizeLine then some (.sh (.str (Txt.slice z lo hi))) else none
  | .tup xs, lo, hi => if HT.sIx xs.length 0 lo = 0 ∧ HT.sIx xs.length xs.length hi = xs.length then none else some (.sh (.tup (cutG xs lo hi)))
  | .kt xs, lo, hi => if HT.sIx xs.length 0 lo = 0 ∧ HT.sIx xs.length xs.length hi = xs.length then none else some (.sh (.tup (cutG xs lo hi)))
  | _, _, _ => none
@[simp] def mSl (a : FSt → Option D) (l h : FSt → Option (Option Int)) : FSt → Option SV := fun S => (a S).bind fun d => (l S).bind fun lo => (h S).bind fun hi => oSl d lo hi
section
variable {B : Bk} {te : TE} {L : List Nat} {md : FSt → Option D} {tl th : TO} {ml mh : FSt → Option (Option Int)} {K : PySem.W.Frag}
theorem fo_none : FO B tNoPart mNo := fun S σ H F os Q c r e k => by cases e; exact k H F Al.refl r
theorem fo_some (h : FD B te L md) : FO B (tPart te) (mAt md) := by
  intro S σ H F os Q c r e k
  obtain ⟨d, e1, e2⟩ := bind1 e
  refine h S σ H F os _ d r e1 fun v H' F' a r' da => ?_
  cases d with
  | int i => cases e2; cases da; exact ⟨_, rfl, k H' F' a r'⟩
  | _ => cases e2
theorem DAs.cut {H : Hp} {F : Addr → Prop} {vs : List V} {ds : List D} (r : DAs B H F vs ds) (lo hi : Option Int) : DAs B H F (cutV vs lo hi) (cutG ds lo hi) := by
  unfold cutV cutG
  rw [r.length]
  exact (r.drop _).take _
theorem fe_sl (hK : B.K = K) (he : FD B te L md) (hl : FO B tl ml) (hh : FO B th mh) : FE B (tSl (rSlE K) te tl th) L (mSl md ml mh) := by
  subst hK
  intro S σ H F os Q z r e k
  obtain ⟨d, e1, e⟩ := bind1 e
  obtain ⟨lo, e2, e⟩ := bind1 e
  obtain ⟨hi, e3, e⟩ := bind1 e
  refine he S σ H F os _ d r e1 fun v H1 F1 a1 r1 d1 => hl S σ H1 F1 os _ lo r1 e2 fun H2 F2 a2 r2 => hh S σ H2 F2 os _ hi r2 e3 fun H3 F3 a3 r3 => ?_
  have d3 : DA B H3 (orF F3 (osL os L)) v d := (d1.later a2 fun _ h => h).later a3 fun _ h => h
  have al := (a1.trans a2).trans a3
  have fin : ∀ v H' G' o, Al H3 (orF F3 (osL os L)) H' G' → VA B H' G' v z o → (∀ a, a ∈ o → H3 a = none) → Q v H' := fun u H4 G4 o a4 va fr => by
    obtain ⟨F4, al4, r4, va2⟩ := ve_split r3 a4 va fr
    refine k u H4 F4 o (al.trans al4) r4 va2 fun b e => ?_
    cases q : H b with
    | none => rfl
    | some w => have := fr b e; rw [al.same b w q] at this; cases this
  have hg := r3.gd L
  unfold oSl at e
  split at e
  · cases e
    cases d3 with
    | lst h q => exact .inr (.inl ⟨_, _, rfl, h.sq, fun p hp => new_li hg hp (q.cut _ _) fin⟩)
  · cases e
    cases d3 with
    | fz h q => exact .inr (.inl ⟨_, _, rfl, h.sq, fun p hp => new_li hg hp (q.cut _ _) fin⟩)
  · split at e
    · cases e; cases d3
      exact .inl ⟨_, rfl, by assumption, fin _ H3 _ [] Al.refl ⟨rfl, .str _⟩ (by simp)⟩
    · cases e
  · split at e
    · cases e
    · rename_i hw
      cases e
      cases d3 with
      | tup h q => exact .inr (.inr ⟨_, _, rfl, h.sq, by rw [q.length]; exact hw, fun p hp => new_tup hp (q.cut _ _) fin⟩)
  · split at e
    · cases e
    · rename_i hw
      cases e
      cases d3 with
      | kt h q => exact .inr (.inr ⟨_, _, rfl, h.sq, by rw [q.length]; exact hw, fun p hp => new_tup hp (q.cut _ _) fin⟩)
  · cases e
end

def valG {κ α : Type} [DecidableEq κ] (kvs : List (κ × α)) (k : κ) : Option α := (kvs.find? fun kv => decide (kv.1 = k)).map (·.2)
def putG {κ α : Type} [DecidableEq κ] (kvs : List (κ × α)) (k : κ) (v : α) : List (κ × α) :=
  if (kvs.any fun kv => decide (kv.1 = k)) = true then kvs.map (fun kv => if kv.1 = k then (kv.1, v) else kv) else kvs ++ [(k, v)]
section
variable {B : Bk} {H : Hp} {G : Addr → Prop} {κ : Type} [DecidableEq κ]
end
@[simp] def asK : D → Option Key
  | .int i => some (.inl i)
  | .str x => some (.inr x)
  | _ => none
@[simp] def asKs : List D → Option (List Key)
  | [] => some []
  | d :: r => (asK d).bind fun k => (asKs r).map fun ks => k :: ks
@[simp] def kD : Key → D
  | .inl i => .int i
  | .inr x => .str x
@[simp] def oGet : D → D → Option D
  | .dK kvs, y => (asK y).bind (valG kvs)
  | .dT kvs, .tup ds => (asKs ds).bind (valG kvs)
  | _, _ => none
section
variable {B : Bk} {H : Hp} {G : Addr → Prop}
theorem kD_da (k : Key) : DA B H G (kV k) (kD k) := by cases k <;> constructor
theorem kDs_da : ∀ ks : List Key, DAs B H G (ks.map kV) (ks.map kD)
  | [] => .nil
  | k :: ks => .cons (kD_da k) (kDs_da ks)
end
section
variable {B : Bk} {ta tb tv : TE} {La Lb Lv : List Nat} {ma mb mv : FSt → Option D}
@[simp] def mDK : FSt → Option SV := fun _ => some (.dK [])
@[simp] def mDT : FSt → Option SV := fun _ => some (.dT [])
@[simp] def putD : SV → D → D → Option SV
  | .dK kvs, y, d => (asK y).bind fun k => if kvs.length < sizeLine then some (.dK (putG kvs k d)) else none
  | .dT kvs, .tup ys, d => (asKs ys).bind fun k => if kvs.length < sizeLine then some (.dT (putG kvs k d)) else none
  | _, _, _ => none
@[simp] def mPut (i : Nat) (L : List Nat) (mk mv : FSt → Option D) : FSt → Fl := fun S => match mv S, mk S with
  | some d, some y => if d.plain = true ∨ L.any (isLk S) = false then
      match (if d.plain = true then S else frzs L S)[i]? with
      | some (some x) => match putD x y d with
        | some x' => .nx ((if d.plain = true then S else frzs L S).set i (some x'))
        | none => .bad
      | _ => .bad
    else .bad
  | _, _ => .bad
end

def rListT : List V → Hp → VK → Prop := fun xs H Q => ∃ a kvs, xs = [V.ref a] ∧ H a = some (.dT kvs) ∧ ∀ l ks, H l = none → Paired (fun (k : List Key) (b : Addr) => H b = some (.tup (k.map kV))) (kvs.map (·.1)) ks → Q (.ref l) (upd H l (.lst (ks.map V.ref)))
theorem call_listT {X : Cx} (hc : X.calm = true) : CallR X (.type "list") rListT := by
  intro pins s σ H xs us Q I r h
  obtain ⟨a, kvs, rfl, ha, q⟩ := h
  obtain ⟨u, rfl, ru⟩ := vals1 r
  cases ru
  obtain ⟨z, hd, ys, rel, o, es, ep, h1, h2, h3, h4, _⟩ := dt_of I.hok ha
  have hl : es.size = kvs.length := by
    have e1 : es.toList.length = ys.length := by rw [h4, List.length_map]
    have e2 : kvs.length = ys.length := Paired.length rel
    rw [Array.length_toList] at e1
    omega
  refine raw_list (I.ok.hd hc) hd ⟨o, h1, h2.1, h3⟩ (by rw [hl]; exact z) fun h' tk acc c' kp e it => ?_
  have eacc : acc.toList = (ys.map (·.2.1)).map Value.ref := by
    refine List.ext_getElem? fun i => ?_
    by_cases hi : i < acc.size
    · obtain ⟨en, e1, e2⟩ := it.2 i acc[i] (by simp [hi])
      have e3 : es.toList[i]? = some en := by simpa using e1
      rw [h4, List.getElem?_map] at e3
      cases qy : ys[i]? with
      | none => rw [qy] at e3; cases e3
      | some y =>
        rw [qy] at e3; cases e3
        have : acc.toList[i]? = some acc[i] := by simp [hi]
        rw [this, e2, List.getElem?_map, List.getElem?_map, qy]; rfl
    · have h5 : ys.length ≤ i := by
        have e1 : es.toList.length = ys.length := by rw [h4, List.length_map]
        rw [Array.length_toList] at e1
        have := it.1
        omega
      rw [List.getElem?_eq_none (by simp; omega), List.getElem?_eq_none (by simp; exact h5)]
  have vals : Vals ((ys.map (·.2.1)).map V.ref) acc.toList := by
    rw [eacc]
    have : ∀ l : List Addr, Vals (l.map V.ref) (l.map Value.ref) := fun l => by
      induction l with
      | nil => exact .nil
      | cons y ys ih => exact .cons rfl ih
    exact this _
  refine ⟨.ref s.heap.objs.size, _, I.laid (t' := tk) kp (Nat.le_refl _) (show ObjOk X.prog X.w _ h' _ (.lst ((ys.map (·.2.1)).map V.ref)) from ⟨?_, acc.toList, c', vals, by simpa using e⟩), rfl, q _ _ (I.hok.fresh (Nat.le_refl _)) ?_⟩
  · have e2 : kvs.length = ys.length := Paired.length rel
    simp; omega
  · have : ∀ {l : List (List Key × V)} {m : List (List Key × Addr × Value)}, KT H l m → Paired (fun (k : List Key) (b : Addr) => H b = some (.tup (k.map kV))) (l.map (·.1)) (m.map (·.2.1)) := fun {l m} rel => by
      unfold KT at rel
      induction rel with
      | nil => exact .nil
      | cons h _ ih =>
        obtain ⟨e1, e2, _⟩ := h
        exact .cons (by exact e2) ih
    exact this rel
def rListF (K : PySem.W.Frag) : List V → Hp → VK → Prop := fun xs H Q => rListOf K xs H Q ∨ rListT xs H Q
theorem call_listF {X : Cx} {K : PySem.W.Frag} (hK : X.K = K) (hc : X.calm = true) : CallR X (.type "list") (rListF K) := (call_listK hK).or (call_listT hc)
@[simp] def fList : List D → Option SV
  | [.lst xs] => some (.li xs)
  | [.fz xs] => some (.li xs)
  | [.tup xs] => some (.li xs)
  | [.kt xs] => some (.li xs)
  | [.dT kvs] => some (.li (kvs.map fun kv => .tup (kv.1.map kD)))
  | _ => none
@[simp] def fTuple : List D → Option SV
  | [.lst xs] => some (.sh (.tup xs))
  | [.fz xs] => some (.sh (.tup xs))
  | [.tup xs] => some (.sh (.tup xs))
  | [.kt xs] => some (.sh (.kt xs))
  | _ => none
section
variable {B : Bk} {K : PySem.W.Frag}
theorem c_list (hK : B.K = K) : CallE B (rListF K) fList := by
  subst hK
  intro H G vs ds z Q hg hd e k
  unfold fList at e
  split at e
  · cases e
    obtain ⟨v, rfl, d1⟩ := hd.one
    cases d1 with
    | lst h r => exact .inl ⟨_, _, rfl, .inl h.sq, fun p hp => new_li hg hp r k⟩
  · cases e
    obtain ⟨v, rfl, d1⟩ := hd.one
    cases d1 with
    | fz h r => exact .inl ⟨_, _, rfl, (.inl h.sq), fun p hp => new_li hg hp r k⟩
  · cases e
    obtain ⟨v, rfl, d1⟩ := hd.one
    cases d1 with
    | tup h r => exact .inl ⟨_, _, rfl, .inr h.sq, fun p hp => new_li hg hp r k⟩
  · cases e
    obtain ⟨v, rfl, d1⟩ := hd.one
    cases d1 with
    | kt h r => exact .inl ⟨_, _, rfl, .inr h.sq, fun p hp => new_li hg hp r k⟩
  · cases e
    obtain ⟨v, rfl, d1⟩ := hd.one
    cases d1 with
    | @dT a kvs _ f h ek r =>
      rename_i es
      refine .inr ⟨_, _, rfl, h, fun l ks hl pk => ?_⟩
      rw [ek] at pk
      let G' : Addr → Prop := fun b => G b ∨ isT H b
      have al : Al H G (upd H l (.lst (ks.map V.ref))) G' := ⟨same_upd hl, fun b z => .inl z, fun b z => by
        rcases z with z | z
        · exact .inl z
        · exact .inr (.inr z)⟩
      have das : DAs B (upd H l (.lst (ks.map V.ref))) G' (ks.map V.ref) (es.map fun kv => .tup (kv.1.map kD)) := by
        have : ∀ {ls : List (List Key)} {bs : List Addr}, Paired (fun (k : List Key) (b : Addr) => H b = some (.tup (k.map kV))) ls bs → DAs B (upd H l (.lst (ks.map V.ref))) G' (bs.map V.ref) (ls.map fun k => .tup (k.map kD)) := by
          intro ls bs p
          induction p with
          | nil => exact .nil
          | cons h _ ih => exact .cons (.tup ⟨.inr ⟨_, h⟩, al.same _ _ h⟩ (kDs_da _)) ih
        have := this pk
        rwa [List.map_map] at this
      have nl : ¬ G' l := fun z => by
        rcases z with z | ⟨ys, z⟩
        · exact hg l z hl
        · rw [hl] at z; cases z
      exact k (.ref l) _ G' [l] al ⟨l, _, rfl, rfl, nl, upd_same, das⟩ fun b hb => by rw [List.mem_singleton.mp hb]; exact hl
  · cases e
@[simp] def fMax : List D → Option SV
  | [.int i, .int j] => some (.sh (.int (if j > i then j else i)))
  | _ => none
@[simp] def fMin : List D → Option SV
  | [.int i, .int j] => some (.sh (.int (if j < i then j else i)))
  | _ => none
@[simp] def fInt : List D → Option SV
  | [.int i] => some (.sh (.int i))
  | [.bl b] => some (.sh (.int (if b then 1 else 0)))
  | _ => none
end
end L2

set_option Elab.async false
set_option linter.all false
set_option maxRecDepth 100000
set_option maxHeartbeats 4000000
namespace L2
open PySem PySem.Spec PyProof.Rows
section
variable {B : Bk} {ta tb te : TE} {L L' La Lb : List Nat} {ma mb md : FSt → Option D} {me : FSt → Option SV} {tr : TA} {mr : FSt → Option (List D)} {K : PySem.W.Frag}
theorem FE.wk (h : FE B ta L me) (hl : ∀ i, i ∈ L → i ∈ L') : FE B ta L' me := by
  intro S σ H F os Q x r e k
  refine h S σ H F os Q x r e fun v H' F' o a r' va fr => k v H' F' o a r' (va.sub (orF_sub (fun _ h => h) hl) fun b e q => ?_) fr
  rcases q with q | ⟨i, _, q⟩
  · exact (va.alive e).2.1 (.inl q)
  · exact (r.alive q).1 (fr b e)
theorem FD.wk (h : FD B ta L ma) (hl : ∀ i, i ∈ L → i ∈ L') : FD B ta L' ma := by
  intro S σ H F os Q x r e k
  exact h S σ H F os Q x r e fun v H' F' a r' da => k v H' F' a r' (da.mono (fun _ _ _ e => e) (orF_sub (fun _ h => h) hl))
theorem sub_dec {L L' : List Nat} (h : (L.all fun i => L'.contains i) = true) : ∀ i, i ∈ L → i ∈ L' := fun i hi => by
  have := List.all_eq_true.mp h i hi
  simpa using this
theorem ws_set {i : Nat} (L' : List Nat) (he : FE B te L me) (hl : (L.all fun i => L'.contains i) = true := by rfl) : FS B (tAsg te (gName i)) (mSet i L' me) := fs_set (he.wk (sub_dec hl))
theorem ws_app {i : Nat} (L' : List Nat) (hK : B.K = K) (he : FD B te L md) (hl : (L.all fun i => L'.contains i) = true := by rfl) : FS B (tDrop (tBM K "list" rAppend (tVar i) (tCons te tNil))) (mApp i L' md) := fs_app hK (he.wk (sub_dec hl))
theorem wi_seq (L' : List Nat) (hK : B.K = K) (he : FE B te L me) (hl : (L.all fun i => L'.contains i) = true := by rfl) : FI B (iSeq K te) (mIt L' me) := fi_seq hK (he.wk (sub_dec hl))

@[simp] def asLi : SV → Option (List D)
  | .li xs => some xs
  | _ => none
@[simp] def mLs (a : FSt → Option SV) (r : FSt → Option (List (List D))) : FSt → Option (List (List D)) := fun S => (a S).bind fun x => (asLi x).bind fun xs => (r S).map fun xss => xs :: xss
@[simp] def mLs0 : FSt → Option (List (List D)) := fun _ => some []
@[simp] def mLl (r : FSt → Option (List (List D))) : FSt → Option SV := fun S => (r S).bind fun xss => if xss.length ≤ sizeLine then some (.ll xss) else none
@[simp] def mAppAt (i : Nat) (mk md : FSt → Option D) : FSt → Fl := fun S => match S[i]?, mk S, md S with
  | some (some (.ll xss)), some (.int k), some d => if d.plain = true then (match ixN xss.length k with
      | some j => match xss[j]? with
        | some xs => if xs.length < sizeLine then .nx (S.set i (some (.ll (xss.set j (xs ++ [d]))))) else .bad
        | none => .bad
      | none => .bad) else .bad
  | _, _, _ => .bad
end

@[simp] def mAsg (L : List Nat) (me : FSt → Option SV) (mg : D → FSt → Option FSt) : FSt → Fl := fun S => match me S with
  | some x => if x.plain = true then (match mg x.fr S with | some S' => .nx S' | none => .bad) else if L.any (isLk S) = false then (match mg x.fr (frzs L S) with | some S' => .nx S' | none => .bad) else .bad
  | none => .bad
section
variable {B : Bk} {te : TE} {L : List Nat} {me : FSt → Option SV} {g : TG} {mg : D → FSt → Option FSt}
end
@[simp] def mR1 (mr : FSt → Option (List D)) : FSt → Option (List D) := fun S => (mr S).bind fun ds => if ds.length = 1 then fRng ds else none
@[simp] def mR2 (mr : FSt → Option (List D)) : FSt → Option (List D) := fun S => (mr S).bind fun ds => if ds.length = 2 then fRng ds else none
section
variable {B : Bk} {tr : TA} {L : List Nat} {mr : FSt → Option (List D)}
theorem wi_rng1 (hr : FA B tr L mr) : FI B (iRng1 tr) (mR1 mr) := fi_rng1 hr
end

theorem runF_len' {m : FSt → Fl} {n k : Nat} : ∀ ds z, runF m n k ds = some z → ds.length = n := fun _ _ h => runF_len h
theorem Fun.okF {P : Program} {w : World} {K : PySem.W.Frag} {mg : Str → Option Value} {base : Heap} {x qual : Str} {st : Stmt} {f : Addr} {fd : FuncData} {N ps : List Str} {k : Nat} {B : Bk} {m : FSt → Fl} (F : Fun K x qual st f fd) (S : FnScope N ps (defScope st))
    (hbody : ∀ (cdv : Value) (A : Around) (outer : List Env) (s : Shared) (H : Hp) (E : XK), Room k (A.deeper (envOfC qual (defScope st) s.heap.objs.size f cdv)) →
      ∃ t, PSs (cxOf CX0 P w K mg base N qual (defScope st) f cdv A outer s H E).nox (defBody st) t ∧ FS B t m) : FnOk P w K mg base CX0 (k + 1) f fd ps (SpF B ps.length (runF m ps.length N.length)) := by
  obtain ⟨oc, od, kV, doc, pm, an, cdv, ct, osl, rfl, lk, hcd⟩ := F.ex
  refine fn_F lk hcd S fun A outer s H E hr => ?_
  obtain ⟨t, h, q⟩ := hbody cdv A outer s H E hr
  exact ⟨t, h.nox, q⟩
def sp_law (K : PySem.W.Frag) : Sp := fun vs H Q _ => ∃ (a : Addr) (ns : List Int), vs = [.ref a] ∧ SqL K H a (ns.map V.int) ∧ Only H ∧ ns.length ≤ 63 ∧ ∀ H', Q (.bl true) H'
theorem ints_da {B : Bk} {H : Hp} {G : Addr → Prop} : ∀ ns : List Int, DAs B H G (ns.map V.int) (ns.map D.int)
  | [] => .nil
  | n :: ns => .cons (.int n) (ints_da ns)
theorem sp_law_of {K : PySem.W.Frag} {B : Bk} {f : List D → Option SV} (hK : B.K = K) (h : ∀ ns : List Int, ns.length ≤ 63 → f [.fz (ns.map D.int)] = some (.sh (.bl true))) : ∀ vs H Q E, sp_law K vs H Q E → SpF B 1 f vs H Q E := by
  subst hK
  rintro vs H Q E ⟨a, ns, rfl, hs, ho, hl, k⟩
  refine ⟨rfl, fun b => H b ≠ none, [.fz (ns.map D.int)], .sh (.bl true), fun _ z => z, .cons (.fz ?_ (ints_da ns)) .nil, h ns hl, fun v H' G' o _ va _ => ?_⟩
  · rcases hs with (hs | ⟨o, hs⟩) | hs
    · rcases ho a with z | ⟨o, xs, z⟩
      · rw [hs] at z; cases z
      · rw [hs] at z; cases z
    · exact .inl ⟨by show H a ≠ none; rw [hs]; simp, o, hs⟩
    · exact .inr hs
  · obtain ⟨_, da⟩ := va
    cases da
    exact k H'
end L2

set_option Elab.async false
set_option linter.all false
set_option maxRecDepth 100000
set_option maxHeartbeats 4000000
namespace L2
open PySem PySem.Spec PyProof.Rows

section
variable {B : Bk} {te : TE} {L : List Nat} {md : FSt → Option D} {K : PySem.W.Frag}
def putD' (f : Str) (v : D) : List (Str × D) → List (Str × D)
  | [] => [(f, v)]
  | (g, x) :: r => if g = f then (g, v) :: r else (g, x) :: putD' f v r
@[simp] def mFldS (i : Nat) (cs : List Nat) (f : Str) (L : List Nat) (md : FSt → Option D) : FSt → Fl := fun S => match md S with
  | some d => if d.plain = true ∨ L.any (isLk S) = false then
      match (if d.plain = true then S else frzs L S)[i]? with
      | some (some (.ob c fs)) => if c ∈ cs ∧ fs.length < 1000 then .nx ((if d.plain = true then S else frzs L S).set i (some (.ob c (putD' f d fs)))) else .bad
      | _ => .bad
    else .bad
  | none => .bad
end
@[simp] def mMake (c : Nat) (f : Nat → List D → Option (List (Str × D))) (mr : FSt → Option (List D)) : FSt → Option SV := fun S => (mr S).bind fun ds => (f c ds).map fun fs => .sh (.ins c fs)
section
variable {B : Bk} {tr : TA} {L : List Nat} {mr : FSt → Option (List D)}
end
end L2

set_option Elab.async false
set_option linter.all false
set_option maxRecDepth 100000
set_option maxHeartbeats 4000000
namespace L2
open PySem PySem.Spec PyProof.Rows

@[simp] def mBM (f : D → List D → Option SV) (a : FSt → Option D) (r : FSt → Option (List D)) : FSt → Option SV := fun S => (a S).bind fun x => (r S).bind fun ds => f x ds
section
variable {B : Bk} {K : PySem.W.Frag} {ta : TE} {La Lb L : List Nat} {ma : FSt → Option D} {tr : TA} {mr : FSt → Option (List D)}
@[simp] def asStrs : List D → Option (List Str)
  | [] => some []
  | .str z :: r => (asStrs r).map fun zs => z :: zs
  | _ => none
@[simp] def oJoin : D → List D → Option SV
  | .str z, [.lst ds] => (asStrs ds).bind fun zs => if (zs.map (·.length)).sum + zs.length * z.length ≤ 16777216 then some (.sh (.str (Txt.join z zs))) else none
  | _, _ => none
@[simp] def oIndex : D → List D → Option SV
  | .lst ds, [.str z] => (asStrs ds).bind fun zs => if zs.idxOf z < zs.length then some (.sh (.int (zs.idxOf z : Nat))) else none
  | _, _ => none
@[simp] def oBitLen : D → List D → Option SV
  | .int i, [] => some (.sh (.int ((Builtin.Int.intBits i : Nat) : Int)))
  | _, _ => none
@[simp] def asBs : List D → Option (List Bool)
  | [] => some []
  | .bl z :: r => (asBs r).map fun zs => z :: zs
  | _ => none
@[simp] def fAll : List D → Option SV
  | [.lst ds] => (asBs ds).map fun bs => .sh (.bl (bs.all id))
  | _ => none
@[simp] def fStr : List D → Option SV
  | [.int i] => if i.natAbs.log2 < 1920 then some (.sh (.str (toString i))) else none
  | _ => none
@[simp] def fStrF : List D → Option SV
  | [.int i] => if i.natAbs.log2 < 1920 then some (.sh (.str (toString i))) else none
  | [.str z] => some (.sh (.str z))
  | _ => none
def rIsC (K : PySem.W.Frag) : List V → Hp → VK → Prop := fun xs H Q => ∃ x C t b, xs = [x, .ref C] ∧ TyOf K H x t ∧ PySem.W.kitOne K t (.ref C) = some b ∧ Q (.bl b) H
theorem call_isC {X : Cx} (hK : X.K = K) : CallR X (.builtin "isinstance") (rIsC K) := by
  subst hK
  intro pins s σ H xs us Q I r h
  obtain ⟨x, C, t, b, rfl, ty, e, q⟩ := h
  obtain ⟨u, c, rfl, ru, rc⟩ := Vals.two r
  cases rc
  exact isinst_ok I ru ty e fun tk => ⟨.bl b, H, I.tok tk, rfl, q⟩
def rIsF (K : PySem.W.Frag) : List V → Hp → VK → Prop := fun xs H Q => rIsinst K xs H Q ∨ rIsC K xs H Q
theorem call_isF {X : Cx} (hK : X.K = K) : CallR X (.builtin "isinstance") (rIsF K) := (call_isinstK hK).or (call_isC hK)
structure KInst (K : PySem.W.Frag) (C : Addr) : Prop where
  cl : Cls K C
  ha : PySem.W.findIn K (.ref C) "__class__" = some (some (.builtin "object.__class__"))
  hn : PySem.W.specialIn K (.builtin "object.__class__") "__get__" = some (some (.builtin "getset_descriptor.__get__"))
  htk : PySem.W.takesIn K (.builtin "object.__class__") = some true
  hm : PySem.W.mroIn K C (.type "object") = some true
def fIsF (tab : Nat → Nat → Option Bool) : List D → Option SV
  | [d, .ty n] => d.kind.bind fun t => (kitB t n).map fun b => .sh (.bl b)
  | [.ins c _, .cls C] => (tab c C).map fun b => .sh (.bl b)
  | _ => none
theorem c_isF {tab : Nat → Nat → Option Bool} (hK : B.K = K) (ht : ∀ c C b, tab c C = some b → KInst B.K (B.cl c) ∧ PySem.W.kitOne B.K (.ref (B.cl c)) (.ref (B.cl C)) = some b) : CallE B (rIsF K) (fIsF tab) := by
  subst hK
  intro H G vs ds z Q hg hd e k
  unfold fIsF at e
  split at e
  · exact .inl (c_isi rfl H G vs _ z Q hg hd (by unfold fIsi; exact e) k)
  · rw [Option.map_eq_some_iff] at e
    obtain ⟨b, e1, rfl⟩ := e
    obtain ⟨v, w, rfl, d1, d2⟩ := hd.two
    cases d2
    cases d1 with
    | ins f h en r =>
      obtain ⟨ki, kk⟩ := ht _ _ _ e1
      exact .inr ⟨_, _, _, b, rfl, .ins h ki.cl ki.ha ki.hn ki.htk ki.hm, kk, k _ H G [] Al.refl ⟨rfl, .bl _⟩ (by simp)⟩
  · cases e
@[simp] def mAppT (me : FSt → Option SV) (md : FSt → Option D) : FSt → Fl := fun S => match me S, md S with
  | some (.li xs), some _ => if xs.length < sizeLine then .nx S else .bad
  | _, _ => .bad
@[simp] def mRev (i : Nat) : FSt → Fl := fun S => match S[i]? with
  | some (some (.li xs)) => .nx (S.set i (some (.li xs.reverse)))
  | _ => .bad
end
section
variable {es : List Expr} {env : Env}
theorem st_Constant {c k pos} : starEach (.Constant c k pos :: es) env = (false, eval (.Constant c k pos) env) :: starEach es env := rfl
theorem st_Name {x pos} : starEach (.Name x pos :: es) env = (false, eval (.Name x pos) env) :: starEach es env := rfl
theorem st_BinOp {a o b pos} : starEach (.BinOp a o b pos :: es) env = (false, eval (.BinOp a o b pos) env) :: starEach es env := rfl
theorem st_Call {a b c pos} : starEach (.Call a b c pos :: es) env = (false, eval (.Call a b c pos) env) :: starEach es env := rfl
theorem st_Subscript {a b pos} : starEach (.Subscript a b pos :: es) env = (false, eval (.Subscript a b pos) env) :: starEach es env := rfl
end
end L2

set_option Elab.async false
set_option linter.all false
set_option maxRecDepth 100000
set_option maxHeartbeats 4000000
namespace L2
open PySem PySem.Spec PyProof.Rows
section
variable {ι : Type}
structure JD (Xs : ι → Cx) (B : Bk) (e : Expr) (L : List Nat) (m : FSt → Option D) : Prop where
  ex : ∃ t, (∀ i, PE (Xs i) e t) ∧ FD B t L m
structure JE (Xs : ι → Cx) (B : Bk) (e : Expr) (L : List Nat) (m : FSt → Option SV) : Prop where
  ex : ∃ t, (∀ i, PE (Xs i) e t) ∧ FE B t L m
structure JT (Xs : ι → Cx) (B : Bk) (e : Expr) (m : FSt → Option Bool) : Prop where
  ex : ∃ t, (∀ i, PT (Xs i) e t) ∧ FT B t m
structure JW (Xs : ι → Cx) (B : Bk) (e : Expr) (m : FSt → Option Bool) : Prop where
  ex : ∃ t, (∀ i, PW (Xs i) e t) ∧ FT B t m
structure JA (Xs : ι → Cx) (B : Bk) (es : List Expr) (L : List Nat) (m : FSt → Option (List D)) : Prop where
  ex : ∃ t, (∀ i, PA (Xs i) es t) ∧ FA B t L m
structure JO (Xs : ι → Cx) (B : Bk) (e : Option Expr) (m : FSt → Option (Option Int)) : Prop where
  ex : ∃ t, (∀ i, PO (Xs i) e t) ∧ FO B t m
structure JS (Xs : ι → Cx) (B : Bk) (st : Stmt) (m : FSt → Fl) : Prop where
  ex : ∃ t, (∀ i, PS (Xs i) st t) ∧ FS B t m
structure JB (Xs : ι → Cx) (B : Bk) (sts : List Stmt) (m : FSt → Fl) : Prop where
  ex : ∃ t, (∀ i, PSs (Xs i) sts t) ∧ FS B t m
structure JG (Xs : ι → Cx) (B : Bk) (tg : Expr) (m : D → FSt → Option FSt) : Prop where
  ex : ∃ t, (∀ i, PG (Xs i) tg t) ∧ FG B t m
structure JI (Xs : ι → Cx) (B : Bk) (tg iter : Expr) (m : FSt → Option (List D)) : Prop where
  ex : ∃ t, (∀ i, PI (Xs i) tg iter t) ∧ FI B t m
structure JIc (Xs : ι → Cx) (B : Bk) (tg iter : Expr) (L : List Nat) (m : FSt → Option (List D)) : Prop where
  ex : ∃ t, (∀ i, PI (Xs i) tg iter t) ∧ FIc B t L m
structure JX (Xs : ι → Cx) (P : Program) (w : World) (K : PySem.W.Frag) (mg : Str → Option Value) (base : Heap) (k : Nat) (B : Bk) : Prop where
  p : ∀ i, (Xs i).prog = P
  w' : ∀ i, (Xs i).w = w
  k' : ∀ i, (Xs i).K = K
  m : ∀ i, (Xs i).mg = mg
  b : ∀ i, (Xs i).base = base
  r : ∀ i, Room k (Xs i).A
  c : ∀ i, (Xs i).calm = true
  bk : B.K = K
  x : ∀ i, PassesOwn (model (Xs i).prog (Xs i).w) (Xs i).A (Xs i).env (Xs i).xe
variable {Xs : ι → Cx} {P : Program} {w : World} {K : PySem.W.Frag} {mg : Str → Option Value} {base : Heap} {k : Nat} {B : Bk} {a b e o c : Expr} {es : List Expr} {L L' La Lb : List Nat} {ma mb md : FSt → Option D} {me mx my : FSt → Option SV} {mt mu : FSt → Option Bool} {mr : FSt → Option (List D)} {pos : Pos}
theorem JE.asD (h : JE Xs B e L me) : JD Xs B e L (mFr me) := let ⟨t, p, f⟩ := h.ex; ⟨⟨t, p, f.fd⟩⟩
theorem JD.asE (h : JD Xs B e L ma) : JE Xs B e L (mSh ma) := let ⟨t, p, f⟩ := h.ex; ⟨⟨t, p, f.fe⟩⟩
theorem j_var (i : Nat) {x : Str} (hN : ∀ j, (Xs j).N[i]? = some x := by intro _; rfl) (hv : ∀ j, Vis (Xs j).env.scope x := by intro _; first | exact Or.inl rfl | exact Or.inr (Or.inl rfl) | exact Or.inr (Or.inr rfl)) (hd : (x == ("__debug__" : Str)) = false := by decide) (hcd : (x == ("__classdict__" : Str)) = false := by decide) : JD Xs B (.Name x pos) [i] (mV i) :=
  ⟨⟨_, fun j => pe_var (hN j) (hv j) hd hcd, fd_var i⟩⟩
theorem j_int {i : Int} {j} : JD Xs B (.Constant (.int i) j pos) [] (mC (.int i)) := ⟨⟨_, fun _ => pe_int, fd_C (.int _)⟩⟩
theorem j_bl {i : Bool} {j} : JD Xs B (.Constant (.bool i) j pos) [] (mC (.bl i)) := ⟨⟨_, fun _ => pe_bl, fd_C (.bl _)⟩⟩
theorem j_non {j} : JD Xs B (.Constant .none j pos) [] (mC .non) := ⟨⟨_, fun _ => pe_non, fd_C .non⟩⟩
theorem j_ty (jx : JX Xs P w K mg base k B) {x : Str} {n : String} (h : mg x = none) (hv : bootBuiltins x = some (.type n)) (hg : ∀ j, Gl (Xs j) x := by intro _; rfl) (hn : x ≠ "__name__" := by decide) (hd : (x == ("__debug__" : Str)) = false := by decide) : JD Xs B (.Name x pos) [] (mC (.ty n)) :=
  ⟨⟨_, fun j => pe_bltn (v := .ty n) (hg j) (jx.m j ▸ h) hv rfl hn hd, fd_C (.ty _)⟩⟩
theorem j_op {op : Operator} {r : R2} {f : D → D → Option D} (ho : ∀ i, OpR (Xs i) (binaryOp op) r) (hf : OpD B r f) (ha : JD Xs B a La ma) (hb : JD Xs B b Lb mb) : JD Xs B (.BinOp a op b pos) (La ++ Lb) (m2 f ma mb) :=
  let ⟨_, pa, fa⟩ := ha.ex; let ⟨_, pb, fb⟩ := hb.ex; ⟨⟨_, fun i => pe_op (ho i) (pa i) (pb i), fd_op hf fa fb⟩⟩
theorem j_add (jx : JX Xs P w K mg base k B) (ha : JD Xs B a La ma) (hb : JD Xs B b Lb mb) : JE Xs B (.BinOp a .Add b pos) (La ++ Lb) (m2 oAdd ma mb) :=
  let ⟨_, pa, fa⟩ := ha.ex; let ⟨_, pb, fb⟩ := hb.ex; ⟨⟨_, fun i => pe_op (op_addK (jx.k' i)) (pa i) (pb i), fe_op (e_add jx.bk) fa fb⟩⟩
theorem j_mul (ha : JD Xs B a La ma) (hb : JD Xs B b Lb mb) : JE Xs B (.BinOp a .Mult b pos) (La ++ Lb) (m2 oMul ma mb) :=
  let ⟨_, pa, fa⟩ := ha.ex; let ⟨_, pb, fb⟩ := hb.ex; ⟨⟨_, fun i => pe_op op_mulG (pa i) (pb i), fe_op e_mul fa fb⟩⟩
structure JCmp (Xs : ι → Cx) (B : Bk) (op : CmpOp) (f : D → D → Option D) : Prop where
  ex : ∃ r, (∀ i, OpR (Xs i) (compareOp op) r) ∧ OpD B r f
theorem c_eq (jx : JX Xs P w K mg base k B) : JCmp Xs B .Eq oEq := ⟨⟨_, fun i => op_eqD (jx.k' i) (jx.r i).c64, od_eq jx.bk⟩⟩
theorem c_ne (jx : JX Xs P w K mg base k B) : JCmp Xs B .NotEq oNe := ⟨⟨_, fun i => op_neD (jx.k' i) (jx.r i).c64, od_ne jx.bk⟩⟩
theorem c_notIn (jx : JX Xs P w K mg base k B) : JCmp Xs B .NotIn oNotIn := ⟨⟨_, fun i => op_notInE (jx.k' i) (jx.r i).c64, od_notIn jx.bk⟩⟩
theorem c_gt : JCmp Xs B .Gt oGt := ⟨⟨_, fun _ => op_gt, od_gt⟩⟩
theorem c_is : JCmp Xs B .Is oIs := ⟨⟨_, fun _ => op_isN, od_is⟩⟩
theorem j_cmp {op : CmpOp} {f : D → D → Option D} (hc : JCmp Xs B op f) (ha : JD Xs B a La ma) (hb : JD Xs B b Lb mb) (hm : behindInMarks op b = false := by first | exact nomark _ | rfl) : JD Xs B (.Compare a [op] [b] pos) (La ++ Lb) (m2 f ma mb) :=
  let ⟨_, ho, hf⟩ := hc.ex; let ⟨_, pa, fa⟩ := ha.ex; let ⟨_, pb, fb⟩ := hb.ex; ⟨⟨_, fun i => pe_cmpR (ho i) (pa i) (pb i) hm, fd_op hf fa fb⟩⟩
theorem jt_cmp {op : CmpOp} {f : D → D → Option D} (hc : JCmp Xs B op f) (ha : JD Xs B a La ma) (hb : JD Xs B b Lb mb) (hm : behindInMarks op b = false := by first | exact nomark _ | rfl) : JT Xs B (.Compare a [op] [b] pos) (mTruth (m2 f ma mb)) :=
  let ⟨_, ho, hf⟩ := hc.ex; let ⟨_, pa, fa⟩ := ha.ex; let ⟨_, pb, fb⟩ := hb.ex; ⟨⟨_, fun i => pt_cmpR (ho i) (pa i) (pb i) hm, ft_of (fd_op hf fa fb)⟩⟩
theorem jt_val (h : JD Xs B e L ma) (he : ∀ i whole, isTrue e (Xs i).env whole = (do let v ← whole; standAt e.pos; holding [v] (truthy v)) := by intro _ _; rfl) : JT Xs B e (mTruth ma) := let ⟨_, p, f⟩ := h.ex; ⟨⟨_, fun i => pt_val (p i) (he i), ft_val f⟩⟩
theorem jt_not (h : JT Xs B a mt) : JT Xs B (.UnaryOp .Not a pos) (mNot mt) := let ⟨_, p, f⟩ := h.ex; ⟨⟨_, fun i => pt_not (p i), ft_not f⟩⟩
theorem JW.t (h : JW Xs B a mt) : JT Xs B a mt := let ⟨_, p, f⟩ := h.ex; ⟨⟨_, fun i => (p i).pt, f⟩⟩
theorem jw_and1 (h : JT Xs B a mt) : JW Xs B (.BoolOp .And [a] pos) mt := let ⟨_, p, f⟩ := h.ex; ⟨⟨_, fun i => pw_and1 (p i), f⟩⟩
theorem jw_or1 (h : JT Xs B a mt) : JW Xs B (.BoolOp .Or [a] pos) mt := let ⟨_, p, f⟩ := h.ex; ⟨⟨_, fun i => pw_or1 (p i), f⟩⟩
theorem jw_and {rest : List Expr} (h : JT Xs B a mt) (h' : JW Xs B (.BoolOp .And (b :: rest) pos) mu) : JW Xs B (.BoolOp .And (a :: b :: rest) pos) (mAnd mt mu) := let ⟨_, p, f⟩ := h.ex; let ⟨_, p', f'⟩ := h'.ex; ⟨⟨_, fun i => pw_and (p i) (p' i), ft_and f f'⟩⟩
theorem jw_or {rest : List Expr} (h : JT Xs B a mt) (h' : JW Xs B (.BoolOp .Or (b :: rest) pos) mu) : JW Xs B (.BoolOp .Or (a :: b :: rest) pos) (mOr mt mu) := let ⟨_, p, f⟩ := h.ex; let ⟨_, p', f'⟩ := h'.ex; ⟨⟨_, fun i => pw_or (p i) (p' i), ft_or f f'⟩⟩
theorem j_one {op} (h : JD Xs B a L ma) : JD Xs B (.BoolOp op [a] pos) L ma := let ⟨_, p, f⟩ := h.ex; ⟨⟨_, fun i => pe_one (p i), f⟩⟩
theorem j_and {rest : List Expr} (h : JD Xs B a La ma) (h' : JD Xs B (.BoolOp .And (b :: rest) pos) Lb mb) : JD Xs B (.BoolOp .And (a :: b :: rest) pos) (La ++ Lb) (mIte (mTruth ma) mb (mC (.bl false))) := let ⟨_, p, f⟩ := h.ex; let ⟨_, p', f'⟩ := h'.ex; ⟨⟨_, fun i => pe_and (p i) (p' i), fd_andV f f'⟩⟩
abbrev oInv : D → Option D := fI1 fun i => some (.int (Builtin.bitNot i))
theorem od_inv : UnD B (rU fun i => .int (Builtin.bitNot i)) oInv := und_I fun _ => .int _
theorem j_inv (h : JD Xs B a L ma) : JD Xs B (.UnaryOp .Invert a pos) L (m1 oInv ma) := let ⟨_, p, f⟩ := h.ex; ⟨⟨_, fun i => pe_un un_inv (p i), fd_un od_inv f⟩⟩
theorem j_if (hc : JT Xs B c mt) (ha : JE Xs B a La mx) (hb : JE Xs B b Lb my) : JE Xs B (.IfExp c a b pos) (La ++ Lb) (mIte mt mx my) := let ⟨_, p, f⟩ := hc.ex; let ⟨_, p', f'⟩ := ha.ex; let ⟨_, q, g⟩ := hb.ex; ⟨⟨_, fun i => pe_ifExp (p i) (p' i) (q i), fe_if f f' g⟩⟩
theorem ja_nil : JA Xs B [] [] mNil := ⟨⟨_, fun _ => pa_nil, fa_nil⟩⟩
theorem ja_cons (ha : JD Xs B e La ma) (hr : JA Xs B es Lb mr) (hs : ∀ i, starEach (e :: es) (Xs i).env = (false, eval e (Xs i).env) :: starEach es (Xs i).env) : JA Xs B (e :: es) (La ++ Lb) (mCons ma mr) := let ⟨_, p, f⟩ := ha.ex; let ⟨_, p', f'⟩ := hr.ex; ⟨⟨_, fun i => pa_cons (p i) (p' i) (hs i), fa_cons f f'⟩⟩
theorem j_lst (h : JA Xs B es L mr) : JE Xs B (.List es pos) L (mLst mr) := let ⟨_, p, f⟩ := h.ex; ⟨⟨_, fun i => pe_lst (p i), fe_lst f⟩⟩
theorem j_tup {x1} (h : JA Xs B es L mr) : JD Xs B (.Tuple es x1 pos) L (mTup mr) := let ⟨_, p, f⟩ := h.ex; ⟨⟨_, fun i => pe_tup (p i), fd_tup f⟩⟩
theorem jo_none : JO Xs B none mNo := ⟨⟨_, fun _ => po_none, fo_none⟩⟩
theorem jo_some (h : JD Xs B e L ma) : JO Xs B (some e) (mAt ma) := let ⟨_, p, f⟩ := h.ex; ⟨⟨_, fun i => po_some (p i), fo_some f⟩⟩
theorem j_sl (jx : JX Xs P w K mg base k B) {lo hi : Option Expr} {ml mh : FSt → Option (Option Int)} {p2 : Pos} (h : JD Xs B e L ma) (hl : JO Xs B lo ml) (hh : JO Xs B hi mh) : JE Xs B (.Subscript e (.Slice lo hi none p2) pos) L (mSl ma ml mh) :=
  let ⟨_, p, f⟩ := h.ex; let ⟨_, p', f'⟩ := hl.ex; let ⟨_, q, g⟩ := hh.ex; ⟨⟨_, fun i => pe_slice (sl_seqE (jx.k' i)) (p i) (p' i) (q i), fe_sl jx.bk f f' g⟩⟩
theorem j_ix (jx : JX Xs P w K mg base k B) (ha : JD Xs B a La ma) (hb : JD Xs B b Lb mb) (hs : PlainIx b) : JD Xs B (.Subscript a b pos) (La ++ Lb) (m2 oIx ma mb) :=
  let ⟨_, p, f⟩ := ha.ex; let ⟨_, p', f'⟩ := hb.ex; ⟨⟨_, fun i => pe_ix (ix_seqK (jx.k' i)) (p i) (p' i) hs, fd_op (od_ix jx.bk) f f'⟩⟩
theorem JX.fn (jx : JX Xs P w K mg base k B) {CX : CXT} {n : Nat} {f : Addr} {fd : FuncData} {ps : List Str} {sp : Sp} (F : FnOk P w K mg base CX n f fd ps sp) (i : ι) : FnOk (Xs i).prog (Xs i).w (Xs i).K (Xs i).mg (Xs i).base CX n f fd ps sp := by
  rw [jx.p i, jx.w' i, jx.k' i, jx.m i, jx.b i]; exact F
theorem j_call (jx : JX Xs P w K mg base k B) {n nf : Nat} {f : Addr} {fd : FuncData} {ps : List Str} {fn : List D → Option SV} {x : Str} {p : Pos} (F : FnOk P w K mg base CX0 n f fd ps (SpF B nf fn)) (hn : n ≤ k) (hm : mg x = some (.ref f)) (hk : PySem.W.keepIn K (.ref f) = true) (hb : Binds K fd ps []) (hf : ∀ ds z, fn ds = some z → ds.length = nf)
    (ha : JA Xs B (e :: es) L mr) (he : ∀ i, starEach (e :: es) (Xs i).env = (false, eval e (Xs i).env) :: starEach es (Xs i).env) (hg : ∀ j, Gl (Xs j) x := by intro _; rfl) (hpl : ∀ i, (backTo pos (starEach es (Xs i).env)).any (·.1) = false := by intro _; rfl) (hdb : (x == ("__debug__" : Str)) = false := by decide) :
    JE Xs B (.Call (.Name x p) (e :: es) [] pos) L (m1 fn mr) :=
  let ⟨_, q, g⟩ := ha.ex; ⟨⟨_, fun i => pe_call (jx.fn F i) ((jx.r i).mono hn) (hg i) (jx.m i ▸ hm) (jx.k' i ▸ hk) (jx.k' i ▸ hb) .nil pass0 (q i) hdb (he i) (hpl i), fe_call hf g⟩⟩
structure JCall (Xs : ι → Cx) (B : Bk) (v : Value) (f : List D → Option SV) : Prop where
  ex : ∃ r, (∀ i, CallR (Xs i) v r) ∧ CallE B r f
theorem b_len (jx : JX Xs P w K mg base k B) : JCall Xs B (.builtin "len") fLen := ⟨⟨_, fun i => call_lenF (jx.k' i), c_len jx.bk⟩⟩
theorem b_isi (jx : JX Xs P w K mg base k B) {tab : Nat → Nat → Option Bool} (ht : ∀ c C b, tab c C = some b → KInst B.K (B.cl c) ∧ PySem.W.kitOne B.K (.ref (B.cl c)) (.ref (B.cl C)) = some b) : JCall Xs B (.builtin "isinstance") (fIsF tab) := ⟨⟨_, fun i => call_isF (jx.k' i), c_isF jx.bk ht⟩⟩
theorem b_list (jx : JX Xs P w K mg base k B) : JCall Xs B (.type "list") fList := ⟨⟨_, fun i => call_listF (jx.k' i) (jx.c i), c_list jx.bk⟩⟩
theorem j_callB (jx : JX Xs P w K mg base k B) {id : String} {f : List D → Option SV} {x : Str} {p : Pos} (hc : JCall Xs B (.builtin id) f) (hm : mg x = none) (hv : bootBuiltins x = some (.builtin id)) (ha : JA Xs B (e :: es) L mr) (he : ∀ i, starEach (e :: es) (Xs i).env = (false, eval e (Xs i).env) :: starEach es (Xs i).env)
    (hg : ∀ j, Gl (Xs j) x := by intro _; rfl) (hn : x ≠ "__name__" := by decide) (hdb : (x == ("__debug__" : Str)) = false := by decide) (hpl : ∀ i, (backTo pos (starEach es (Xs i).env)).any (·.1) = false := by intro _; rfl) : JE Xs B (.Call (.Name x p) (e :: es) [] pos) L (m1 f mr) :=
  let ⟨_, c1, c2⟩ := hc.ex; let ⟨_, q, g⟩ := ha.ex; ⟨⟨_, fun i => pe_callB (c1 i) (hg i) (jx.m i ▸ hm) hv (q i) hn hdb (he i) (hpl i), fe_CB c2 g⟩⟩
theorem j_callTy (jx : JX Xs P w K mg base k B) {T : String} {f : List D → Option SV} {x : Str} {p : Pos} (hc : JCall Xs B (.type T) f) (hm : mg x = none) (hv : bootBuiltins x = some (.type T)) (ha : JA Xs B (e :: es) L mr) (he : ∀ i, starEach (e :: es) (Xs i).env = (false, eval e (Xs i).env) :: starEach es (Xs i).env)
    (hg : ∀ j, Gl (Xs j) x := by intro _; rfl) (hn : x ≠ "__name__" := by decide) (hdb : (x == ("__debug__" : Str)) = false := by decide) (hpl : ∀ i, (backTo pos (starEach es (Xs i).env)).any (·.1) = false := by intro _; rfl) : JE Xs B (.Call (.Name x p) (e :: es) [] pos) L (m1 f mr) :=
  let ⟨_, c1, c2⟩ := hc.ex; let ⟨_, q, g⟩ := ha.ex; ⟨⟨_, fun i => pe_callTy (c1 i) (hg i) (jx.m i ▸ hm) hv (q i) hn hdb (he i) (hpl i), fe_CB c2 g⟩⟩
theorem jg_name (i : Nat) {x : Str} (hN : ∀ j, (Xs j).N.Nodup) (hx : ∀ j, Loc (Xs j).env.scope x) (hi : ∀ j, (Xs j).N[i]? = some x := by intro _; rfl) (hf : ∀ j, (Xs j).fn x = true ∨ (Xs j).env.scope.names.lookup x = some .local := by intro _; first | exact .inl rfl | exact .inr rfl) : JG Xs B (.Name x pos) (gN i) := ⟨⟨_, fun j => pg_name (hN j) (hi j) (hx j) (hf j), fg_name i⟩⟩
theorem ji_seq (jx : JX Xs P w K mg base k B) {tg : Expr} (L' : List Nat) (h : JE Xs B e L me) (hl : (L.all fun i => L'.contains i) = true := by rfl) : JI Xs B tg e (mIt L' me) := let ⟨_, p, f⟩ := h.ex; ⟨⟨_, fun i => pi_seqK (jx.k' i) (p i), wi_seq L' jx.bk f hl⟩⟩
theorem jc_seq (jx : JX Xs P w K mg base k B) {tg : Expr} (h : JD Xs B e L ma) : JIc Xs B tg e L (mItc ma) := let ⟨_, p, f⟩ := h.ex; ⟨⟨_, fun i => pi_seqK (jx.k' i) (p i), fic_seq jx.bk f⟩⟩
theorem JI.asC {tg : Expr} (h : JI Xs B tg e mr) : JIc Xs B tg e [] mr := let ⟨_, p, f⟩ := h.ex; ⟨⟨_, p, f.c⟩⟩
theorem ji_rng1 (jx : JX Xs P w K mg base k B) {tg : Expr} {p : Pos} (hm : mg "range" = none) (ha : JA Xs B [a] L mr) (hs : ∀ i, starEach [a] (Xs i).env = [(false, eval a (Xs i).env)] := by intro _; rfl) (hg : ∀ i, Gl (Xs i) "range" := by intro _; rfl) : JI Xs B tg (.Call (.Name "range" p) [a] [] pos) (mR1 mr) := let ⟨_, q, f⟩ := ha.ex; ⟨⟨_, fun i => pi_range1 (hg i) (jx.m i ▸ hm) (q i) (hs i), wi_rng1 f⟩⟩
structure JIf (Xs : ι → Cx) (B : Bk) (ifs : List Expr) (m : FSt → Option Bool) : Prop where
  ex : ∃ t, (∀ i, PIf (Xs i) ifs t) ∧ FT B t m
theorem jif_one (h : JT Xs B a mt) : JIf Xs B [a] mt := let ⟨_, p, f⟩ := h.ex; ⟨⟨_, fun i => pif_one (p i), f⟩⟩
abbrev JC (Xs : ι → Cx) (scope : Scope) (N : List Str) : ι × List Addr × Shared × Hp → Cx := fun j => (Xs j.1).comp scope N j.2.1 j.2.2.1 j.2.2.2
theorem JX.comp (jx : JX Xs P w K mg base k B) (scope : Scope) (N : List Str) : JX (JC Xs scope N) P w K mg base k B :=
  ⟨fun i => jx.p i.1, fun i => jx.w' i.1, fun i => jx.k' i.1, fun i => jx.m i.1, fun i => jx.b i.1, fun i => jx.r i.1, fun i => jx.c i.1, jx.bk, fun i => PassesOwn.never⟩
theorem j_comp (jx : JX Xs P w K mg base k B) {NX N : List Str} {SX scope : Scope} {own : Nat} {fi Li : List Nat} {tg iter elt : Expr} {ifs : List Expr} {mi : FSt → Option (List D)} {g1 : D → FSt → Option FSt} (S : CompScope NX SX scope N own fi) (hi : JIc Xs B tg iter Li mi) (hg : JG (JC Xs scope N) B tg g1) (ht : JIf (JC Xs scope N) B ifs mt) (he : JD (JC Xs scope N) B elt L ma)
    (hN : ∀ i, (Xs i).N = NX := by intro _; rfl) (hS : ∀ i, (Xs i).env.scope = SX := by intro _; rfl) (hs : ∀ i x, foldedSetIterable iter (Xs i).env x = pure x := by intro _ _; rfl) : JE Xs B (.ListComp elt [⟨tg, iter, ifs, 0⟩] scope pos) (fi ++ Li) (mComp own fi mi g1 mt ma) :=
  let ⟨_, p1, f1⟩ := hi.ex; let ⟨_, p2, f2⟩ := hg.ex; let ⟨_, p3, f3⟩ := ht.ex; let ⟨_, p4, f4⟩ := he.ex
  ⟨⟨_, fun i => pe_comp S (jx.c i) (p1 i) (fun ex s H => p2 (i, ex, s, H)) (fun ex s H => p3 (i, ex, s, H)) (fun ex s H => p4 (i, ex, s, H)) (hN i) (hS i) (hs i), fe_comp f1 f2 f3 f4⟩⟩
variable {mf mh : FSt → Fl} {st : Stmt} {sts ss : List Stmt}
theorem js_setcomp (jx : JX Xs P w K mg base k B) (i : Nat) {y : Str} {py spos : Pos} {NX N : List Str} {SX scope : Scope} {own : Nat} {fi Li L' : List Nat} {tg iter elt : Expr} {ifs : List Expr} {mi : FSt → Option (List D)} {g1 : D → FSt → Option FSt} (hnd : ∀ j, (Xs j).N.Nodup) (S : CompScope NX SX scope N own fi) (hi : JIc Xs B tg iter Li mi) (hg : JG (JC Xs scope N) B tg g1) (ht : JIf (JC Xs scope N) B ifs mt) (he : JD (JC Xs scope N) B elt L ma)
    (hy : ∀ j, (Xs j).N[i]? = some y := by intro _; rfl) (hl : ∀ j, (Xs j).env.scope.names.lookup y = some .local := by intro _; rfl)
    (hN : ∀ i, (Xs i).N = NX := by intro _; rfl) (hS : ∀ i, (Xs i).env.scope = SX := by intro _; rfl) (hs : ∀ i x, foldedSetIterable iter (Xs i).env x = pure x := by intro _ _; rfl)
    (hsw : ∀ j, swapsWith (.ListComp elt [⟨tg, iter, ifs, 0⟩] scope pos) (some (.Name y py)) spos.line (Xs j).env = pure true := by intro _; rfl) (hl' : ((fi ++ Li).all fun i => L'.contains i) = true := by rfl) : JS Xs B (.Assign [.Name y py] (.ListComp elt [⟨tg, iter, ifs, 0⟩] scope pos) spos) (mSet i L' (mComp own fi mi g1 mt ma)) :=
  let ⟨_, p1, f1⟩ := hi.ex; let ⟨_, p2, f2⟩ := hg.ex; let ⟨_, p3, f3⟩ := ht.ex; let ⟨_, p4, f4⟩ := he.ex
  ⟨⟨_, fun i => ps_setcomp (hnd i) (hy i) (hl i) S (jx.c i) (p1 i) (fun ex s H => p2 (i, ex, s, H)) (fun ex s H => p3 (i, ex, s, H)) (fun ex s H => p4 (i, ex, s, H)) (hN i) (hS i) (hs i) (hsw i), ws_set (te := tComp _ _ _ _ _ _) L' (fe_comp f1 f2 f3 f4) hl'⟩⟩
theorem js_set (i : Nat) {x : Str} {p1 : Pos} {L' : List Nat} (hnd : ∀ j, (Xs j).N.Nodup) (hx : ∀ j, Loc (Xs j).env.scope x) (he : JE Xs B e L me) (hi : ∀ j, (Xs j).N[i]? = some x := by intro _; rfl) (hs : ∀ j, swapsWith e (some (.Name x p1)) pos.line (Xs j).env = pure false := by intro _; rfl)
    (hf : ∀ j, (Xs j).fn x = true ∨ (Xs j).env.scope.names.lookup x = some .local := by intro _; first | exact .inl rfl | exact .inr rfl) (hl : (L.all fun i => L'.contains i) = true := by rfl) : JS Xs B (.Assign [.Name x p1] e pos) (mSet i L' me) :=
  let ⟨_, p, f⟩ := he.ex; ⟨⟨_, fun j => ps_set (hnd j) (hi j) (hx j) (p j) (hs j) (hf j), ws_set L' f hl⟩⟩
theorem js_if (hc : JT Xs B c mt) (ha : JB Xs B sts mf) (hb : JB Xs B ss mh) : JS Xs B (.If c sts ss pos) (mIf mt mf mh) := let ⟨_, p, f⟩ := hc.ex; let ⟨_, p', f'⟩ := ha.ex; let ⟨_, q, g⟩ := hb.ex; ⟨⟨_, fun i => ps_if (p i) (p' i) (q i), fs_if f f' g⟩⟩
theorem js_for (jx : JX Xs P w K mg base k B) {tg iter : Expr} {mi : FSt → Option (List D)} {g1 : D → FSt → Option FSt} (hi : JI Xs B tg iter mi) (hg : JG Xs B tg g1) (hb : JB Xs B sts mf) (hs : ∀ i x, foldedSetIterable iter (Xs i).env x = pure x := by intro _ _; rfl) : JS Xs B (.For tg iter sts [] pos) (mFor mi g1 mf) :=
  let ⟨_, p, f⟩ := hi.ex; let ⟨_, p', f'⟩ := hg.ex; let ⟨_, q, g⟩ := hb.ex; ⟨⟨_, fun i => ps_for (jx.x i) (jx.c i) (p i) (p' i) (q i) (hs i), fs_for f f' g⟩⟩
theorem js_ret (h : JE Xs B e L me) : JS Xs B (.Return (some e) pos) (mRet me) := let ⟨_, p, f⟩ := h.ex; ⟨⟨_, fun i => ps_ret (p i), fs_ret f⟩⟩
theorem js_retV (j : Nat) {x : Str} {p1 : Pos} (hN : ∀ i, (Xs i).N[j]? = some x := by intro _; rfl) (hv : ∀ j, Vis (Xs j).env.scope x := by intro _; first | exact Or.inl rfl | exact Or.inr (Or.inl rfl) | exact Or.inr (Or.inr rfl)) (hd : (x == ("__debug__" : Str)) = false := by decide) (hcd : (x == ("__classdict__" : Str)) = false := by decide) : JS Xs B (.Return (some (.Name x p1)) pos) (mRetV j) :=
  ⟨⟨_, fun i => ps_ret (pe_var (hN i) (hv i) hd hcd), fs_retV j⟩⟩
theorem jb_nil : JB Xs B [] mPass := ⟨⟨_, fun _ => pss_nil, fs_next⟩⟩
theorem jb_one (h : JS Xs B st mf) : JB Xs B [st] mf := let ⟨_, p, f⟩ := h.ex; ⟨⟨_, fun i => pss_one (p i), f⟩⟩
theorem jb_cons (h : JS Xs B st mf) (h' : JB Xs B sts mh) : JB Xs B (st :: sts) (mSeq mf mh) := let ⟨_, p, f⟩ := h.ex; let ⟨_, q, g⟩ := h'.ex; ⟨⟨_, fun i => pss_cons (p i) (q i), fs_seq f g⟩⟩
theorem js_app (jx : JX Xs P w K mg base k B) (i : Nat) {x : Str} {p1 apos cpos : Pos} {L' : List Nat} (he : JD Xs B e L md) (hs1 : ∀ i, starEach [e] (Xs i).env = [(false, eval e (Xs i).env)]) (hN : ∀ j, (Xs j).N[i]? = some x := by intro _; rfl) (hv : ∀ j, Vis (Xs j).env.scope x := by intro _; first | exact Or.inl rfl | exact Or.inr (Or.inl rfl) | exact Or.inr (Or.inr rfl))
    (hbase : ∀ j, attributeBase (.Name x p1) "append" (Xs j).env (eval (.Name x p1) (Xs j).env) = eval (.Name x p1) (Xs j).env := by intro _; rfl)
    (hfew : ∀ i, ((backTo cpos (starEach [e] (Xs i).env)).all (fun x => !x.1) && (backToKw cpos (keywordEach [] (Xs i).env)).all (fun x => x.1.isSome) && decide ([e].length + ([] : List Keyword).length + (if ([] : List Keyword).isEmpty then 0 else 1) < 30)) = true := by intro _; rfl)
    (hline : (apos.endLine == cpos.line) = true := by rfl) (hs : ∀ j, swapsWith (.Call (.Attribute (.Name x p1) "append" apos) [e] [] cpos) none pos.line (Xs j).env = pure false := by intro _; rfl)
    (hd : (x == ("__debug__" : Str)) = false := by decide) (hcd : (x == ("__classdict__" : Str)) = false := by decide) (hl : (L.all fun i => L'.contains i) = true := by rfl) : JS Xs B (.Expr (.Call (.Attribute (.Name x p1) "append" apos) [e] [] cpos) pos) (mApp i L' md) :=
  let ⟨_, p, f⟩ := he.ex; ⟨⟨_, fun j => ps_expr (pe_bmK (jx.k' j) PySem.F.plainAttrs_list PySem.F.slot_list_append PySem.F.type_list_append mt_append (pe_var (hN j) (hv j) hd hcd) (pa_cons (p j) pa_nil (hs1 j)) (hbase j) (hfew j) hline (hs1 j) rfl) (hs j), ws_app L' jx.bk f hl⟩⟩
end
structure JIx (k : Nat) (qual : Str) (scope : Scope) (f : Addr) where
  cdv : Value
  A : Around
  outer : List Env
  s : Shared
  H : Hp
  E : XK
  hr : Room k (A.deeper (envOfC qual scope s.heap.objs.size f cdv))
abbrev JXs (P : Program) (w : World) (K : PySem.W.Frag) (mg : Str → Option Value) (base : Heap) (N : List Str) (k : Nat) (qual : Str) (scope : Scope) (f : Addr) : JIx k qual scope f → Cx :=
  fun i => (cxOf CX0 P w K mg base N qual scope f i.cdv i.A i.outer i.s i.H i.E).nox
section
variable {P : Program} {w : World} {K : PySem.W.Frag} {mg : Str → Option Value} {base : Heap} {x qual : Str} {st : Stmt} {f : Addr} {fd : FuncData} {N ps : List Str} {k : Nat} {B : Bk} {m : FSt → Fl} {scope : Scope}
theorem jx_def (hK : B.K = K) : JX (JXs P w K mg base N k qual scope f) P w K mg base k B := ⟨fun _ => rfl, fun _ => rfl, fun _ => rfl, fun _ => rfl, fun _ => rfl, fun i => i.hr, fun _ => rfl, hK, fun _ => PassesOwn.never⟩
theorem Fun.okJ (F : Fun K x qual st f fd) (S : FnScope N ps (defScope st)) (hK : B.K = K) (h : JX (JXs P w K mg base N k qual (defScope st) f) P w K mg base k B → JB (JXs P w K mg base N k qual (defScope st) f) B (defBody st) m) : FnOk P w K mg base CX0 (k + 1) f fd ps (SpF B ps.length (runF m ps.length N.length)) :=
  F.okF S fun cdv A outer s H E hr => let ⟨t, p, q⟩ := (h (jx_def hK)).ex; ⟨t, p ⟨cdv, A, outer, s, H, E, hr⟩, q⟩
end
end L2

set_option Elab.async false
set_option linter.all false
set_option maxRecDepth 100000
set_option maxHeartbeats 4000000
namespace My
open PySem L2
theorem bAnd (a b : Nat) : Builtin.bitAnd (a : Int) (b : Int) = ((a &&& b : Nat) : Int) := by
  simp [Builtin.bitAnd]
theorem bOr (a b : Nat) : Builtin.bitOr (a : Int) (b : Int) = ((a ||| b : Nat) : Int) := by
  have h1 : ¬ (0 : Int) ≤ Builtin.bitNot a := by unfold Builtin.bitNot; omega
  have h2 : ¬ (0 : Int) ≤ Builtin.bitNot b := by unfold Builtin.bitNot; omega
  have e1 : Builtin.bitNot (Builtin.bitNot (a : Int)) = a := by unfold Builtin.bitNot; omega
  have e2 : Builtin.bitNot (Builtin.bitNot (b : Int)) = b := by unfold Builtin.bitNot; omega
  have e3 : ∀ n : Nat, Builtin.bitNot (Builtin.bitNot (n : Int)) = n := fun n => by unfold Builtin.bitNot; omega
  unfold Builtin.bitOr Builtin.bitAnd
  rw [decide_eq_false h1, decide_eq_false h2]
  simp only [e1, e2, e3, Int.toNat_natCast]
theorem int0 (n : Nat) : ((n : Int) == 0) = (n == 0) := by
  rw [Bool.eq_iff_iff]; simp
abbrev Wy := Nat × Nat
def wD (p : Wy) : D := .tup [.int p.1, .int p.2]
def fits (w : Wy) : Bool := (w.1 &&& w.2) == 0
end My

set_option Elab.async false
set_option linter.all false
set_option maxRecDepth 100000
set_option maxHeartbeats 4000000
namespace My
open PySem L2
theorem add_or (a : Nat) : ∀ c, a &&& c = 0 → a + c = a ||| c := by
  induction a using Nat.strongRecOn with
  | _ a ih =>
    intro c h
    by_cases ha : a = 0
    · subst ha; simp
    · have h2 : (a / 2) &&& (c / 2) = 0 := by rw [← Nat.and_div_two, h]
      have h3 := ih (a / 2) (by omega) (c / 2) h2
      have h0 : a % 2 = 0 ∨ c % 2 = 0 := by
        have := congrArg (fun z => z.testBit 0) h
        rcases Nat.mod_two_eq_zero_or_one a with q | q <;> rcases Nat.mod_two_eq_zero_or_one c with r | r <;> simp [Nat.testBit_zero, q, r] at this ⊢
      have e1 : (a ||| c) / 2 = a / 2 ||| c / 2 := Nat.or_div_two
      have e2 : (a ||| c) % 2 = 1 ↔ a % 2 = 1 ∨ c % 2 = 1 := by
        have := Nat.testBit_or a c 0
        simp only [Nat.testBit_zero] at this
        rw [← decide_eq_true_iff (p := (a ||| c) % 2 = 1), this]
        simp
      omega
theorem tb_eq {a b : Nat} (h : ∀ i, a.testBit i = b.testBit i) : a = b := Nat.eq_of_testBit_eq h
def but (a b : Nat) : Nat := a ^^^ (a &&& b)
@[simp] theorem but_bit (a b i : Nat) : (but a b).testBit i = (a.testBit i && !b.testBit i) := by
  unfold but; rw [Nat.testBit_xor, Nat.testBit_and]
  cases a.testBit i <;> cases b.testBit i <;> rfl
theorem but_sub (a b : Nat) : (a &&& b) + but a b = a := by
  rw [add_or]
  · refine tb_eq fun i => ?_
    rw [Nat.testBit_or, Nat.testBit_and, but_bit]
    cases a.testBit i <;> cases b.testBit i <;> rfl
  · refine tb_eq fun i => ?_
    rw [Nat.testBit_and, Nat.testBit_and, but_bit, Nat.zero_testBit]
    cases a.testBit i <;> cases b.testBit i <;> rfl
theorem xor_sub (a b : Nat) : (a &&& b) + (a ^^^ b) = a ||| b := by
  rw [add_or]
  · refine tb_eq fun i => ?_
    rw [Nat.testBit_or, Nat.testBit_and, Nat.testBit_xor, Nat.testBit_or]
    cases a.testBit i <;> cases b.testBit i <;> rfl
  · refine tb_eq fun i => ?_
    rw [Nat.testBit_and, Nat.testBit_and, Nat.testBit_xor, Nat.zero_testBit]
    cases a.testBit i <;> cases b.testBit i <;> rfl
theorem bAndNot (a b : Nat) : Builtin.bitAnd (a : Int) (Builtin.bitNot (b : Int)) = ((but a b : Nat) : Int) := by
  have h1 : ¬ (0 : Int) ≤ Builtin.bitNot b := by unfold Builtin.bitNot; omega
  have e3 : Builtin.bitNot (Builtin.bitNot (b : Int)) = b := by unfold Builtin.bitNot; omega
  have h2 := but_sub a b
  unfold Builtin.bitAnd
  rw [decide_eq_false h1, decide_eq_true (Int.natCast_nonneg a)]
  simp only [e3, Int.toNat_natCast]
  omega
theorem bXor (a b : Nat) : Builtin.bitXor (a : Int) (b : Int) = ((a ^^^ b : Nat) : Int) := by
  have h := xor_sub a b
  unfold Builtin.bitXor
  rw [bOr, bAnd]
  omega
theorem and_pow (x k : Nat) : ((x &&& 2 ^ k) == 0) = !x.testBit k := by
  rw [Bool.eq_iff_iff, beq_iff_eq, Bool.not_eq_true']
  constructor
  · intro h
    have := congrArg (fun z => z.testBit k) h
    simpa [Nat.testBit_and, Nat.testBit_two_pow] using this
  · intro h
    refine tb_eq fun i => ?_
    rw [Nat.testBit_and, Nat.testBit_two_pow, Nat.zero_testBit]
    by_cases e : k = i
    · subst e; simp [h]
    · simp [e]
theorem sub_iff (x y : Nat) : (x &&& y) = y ↔ ∀ i, y.testBit i = true → x.testBit i = true := by
  constructor
  · intro h i hi
    have := congrArg (fun z => z.testBit i) h
    simp only [Nat.testBit_and, hi, Bool.and_true] at this
    exact this
  · intro h
    refine tb_eq fun i => ?_
    rw [Nat.testBit_and]
    have := h i
    revert this
    cases x.testBit i <;> cases y.testBit i <;> simp
theorem dis_iff (x y : Nat) : (x &&& y) = 0 ↔ ∀ i, y.testBit i = true → x.testBit i = false := by
  constructor
  · intro h i hi
    have := congrArg (fun z => z.testBit i) h
    simpa only [Nat.testBit_and, hi, Bool.and_true, Nat.zero_testBit] using this
  · intro h
    refine tb_eq fun i => ?_
    rw [Nat.testBit_and, Nat.zero_testBit]
    have := h i
    revert this
    cases x.testBit i <;> cases y.testBit i <;> simp
theorem natB (x y : Nat) : ((x : Int) == (y : Int)) = (x == y) := by rw [Bool.eq_iff_iff]; simp; omega
def ofWy (s : Nat) (w : Wy) : Bool := (s &&& w.1) == w.1 && (s &&& w.2) == 0
theorem of_iff (s : Nat) (w : Wy) : ofWy s w = true ↔ ∀ i, (w.1.testBit i = true → s.testBit i = true) ∧ (w.2.testBit i = true → s.testBit i = false) := by
  unfold ofWy
  rw [Bool.and_eq_true, beq_iff_eq, beq_iff_eq, sub_iff, dis_iff]
  exact ⟨fun h i => ⟨h.1 i, h.2 i⟩, fun h => ⟨fun i => (h i).1, fun i => (h i).2⟩⟩
abbrev nD (n : Nat) : D := .int n
abbrev nP (n : Nat) : PyData := .int n
theorem nD_dats (ns : List Nat) : D.dats (ns.map nD) = some (ns.map nP) := by
  induction ns with
  | nil => rfl
  | cons n ns ih => simp [D.dats, D.dat, ih]
theorem nP_lay (ns : List Nat) : PyData.canLayAll0 (ns.map nP) = true := by
  induction ns with
  | nil => rfl
  | cons n ns ih => simp [PyData.canLayAll0, PyData.canLay0, ih]
theorem nP_depth (ns : List Nat) : PyData.depthAll (ns.map nP) = 0 := by
  induction ns with
  | nil => rfl
  | cons n ns ih => simp [PyData.depthAll, PyData.depth, ih]
theorem nPs_shaped (ns : List Nat) : SeqAt.shaped (.list (ns.map nP)) = true := by
  have := nP_depth ns
  simp [SeqAt.shaped, PyData.canLay0, nP_lay, PyData.depth]
  omega
theorem shp_ns (ns : List Nat) : shp (.lst (ns.map nD)) = some (.list (ns.map nP)) := by
  simp [shp, D.dat, nD_dats, nPs_shaped]
theorem shp_n (n : Int) : shp (.int n) = some (.int n) := rfl
theorem eqv_ns : ∀ xs ys : List Nat, PyData.eqvAll (xs.map nP) (ys.map nP) = decide (xs = ys)
  | [], [] => by simp [PyData.eqvAll]
  | [], y :: ys => by simp [PyData.eqvAll]
  | x :: xs, [] => by simp [PyData.eqvAll]
  | x :: xs, y :: ys => by
    show (((x : Int) == (y : Int)) && PyData.eqvAll (xs.map nP) (ys.map nP)) = _
    rw [eqv_ns xs ys, Bool.eq_iff_iff]
    simp
    intro _
    omega
theorem eq_ns (xs ys : List Nat) : oEq (.lst (xs.map nD)) (.lst (ys.map nD)) = some (.bl (decide (xs = ys))) := by
  simp [oEq, shp_ns, PyData.eqv, eqv_ns]
theorem ne_ns (xs ys : List Nat) : oNe (.lst (xs.map nD)) (.lst (ys.map nD)) = some (.bl (!decide (xs = ys))) := by
  simp [oNe, shp_ns, PyData.eqv, eqv_ns]
theorem eq_ns0 (xs : List Nat) : oEq (.lst (xs.map nD)) (.lst []) = some (.bl (decide (xs = []))) := eq_ns xs []
theorem ne_ns0 (xs : List Nat) : oNe (.lst (xs.map nD)) (.lst []) = some (.bl (!decide (xs = []))) := ne_ns xs []
theorem any_ns (n : Nat) (ys : List Nat) : ((ys.map nP).any fun e => PyData.eqv e (nP n)) = decide (n ∈ ys) := by
  induction ys with
  | nil => simp
  | cons y ys ih =>
    rw [List.map_cons, List.any_cons, ih]
    show (((y : Int) == (n : Int)) || decide (n ∈ ys)) = _
    rw [natB, Bool.eq_iff_iff]
    simp
    constructor
    · rintro (h | h)
      · exact .inl h.symm
      · exact .inr h
    · rintro (h | h)
      · exact .inl h.symm
      · exact .inr h
theorem notIn_ns (n : Nat) (ys : List Nat) : oNotIn (nD n) (.lst (ys.map nD)) = some (.bl (!decide (n ∈ ys))) := by
  have : inB (nD n) (.lst (ys.map nD)) = some (decide (n ∈ ys)) := by
    show (D.dats (ys.map nD)).bind _ = _
    rw [nD_dats]
    simp only [Option.bind_some, shp_n, nPs_shaped, if_true, any_ns]
  simp [oNotIn, this]
theorem rng0 (n : Nat) (h : n < 2 ^ 62) : fRng [.int n] = some ((List.range n).map nD) := by
  simp only [fRng]
  rw [if_pos (by omega)]
  simp [rngD, nD]
end My

set_option Elab.async false
set_option linter.all false
set_option maxRecDepth 100000
set_option maxHeartbeats 4000000
namespace My
open PySem L2

def tab : Nat → Nat → Option Bool
  | _, _ => none
noncomputable section
def b_law_draws_0 : FSt → Fl :=
  (mSeq (mSet 4 [4, 5] (mSh (m2 oMod (mFr (m2 oAdd (mFr (m2 oAdd (mFr (m2 oMul (mV 4) (mC (.int 48271)))) (mFr (m2 oMul (mC (.int 7919)) (mV 5))))) (mC (.int 11)))) (mC (.int 2147483647)))))
     (mIf (mAnd (mTruth (m2 oEq (m2 oMod (mV 0) (mC (.int 2))) (mC (.int 0)))) (mTruth (m2 oGt (mV 3) (mC (.int 0)))))
      (mSeq (mApp 2 [3] (m2 oMod (mV 3) (mC (.int 5040))))
       (mSet 3 [3] (mSh (m2 oFdiv (mV 3) (mC (.int 5040))))))
      (mApp 2 [4] (m2 oMod (m2 oMod (mFr (m2 oMul (mV 4) (mV 4))) (mC (.int 2147483629))) (mC (.int 5040))))))
def M_law_draws (b_law_draws_0 : FSt → Fl) : FSt → Fl :=
  (mSeq (mSet 2 [] (mLst mNil))
   (mSeq (mSet 3 [0] (mSh (m2 oFdiv (mV 0) (mC (.int 2)))))
   (mSeq (mSet 4 [0] (mSh (m2 oMod (mV 0) (mC (.int 2147483647)))))
   (mSeq (mFor (mR1 (mCons (mV 1) mNil)) (gN 5)
    b_law_draws_0)
   (mRetV 2)))))
def m_law_draws : FSt → Fl := M_law_draws b_law_draws_0
def f_law_draws : List D → Option SV := runF m_law_draws 2 6
def m_lies_within : FSt → Fl :=
  (mRet (mSh (mIte (mTruth (m2 oEq (m2 oAnd (m2 oIx (mV 0) (mC (.int 0))) (m2 oIx (mV 1) (mC (.int 0)))) (m2 oIx (mV 1) (mC (.int 0))))) (m2 oEq (m2 oAnd (m2 oIx (mV 0) (mC (.int 1))) (m2 oIx (mV 1) (mC (.int 1)))) (m2 oIx (mV 1) (mC (.int 1)))) (mC (.bl false)))))
def f_lies_within : List D → Option SV := runF m_lies_within 2 2
def m_law_is_of : FSt → Fl :=
  (mRet (mSh (mIte (mTruth (m2 oEq (m2 oAnd (mV 0) (m2 oIx (mV 1) (mC (.int 0)))) (m2 oIx (mV 1) (mC (.int 0))))) (m2 oEq (m2 oAnd (mV 0) (m2 oIx (mV 1) (mC (.int 1)))) (mC (.int 0))) (mC (.bl false)))))
def f_law_is_of : List D → Option SV := runF m_law_is_of 2 2
def B_law_led_0 (f_law_is_of : List D → Option SV) : FSt → Fl :=
  (mIf (mAnd (mTruth (mFr (m1 f_law_is_of (mCons (mV 7) (mCons (mV 1) mNil))))) (mAnd (mTruth (m2 oEq (m2 oEq (m2 oAnd (mV 7) (mV 3)) (mC (.int 0))) (mV 4))) (mTruth (mFr (m1 f_law_is_of (mCons (m2 oXor (mV 7) (mV 3)) (mCons (mV 2) mNil)))))))
      (mApp 6 [7] (mV 7))
      mPass)
def b_law_led_0 : FSt → Fl := B_law_led_0 f_law_is_of
def M_law_led (b_law_led_0 : FSt → Fl) (f_law_is_of : List D → Option SV) : FSt → Fl :=
  (mSeq (mSet 6 [] (mLst mNil))
   (mSeq (mFor (mR1 (mCons (m2 oShl (mC (.int 1)) (mV 5)) mNil)) (gN 7)
    b_law_led_0)
   (mSeq (mIf (mOr (mTruth (m2 oIs (mV 0) (mC .non))) (mTruth (m2 oEq (mV 6) (mFr (mLst mNil)))))
    (mRet (mSh (mIte (mTruth (m2 oIs (mV 0) (mC .non))) (m2 oEq (mV 6) (mFr (mLst mNil))) (mC (.bl false)))))
    mPass)
   (mSeq (mIf (mOr (mNot (mTruth (mFr (m1 (fIsF tab) (mCons (mV 0) (mCons (mC (.ty "tuple")) mNil)))))) (mOr (mTruth (m2 oNe (mFr (m1 fLen (mCons (mV 0) mNil))) (mC (.int 2)))) (mTruth (m2 oNe (m2 oAnd (m2 oIx (mV 0) (mC (.int 0))) (m2 oIx (mV 0) (mC (.int 1)))) (mC (.int 0))))))
    (mRet (mSh (mC (.bl false))))
    mPass)
   (mSeq (mSet 8 [1, 2, 3] (mLst (mCons (m2 oOr (m2 oIx (mV 1) (mC (.int 0))) (m2 oAnd (m2 oIx (mV 2) (mC (.int 0))) (m1 oInv (mV 3)))) (mCons (m2 oOr (m2 oOr (m2 oIx (mV 1) (mC (.int 1))) (m2 oIx (mV 2) (mC (.int 1)))) (mV 3)) mNil))))
   (mSeq (mIf (mNot (mTruth (mV 4)))
    (mSet 8 [1, 2, 3] (mLst (mCons (m2 oOr (m2 oOr (m2 oIx (mV 1) (mC (.int 0))) (m2 oIx (mV 2) (mC (.int 0)))) (mV 3)) (mCons (m2 oOr (m2 oIx (mV 1) (mC (.int 1))) (m2 oAnd (m2 oIx (mV 2) (mC (.int 1))) (m1 oInv (mV 3)))) mNil))))
    mPass)
   (mSeq (mSet 9 [0] (mComp 1 [0] (mR1 (mCons (m2 oShl (mC (.int 1)) (mV 5)) mNil)) (gN 0) (mTruth (mFr (m1 f_law_is_of (mCons (mV 0) (mCons (mV 1) mNil))))) (mV 0)))
   (mRet (mSh (mIte (mTruth (m2 oEq (mFr (m1 fList (mCons (mV 0) mNil))) (mV 8))) (m2 oEq (mV 9) (mV 6)) (mC (.bl false))))))))))))
def m_law_led : FSt → Fl := M_law_led b_law_led_0 f_law_is_of
def f_law_led : List D → Option SV := runF m_law_led 6 10
def m_law_bits : FSt → Fl :=
  (mRet (mComp 1 [0] (mR1 (mCons (mV 1) mNil)) (gN 0) (mTruth (m2 oEq (m2 oAnd (m2 oShr (mV 1) (mV 0)) (mC (.int 1))) (mC (.int 1)))) (mV 0)))
def f_law_bits : List D → Option SV := runF m_law_bits 2 2
def B_law_within_0 (f_law_bits : List D → Option SV) : FSt → Fl :=
  (mSeq (mSet 4 [0, 2, 3] (m1 f_law_bits (mCons (m2 oIx (mV 0) (mV 3)) (mCons (mV 2) mNil))))
     (mIf (mTruth (m2 oNe (mFr (mComp 1 [4] (mItc (mFr (m1 f_law_bits (mCons (m2 oIx (mV 1) (mV 3)) (mCons (mV 2) mNil))))) (gN 0) (mTruth (m2 oNotIn (mV 0) (mV 1))) (mV 0))) (mFr (mLst mNil))))
      (mRet (mSh (mC (.bl false))))
      mPass))
def b_law_within_0 : FSt → Fl := B_law_within_0 f_law_bits
def M_law_within (b_law_within_0 : FSt → Fl) : FSt → Fl :=
  (mSeq (mFor (mR1 (mCons (mC (.int 2)) mNil)) (gN 3)
    b_law_within_0)
   (mRet (mSh (mC (.bl true)))))
def m_law_within : FSt → Fl := M_law_within b_law_within_0
def f_law_within : List D → Option SV := runF m_law_within 3 5
def m_is_nothing : FSt → Fl :=
  (mRet (mSh (m2 oNe (m2 oAnd (m2 oIx (mV 0) (mC (.int 0))) (m2 oIx (mV 0) (mC (.int 1)))) (mC (.int 0)))))
def f_is_nothing : List D → Option SV := runF m_is_nothing 1 1
def M_leading (f_is_nothing : List D → Option SV) : FSt → Fl :=
  (mSeq (mIf (mTruth (mV 3))
    (mSet 4 [0, 1, 2] (mIte (mTruth (m2 oNe (m2 oAnd (m2 oIx (mV 0) (mC (.int 1))) (mV 2)) (mC (.int 0)))) (mSh (mC .non)) (mSh (mTup (mCons (m2 oOr (m2 oIx (mV 1) (mC (.int 0))) (m2 oAnd (m2 oIx (mV 0) (mC (.int 0))) (m1 oInv (mV 2)))) (mCons (m2 oOr (m2 oOr (m2 oIx (mV 1) (mC (.int 1))) (m2 oIx (mV 0) (mC (.int 1)))) (mV 2)) mNil))))))
    (mSet 4 [0, 1, 2] (mIte (mTruth (m2 oNe (m2 oAnd (m2 oIx (mV 0) (mC (.int 0))) (mV 2)) (mC (.int 0)))) (mSh (mC .non)) (mSh (mTup (mCons (m2 oOr (m2 oOr (m2 oIx (mV 1) (mC (.int 0))) (m2 oIx (mV 0) (mC (.int 0)))) (mV 2)) (mCons (m2 oOr (m2 oIx (mV 1) (mC (.int 1))) (m2 oAnd (m2 oIx (mV 0) (mC (.int 1))) (m1 oInv (mV 2)))) mNil)))))))
   (mRet (mIte (mOr (mTruth (m2 oIs (mV 4) (mC .non))) (mTruth (mFr (m1 f_is_nothing (mCons (mV 4) mNil))))) (mSh (mC .non)) (mSh (mV 4)))))
def m_leading : FSt → Fl := M_leading f_is_nothing
def f_leading : List D → Option SV := runF m_leading 4 5
def B_law_0 (f_law_draws : List D → Option SV) (f_lies_within : List D → Option SV) (f_law_within : List D → Option SV) (f_law_led : List D → Option SV) (f_leading : List D → Option SV) : FSt → Fl :=
  (mSeq (mSet 2 [1] (m1 f_law_draws (mCons (mV 1) (mCons (mC (.int 8)) mNil))))
     (mSeq (mSet 3 [2] (m2 oAdd (mC (.int 1)) (m2 oMod (m2 oIx (mV 2) (mC (.int 0))) (mC (.int 6)))))
     (mSeq (mSet 4 [3] (mSh (m2 oShl (mC (.int 1)) (mV 3))))
     (mSeq (mSet 5 [2, 4] (mSh (mTup (mCons (m2 oMod (m2 oIx (mV 2) (mC (.int 1))) (mV 4)) (mCons (m2 oMod (m2 oIx (mV 2) (mC (.int 2))) (mV 4)) mNil)))))
     (mSeq (mSet 6 [2, 4] (mSh (mTup (mCons (m2 oMod (m2 oIx (mV 2) (mC (.int 3))) (mV 4)) (mCons (m2 oMod (m2 oIx (mV 2) (mC (.int 4))) (mV 4)) mNil)))))
     (mSeq (mIf (mTruth (m2 oGt (m2 oMod (m2 oIx (mV 2) (mC (.int 7))) (mC (.int 3))) (mC (.int 0))))
      (mSeq (mSet 5 [5] (mSh (mTup (mCons (m2 oIx (mV 5) (mC (.int 0))) (mCons (m2 oAnd (m2 oIx (mV 5) (mC (.int 1))) (m1 oInv (m2 oIx (mV 5) (mC (.int 0))))) mNil)))))
       (mSet 6 [6] (mSh (mTup (mCons (m2 oIx (mV 6) (mC (.int 0))) (mCons (m2 oAnd (m2 oIx (mV 6) (mC (.int 1))) (m1 oInv (m2 oIx (mV 6) (mC (.int 0))))) mNil))))))
      mPass)
     (mSeq (mIf (mTruth (m2 oEq (m2 oMod (m2 oIx (mV 2) (mC (.int 7))) (mC (.int 5))) (mC (.int 1))))
      (mSet 5 [5, 6] (mSh (mTup (mCons (m2 oOr (m2 oIx (mV 5) (mC (.int 0))) (m2 oIx (mV 6) (mC (.int 0)))) (mCons (m2 oOr (m2 oIx (mV 5) (mC (.int 1))) (m2 oIx (mV 6) (mC (.int 1)))) mNil)))))
      mPass)
     (mSeq (mSet 7 [5, 6] (m1 f_lies_within (mCons (mV 5) (mCons (mV 6) mNil))))
     (mSeq (mIf (mOr (mNot (mTruth (mFr (m1 (fIsF tab) (mCons (mV 7) (mCons (mC (.ty "bool")) mNil)))))) (mTruth (m2 oNe (mV 7) (mFr (m1 f_law_within (mCons (mV 5) (mCons (mV 6) (mCons (mV 3) mNil))))))))
      (mRet (mSh (mC (.bl false))))
      mPass)
     (mSeq (mSet 8 [2, 3] (mSh (m2 oShl (mC (.int 1)) (m2 oMod (m2 oIx (mV 2) (mC (.int 5))) (mV 3)))))
     (mSeq (mSet 9 [2] (mSh (m2 oEq (m2 oMod (m2 oIx (mV 2) (mC (.int 6))) (mC (.int 2))) (mC (.int 1)))))
     (mIf (mNot (mTruth (mFr (m1 f_law_led (mCons (mFr (m1 f_leading (mCons (mV 6) (mCons (mV 5) (mCons (mV 8) (mCons (mV 9) mNil)))))) (mCons (mV 5) (mCons (mV 6) (mCons (mV 8) (mCons (mV 9) (mCons (mV 3) mNil))))))))))
      (mRet (mSh (mC (.bl false))))
      mPass))))))))))))
def b_law_0 : FSt → Fl := B_law_0 f_law_draws f_lies_within f_law_within f_law_led f_leading
def M_law (b_law_0 : FSt → Fl) : FSt → Fl :=
  (mSeq (mFor (mIt [0] (m2 oAdd (mFr (mSl (mV 0) mNo (mAt (mC (.int 40))))) (mFr (mLst (mCons (mC (.int 6)) mNil))))) (gN 1)
    b_law_0)
   (mRet (mSh (mC (.bl true)))))
def m_law : FSt → Fl := M_law b_law_0
def f_law : List D → Option SV := runF m_law 1 10
end
end My

set_option Elab.async false
set_option linter.all false
set_option maxRecDepth 100000
set_option maxHeartbeats 4000000
namespace My
open PySem L2

def top (i : Nat) : Stmt := PySem.Challenge.pw_mightever_k51_bans_and_ways.main.body.getD i (.Pass ⟨0, 0, 0, 0⟩)
abbrev s_law_draws : Stmt := top 5
theorem sc_law_draws : FnScope ["_law_cell", "_law_many", "_law_found", "_law_number", "_law_mixed", "_law_k"] ["_law_cell", "_law_many"] (defScope s_law_draws) := ⟨rfl, rfl, rfl, by decide +kernel, rfl, by decide +kernel, by decide +kernel⟩
abbrev s_lies_within : Stmt := top 2
theorem sc_lies_within : FnScope ["way", "ban"] ["way", "ban"] (defScope s_lies_within) := ⟨rfl, rfl, rfl, by decide +kernel, rfl, by decide +kernel, by decide +kernel⟩
abbrev s_law_is_of : Stmt := top 6
theorem sc_law_is_of : FnScope ["_law_state", "_law_way"] ["_law_state", "_law_way"] (defScope s_law_is_of) := ⟨rfl, rfl, rfl, by decide +kernel, rfl, by decide +kernel, by decide +kernel⟩
abbrev s_law_led : Stmt := top 9
theorem sc_law_led : FnScope ["_law_found", "_law_way", "_law_ban", "_law_bit", "_law_sets", "_law_bits_here", "_law_due", "_law_state", "_law_masks", "_law_states"] ["_law_found", "_law_way", "_law_ban", "_law_bit", "_law_sets", "_law_bits_here"] (defScope s_law_led) := ⟨rfl, rfl, rfl, by decide +kernel, rfl, by decide +kernel, by decide +kernel⟩
abbrev s_law_bits : Stmt := top 7
theorem sc_law_bits : FnScope ["_law_mask", "_law_bits_here"] ["_law_mask", "_law_bits_here"] (defScope s_law_bits) := ⟨rfl, rfl, rfl, by decide +kernel, rfl, by decide +kernel, by decide +kernel⟩
abbrev s_law_within : Stmt := top 8
theorem sc_law_within : FnScope ["_law_way", "_law_ban", "_law_bits_here", "_law_part", "_law_asked"] ["_law_way", "_law_ban", "_law_bits_here"] (defScope s_law_within) := ⟨rfl, rfl, rfl, by decide +kernel, rfl, by decide +kernel, by decide +kernel⟩
abbrev s_is_nothing : Stmt := top 1
theorem sc_is_nothing : FnScope ["way"] ["way"] (defScope s_is_nothing) := ⟨rfl, rfl, rfl, by decide +kernel, rfl, by decide +kernel, by decide +kernel⟩
abbrev s_leading : Stmt := top 3
theorem sc_leading : FnScope ["ban", "way", "bit", "sets", "into"] ["ban", "way", "bit", "sets"] (defScope s_leading) := ⟨rfl, rfl, rfl, by decide +kernel, rfl, by decide +kernel, by decide +kernel⟩
abbrev s_law : Stmt := top 10
theorem sc_law : FnScope ["_law_script", "_law_cell", "_law_draws_here", "_law_bits_here", "_law_top", "_law_way", "_law_ban", "_law_told", "_law_bit", "_law_sets"] ["_law_script"] (defScope s_law) := ⟨rfl, rfl, rfl, by decide +kernel, rfl, by decide +kernel, by decide +kernel⟩
structure Adr where
  f_law_draws : Addr
  d_law_draws : FuncData
  f_lies_within : Addr
  d_lies_within : FuncData
  f_law_is_of : Addr
  d_law_is_of : FuncData
  f_law_led : Addr
  d_law_led : FuncData
  f_law_bits : Addr
  d_law_bits : FuncData
  f_law_within : Addr
  d_law_within : FuncData
  f_is_nothing : Addr
  d_is_nothing : FuncData
  f_leading : Addr
  d_leading : FuncData
  f_law : Addr
  d_law : FuncData
structure Txt (K : PySem.W.Frag) (mg : Str → Option Value) (A : Adr) : Prop where
  F_law_draws : Fun K "_law_draws" "_law_draws" s_law_draws A.f_law_draws A.d_law_draws
  m_law_draws : mg "_law_draws" = some (.ref A.f_law_draws)
  F_lies_within : Fun K "lies_within" "lies_within" s_lies_within A.f_lies_within A.d_lies_within
  m_lies_within : mg "lies_within" = some (.ref A.f_lies_within)
  F_law_is_of : Fun K "_law_is_of" "_law_is_of" s_law_is_of A.f_law_is_of A.d_law_is_of
  m_law_is_of : mg "_law_is_of" = some (.ref A.f_law_is_of)
  F_law_led : Fun K "_law_led" "_law_led" s_law_led A.f_law_led A.d_law_led
  m_law_led : mg "_law_led" = some (.ref A.f_law_led)
  F_law_bits : Fun K "_law_bits" "_law_bits" s_law_bits A.f_law_bits A.d_law_bits
  m_law_bits : mg "_law_bits" = some (.ref A.f_law_bits)
  F_law_within : Fun K "_law_within" "_law_within" s_law_within A.f_law_within A.d_law_within
  m_law_within : mg "_law_within" = some (.ref A.f_law_within)
  F_is_nothing : Fun K "is_nothing" "is_nothing" s_is_nothing A.f_is_nothing A.d_is_nothing
  m_is_nothing : mg "is_nothing" = some (.ref A.f_is_nothing)
  F_leading : Fun K "leading" "leading" s_leading A.f_leading A.d_leading
  m_leading : mg "leading" = some (.ref A.f_leading)
  F_law : Fun K "law" "law" s_law A.f_law A.d_law
  m_law : mg "law" = some (.ref A.f_law)
  z_bool : mg "bool" = none
  z_isinstance : mg "isinstance" = none
  z_len : mg "len" = none
  z_list : mg "list" = none
  z_range : mg "range" = none
  z_tuple : mg "tuple" = none
def bk (K : PySem.W.Frag) (A : Adr) : Bk := ⟨K, fun c => match c with | _ => 0⟩
section
variable {K : PySem.W.Frag} {mg : Str → Option Value} {A : Adr}
theorem b_law_draws (T : Txt K mg A) : Binds K A.d_law_draws ["_law_cell", "_law_many"] [] := T.F_law_draws.binds (ps := ["_law_cell", "_law_many"]) fun _ _ _ _ _ _ us hl => match us, hl with | [_, _], _ => rfl
theorem b_lies_within (T : Txt K mg A) : Binds K A.d_lies_within ["way", "ban"] [] := T.F_lies_within.binds (ps := ["way", "ban"]) fun _ _ _ _ _ _ us hl => match us, hl with | [_, _], _ => rfl
theorem b_law_is_of (T : Txt K mg A) : Binds K A.d_law_is_of ["_law_state", "_law_way"] [] := T.F_law_is_of.binds (ps := ["_law_state", "_law_way"]) fun _ _ _ _ _ _ us hl => match us, hl with | [_, _], _ => rfl
theorem b_law_led (T : Txt K mg A) : Binds K A.d_law_led ["_law_found", "_law_way", "_law_ban", "_law_bit", "_law_sets", "_law_bits_here"] [] := T.F_law_led.binds (ps := ["_law_found", "_law_way", "_law_ban", "_law_bit", "_law_sets", "_law_bits_here"]) fun _ _ _ _ _ _ us hl => match us, hl with | [_, _, _, _, _, _], _ => rfl
theorem b_law_bits (T : Txt K mg A) : Binds K A.d_law_bits ["_law_mask", "_law_bits_here"] [] := T.F_law_bits.binds (ps := ["_law_mask", "_law_bits_here"]) fun _ _ _ _ _ _ us hl => match us, hl with | [_, _], _ => rfl
theorem b_law_within (T : Txt K mg A) : Binds K A.d_law_within ["_law_way", "_law_ban", "_law_bits_here"] [] := T.F_law_within.binds (ps := ["_law_way", "_law_ban", "_law_bits_here"]) fun _ _ _ _ _ _ us hl => match us, hl with | [_, _, _], _ => rfl
theorem b_is_nothing (T : Txt K mg A) : Binds K A.d_is_nothing ["way"] [] := T.F_is_nothing.binds (ps := ["way"]) fun _ _ _ _ _ _ us hl => match us, hl with | [_], _ => rfl
theorem b_leading (T : Txt K mg A) : Binds K A.d_leading ["ban", "way", "bit", "sets"] [] := T.F_leading.binds (ps := ["ban", "way", "bit", "sets"]) fun _ _ _ _ _ _ us hl => match us, hl with | [_, _, _, _], _ => rfl
theorem tab_ok (T : Txt K mg A) : ∀ c C b, tab c C = some b → KInst (bk K A).K ((bk K A).cl c) ∧ PySem.W.kitOne (bk K A).K (.ref ((bk K A).cl c)) (.ref ((bk K A).cl C)) = some b := by
  intro c C b h
  unfold tab at h
  · cases h
end
section
variable {P : Program} {w : World} {K : PySem.W.Frag} {mg : Str → Option Value} {base : Heap} {A : Adr}
theorem ok_law_draws (T : Txt K mg A) : FnOk P w K mg base CX0 1 A.f_law_draws A.d_law_draws ["_law_cell", "_law_many"] (SpF (bk K A) 2 f_law_draws) :=
  T.F_law_draws.okJ sc_law_draws rfl fun jx =>
   (jb_cons (js_set 2 (L' := []) (fun _ => sc_law_draws.nd) (fun _ => (Or.inl rfl)) (j_lst ja_nil))
   (jb_cons (js_set 3 (L' := [0]) (fun _ => sc_law_draws.nd) (fun _ => (Or.inl rfl)) (JD.asE (j_op (fun _ => op_fdivB) od_fdiv (j_var 0) j_int)))
   (jb_cons (js_set 4 (L' := [0]) (fun _ => sc_law_draws.nd) (fun _ => (Or.inl rfl)) (JD.asE (j_op (fun _ => op_mod) od_mod (j_var 0) j_int)))
   (jb_cons (js_for jx (ji_rng1 jx T.z_range (ja_cons (j_var 1) ja_nil (fun _ => st_Name))) (jg_name 5 (fun _ => sc_law_draws.nd) (fun _ => (Or.inl rfl)))
    (show JB _ _ _ b_law_draws_0 from (jb_cons (js_set 4 (L' := [4, 5]) (fun _ => sc_law_draws.nd) (fun _ => (Or.inl rfl)) (JD.asE (j_op (fun _ => op_mod) od_mod (JE.asD (j_add jx (JE.asD (j_add jx (JE.asD (j_mul (j_var 4) j_int)) (JE.asD (j_mul j_int (j_var 5))))) j_int)) j_int)))
     (jb_one (js_if (JW.t (jw_and (jt_cmp (c_eq jx) (j_op (fun _ => op_mod) od_mod (j_var 0) j_int) j_int (nomark _)) (jw_and1 (jt_cmp c_gt (j_var 3) j_int (nomark _)))))
      (jb_cons (js_app jx 2 (L' := [3]) (j_op (fun _ => op_mod) od_mod (j_var 3) j_int) (fun _ => st_BinOp))
       (jb_one (js_set 3 (L' := [3]) (fun _ => sc_law_draws.nd) (fun _ => (Or.inl rfl)) (JD.asE (j_op (fun _ => op_fdivB) od_fdiv (j_var 3) j_int)))))
      (jb_one (js_app jx 2 (L' := [4]) (j_op (fun _ => op_mod) od_mod (j_op (fun _ => op_mod) od_mod (JE.asD (j_mul (j_var 4) (j_var 4))) j_int) j_int) (fun _ => st_BinOp))))))))
   (jb_one (js_retV 2))))))
theorem ok_lies_within (T : Txt K mg A) : FnOk P w K mg base CX0 1 A.f_lies_within A.d_lies_within ["way", "ban"] (SpF (bk K A) 2 f_lies_within) :=
  T.F_lies_within.okJ sc_lies_within rfl fun jx =>
   (jb_one (js_ret (JD.asE (j_and (j_cmp (c_eq jx) (j_op (fun _ => op_and) od_and (j_ix jx (j_var 0) j_int (fun _ _ => rfl)) (j_ix jx (j_var 1) j_int (fun _ _ => rfl))) (j_ix jx (j_var 1) j_int (fun _ _ => rfl)) (nomark _)) (j_one (j_cmp (c_eq jx) (j_op (fun _ => op_and) od_and (j_ix jx (j_var 0) j_int (fun _ _ => rfl)) (j_ix jx (j_var 1) j_int (fun _ _ => rfl))) (j_ix jx (j_var 1) j_int (fun _ _ => rfl)) (nomark _)))))))
theorem ok_law_is_of (T : Txt K mg A) : FnOk P w K mg base CX0 1 A.f_law_is_of A.d_law_is_of ["_law_state", "_law_way"] (SpF (bk K A) 2 f_law_is_of) :=
  T.F_law_is_of.okJ sc_law_is_of rfl fun jx =>
   (jb_one (js_ret (JD.asE (j_and (j_cmp (c_eq jx) (j_op (fun _ => op_and) od_and (j_var 0) (j_ix jx (j_var 1) j_int (fun _ _ => rfl))) (j_ix jx (j_var 1) j_int (fun _ _ => rfl)) (nomark _)) (j_one (j_cmp (c_eq jx) (j_op (fun _ => op_and) od_and (j_var 0) (j_ix jx (j_var 1) j_int (fun _ _ => rfl))) j_int (nomark _)))))))
theorem ok_law_led (T : Txt K mg A) : FnOk P w K mg base CX0 2 A.f_law_led A.d_law_led ["_law_found", "_law_way", "_law_ban", "_law_bit", "_law_sets", "_law_bits_here"] (SpF (bk K A) 6 f_law_led) :=
  T.F_law_led.okJ sc_law_led rfl fun jx =>
   (jb_cons (js_set 6 (L' := []) (fun _ => sc_law_led.nd) (fun _ => (Or.inl rfl)) (j_lst ja_nil))
   (jb_cons (js_for jx (ji_rng1 jx T.z_range (ja_cons (j_op (fun _ => op_shl) od_shl j_int (j_var 5)) ja_nil (fun _ => st_BinOp))) (jg_name 7 (fun _ => sc_law_led.nd) (fun _ => (Or.inl rfl)))
    (show JB _ _ _ b_law_led_0 from (jb_one (js_if (JW.t (jw_and (jt_val (JE.asD (j_call jx (ok_law_is_of T) (by decide) T.m_law_is_of T.F_law_is_of.kp (b_law_is_of T) runF_len' (ja_cons (j_var 7) (ja_cons (j_var 1) ja_nil (fun _ => st_Name)) (fun _ => st_Name)) (fun _ => st_Name)))) (jw_and (jt_cmp (c_eq jx) (j_cmp (c_eq jx) (j_op (fun _ => op_and) od_and (j_var 7) (j_var 3)) j_int (nomark _)) (j_var 4) (nomark _)) (jw_and1 (jt_val (JE.asD (j_call jx (ok_law_is_of T) (by decide) T.m_law_is_of T.F_law_is_of.kp (b_law_is_of T) runF_len' (ja_cons (j_op (fun _ => op_xor) od_xor (j_var 7) (j_var 3)) (ja_cons (j_var 2) ja_nil (fun _ => st_Name)) (fun _ => st_BinOp)) (fun _ => st_BinOp))))))))
      (jb_one (js_app jx 6 (L' := [7]) (j_var 7) (fun _ => st_Name)))
      jb_nil))))
   (jb_cons (js_if (JW.t (jw_or (jt_cmp c_is (j_var 0) j_non (nomark _)) (jw_or1 (jt_cmp (c_eq jx) (j_var 6) (JE.asD (j_lst ja_nil)) (nomark _)))))
    (jb_one (js_ret (JD.asE (j_and (j_cmp c_is (j_var 0) j_non (nomark _)) (j_one (j_cmp (c_eq jx) (j_var 6) (JE.asD (j_lst ja_nil)) (nomark _)))))))
    jb_nil)
   (jb_cons (js_if (JW.t (jw_or (jt_not (jt_val (JE.asD (j_callB jx (b_isi jx (tab_ok T)) T.z_isinstance PyProof.Rows.Boot.«isinstance» (ja_cons (j_var 0) (ja_cons (j_ty jx T.z_tuple PyProof.Rows.Boot.«tuple») ja_nil (fun _ => st_Name)) (fun _ => st_Name)) (fun _ => st_Name))))) (jw_or (jt_cmp (c_ne jx) (JE.asD (j_callB jx (b_len jx) T.z_len PyProof.Rows.Boot.«len» (ja_cons (j_var 0) ja_nil (fun _ => st_Name)) (fun _ => st_Name))) j_int (nomark _)) (jw_or1 (jt_cmp (c_ne jx) (j_op (fun _ => op_and) od_and (j_ix jx (j_var 0) j_int (fun _ _ => rfl)) (j_ix jx (j_var 0) j_int (fun _ _ => rfl))) j_int (nomark _))))))
    (jb_one (js_ret (JD.asE j_bl)))
    jb_nil)
   (jb_cons (js_set 8 (L' := [1, 2, 3]) (fun _ => sc_law_led.nd) (fun _ => (Or.inl rfl)) (j_lst (ja_cons (j_op (fun _ => op_or) od_or (j_ix jx (j_var 1) j_int (fun _ _ => rfl)) (j_op (fun _ => op_and) od_and (j_ix jx (j_var 2) j_int (fun _ _ => rfl)) (j_inv (j_var 3)))) (ja_cons (j_op (fun _ => op_or) od_or (j_op (fun _ => op_or) od_or (j_ix jx (j_var 1) j_int (fun _ _ => rfl)) (j_ix jx (j_var 2) j_int (fun _ _ => rfl))) (j_var 3)) ja_nil (fun _ => st_BinOp)) (fun _ => st_BinOp))))
   (jb_cons (js_if (jt_not (jt_val (j_var 4)))
    (jb_one (js_set 8 (L' := [1, 2, 3]) (fun _ => sc_law_led.nd) (fun _ => (Or.inl rfl)) (j_lst (ja_cons (j_op (fun _ => op_or) od_or (j_op (fun _ => op_or) od_or (j_ix jx (j_var 1) j_int (fun _ _ => rfl)) (j_ix jx (j_var 2) j_int (fun _ _ => rfl))) (j_var 3)) (ja_cons (j_op (fun _ => op_or) od_or (j_ix jx (j_var 1) j_int (fun _ _ => rfl)) (j_op (fun _ => op_and) od_and (j_ix jx (j_var 2) j_int (fun _ _ => rfl)) (j_inv (j_var 3)))) ja_nil (fun _ => st_BinOp)) (fun _ => st_BinOp)))))
    jb_nil)
   (jb_cons (js_setcomp jx 9 (L' := [0]) (fun _ => sc_law_led.nd) (NX := ["_law_found", "_law_way", "_law_ban", "_law_bit", "_law_sets", "_law_bits_here", "_law_due", "_law_state", "_law_masks", "_law_states"]) (SX := defScope s_law_led) (N := ["_law_state", "_law_found"]) (own := 1) (fi := [0]) ⟨rfl, by decide +kernel, by decide +kernel, by decide +kernel, rfl, by decide +kernel⟩ (JI.asC (ji_rng1 jx T.z_range (ja_cons (j_op (fun _ => op_shl) od_shl j_int (j_var 5)) ja_nil (fun _ => st_BinOp)))) (jg_name 0 (fun _ => (show (["_law_state", "_law_found"] : List Str).Nodup by decide +kernel)) (fun _ => Or.inl rfl)) (jif_one (jt_val (JE.asD (j_call (JX.comp jx _ _) (ok_law_is_of T) (by decide) T.m_law_is_of T.F_law_is_of.kp (b_law_is_of T) runF_len' (ja_cons (j_var 0) (ja_cons (j_var 1) ja_nil (fun _ => st_Name)) (fun _ => st_Name)) (fun _ => st_Name))))) (j_var 0))
   (jb_one (js_ret (JD.asE (j_and (j_cmp (c_eq jx) (JE.asD (j_callTy jx (b_list jx) T.z_list PyProof.Rows.Boot.«list» (ja_cons (j_var 0) ja_nil (fun _ => st_Name)) (fun _ => st_Name))) (j_var 8) (nomark _)) (j_one (j_cmp (c_eq jx) (j_var 9) (j_var 6) (nomark _))))))))))))))
theorem ok_law_bits (T : Txt K mg A) : FnOk P w K mg base CX0 1 A.f_law_bits A.d_law_bits ["_law_mask", "_law_bits_here"] (SpF (bk K A) 2 f_law_bits) :=
  T.F_law_bits.okJ sc_law_bits rfl fun jx =>
   (jb_one (js_ret (j_comp jx (NX := ["_law_mask", "_law_bits_here"]) (SX := defScope s_law_bits) (N := ["_law_place", "_law_mask"]) (own := 1) (fi := [0]) ⟨rfl, by decide +kernel, by decide +kernel, by decide +kernel, rfl, by decide +kernel⟩ (JI.asC (ji_rng1 jx T.z_range (ja_cons (j_var 1) ja_nil (fun _ => st_Name)))) (jg_name 0 (fun _ => (show (["_law_place", "_law_mask"] : List Str).Nodup by decide +kernel)) (fun _ => Or.inl rfl)) (jif_one (jt_cmp (c_eq (JX.comp jx _ _)) (j_op (fun _ => op_and) od_and (j_op (fun _ => op_shr) od_shr (j_var 1) (j_var 0)) j_int) j_int (nomark _))) (j_var 0))))
theorem ok_law_within (T : Txt K mg A) : FnOk P w K mg base CX0 2 A.f_law_within A.d_law_within ["_law_way", "_law_ban", "_law_bits_here"] (SpF (bk K A) 3 f_law_within) :=
  T.F_law_within.okJ sc_law_within rfl fun jx =>
   (jb_cons (js_for jx (ji_rng1 jx T.z_range (ja_cons j_int ja_nil (fun _ => st_Constant))) (jg_name 3 (fun _ => sc_law_within.nd) (fun _ => (Or.inl rfl)))
    (show JB _ _ _ b_law_within_0 from (jb_cons (js_set 4 (L' := [0, 2, 3]) (fun _ => sc_law_within.nd) (fun _ => (Or.inr rfl)) (j_call jx (ok_law_bits T) (by decide) T.m_law_bits T.F_law_bits.kp (b_law_bits T) runF_len' (ja_cons (j_ix jx (j_var 0) (j_var 3) (fun _ _ => rfl)) (ja_cons (j_var 2) ja_nil (fun _ => st_Name)) (fun _ => st_Subscript)) (fun _ => st_Subscript)))
     (jb_one (js_if (jt_cmp (c_ne jx) (JE.asD (j_comp jx (NX := ["_law_way", "_law_ban", "_law_bits_here", "_law_part", "_law_asked"]) (SX := defScope s_law_within) (N := ["_law_place", "_law_asked"]) (own := 1) (fi := [4]) ⟨rfl, by decide +kernel, by decide +kernel, by decide +kernel, rfl, by decide +kernel⟩ (jc_seq jx (JE.asD (j_call jx (ok_law_bits T) (by decide) T.m_law_bits T.F_law_bits.kp (b_law_bits T) runF_len' (ja_cons (j_ix jx (j_var 1) (j_var 3) (fun _ _ => rfl)) (ja_cons (j_var 2) ja_nil (fun _ => st_Name)) (fun _ => st_Subscript)) (fun _ => st_Subscript)))) (jg_name 0 (fun _ => (show (["_law_place", "_law_asked"] : List Str).Nodup by decide +kernel)) (fun _ => Or.inl rfl)) (jif_one (jt_cmp (c_notIn (JX.comp jx _ _)) (j_var 0) (j_var 1) rfl)) (j_var 0))) (JE.asD (j_lst ja_nil)) (nomark _))
      (jb_one (js_ret (JD.asE j_bl)))
      jb_nil)))))
   (jb_one (js_ret (JD.asE j_bl))))
theorem ok_is_nothing (T : Txt K mg A) : FnOk P w K mg base CX0 1 A.f_is_nothing A.d_is_nothing ["way"] (SpF (bk K A) 1 f_is_nothing) :=
  T.F_is_nothing.okJ sc_is_nothing rfl fun jx =>
   (jb_one (js_ret (JD.asE (j_cmp (c_ne jx) (j_op (fun _ => op_and) od_and (j_ix jx (j_var 0) j_int (fun _ _ => rfl)) (j_ix jx (j_var 0) j_int (fun _ _ => rfl))) j_int (nomark _)))))
theorem ok_leading (T : Txt K mg A) : FnOk P w K mg base CX0 2 A.f_leading A.d_leading ["ban", "way", "bit", "sets"] (SpF (bk K A) 4 f_leading) :=
  T.F_leading.okJ sc_leading rfl fun jx =>
   (jb_cons (js_if (jt_val (j_var 3))
    (jb_one (js_set 4 (L' := [0, 1, 2]) (fun _ => sc_leading.nd) (fun _ => (Or.inl rfl)) (j_if (jt_cmp (c_ne jx) (j_op (fun _ => op_and) od_and (j_ix jx (j_var 0) j_int (fun _ _ => rfl)) (j_var 2)) j_int (nomark _)) (JD.asE j_non) (JD.asE (j_tup (ja_cons (j_op (fun _ => op_or) od_or (j_ix jx (j_var 1) j_int (fun _ _ => rfl)) (j_op (fun _ => op_and) od_and (j_ix jx (j_var 0) j_int (fun _ _ => rfl)) (j_inv (j_var 2)))) (ja_cons (j_op (fun _ => op_or) od_or (j_op (fun _ => op_or) od_or (j_ix jx (j_var 1) j_int (fun _ _ => rfl)) (j_ix jx (j_var 0) j_int (fun _ _ => rfl))) (j_var 2)) ja_nil (fun _ => st_BinOp)) (fun _ => st_BinOp)))))))
    (jb_one (js_set 4 (L' := [0, 1, 2]) (fun _ => sc_leading.nd) (fun _ => (Or.inl rfl)) (j_if (jt_cmp (c_ne jx) (j_op (fun _ => op_and) od_and (j_ix jx (j_var 0) j_int (fun _ _ => rfl)) (j_var 2)) j_int (nomark _)) (JD.asE j_non) (JD.asE (j_tup (ja_cons (j_op (fun _ => op_or) od_or (j_op (fun _ => op_or) od_or (j_ix jx (j_var 1) j_int (fun _ _ => rfl)) (j_ix jx (j_var 0) j_int (fun _ _ => rfl))) (j_var 2)) (ja_cons (j_op (fun _ => op_or) od_or (j_ix jx (j_var 1) j_int (fun _ _ => rfl)) (j_op (fun _ => op_and) od_and (j_ix jx (j_var 0) j_int (fun _ _ => rfl)) (j_inv (j_var 2)))) ja_nil (fun _ => st_BinOp)) (fun _ => st_BinOp))))))))
   (jb_one (js_ret (j_if (JW.t (jw_or (jt_cmp c_is (j_var 4) j_non (nomark _)) (jw_or1 (jt_val (JE.asD (j_call jx (ok_is_nothing T) (by decide) T.m_is_nothing T.F_is_nothing.kp (b_is_nothing T) runF_len' (ja_cons (j_var 4) ja_nil (fun _ => st_Name)) (fun _ => st_Name))))))) (JD.asE j_non) (JD.asE (j_var 4))))))
theorem ok_law (T : Txt K mg A) : FnOk P w K mg base CX0 3 A.f_law A.d_law ["_law_script"] (SpF (bk K A) 1 f_law) :=
  T.F_law.okJ sc_law rfl fun jx =>
   (jb_cons (js_for jx (ji_seq jx [0] (j_add jx (JE.asD (j_sl jx (j_var 0) jo_none (jo_some j_int))) (JE.asD (j_lst (ja_cons j_int ja_nil (fun _ => st_Constant)))))) (jg_name 1 (fun _ => sc_law.nd) (fun _ => (Or.inl rfl)))
    (show JB _ _ _ b_law_0 from (jb_cons (js_set 2 (L' := [1]) (fun _ => sc_law.nd) (fun _ => (Or.inl rfl)) (j_call jx (ok_law_draws T) (by decide) T.m_law_draws T.F_law_draws.kp (b_law_draws T) runF_len' (ja_cons (j_var 1) (ja_cons j_int ja_nil (fun _ => st_Constant)) (fun _ => st_Name)) (fun _ => st_Name)))
     (jb_cons (js_set 3 (L' := [2]) (fun _ => sc_law.nd) (fun _ => (Or.inl rfl)) (j_add jx j_int (j_op (fun _ => op_mod) od_mod (j_ix jx (j_var 2) j_int (fun _ _ => rfl)) j_int)))
     (jb_cons (js_set 4 (L' := [3]) (fun _ => sc_law.nd) (fun _ => (Or.inl rfl)) (JD.asE (j_op (fun _ => op_shl) od_shl j_int (j_var 3))))
     (jb_cons (js_set 5 (L' := [2, 4]) (fun _ => sc_law.nd) (fun _ => (Or.inl rfl)) (JD.asE (j_tup (ja_cons (j_op (fun _ => op_mod) od_mod (j_ix jx (j_var 2) j_int (fun _ _ => rfl)) (j_var 4)) (ja_cons (j_op (fun _ => op_mod) od_mod (j_ix jx (j_var 2) j_int (fun _ _ => rfl)) (j_var 4)) ja_nil (fun _ => st_BinOp)) (fun _ => st_BinOp)))))
     (jb_cons (js_set 6 (L' := [2, 4]) (fun _ => sc_law.nd) (fun _ => (Or.inl rfl)) (JD.asE (j_tup (ja_cons (j_op (fun _ => op_mod) od_mod (j_ix jx (j_var 2) j_int (fun _ _ => rfl)) (j_var 4)) (ja_cons (j_op (fun _ => op_mod) od_mod (j_ix jx (j_var 2) j_int (fun _ _ => rfl)) (j_var 4)) ja_nil (fun _ => st_BinOp)) (fun _ => st_BinOp)))))
     (jb_cons (js_if (jt_cmp c_gt (j_op (fun _ => op_mod) od_mod (j_ix jx (j_var 2) j_int (fun _ _ => rfl)) j_int) j_int (nomark _))
      (jb_cons (js_set 5 (L' := [5]) (fun _ => sc_law.nd) (fun _ => (Or.inl rfl)) (JD.asE (j_tup (ja_cons (j_ix jx (j_var 5) j_int (fun _ _ => rfl)) (ja_cons (j_op (fun _ => op_and) od_and (j_ix jx (j_var 5) j_int (fun _ _ => rfl)) (j_inv (j_ix jx (j_var 5) j_int (fun _ _ => rfl)))) ja_nil (fun _ => st_BinOp)) (fun _ => st_Subscript)))))
       (jb_one (js_set 6 (L' := [6]) (fun _ => sc_law.nd) (fun _ => (Or.inl rfl)) (JD.asE (j_tup (ja_cons (j_ix jx (j_var 6) j_int (fun _ _ => rfl)) (ja_cons (j_op (fun _ => op_and) od_and (j_ix jx (j_var 6) j_int (fun _ _ => rfl)) (j_inv (j_ix jx (j_var 6) j_int (fun _ _ => rfl)))) ja_nil (fun _ => st_BinOp)) (fun _ => st_Subscript)))))))
      jb_nil)
     (jb_cons (js_if (jt_cmp (c_eq jx) (j_op (fun _ => op_mod) od_mod (j_ix jx (j_var 2) j_int (fun _ _ => rfl)) j_int) j_int (nomark _))
      (jb_one (js_set 5 (L' := [5, 6]) (fun _ => sc_law.nd) (fun _ => (Or.inl rfl)) (JD.asE (j_tup (ja_cons (j_op (fun _ => op_or) od_or (j_ix jx (j_var 5) j_int (fun _ _ => rfl)) (j_ix jx (j_var 6) j_int (fun _ _ => rfl))) (ja_cons (j_op (fun _ => op_or) od_or (j_ix jx (j_var 5) j_int (fun _ _ => rfl)) (j_ix jx (j_var 6) j_int (fun _ _ => rfl))) ja_nil (fun _ => st_BinOp)) (fun _ => st_BinOp))))))
      jb_nil)
     (jb_cons (js_set 7 (L' := [5, 6]) (fun _ => sc_law.nd) (fun _ => (Or.inl rfl)) (j_call jx (ok_lies_within T) (by decide) T.m_lies_within T.F_lies_within.kp (b_lies_within T) runF_len' (ja_cons (j_var 5) (ja_cons (j_var 6) ja_nil (fun _ => st_Name)) (fun _ => st_Name)) (fun _ => st_Name)))
     (jb_cons (js_if (JW.t (jw_or (jt_not (jt_val (JE.asD (j_callB jx (b_isi jx (tab_ok T)) T.z_isinstance PyProof.Rows.Boot.«isinstance» (ja_cons (j_var 7) (ja_cons (j_ty jx T.z_bool PyProof.Rows.Boot.«bool») ja_nil (fun _ => st_Name)) (fun _ => st_Name)) (fun _ => st_Name))))) (jw_or1 (jt_cmp (c_ne jx) (j_var 7) (JE.asD (j_call jx (ok_law_within T) (by decide) T.m_law_within T.F_law_within.kp (b_law_within T) runF_len' (ja_cons (j_var 5) (ja_cons (j_var 6) (ja_cons (j_var 3) ja_nil (fun _ => st_Name)) (fun _ => st_Name)) (fun _ => st_Name)) (fun _ => st_Name))) (nomark _)))))
      (jb_one (js_ret (JD.asE j_bl)))
      jb_nil)
     (jb_cons (js_set 8 (L' := [2, 3]) (fun _ => sc_law.nd) (fun _ => (Or.inl rfl)) (JD.asE (j_op (fun _ => op_shl) od_shl j_int (j_op (fun _ => op_mod) od_mod (j_ix jx (j_var 2) j_int (fun _ _ => rfl)) (j_var 3)))))
     (jb_cons (js_set 9 (L' := [2]) (fun _ => sc_law.nd) (fun _ => (Or.inl rfl)) (JD.asE (j_cmp (c_eq jx) (j_op (fun _ => op_mod) od_mod (j_ix jx (j_var 2) j_int (fun _ _ => rfl)) j_int) j_int (nomark _))))
     (jb_one (js_if (jt_not (jt_val (JE.asD (j_call jx (ok_law_led T) (by decide) T.m_law_led T.F_law_led.kp (b_law_led T) runF_len' (ja_cons (JE.asD (j_call jx (ok_leading T) (by decide) T.m_leading T.F_leading.kp (b_leading T) runF_len' (ja_cons (j_var 6) (ja_cons (j_var 5) (ja_cons (j_var 8) (ja_cons (j_var 9) ja_nil (fun _ => st_Name)) (fun _ => st_Name)) (fun _ => st_Name)) (fun _ => st_Name)) (fun _ => st_Name))) (ja_cons (j_var 5) (ja_cons (j_var 6) (ja_cons (j_var 8) (ja_cons (j_var 9) (ja_cons (j_var 3) ja_nil (fun _ => st_Name)) (fun _ => st_Name)) (fun _ => st_Name)) (fun _ => st_Name)) (fun _ => st_Name)) (fun _ => st_Call)) (fun _ => st_Call)))))
      (jb_one (js_ret (JD.asE j_bl)))
      jb_nil)))))))))))))))
   (jb_one (js_ret (JD.asE j_bl))))
end
end My

set_option Elab.async false
set_option linter.all false
set_option maxRecDepth 100000
set_option maxHeartbeats 4000000
namespace My
open PySem L2
theorem sl_big : sizeLine = 16777216 := sizeLine_eq
@[simp] theorem ix0 {α : Type} (a b : α) : atI [a, b] 0 = some a := rfl
@[simp] theorem ix1 {α : Type} (a b : α) : atI [a, b] 1 = some b := rfl
theorem eqI (i j : Int) : oEq (.int i) (.int j) = some (.bl (i == j)) := rfl
theorem neI (i j : Int) : oNe (.int i) (.int j) = some (.bl (!(i == j))) := rfl
theorem eqB (a b : Bool) : oEq (.bl a) (.bl b) = some (.bl (a == b)) := rfl
theorem neB (a b : Bool) : oNe (.bl a) (.bl b) = some (.bl (!(a == b))) := rfl
abbrev sI (i : Int) : Option SV := some (.sh (.int i))
abbrev oD (x : Option D) : Option SV := x.map SV.sh
theorem f_isof (s : Nat) (w : Wy) : f_law_is_of [.int s, wD w] = some (.sh (.bl (ofWy s w))) := by
  obtain ⟨a, b⟩ := w
  by_cases c : (s &&& a) = a
  · simp [f_law_is_of, runF, m_law_is_of, wD, bAnd, eqI, ofWy, c, int0, natB]
  · simp [f_law_is_of, runF, m_law_is_of, wD, bAnd, eqI, ofWy, c, natB]
def inW (w b : Wy) : Bool := (w.1 &&& b.1) == b.1 && (w.2 &&& b.2) == b.2
theorem f_lies (w b : Wy) : f_lies_within [wD w, wD b] = some (.sh (.bl (inW w b))) := by
  obtain ⟨p, q⟩ := w
  obtain ⟨r, s⟩ := b
  by_cases c : (p &&& r) = r
  · simp [f_lies_within, runF, m_lies_within, wD, bAnd, eqI, inW, c, natB]
  · simp [f_lies_within, runF, m_lies_within, wD, bAnd, eqI, inW, c, natB]
theorem f_noth (w : Wy) : f_is_nothing [wD w] = some (.sh (.bl (!fits w))) := by
  obtain ⟨p, q⟩ := w
  simp [f_is_nothing, runF, m_is_nothing, wD, bAnd, neI, fits, int0]
def leadW (b w : Wy) (t : Nat) (sets : Bool) : Option Wy :=
  let into : Option Wy := if sets = true then (if ((b.2 &&& t) == 0) = true then some (w.1 ||| but b.1 t, (w.2 ||| b.2) ||| t) else none)
    else (if ((b.1 &&& t) == 0) = true then some ((w.1 ||| b.1) ||| t, w.2 ||| but b.2 t) else none)
  into.bind fun x => if fits x = true then some x else none
def oW : Option Wy → D
  | none => .non
  | some w => wD w
theorem isN (d : D) : oIs d .non = some (.bl d.isNon) := rfl
theorem f_lead (b w : Wy) (t : Nat) (sets : Bool) : f_leading [wD b, wD w, .int t, .bl sets] = some (.sh (oW (leadW b w t sets))) := by
  have hz : (2 : Nat) ≤ sizeLine := by rw [sl_big]; omega
  obtain ⟨p, q⟩ := w
  obtain ⟨r, s⟩ := b
  cases sets
  · have e := f_noth ((p ||| r) ||| t, q ||| but s t)
    simp only [wD] at e
    cases c : ((r &&& t) == 0)
    · simp [f_leading, runF, m_leading, M_leading, wD, bAnd, neI, leadW, int0, c, isN, D.isNon, oW, hz, bOr, bAndNot]
    · cases d : fits ((p ||| r) ||| t, q ||| but s t)
      · simp [f_leading, runF, m_leading, M_leading, wD, bAnd, neI, leadW, int0, c, d, isN, D.isNon, oW, hz, bOr, bAndNot, e]
      · simp [f_leading, runF, m_leading, M_leading, wD, bAnd, neI, leadW, int0, c, d, isN, D.isNon, oW, hz, bOr, bAndNot, e]
  · have e := f_noth (p ||| but r t, (q ||| s) ||| t)
    simp only [wD] at e
    cases c : ((s &&& t) == 0)
    · simp [f_leading, runF, m_leading, M_leading, wD, bAnd, neI, leadW, int0, c, isN, D.isNon, oW, hz, bOr, bAndNot]
    · cases d : fits (p ||| but r t, (q ||| s) ||| t)
      · simp [f_leading, runF, m_leading, M_leading, wD, bAnd, neI, leadW, int0, c, d, isN, D.isNon, oW, hz, bOr, bAndNot, e]
      · simp [f_leading, runF, m_leading, M_leading, wD, bAnd, neI, leadW, int0, c, d, isN, D.isNon, oW, hz, bOr, bAndNot, e]

theorem comp1 {α : Type} (f : α → D) (rest : FSt) (mt : FSt → Option Bool) (me : FSt → Option D) (c : α → Bool) (g : α → D) : ∀ (xs : List α), (∀ x ∈ xs, mt (some (.sh (f x)) :: rest) = some (c x) ∧ (c x = true → me (some (.sh (f x)) :: rest) = some (g x))) →
    ∀ y : Option D, compM (gN 0) mt me (xs.map f) (oD y :: rest) = some ((xs.filter c).map g)
  | [], _, _ => rfl
  | x :: xs, h, y => by
    have ih := comp1 f rest mt me c g xs (fun z hz => h z (by simp [hz])) (some (f x))
    simp only [oD, Option.map_some] at ih
    have hx := h x (by simp)
    have hg : gN 0 (f x) (oD y :: rest) = some (some (.sh (f x)) :: rest) := by simp
    rw [List.map_cons, compM, hg]
    simp only [Option.bind_some, hx.1]
    cases e : c x
    · simp [e, ih]
    · simp [e, ih, hx.2 e]
theorem bit_at (m k : Nat) : (Builtin.bitAnd ((m : Int) / 2 ^ k) 1 == 1) = m.testBit k := by
  have h1 : ((m : Int) / 2 ^ k) = ((m / 2 ^ k : Nat) : Int) := by simp
  have h2 := bAnd (m / 2 ^ k) 1
  rw [h1]
  have h3 : (((1 : Nat) : Int)) = 1 := rfl
  rw [h3] at h2
  rw [h2, Nat.and_one_is_mod, Nat.testBit_eq_decide_div_mod_eq, Bool.eq_iff_iff]
  simp
  omega
def bitsW (m n : Nat) : List Nat := (List.range n).filter m.testBit

theorem t_bits (m k : Nat) : mTruth (m2 oEq (m2 oAnd (m2 oShr (mV 1) (mV 0)) (mC (.int 1))) (mC (.int 1))) [some (.sh (nD k)), sI m] = some (m.testBit k) := by
  simp [eqI, bit_at]
theorem c_bits (m n : Nat) : compM (gN 0) (mTruth (m2 oEq (m2 oAnd (m2 oShr (mV 1) (mV 0)) (mC (.int 1))) (mC (.int 1)))) (mV 0) ((List.range n).map nD) [none, sI m] = some ((bitsW m n).map nD) := 
  comp1 nD [sI m] _ (mV 0) m.testBit nD (List.range n) (fun k _ => ⟨t_bits m k, fun _ => rfl⟩) none
theorem mComp_of {own : Nat} {fi : List Nat} {mi : FSt → Option (List D)} {mg : D → FSt → Option FSt} {mt : FSt → Option Bool} {me : FSt → Option D} {S : FSt} {its out : List D} (h1 : mi S = some its) (h2 : its.length ≤ sizeLine) (h3 : compM mg mt me its (compS own fi S) = some out) : mComp own fi mi mg mt me S = some (.li out) := by
  unfold mComp; rw [h1, Option.bind_some, if_pos h2, h3]; rfl
theorem mR1_a {m : FSt → Option D} {S : FSt} {d : D} (h : m S = some d) : mR1 (mCons m mNil) S = fRng [d] := by
  unfold mR1 mCons mNil
  rw [h]
  rfl
theorem mR1_of {m : FSt → Option D} {S : FSt} {n : Nat} (h : m S = some (.int n)) (hn : n < 2 ^ 62) : mR1 (mCons m mNil) S = some ((List.range n).map nD) := (mR1_a h).trans (rng0 n hn)
theorem mRet_of {m : FSt → Option SV} {S : FSt} {x : SV} (h : m S = some x) : mRet m S = .rt x := by unfold mRet; rw [h]
theorem run_rt {m : FSt → Fl} {n k : Nat} {ds : List D} {x : SV} (hl : ds.length = n) (h : m (ds.map (fun d => some (.sh d)) ++ List.replicate (k - n) none) = .rt x) : runF m n k ds = some x := by
  unfold runF; rw [if_pos hl, h]
theorem f_bits (m n : Nat) (hn : n ≤ 12) : f_law_bits [.int m, .int n] = some (.li ((bitsW m n).map nD)) := by
  refine run_rt rfl (mRet_of (mComp_of (mR1_of (n := n) rfl (by omega)) (by rw [List.length_map, List.length_range, sl_big]; omega) (c_bits m n)))
def outB (x y n : Nat) : List Nat := (bitsW y n).filter fun k => !decide (k ∈ bitsW x n)
theorem c_out (x y n : Nat) : compM (gN 0) (mTruth (m2 oNotIn (mV 0) (mV 1))) (mV 0) ((bitsW y n).map nD) [none, some (.sh (.lst ((bitsW x n).map nD)))] = some ((outB x y n).map nD) :=
  comp1 nD [some (.sh (.lst ((bitsW x n).map nD)))] _ (mV 0) _ nD (bitsW y n) (fun k _ => ⟨by simp [notIn_ns], fun _ => rfl⟩) none
theorem bitsW_len (x n : Nat) : (bitsW x n).length ≤ n := by
  have := List.length_filter_le x.testBit (List.range n)
  rw [List.length_range] at this
  exact this
theorem ns_plain (ns : List Nat) : D.plains (ns.map nD) = true := by
  induction ns with
  | nil => rfl
  | cons w ws ih => simp [D.plains, D.plain, ih]
theorem n0 : oNe (.lst []) (.lst []) = some (.bl false) := rfl
theorem w_core (fb : List D → Option SV) (w b : Wy) (n : Nat) (part : Int) (x y : Nat) (x4 : Option SV) (h4 : lkO x4 = false) (hx : oIx (wD w) (.int part) = some (.int x)) (hy : oIx (wD b) (.int part) = some (.int y)) (hl' : (bitsW y n).length ≤ sizeLine) (e1 : fb [.int x, .int n] = some (.li ((bitsW x n).map nD))) (e2 : fb [.int y, .int n] = some (.li ((bitsW y n).map nD))) :
    B_law_within_0 fb [some (.sh (wD w)), some (.sh (wD b)), sI n, sI part, x4] = if outB x y n = [] then .nx [some (.sh (wD w)), some (.sh (wD b)), sI n, sI part, some (.li ((bitsW x n).map nD))] else .rt (.sh (.bl false)) := by
  have e3 := c_out x y n
  by_cases c : outB x y n = []
  · rw [c] at e3
    rw [if_pos c]
    simp [B_law_within_0, hx, hy, e1, e2, e3, h4, hl', ns_plain, ne_ns0, itemsD, n0, -oIx]
  · rw [if_neg c]
    simp [B_law_within_0, hx, hy, e1, e2, e3, h4, hl', ns_plain, ne_ns0, c, itemsD, -oIx]
theorem w_step (w b : Wy) (n : Nat) (hn : n ≤ 12) (part : Int) (x y : Nat) (x4 : Option SV) (h4 : lkO x4 = false) (hx : oIx (wD w) (.int part) = some (.int x)) (hy : oIx (wD b) (.int part) = some (.int y)) :
    b_law_within_0 [some (.sh (wD w)), some (.sh (wD b)), sI n, sI part, x4] = if outB x y n = [] then .nx [some (.sh (wD w)), some (.sh (wD b)), sI n, sI part, some (.li ((bitsW x n).map nD))] else .rt (.sh (.bl false)) :=
  w_core f_law_bits w b n part x y x4 h4 hx hy (by have := bitsW_len y n; rw [sl_big]; omega) (f_bits x n hn) (f_bits y n hn)
theorem out_iff (x y n : Nat) (hy : y < 2 ^ n) : outB x y n = [] ↔ (x &&& y) = y := by
  rw [sub_iff]
  unfold outB
  rw [List.filter_eq_nil_iff]
  simp only [bitsW, List.mem_filter, List.mem_range, Bool.not_eq_true', decide_eq_false_iff_not, Decidable.not_not]
  constructor
  · intro h i hi
    by_cases hin : i < n
    · exact (h i ⟨hin, hi⟩).2
    · have : y.testBit i = false := Nat.testBit_lt_two_pow (Nat.lt_of_lt_of_le hy (Nat.pow_le_pow_right (by omega) (by omega)))
      rw [this] at hi; cases hi
  · rintro h i ⟨h1, h2⟩
    exact ⟨h1, h i h2⟩
theorem within_core (bd : FSt → Fl) (w b : Wy) (n : Nat) (h0 : ∀ x4, lkO x4 = false → bd [some (.sh (wD w)), some (.sh (wD b)), sI n, sI 0, x4] = if (w.1 &&& b.1) = b.1 then .nx [some (.sh (wD w)), some (.sh (wD b)), sI n, sI 0, some (.li ((bitsW w.1 n).map nD))] else .rt (.sh (.bl false)))
    (h1 : ∀ x4, lkO x4 = false → bd [some (.sh (wD w)), some (.sh (wD b)), sI n, sI 1, x4] = if (w.2 &&& b.2) = b.2 then .nx [some (.sh (wD w)), some (.sh (wD b)), sI n, sI 1, some (.li ((bitsW w.2 n).map nD))] else .rt (.sh (.bl false))) :
    runF (M_law_within bd) 3 5 [wD w, wD b, .int n] = some (.sh (.bl (inW w b))) := by
  have hr : fRng [.int 2] = some [.int 0, .int 1] := rfl
  have a0 := h0 none rfl
  have a1 := h1 (some (.li ((bitsW w.1 n).map nD))) rfl
  unfold inW
  by_cases c : (w.1 &&& b.1) = b.1
  · rw [if_pos c] at a0
    by_cases d : (w.2 &&& b.2) = b.2
    · rw [if_pos d] at a1
      simp only [sI] at a0 a1
      simp [runF, M_law_within, hr, loopM, a0, a1, c, d]
    · rw [if_neg d] at a1
      simp only [sI] at a0 a1
      simp [runF, M_law_within, hr, loopM, a0, a1, c, d]
  · rw [if_neg c] at a0
    simp only [sI] at a0 a1
    simp [runF, M_law_within, hr, loopM, a0, c]
theorem f_within (w b : Wy) (n : Nat) (hn : n ≤ 12) (h1 : b.1 < 2 ^ n) (h2 : b.2 < 2 ^ n) : f_law_within [wD w, wD b, .int n] = some (.sh (.bl (inW w b))) := by
  refine within_core b_law_within_0 w b n (fun x4 h4 => ?_) (fun x4 h4 => ?_)
  · rw [w_step w b n hn 0 w.1 b.1 x4 h4 rfl rfl]
    simp only [out_iff _ _ _ h1]
  · rw [w_step w b n hn 1 w.2 b.2 x4 h4 rfl rfl]
    simp only [out_iff _ _ _ h2]
def dueC (w b : Wy) (t : Nat) (sets : Bool) (x : Nat) : Bool := ofWy x w && ((((x &&& t) == 0) == sets) && ofWy (x ^^^ t) b)
theorem led_loop (fi : List D → Option SV) (hf : ∀ (s : Nat) (w : Wy), fi [.int s, wD w] = some (.sh (.bl (ofWy s w)))) (F0 : Option SV) (w b : Wy) (t n : Nat) (sets : Bool) : ∀ (xs acc : List Nat) (x7 : Option D), acc.length + xs.length ≤ sizeLine → ∃ y7,
    loopM (gN 7) (B_law_led_0 fi) (xs.map nD) [F0, some (.sh (wD w)), some (.sh (wD b)), sI t, some (.sh (.bl sets)), sI n, some (.li (acc.map nD)), oD x7, none, none] =
      .nx [F0, some (.sh (wD w)), some (.sh (wD b)), sI t, some (.sh (.bl sets)), sI n, some (.li ((acc ++ xs.filter (dueC w b t sets)).map nD)), oD y7, none, none]
  | [], acc, x7, _ => ⟨x7, by simp [loopM]⟩
  | x :: xs, acc, x7, hl => by
    simp only [List.length_cons] at hl
    have hk : acc.length < sizeLine := by omega
    have h1 := hf x w
    have h2 := hf (x ^^^ t) b
    cases c : dueC w b t sets x
    · obtain ⟨y7, h⟩ := led_loop fi hf F0 w b t n sets xs acc (some (.int x)) (by omega)
      refine ⟨y7, ?_⟩
      rw [List.filter_cons, if_neg (by simp [c]), ← h, List.map_cons, loopM]
      unfold dueC at c
      cases c1 : ofWy x w
      · rw [c1] at h1
        simp [B_law_led_0, h1]
      · rw [c1] at h1 c
        cases c2 : (((x &&& t) == 0) == sets)
        · simp [B_law_led_0, h1, bAnd, eqI, int0, eqB, c2]
        · rw [c2] at c
          cases c3 : ofWy (x ^^^ t) b
          · rw [c3] at h2
            simp [B_law_led_0, h1, bAnd, eqI, int0, eqB, c2, bXor, h2]
          · rw [c3] at c
            cases c
    · obtain ⟨y7, h⟩ := led_loop fi hf F0 w b t n sets xs (acc ++ [x]) (some (.int x)) (by simp; omega)
      refine ⟨y7, ?_⟩
      rw [List.filter_cons, if_pos c, List.append_cons, ← h, List.map_cons, loopM]
      unfold dueC at c
      rw [Bool.and_eq_true, Bool.and_eq_true] at c
      obtain ⟨c1, c2, c3⟩ := c
      rw [c1] at h1
      rw [c3] at h2
      simp [B_law_led_0, h1, bAnd, eqI, int0, eqB, c2, bXor, h2, hk]
theorem shl1 (n : Nat) (hn : n ≤ 12) : oShl (.int 1) (.int n) = some (.int (2 ^ n : Nat)) := by
  have hp : cPowB 1 (n : Int) = true := by
    rw [cPow_iff]
    exact ⟨by omega, by omega, by decide⟩
  simp [hp]
theorem shl_at (n : Nat) (hn : n ≤ 12) (S : FSt) (e : S[5]? = some (sI n)) : mR1 (mCons (m2 oShl (mC (.int 1)) (mV 5)) mNil) S = some ((List.range (2 ^ n)).map nD) := by
  refine mR1_of ?_ (Nat.lt_of_le_of_lt (Nat.pow_le_pow_right (by omega) hn) (by omega))
  have h5 : mV 5 S = some (.int n) := by unfold mV; rw [e]; rfl
  show ((mC (.int 1) S).bind fun x => (mV 5 S).bind fun y => oShl x y) = _
  rw [h5]
  exact shl1 n hn
theorem c_of (fi : List D → Option SV) (hf : ∀ (s : Nat) (w : Wy), fi [.int s, wD w] = some (.sh (.bl (ofWy s w)))) (w : Wy) (m : Nat) : compM (gN 0) (mTruth (mFr (m1 fi (mCons (mV 0) (mCons (mV 1) mNil))))) (mV 0) ((List.range m).map nD) [none, some (.sh (wD w))] = some (((List.range m).filter fun x => ofWy x w).map nD) :=
  comp1 nD [some (.sh (wD w))] _ (mV 0) _ nD (List.range m) (fun k _ => ⟨by simp [hf], fun _ => rfl⟩) none
theorem led_none (bd : FSt → Fl) (fi : List D → Option SV) (w b : Wy) (t n : Nat) (sets : Bool) (top : List D) (y7 : Option D) (hr : ∀ S : FSt, S[5]? = some (sI n) → mR1 (mCons (m2 oShl (mC (.int 1)) (mV 5)) mNil) S = some top)
    (hb : loopM (gN 7) bd top [some (.sh .non), some (.sh (wD w)), some (.sh (wD b)), sI t, some (.sh (.bl sets)), sI n, some (.li []), none, none, none] = .nx [some (.sh .non), some (.sh (wD w)), some (.sh (wD b)), sI t, some (.sh (.bl sets)), sI n, some (.li []), oD y7, none, none]) :
    runF (M_law_led bd fi) 6 10 [.non, wD w, wD b, .int t, .bl sets, .int n] = some (.sh (.bl true)) := by
  have q0 : oEq (.lst []) (.lst []) = some (.bl true) := rfl
  have h0 : (0 : Nat) ≤ sizeLine := Nat.zero_le _
  simp [runF, M_law_led, hr, hb, isN, D.isNon, q0, -mR1]
theorem led_some (bd : FSt → Fl) (fi : List D → Option SV) (w b v : Wy) (t n : Nat) (sets : Bool) (tops due : List Nat) (y7 : Option D) (hd : due ≠ []) (hr : ∀ S : FSt, S[5]? = some (sI n) → mR1 (mCons (m2 oShl (mC (.int 1)) (mV 5)) mNil) S = some (tops.map nD))
    (hl : tops.length ≤ sizeLine)
    (hb : loopM (gN 7) bd (tops.map nD) [some (.sh (wD v)), some (.sh (wD w)), some (.sh (wD b)), sI t, some (.sh (.bl sets)), sI n, some (.li []), none, none, none] = .nx [some (.sh (wD v)), some (.sh (wD w)), some (.sh (wD b)), sI t, some (.sh (.bl sets)), sI n, some (.li (due.map nD)), oD y7, none, none])
    (hc : compM (gN 0) (mTruth (mFr (m1 fi (mCons (mV 0) (mCons (mV 1) mNil))))) (mV 0) (tops.map nD) [none, some (.sh (wD v))] = some (due.map nD))
    (hv : v = if sets = true then (w.1 ||| but b.1 t, (w.2 ||| b.2) ||| t) else ((w.1 ||| b.1) ||| t, w.2 ||| but b.2 t)) (hf : fits v = true) :
    runF (M_law_led bd fi) 6 10 [wD v, wD w, wD b, .int t, .bl sets, .int n] = some (.sh (.bl true)) := by
  have hz : (2 : Nat) ≤ sizeLine := by rw [sl_big]; omega
  have q0 : oEq (.lst (due.map nD)) (.lst []) = some (.bl false) := by rw [eq_ns0, decide_eq_false hd]
  have q1 := eq_ns due due
  have q2 : oEq (.lst [.int v.1, .int v.2]) (.lst [.int v.1, .int v.2]) = some (.bl true) := by
    have := eq_ns [v.1, v.2] [v.1, v.2]
    simpa using this
  have k : fIsF tab [wD v, .ty "tuple"] = some (.sh (.bl true)) := rfl
  have hf' : (Builtin.bitAnd (v.1 : Int) (v.2 : Int) == 0) = true := by rw [bAnd, int0]; exact hf
  obtain ⟨p, q⟩ := w
  obtain ⟨r, s⟩ := b
  cases sets
  · simp only [Bool.false_eq_true, if_false] at hv
    have e1 : v.1 = (p ||| r) ||| t := by rw [hv]
    have e2 : v.2 = q ||| but s t := by rw [hv]
    simp only [wD] at hb hc k ⊢
    simp only [e1, e2] at hb hc k q2 hf' ⊢
    simp [runF, M_law_led, hr, hb, isN, D.isNon, q0, k, hz, neI, hf', bOr, bAndNot, hl, hc, q1, q2, ns_plain, -mR1]
  · simp only [if_true] at hv
    have e1 : v.1 = p ||| but r t := by rw [hv]
    have e2 : v.2 = (q ||| s) ||| t := by rw [hv]
    simp only [wD] at hb hc k ⊢
    simp only [e1, e2] at hb hc k q2 hf' ⊢
    simp [runF, M_law_led, hr, hb, isN, D.isNon, q0, k, hz, neI, hf', bOr, bAndNot, hl, hc, q1, q2, ns_plain, -mR1]
theorem due_iff (w b : Wy) (k : Nat) (sets : Bool) (x : Nat) : dueC w b (2 ^ k) sets x = true ↔ (∀ i, (w.1.testBit i = true → x.testBit i = true) ∧ (w.2.testBit i = true → x.testBit i = false)) ∧ (x.testBit k = !sets) ∧
    ∀ i, (b.1.testBit i = true → (x.testBit i ^^ decide (k = i)) = true) ∧ (b.2.testBit i = true → (x.testBit i ^^ decide (k = i)) = false) := by
  unfold dueC
  rw [Bool.and_eq_true, Bool.and_eq_true, of_iff, of_iff, and_pow]
  simp only [Nat.testBit_xor, Nat.testBit_two_pow]
  have : ((!x.testBit k) == sets) = true ↔ x.testBit k = !sets := by cases x.testBit k <;> cases sets <;> simp
  rw [this]
theorem due_set0 (w b : Wy) (k : Nat) (x : Nat) (h : b.2.testBit k = true) : dueC w b (2 ^ k) true x = false := by
  rw [Bool.eq_false_iff]
  intro d
  rw [due_iff] at d
  have h1 := d.2.1
  have h2 := (d.2.2 k).2 h
  simp at h1
  simp [h1] at h2
theorem due_free0 (w b : Wy) (k : Nat) (x : Nat) (h : b.1.testBit k = true) : dueC w b (2 ^ k) false x = false := by
  rw [Bool.eq_false_iff]
  intro d
  rw [due_iff] at d
  have h1 := d.2.1
  have h2 := (d.2.2 k).1 h
  simp at h1
  simp [h1] at h2
theorem due_set (w b : Wy) (k : Nat) (x : Nat) (h : b.2.testBit k = false) : dueC w b (2 ^ k) true x = ofWy x (w.1 ||| but b.1 (2 ^ k), (w.2 ||| b.2) ||| 2 ^ k) := by
  rw [Bool.eq_iff_iff, due_iff, of_iff]
  simp only [Nat.testBit_or, but_bit, Nat.testBit_two_pow]
  constructor
  · rintro ⟨h1, h2, h3⟩ i
    have a := h1 i
    have c := h3 i
    by_cases e : k = i
    · subst e
      simp at h2
      simp [h2] at a ⊢
      exact a
    · simp [e] at c ⊢
      refine ⟨?_, ?_⟩
      · rintro (z | z)
        · exact a.1 z
        · exact c.1 z
      · rintro (z | z)
        · exact a.2 z
        · exact c.2 z
  · intro h1
    have hk : x.testBit k = false := (h1 k).2 (by simp)
    refine ⟨fun i => ⟨fun z => (h1 i).1 (by simp [z]), fun z => (h1 i).2 (by simp [z])⟩, by simpa using hk, fun i => ?_⟩
    by_cases e : k = i
    · subst e
      simp [hk, h]
    · have a := h1 i
      simp [e] at a ⊢
      exact ⟨fun z => a.1 (.inr z), fun z => a.2 (.inr z)⟩
theorem due_free (w b : Wy) (k : Nat) (x : Nat) (h : b.1.testBit k = false) : dueC w b (2 ^ k) false x = ofWy x ((w.1 ||| b.1) ||| 2 ^ k, w.2 ||| but b.2 (2 ^ k)) := by
  rw [Bool.eq_iff_iff, due_iff, of_iff]
  simp only [Nat.testBit_or, but_bit, Nat.testBit_two_pow]
  constructor
  · rintro ⟨h1, h2, h3⟩ i
    have a := h1 i
    have c := h3 i
    by_cases e : k = i
    · subst e
      simp at h2
      simp [h2] at a ⊢
      exact a
    · simp [e] at c ⊢
      refine ⟨?_, ?_⟩
      · rintro (z | z)
        · exact a.1 z
        · exact c.1 z
      · rintro (z | z)
        · exact a.2 z
        · exact c.2 z
  · intro h1
    have hk : x.testBit k = true := (h1 k).1 (by simp)
    refine ⟨fun i => ⟨fun z => (h1 i).1 (by simp [z]), fun z => (h1 i).2 (by simp [z])⟩, by simpa using hk, fun i => ?_⟩
    by_cases e : k = i
    · subst e
      simp [hk, h]
    · have a := h1 i
      simp [e] at a ⊢
      exact ⟨fun z => a.1 (.inr z), fun z => a.2 (.inr z)⟩
theorem of_fits {s : Nat} {w : Wy} (h : ofWy s w = true) : fits w = true := by
  rw [of_iff] at h
  unfold fits
  rw [beq_iff_eq, dis_iff]
  intro i hi
  have := h i
  cases e : w.1.testBit i
  · rfl
  · have h1 := this.1 e
    have h2 := this.2 hi
    rw [h1] at h2
    cases h2
theorem of_self {w : Wy} (h : fits w = true) : ofWy w.1 w = true := by
  unfold fits at h
  rw [beq_iff_eq, dis_iff] at h
  rw [of_iff]
  exact fun i => ⟨id, h i⟩
theorem lead_due (b w : Wy) (k n : Nat) (sets : Bool) (hk : k < n) (h1 : w.1 < 2 ^ n) (h2 : b.1 < 2 ^ n) :
    match leadW b w (2 ^ k) sets with
    | none => (List.range (2 ^ n)).filter (dueC w b (2 ^ k) sets) = []
    | some v => (List.range (2 ^ n)).filter (dueC w b (2 ^ k) sets) = (List.range (2 ^ n)).filter (fun x => ofWy x v) ∧ (List.range (2 ^ n)).filter (dueC w b (2 ^ k) sets) ≠ [] ∧ fits v = true ∧
        v = if sets = true then (w.1 ||| but b.1 (2 ^ k), (w.2 ||| b.2) ||| 2 ^ k) else ((w.1 ||| b.1) ||| 2 ^ k, w.2 ||| but b.2 (2 ^ k)) := by
  have hp : 2 ^ k < 2 ^ n := Nat.pow_lt_pow_right (by omega) hk
  have main : ∀ v : Wy, (∀ x, dueC w b (2 ^ k) sets x = ofWy x v) → v.1 < 2 ^ n →
      (v = if sets = true then (w.1 ||| but b.1 (2 ^ k), (w.2 ||| b.2) ||| 2 ^ k) else ((w.1 ||| b.1) ||| 2 ^ k, w.2 ||| but b.2 (2 ^ k))) →
      match (if fits v = true then some v else none) with
      | none => (List.range (2 ^ n)).filter (dueC w b (2 ^ k) sets) = []
      | some v => (List.range (2 ^ n)).filter (dueC w b (2 ^ k) sets) = (List.range (2 ^ n)).filter (fun x => ofWy x v) ∧ (List.range (2 ^ n)).filter (dueC w b (2 ^ k) sets) ≠ [] ∧ fits v = true ∧
        v = if sets = true then (w.1 ||| but b.1 (2 ^ k), (w.2 ||| b.2) ||| 2 ^ k) else ((w.1 ||| b.1) ||| 2 ^ k, w.2 ||| but b.2 (2 ^ k)) := by
    intro v hv hl hs
    have e : (List.range (2 ^ n)).filter (dueC w b (2 ^ k) sets) = (List.range (2 ^ n)).filter (fun x => ofWy x v) := List.filter_congr fun x _ => hv x
    by_cases f : fits v = true
    · rw [if_pos f]
      refine ⟨e, ?_, f, hs⟩
      rw [e]
      intro z
      have : v.1 ∈ (List.range (2 ^ n)).filter (fun x => ofWy x v) := by
        rw [List.mem_filter, List.mem_range]
        exact ⟨hl, of_self f⟩
      rw [z] at this
      cases this
    · rw [if_neg f]
      show (List.range (2 ^ n)).filter (dueC w b (2 ^ k) sets) = []
      rw [e, List.filter_eq_nil_iff]
      intro x _ hx
      exact f (of_fits hx)
  unfold leadW
  have bl : but b.1 (2 ^ k) < 2 ^ n := by
    unfold but
    exact Nat.xor_lt_two_pow h2 (Nat.lt_of_le_of_lt Nat.and_le_left h2)
  cases sets
  · rw [and_pow, and_pow]
    cases c : b.1.testBit k
    · exact main _ (fun x => due_free w b k x c) (Nat.or_lt_two_pow (Nat.or_lt_two_pow h1 h2) hp) rfl
    · simp only [Bool.not_true, Bool.false_eq_true, if_false, Option.bind_none]
      rw [List.filter_eq_nil_iff]
      intro x _
      rw [due_free0 w b k x c]
      simp
  · rw [and_pow, and_pow]
    cases c : b.2.testBit k
    · exact main _ (fun x => due_set w b k x c) (Nat.or_lt_two_pow h1 bl) rfl
    · simp only [Bool.not_true, Bool.false_eq_true, if_false, Option.bind_none]
      show (List.range (2 ^ n)).filter (dueC w b (2 ^ k) true) = []
      rw [List.filter_eq_nil_iff]
      intro x _
      rw [due_set0 w b k x c]
      simp
end My

set_option Elab.async false
set_option linter.all false
set_option maxRecDepth 100000
set_option maxHeartbeats 4000000
namespace My
open PySem L2
theorem f_led (b w : Wy) (k n : Nat) (sets : Bool) (hk : k < n) (hn : n ≤ 12) (h1 : w.1 < 2 ^ n) (h2 : b.1 < 2 ^ n) : f_law_led [oW (leadW b w (2 ^ k) sets), wD w, wD b, .int (2 ^ k : Nat), .bl sets, .int n] = some (.sh (.bl true)) := by
  have hm := lead_due b w k n sets hk h1 h2
  have hT : 2 ^ n ≤ sizeLine := by
    rw [sl_big]
    exact Nat.le_trans (Nat.pow_le_pow_right (by omega) hn) (by omega)
  have hr := shl_at n hn
  cases e : leadW b w (2 ^ k) sets with
  | none =>
    rw [e] at hm
    obtain ⟨y7, hb⟩ := led_loop f_law_is_of f_isof (some (.sh .non)) w b (2 ^ k) n sets (List.range (2 ^ n)) [] none (by simpa using hT)
    have hm' : (List.range (2 ^ n)).filter (dueC w b (2 ^ k) sets) = [] := hm
    rw [List.nil_append, hm'] at hb
    exact led_none b_law_led_0 f_law_is_of w b (2 ^ k) n sets _ y7 hr hb
  | some v =>
    rw [e] at hm
    obtain ⟨m1, m2, m3, m4⟩ := hm
    obtain ⟨y7, hb⟩ := led_loop f_law_is_of f_isof (some (.sh (wD v))) w b (2 ^ k) n sets (List.range (2 ^ n)) [] none (by simpa using hT)
    rw [List.nil_append] at hb
    have hc := c_of f_law_is_of f_isof v (2 ^ n)
    rw [← m1] at hc
    exact led_some b_law_led_0 f_law_is_of w b v (2 ^ k) n sets (List.range (2 ^ n)) _ y7 m2 hr (by simpa using hT) hb hc m4 m3
theorem draw_step (c num mix : Int) (k : Nat) (xs : List D) (hx : xs.length < sizeLine) (h0 : 0 ≤ mix) (h1 : mix < 2147483647) (hk : k < 100) : ∃ (v : Nat) (num' mix' : Int), 0 ≤ mix' ∧ mix' < 2147483647 ∧
    b_law_draws_0 [sI c, sI 8, some (.li xs), sI num, sI mix, sI k] = .nx [sI c, sI 8, some (.li (xs ++ [nD v])), sI num', sI mix', sI k] := by
  have n0 : 0 ≤ (mix * 48271 + 7919 * k + 11) % 2147483647 := Int.emod_nonneg _ (by omega)
  have n1 : (mix * 48271 + 7919 * k + 11) % 2147483647 < 2147483647 := Int.emod_lt_of_pos _ (by omega)
  have c1 : cMulB mix 48271 = true := by rw [cMul_iff]; exact .inl ⟨by omega, by omega⟩
  have c2 : cMulB 7919 k = true := by rw [cMul_iff]; exact .inl ⟨by omega, by omega⟩
  generalize hM : (mix * 48271 + 7919 * (k : Int) + 11) % 2147483647 = M at n0 n1
  have c3 : cMulB M M = true := by rw [cMul_iff]; exact .inl ⟨by omega, by omega⟩
  obtain ⟨v1, e1⟩ := Int.eq_ofNat_of_zero_le (Int.emod_nonneg num (show (5040 : Int) ≠ 0 by omega))
  obtain ⟨v2, e2⟩ := Int.eq_ofNat_of_zero_le (Int.emod_nonneg (M * M % 2147483629) (show (5040 : Int) ≠ 0 by omega))
  by_cases d : (c % 2 == 0) = true
  · by_cases e : 0 < num
    · exact ⟨v1, num / 5040, M, n0, n1, by simp [b_law_draws_0, c1, c2, hM, eqI, d, e, hx, e1, D.plain]⟩
    · exact ⟨v2, num, M, n0, n1, by simp [b_law_draws_0, c1, c2, c3, hM, eqI, d, e, hx, e2, D.plain]⟩
  · exact ⟨v2, num, M, n0, n1, by simp [b_law_draws_0, c1, c2, c3, hM, eqI, d, hx, e2, D.plain]⟩
theorem draw_loop (c : Int) : ∀ (ks : List Nat) (vs : List Nat) (num mix : Int) (x5 : Option D), (∀ k ∈ ks, k < 100) → vs.length + ks.length ≤ sizeLine → 0 ≤ mix → mix < 2147483647 → ∃ (ws : List Nat) (num' mix' : Int) (y5 : Option D), ws.length = vs.length + ks.length ∧
    loopM (gN 5) b_law_draws_0 (ks.map nD) [sI c, sI 8, some (.li (vs.map nD)), sI num, sI mix, oD x5] = .nx [sI c, sI 8, some (.li (ws.map nD)), sI num', sI mix', oD y5]
  | [], vs, num, mix, x5, _, _, _, _ => ⟨vs, num, mix, x5, rfl, rfl⟩
  | k :: ks, vs, num, mix, x5, hk, hl, h0, h1 => by
    simp only [List.length_cons] at hl
    obtain ⟨v, num1, mix1, a0, a1, e⟩ := draw_step c num mix k (vs.map nD) (by rw [List.length_map]; omega) h0 h1 (hk k (by simp))
    obtain ⟨ws, num', mix', y5, hw, h⟩ := draw_loop c ks (vs ++ [v]) num1 mix1 (some (.int k)) (fun z hz => hk z (by simp [hz])) (by simp; omega) a0 a1
    refine ⟨ws, num', mix', y5, by simp at hw ⊢; omega, ?_⟩
    rw [List.map_cons, loopM]
    have hg : gN 5 (nD k) [sI c, sI 8, some (.li (vs.map nD)), sI num, sI mix, oD x5] = some [sI c, sI 8, some (.li (vs.map nD)), sI num, sI mix, sI k] := by simp
    rw [hg]
    simp only [e]
    rw [List.map_append] at h
    exact h
theorem draws_core (bd : FSt → Fl) (c : Int) (ws : List Nat) (num' mix' : Int) (y5 : Option D) (h : loopM (gN 5) bd ((List.range 8).map nD) [sI c, sI 8, some (.li []), sI (c / 2), sI (c % 2147483647), none] = .nx [sI c, sI 8, some (.li (ws.map nD)), sI num', sI mix', oD y5]) :
    runF (M_law_draws bd) 2 6 [.int c, .int 8] = some (.li (ws.map nD)) := by
  have hr : fRng [.int 8] = some ((List.range 8).map nD) := rfl
  generalize (List.range 8).map nD = its at hr h
  simp only [sI] at h
  simp [runF, M_law_draws, hr, h]
theorem f_draws (c : Int) : ∃ ws : List Nat, ws.length = 8 ∧ f_law_draws [.int c, .int 8] = some (.li (ws.map nD)) := by
  obtain ⟨ws, num', mix', y5, hw, h⟩ := draw_loop c (List.range 8) [] (c / 2) (c % 2147483647) none (by intro k hk; simp at hk; omega) (by rw [sl_big]; simp) (Int.emod_nonneg _ (by omega)) (Int.emod_lt_of_pos _ (by omega))
  exact ⟨ws, by simpa using hw, draws_core b_law_draws_0 c ws num' mix' y5 h⟩
end My

set_option Elab.async false
set_option linter.all false
set_option maxRecDepth 100000
set_option maxHeartbeats 4000000
namespace My
open PySem L2
theorem seq_nx {a b : FSt → Fl} {S S1 : FSt} {r : Fl} (h : a S = .nx S1) (h2 : b S1 = r) : mSeq a b S = r := by
  unfold mSeq; rw [h]; exact h2
theorem mT (a T : Nat) (hT : 0 < T) : ∃ p : Nat, (a : Int) % (T : Int) = p ∧ p < T := by
  refine ⟨a % T, rfl, Nat.mod_lt _ hT⟩
theorem shl_s (n T : Nat) (hT : oShl (.int 1) (.int n) = some (.int T)) (m : FSt → Option D) (S : FSt) (e : m S = some (.int n)) : m2 oShl (mC (.int 1)) m S = some (.int T) := by
  show ((mC (.int 1) S).bind fun x => (m S).bind fun y => oShl x y) = _
  rw [e]
  exact hT
theorem set_of {i : Nat} {L : List Nat} {m : FSt → Option SV} {S S1 : FSt} {x : SV} (h : m S = some x) (hp : put i L x S = .nx S1) : mSet i L m S = .nx S1 := by
  unfold mSet; rw [h]; exact hp
theorem mSh_of {m : FSt → Option D} {S : FSt} {x : D} (h : m S = some x) : mSh m S = some (.sh x) := by unfold mSh; rw [h]; rfl
theorem but_le (a b : Nat) : but a b ≤ a := by have := but_sub a b; omega
abbrev sW (w : Wy) : Option SV := some (.sh (wD w))
theorem cell_core (fd fl fw fe fg : List D → Option SV) (s0 : Option SV) (c : Int) (x2 : Option SV) (x3 x4 x5 x6 x7 x8 x9 : Option D) (hx2 : lkO x2 = false) (d0 d1 d2 d3 d4 d5 d6 d7 : Nat)
    (hd : fd [.int c, .int 8] = some (.li [nD d0, nD d1, nD d2, nD d3, nD d4, nD d5, nD d6, nD d7]))
    (hfl : ∀ w b : Wy, fl [wD w, wD b] = some (.sh (.bl (inW w b))))
    (hfw : ∀ (w b : Wy) (n : Nat), n ≤ 12 → b.1 < 2 ^ n → b.2 < 2 ^ n → fw [wD w, wD b, .int n] = some (.sh (.bl (inW w b))))
    (hfg : ∀ (b w : Wy) (t : Nat) (sets : Bool), fg [wD b, wD w, .int t, .bl sets] = some (.sh (oW (leadW b w t sets))))
    (hfe : ∀ (b w : Wy) (k n : Nat) (sets : Bool), k < n → n ≤ 12 → w.1 < 2 ^ n → b.1 < 2 ^ n → fe [oW (leadW b w (2 ^ k) sets), wD w, wD b, .int (2 ^ k : Nat), .bl sets, .int n] = some (.sh (.bl true))) :
    ∃ y2 y3 y4 y5 y6 y7 y8 y9, lkO y2 = false ∧ B_law_0 fd fl fw fe fg [s0, sI c, x2, oD x3, oD x4, oD x5, oD x6, oD x7, oD x8, oD x9] = .nx [s0, sI c, y2, oD y3, oD y4, oD y5, oD y6, oD y7, oD y8, oD y9] := by
  have hz : (2 : Nat) ≤ sizeLine := by rw [sl_big]; omega
  let DS : List D := [nD d0, nD d1, nD d2, nD d3, nD d4, nD d5, nD d6, nD d7]
  obtain ⟨n, hn, hn1, hn6⟩ : ∃ n : Nat, 1 + (d0 : Int) % 6 = n ∧ 1 ≤ n ∧ n ≤ 6 := ⟨1 + d0 % 6, by omega, by omega, by omega⟩
  obtain ⟨T, hT⟩ : ∃ T : Nat, T = 2 ^ n := ⟨_, rfl⟩
  have hs := shl1 n (by omega)
  rw [← hT] at hs
  have hT0 : 0 < T := by rw [hT]; exact Nat.pow_pos (by omega)
  obtain ⟨p, hp, hp1⟩ := mT d1 T hT0
  obtain ⟨q, hq, hq1⟩ := mT d2 T hT0
  obtain ⟨r, hr, hr1⟩ := mT d3 T hT0
  obtain ⟨s, hs', hs1⟩ := mT d4 T hT0
  obtain ⟨k, hk, hk1⟩ := mT d5 n hn1
  obtain ⟨t, ht⟩ : ∃ t : Nat, t = 2 ^ k := ⟨_, rfl⟩
  have hs2 := shl1 k (by omega)
  rw [← ht] at hs2
  have P : ∀ (w1 b1 : Wy), w1.1 < T → w1.2 < T → b1.1 < T → b1.2 < T → ∃ (w2 : Wy), w2.1 < T ∧ (mIf (mTruth (m2 oEq (m2 oMod (m2 oIx (mV 2) (mC (.int 7))) (mC (.int 5))) (mC (.int 1))))
      (mSet 5 [5, 6] (mSh (mTup (mCons (m2 oOr (m2 oIx (mV 5) (mC (.int 0))) (m2 oIx (mV 6) (mC (.int 0)))) (mCons (m2 oOr (m2 oIx (mV 5) (mC (.int 1))) (m2 oIx (mV 6) (mC (.int 1)))) mNil)))))
      mPass) [s0, sI c, some (.li DS), sI n, sI T, sW w1, sW b1, oD x7, oD x8, oD x9] = .nx [s0, sI c, some (.li DS), sI n, sI T, sW w2, sW b1, oD x7, oD x8, oD x9] := by
    rintro ⟨p, q⟩ ⟨r, s⟩ h1 h2 h3 h4
    by_cases d : ((d7 : Int) % 5 == 1) = true
    · refine ⟨(p ||| r, q ||| s), ?_, ?_⟩
      · subst hT; exact Nat.or_lt_two_pow h1 h3
      · simp [DS, eqI, d, atI, ixN, wD, bOr, hz, D.plain, D.plains]
    · exact ⟨(p, q), h1, by simp [DS, eqI, d, atI, ixN]⟩
  have P0 : ∃ (w1 b1 : Wy), w1.1 < T ∧ w1.2 < T ∧ b1.1 < T ∧ b1.2 < T ∧ (mIf (mTruth (m2 oGt (m2 oMod (m2 oIx (mV 2) (mC (.int 7))) (mC (.int 3))) (mC (.int 0))))
      (mSeq (mSet 5 [5] (mSh (mTup (mCons (m2 oIx (mV 5) (mC (.int 0))) (mCons (m2 oAnd (m2 oIx (mV 5) (mC (.int 1))) (m1 oInv (m2 oIx (mV 5) (mC (.int 0))))) mNil)))))
       (mSet 6 [6] (mSh (mTup (mCons (m2 oIx (mV 6) (mC (.int 0))) (mCons (m2 oAnd (m2 oIx (mV 6) (mC (.int 1))) (m1 oInv (m2 oIx (mV 6) (mC (.int 0))))) mNil))))))
      mPass) [s0, sI c, some (.li DS), sI n, sI T, sW (p, q), sW (r, s), oD x7, oD x8, oD x9] = .nx [s0, sI c, some (.li DS), sI n, sI T, sW w1, sW b1, oD x7, oD x8, oD x9] := by
    by_cases d : 0 < (d7 : Int) % 3
    · refine ⟨(p, but q p), (r, but s r), hp1, Nat.lt_of_le_of_lt (but_le _ _) hq1, hr1, Nat.lt_of_le_of_lt (but_le _ _) hs1, ?_⟩
      simp [DS, d, atI, ixN, wD, bAndNot, hz, D.plain, D.plains]
    · exact ⟨(p, q), (r, s), hp1, hq1, hr1, hs1, by simp [DS, d, atI, ixN]⟩
  obtain ⟨w1, b1, a1, a2, a3, a4, e6⟩ := P0
  obtain ⟨w2, a5, e7⟩ := P w1 b1 a1 a2 a3 a4
  let sets : Bool := ((d6 : Int) % 2 == 1)
  refine ⟨some (.li DS), some (.int n), some (.int T), some (wD w2), some (wD b1), some (.bl (inW w2 b1)), some (.int t), some (.bl sets), rfl, ?_⟩
  unfold B_law_0
  refine seq_nx (S1 := [s0, sI c, some (.li DS), oD x3, oD x4, oD x5, oD x6, oD x7, oD x8, oD x9]) ?_ ?_
  · simp [hd, hx2, DS, D.plain, D.plains]
  refine seq_nx (S1 := [s0, sI c, some (.li DS), sI n, oD x4, oD x5, oD x6, oD x7, oD x8, oD x9]) ?_ ?_
  · simp [DS, atI, ixN, hn, D.plain]
  refine seq_nx (S1 := [s0, sI c, some (.li DS), sI n, sI T, oD x5, oD x6, oD x7, oD x8, oD x9]) ?_ ?_
  · exact set_of (mSh_of (shl_s n T hs _ _ rfl)) (by simp [D.plain])
  refine seq_nx (S1 := [s0, sI c, some (.li DS), sI n, sI T, sW (p, q), oD x6, oD x7, oD x8, oD x9]) ?_ ?_
  · simp [DS, atI, ixN, hT0, hp, hq, hz, wD, D.plain, D.plains]
  refine seq_nx (S1 := [s0, sI c, some (.li DS), sI n, sI T, sW (p, q), sW (r, s), oD x7, oD x8, oD x9]) ?_ ?_
  · simp [DS, atI, ixN, hT0, hr, hs', hz, wD, D.plain, D.plains]
  refine seq_nx e6 (seq_nx e7 ?_)
  refine seq_nx (S1 := [s0, sI c, some (.li DS), sI n, sI T, sW w2, sW b1, some (.sh (.bl (inW w2 b1))), oD x8, oD x9]) ?_ ?_
  · simp [hfl, D.plain]
  refine seq_nx (S1 := [s0, sI c, some (.li DS), sI n, sI T, sW w2, sW b1, some (.sh (.bl (inW w2 b1))), oD x8, oD x9]) ?_ ?_
  · have h := hfw w2 b1 n (by omega) (by rw [← hT]; exact a3) (by rw [← hT]; exact a4)
    have kb : fIsF tab [.bl (inW w2 b1), .ty "bool"] = some (.sh (.bl true)) := rfl
    simp [h, kb, neB]
  refine seq_nx (S1 := [s0, sI c, some (.li DS), sI n, sI T, sW w2, sW b1, some (.sh (.bl (inW w2 b1))), sI t, oD x9]) ?_ ?_
  · exact set_of (mSh_of (shl_s k t hs2 _ _ (by simp [DS, atI, ixN, hk]; omega))) (by simp [D.plain])
  refine seq_nx (S1 := [s0, sI c, some (.li DS), sI n, sI T, sW w2, sW b1, some (.sh (.bl (inW w2 b1))), sI t, some (.sh (.bl sets))]) ?_ ?_
  · simp [DS, atI, ixN, eqI, D.plain, sets]
  have h := hfe b1 w2 k n sets hk1 (by omega) (by rw [← hT]; exact a5) (by rw [← hT]; exact a3)
  rw [← ht] at h
  simp [hfg, h]
theorem cell_step (s0 : Option SV) (c : Int) (x2 : Option SV) (x3 x4 x5 x6 x7 x8 x9 : Option D) (hx2 : lkO x2 = false) :
    ∃ y2 y3 y4 y5 y6 y7 y8 y9, lkO y2 = false ∧ b_law_0 [s0, sI c, x2, oD x3, oD x4, oD x5, oD x6, oD x7, oD x8, oD x9] = .nx [s0, sI c, y2, oD y3, oD y4, oD y5, oD y6, oD y7, oD y8, oD y9] := by
  obtain ⟨ws, hw, hd⟩ := f_draws c
  match ws, hw, hd with
  | [d0, d1, d2, d3, d4, d5, d6, d7], _, hd => exact cell_core f_law_draws f_lies_within f_law_within f_law_led f_leading s0 c x2 x3 x4 x5 x6 x7 x8 x9 hx2 d0 d1 d2 d3 d4 d5 d6 d7 hd f_lies f_within f_lead f_led
theorem law_loop (s0 : Option SV) : ∀ (cs : List Int) (x2 : Option SV) (x1 x3 x4 x5 x6 x7 x8 x9 : Option D), lkO x2 = false → ∃ y2 y1 y3 y4 y5 y6 y7 y8 y9,
    loopM (gN 1) b_law_0 (cs.map D.int) [s0, oD x1, x2, oD x3, oD x4, oD x5, oD x6, oD x7, oD x8, oD x9] = .nx [s0, oD y1, y2, oD y3, oD y4, oD y5, oD y6, oD y7, oD y8, oD y9]
  | [], x2, x1, x3, x4, x5, x6, x7, x8, x9, _ => ⟨x2, x1, x3, x4, x5, x6, x7, x8, x9, rfl⟩
  | c :: cs, x2, x1, x3, x4, x5, x6, x7, x8, x9, hx => by
    obtain ⟨z2, z3, z4, z5, z6, z7, z8, z9, hz, e⟩ := cell_step s0 c x2 x3 x4 x5 x6 x7 x8 x9 hx
    obtain ⟨y2, y1, y3, y4, y5, y6, y7, y8, y9, h⟩ := law_loop s0 cs z2 (some (.int c)) z3 z4 z5 z6 z7 z8 z9 hz
    refine ⟨y2, y1, y3, y4, y5, y6, y7, y8, y9, ?_⟩
    rw [List.map_cons, loopM]
    have hg : gN 1 (.int c) [s0, oD x1, x2, oD x3, oD x4, oD x5, oD x6, oD x7, oD x8, oD x9] = some [s0, sI c, x2, oD x3, oD x4, oD x5, oD x6, oD x7, oD x8, oD x9] := by simp
    rw [hg]
    simp only [e]
    exact h
theorem law_core (bd : FSt → Fl) (h : ∀ (s0 : Option SV) (cs : List Int), ∃ S, loopM (gN 1) bd (cs.map D.int) [s0, none, none, none, none, none, none, none, none, none] = .nx S) (ns : List Int) (hl : ns.length ≤ 63) : runF (M_law bd) 1 10 [.fz (ns.map D.int)] = some (.sh (.bl true)) := by
  obtain ⟨S, e⟩ := h (some (.sh (.fz (ns.map D.int)))) (cutG ns none (some 40) ++ [6])
  have hc : cutG (ns.map D.int) none (some 40) = (cutG ns none (some 40)).map D.int := by simp [cutG]
  have hl2 : (cutG ns none (some 40)).length ≤ 63 := by simp [cutG]; omega
  have hz : (cutG ns none (some 40)).length + 1 ≤ sizeLine := by rw [sl_big]; omega
  have h1 : (1 : Nat) ≤ sizeLine := by omega
  rw [List.map_append] at e
  have pl : ∀ xs : List Int, D.plains (xs.map D.int) = true := by
    intro xs
    induction xs with
    | nil => rfl
    | cons x xs ih => simp [D.plains, D.plain, ih]
  have pl2 : D.plains ((cutG ns none (some 40)).map D.int ++ [.int 6]) = true := by
    have := pl (cutG ns none (some 40) ++ [6])
    simpa using this
  simp only [List.map_cons, List.map_nil] at e
  simp [runF, M_law, hc, h1, hz, e, pl2, itemsD]
theorem law_true (ns : List Int) (hl : ns.length ≤ 63) : f_law [.fz (ns.map D.int)] = some (.sh (.bl true)) := by
  refine law_core b_law_0 (fun s0 cs => ?_) ns hl
  obtain ⟨y2, y1, y3, y4, y5, y6, y7, y8, y9, h⟩ := law_loop s0 cs none none none none none none none none none rfl
  exact ⟨_, h⟩
end My

set_option Elab.async false
set_option linter.all false
set_option maxRecDepth 100000
set_option maxHeartbeats 4000000
namespace My
open PySem L2

section
variable {P : Program} {w : World} {K : PySem.W.Frag} {mg : Str → Option Value} {base : Heap} {A : Adr}
theorem ok_law' (T : Txt K mg A) : FnOk P w K mg base CX0 3 A.f_law A.d_law ["_law_script"] (sp_law K) := (ok_law T).imp (sp_law_of (B := bk K A) rfl law_true)
end
theorem all_mk {l : PySem.W.OpenLaw} {w : World} {K : PySem.W.Frag} {h : Heap} {mg : Str → Option Value} {fa : Addr} (X : K.In h) (G : h.Ns mainGlobals mg) (hfa : mg "law" = some (.ref fa))
    {f0 : Addr} {od0 an0 : Option Addr} {sl0 : Array (Option Value)} {oc0 kV0 dc0 pm0 cd0 ct0 : Value}
    {f1 : Addr} {od1 an1 : Option Addr} {sl1 : Array (Option Value)} {oc1 kV1 dc1 pm1 cd1 ct1 : Value}
    {f2 : Addr} {od2 an2 : Option Addr} {sl2 : Array (Option Value)} {oc2 kV2 dc2 pm2 cd2 ct2 : Value}
    {f3 : Addr} {od3 an3 : Option Addr} {sl3 : Array (Option Value)} {oc3 kV3 dc3 pm3 cd3 ct3 : Value}
    {f4 : Addr} {od4 an4 : Option Addr} {sl4 : Array (Option Value)} {oc4 kV4 dc4 pm4 cd4 ct4 : Value}
    {f5 : Addr} {od5 an5 : Option Addr} {sl5 : Array (Option Value)} {oc5 kV5 dc5 pm5 cd5 ct5 : Value}
    {f6 : Addr} {od6 an6 : Option Addr} {sl6 : Array (Option Value)} {oc6 kV6 dc6 pm6 cd6 ct6 : Value}
    {f7 : Addr} {od7 an7 : Option Addr} {sl7 : Array (Option Value)} {oc7 kV7 dc7 pm7 cd7 ct7 : Value}
    {f8 : Addr} {od8 an8 : Option Addr} {sl8 : Array (Option Value)} {oc8 kV8 dc8 pm8 cd8 ct8 : Value}
    (a0 : PySem.W.nsIn K mainGlobals "_law_draws" = some (some (.ref f0)))
    (l0 : K.lookup f0 = some ⟨oc0, od0, .func (PySem.W.fnOf "_law_draws" "_law_draws" (defArgs s_law_draws) (defBody s_law_draws) (defScope s_law_draws) .none kV0 dc0 pm0 an0 cd0 ct0), sl0⟩)
    (c0 : PySem.W.codeIn K cd0 "_law_draws" = true)
    (k0 : PySem.W.keepIn K (.ref f0) = true)
    (a1 : PySem.W.nsIn K mainGlobals "lies_within" = some (some (.ref f1)))
    (l1 : K.lookup f1 = some ⟨oc1, od1, .func (PySem.W.fnOf "lies_within" "lies_within" (defArgs s_lies_within) (defBody s_lies_within) (defScope s_lies_within) .none kV1 dc1 pm1 an1 cd1 ct1), sl1⟩)
    (c1 : PySem.W.codeIn K cd1 "lies_within" = true)
    (k1 : PySem.W.keepIn K (.ref f1) = true)
    (a2 : PySem.W.nsIn K mainGlobals "_law_is_of" = some (some (.ref f2)))
    (l2 : K.lookup f2 = some ⟨oc2, od2, .func (PySem.W.fnOf "_law_is_of" "_law_is_of" (defArgs s_law_is_of) (defBody s_law_is_of) (defScope s_law_is_of) .none kV2 dc2 pm2 an2 cd2 ct2), sl2⟩)
    (c2 : PySem.W.codeIn K cd2 "_law_is_of" = true)
    (k2 : PySem.W.keepIn K (.ref f2) = true)
    (a3 : PySem.W.nsIn K mainGlobals "_law_led" = some (some (.ref f3)))
    (l3 : K.lookup f3 = some ⟨oc3, od3, .func (PySem.W.fnOf "_law_led" "_law_led" (defArgs s_law_led) (defBody s_law_led) (defScope s_law_led) .none kV3 dc3 pm3 an3 cd3 ct3), sl3⟩)
    (c3 : PySem.W.codeIn K cd3 "_law_led" = true)
    (k3 : PySem.W.keepIn K (.ref f3) = true)
    (a4 : PySem.W.nsIn K mainGlobals "_law_bits" = some (some (.ref f4)))
    (l4 : K.lookup f4 = some ⟨oc4, od4, .func (PySem.W.fnOf "_law_bits" "_law_bits" (defArgs s_law_bits) (defBody s_law_bits) (defScope s_law_bits) .none kV4 dc4 pm4 an4 cd4 ct4), sl4⟩)
    (c4 : PySem.W.codeIn K cd4 "_law_bits" = true)
    (k4 : PySem.W.keepIn K (.ref f4) = true)
    (a5 : PySem.W.nsIn K mainGlobals "_law_within" = some (some (.ref f5)))
    (l5 : K.lookup f5 = some ⟨oc5, od5, .func (PySem.W.fnOf "_law_within" "_law_within" (defArgs s_law_within) (defBody s_law_within) (defScope s_law_within) .none kV5 dc5 pm5 an5 cd5 ct5), sl5⟩)
    (c5 : PySem.W.codeIn K cd5 "_law_within" = true)
    (k5 : PySem.W.keepIn K (.ref f5) = true)
    (a6 : PySem.W.nsIn K mainGlobals "is_nothing" = some (some (.ref f6)))
    (l6 : K.lookup f6 = some ⟨oc6, od6, .func (PySem.W.fnOf "is_nothing" "is_nothing" (defArgs s_is_nothing) (defBody s_is_nothing) (defScope s_is_nothing) .none kV6 dc6 pm6 an6 cd6 ct6), sl6⟩)
    (c6 : PySem.W.codeIn K cd6 "is_nothing" = true)
    (k6 : PySem.W.keepIn K (.ref f6) = true)
    (a7 : PySem.W.nsIn K mainGlobals "leading" = some (some (.ref f7)))
    (l7 : K.lookup f7 = some ⟨oc7, od7, .func (PySem.W.fnOf "leading" "leading" (defArgs s_leading) (defBody s_leading) (defScope s_leading) .none kV7 dc7 pm7 an7 cd7 ct7), sl7⟩)
    (c7 : PySem.W.codeIn K cd7 "leading" = true)
    (k7 : PySem.W.keepIn K (.ref f7) = true)
    (a8 : PySem.W.nsIn K mainGlobals "law" = some (some (.ref f8)))
    (l8 : K.lookup f8 = some ⟨oc8, od8, .func (PySem.W.fnOf "law" "law" (defArgs s_law) (defBody s_law) (defScope s_law) .none kV8 dc8 pm8 an8 cd8 ct8), sl8⟩)
    (c8 : PySem.W.codeIn K cd8 "law" = true)
    (k8 : PySem.W.keepIn K (.ref f8) = true)
    (hn : PySem.W.specialIn K (.builtin "object.__class__") "__get__" = some (some (.builtin "getset_descriptor.__get__")))
    (htk : PySem.W.takesIn K (.builtin "object.__class__") = some true)
    (z_bool : PySem.W.nsIn K mainGlobals "bool" = some none)
    (z_isinstance : PySem.W.nsIn K mainGlobals "isinstance" = some none)
    (z_len : PySem.W.nsIn K mainGlobals "len" = some none)
    (z_list : PySem.W.nsIn K mainGlobals "list" = some none)
    (z_range : PySem.W.nsIn K mainGlobals "range" = some none)
    (z_tuple : PySem.W.nsIn K mainGlobals "tuple" = some none) :
    ∃ fd : FuncData, (∀ (s : Shared) (v : Value), BindsTo s fd ⟨[v], []⟩ [("_law_script", v)]) ∧ ∀ base : Heap, K.In base → base.Ns mainGlobals mg → FnOk l.prog w K mg base CX0 3 fa fd ["_law_script"] (sp_law K) := by
  have e := hfa.symm.trans (PySem.W.mg_of X G a8)
  have e2 : f8 = fa := by
    injection e with e
    injection e with e
    exact e.symm
  subst e2
  have T : Txt K mg ⟨f0, PySem.W.fnOf "_law_draws" "_law_draws" (defArgs s_law_draws) (defBody s_law_draws) (defScope s_law_draws) .none kV0 dc0 pm0 an0 cd0 ct0, f1, PySem.W.fnOf "lies_within" "lies_within" (defArgs s_lies_within) (defBody s_lies_within) (defScope s_lies_within) .none kV1 dc1 pm1 an1 cd1 ct1, f2, PySem.W.fnOf "_law_is_of" "_law_is_of" (defArgs s_law_is_of) (defBody s_law_is_of) (defScope s_law_is_of) .none kV2 dc2 pm2 an2 cd2 ct2, f3, PySem.W.fnOf "_law_led" "_law_led" (defArgs s_law_led) (defBody s_law_led) (defScope s_law_led) .none kV3 dc3 pm3 an3 cd3 ct3, f4, PySem.W.fnOf "_law_bits" "_law_bits" (defArgs s_law_bits) (defBody s_law_bits) (defScope s_law_bits) .none kV4 dc4 pm4 an4 cd4 ct4, f5, PySem.W.fnOf "_law_within" "_law_within" (defArgs s_law_within) (defBody s_law_within) (defScope s_law_within) .none kV5 dc5 pm5 an5 cd5 ct5, f6, PySem.W.fnOf "is_nothing" "is_nothing" (defArgs s_is_nothing) (defBody s_is_nothing) (defScope s_is_nothing) .none kV6 dc6 pm6 an6 cd6 ct6, f7, PySem.W.fnOf "leading" "leading" (defArgs s_leading) (defBody s_leading) (defScope s_leading) .none kV7 dc7 pm7 an7 cd7 ct7, f8, PySem.W.fnOf "law" "law" (defArgs s_law) (defBody s_law) (defScope s_law) .none kV8 dc8 pm8 an8 cd8 ct8⟩ := ⟨fun_mk (st := s_law_draws) l0 c0 k0, PySem.W.mg_of X G a0, fun_mk (st := s_lies_within) l1 c1 k1, PySem.W.mg_of X G a1, fun_mk (st := s_law_is_of) l2 c2 k2, PySem.W.mg_of X G a2, fun_mk (st := s_law_led) l3 c3 k3, PySem.W.mg_of X G a3, fun_mk (st := s_law_bits) l4 c4 k4, PySem.W.mg_of X G a4, fun_mk (st := s_law_within) l5 c5 k5, PySem.W.mg_of X G a5, fun_mk (st := s_is_nothing) l6 c6 k6, PySem.W.mg_of X G a6, fun_mk (st := s_leading) l7 c7 k7, PySem.W.mg_of X G a7, fun_mk (st := s_law) l8 c8 k8, PySem.W.mg_of X G a8, PySem.W.mg_none_of X G z_bool, PySem.W.mg_none_of X G z_isinstance, PySem.W.mg_none_of X G z_len, PySem.W.mg_none_of X G z_list, PySem.W.mg_none_of X G z_range, PySem.W.mg_none_of X G z_tuple⟩
  exact ⟨_, fun s v => .of_eq rfl, fun base _ _ => ok_law' T⟩
theorem walk {l : PySem.W.OpenLaw} {q : Program} {loose : List Str} {XP : (Str → Option Value) → Heap → Prop} {YP : World → Heap → Prop} {d : DefRec} {K : Params → PySem.W.Frag} (hn : l.most = some 63) (hdf : d.params.defaults = [])
    (hY : ∀ (w : World) (h : Heap), YP w h → (K w.params).In h)
    (F : ∀ (w : World) (mg : Str → Option Value) (fa : Addr) (h : Heap), (K w.params).In h → h.Ns mainGlobals mg → mg d.name = some (.ref fa) →
      ∃ fd : FuncData, (∀ (s : Shared) (u : Value), BindsTo s fd ⟨[u], []⟩ [("_law_script", u)]) ∧ ∀ base : Heap, (K w.params).In base → base.Ns mainGlobals mg → FnOk l.prog w (K w.params) mg base CX0 3 fa fd ["_law_script"] (sp_law (K w.params))) :
    PySem.W.WalkO q loose XP YP l.row.toRowW d [] (fun f vs => PySem.call f vs) :=
  L2.walk_of (n := 63) (k := 3) (x := "_law_script") (CX := fun _ => CX0) (sp := fun w => sp_law (K w.params)) hn (by decide) hdf ⟨rfl, by decide, by decide⟩ hY F (fun _ _ a ns hl hO hS => ⟨a, ns, rfl, hS, hO, hl, fun _ => rfl⟩) fun _ _ _ _ _ z => z
end My
open PySem PySem.W PyProof.Rows
set_option maxRecDepth 100000 in
set_option maxHeartbeats 0 in
theorem PySem.Challenge.cw_mightever_k51_bans_and_ways_holds : PySem.Challenge.rw_mightever_k51_bans_and_ways.Holds := by
  w_on; o_law; k_head; (case hw => w_witness2)
  k_fill
  refine My.walk (l := PySem.Challenge.rw_mightever_k51_bans_and_ways) rfl rfl (fun w h Y => PySem.W.kIn_of Y) ?F
  case F =>
    intro w mg fa h KX G hmg
    refine' My.all_mk KX G hmg ?a0 ?l0 ?c0 ?k0 ?a1 ?l1 ?c1 ?k1 ?a2 ?l2 ?c2 ?k2 ?a3 ?l3 ?c3 ?k3 ?a4 ?l4 ?c4 ?k4 ?a5 ?l5 ?c5 ?k5 ?a6 ?l6 ?c6 ?k6 ?a7 ?l7 ?c7 ?k7 ?a8 ?l8 ?c8 ?k8 ?hn ?htk ?z_bool ?z_isinstance ?z_len ?z_list ?z_range ?z_tuple
    (case a0 => k_is)
    (case l0 => k_is)
    (case c0 => k_is)
    (case k0 => k_is)
    (case a1 => k_is)
    (case l1 => k_is)
    (case c1 => k_is)
    (case k1 => k_is)
    (case a2 => k_is)
    (case l2 => k_is)
    (case c2 => k_is)
    (case k2 => k_is)
    (case a3 => k_is)
    (case l3 => k_is)
    (case c3 => k_is)
    (case k3 => k_is)
    (case a4 => k_is)
    (case l4 => k_is)
    (case c4 => k_is)
    (case k4 => k_is)
    (case a5 => k_is)
    (case l5 => k_is)
    (case c5 => k_is)
    (case k5 => k_is)
    (case a6 => k_is)
    (case l6 => k_is)
    (case c6 => k_is)
    (case k6 => k_is)
    (case a7 => k_is)
    (case l7 => k_is)
    (case c7 => k_is)
    (case k7 => k_is)
    (case a8 => k_is)
    (case l8 => k_is)
    (case c8 => k_is)
    (case k8 => k_is)
    (case hn => k_is)
    (case htk => k_is)
    (case z_bool => k_is)
    (case z_isinstance => k_is)
    (case z_len => k_is)
    (case z_list => k_is)
    (case z_range => k_is)
    (case z_tuple => k_is)
#print axioms PySem.Challenge.cw_mightever_k51_bans_and_ways_holds

