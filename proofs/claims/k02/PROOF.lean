import PyProof.Rows.All
import Wide.All
import OpenK.AllK
import Wide.FinOn
import Lean
import PyProof.EqAt
import PyProof.EqKinds
import PyProof.TupleCall
import PySem.Challenge.RW_hoistworks_k02_hoists
set_option Elab.async false
set_option linter.all false
set_option maxRecDepth 100000
set_option maxHeartbeats 4000000
/-! THE HAND LAYER, for ints, bools, texts, own classes, LISTS and tuples (index, slices, in, append, pop ..), calls, loops. Paste it whole ahead of your own text; what your proof does not reach may be deleted. -/
namespace L2
open PySem PySem.Spec PyProof.Rows

/-- a key: an int or a str -/
abbrev Key := Sum Int Str
def keyIs : Key → Value → Bool
  | .inl k, v => Value.isInt k v
  | .inr x, v => Value.isStrOf x v
def keyH (w : World) : Key → Int
  | .inl k => hashInt k
  | .inr x => hashStr w x
theorem keyIs_shape : ∀ {k : Key} {v : Value}, keyIs k v = true → (∃ i t, k = Sum.inl i ∧ v = Value.int i t) ∨ (∃ x t, k = Sum.inr x ∧ v = Value.str x t)
  | .inl i, v, h => by
    obtain ⟨t, e⟩ := Value.isInt_shape (k := i) (v := v) h
    exact .inl ⟨i, t, rfl, e⟩
  | .inr x, v, h => by
    obtain ⟨t, e⟩ := Value.isStrOf_shape (x := x) (v := v) h
    exact .inr ⟨x, t, rfl, e⟩
theorem keyIs_int (i : Int) (t : Tok) : keyIs (.inl i) (.int i t) = true := by simp [keyIs, Value.isInt]
theorem keyIs_str (x : Str) (t : Tok) : keyIs (.inr x) (.str x t) = true := by simp [keyIs, Value.isStrOf]
theorem key_ll (a b : Int) : decide ((Sum.inl a : Key) = Sum.inl b) = (a == b) := by
  by_cases e : a = b
  · subst e; simp
  · have h : ¬ (Sum.inl a : Key) = Sum.inl b := fun q => e (Sum.inl.inj q)
    rw [decide_eq_false h]
    exact (beq_eq_false_iff_ne.mpr e).symm
theorem key_rr (a b : Str) : decide ((Sum.inr a : Key) = Sum.inr b) = decide (a = b) := by
  by_cases e : a = b
  · subst e; simp
  · have h : ¬ (Sum.inr a : Key) = Sum.inr b := fun q => e (Sum.inr.inj q)
    rw [decide_eq_false h, decide_eq_false e]
theorem key_lr (a : Int) (b : Str) : decide ((Sum.inl a : Key) = Sum.inr b) = false := decide_eq_false (fun q => nomatch q)
theorem key_rl (a : Str) (b : Int) : decide ((Sum.inr a : Key) = Sum.inl b) = false := decide_eq_false (fun q => nomatch q)

def mixKind (prog : Program) (w : World) : PySem.KeyKind prog w Key where
  is := keyIs
  hash := keyH w
  inj := fun v a b ha hb => by
    rcases keyIs_shape ha with ⟨i, t, rfl, rfl⟩ | ⟨x, t, rfl, rfl⟩
    · rcases keyIs_shape hb with ⟨j, u, rfl, e⟩ | ⟨y, u, rfl, e⟩
      · injection e with e1 _; rw [e1]
      · exact nomatch e
    · rcases keyIs_shape hb with ⟨j, u, rfl, e⟩ | ⟨y, u, rfl, e⟩
      · exact nomatch e
      · injection e with e1 _; rw [e1]
  byValue := fun k v h => by
    rcases keyIs_shape h with ⟨i, t, rfl, rfl⟩ | ⟨x, t, rfl, rfl⟩ <;> rfl
  pyHash := fun hv h => by
    rcases keyIs_shape hv with ⟨i, t, rfl, rfl⟩ | ⟨x, t, rfl, rfl⟩
    · exact wpAny_pyHash_int h
    · exact wpAny_pyHash_str h
  eqBool := fun hu hv h => by
    rcases keyIs_shape hu with ⟨i, t, rfl, rfl⟩ | ⟨x, t, rfl, rfl⟩
    · rcases keyIs_shape hv with ⟨j, u, rfl, rfl⟩ | ⟨y, u, rfl, rfl⟩
      · rw [key_ll] at h; exact wpAny_eqBool_int h
      · rw [key_lr] at h; exact SeqAt.EqAt.int_str i t y u _ _ _ _ h
    · rcases keyIs_shape hv with ⟨j, u, rfl, rfl⟩ | ⟨y, u, rfl, rfl⟩
      · rw [key_rl] at h; exact SeqAt.EqAt.str_int x t j u _ _ _ _ h
      · rw [key_rr] at h; exact wpAny_eqBool_str h
  «strs» := fun k x t v h => by
    rcases keyIs_shape h with ⟨i, u, rfl, e⟩ | ⟨y, u, rfl, e⟩
    · exact nomatch e
    · injection e with e1 _
      subst e1
      cases v <;> rfl

theorem mixKind_is (prog : Program) (w : World) (k : Key) (v : Value) : (mixKind prog w).is k v = keyIs k v := rfl
theorem mixKind_int (prog : Program) (w : World) (i : Int) (t : Tok) : (mixKind prog w).is (.inl i) (.int i t) = true := keyIs_int i t
theorem mixKind_str (prog : Program) (w : World) (x : Str) (t : Tok) : (mixKind prog w).is (.inr x) (.str x t) = true := keyIs_str x t
end L2

namespace L2
open PySem PySem.Spec PyProof.Rows

/-- a value, without the heap -/
inductive V where
  | non | bl (b : Bool) | int (i : Int) | str (x : Str) | byt (b : Array UInt8) | flt (b : UInt64) | ref (a : Addr) | ty (n : String)
  deriving DecidableEq

def RelV : V → Value → Prop
  | .non, u => u = Value.none
  | .bl b, u => u = Value.bool b
  | .int i, u => ∃ t, u = Value.int i t
  | .str x, u => ∃ t, u = Value.str x t
  | .byt b, u => ∃ t, u = Value.bytes b t
  | .flt b, u => ∃ t, u = Value.float b t
  | .ref a, u => u = Value.ref a
  | .ty n, u => u = Value.type n

abbrev Vals : List V → List Value → Prop := Paired RelV
theorem Vals.length {xs : List V} {us : List Value} (r : Vals xs us) : xs.length = us.length := Paired.length r
theorem Vals.get : ∀ {xs : List V} {us : List Value} {i : Nat} {x : V}, Vals xs us → xs[i]? = some x → ∃ u, us[i]? = some u ∧ RelV x u
  | _, _, _, _, .nil, e => by simp at e
  | _, _, 0, _, .cons r _, e => by simp at e; subst e; exact ⟨_, rfl, r⟩
  | _, _, i + 1, x, .cons _ t, e => by
    obtain ⟨u, h1, h2⟩ := Vals.get (i := i) (x := x) t (by simpa using e)
    exact ⟨u, by simpa using h1, h2⟩
theorem Vals.set {x : V} {u : Value} (r : RelV x u) : ∀ {xs : List V} {us : List Value} (i : Nat), Vals xs us → Vals (xs.set i x) (us.set i u)
  | _, _, _, .nil => .nil
  | _, _, 0, .cons _ t => .cons r t
  | _, _, i + 1, .cons q t => .cons q (Vals.set r i t)
theorem Vals.append : ∀ {xs ys : List V} {us ws : List Value}, Vals xs us → Vals ys ws → Vals (xs ++ ys) (us ++ ws)
  | _, _, _, _, .nil, s => s
  | _, _, _, _, .cons r t, s => .cons r (Vals.append t s)
theorem Vals.take : ∀ {xs : List V} {us : List Value} (n : Nat), Vals xs us → Vals (xs.take n) (us.take n)
  | _, _, 0, _ => .nil
  | _, _, _ + 1, .nil => .nil
  | _, _, n + 1, .cons r t => .cons r (Vals.take n t)
theorem Vals.drop : ∀ {xs : List V} {us : List Value} (n : Nat), Vals xs us → Vals (xs.drop n) (us.drop n)
  | _, _, 0, r => r
  | _, _, _ + 1, .nil => .nil
  | _, _, n + 1, .cons _ t => Vals.drop n t
theorem Vals.none_of : ∀ {xs : List V} {us : List Value} {i : Nat}, Vals xs us → xs[i]? = none → us[i]? = none := fun {xs us i} r e => by
  have h1 := r.length
  have h2 : xs.length ≤ i := List.getElem?_eq_none_iff.mp e
  exact List.getElem?_eq_none_iff.mpr (by omega)

def RelO : Option V → Option Value → Prop
  | some v, some u => RelV v u
  | none, none => True
  | _, _ => False
def KV {κ : Type} : List (κ × V) → List (κ × Value) → Prop := Paired fun (p : κ × V) (q : κ × Value) => p.1 = q.1 ∧ RelV p.2 q.2

/-- a key of a dict (00_mix): an int or a text -/
def kV : Key → V
  | .inl i => .int i
  | .inr x => .str x

/-- what stands at a tracked address -/
inductive HO where
  /-- a list -/
  | lst (xs : List V)
  /-- a tuple (never changes) -/
  | tup (xs : List V)
  /-- a dict whose keys are ints and texts; one whose keys are tuples of ints and texts (the empty one is both) -/
  | dK (kvs : List (Key × V)) | dT (kvs : List (List Key × V))
  /-- a set of ints: its members, its size -/
  | set (S : Int → Bool) (n : Nat)
  /-- an instance of the class at C, its dict at dx, its attributes -/
  | ins (C dx : Addr) (fs : List (Str × V))
  /-- the dict of the instance at x -/
  | own (x : Addr)
  /-- the dict of an exception -/
  | xd (fs : List (Str × V))
  /-- a bound method, f of x -/
  | met (f x : Addr)
  /-- a range object lo, lo + 1, .. below hi -/
  | rng (lo hi : Int)
  /-- a thing that is known to the object (the script; a dict while a loop walks it): read, never written while it is so -/
  | frz (o : Obj) (u : HO)
  /-- a code object's table -/
  | tbl (ps : Array Value)
  /-- any other thing, by what is true of its one object (a def of one's own: SetO a S n := HO.ext fun h => ..) -/
  | ext (φ : Heap → Prop)

abbrev Hp := Addr → Option HO
def upd (H : Hp) (a : Addr) (o : HO) : Hp := fun b => if b = a then some o else H b
theorem upd_same {H : Hp} {a : Addr} {o : HO} : upd H a o a = some o := by unfold upd; rw [if_pos rfl]
theorem upd_ne {H : Hp} {a b : Addr} {o : HO} (h : b ≠ a) : upd H a o b = H b := by unfold upd; rw [if_neg h]
theorem upd_upd {H : Hp} {a : Addr} {o u : HO} : upd (upd H a o) a u = upd H a u := by
  funext b; unfold upd; split <;> rfl
/-- two objects of different content stand apart -/
theorem ne_of {H : Hp} {a b : Addr} {o u : HO} (h : H a = some o) (h' : H b = some u) (d : o ≠ u) : a ≠ b := by
  intro e; subst e; rw [h] at h'; exact d (Option.some.inj h')
theorem ne_of_none {H : Hp} {a b : Addr} {o : HO} (h : H a = some o) (h' : H b = none) : a ≠ b := by
  intro e; subst e; rw [h] at h'; cases h'

section
variable (P : Program) (w : World)
def ObjOk (H : Hp) (h : Heap) (a : Addr) : HO → Prop
  | .lst xs => xs.length ≤ sizeLine ∧ ∃ (its : List Value) (n : Nat), Vals xs its ∧ h.get? a = some { cls := .type "list", data := .seq its.toArray n }
  | .tup xs => xs.length ≤ sizeLine ∧ ∃ its : List Value, Vals xs its ∧ IsTup h a its.toArray
  | .dK kvs => kvs.length ≤ sizeLine ∧ (a == sysModules) = false ∧ ∃ vs, KV kvs vs ∧ h.DictOf (mixKind P w) a vs
  | .dT kvs => kvs.length ≤ sizeLine ∧ (a == sysModules) = false ∧ ∃ xs : List (List Key × Addr × Value),
      Paired (fun (p : List Key × V) (q : List Key × Addr × Value) => p.1 = q.1 ∧ H q.2.1 = some (.tup (p.1.map kV)) ∧ RelV p.2 q.2.2) kvs xs ∧
      ∃ o es ep, h.get? a = some o ∧ o.ExactDict ∧ o.data = .dict es ep ∧ es.toList = xs.map (entryOfKey (tupleKind (mixKind P w))) ∧ (xs.map (·.1)).Nodup
  | .set S n => h.SetOf (intKind P w) a S n
  | .ins C dx fs => H dx = some (.own a) ∧ fs.length ≤ 1000 ∧ dx ≠ a ∧ h.get? a = some (PySem.W.instObj C dx) ∧
      ∃ mA, h.Ns1 dx mA ∧ (∀ f, RelO (fs.lookup f) (mA f)) ∧ PySem.Within mA (fs.map (·.1))
  | .own _ => ∃ o, h.get? a = some o
  | .xd fs => ∃ mA, h.Ns1 a mA ∧ ∀ f, RelO (fs.lookup f) (mA f)
  | .rng lo hi => ∃ t u v, h.get? a = some { cls := .type "range", data := .fields #[.int lo t, .int hi u, .int 1 v] }
  | .frz o u => h.get? a = some o ∧ ObjOk H h a u
  | .tbl ps => h.get? a = some { cls := .none, data := .fields ps }
  | .met f x => h.get? a = some (PySem.W.methodObj (.ref f) (.ref x))
  | .ext φ => φ h ∧ (∃ o, h.get? a = some o) ∧ ∀ h1 h2 : Heap, φ h1 → (∀ o, h1.get? a = some o → h2.get? a = some o) → φ h2
/-- the abstract heap is held -/
def HOk (H : Hp) (h : Heap) : Prop := ∀ a o, H a = some o → ObjOk P w H h a o
end

section
variable {P : Program} {w : World} {H H' : Hp} {h h' : Heap} {a : Addr} {o : HO}
theorem ObjOk.lt (x : ObjOk P w H h a o) : a < h.objs.size := by
  cases o with
  | lst xs => obtain ⟨_, _, _, _, e⟩ := x; exact Heap.lt_size e
  | tup xs => obtain ⟨_, _, _, p⟩ := x; exact p.lt
  | dK kvs => obtain ⟨_, _, _, _, o, _, _, e, _⟩ := x; exact Heap.lt_size e
  | dT kvs => obtain ⟨_, _, _, _, o, _, _, e, _⟩ := x; exact Heap.lt_size e
  | set S n => obtain ⟨o, _, _, _, e, _⟩ := x; exact Heap.lt_size e
  | ins C dx fs => obtain ⟨_, _, _, e, _⟩ := x; exact Heap.lt_size e
  | own y => obtain ⟨_, e⟩ := x; exact Heap.lt_size e
  | xd fs => obtain ⟨_, ⟨_, _, _, e, _⟩, _⟩ := x; exact Heap.lt_size e
  | rng lo hi => obtain ⟨_, _, _, e⟩ := x; exact Heap.lt_size e
  | frz ob u => obtain ⟨e, _⟩ := x; exact Heap.lt_size e
  | tbl ps => exact Heap.lt_size (show h.get? a = some _ from x)
  | met f y => exact Heap.lt_size (show h.get? a = some _ from x)
  | ext φ => obtain ⟨_, ⟨_, e⟩, _⟩ := x; exact Heap.lt_size e
theorem Paired.mapP {α β : Type} {F G : α → β → Prop} : ∀ {l₁ : List α} {l₂ : List β}, Paired F l₁ l₂ → (∀ a b, F a b → G a b) → Paired G l₁ l₂
  | _, _, .nil, _ => .nil
  | _, _, .cons r t, f => .cons (f _ _ r) (Paired.mapP t f)
theorem Paired.imp' {α β : Type} {F G : α → β → Prop} (f : ∀ a b, F a b → G a b) {l₁ : List α} {l₂ : List β} (r : Paired F l₁ l₂) : Paired G l₁ l₂ := Paired.mapP r f
/-- what an object's description leans on: its own object, its own dict, the tuples -/
theorem ObjOk.stay (x : ObjOk P w H h a o) (k : ∀ b u, (b = a ∨ H b = some (.own a)) → h.get? b = some u → h'.get? b = some u)
    (ho : ∀ b, H b = some (.own a) → H' b = some (.own a)) (ht : ∀ b xs, H b = some (.tup xs) → H' b = some (.tup xs)) : ObjOk P w H' h' a o := by
  induction o with
  | lst xs => obtain ⟨z, its, n, r, e⟩ := x; exact ⟨z, its, n, r, k _ _ (.inl rfl) e⟩
  | tup xs => obtain ⟨z, its, r, ob, e, c⟩ := x; exact ⟨z, its, r, ob, k _ _ (.inl rfl) e, c⟩
  | dK kvs => obtain ⟨z, y, vs, r, ob, es, ep, e, c⟩ := x; exact ⟨z, y, vs, r, ob, es, ep, k _ _ (.inl rfl) e, c⟩
  | dT kvs =>
    obtain ⟨z, y, xs, r, ob, es, ep, e, c⟩ := x
    exact ⟨z, y, xs, Paired.mapP r fun p q z => ⟨z.1, ht _ _ z.2.1, z.2.2⟩, ob, es, ep, k _ _ (.inl rfl) e, c⟩
  | set S n => obtain ⟨ob, es, ep, t, e, c⟩ := x; exact ⟨ob, es, ep, t, k _ _ (.inl rfl) e, c⟩
  | ins C dx fs =>
    obtain ⟨d, z, ne, e, mA, ⟨od, es, ep, e2, c⟩, r⟩ := x
    exact ⟨ho _ d, z, ne, k _ _ (.inl rfl) e, mA, ⟨od, es, ep, k _ _ (.inr d) e2, c⟩, r⟩
  | own y => obtain ⟨ob, e⟩ := x; exact ⟨ob, k _ _ (.inl rfl) e⟩
  | xd fs => obtain ⟨mA, ⟨od, es, ep, e, c⟩, r⟩ := x; exact ⟨mA, ⟨od, es, ep, k _ _ (.inl rfl) e, c⟩, r⟩
  | rng lo hi => obtain ⟨t, u, v, e⟩ := x; exact ⟨t, u, v, k _ _ (.inl rfl) e⟩
  | frz ob u ih => obtain ⟨e, q⟩ := x; exact ⟨k _ _ (.inl rfl) e, ih q⟩
  | tbl ps =>
    have e : h.get? a = some { cls := .none, data := .fields ps } := x
    show h'.get? a = some { cls := .none, data := .fields ps }
    exact k a _ (.inl rfl) e
  | met f y =>
    have e : h.get? a = some (PySem.W.methodObj (.ref f) (.ref y)) := x
    show h'.get? a = some (PySem.W.methodObj (.ref f) (.ref y))
    exact k a _ (.inl rfl) e
  | ext φ => obtain ⟨p, ⟨o, e⟩, st⟩ := x; exact ⟨st _ _ p fun o q => k _ _ (.inl rfl) q, ⟨o, k _ _ (.inl rfl) e⟩, st⟩
theorem HOk.lt (x : HOk P w H h) (e : H a = some o) : a < h.objs.size := (x a o e).lt
theorem HOk.fresh (x : HOk P w H h) (e : h.objs.size ≤ a) : H a = none := by
  cases q : H a with
  | none => rfl
  | some u => exact absurd (Nat.lt_of_lt_of_le (x.lt q) e) (Nat.lt_irrefl _)
/-- every object of the heap is kept -/
theorem HOk.kept (x : HOk P w H h) (k : ∀ b u, h.get? b = some u → h'.get? b = some u) : HOk P w H h' := fun a o e =>
  (x a o e).stay (fun b u _ q => k b u q) (fun _ q => q) fun _ _ q => q
/-- a new object is laid and tracked -/
theorem HOk.laid (x : HOk P w H h) (k : ∀ b u, h.get? b = some u → h'.get? b = some u) (hp : h.objs.size ≤ a) (new : ObjOk P w (upd H a o) h' a o) : HOk P w (upd H a o) h' := fun b u e => by
  have hn := x.fresh hp
  by_cases hb : b = a
  · subst hb; rw [upd_same] at e; cases e; exact new
  · rw [upd_ne hb] at e
    exact (x b u e).stay (fun c v _ q => k c v q) (fun c q => by rw [upd_ne (ne_of_none q hn)]; exact q) fun c xs q => by rw [upd_ne (ne_of_none q hn)]; exact q
end

/-- what may be read as u: it is u, or a known u -/
def Rd (H : Hp) (a : Addr) (u : HO) : Prop := H a = some u ∨ ∃ o, H a = some (.frz o u)
theorem Rd.of {H : Hp} {a : Addr} {u : HO} (h : H a = some u) : Rd H a u := .inl h
theorem Rd.ok {P : Program} {w : World} {H : Hp} {h : Heap} {a : Addr} {u : HO} (r : Rd H a u) (x : HOk P w H h) : ObjOk P w H h a u := by
  rcases r with r | ⟨o, r⟩
  · exact x a u r
  · obtain ⟨_, q⟩ := x a _ r
    exact q
/-- what may be written -/
def Mut : Option HO → Prop
  | some (.lst _) => True
  | some (.dK _) => True
  | some (.dT _) => True
  | some (.set _ _) => True
  | some (.ins _ _ _) => True
  | some (.ext _) => True
  | _ => False
section
variable {P : Program} {w : World} {H : Hp} {h h' : Heap} {x e : Addr} {o' : HO}
/-- the object at e is changed: x itself, or the dict of the instance x -/
theorem HOk.write (ok : HOk P w H h) (mu : Mut (H x)) (he : e = x ∨ H e = some (.own x)) (k : ∀ b u, b ≠ e → h.get? b = some u → h'.get? b = some u) (heo : ∃ u, h'.get? e = some u)
    (new : ObjOk P w (upd H x o') h' x o') : HOk P w (upd H x o') h' := fun b u q => by
  have nown : ∀ c y, H c = some (.own y) → c ≠ x := fun c y r z => by subst z; rw [r] at mu; exact mu
  have ntup : ∀ c xs, H c = some (.tup xs) → c ≠ x := fun c xs r z => by subst z; rw [r] at mu; exact mu
  by_cases hb : b = x
  · subst hb; rw [upd_same] at q; cases q; exact new
  · rw [upd_ne hb] at q
    by_cases hbe : b = e
    · have q' : H b = some (.own x) := by
        rcases he with z | z
        · exact absurd (hbe.trans z) hb
        · rw [hbe]; exact z
      rw [q] at q'; cases q'
      obtain ⟨v, hv⟩ := heo
      exact ⟨v, by rw [hbe]; exact hv⟩
    · refine (ok b u q).stay (fun c v hc r => k c v ?_ r) (fun c r => by rw [upd_ne (nown c b r)]; exact r) fun c xs r => by rw [upd_ne (ntup c xs r)]; exact r
      rcases hc with rfl | hc
      · exact hbe
      · rintro rfl
        rcases he with z | z
        · exact nown c b hc z
        · rw [hc] at z; cases z; exact hb rfl
end

/-! ### kept unless tracked; of the frames at fs (the callers') the slots may change (an exception that passes writes there); of the records at ex (iterators) nothing is said -/
structure Un (fs ex : List Addr) (H H' : Hp) (h h' : Heap) : Prop where
  keep : ∀ b o, h.get? b = some o → H b = none → b ∉ fs → b ∉ ex → h'.get? b = some o
  slot : ∀ b o, h.get? b = some o → H b = none → b ∈ fs → b ∉ ex → ∃ sl, h'.get? b = some { o with slots := sl }
  free : ∀ b o, h.get? b = some o → H b = none → b ∉ ex → H' b = none
  there : ∀ b o, h.get? b = some o → b ∉ ex → ∃ o', h'.get? b = some o'
  tups : ∀ b xs, H b = some (.tup xs) → H' b = some (.tup xs)
  frzs : ∀ b o u, H b = some (.frz o u) → H' b = some (.frz o u)
  tbls : ∀ b ps, H b = some (.tbl ps) → ∃ more, H' b = some (.tbl (ps ++ more))
section
variable {fs fs' ex ex' : List Addr} {H H1 H2 : Hp} {h h1 h2 h' : Heap} {a x e : Addr} {o : HO}
theorem Un.any (u : Un fs ex H H1 h h1) {b : Addr} {ob : Obj} (q : h.get? b = some ob) (n : H b = none) (hx : b ∉ ex) : ∃ sl, h1.get? b = some { ob with slots := sl } := by
  by_cases hb : b ∈ fs
  · exact u.slot b ob q n hb hx
  · exact ⟨ob.slots, u.keep b ob q n hb hx⟩
theorem Un.trans (a : Un fs ex H H1 h h1) (b : Un fs ex H1 H2 h1 h2) : Un fs ex H H2 h h2 where
  keep := fun c ob q n hc hx => b.keep c ob (a.keep c ob q n hc hx) (a.free c ob q n hx) hc hx
  slot := fun c ob q n hc hx => by
    obtain ⟨sl, e1⟩ := a.slot c ob q n hc hx
    obtain ⟨sl', e2⟩ := b.slot c _ e1 (a.free c ob q n hx) hc hx
    exact ⟨sl', e2⟩
  free := fun c ob q n hx => by
    obtain ⟨o', e1⟩ := a.there c ob q hx
    exact b.free c o' e1 (a.free c ob q n hx) hx
  there := fun c ob q hx => by
    obtain ⟨o', e1⟩ := a.there c ob q hx
    exact b.there c o' e1 hx
  tups := fun c xs q => b.tups c xs (a.tups c xs q)
  frzs := fun c ob xs q => b.frzs c ob xs (a.frzs c ob xs q)
  tbls := fun c ps q => by
    obtain ⟨m1, e1⟩ := a.tbls c ps q
    obtain ⟨m2, e2⟩ := b.tbls c _ e1
    exact ⟨m1 ++ m2, by rw [e2, Array.append_assoc]⟩
theorem Un.kept (k : ∀ b u, h.get? b = some u → h'.get? b = some u) : Un fs ex H H h h' :=
  ⟨fun b ob q _ _ _ => k b ob q, fun b ob q _ _ _ => ⟨ob.slots, k b ob q⟩, fun _ _ _ n _ => n, fun b ob q _ => ⟨ob, k b ob q⟩, fun _ _ q => q, fun _ _ _ q => q, fun _ ps q => ⟨#[], by rw [q]; simp⟩⟩
theorem Un.refl : Un fs ex H H h h := Un.kept fun _ _ q => q
theorem Un.laid (k : ∀ b u, h.get? b = some u → h'.get? b = some u) (hp : h.objs.size ≤ a) (hn : H a = none) : Un fs ex H (upd H a o) h h' where
  keep := fun b u q _ _ _ => k b u q
  slot := fun b u q _ _ _ => ⟨u.slots, k b u q⟩
  free := fun b u q n _ => by rw [upd_ne (Nat.ne_of_lt (Nat.lt_of_lt_of_le (Heap.lt_size q) hp))]; exact n
  there := fun b u q _ => ⟨u, k b u q⟩
  tups := fun b xs q => by rw [upd_ne (ne_of_none q hn)]; exact q
  frzs := fun b u xs q => by rw [upd_ne (ne_of_none q hn)]; exact q
  tbls := fun b ps q => ⟨#[], by rw [upd_ne (ne_of_none q hn), q]; simp⟩
theorem Un.write (mu : Mut (H x)) (he : e = x ∨ H e = some (.own x)) (k : ∀ b u, b ≠ e → h.get? b = some u → h'.get? b = some u) (heo : ∃ u, h'.get? e = some u) : Un fs ex H (upd H x o) h h' := by
  have hx : ∀ b, H b = none → b ≠ x := fun b n z => by subst z; rw [n] at mu; exact mu
  have hb : ∀ b, H b = none → b ≠ e := fun b n z => by
    subst z
    rcases he with r | r
    · exact hx b n r
    · rw [n] at r; cases r
  have hm : ∀ b u, H b = some u → ¬ Mut (some u) → b ≠ x := fun b u q nm z => by subst z; rw [q] at mu; exact nm mu
  refine ⟨fun b u q n _ _ => k b u (hb b n) q, fun b u q n _ _ => ⟨u.slots, k b u (hb b n) q⟩, fun b u q n _ => by rw [upd_ne (hx b n)]; exact n, fun b u q _ => ?_,
    fun b xs q => by rw [upd_ne (hm b _ q fun z => z)]; exact q, fun b u xs q => by rw [upd_ne (hm b _ q fun z => z)]; exact q, fun b ps q => ⟨#[], by rw [upd_ne (hm b _ q fun z => z), q]; simp⟩⟩
  by_cases hbe : b = e
  · subst hbe; exact heo
  · exact ⟨u, k b u hbe q⟩
theorem Un.mono (u : Un fs ex H H1 h h1) (hs : ∀ b ∈ fs, b ∈ fs') (hx : ∀ b ∈ ex, b ∈ ex') : Un fs' ex' H H1 h h1 :=
  ⟨fun b ob q n hb he => u.keep b ob q n (fun z => hb (hs b z)) fun z => he (hx b z), fun _ _ q n _ he => u.any q n fun z => he (hx _ z), fun b ob q n he => u.free b ob q n fun z => he (hx b z), fun b ob q he => u.there b ob q fun z => he (hx b z), u.tups, u.frzs, u.tbls⟩
end

/-! ### the heap without what is tracked -/
def trk (h : Heap) (H : Hp) : List Addr := (List.range h.objs.size).filter fun a => (H a).isSome
def hidT (h : Heap) (H : Hp) : Heap := PySem.W.hideAll h (trk h H)
theorem hidT_size (h : Heap) (H : Hp) : (hidT h H).objs.size = h.objs.size := PySem.W.hideAll_size _ _
theorem hidT_get {h : Heap} {H : Hp} {b : Addr} {o : Obj} (e : h.get? b = some o) (n : H b = none) : (hidT h H).get? b = some o :=
  PySem.W.hideAll_get _ e fun hm => by
    have q : (H b).isSome = true := (List.mem_filter.mp hm).2
    rw [n] at q; simp at q
theorem of_hidT {h : Heap} {H : Hp} {b : Addr} {o : Obj} (e : (hidT h H).get? b = some o) : h.get? b = some o ∧ H b = none := by
  have e' : h.get? b = some o := PySem.W.of_hideAll (trk h H) e
  refine ⟨e', ?_⟩
  cases q : H b with
  | none => rfl
  | some x =>
    have hm : b ∈ trk h H := List.mem_filter.mpr ⟨List.mem_range.mpr (Heap.lt_size e'), by simp [q]⟩
    have z : (hidT h H).get? b = none := PySem.W.hideAll_none (trk h H) hm
    rw [z] at e; cases e

/-! ### OpenK's ledger, filled with every new object but one -/
def allNews (g h : Heap) (L : Addr) : List (Addr × Obj) := (List.range h.objs.size).filterMap fun a => if a = L ∨ (g.get? a).isSome = true then none else (h.get? a).map fun o => (a, o)
theorem mem_allNews {g h : Heap} {L a : Addr} {o : Obj} (h1 : a ≠ L) (h2 : g.get? a = none) (h3 : h.get? a = some o) : (a, o) ∈ allNews g h L :=
  List.mem_filterMap.mpr ⟨a, List.mem_range.mpr (Heap.lt_size h3), by simp [h1, h2, h3]⟩
theorem of_mem_allNews {g h : Heap} {L : Addr} {p : Addr × Obj} (hp : p ∈ allNews g h L) : p.1 ≠ L ∧ g.get? p.1 = none ∧ h.get? p.1 = some p.2 := by
  obtain ⟨b, _, e⟩ := List.mem_filterMap.mp hp
  split at e
  · cases e
  · rename_i hn
    cases q : h.get? b with
    | none => rw [q] at e; simp at e
    | some u =>
      rw [q] at e
      simp only [Option.map_some, Option.some.injEq] at e
      subst e
      refine ⟨fun z => hn (.inl z), ?_, q⟩
      show g.get? b = none
      cases r : g.get? b with
      | none => rfl
      | some v => exact (hn (.inr (by simp [r]))).elim
def rest (g h : Heap) (L d : Addr) : List (Addr × Obj) := (allNews g h L).filter fun p => decide (p.1 ≠ d)
theorem rest_ne {g h : Heap} {L d : Addr} : ∀ p ∈ rest g h L d, p.1 ≠ d := fun p hp => of_decide_eq_true (List.mem_filter.mp hp).2
theorem mem_rest {g h : Heap} {L d a : Addr} {o : Obj} (h1 : a ≠ L) (h2 : g.get? a = none) (h3 : h.get? a = some o) (h4 : a ≠ d) : (a, o) ∈ rest g h L d :=
  List.mem_filter.mpr ⟨mem_allNews h1 h2 h3, decide_eq_true h4⟩
theorem news_all {g h : Heap} {L : Addr} : News g L h (allNews g h L) := fun p hp => let ⟨a, b, c⟩ := of_mem_allNews hp; ⟨c, a, b⟩
theorem news_at {g h : Heap} {L d : Addr} {o : Obj} (h1 : d ≠ L) (h2 : g.get? d = none) (h3 : h.get? d = some o) : News g L h ((d, o) :: rest g h L d) := fun p hp => by
  rcases List.mem_cons.mp hp with rfl | hp
  · exact ⟨h3, h1, h2⟩
  · exact news_all p (List.mem_filter.mp hp).1
/-- behind a rule that changed d alone: all else but the frame is kept -/
theorem kept_of_news {g h h' : Heap} {L d : Addr} {m : Str → Option Value} (k : ∀ b o, g.get? b = some o → h.get? b = some o) (F : Fr g L h' m) (N : News g L h' (rest g h L d)) :
    ∀ b o, b ≠ L → b ≠ d → h.get? b = some o → h'.get? b = some o := fun b o h1 h2 e => by
  cases q : g.get? b with
  | some u =>
    have := k b u q
    rw [e] at this; cases this
    exact F.keep b _ q
  | none => exact (N (b, o) (mem_rest h1 q e h2)).1
end L2

namespace L2
open PySem PySem.Spec PyProof.Rows

/-- the module's facts, over the base: the heap at the law's entry without what is tracked there -/
structure Mod (K : PySem.W.Frag) (mg : Str → Option Value) (base : Heap) : Prop where
  kin : K.In base
  glob : base.Ns mainGlobals mg
  blt : ∃ mb, base.Ns builtinsNs mb ∧ ∀ x : Str, x ≠ "__name__" → mb x = bootBuiltins x
  nolimit : base.NoLimit

/-- the context: a def's body (or a comprehension's block) running. base: fixed through the whole law; s₀, H₀: the entry; outer: the frames whose slots others may change (a def's callers); stack: all frames that run;
   ex: iterators that were made ahead of the entry and are walked here (a comprehension's); fn: the names whose cells were made at the entry (a def: all; a comprehension's block: its own); calm: not within an except suite; pn: pins that every state bears; xe: what is wanted of an exception that leaves the code -/
structure Cx where
  prog : Program
  w : World
  K : PySem.W.Frag
  mg : Str → Option Value
  base : Heap
  A : Around
  N : List Str
  s₀ : Shared
  H₀ : Hp
  env : Env
  outer : List Env
  stack : List Env
  ex : List Addr
  fn : Str → Bool
  calm : Bool
  pn : List (Addr × Obj)
  xe : Value → Shared → Prop
/-- the callers' frames -/
def frs (l : List Env) : List Addr := l.filterMap (·.frame)
abbrev Cx.fs (X : Cx) : List Addr := frs X.outer

def Vis (sc : Scope) (x : Str) : Prop := sc.names.lookup x = some .local ∨ sc.names.lookup x = some .cell ∨ sc.names.lookup x = some .free
def Loc (sc : Scope) (x : Str) : Prop := sc.names.lookup x = some .local ∨ sc.names.lookup x = some .cell
def Look (env : Env) (h : Heap) (m : Str → Option Value) (x : Str) (u : Value) : Prop :=
  (env.kindOf x = some .local ∧ m x = some u) ∨ ((env.kindOf x = some .cell ∨ env.kindOf x = some .free) ∧ ∃ c, env.cells.lookup x = some c ∧ h.IsCell c (some u))

structure Cx.Ok (X : Cx) : Prop where
  mod : Mod X.K X.mg X.base
  kind : X.env.scope.kind = .function
  glob : X.env.globals = mainGlobals
  blt : X.env.builtins = builtinsNs
  above : X.s₀.heap.objs.size ≤ X.env.locals
  inj : ∀ x y c, X.env.cells.lookup x = some c → X.env.cells.lookup y = some c → x = y
  has : ∀ x, (X.env.kindOf x = some .cell ∨ X.env.kindOf x = some .free) → ∃ c, X.env.cells.lookup x = some c
  cab : ∀ x c, X.fn x = true → X.env.cells.lookup x = some c → X.s₀.heap.objs.size ≤ c
  hd : X.calm = true → X.A.handled = none
  frames : X.A.frames = some X.stack
  stk : X.stack = X.outer ∨ (X.stack = X.env :: X.outer ∧ X.env.frame = some X.env.locals)
  exf : ∀ b ∈ X.ex, b ≠ X.env.locals ∧ ∀ x c, X.env.cells.lookup x = some c → c ≠ b
  bs : ∀ b o, X.base.get? b = some o → X.s₀.heap.get? b = some o ∧ X.H₀ b = none
  bsz : X.base.objs.size ≤ X.s₀.heap.objs.size
  noex : ∀ b o, X.base.get? b = some o → b ∉ X.ex
  exfs : ∀ b ∈ X.ex, b ∉ X.fs
  funs : X.s₀.heap.FunFrames X.base X.outer
  frf : ∀ b ∈ X.fs, X.H₀ b = none

structure Inv (X : Cx) (pins : List (Addr × Obj)) (σ : List (Option V)) (H : Hp) (s : Shared) : Prop where
  ok : X.Ok
  os : s.os = X.s₀.os
  bare : AllBare s.gens
  base : Un X.fs X.ex X.H₀ H X.s₀.heap s.heap
  loc : ∃ m, s.heap.Ns X.env.locals m ∧ ∀ (i : Nat) (x : Str) (v : V), X.N[i]? = some x → σ[i]? = some (some v) → Vis X.env.scope x → ∃ u, RelV v u ∧ Look X.env s.heap m x u
  cell : ∀ x c, X.env.cells.lookup x = some c → ∃ v, s.heap.IsCell c v
  free : H X.env.locals = none
  freeC : ∀ x c, X.env.cells.lookup x = some c → H c = none
  pin : ∀ p ∈ X.pn ++ pins, s.heap.get? p.1 = some p.2 ∧ H p.1 = none ∧ p.1 ≠ X.env.locals ∧ p.1 ∉ X.fs ∧ ∀ v, p.2.data ≠ .cell v
  hok : HOk X.prog X.w H s.heap
  len : σ.length = X.N.length

section
variable {X : Cx} {pins : List (Addr × Obj)} {σ : List (Option V)} {H H' : Hp} {s : Shared} {h' : Heap}

theorem Cx.Ok.nofr (ok : X.Ok) {b : Addr} {o : Obj} (e : X.base.get? b = some o) : b ∉ X.fs := fun hb => by
  have := (ok.funs.mem hb).1
  rw [e] at this; cases this
theorem Inv.bs (I : Inv X pins σ H s) : ∀ b o, X.base.get? b = some o → s.heap.get? b = some o ∧ H b = none := fun b o e =>
  ⟨I.base.keep b o (I.ok.bs b o e).1 (I.ok.bs b o e).2 (I.ok.nofr e) (I.ok.noex b o e), I.base.free b o (I.ok.bs b o e).1 (I.ok.bs b o e).2 (I.ok.noex b o e)⟩
theorem Inv.bk (I : Inv X pins σ H s) : ∀ b o, X.base.get? b = some o → s.heap.get? b = some o := fun b o e => (I.bs b o e).1
theorem Inv.mod (I : Inv X pins σ H s) : Mod X.K X.mg X.base := I.ok.mod
theorem Inv.kIn (I : Inv X pins σ H s) : X.K.In s.heap := I.ok.mod.kin.keeps I.bk
theorem Inv.nolimit (I : Inv X pins σ H s) : s.heap.NoLimit := I.ok.mod.nolimit.keeps I.bk
/-- the frame over the base: for OpenK's rules (K.In X.base is I.mod.kin) -/
theorem Inv.fr (I : Inv X pins σ H s) : ∃ m, Fr X.base X.env.locals s.heap m :=
  let ⟨m, hn, _⟩ := I.loc
  ⟨m, hn, I.bk, Nat.le_trans I.ok.bsz I.ok.above⟩
theorem Inv.lt (I : Inv X pins σ H s) : X.env.locals < s.heap.objs.size := let ⟨_, hn, _⟩ := I.loc; hn.lt
theorem Inv.sz (I : Inv X pins σ H s) : X.s₀.heap.objs.size ≤ s.heap.objs.size := Nat.le_trans I.ok.above (Nat.le_of_lt I.lt)
theorem Inv.nofs (I : Inv X pins σ H s) {a : Addr} (h : s.heap.objs.size ≤ a) : a ∉ X.fs := fun hb => by
  obtain ⟨_, o, ho, _⟩ := I.ok.funs.mem hb
  exact absurd (Nat.lt_of_lt_of_le (Heap.lt_size ho) (Nat.le_trans I.sz h)) (Nat.lt_irrefl _)
theorem Inv.cne (I : Inv X pins σ H s) : ∀ x c, X.env.cells.lookup x = some c → c ≠ X.env.locals := fun x c e z => by
  obtain ⟨v, o, ho, hd⟩ := I.cell x c e
  obtain ⟨m, ⟨o', es, ep, ho', hd', _⟩, _⟩ := I.loc
  rw [z, ho'] at ho; cases ho; rw [hd'] at hd; cases hd
theorem Inv.funs (I : Inv X pins σ H s) : s.heap.FunFrames X.base X.outer := by
  have all : ∀ (l : List Env), (∀ b ∈ frs l, b ∈ X.fs) → X.s₀.heap.FunFrames X.base l → s.heap.FunFrames X.base l := by
    intro l
    induction l with
    | nil => intro _ _; trivial
    | cons env r ih =>
      intro hs hl
      obtain ⟨hk, ⟨L, o, hf, hn, ho, hd⟩, hr⟩ := hl
      have hL : L ∈ X.fs := hs L (by unfold frs; rw [List.filterMap_cons, hf]; exact List.mem_cons_self)
      obtain ⟨sl, e⟩ := I.base.slot L o ho (I.ok.frf L hL) hL fun z => I.ok.exfs L z hL
      exact ⟨hk, ⟨L, _, hf, hn, e, hd⟩, ih (fun b hb => hs b (by unfold frs; rw [List.filterMap_cons, hf]; exact List.mem_cons_of_mem _ hb)) hr⟩
  exact all X.outer (fun _ hb => hb) I.ok.funs

/-- the frames that run, for a call -/
theorem Inv.stack (I : Inv X pins σ H s) : s.heap.FunFrames X.base X.stack := by
  rcases I.ok.stk with e | ⟨e, hf⟩
  · rw [e]; exact I.funs
  · rw [e]
    obtain ⟨m, hn, _⟩ := I.loc
    refine .cons (by rw [I.ok.kind]; decide) hf hn ?_ I.funs
    exact Heap.get?_none_of_le (Nat.le_trans I.ok.bsz I.ok.above)
theorem Inv.stkSub (I : Inv X pins σ H s) : ∀ b ∈ frs X.stack, b ∈ X.env.locals :: X.fs := fun b hb => by
  rcases I.ok.stk with e | ⟨e, hf⟩
  · rw [e] at hb; exact List.mem_cons_of_mem _ hb
  · rw [e] at hb
    unfold frs at hb
    rw [List.filterMap_cons, hf] at hb
    exact hb
theorem Inv.stkFree (I : Inv X pins σ H s) : ∀ b ∈ frs X.stack, H b = none := fun b hb => by
  rcases List.mem_cons.mp (I.stkSub b hb) with e | hb
  · rw [e]; exact I.free
  · obtain ⟨_, o, ho, _⟩ := I.ok.funs.mem hb
    exact I.base.free b o ho (I.ok.frf b hb) fun z => I.ok.exfs b z hb

/-- THE STEP: the untracked objects but the frame and the records at ch are kept (the callers' frames up to slots), the frame's map is kept, the new abstract heap is held -/
theorem Inv.step {g' : Array GenState} {t' : Nat} {d' : Drawn} {ch : List Addr} (I : Inv X pins σ H s)
    (hch : ∀ b ∈ ch, (b ∈ X.ex ∨ X.s₀.heap.objs.size ≤ b) ∧ b ≠ X.env.locals ∧ (∀ x c, X.env.cells.lookup x = some c → c ≠ b) ∧ ∀ p ∈ X.pn ++ pins, p.1 ≠ b)
    (keep : ∀ b o, b ≠ X.env.locals → b ∉ X.fs → b ∉ ch → s.heap.get? b = some o → H b = none → h'.get? b = some o)
    (slot : ∀ b o, b ≠ X.env.locals → b ∈ X.fs → b ∉ ch → s.heap.get? b = some o → H b = none → ∃ sl, h'.get? b = some { o with slots := sl }) (free : ∀ b o, b ∉ ch → s.heap.get? b = some o → H b = none → H' b = none)
    (there : ∀ b o, b ∉ ch → s.heap.get? b = some o → ∃ o', h'.get? b = some o')
    (tups : ∀ b xs, H b = some (.tup xs) → H' b = some (.tup xs)) (frzs : ∀ b o u, H b = some (.frz o u) → H' b = some (.frz o u)) (tbls : ∀ b ps, H b = some (.tbl ps) → ∃ more, H' b = some (.tbl (ps ++ more)))
    (ns : ∀ m, s.heap.Ns X.env.locals m → h'.Ns X.env.locals m) (hok : HOk X.prog X.w H' h') (hg : AllBare g') :
    Inv X pins σ H' { s with heap := h', gens := g', drawn := d', toks := t' } := by
  have neL : ∀ b o, X.s₀.heap.get? b = some o → b ≠ X.env.locals := fun b o e => Nat.ne_of_lt (Nat.lt_of_lt_of_le (Heap.lt_size e) I.ok.above)
  have neC : ∀ b o, X.s₀.heap.get? b = some o → b ∉ X.ex → b ∉ ch := fun b o e hx hb => by
    rcases (hch b hb).1 with z | z
    · exact hx z
    · exact absurd (Nat.lt_of_lt_of_le (Heap.lt_size e) z) (Nat.lt_irrefl _)
  have cellK : ∀ x c, X.env.cells.lookup x = some c → ∀ v, s.heap.IsCell c v → h'.IsCell c v := fun x c e v ⟨o, ho, hd⟩ => by
    have nch : c ∉ ch := fun z => (hch c z).2.2.1 x c e rfl
    by_cases hc : c ∈ X.fs
    · obtain ⟨sl, q⟩ := slot c o (I.cne x c e) hc nch ho (I.freeC x c e)
      exact ⟨_, q, hd⟩
    · exact ⟨o, keep c o (I.cne x c e) hc nch ho (I.freeC x c e), hd⟩
  refine ⟨I.ok, I.os, hg, ⟨fun b o e n hb hx => ?_, fun b o e n hb hx => ?_, fun b o e n hx => ?_, fun b o e hx => ?_, fun b xs e => tups b xs (I.base.tups b xs e), fun b o xs e => frzs b o xs (I.base.frzs b o xs e), fun b ps e => ?_⟩, ?_, fun x c e => ?_, ?_, fun x c e => ?_, fun p hp => ?_, hok, I.len⟩
  · exact keep b o (neL b o e) hb (neC b o e hx) (I.base.keep b o e n hb hx) (I.base.free b o e n hx)
  · obtain ⟨sl, e1⟩ := I.base.slot b o e n hb hx
    obtain ⟨sl', e2⟩ := slot b _ (neL b o e) hb (neC b o e hx) e1 (I.base.free b o e n hx)
    exact ⟨sl', e2⟩
  · obtain ⟨o', e1⟩ := I.base.there b o e hx
    exact free b o' (neC b o e hx) e1 (I.base.free b o e n hx)
  · obtain ⟨o', e1⟩ := I.base.there b o e hx
    exact there b o' (neC b o e hx) e1
  · obtain ⟨m1, e1⟩ := I.base.tbls b ps e
    obtain ⟨m2, e2⟩ := tbls b _ e1
    exact ⟨m1 ++ m2, by rw [e2, Array.append_assoc]⟩
  · obtain ⟨m, hn, hl⟩ := I.loc
    refine ⟨m, ns m hn, fun i x v e1 e2 e3 => ?_⟩
    obtain ⟨u, r, l⟩ := hl i x v e1 e2 e3
    refine ⟨u, r, ?_⟩
    rcases l with l | ⟨k, c, e, z⟩
    · exact .inl l
    · exact .inr ⟨k, c, e, cellK x c e _ z⟩
  · obtain ⟨v, z⟩ := I.cell x c e
    exact ⟨v, cellK x c e v z⟩
  · obtain ⟨m, ⟨o, _, _, ho, _⟩, _⟩ := I.loc
    exact free _ o (fun z => (hch _ z).2.1 rfl) ho I.free
  · obtain ⟨v, o, ho, hd⟩ := I.cell x c e
    exact free c o (fun z => (hch c z).2.2.1 x c e rfl) ho (I.freeC x c e)
  · obtain ⟨e, n, ne, nf, d⟩ := I.pin p hp
    have nch : p.1 ∉ ch := fun z => (hch p.1 z).2.2.2 p hp rfl
    exact ⟨keep p.1 p.2 ne nf nch e n, free p.1 p.2 nch e n, ne, nf, d⟩
/-- .. where the frame's own object is kept too -/
theorem Inv.un {t' : Nat} (I : Inv X pins σ H s) (u : Un X.fs [] H H' s.heap h') (hok : HOk X.prog X.w H' h') : Inv X pins σ H' { s with heap := h', toks := t' } := by
  obtain ⟨m, ⟨o, es, ep, ho, r⟩, _⟩ := id I.loc
  obtain ⟨sl, hL⟩ := u.any ho I.free (by simp)
  exact I.step (g' := s.gens) (d' := s.drawn) (ch := []) (fun _ z => nomatch z) (fun b o _ hb _ e n => u.keep b o e n hb (by simp)) (fun b o _ hb _ e n => u.slot b o e n hb (by simp)) (fun b o _ e n => u.free b o e n (by simp)) (fun b o _ e => u.there b o e (by simp)) u.tups u.frzs u.tbls (fun m' hm => by
    obtain ⟨o', es', ep', ho', r'⟩ := hm
    rw [ho] at ho'; cases ho'
    exact ⟨_, es', ep', hL, r'⟩) hok I.bare
/-- behind a call (or a comprehension's block): the slots of this frame may have changed too, the records at ch may have turned -/
theorem Inv.call {g' : Array GenState} {t' : Nat} {d' : Drawn} {ch : List Addr} (I : Inv X pins σ H s) (u : Un (frs X.stack) ch H H' s.heap h') (hok : HOk X.prog X.w H' h') (hg : AllBare g')
    (hch : ∀ b ∈ ch, (b ∈ X.ex ∨ X.s₀.heap.objs.size ≤ b) ∧ b ≠ X.env.locals ∧ (∀ x c, X.env.cells.lookup x = some c → c ≠ b) ∧ ∀ p ∈ X.pn ++ pins, p.1 ≠ b) :
    Inv X pins σ H' { s with heap := h', gens := g', drawn := d', toks := t' } := by
  obtain ⟨m, ⟨o, es, ep, ho, r⟩, _⟩ := id I.loc
  obtain ⟨sl, hL⟩ := u.any ho I.free fun z => (hch _ z).2.1 rfl
  exact I.step (ch := ch) hch (fun b o hL hb hc e n => u.keep b o e n (fun z => (List.mem_cons.mp (I.stkSub b z)).elim hL hb) hc) (fun b o _ _ hc e n => u.any e n hc) (fun b o hc e n => u.free b o e n hc) (fun b o hc e => u.there b o e hc) u.tups u.frzs u.tbls (fun m' hm => by
    obtain ⟨o', es', ep', ho', r'⟩ := hm
    rw [ho] at ho'; cases ho'
    exact ⟨_, es', ep', hL, r'⟩) hok hg
/-- an untracked record of ours (an iterator) has turned -/
theorem Inv.turned {t' : Nat} {it : Addr} (I : Inv X pins σ H s) (k : ∀ b o, b ≠ it → s.heap.get? b = some o → h'.get? b = some o) (hn : H it = none) (hL : it ≠ X.env.locals)
    (h1 : it ∈ X.ex ∨ X.s₀.heap.objs.size ≤ it) (h2 : ∀ x c, X.env.cells.lookup x = some c → c ≠ it) (h3 : ∀ p ∈ X.pn ++ pins, p.1 ≠ it) : Inv X pins σ H { s with heap := h', toks := t' } := by
  have nit : ∀ b u, H b = some u → b ≠ it := fun b u e z => by rw [z, hn] at e; cases e
  refine I.step (g' := s.gens) (d' := s.drawn) (ch := [it]) (fun b hb => ?_) (fun b o _ _ hc e _ => k b o (fun z => hc (by simp [z])) e) (fun b o _ _ hc e _ => ⟨o.slots, k b o (fun z => hc (by simp [z])) e⟩) (fun _ _ _ _ n => n)
    (fun b o hc e => ⟨o, k b o (fun z => hc (by simp [z])) e⟩) (fun _ _ e => e) (fun _ _ _ e => e) (fun b ps e => ⟨#[], by rw [e]; simp⟩) (fun m hm => ?_) (fun b u e => ?_) I.bare
  · have e : b = it := by simpa using hb
    subst e
    exact ⟨h1, hL, h2, h3⟩
  · obtain ⟨o, es, ep, ho, r⟩ := hm
    exact ⟨o, es, ep, k _ o (Ne.symm hL) ho, r⟩
  · refine (I.hok b u e).stay (fun c v hc q => k c v ?_ q) (fun _ q => q) fun _ _ q => q
    rcases hc with z | z
    · rw [z]; exact nit b u e
    · exact nit c _ z
theorem Inv.tok (I : Inv X pins σ H s) (t : Nat) : Inv X pins σ H { s with toks := t } := I.un (h' := s.heap) (t' := t) Un.refl I.hok
/-- all objects kept -/
theorem Inv.kept {t' : Nat} (I : Inv X pins σ H s) (k : ∀ b u, s.heap.get? b = some u → h'.get? b = some u) : Inv X pins σ H { s with heap := h', toks := t' } := I.un (Un.kept k) (I.hok.kept k)
/-- a new object laid and tracked -/
theorem Inv.laid {a : Addr} {o : HO} {t' : Nat} (I : Inv X pins σ H s) (k : ∀ b u, s.heap.get? b = some u → h'.get? b = some u) (hp : s.heap.objs.size ≤ a) (new : ObjOk X.prog X.w (upd H a o) h' a o) :
    Inv X pins σ (upd H a o) { s with heap := h', toks := t' } := I.un (Un.laid k hp (I.hok.fresh hp)) (I.hok.laid k hp new)
/-- an object written -/
theorem Inv.write {x e : Addr} {o : HO} {t' : Nat} (I : Inv X pins σ H s) (mu : Mut (H x)) (he : e = x ∨ H e = some (.own x)) (k : ∀ b u, b ≠ e → s.heap.get? b = some u → h'.get? b = some u) (heo : ∃ u, h'.get? e = some u)
    (new : ObjOk X.prog X.w (upd H x o) h' x o) : Inv X pins σ (upd H x o) { s with heap := h', toks := t' } := I.un (Un.write mu he k heo) (I.hok.write mu he k heo new)
/-- forgetting slots, pins -/
theorem Inv.weak {σ' : List (Option V)} (I : Inv X pins σ H s) (hl : σ'.length = σ.length) (w : ∀ (i : Nat) v, σ'[i]? = some (some v) → σ[i]? = some (some v)) : Inv X pins σ' H s :=
  ⟨I.ok, I.os, I.bare, I.base, let ⟨m, hn, hl'⟩ := I.loc; ⟨m, hn, fun i x v e1 e2 e3 => hl' i x v e1 (w i v e2) e3⟩, I.cell, I.free, I.freeC, I.pin, I.hok, hl.trans I.len⟩
theorem Inv.pins_of {pins' : List (Addr × Obj)} (I : Inv X pins σ H s) (h : ∀ p ∈ pins', s.heap.get? p.1 = some p.2 ∧ H p.1 = none ∧ p.1 ≠ X.env.locals ∧ p.1 ∉ X.fs ∧ ∀ v, p.2.data ≠ .cell v) : Inv X pins' σ H s :=
  ⟨I.ok, I.os, I.bare, I.base, I.loc, I.cell, I.free, I.freeC, fun p hp => (List.mem_append.mp hp).elim (fun z => I.pin p (List.mem_append_left _ z)) (h p), I.hok, I.len⟩

theorem nodup_ix {N : List Str} (hN : N.Nodup) {i j : Nat} {x : Str} (a : N[i]? = some x) (b : N[j]? = some x) : i = j := by
  obtain ⟨h1, e1⟩ := List.getElem?_eq_some_iff.mp a
  obtain ⟨h2, e2⟩ := List.getElem?_eq_some_iff.mp b
  exact (List.getElem_inj hN).mp (e1.trans e2.symm)

/-- a name is stored; what changed -/
theorem store_ok2 {M : Model} {A : Around} {E : Value → Shared → Prop} {i : Nat} {x : Str} {v : V} {u : Value} {Q : Unit → Shared → Prop} (I : Inv X pins σ H s) (hN : X.N.Nodup) (hi : X.N[i]? = some x) (hx : Loc X.env.scope x) (r : RelV v u)
    (h : ∀ s', Inv X pins (σ.set i (some v)) H s' → (∃ a, Heap.SameBut a s.heap s'.heap ∧ (a = X.env.locals ∨ X.env.cells.lookup x = some a)) → Q () s') (hf : X.fn x = true ∨ X.env.scope.names.lookup x = some .local := by first | exact .inl rfl | exact .inr rfl | assumption) : wpAny M A (storeName X.env x u) Q E s := by
  obtain ⟨m, hn, hl⟩ := id I.loc
  have hcls : (X.env.scope.kind == .class || (X.env.scope.kind == .module && X.env.locals != X.env.globals)) = false := by rw [I.ok.kind]; rfl
  have hiσ : i < σ.length := by rw [I.len]; exact (List.getElem?_eq_some_iff.mp hi).1
  have cne := I.cne
  have tracked : ∀ {a : Addr} {h' : Heap}, (∃ o, s.heap.get? a = some o ∧ H a = none) → Heap.SameBut a s.heap h' → HOk X.prog X.w H h' := fun {a h'} ha hs b ob e => by
    obtain ⟨_, _, hfree⟩ := ha
    refine (I.hok b ob e).stay (fun c w' hc q => (hs.2 c ?_).trans q) (fun _ q => q) fun _ _ q => q
    rintro rfl
    rcases hc with rfl | hc
    · rw [hfree] at e; cases e
    · rw [hfree] at hc; cases hc
  rcases hx with hk | hk
  · refine wpAny_storeName_local hk hn (fun h' hn' hs => ?_) hcls
    obtain ⟨oL, _, _, hoL, _⟩ := id hn
    refine h _ ⟨I.ok, I.os, I.bare, ⟨fun b o e n hb hx => ?_, fun b o e n hb hx => ?_, I.base.free, fun b o e hx => ?_, I.base.tups, I.base.frzs, I.base.tbls⟩, ⟨_, hn', fun j y v' e1 e2 e3 => ?_⟩, fun y c e => ?_, I.free, I.freeC, fun p hp => ?_, tracked ⟨oL, hoL, I.free⟩ hs, by simpa using I.len⟩ ⟨_, hs, .inl rfl⟩
    · exact (hs.2 b (Nat.ne_of_lt (Nat.lt_of_lt_of_le (Heap.lt_size e) I.ok.above))).trans (I.base.keep b o e n hb hx)
    · obtain ⟨sl, e1⟩ := I.base.slot b o e n hb hx
      exact ⟨sl, (hs.2 b (Nat.ne_of_lt (Nat.lt_of_lt_of_le (Heap.lt_size e) I.ok.above))).trans e1⟩
    · obtain ⟨o', e1⟩ := I.base.there b o e hx
      exact ⟨o', (hs.2 b (Nat.ne_of_lt (Nat.lt_of_lt_of_le (Heap.lt_size e) I.ok.above))).trans e1⟩
    · by_cases hj : j = i
      · subst hj
        rw [hi] at e1; cases e1
        rw [List.getElem?_set_self hiσ] at e2
        cases e2
        exact ⟨u, r, .inl ⟨hk, by simp⟩⟩
      · rw [List.getElem?_set_ne (Ne.symm hj)] at e2
        obtain ⟨u', r', q⟩ := hl j y v' e1 e2 e3
        refine ⟨u', r', ?_⟩
        rcases q with ⟨k, e⟩ | ⟨k, c, e, z⟩
        · refine .inl ⟨k, ?_⟩
          have : y ≠ x := fun e => hj (nodup_ix hN e1 (e ▸ hi))
          simp [this, e]
        · exact .inr ⟨k, c, e, z.sameBut hs (cne y c e)⟩
    · obtain ⟨w', z⟩ := I.cell y c e
      exact ⟨w', z.sameBut hs (cne y c e)⟩
    · obtain ⟨e, n, ne, nf, d⟩ := I.pin p hp
      exact ⟨(hs.2 p.1 ne).trans e, n, ne, nf, d⟩
  · have hfn : X.fn x = true := by
      rcases hf with z | z
      · exact z
      · rw [z] at hk; cases hk
    obtain ⟨c, hc⟩ := I.ok.has x (.inl hk)
    obtain ⟨w', z⟩ := I.cell x c hc
    refine wpAny_storeName_cell I.ok.kind hk hc z (fun h' hc' hs => ?_)
    obtain ⟨oc, hoc, hocd⟩ := id z
    refine h { s with heap := h' } ⟨I.ok, I.os, I.bare, ⟨fun b o e n hb hx => ?_, fun b o e n hb hx => ?_, I.base.free, fun b o e hx => ?_, I.base.tups, I.base.frzs, I.base.tbls⟩, ⟨m, hn.sameBut hs (Ne.symm (cne x c hc)), fun j y v' e1 e2 e3 => ?_⟩, fun y c' e => ?_, I.free, I.freeC, fun p hp => ?_, tracked ⟨oc, hoc, I.freeC x c hc⟩ hs, by simpa using I.len⟩ ⟨c, hs, .inr hc⟩
    · exact (hs.2 b (Nat.ne_of_lt (Nat.lt_of_lt_of_le (Heap.lt_size e) (I.ok.cab x c hfn hc)))).trans (I.base.keep b o e n hb hx)
    · obtain ⟨sl, e1⟩ := I.base.slot b o e n hb hx
      exact ⟨sl, (hs.2 b (Nat.ne_of_lt (Nat.lt_of_lt_of_le (Heap.lt_size e) (I.ok.cab x c hfn hc)))).trans e1⟩
    · obtain ⟨o', e1⟩ := I.base.there b o e hx
      exact ⟨o', (hs.2 b (Nat.ne_of_lt (Nat.lt_of_lt_of_le (Heap.lt_size e) (I.ok.cab x c hfn hc)))).trans e1⟩
    · by_cases hj : j = i
      · subst hj
        rw [hi] at e1; cases e1
        rw [List.getElem?_set_self hiσ] at e2
        cases e2
        exact ⟨u, r, .inr ⟨.inl hk, c, hc, hc'⟩⟩
      · rw [List.getElem?_set_ne (Ne.symm hj)] at e2
        obtain ⟨u', r', q⟩ := hl j y v' e1 e2 e3
        refine ⟨u', r', ?_⟩
        rcases q with q | ⟨k, c', e, z'⟩
        · exact .inl q
        · refine .inr ⟨k, c', e, z'.sameBut hs ?_⟩
          rintro rfl
          exact hj (nodup_ix hN e1 (I.ok.inj _ _ _ e hc ▸ hi))
    · by_cases hcc : c' = c
      · subst hcc; exact ⟨_, hc'⟩
      · obtain ⟨w2, z2⟩ := I.cell y c' e
        exact ⟨w2, z2.sameBut hs hcc⟩
    · obtain ⟨e, n, ne, nf, d⟩ := I.pin p hp
      refine ⟨(hs.2 p.1 ?_).trans e, n, ne, nf, d⟩
      intro q
      rw [q, hoc] at e
      have q' : oc = p.2 := Option.some.inj e
      exact d w' (by rw [← q']; exact hocd)
theorem store_ok {M : Model} {A : Around} {E : Value → Shared → Prop} {i : Nat} {x : Str} {v : V} {u : Value} {Q : Unit → Shared → Prop} (I : Inv X pins σ H s) (hN : X.N.Nodup) (hi : X.N[i]? = some x) (hx : Loc X.env.scope x) (r : RelV v u)
    (h : ∀ s', Inv X pins (σ.set i (some v)) H s' → Q () s') (hf : X.fn x = true ∨ X.env.scope.names.lookup x = some .local := by first | exact .inl rfl | exact .inr rfl | assumption) : wpAny M A (storeName X.env x u) Q E s :=
  store_ok2 I hN hi hx r (fun s' I' _ => h s' I') hf
/-- behind a call or a block, the state as it is -/
theorem Inv.call' {s' : Shared} {ch : List Addr} (I : Inv X pins σ H s) (ho : s'.os = s.os) (u : Un (frs X.stack) ch H H' s.heap s'.heap) (hok : HOk X.prog X.w H' s'.heap) (hg : AllBare s'.gens)
    (hch : ∀ b ∈ ch, (b ∈ X.ex ∨ X.s₀.heap.objs.size ≤ b) ∧ b ≠ X.env.locals ∧ (∀ x c, X.env.cells.lookup x = some c → c ≠ b) ∧ ∀ p ∈ X.pn ++ pins, p.1 ≠ b) : Inv X pins σ H' s' := by
  obtain ⟨h', g', d', t', o'⟩ := s'
  have e : o' = s.os := ho
  subst e
  exact I.call (g' := g') (t' := t') (d' := d') u hok hg hch
end

/-! ### the judgements -/
/-- an exception: its class, its own dict's address (where it has one), the abstract heap behind it -/
abbrev XK := Value → Option Addr → Hp → Prop
abbrev St := List (Option V)
abbrev VK := V → Hp → Prop
/-- an expression's reading; a test's; an argument list's -/
abbrev TE := St → Hp → VK → Prop
abbrev TT := St → Hp → (Bool → Hp → Prop) → Prop
abbrev TA := St → Hp → (List V → Hp → Prop) → Prop
/-- what is wanted behind a statement -/
structure Ends where
  nx : St → Hp → Prop
  rt : VK
  bk : St → Hp → Prop := fun _ _ => False
  ct : St → Hp → Prop := fun _ _ => False
abbrev TS := Ends → St → Hp → Prop

def EP (X : Cx) (pins : List (Addr × Obj)) (σ : St) (Q : VK) (u : Value) (s' : Shared) : Prop := ∃ v H', Inv X pins σ H' s' ∧ RelV v u ∧ Q v H'
def TP (X : Cx) (pins : List (Addr × Obj)) (σ : St) (Q : Bool → Hp → Prop) (b : Bool) (s' : Shared) : Prop := ∃ H', Inv X pins σ H' s' ∧ Q b H'
def AP (X : Cx) (pins : List (Addr × Obj)) (σ : St) (Q : List V → Hp → Prop) (us : List Value) (s' : Shared) : Prop := ∃ vs H', Inv X pins σ H' s' ∧ Vals vs us ∧ Q vs H'
def SP (X : Cx) (pins : List (Addr × Obj)) (D : Ends) (f : Flow) (s' : Shared) : Prop :=
  match f with
  | .next => ∃ σ' H', Inv X pins σ' H' s' ∧ D.nx σ' H'
  | .brk => ∃ σ' H', Inv X pins σ' H' s' ∧ D.bk σ' H'
  | .cont => ∃ σ' H', Inv X pins σ' H' s' ∧ D.ct σ' H'
  | .ret u => ∃ v σ' H', Inv X pins σ' H' s' ∧ RelV v u ∧ D.rt v H'

def PE (X : Cx) (e : Expr) (t : TE) : Prop :=
  ∀ (pins : List (Addr × Obj)) (s : Shared) (σ : St) (H : Hp) (Q : VK), Inv X pins σ H s → t σ H Q → wpAny (model X.prog X.w) X.A (eval e X.env) (EP X pins σ Q) X.xe s
def PT (X : Cx) (e : Expr) (t : TT) : Prop :=
  ∀ (pins : List (Addr × Obj)) (s : Shared) (σ : St) (H : Hp) (Q : Bool → Hp → Prop), Inv X pins σ H s → t σ H Q → wpAny (model X.prog X.w) X.A (isTrue e X.env (eval e X.env)) (TP X pins σ Q) X.xe s
/-- a test whatever its 'whole' is (and, or) -/
def PW (X : Cx) (e : Expr) (t : TT) : Prop :=
  ∀ (whole : Sem Value) (pins : List (Addr × Obj)) (s : Shared) (σ : St) (H : Hp) (Q : Bool → Hp → Prop), Inv X pins σ H s → t σ H Q → wpAny (model X.prog X.w) X.A (isTrue e X.env whole) (TP X pins σ Q) X.xe s
theorem PW.pt {X : Cx} {e : Expr} {t : TT} (h : PW X e t) : PT X e t := h _
/-- an argument list (no star), from the left -/
def PA (X : Cx) (es : List Expr) (t : TA) : Prop :=
  ∀ (pos : Pos) (pins : List (Addr × Obj)) (s : Shared) (σ : St) (H : Hp) (Q : List V → Hp → Prop), Inv X pins σ H s → t σ H Q → wpAny (model X.prog X.w) X.A (spliced (backTo pos (starEach es X.env))) (AP X pins σ Q) X.xe s
def PS (X : Cx) (st : Stmt) (t : TS) : Prop :=
  ∀ (pins : List (Addr × Obj)) (s : Shared) (σ : St) (H : Hp) (D : Ends), Inv X pins σ H s → t D σ H → wpAny (model X.prog X.w) X.A (exec st X.env) (SP X pins D) X.xe s
def PSs (X : Cx) (st : List Stmt) (t : TS) : Prop :=
  ∀ (pins : List (Addr × Obj)) (s : Shared) (σ : St) (H : Hp) (D : Ends), Inv X pins σ H s → t D σ H → wpAny (model X.prog X.w) X.A (execs st X.env) (SP X pins D) X.xe s
/-- weaken the end -/
theorem thn {α : Type} {t : Sem α} {Q Q' : α → Shared → Prop} {M : Model} {A : Around} {E : Value → Shared → Prop} {s : Shared} (h : wpAny M A t Q E s) (hQ : ∀ a s, Q a s → Q' a s) : wpAny M A t Q' E s := wpAny_mono h hQ fun _ _ x => x
end L2

namespace L2
open PySem PySem.Spec PyProof.Rows
section
variable {X : Cx}

/-- two expressions in a row -/
theorem bin {a b : Expr} {ta tb : TE} (ha : PE X a ta) (hb : PE X b tb) {pins : List (Addr × Obj)} {s : Shared} {σ : St} {H : Hp} {R : V → V → Hp → Prop} (I : Inv X pins σ H s) (h : ta σ H fun x H1 => tb σ H1 fun y H2 => R x y H2)
    {α : Type} {Q : α → Shared → Prop} {f : Value → Value → Sem α}
    (hf : ∀ v u s2 x y H2, Inv X pins σ H2 s2 → RelV x v → RelV y u → R x y H2 → wpAny (model X.prog X.w) X.A (f v u) Q X.xe s2) :
    wpAny (model X.prog X.w) X.A (eval a X.env) (fun v s₁ => wpAny (model X.prog X.w) X.A (eval b X.env) (fun u s₂ => wpAny (model X.prog X.w) X.A (f v u) Q X.xe s₂) X.xe s₁) X.xe s := by
  refine thn (ha pins s σ H _ I h) fun v s1 ⟨x, H1, I1, r1, q1⟩ => ?_
  refine thn (hb pins s1 σ H1 _ I1 q1) fun u s2 ⟨y, H2, I2, r2, q2⟩ => ?_
  exact hf v u s2 x y H2 I2 r1 r2 q2

/-! ### names and constants -/
def tVar (i : Nat) : TE := fun σ H Q => ∃ v, σ[i]? = some (some v) ∧ Q v H
def tC (v : V) : TE := fun _ H Q => Q v H
theorem pe_var {i : Nat} {x : Str} {pos : Pos} (hN : X.N[i]? = some x) (hv : Vis X.env.scope x) (hd : (x == ("__debug__" : Str)) = false := by decide) (hcd : (x == ("__classdict__" : Str)) = false := by decide) : PE X (.Name x pos) (tVar i) := by
  intro pins s σ H Q I h
  obtain ⟨v, e, h⟩ := h
  obtain ⟨m, hn, hl⟩ := I.loc
  obtain ⟨u, r, l⟩ := hl i x v hN e hv
  have fin : EP X pins σ Q u s := ⟨v, H, I, r, h⟩
  rcases l with ⟨hk, hm⟩ | ⟨hk, c, hc, hcell⟩
  · exact wpAny_Name (wpAny_loadName_local I.ok.kind hk hn hm fin) hd
  · rcases hk with hk | hk
    · exact wpAny_Name (wpAny_loadName_cell I.ok.kind hk hc hcell fin) hd
    · exact wpAny_Name (wpAny_loadName_free I.ok.kind hk hc hcell fin hcd) hd
theorem pe_int {i j pos} : PE X (.Constant (.int i) j pos) (tC (.int i)) := fun _ _ _ H _ I h => wpAny_Constant_int ⟨.int i, H, I.tok _, ⟨_, rfl⟩, h⟩
theorem pe_bl {b j pos} : PE X (.Constant (.bool b) j pos) (tC (.bl b)) := fun _ _ _ H _ I h => Constant_bool ⟨.bl b, H, I, rfl, h⟩
theorem pe_non {j pos} : PE X (.Constant .none j pos) (tC .non) := fun _ _ _ H _ I h => Constant_none ⟨.non, H, I, rfl, h⟩
theorem pe_str {x j pos} : PE X (.Constant (.str x) j pos) (tC (.str x)) := fun _ _ _ H _ I h => Calls.Constant_str ⟨.str x, H, I.tok _, ⟨_, rfl⟩, h⟩

/-- a global name of the def -/
def Gl (X : Cx) (x : Str) : Prop := X.env.kindOf x = some .globalImplicit
theorem ld_glob {E : Value → Shared → Prop} {pins : List (Addr × Obj)} {s : Shared} {σ : St} {H : Hp} {x : Str} {u : Value} {pos : Pos} {Q : Value → Shared → Prop} (I : Inv X pins σ H s) (hg : Gl X x) (hm : X.mg x = some u) (h : Q u s)
    (hd : (x == ("__debug__" : Str)) = false := by decide) : wpAny (model X.prog X.w) X.A (eval (.Name x pos) X.env) Q E s :=
  Calls.Name_function_global I.ok.kind hg (Calls.loadGlobal_global (by rw [I.ok.glob]; exact I.mod.glob.keeps I.bk) hm h) hd
theorem ld_blt {E : Value → Shared → Prop} {pins : List (Addr × Obj)} {s : Shared} {σ : St} {H : Hp} {x : Str} {u : Value} {pos : Pos} {Q : Value → Shared → Prop} (I : Inv X pins σ H s) (hg : Gl X x) (hm : X.mg x = none) (hv : bootBuiltins x = some u) (h : Q u s)
    (hn : x ≠ "__name__" := by decide) (hd : (x == ("__debug__" : Str)) = false := by decide) : wpAny (model X.prog X.w) X.A (eval (.Name x pos) X.env) Q E s := by
  obtain ⟨mb, h1, h2⟩ := I.mod.blt
  exact Calls.Name_function_global I.ok.kind hg (Calls.loadGlobal_builtin (by rw [I.ok.glob]; exact I.mod.glob.keeps I.bk) hm (by rw [I.ok.blt]; exact h1.keeps I.bk) ((h2 x hn).trans hv) h) hd
/-- a module's constant, a class, a function, as a value -/
theorem pe_glob {x : Str} {v : V} {u : Value} {pos : Pos} (hg : Gl X x) (hm : X.mg x = some u) (r : RelV v u) (hd : (x == ("__debug__" : Str)) = false := by decide) : PE X (.Name x pos) (tC v) :=
  fun _ _ _ H _ I h => ld_glob I hg hm ⟨v, H, I, r, h⟩ hd
theorem pe_bltn {x : Str} {v : V} {u : Value} {pos : Pos} (hg : Gl X x) (hm : X.mg x = none) (hv : bootBuiltins x = some u) (r : RelV v u) (hn : x ≠ "__name__" := by decide) (hd : (x == ("__debug__" : Str)) = false := by decide) : PE X (.Name x pos) (tC v) :=
  fun _ _ _ H _ I h => ld_blt I hg hm hv ⟨v, H, I, r, h⟩ hn hd

/-! ### arithmetic -/
/-- two ints -/
def t2I (ta tb : TE) (k : Int → Int → Hp → Prop) : St → Hp → Prop := fun σ H => ta σ H fun x H1 => tb σ H1 fun y H2 => ∃ i j, x = .int i ∧ y = .int j ∧ k i j H2
def tAdd (ta tb : TE) : TE := fun σ H Q => t2I ta tb (fun i j H2 => Q (.int (i + j)) H2) σ H
def tSub (ta tb : TE) : TE := fun σ H Q => t2I ta tb (fun i j H2 => Q (.int (i - j)) H2) σ H
/-- the left factor below 2^64 -/
def tMul (ta tb : TE) : TE := fun σ H Q => t2I ta tb (fun i j H2 => (-(2 ^ 64) < i ∧ i < 2 ^ 64) ∧ Q (.int (i * j)) H2) σ H
variable {a b : Expr} {ta tb : TE} {pos : Pos}
theorem pe_add (ha : PE X a ta) (hb : PE X b tb) : PE X (.BinOp a .Add b pos) (tAdd ta tb) := by
  intro pins s σ H Q I h
  refine wpAny_BinOp (bin ha hb I h fun v u s2 x y H2 I2 rx ry q => ?_)
  obtain ⟨i, j, rfl, rfl, q⟩ := q
  obtain ⟨t, rfl⟩ := rx
  obtain ⟨t', rfl⟩ := ry
  exact add_int ⟨.int _, H2, I2.tok _, ⟨_, rfl⟩, q⟩
theorem pe_sub (ha : PE X a ta) (hb : PE X b tb) : PE X (.BinOp a .Sub b pos) (tSub ta tb) := by
  intro pins s σ H Q I h
  refine wpAny_BinOp (bin ha hb I h fun v u s2 x y H2 I2 rx ry q => ?_)
  obtain ⟨i, j, rfl, rfl, q⟩ := q
  obtain ⟨t, rfl⟩ := rx
  obtain ⟨t', rfl⟩ := ry
  exact sub_int ⟨.int _, H2, I2.tok _, ⟨_, rfl⟩, q⟩
theorem pe_mul (ha : PE X a ta) (hb : PE X b tb) : PE X (.BinOp a .Mult b pos) (tMul ta tb) := by
  intro pins s σ H Q I h
  refine wpAny_BinOp (bin ha hb I h fun v u s2 x y H2 I2 rx ry q => ?_)
  obtain ⟨i, j, rfl, rfl, ⟨q1, q2⟩, q⟩ := q
  obtain ⟨t, rfl⟩ := rx
  obtain ⟨t', rfl⟩ := ry
  exact mul_int ⟨.int _, H2, I2.tok _, ⟨_, rfl⟩, q⟩ (.of_left (intBits_le_64 q1 q2))

/-! ### comparisons -/
def PC (X : Cx) (op : CmpOp) (a b : Expr) (t : TE) : Prop :=
  ∀ (pins : List (Addr × Obj)) (s : Shared) (σ : St) (H : Hp) (Q : VK), Inv X pins σ H s → t σ H Q →
    wpAny (model X.prog X.w) X.A (eval a X.env) (fun v s₁ => wpAny (model X.prog X.w) X.A (eval b X.env) (fun u s₂ => wpAny (model X.prog X.w) X.A (compareOp op v u) (EP X pins σ Q) X.xe s₂) X.xe s₁) X.xe s
theorem nobehind (b : Expr) {op : CmpOp} (h : op ≠ .In) (h2 : op ≠ .NotIn) : behindInMarks op b = false := by
  have e1 : (op == CmpOp.In) = false := by cases op <;> first | rfl | exact absurd rfl h
  have e2 : (op == CmpOp.NotIn) = false := by cases op <;> first | rfl | exact absurd rfl h2
  cases b <;> simp [behindInMarks, e1, e2]
def tCmp (p : Int → Int → Bool) (ta tb : TE) : TE := fun σ H Q => t2I ta tb (fun i j H2 => Q (.bl (p i j)) H2) σ H
abbrev tLt : TE → TE → TE := tCmp fun i j => decide (i < j)
abbrev tLe : TE → TE → TE := tCmp fun i j => decide (i ≤ j)
abbrev tGt : TE → TE → TE := tCmp fun i j => decide (j < i)
abbrev tGe : TE → TE → TE := tCmp fun i j => decide (j ≤ i)
abbrev tEqI : TE → TE → TE := tCmp fun i j => decide (i = j)
abbrev tNeI : TE → TE → TE := tCmp fun i j => !decide (i = j)
/-- a comparison of two ints, by its rule -/
theorem pc_int {op : CmpOp} {p : Int → Int → Bool} (ha : PE X a ta) (hb : PE X b tb)
    (rule : ∀ (i j : Int) (t u : Tok) (Q : Value → Shared → Prop) (s : Shared), Q (.bool (p i j)) s → wpAny (model X.prog X.w) X.A (compareOp op (.int i t) (.int j u)) Q X.xe s) : PC X op a b (tCmp p ta tb) := by
  intro pins s σ H Q I h
  refine bin ha hb I h fun v u s2 x y H2 I2 rx ry q => ?_
  obtain ⟨i, j, rfl, rfl, q⟩ := q
  obtain ⟨t, rfl⟩ := rx
  obtain ⟨t', rfl⟩ := ry
  exact rule i j t t' _ s2 ⟨.bl _, H2, I2, rfl, q⟩
theorem pc_lt (ha : PE X a ta) (hb : PE X b tb) : PC X .Lt a b (tLt ta tb) := pc_int ha hb fun _ _ _ _ _ _ h => lt_int h
theorem pc_le (ha : PE X a ta) (hb : PE X b tb) : PC X .LtE a b (tLe ta tb) := pc_int ha hb fun _ _ _ _ _ _ h => le_int h
theorem pc_gt (ha : PE X a ta) (hb : PE X b tb) : PC X .Gt a b (tGt ta tb) := pc_int ha hb fun _ _ _ _ _ _ h => gt_int h
theorem pc_ge (ha : PE X a ta) (hb : PE X b tb) : PC X .GtE a b (tGe ta tb) := pc_int ha hb fun _ _ _ _ _ _ h => ge_int h
theorem pc_eqI (ha : PE X a ta) (hb : PE X b tb) : PC X .Eq a b (tEqI ta tb) := pc_int ha hb fun _ _ _ _ _ _ h => eq_int (by rw [Bool.beq_eq_decide_eq]; exact h)
theorem pc_neI (ha : PE X a ta) (hb : PE X b tb) : PC X .NotEq a b (tNeI ta tb) := pc_int ha hb fun _ _ _ _ _ _ h => ne_int (by rw [bne, Bool.beq_eq_decide_eq]; exact h)
/-- is None -/
def tIsN (ta : TE) : TE := fun σ H Q => ta σ H fun x H1 => Q (.bl (decide (x = .non))) H1
def tNotN (ta : TE) : TE := fun σ H Q => ta σ H fun x H1 => Q (.bl (!decide (x = .non))) H1
theorem RelV.none_iff {x : V} {v : Value} (r : RelV x v) : (v == Value.none) = decide (x = .non) := by
  cases x with
  | non => cases r; rfl
  | bl _ => cases r; rfl
  | int _ => obtain ⟨t, rfl⟩ := r; rfl
  | str _ => obtain ⟨t, rfl⟩ := r; rfl
  | byt _ => obtain ⟨t, rfl⟩ := r; rfl
  | flt _ => obtain ⟨t, rfl⟩ := r; rfl
  | ref _ => cases r; rfl
  | ty _ => cases r; rfl
theorem pc_isN {j pos'} (ha : PE X a ta) : PC X .Is a (.Constant .none j pos') (tIsN ta) := by
  intro pins s σ H Q I h
  refine thn (ha pins s σ H _ I h) fun v s1 ⟨x, H1, I1, r1, q1⟩ => ?_
  exact Constant_none (is_none_gen ⟨.bl _, H1, I1, by rw [r1.none_iff]; rfl, q1⟩)
theorem pc_notN {j pos'} (ha : PE X a ta) : PC X .IsNot a (.Constant .none j pos') (tNotN ta) := by
  intro pins s σ H Q I h
  refine thn (ha pins s σ H _ I h) fun v s1 ⟨x, H1, I1, r1, q1⟩ => ?_
  exact Constant_none (isnot_none_gen ⟨.bl _, H1, I1, by rw [r1.none_iff]; rfl, q1⟩)
/-- a comparison as a value, as a test -/
def tB (t : TE) : TT := fun σ H Q => t σ H fun x H1 => ∃ c, x = .bl c ∧ Q c H1
theorem pe_cmp {op : CmpOp} {t : TE} (h : PC X op a b t) (h1 : behindInMarks op b = false := by first | exact nobehind _ (by decide) (by decide) | rfl) : PE X (.Compare a [op] [b] pos) t := fun pins s σ H Q I hw => wpAny_Compare1 (h pins s σ H Q I hw) h1
theorem pt_cmp {op : CmpOp} {t : TE} (h : PC X op a b t) (h1 : behindInMarks op b = false := by first | exact nobehind _ (by decide) (by decide) | rfl) : PT X (.Compare a [op] [b] pos) (tB t) := by
  intro pins s σ H Q I hw
  refine wpAny_isTrue_Compare1 (thn (h pins s σ H _ I hw) fun v s1 h1 => thn h1 fun u s2 h2 => thn h2 fun c s3 ⟨x, H1, I1, r1, q1⟩ => ?_) h1
  obtain ⟨d, rfl, q⟩ := q1
  cases r1
  exact wpAny_truthy_bool ⟨H1, I1, q⟩
/-- an expression whose value is a bool, as a test -/
theorem pt_val {e : Expr} {t : TE} (h : PE X e t) (he : ∀ whole, isTrue e X.env whole = (do let v ← whole; standAt e.pos; holding [v] (truthy v)) := by intro _; rfl) : PT X e (tB t) := by
  intro pins s σ H Q I hw
  refine isTrue_plain (thn (h pins s σ H _ I hw) fun v s1 ⟨x, H1, I1, r1, q1⟩ => ?_) (he _)
  obtain ⟨d, rfl, q⟩ := q1
  cases r1
  exact wpAny_truthy_bool ⟨H1, I1, q⟩

/-! ### and, or, not -/
variable {tA tB' : TT} {rest : List Expr}
def tAnd (t u : TT) : TT := fun σ H Q => t σ H fun c H1 => if c = true then u σ H1 Q else Q false H1
def tOr (t u : TT) : TT := fun σ H Q => t σ H fun c H1 => if c = true then Q true H1 else u σ H1 Q
def tNot (t : TT) : TT := fun σ H Q => t σ H fun c H1 => Q (!c) H1
theorem pw_and1 (ha : PT X a tA) : PW X (.BoolOp .And [a] pos) tA := by
  intro wh pins s σ H Q I h
  refine isTrue_and (thn (ha pins s σ H Q I h) fun c s1 e => ?_)
  cases c with
  | true => exact isTrue_and_nil e
  | false => exact e
theorem pw_or1 (ha : PT X a tA) : PW X (.BoolOp .Or [a] pos) tA := by
  intro wh pins s σ H Q I h
  refine isTrue_or (thn (ha pins s σ H Q I h) fun c s1 e => ?_)
  cases c with
  | false => exact isTrue_or_nil e
  | true => exact e
theorem pw_and (ha : PT X a tA) (hb : PW X (.BoolOp .And (b :: rest) pos) tB') : PW X (.BoolOp .And (a :: b :: rest) pos) (tAnd tA tB') := by
  intro wh pins s σ H Q I h
  refine isTrue_and (thn (ha pins s σ H _ I h) fun c s1 ⟨H1, I1, q1⟩ => ?_)
  cases c with
  | true => exact hb wh pins s1 σ H1 Q I1 q1
  | false => exact ⟨H1, I1, q1⟩
theorem pw_or (ha : PT X a tA) (hb : PW X (.BoolOp .Or (b :: rest) pos) tB') : PW X (.BoolOp .Or (a :: b :: rest) pos) (tOr tA tB') := by
  intro wh pins s σ H Q I h
  refine isTrue_or (thn (ha pins s σ H _ I h) fun c s1 ⟨H1, I1, q1⟩ => ?_)
  cases c with
  | true => exact ⟨H1, I1, q1⟩
  | false => exact hb wh pins s1 σ H1 Q I1 q1
theorem pt_not (ha : PT X a tA) : PT X (.UnaryOp .Not a pos) (tNot tA) := by
  intro pins s σ H Q I h
  exact isTrue_not (ha pins s σ H (fun c H1 => Q (!c) H1) I h)
/-- .. as values (bools) -/
def tAndV (ta tb : TE) : TE := fun σ H Q => ta σ H fun x H1 => ∃ c, x = .bl c ∧ if c = true then tb σ H1 Q else Q (.bl false) H1
def tOrV (ta tb : TE) : TE := fun σ H Q => ta σ H fun x H1 => ∃ c, x = .bl c ∧ if c = true then Q (.bl true) H1 else tb σ H1 Q
def tNotV (ta : TE) : TE := fun σ H Q => ta σ H fun x H1 => ∃ c, x = .bl c ∧ Q (.bl (!c)) H1
theorem pe_one {op} {t : TE} (h : PE X a t) : PE X (.BoolOp op [a] pos) t := fun pins s σ H Q I hw => BoolOp_one (h pins s σ H Q I hw)
theorem pe_and (ha : PE X a ta) (hb : PE X (.BoolOp .And (b :: rest) pos) tb) : PE X (.BoolOp .And (a :: b :: rest) pos) (tAndV ta tb) := by
  intro pins s σ H Q I h
  refine BoolOp_and (thn (ha pins s σ H _ I h) fun v s1 ⟨x, H1, I1, r1, q1⟩ => ?_)
  obtain ⟨c, rfl, q1⟩ := q1
  cases r1
  refine wpAny_truthy_bool ?_
  cases c with
  | true => exact hb pins s1 σ H1 Q I1 q1
  | false => exact ⟨.bl false, H1, I1, rfl, q1⟩
theorem pe_or (ha : PE X a ta) (hb : PE X (.BoolOp .Or (b :: rest) pos) tb) : PE X (.BoolOp .Or (a :: b :: rest) pos) (tOrV ta tb) := by
  intro pins s σ H Q I h
  refine BoolOp_or (thn (ha pins s σ H _ I h) fun v s1 ⟨x, H1, I1, r1, q1⟩ => ?_)
  obtain ⟨c, rfl, q1⟩ := q1
  cases r1
  refine wpAny_truthy_bool ?_
  cases c with
  | false => exact hb pins s1 σ H1 Q I1 q1
  | true => exact ⟨.bl true, H1, I1, rfl, q1⟩
theorem pe_not (ha : PE X a ta) : PE X (.UnaryOp .Not a pos) (tNotV ta) := by
  intro pins s σ H Q I h
  refine UnaryOp_ (thn (ha pins s σ H _ I h) fun v s1 ⟨x, H1, I1, r1, q1⟩ => ?_)
  obtain ⟨c, rfl, q1⟩ := q1
  cases r1
  exact not_of (wpAny_truthy_bool ⟨.bl (!c), H1, I1, rfl, q1⟩)
/-- a if t else b -/
def tIf (t : TT) (ta tb : TE) : TE := fun σ H Q => t σ H fun c H1 => if c = true then ta σ H1 Q else tb σ H1 Q
theorem pe_ifExp {c : Expr} (hc : PT X c tA) (ha : PE X a ta) (hb : PE X b tb) : PE X (.IfExp c a b pos) (tIf tA ta tb) := by
  intro pins s σ H Q I h
  refine wpAny_IfExp (thn (hc pins s σ H _ I h) fun d s1 ⟨H1, I1, q1⟩ => ?_)
  cases d with
  | true => exact ha pins s1 σ H1 Q I1 q1
  | false => exact hb pins s1 σ H1 Q I1 q1
end
end L2

namespace L2
open PySem PySem.Spec PyProof.Rows

/-! ### a list, a tuple that is read: tracked, frozen, or an object of the module -/
def SqL (K : PySem.W.Frag) (H : Hp) (a : Addr) (xs : List V) : Prop :=
  Rd H a (.lst xs) ∨
    ∃ (o : Obj) (its : Array Value) (n : Nat), K.lookup a = some o ∧ o.cls = .type "list" ∧ o.dict = none ∧ o.data = .seq its n ∧ its.size ≤ sizeLine ∧ Vals xs its.toList
def SqT (K : PySem.W.Frag) (H : Hp) (a : Addr) (xs : List V) : Prop :=
  Rd H a (.tup xs) ∨
    ∃ (o : Obj) (its : Array Value) (n : Nat), K.lookup a = some o ∧ o.cls = .type "tuple" ∧ o.data = .seq its n ∧ its.size ≤ sizeLine ∧ Vals xs its.toList
def absV : Value → Option V
  | .none => some .non
  | .bool b => some (.bl b)
  | .int i _ => some (.int i)
  | .str x _ => some (.str x)
  | .bytes b _ => some (.byt b)
  | .float b _ => some (.flt b)
  | .ref a => some (.ref a)
  | .type n => some (.ty n)
  | _ => none
theorem RelV.abs {x : V} {u : Value} (r : RelV x u) : absV u = some x := by
  cases x with
  | non => cases r; rfl
  | bl _ => cases r; rfl
  | int _ => obtain ⟨t, rfl⟩ := r; rfl
  | str _ => obtain ⟨t, rfl⟩ := r; rfl
  | byt _ => obtain ⟨t, rfl⟩ := r; rfl
  | flt _ => obtain ⟨t, rfl⟩ := r; rfl
  | ref _ => cases r; rfl
  | ty _ => cases r; rfl
theorem RelV.inj {x y : V} {u : Value} (r : RelV x u) (q : RelV y u) : x = y := Option.some.inj (r.abs.symm.trans q.abs)
theorem Vals.inj : ∀ {xs ys : List V} {us : List Value}, Vals xs us → Vals ys us → xs = ys
  | _, _, _, .nil, .nil => rfl
  | _, _, _, .cons r t, .cons r' t' => by rw [r.inj r', Vals.inj t t']
section
variable {X : Cx} {pins : List (Addr × Obj)} {σ : St} {H : Hp} {s : Shared} {a : Addr} {xs ys : List V}
theorem SqL.of {K : PySem.W.Frag} (h : H a = some (.lst xs)) : SqL K H a xs := .inl (.inl h)
theorem SqT.of {K : PySem.W.Frag} (h : H a = some (.tup xs)) : SqT K H a xs := .inl (.inl h)
theorem Inv.list (I : Inv X pins σ H s) (h : SqL X.K H a xs) : ∃ its : List Value, Vals xs its ∧ PlainL s.heap a its.toArray ∧ xs.length ≤ sizeLine := by
  rcases h with h | ⟨o, its, n, hk, hc, hd, hs, hz, r⟩
  · obtain ⟨z, its, n, r, e⟩ := h.ok I.hok
    exact ⟨its, r, ⟨_, n, e, rfl, rfl, rfl⟩, z⟩
  · refine ⟨its.toList, r, ⟨o, n, I.kIn a o hk, hc, hd, by simpa using hs⟩, ?_⟩
    have e := r.length
    simp only [Array.length_toList] at e
    omega
theorem Inv.tuple (I : Inv X pins σ H s) (h : SqT X.K H a xs) : ∃ its : List Value, Vals xs its ∧ IsTup s.heap a its.toArray ∧ xs.length ≤ sizeLine := by
  rcases h with h | ⟨o, its, n, hk, hc, hs, hz, r⟩
  · obtain ⟨z, its, r, p⟩ := h.ok I.hok
    exact ⟨its, r, p, z⟩
  · refine ⟨its.toList, r, ⟨o, I.kIn a o hk, hc, n, by simpa using hs⟩, ?_⟩
    have e := r.length
    simp only [Array.length_toList] at e
    omega
theorem Inv.list_inj (I : Inv X pins σ H s) (h : SqL X.K H a xs) (h' : SqL X.K H a ys) : xs = ys := by
  obtain ⟨its, r, ⟨o, n, e, _, _, d⟩, _⟩ := I.list h
  obtain ⟨its', r', ⟨o', n', e', _, _, d'⟩, _⟩ := I.list h'
  rw [e] at e'; cases e'
  rw [d] at d'
  injection d' with d1 _
  have : its = its' := by simpa using congrArg Array.toList d1
  subst this
  exact r.inj r'
theorem Inv.tuple_inj (I : Inv X pins σ H s) (h : SqT X.K H a xs) (h' : SqT X.K H a ys) : xs = ys := by
  obtain ⟨its, r, ⟨o, e, _, n, d⟩, _⟩ := I.tuple h
  obtain ⟨its', r', ⟨o', e', _, n', d'⟩, _⟩ := I.tuple h'
  rw [e] at e'; cases e'
  rw [d] at d'
  injection d' with d1 _
  have : its = its' := by simpa using congrArg Array.toList d1
  subst this
  exact r.inj r'
end

/-! ### another wish about exceptions -/
abbrev Cx.wish (X : Cx) (E : Value → Shared → Prop) : Cx := { X with xe := E }
/-- no exception leaves -/
abbrev Cx.nox (X : Cx) : Cx := X.wish fun _ _ => False
theorem Cx.Ok.wish {X : Cx} (ok : X.Ok) (E : Value → Shared → Prop) : (X.wish E).Ok :=
  ⟨ok.mod, ok.kind, ok.glob, ok.blt, ok.above, ok.inj, ok.has, ok.cab, ok.hd, ok.frames, ok.stk, ok.exf, ok.bs, ok.bsz, ok.noex, ok.exfs, ok.funs, ok.frf⟩
theorem Cx.Ok.unwish {X : Cx} {E : Value → Shared → Prop} (ok : (X.wish E).Ok) : X.Ok :=
  ⟨ok.mod, ok.kind, ok.glob, ok.blt, ok.above, ok.inj, ok.has, ok.cab, ok.hd, ok.frames, ok.stk, ok.exf, ok.bs, ok.bsz, ok.noex, ok.exfs, ok.funs, ok.frf⟩
section
variable {X : Cx} {pins : List (Addr × Obj)} {σ : St} {H : Hp} {s : Shared} {E : Value → Shared → Prop}
theorem Inv.wish (I : Inv X pins σ H s) (E : Value → Shared → Prop) : Inv (X.wish E) pins σ H s := ⟨I.ok.wish E, I.os, I.bare, I.base, I.loc, I.cell, I.free, I.freeC, I.pin, I.hok, I.len⟩
theorem Inv.unwish (I : Inv (X.wish E) pins σ H s) : Inv X pins σ H s := ⟨I.ok.unwish, I.os, I.bare, I.base, I.loc, I.cell, I.free, I.freeC, I.pin, I.hok, I.len⟩
theorem SP.unwish {D : Ends} {f : Flow} {s' : Shared} (h : SP (X.wish E) pins D f s') : SP X pins D f s' := by
  cases f with
  | next => obtain ⟨σ', H', I, q⟩ := h; exact ⟨σ', H', I.unwish, q⟩
  | brk => obtain ⟨σ', H', I, q⟩ := h; exact ⟨σ', H', I.unwish, q⟩
  | cont => obtain ⟨σ', H', I, q⟩ := h; exact ⟨σ', H', I.unwish, q⟩
  | ret u => obtain ⟨v, σ', H', I, r, q⟩ := h; exact ⟨v, σ', H', I.unwish, r, q⟩
theorem PE.nox {e : Expr} {t : TE} (h : PE X.nox e t) : PE X e t := fun pins s σ H Q I hw =>
  wpAny_mono (h pins s σ H Q (I.wish _) hw) (fun _ _ ⟨v, H', I', r, q⟩ => ⟨v, H', I'.unwish, r, q⟩) fun _ _ z => False.elim z
theorem PT.nox {e : Expr} {t : TT} (h : PT X.nox e t) : PT X e t := fun pins s σ H Q I hw =>
  wpAny_mono (h pins s σ H Q (I.wish _) hw) (fun _ _ ⟨H', I', q⟩ => ⟨H', I'.unwish, q⟩) fun _ _ z => False.elim z
theorem PSs.nox {st : List Stmt} {t : TS} (h : PSs X.nox st t) : PSs X st t := fun pins s σ H D I hw =>
  wpAny_mono (h pins s σ H D (I.wish _) hw) (fun _ _ q => q.unwish) fun _ _ z => False.elim z
end

/-! ### blocks and small statements -/
section
variable {X : Cx} {st : Stmt} {rest : List Stmt} {t u : TS} {e : Expr} {te : TE} {pos : Pos}
def tNext : TS := fun D σ H => D.nx σ H
def tSeq (t u : TS) : TS := fun D σ H => t { D with nx := u D } σ H
theorem pss_nil : PSs X [] tNext := fun _ _ σ H _ I h => wpAny_execs_nil ⟨σ, H, I, h⟩
theorem pss_cons (h1 : PS X st t) (h2 : PSs X rest u) : PSs X (st :: rest) (tSeq t u) := by
  intro pins s σ H D I h
  refine wpAny_execs_cons (thn (h1 pins s σ H { D with nx := u D } I h) fun f s1 q => ?_)
  cases f with
  | next =>
    obtain ⟨σ', H', I', q⟩ := q
    exact h2 pins s1 σ' H' D I' q
  | ret v => exact q
  | brk => exact q
  | cont => exact q
theorem pss_one (h1 : PS X st t) : PSs X [st] t := by
  intro pins s σ H D I h
  refine wpAny_execs_cons (thn (h1 pins s σ H D I h) fun f s1 q => ?_)
  cases f with
  | next => exact wpAny_execs_nil q
  | ret v => exact q
  | brk => exact q
  | cont => exact q
def tBreak : TS := fun D σ H => D.bk σ H
def tCont : TS := fun D σ H => D.ct σ H
theorem ps_pass : PS X (.Pass pos) tNext := fun _ _ σ H _ I h => wpAny_Pass ⟨σ, H, I, h⟩
theorem ps_break : PS X (.Break pos) tBreak := fun _ _ σ H _ I h => wpAny_Break ⟨σ, H, I, h⟩
theorem ps_continue : PS X (.Continue pos) tCont := fun _ _ σ H _ I h => wpAny_Continue ⟨σ, H, I, h⟩
/-- in a def's body nothing is shown -/
theorem Inv.quiet {pins : List (Addr × Obj)} {σ : St} {H : Hp} {s : Shared} (I : Inv X pins σ H s) : interactive X.env = false := by simp [interactive, I.ok.kind]
/-- a docstring -/
theorem ps_doc {x j pos pos'} : PS X (.Expr (.Constant (.str x) j pos) pos') tNext := fun _ s σ H _ I h => wpAny_Expr (Calls.Constant_str (show SP X _ _ .next { s with toks := s.toks + 1 } from ⟨σ, H, I.tok _, h⟩)) I.quiet
/-- an expression whose value is dropped -/
def tDrop (te : TE) : TS := fun D σ H => te σ H fun _ H1 => D.nx σ H1
theorem ps_expr (he : PE X e te) (hs : swapsWith e none pos.line X.env = pure false := by rfl) : PS X (.Expr e pos) (tDrop te) := by
  intro pins s σ H D I h
  exact wpAny_Expr_any (thn (he pins s σ H _ I h) fun v s1 ⟨x, H1, I1, r1, q1⟩ => ⟨σ, H1, I1, q1⟩) I.quiet hs
def tRet (te : TE) : TS := fun D σ H => te σ H D.rt
theorem ps_ret (he : PE X e te) : PS X (.Return (some e) pos) (tRet te) := by
  intro pins s σ H D I h
  exact wpAny_Return_some (thn (he pins s σ H _ I h) fun v s1 ⟨x, H1, I1, r1, q1⟩ => ⟨x, σ, H1, I1, r1, q1⟩)
def tRetN : TS := fun D _ H => D.rt .non H
theorem ps_retN : PS X (.Return none pos) tRetN := fun _ _ σ H _ I h => wpAny_Return_none ⟨.non, σ, H, I, rfl, h⟩
def tIfS (c : TT) (t u : TS) : TS := fun D σ H => c σ H fun b H1 => if b = true then t D σ H1 else u D σ H1
theorem ps_if {c : Expr} {a b : List Stmt} {tc : TT} (hc : PT X c tc) (ha : PSs X a t) (hb : PSs X b u) : PS X (.If c a b pos) (tIfS tc t u) := by
  intro pins s σ H D I h
  refine wpAny_If (thn (hc pins s σ H _ I h) fun d s1 ⟨H1, I1, q1⟩ => ?_)
  cases d with
  | true => exact ha pins s1 σ H1 D I1 q1
  | false => exact hb pins s1 σ H1 D I1 q1
/-- code that the proof never comes to -/
def tNever : TS := fun _ _ _ => False
theorem ps_never : PS X st tNever := fun _ _ _ _ _ _ h => h.elim
theorem pss_never {sts : List Stmt} : PSs X sts tNever := fun _ _ _ _ _ _ h => h.elim
end

/-! ### targets -/
abbrev TG := V → St → Hp → (St → Hp → Prop) → Prop
abbrev TGs := List V → St → Hp → (St → Hp → Prop) → Prop
def PG (X : Cx) (target : Expr) (t : TG) : Prop :=
  ∀ (pins : List (Addr × Obj)) (s : Shared) (σ : St) (H : Hp) (v : V) (u : Value) (Q : St → Hp → Prop), Inv X pins σ H s → RelV v u → t v σ H Q →
    wpAny (model X.prog X.w) X.A (assign target X.env u) (fun _ s' => ∃ σ' H', Inv X pins σ' H' s' ∧ Q σ' H') X.xe s
/-- several targets, one after another -/
def PGs (X : Cx) (ts : List Expr) (t : TGs) : Prop :=
  ∀ (pins : List (Addr × Obj)) (s : Shared) (σ : St) (H : Hp) (vs : List V) (us : List Value) (Q : St → Hp → Prop), Inv X pins σ H s → Vals vs us → t vs σ H Q →
    wpAny (model X.prog X.w) X.A (assignInOrder ((assignEach ts X.env).map (·.2)) us) (fun _ s' => ∃ σ' H', Inv X pins σ' H' s' ∧ Q σ' H') X.xe s
/-- o[i] = v, by values -/
abbrev TSet := V → V → V → Hp → (Hp → Prop) → Prop
def PSet (X : Cx) (t : TSet) : Prop :=
  ∀ (pins : List (Addr × Obj)) (s : Shared) (σ : St) (H : Hp) (o i v : V) (ov iv u : Value) (Q : Hp → Prop), Inv X pins σ H s → RelV o ov → RelV i iv → RelV v u → t o i v H Q →
    wpAny (model X.prog X.w) X.A (setItem ov iv u) (fun _ s' => ∃ H', Inv X pins σ H' s' ∧ Q H') X.xe s
/-- a op= b, by values -/
abbrev TIp := V → V → Hp → VK → Prop
def PIp (X : Cx) (op : Operator) (t : TIp) : Prop :=
  ∀ (pins : List (Addr × Obj)) (s : Shared) (σ : St) (H : Hp) (x y : V) (v u : Value) (Q : VK), Inv X pins σ H s → RelV x v → RelV y u → t x y H Q →
    wpAny (model X.prog X.w) X.A (inplaceOp op v u) (EP X pins σ Q) X.xe s
section
variable {X : Cx} {pos : Pos}
def gName (i : Nat) : TG := fun v σ H Q => Q (σ.set i (some v)) H
theorem pg_name {i : Nat} {x : Str} (hN : X.N.Nodup) (hi : X.N[i]? = some x) (hx : Loc X.env.scope x) (hf : X.fn x = true ∨ X.env.scope.names.lookup x = some .local := by first | exact .inl rfl | exact .inr rfl | assumption) : PG X (.Name x pos) (gName i) := by
  intro pins s σ H v u Q I r h
  exact wpAny_assign_Name (store_ok I hN hi hx r (fun s' I' => ⟨_, H, I', h⟩) hf)
def gNil : TGs := fun vs σ H Q => vs = [] ∧ Q σ H
def gCons (t : TG) (u : TGs) : TGs := fun vs σ H Q => ∃ v r, vs = v :: r ∧ t v σ H fun σ' H' => u r σ' H' Q
theorem pgs_nil : PGs X [] gNil := by
  intro pins s σ H vs us Q I r h
  obtain ⟨e, h⟩ := h
  subst e
  cases r
  exact assignInOrder_nil ⟨σ, H, I, h⟩
theorem pgs_cons {e : Expr} {es : List Expr} {t : TG} {u : TGs} (h1 : PG X e t) (h2 : PGs X es u)
    (hs : (assignEach (e :: es) X.env).map (·.2) = assign e X.env :: (assignEach es X.env).map (·.2) := by rfl) : PGs X (e :: es) (gCons t u) := by
  intro pins s σ H vs us Q I r h
  obtain ⟨v, vr, e1, h⟩ := h
  subst e1
  cases r with
  | cons r rr =>
    rw [hs]
    refine assignInOrder_cons (thn (h1 pins s σ H _ _ _ I r h) fun _ s1 ⟨σ1, H1, I1, q1⟩ => ?_)
    exact h2 pins s1 σ1 H1 _ _ Q I1 rr q1
/-- (a, b, ..) = a tuple of that length -/
def gTup (K : PySem.W.Frag) (n : Nat) (t : TGs) : TG := fun v σ H Q => ∃ a xs, v = .ref a ∧ SqT K H a xs ∧ xs.length = n ∧ t xs σ H Q
theorem pg_tup {es : List Expr} {k : Nat} {t : TGs} {n : Nat} (hc : X.calm = true) (h : PGs X es t)
    (hn : (assignEach es X.env).length = n := by rfl) (hst : (assignEach es X.env).findIdx? (·.1) = none := by rfl) : PG X (.Tuple es k pos) (gTup X.K n t) := by
  intro pins s σ H v u Q I r hw
  obtain ⟨a, xs, e1, hq, hl, hw⟩ := hw
  subst e1
  cases r
  obtain ⟨its, rv, ht, hz⟩ := I.tuple hq
  refine assign_Tuple_tuple (I.ok.hd hc) ht (by simp [hn, ← hl, rv.length]) hst fun h' hx => ?_
  have I1 : Inv X pins σ H { s with heap := h' } := I.kept (t' := s.toks) fun b o e => hx b o (Nat.ne_of_lt (Heap.lt_size e)) e
  exact h pins _ σ H xs _ Q I1 (by simpa using rv) hw
/-- o[i] = .. -/
def gSub (to ti : TE) (t : TSet) : TG := fun v σ H Q => to σ H fun o H1 => ti σ H1 fun i H2 => t o i v H2 fun H3 => Q σ H3
theorem pg_sub {o i : Expr} {to ti : TE} {t : TSet} (ho : PE X o to) (hi : PE X i ti) (hs : PSet X t)
    (ha : ∀ v, assign (.Subscript o i pos) X.env v = (do
      let ov ← holding [v] (eval o X.env)
      let iv ← holding [v, ov] (eval i X.env)
      standAt pos
      holding [v, ov, iv] (setItem ov iv v)
      release [v, ov, iv] []) := by intro _; rfl) : PG X (.Subscript o i pos) (gSub to ti t) := by
  intro pins s σ H v u Q I r h
  rw [ha]
  refine wpAny_bind (wpAny_holding (thn (ho pins s σ H _ I h) fun ov s1 ⟨x, H1, I1, r1, q1⟩ => ?_))
  refine wpAny_bind (wpAny_holding (thn (hi pins s1 σ H1 _ I1 q1) fun iv s2 ⟨y, H2, I2, r2, q2⟩ => ?_))
  refine wpAny_bind (wpAny_standAt (wpAny_bind (wpAny_holding (thn (hs pins s2 σ H2 x y v ov iv u _ I2 r1 r2 r q2) fun _ s3 ⟨H3, I3, q3⟩ => ?_))))
  exact wpAny_release ⟨σ, H3, I3, q3⟩
/-- target = value -/
def tAsg (te : TE) (g : TG) : TS := fun D σ H => te σ H fun x H1 => g x σ H1 D.nx
theorem ps_asg {tg e : Expr} {te : TE} {g : TG} (he : PE X e te) (hg : PG X tg g) (hs : swapsWithSole [tg] e pos.line X.env = pure false := by rfl) (hw : swappedStores [tg] e X.env = pure none := by rfl)
    (h1 : (assignEach [tg] X.env).map (·.2) = [assign tg X.env] := by rfl) : PS X (.Assign [tg] e pos) (tAsg te g) := by
  intro pins s σ H D I h
  refine wpAny_Assign_stores (thn (he pins s σ H _ I h) fun v s1 ⟨x, H1, I1, r1, q1⟩ => ?_) hs hw
  rw [h1]
  exact thn (hg pins s1 σ H1 x v _ I1 r1 q1) fun _ s2 q => q
/-- name = value -/
theorem ps_set {i : Nat} {x : Str} {e : Expr} {te : TE} {pos' : Pos} (hN : X.N.Nodup) (hi : X.N[i]? = some x) (hx : Loc X.env.scope x) (he : PE X e te) (hs : swapsWith e (some (.Name x pos')) pos.line X.env = pure false := by rfl) (hf : X.fn x = true ∨ X.env.scope.names.lookup x = some .local := by first | exact .inl rfl | exact .inr rfl | assumption) :
    PS X (.Assign [.Name x pos'] e pos) (tAsg te (gName i)) := by
  intro pins s σ H D I h
  refine wpAny_Assign_Name (thn (he pins s σ H _ I h) fun v s1 ⟨y, H1, I1, r1, q1⟩ => ?_) hs
  exact store_ok I1 hN hi hx r1 (fun s2 I2 => ⟨_, H1, I2, q1⟩) hf
/-- a, b = x, y with plain local names: stored from the right; the pair itself is not tracked (the opening rows as in PyProof/Rows/TupAssign.lean:23) -/
def tPar (i j : Nat) (ta : TA) : TS := fun D σ H => ta σ H fun vs H1 => ∃ v w, vs = [v, w] ∧ D.nx ((σ.set i (some v)).set j (some w)) H1
theorem ps_par {i j : Nat} {x y : Str} {a b : Expr} {ta : TA} {px py pt : Pos} {kt k2 pt2} (hc : X.calm = true) (hN : X.N.Nodup) (hi : X.N[i]? = some x) (hj : X.N[j]? = some y) (hij : i ≠ j)
    (hx : X.env.scope.names.lookup x = some .local) (hy : X.env.scope.names.lookup y = some .local) (ha : PA X [a, b] ta)
    (hw : swappedStores [.Tuple [.Name x px, .Name y py] kt pt] (.Tuple [a, b] k2 pt2) X.env = pure (some [x, y]))
    (hs : swapsWithSole [.Tuple [.Name x px, .Name y py] kt pt] (.Tuple [a, b] k2 pt2) pos.line X.env = pure false := by rfl) :
    PS X (.Assign [.Tuple [.Name x px, .Name y py] kt pt] (.Tuple [a, b] k2 pt2) pos) (tPar i j ta) := by
  intro pins s σ H D I h
  rw [exec_Assign_arm]
  refine wpAny_bind (wpAny_standAt ?_)
  rw [hs]
  refine wpAny_bind (wpAny_pure ?_)
  rw [if_neg (by decide)]
  refine wpAny_bind (Tuple_ (thn (ha _ pins s σ H _ I h) fun us s1 ⟨vs, H1, I1, r1, q1⟩ => ?_))
  obtain ⟨v, w, e1, q1⟩ := q1
  subst e1
  obtain ⟨u1, u2, rfl, rv, rw'⟩ : ∃ u1 u2, us = [u1, u2] ∧ RelV v u1 ∧ RelV w u2 := by
    cases r1 with
    | cons p q =>
      cases q with
      | cons p' q' =>
        cases q'
        exact ⟨_, _, rfl, p, p'⟩
  refine wpAny_newObj_type ?_ (by show 2 ≤ sizeLine; decide)
  have I2 : Inv X pins σ H1 { s1 with heap := s1.heap.push { cls := .type "tuple", data := .seq [u1, u2].toArray } } := I1.kept (t' := s1.toks) fun b o e => Heap.get?_push_of_some _ e
  rw [hw]
  refine wpAny_bind (wpAny_pure ?_)
  show wpAny (model X.prog X.w) X.A (do rule "assign.swapped-stores"; let items ← unpackItems (.ref s1.heap.objs.size) 2 none; assignInOrder [fun v => bindName X.env y v, fun v => bindName X.env x v] items.reverse; pure Flow.next) _ _ _
  refine wpAny_bind (wpAny_rule (wpAny_bind (unpackItems_tuple (items := #[u1, u2]) (I.ok.hd hc) (IsTup.new s1.heap _) fun h' hx' => ?_)))
  have I3 := I2.kept (h' := h') (t' := s1.toks) fun b o e => hx' b o (Nat.ne_of_lt (Heap.lt_size e)) e
  show wpAny _ _ (assignInOrder [fun v => bindName X.env y v, fun v => bindName X.env x v] [u2, u1] >>= fun _ => pure Flow.next) _ _ _
  refine wpAny_bind (assignInOrder_cons (wpAny_bindName (store_ok I3 hN hj (.inl hy) rw' (fun s2 I4 => ?_) (.inr hy))))
  refine assignInOrder_cons (wpAny_bindName (store_ok I4 hN hi (.inl hx) rv (fun s3 I5 => assignInOrder_nil (wpAny_pure ?_)) (.inr hx)))
  rw [List.set_comm _ _ (Ne.symm hij)] at I5
  exact ⟨_, H1, I5, q1⟩
/-- name op= e -/
def tAug (i : Nat) (te : TE) (ti : TIp) : TS := fun D σ H => ∃ x, σ[i]? = some (some x) ∧ te σ H fun y H1 => ti x y H1 fun z H2 => D.nx (σ.set i (some z)) H2
theorem ps_aug {i : Nat} {x : Str} {e : Expr} {te : TE} {op : Operator} {ti : TIp} {pos' : Pos} (hN : X.N.Nodup) (hi : X.N[i]? = some x) (hx : Loc X.env.scope x) (he : PE X e te) (ho : PIp X op ti) (hf : X.fn x = true ∨ X.env.scope.names.lookup x = some .local := by first | exact .inl rfl | exact .inr rfl | assumption) :
    PS X (.AugAssign (.Name x pos') op e pos) (tAug i te ti) := by
  intro pins s σ H D I h
  obtain ⟨v, e1, h⟩ := h
  obtain ⟨m, hn, hl⟩ := I.loc
  have vis : Vis X.env.scope x := by rcases hx with k | k; exact .inl k; exact .inr (.inl k)
  obtain ⟨u, r, l⟩ := hl i x v hi e1 vis
  refine wpAny_AugAssign_Name ?_
  have go : wpAny (model X.prog X.w) X.A (eval e X.env) (fun w s₂ => wpAny (model X.prog X.w) X.A (inplaceOp op u w) (fun r s₃ => wpAny (model X.prog X.w) X.A (storeName X.env x r) (fun _ => SP X pins D .next) X.xe s₃) X.xe s₂) X.xe s := by
    refine thn (he pins s σ H _ I h) fun w s1 ⟨y, H1, I1, r1, q1⟩ => ?_
    refine thn (ho pins s1 σ H1 v y u w _ I1 r r1 q1) fun z s2 ⟨zv, H2, I2, r2, q2⟩ => ?_
    exact store_ok I2 hN hi hx r2 (fun s3 I3 => ⟨_, H2, I3, q2⟩) hf
  rcases l with ⟨hk, hm⟩ | ⟨hk, c, hc, hcell⟩
  · exact wpAny_loadName_local I.ok.kind hk hn hm go
  · rcases hk with hk | hk
    · exact wpAny_loadName_cell I.ok.kind hk hc hcell go
    · rcases hx with k | k
      · have : X.env.scope.names.lookup x = some .free := hk
        rw [k] at this; cases this
      · have : X.env.scope.names.lookup x = some .free := hk
        rw [k] at this; cases this
/-- o[i] op= e -/
def tAugS (to ti te : TE) (tget : V → V → Hp → VK → Prop) (tip : TIp) (tset : TSet) : TS := fun D σ H => to σ H fun o H1 => ti σ H1 fun i H2 => tget o i H2 fun x H3 => te σ H3 fun y H4 => tip x y H4 fun z H5 => tset o i z H5 fun H6 => D.nx σ H6
/-- o[i], by values -/
def PGet (X : Cx) (t : V → V → Hp → VK → Prop) : Prop :=
  ∀ (pins : List (Addr × Obj)) (s : Shared) (σ : St) (H : Hp) (o i : V) (ov iv : Value) (Q : VK), Inv X pins σ H s → RelV o ov → RelV i iv → t o i H Q →
    wpAny (model X.prog X.w) X.A (getItem ov iv) (EP X pins σ Q) X.xe s
theorem ps_augS {o i e : Expr} {to ti te : TE} {tget : V → V → Hp → VK → Prop} {tip : TIp} {tset : TSet} {op : Operator} {tpos : Pos} (ho : PE X o to) (hi : PE X i ti) (hg : PGet X tget) (he : PE X e te) (hp : PIp X op tip) (hs : PSet X tset)
    (ha : ∀ ov iv new, augStore i ov iv new = (do holding [new, ov, iv] (setItem ov iv new); release [new, ov, iv] []; pure .next) := by intros; rfl) : PS X (.AugAssign (.Subscript o i tpos) op e pos) (tAugS to ti te tget tip tset) := by
  intro pins s σ H D I h
  refine wpAny_AugAssign_SubscriptAny (thn (ho pins s σ H _ I h) fun ov s1 ⟨x1, H1, I1, r1, q1⟩ => ?_) ha
  refine thn (hi pins s1 σ H1 _ I1 q1) fun iv s2 ⟨x2, H2, I2, r2, q2⟩ => ?_
  refine thn (hg pins s2 σ H2 x1 x2 ov iv _ I2 r1 r2 q2) fun old s3 ⟨x3, H3, I3, r3, q3⟩ => ?_
  refine thn (he pins s3 σ H3 _ I3 q3) fun v s4 ⟨x4, H4, I4, r4, q4⟩ => ?_
  refine thn (hp pins s4 σ H4 x3 x4 old v _ I4 r3 r4 q4) fun new s5 ⟨x5, H5, I5, r5, q5⟩ => ?_
  exact thn (hs pins s5 σ H5 x1 x2 x5 ov iv new _ I5 r1 r2 r5 q5) fun _ s6 ⟨H6, I6, q6⟩ => ⟨σ, H6, I6, q6⟩
/-- ints -/
def ipI (f : Int → Int → Int) : TIp := fun x y H Q => ∃ i j, x = .int i ∧ y = .int j ∧ Q (.int (f i j)) H
theorem ip_add : PIp X .Add (ipI fun i j => i + j) := by
  intro pins s σ H x y v u Q I r1 r2 h
  obtain ⟨i, j, e1, e2, q⟩ := h
  subst e1; subst e2
  obtain ⟨t, rfl⟩ := r1
  obtain ⟨t', rfl⟩ := r2
  exact iadd_int ⟨.int _, H, I.tok _, ⟨_, rfl⟩, q⟩
theorem ip_sub : PIp X .Sub (ipI fun i j => i - j) := by
  intro pins s σ H x y v u Q I r1 r2 h
  obtain ⟨i, j, e1, e2, q⟩ := h
  subst e1; subst e2
  obtain ⟨t, rfl⟩ := r1
  obtain ⟨t', rfl⟩ := r2
  exact isub_int ⟨.int _, H, I.tok _, ⟨_, rfl⟩, q⟩
end

/-! ### while -/
section
variable {X : Cx} {pos : Pos}
/-- the invariant W with its measure -/
def tWhile (c : TT) (tb : TS) : TS := fun D σ H => ∃ W : Nat → St → Hp → Prop, (∃ m, W m σ H) ∧ ∀ m σ H, W m σ H →
  c σ H fun b H1 => if b = true then ∃ N : St → Hp → Prop, (∀ σ' H', N σ' H' → ∃ m', m' < m ∧ W m' σ' H') ∧ tb { D with nx := N, ct := N, bk := D.nx } σ H1 else D.nx σ H1
theorem ps_while {c : Expr} {body : List Stmt} {tc : TT} {tb : TS} (hp : PassesOwn (model X.prog X.w) X.A X.env X.xe) (hc : PT X c tc) (hb : PSs X body tb) : PS X (.While c body [] pos) (tWhile tc tb) := by
  intro pins s σ H D I h
  obtain ⟨W, ⟨m0, w0⟩, turn⟩ := h
  refine wpAny_While (codeAny_whileLoop (fun n s' => ∃ σ' H', Inv X pins σ' H' s' ∧ W n σ' H') ?_ m0 ⟨σ, H, I, w0⟩)
  rintro n s1 ⟨σ1, H1, I1, w1⟩
  refine wpAny_passesOwn hp (thn (hc pins s1 σ1 H1 _ I1 (turn n σ1 H1 w1)) fun b s2 ⟨H2, I2, q2⟩ => ?_)
  cases b with
  | true =>
    obtain ⟨N, hN, q2⟩ := q2
    rw [if_pos rfl]
    refine wpAny_passesOwn hp (thn (hb pins s2 σ1 H2 _ I2 q2) fun f s3 q3 => ?_)
    cases f with
    | next =>
      obtain ⟨σ3, H3, I3, n3⟩ := q3
      obtain ⟨m', hm, w3⟩ := hN σ3 H3 n3
      exact ⟨m', hm, σ3, H3, I3, w3⟩
    | cont =>
      obtain ⟨σ3, H3, I3, n3⟩ := q3
      obtain ⟨m', hm, w3⟩ := hN σ3 H3 n3
      exact ⟨m', hm, σ3, H3, I3, w3⟩
    | brk => exact q3
    | ret v => exact q3
  | false =>
    rw [if_neg Bool.false_ne_true]
    exact wpAny_execs_nil ⟨σ1, H2, I2, q2⟩
end

/-! ### what a loop or a comprehension walks -/
/-- at turn i: it yields x (the heap may grow), or it stops -/
structure It where
  go : Nat → Hp → Prop
  yld : Nat → Hp → V → Hp → Prop
  stop : Nat → Hp → Prop
/-- the iterator's own objects may turn: they are not the frame's, not pinned, younger than the entry (or a comprehension's own) -/
def FpOk (X : Cx) (pins : List (Addr × Obj)) (H : Hp) (b : Addr) : Prop :=
  H b = none ∧ b ≠ X.env.locals ∧ b ∉ X.fs ∧ (b ∈ X.ex ∨ X.s₀.heap.objs.size ≤ b) ∧ (∀ x c, X.env.cells.lookup x = some c → c ≠ b) ∧ ∀ p ∈ X.pn ++ pins, p.1 ≠ b
theorem Inv.fpOk {X : Cx} {pins : List (Addr × Obj)} {σ : St} {H H' : Hp} {s : Shared} {b : Addr} (I : Inv X pins σ H s) (hb : s.heap.objs.size ≤ b) (hn : H' b = none) : FpOk X pins H' b := by
  refine ⟨hn, Nat.ne_of_gt (Nat.lt_of_lt_of_le I.lt hb), I.nofs hb, .inr (Nat.le_trans I.sz hb), fun x c e z => ?_, fun p hp z => ?_⟩
  · obtain ⟨v, q⟩ := I.cell x c e
    exact absurd (Nat.lt_of_lt_of_le q.lt (by rw [z]; exact hb)) (Nat.lt_irrefl _)
  · exact absurd (Nat.lt_of_lt_of_le (Heap.lt_size (I.pin p hp).1) (by rw [z]; exact hb)) (Nat.lt_irrefl _)
structure Turn (P : Program) (w : World) (K : PySem.W.Frag) (tg : Expr) (J : It) (fp : List Addr) (it : Addr) (tn : Nat → Heap → Prop) : Prop where
  mem : it ∈ fp
  obj : ∀ i h, tn i h → ∀ b ∈ fp, ∃ o, h.get? b = some o ∧ ∀ v, o.data ≠ .cell v
  keep : ∀ i h h', tn i h → (∀ b ∈ fp, ∀ o, h.get? b = some o → h'.get? b = some o) → tn i h'
  item : ∀ (X : Cx), X.prog = P → X.w = w → X.K = K → X.calm = true → ∀ (i : Nat) (pins : List (Addr × Obj)) (s : Shared) (σ : St) (H : Hp) (E : Value → Shared → Prop), Inv X pins σ H s → (∀ b ∈ fp, FpOk X pins H b) → tn i s.heap → J.go i H →
    wpAny (model P w) X.A (pyNext (.ref it)) (fun r s1 => ∃ u, r = some u ∧
      wpAny (model P w) X.A (letOwnedTupleGo tg (.ref it) u) (fun _ s2 => ∃ x H', Inv X pins σ H' s2 ∧ RelV x u ∧ J.yld i H x H' ∧ tn (i + 1) s2.heap ∧ ∀ b ∈ fp, H' b = none) E s1) E s
  done : ∀ (X : Cx), X.prog = P → X.w = w → X.K = K → X.calm = true → ∀ (i : Nat) (pins : List (Addr × Obj)) (s : Shared) (σ : St) (H : Hp) (E : Value → Shared → Prop), Inv X pins σ H s → (∀ b ∈ fp, FpOk X pins H b) → tn i s.heap → J.stop i H →
    wpAny (model P w) X.A (pyNext (.ref it)) (fun r s1 => r = none ∧ Inv X pins σ H s1) E s
  self : ∀ (A : Around) (i : Nat) (s : Shared) (Q : Value → Shared → Prop) (E : Value → Shared → Prop), tn i s.heap → Q (.ref it) s → wpAny (model P w) A (pyIter (.ref it)) Q E s
abbrev TI := St → Hp → (It → Hp → Prop) → Prop
/-- an iterator has come -/
def PIE (X : Cx) (pins : List (Addr × Obj)) (σ : St) (tg : Expr) (R : It → Hp → Prop) (itv : Value) (s2 : Shared) : Prop :=
  ∃ (it : Addr) (fp : List Addr) (tn : Nat → Heap → Prop) (J : It) (H' : Hp), itv = .ref it ∧ Inv X pins σ H' s2 ∧ Turn X.prog X.w X.K tg J fp it tn ∧ tn 0 s2.heap ∧ (∀ b ∈ fp, FpOk X pins H' b) ∧ R J H'
def PI (X : Cx) (tg iter : Expr) (wi : TI) : Prop :=
  ∀ (pins : List (Addr × Obj)) (s : Shared) (σ : St) (H : Hp) (R : It → Hp → Prop), Inv X pins σ H s → wi σ H R →
    wpAny (model X.prog X.w) X.A (eval iter X.env) (fun v s1 => wpAny (model X.prog X.w) X.A (pyIter v) (PIE X pins σ tg R) X.xe s1) X.xe s

/-- the step ahead of the store is nothing for an iterator that keeps no tuple -/
theorem go_of {M : Model} {A : Around} {E : Value → Shared → Prop} {s : Shared} {tg : Expr} {it : Addr} {u : Value} {o : Obj} {n : String} {vs : Array Value} {Q : Unit → Shared → Prop} (ho : s.heap.get? it = some o) (hc : o.cls = .type n) (hd : o.data = .fields vs)
    (hn : ["enumerate", "zip", "dict_itemiterator", "dict_reverseitemiterator", "odict_iterator", "itertools.zip_longest", "itertools.pairwise"].contains n = false) (hQ : Q () s) : wpAny M A (letOwnedTupleGo tg (.ref it) u) Q E s := by
  unfold letOwnedTupleGo
  cases tg <;> first
    | exact wpAny_pure hQ
    | (cases u <;> first
        | exact wpAny_pure hQ
        | (refine wpAny_bind (wpAny_load ho ?_)
           rw [hc, hd]
           show wpAny M A (if (["enumerate", "zip", "dict_itemiterator", "dict_reverseitemiterator", "odict_iterator", "itertools.zip_longest", "itertools.pairwise"].contains n && vs[0]? == some (rawInt _)) = true then _ else _) Q E s
           rw [if_neg (by intro h; rw [hn, Bool.false_and] at h; cases h)]
           exact wpAny_pure hQ))

/-- the list at a, as it stands at each turn (a loop may append to it) -/
def Itl (K : PySem.W.Frag) (a : Addr) : It :=
  ⟨fun i H => ∃ xs x, SqL K H a xs ∧ xs[i]? = some x, fun i H x H' => H' = H ∧ ∀ xs, SqL K H a xs → xs[i]? = some x, fun i H => ∃ xs, SqL K H a xs ∧ xs.length ≤ i⟩
def Itt (K : PySem.W.Frag) (a : Addr) : It :=
  ⟨fun i H => ∃ xs x, SqT K H a xs ∧ xs[i]? = some x, fun i H x H' => H' = H ∧ ∀ xs, SqT K H a xs → xs[i]? = some x, fun i H => ∃ xs, SqT K H a xs ∧ xs.length ≤ i⟩
/-- lo, lo + 1, .. (n of them) -/
def Itr (lo : Int) (n : Nat) : It := ⟨fun i _ => i < n, fun i H x H' => H' = H ∧ x = .int (lo + i), fun i _ => n ≤ i⟩
theorem turn_list {P : Program} {w : World} {K : PySem.W.Frag} {tg : Expr} (a it : Addr) : Turn P w K tg (Itl K a) [it] it (fun i h => h.IsListIter it a i) where
  mem := by simp
  obj := fun i h st b hb => by
    have e : b = it := by simpa using hb
    subst e
    obtain ⟨o, e, c, d⟩ := st
    exact ⟨o, e, fun v z => by rw [d] at z; cases z⟩
  keep := fun i h h' st k => st.at fun o e => k it (by simp) o e
  item := by
    intro X hP hw hK hc i pins s σ H E I hf st hg
    subst hP hw hK
    obtain ⟨xs, x, hq, hx⟩ := hg
    obtain ⟨its, rv, p, hz⟩ := I.list hq
    obtain ⟨u, hu, ru⟩ := rv.get hx
    obtain ⟨f0, f1, f2, f3, f4, f5⟩ := hf it (by simp)
    refine wpAny_pyNext_list_item st p.isList (x := u) (by simpa using hu) fun h' st' sb => ?_
    have I1 : Inv X pins σ H { s with heap := h' } := I.turned (t' := s.toks) (fun b o hb e => (sb.2 b hb).trans e) f0 f1 f3 f4 f5
    obtain ⟨o, e, c, d⟩ := id st'
    exact ⟨u, rfl, go_of (s := { s with heap := h' }) e c d (by decide) ⟨x, H, I1, ru, ⟨rfl, fun ys hy => by rw [I.list_inj hy hq]; exact hx⟩, st', fun b hb => (hf b hb).1⟩⟩
  done := by
    intro X hP hw hK hc i pins s σ H E I hf st hg
    subst hP hw hK
    obtain ⟨xs, hq, hx⟩ := hg
    obtain ⟨its, rv, p, hz⟩ := I.list hq
    obtain ⟨f0, f1, f2, f3, f4, f5⟩ := hf it (by simp)
    have hl := rv.length
    exact wpAny_pyNext_list_end (I.ok.hd hc) st p.isList (by simp; omega) fun h' eb => ⟨rfl, I.turned (t' := s.toks) (fun b o hb e => eb b o hb e) f0 f1 f3 f4 f5⟩
  self := fun _ _ _ _ _ st h => wpAny_pyIter_listiter st h
theorem turn_tuple {P : Program} {w : World} {K : PySem.W.Frag} {tg : Expr} (a it : Addr) : Turn P w K tg (Itt K a) [it] it (fun i h => h.IsTupleIter it a i) where
  mem := by simp
  obj := fun i h st b hb => by
    have e : b = it := by simpa using hb
    subst e
    obtain ⟨o, e, c, d⟩ := st
    exact ⟨o, e, fun v z => by rw [d] at z; cases z⟩
  keep := fun i h h' st k => st.at fun o e => k it (by simp) o e
  item := by
    intro X hP hw hK hc i pins s σ H E I hf st hg
    subst hP hw hK
    obtain ⟨xs, x, hq, hx⟩ := hg
    obtain ⟨its, rv, p, hz⟩ := I.tuple hq
    obtain ⟨u, hu, ru⟩ := rv.get hx
    obtain ⟨f0, f1, f2, f3, f4, f5⟩ := hf it (by simp)
    refine wpAny_pyNext_tuple_item st (show s.heap.IsTuple a its.toArray from p) (x := u) (by simpa using hu) fun h' st' sb => ?_
    have I1 : Inv X pins σ H { s with heap := h' } := I.turned (t' := s.toks) (fun b o hb e => (sb.2 b hb).trans e) f0 f1 f3 f4 f5
    obtain ⟨o, e, c, d⟩ := id st'
    exact ⟨u, rfl, go_of (s := { s with heap := h' }) e c d (by decide) ⟨x, H, I1, ru, ⟨rfl, fun ys hy => by rw [I.tuple_inj hy hq]; exact hx⟩, st', fun b hb => (hf b hb).1⟩⟩
  done := by
    intro X hP hw hK hc i pins s σ H E I hf st hg
    subst hP hw hK
    obtain ⟨xs, hq, hx⟩ := hg
    obtain ⟨its, rv, p, hz⟩ := I.tuple hq
    obtain ⟨f0, f1, f2, f3, f4, f5⟩ := hf it (by simp)
    have hl := rv.length
    exact wpAny_pyNext_tuple_end (I.ok.hd hc) st (show s.heap.IsTuple a its.toArray from p) (by simp; omega) fun h' eb => ⟨rfl, I.turned (t' := s.toks) (fun b o hb e => eb b o hb e) f0 f1 f3 f4 f5⟩
  self := fun _ _ _ _ _ st h => wpAny_pyIter_tupleiter st h
theorem turn_range {P : Program} {w : World} {K : PySem.W.Frag} {tg : Expr} (it : Addr) (lo : Int) (n : Nat) : Turn P w K tg (Itr lo n) [it] it (fun i h => IsRangeIter h it (lo + (i : Nat) * 1) ((n : Int) - (i : Nat)) 1) where
  mem := by simp
  obj := fun i h st b hb => by
    have e : b = it := by simpa using hb
    subst e
    exact ⟨_, st, fun v z => by
      have z' : Data.fields _ = Data.cell v := z
      cases z'⟩
  keep := fun i h h' st k => k it (by simp) _ st
  item := by
    intro X hP hw hK hc i pins s σ H E I hf st hg
    subst hP hw hK
    obtain ⟨f0, f1, f2, f3, f4, f5⟩ := hf it (by simp)
    have W := Walks.range (prog := X.prog) (w := X.w) (I.ok.hd hc) it lo 1 n
    refine W.item i s _ _ hg st fun v h' tk hv st' kk => ?_
    obtain ⟨t, rfl⟩ := hv
    have I1 : Inv X pins σ H { s with heap := h', toks := tk } := I.turned (fun b o hb e => kk b o (by simpa using hb) e) f0 f1 f3 f4 f5
    refine ⟨_, rfl, go_of (s := { s with heap := h', toks := tk }) (n := "range_iterator") st' rfl rfl (by decide) ⟨.int (lo + i), H, I1, ⟨t, ?_⟩, ⟨rfl, rfl⟩, st', fun b hb => (hf b hb).1⟩⟩
    rw [Int.mul_one]
  done := by
    intro X hP hw hK hc i pins s σ H E I hf st hg
    subst hP hw hK
    obtain ⟨f0, f1, f2, f3, f4, f5⟩ := hf it (by simp)
    exact wpAny_pyNext_range_end (I.ok.hd hc) st (by have : n ≤ i := hg; omega) fun h' eb => ⟨rfl, I.turned (t' := s.toks) (fun b o hb e => eb b o hb e) f0 f1 f3 f4 f5⟩
  self := fun _ _ _ _ _ st h => wpAny_pyIter_rangeiter st h
end L2

namespace L2
open PySem PySem.Spec PyProof.Rows
section
variable {X : Cx} {tg : Expr}
def iList (K : PySem.W.Frag) (tl : TE) : TI := fun σ H R => tl σ H fun x H1 => ∃ a, x = .ref a ∧ (∃ xs, SqL K H1 a xs) ∧ R (Itl K a) H1
def iTup (K : PySem.W.Frag) (tl : TE) : TI := fun σ H R => tl σ H fun x H1 => ∃ a, x = .ref a ∧ (∃ xs, SqT K H1 a xs) ∧ R (Itt K a) H1
theorem pi_list {l : Expr} {tl : TE} (hl : PE X l tl) : PI X tg l (iList X.K tl) := by
  intro pins s σ H R I h
  refine thn (hl pins s σ H _ I h) fun v s1 ⟨x, H1, I1, r1, q1⟩ => ?_
  obtain ⟨a, e, ⟨xs, hq⟩, q⟩ := q1
  subst e
  cases r1
  obtain ⟨its, rv, p, hz⟩ := I1.list hq
  refine wpAny_pyIter_list p.isList ?_
  refine ⟨s1.heap.objs.size, [s1.heap.objs.size], _, _, H1, rfl, I1.kept (t' := s1.toks) fun b o e => Heap.get?_push_of_some _ e, turn_list a _, ⟨_, Heap.get?_push_size _ rfl, rfl, rfl⟩, fun b hb => ?_, q⟩
  have e : b = s1.heap.objs.size := by simpa using hb
  subst e
  exact I1.fpOk (Nat.le_refl _) (I1.hok.fresh (Nat.le_refl _))
theorem pi_tup {l : Expr} {tl : TE} (hl : PE X l tl) : PI X tg l (iTup X.K tl) := by
  intro pins s σ H R I h
  refine thn (hl pins s σ H _ I h) fun v s1 ⟨x, H1, I1, r1, q1⟩ => ?_
  obtain ⟨a, e, ⟨xs, hq⟩, q⟩ := q1
  subst e
  cases r1
  obtain ⟨its, rv, p, hz⟩ := I1.tuple hq
  refine wpAny_pyIter_tuple (show s1.heap.IsTuple a its.toArray from p) ?_
  refine ⟨s1.heap.objs.size, [s1.heap.objs.size], _, _, H1, rfl, I1.kept (t' := s1.toks) fun b o e => Heap.get?_push_of_some _ e, turn_tuple a _, ⟨_, Heap.get?_push_size _ rfl, rfl, rfl⟩, fun b hb => ?_, q⟩
  have e : b = s1.heap.objs.size := by simpa using hb
  subst e
  exact I1.fpOk (Nat.le_refl _) (I1.hok.fresh (Nat.le_refl _))
/-- a range object just made, walked -/
theorem range_it {pins : List (Addr × Obj)} {σ : St} {H : Hp} {s : Shared} {R : It → Hp → Prop} {E : Value → Shared → Prop} {lo hi : Int} {t u v : Tok} {tk : Nat} (I : Inv X pins σ H s) (h1 : -(2 ^ 62) ≤ lo) (h2 : lo < 2 ^ 62) (h3 : -(2 ^ 62) ≤ hi) (h4 : hi < 2 ^ 62)
    (q : R (Itr lo (hi - lo).toNat) H) : wpAny (model X.prog X.w) X.A (pyIter (.ref s.heap.objs.size)) (PIE X pins σ tg R) E { s with heap := s.heap.push { cls := .type "range", data := .fields #[.int lo t, .int hi u, .int 1 v] }, toks := tk } := by
  refine wpAny_pyIter_range (IsRange.new ..) (small_one h1 h2 h3 h4) ?_
  have I1 : Inv X pins σ H { s with heap := s.heap.push { cls := .type "range", data := .fields #[.int lo t, .int hi u, .int 1 v] }, toks := tk } := I.kept fun b o e => Heap.get?_push_of_some _ e
  refine ⟨(s.heap.push { cls := .type "range", data := .fields #[.int lo t, .int hi u, .int 1 v] }).objs.size, [(s.heap.push { cls := .type "range", data := .fields #[.int lo t, .int hi u, .int 1 v] }).objs.size], _, _, H, rfl,
    I1.kept (t' := tk) fun b o e => Heap.get?_push_of_some _ e, turn_range _ lo (hi - lo).toNat, ?_, fun b hb => ?_, q⟩
  · have e1 : lo + ((0 : Nat) : Int) * 1 = lo := by simp
    have e2 : (((hi - lo).toNat : Nat) : Int) - ((0 : Nat) : Int) = Builtin.Range.rangeSize lo hi 1 := by rw [rangeSize_one]; split <;> omega
    show IsRangeIter _ _ (lo + ((0 : Nat) : Int) * 1) ((((hi - lo).toNat : Nat) : Int) - ((0 : Nat) : Int)) 1
    rw [e1, e2]
    exact Heap.get?_push_size _ rfl
  · have e : b = (s.heap.push { cls := .type "range", data := .fields #[.int lo t, .int hi u, .int 1 v] }).objs.size := by simpa using hb
    subst e
    exact I1.fpOk (Nat.le_refl _) (I1.hok.fresh (Nat.le_refl _))
def iRng1 (ta : TA) : TI := fun σ H R => ta σ H fun vs H1 => ∃ j : Int, vs = [.int j] ∧ -(2 ^ 62) ≤ j ∧ j < 2 ^ 62 ∧ R (Itr 0 j.toNat) H1
def iRng2 (ta : TA) : TI := fun σ H R => ta σ H fun vs H1 => ∃ i j : Int, vs = [.int i, .int j] ∧ (-(2 ^ 62) ≤ i ∧ i < 2 ^ 62 ∧ -(2 ^ 62) ≤ j ∧ j < 2 ^ 62) ∧ R (Itr i (j - i).toNat) H1
theorem pi_range1 {a : Expr} {ta : TA} {p pos : Pos} (hg : Gl X "range") (hm : X.mg "range" = none) (ha : PA X [a] ta) (hs : starEach [a] X.env = [(false, eval a X.env)] := by rfl) : PI X tg (.Call (.Name "range" p) [a] [] pos) (iRng1 ta) := by
  intro pins s σ H R I h
  refine Call_ (ld_blt I hg hm boot_range (PyProof.Rows.callWith_type1 (thn (ha pos pins s σ H _ I h) fun us s1 ⟨vs, H1, I1, r1, q1⟩ => ?_) hs rfl))
  obtain ⟨j, e, q1, q2, q⟩ := q1
  subst e
  cases r1 with
  | cons r rr =>
    cases rr
    obtain ⟨t, rfl⟩ := r
    exact call_range_1 (range_it I1 (by omega) (by omega) q1 q2 (by simpa using q))
theorem pi_range2 {a b : Expr} {ta : TA} {p pos : Pos} (hg : Gl X "range") (hm : X.mg "range" = none) (ha : PA X [a, b] ta) (hs : starEach [a, b] X.env = [(false, eval a X.env), (false, eval b X.env)] := by rfl) (hs2 : starEach [b] X.env = [(false, eval b X.env)] := by rfl) :
    PI X tg (.Call (.Name "range" p) [a, b] [] pos) (iRng2 ta) := by
  intro pins s σ H R I h
  refine Call_ (ld_blt I hg hm boot_range (PyProof.Rows.callWith_type1 (thn (ha pos pins s σ H _ I h) fun us s1 ⟨vs, H1, I1, r1, q1⟩ => ?_) (by rw [hs, hs2]) (by rw [hs2]; rfl)))
  obtain ⟨i, j, e, ⟨q1, q2, q3, q4⟩, q⟩ := q1
  subst e
  cases r1 with
  | cons r rr =>
    cases rr with
    | cons r' rr =>
      cases rr
      obtain ⟨t, rfl⟩ := r
      obtain ⟨t', rfl⟩ := r'
      exact call_range_2 (range_it I1 q1 q2 q3 q4 q)

/-! ### for -/
/-- W: the invariant by the turn and a measure; N: what the body is to reach -/
def tFor (wi : TI) (g : TG) (tb : TS) : TS := fun D σ H => wi σ H fun J H1 => ∃ W : Nat → Nat → St → Hp → Prop, (∃ m, W 0 m σ H1) ∧ ∀ i m σ H, W i m σ H →
  (J.stop i H ∧ D.nx σ H) ∨ (J.go i H ∧ ∃ N : St → Hp → Prop, (∀ σ' H', N σ' H' → ∃ m', m' < m ∧ W (i + 1) m' σ' H') ∧ ∀ x H', J.yld i H x H' → g x σ H' fun σ2 H2 => tb { D with nx := N, ct := N, bk := D.nx } σ2 H2)
/-- the records at fp as they stand -/
def pinsAt (fp : List Addr) (h : Heap) : List (Addr × Obj) := fp.filterMap fun b => (h.get? b).map fun o => (b, o)
theorem mem_pinsAt {fp : List Addr} {h : Heap} {b : Addr} {o : Obj} (hb : b ∈ fp) (e : h.get? b = some o) : (b, o) ∈ pinsAt fp h := List.mem_filterMap.mpr ⟨b, hb, by rw [e]; rfl⟩
theorem of_pinsAt {fp : List Addr} {h : Heap} {p : Addr × Obj} (hp : p ∈ pinsAt fp h) : p.1 ∈ fp ∧ h.get? p.1 = some p.2 := by
  obtain ⟨b, hb, e⟩ := List.mem_filterMap.mp hp
  cases q : h.get? b with
  | none => rw [q] at e; cases e
  | some o =>
    rw [q] at e
    have e' : (b, o) = p := Option.some.inj e
    subst e'
    exact ⟨hb, q⟩
theorem Inv.pinned {pins : List (Addr × Obj)} {σ : St} {H : Hp} {s : Shared} {fp : List Addr} (I : Inv X pins σ H s) (hf : ∀ b ∈ fp, FpOk X pins H b) (ho : ∀ b ∈ fp, ∃ o, s.heap.get? b = some o ∧ ∀ v, o.data ≠ .cell v) : Inv X (pins ++ pinsAt fp s.heap) σ H s :=
  I.pins_of fun p hp => (List.mem_append.mp hp).elim (fun z => I.pin p (List.mem_append_right _ z)) fun z => by
    obtain ⟨hb, e⟩ := of_pinsAt z
    obtain ⟨f0, f1, f2, _⟩ := hf p.1 hb
    obtain ⟨o, e', d⟩ := ho p.1 hb
    rw [e] at e'; cases e'
    exact ⟨e, f0, f1, f2, d⟩
theorem Inv.unpinned {pins pl : List (Addr × Obj)} {σ : St} {H : Hp} {s : Shared} (I : Inv X (pins ++ pl) σ H s) : Inv X pins σ H s := I.pins_of fun p hp => I.pin p (List.mem_append_right _ (List.mem_append_left _ hp))
theorem ps_for {iter : Expr} {body : List Stmt} {wi : TI} {g : TG} {tb : TS} {pos : Pos} (hp : PassesOwn (model X.prog X.w) X.A X.env X.xe) (hc : X.calm = true) (hi : PI X tg iter wi) (hg : PG X tg g) (hb : PSs X body tb)
    (hs : ∀ x, foldedSetIterable iter X.env x = pure x := by intro _; rfl) : PS X (.For tg iter body [] pos) (tFor wi g tb) := by
  intro pins s σ H D I h
  refine wpAny_For (thn (hi pins s σ H _ I h) fun v s1 h1 => thn h1 fun itv s2 h2 => ?_) hs
  obtain ⟨it, fp, tn, J, H2, e, I2, T, st2, f2, W, ⟨m0, w0⟩, turn⟩ := h2
  subst e
  -- what stays true of the iterator's objects through the loop
  have stat : ∀ {H' : Hp}, (∀ b ∈ fp, H' b = none) → ∀ b ∈ fp, FpOk X pins H' b := fun hn b hb => ⟨hn b hb, (f2 b hb).2⟩
  refine codeAny_forLoop_any (fun n s' => ∃ i σ' H', Inv X pins σ' H' s' ∧ tn i s'.heap ∧ (∀ b ∈ fp, H' b = none) ∧ W i n σ' H') ?_ m0 ⟨0, σ, H2, I2, st2, fun b hb => (f2 b hb).1, w0⟩
  rintro n s3 ⟨i, σ3, H3, I3, st3, fr3, w3⟩
  rcases turn i n σ3 H3 w3 with ⟨stop, qn⟩ | ⟨go, N, hN, step⟩
  · refine wpAny_passesOwn hp (thn (T.done X rfl rfl rfl hc i pins s3 σ3 H3 X.xe I3 (stat fr3) st3 stop) fun r s4 ⟨hr, I4⟩ => ?_)
    subst hr
    exact wpAny_execs_nil ⟨σ3, H3, I4, qn⟩
  · refine wpAny_passesOwn hp (thn (T.item X rfl rfl rfl hc i pins s3 σ3 H3 X.xe I3 (stat fr3) st3 go) fun r s4 ⟨u, hr, h4⟩ => ?_)
    subst hr
    refine wpAny_passesOwn hp (thn h4 fun _ s5 ⟨x, H5, I5, r5, y5, st5, fr5⟩ => ?_)
    have I5' := I5.pinned (stat fr5) (T.obj _ _ st5)
    refine wpAny_passesOwn hp (thn (hg _ s5 σ3 H5 x u _ I5' r5 (step x H5 y5)) fun _ s6 ⟨σ6, H6, I6, q6⟩ => ?_)
    refine wpAny_passesOwn hp (thn (hb _ s6 σ6 H6 _ I6 q6) fun f s7 q7 => ?_)
    have again : ∀ {σ7 : St} {H7 : Hp}, Inv X (pins ++ pinsAt fp s5.heap) σ7 H7 s7 → N σ7 H7 → ∃ m, m < n ∧ ∃ i σ' H', Inv X pins σ' H' s7 ∧ tn i s7.heap ∧ (∀ b ∈ fp, H' b = none) ∧ W i m σ' H' := fun {σ7 H7} I7 n7 => by
      obtain ⟨m', hm, w7⟩ := hN σ7 H7 n7
      refine ⟨m', hm, i + 1, σ7, H7, I7.unpinned, T.keep _ _ _ st5 fun b hb o e => (I7.pin (b, o) (List.mem_append_right _ (List.mem_append_right _ (mem_pinsAt hb e)))).1, fun b hb => ?_, w7⟩
      obtain ⟨o, e, d⟩ := T.obj _ _ st5 b hb
      exact (I7.pin (b, o) (List.mem_append_right _ (List.mem_append_right _ (mem_pinsAt hb e)))).2.1
    cases f with
    | next => obtain ⟨σ7, H7, I7, n7⟩ := q7; exact again I7 n7
    | cont => obtain ⟨σ7, H7, I7, n7⟩ := q7; exact again I7 n7
    | brk => obtain ⟨σ7, H7, I7, q7⟩ := q7; exact ⟨σ7, H7, I7.unpinned, q7⟩
    | ret v => obtain ⟨x7, σ7, H7, I7, r7, q7⟩ := q7; exact ⟨x7, σ7, H7, I7.unpinned, r7, q7⟩
end

/-! ### the forms one uses -/
/-- over a list that the body leaves as it is -/
theorem for_list {K : PySem.W.Frag} {a : Addr} {xs : List V} {g : TG} {tb : TS} {D : Ends} {σ : St} {H : Hp} (Pv : Nat → St → Hp → Prop) (h0 : Pv 0 σ H) (hl : ∀ i σ H, i ≤ xs.length → Pv i σ H → SqL K H a xs)
    (hs : ∀ i x σ H, xs[i]? = some x → Pv i σ H → g x σ H fun σ2 H2 => tb { D with nx := Pv (i + 1), ct := Pv (i + 1), bk := D.nx } σ2 H2) (hd : ∀ σ H, Pv xs.length σ H → D.nx σ H) :
    ∃ W : Nat → Nat → St → Hp → Prop, (∃ m, W 0 m σ H) ∧ ∀ i m σ H, W i m σ H →
      ((Itl K a).stop i H ∧ D.nx σ H) ∨ ((Itl K a).go i H ∧ ∃ N : St → Hp → Prop, (∀ σ' H', N σ' H' → ∃ m', m' < m ∧ W (i + 1) m' σ' H') ∧ ∀ x H', (Itl K a).yld i H x H' → g x σ H' fun σ2 H2 => tb { D with nx := N, ct := N, bk := D.nx } σ2 H2) := by
  refine ⟨fun i m σ H => m = xs.length - i ∧ i ≤ xs.length ∧ Pv i σ H, ⟨xs.length, by simp, Nat.zero_le _, h0⟩, ?_⟩
  rintro i m σ H ⟨rfl, hi, p⟩
  have q := hl i σ H hi p
  by_cases hlt : i < xs.length
  · refine .inr ⟨⟨xs, xs[i], q, by simp [hlt]⟩, Pv (i + 1), fun σ' H' p' => ⟨xs.length - (i + 1), by omega, rfl, hlt, p'⟩, fun x H' y => ?_⟩
    obtain ⟨e, y⟩ := y
    subst e
    exact hs i x σ _ (y xs q) p
  · have e : i = xs.length := by omega
    subst e
    exact .inl ⟨⟨xs, q, Nat.le_refl _⟩, hd σ H p⟩
theorem for_tup {K : PySem.W.Frag} {a : Addr} {xs : List V} {g : TG} {tb : TS} {D : Ends} {σ : St} {H : Hp} (Pv : Nat → St → Hp → Prop) (h0 : Pv 0 σ H) (hl : ∀ i σ H, i ≤ xs.length → Pv i σ H → SqT K H a xs)
    (hs : ∀ i x σ H, xs[i]? = some x → Pv i σ H → g x σ H fun σ2 H2 => tb { D with nx := Pv (i + 1), ct := Pv (i + 1), bk := D.nx } σ2 H2) (hd : ∀ σ H, Pv xs.length σ H → D.nx σ H) :
    ∃ W : Nat → Nat → St → Hp → Prop, (∃ m, W 0 m σ H) ∧ ∀ i m σ H, W i m σ H →
      ((Itt K a).stop i H ∧ D.nx σ H) ∨ ((Itt K a).go i H ∧ ∃ N : St → Hp → Prop, (∀ σ' H', N σ' H' → ∃ m', m' < m ∧ W (i + 1) m' σ' H') ∧ ∀ x H', (Itt K a).yld i H x H' → g x σ H' fun σ2 H2 => tb { D with nx := N, ct := N, bk := D.nx } σ2 H2) := by
  refine ⟨fun i m σ H => m = xs.length - i ∧ i ≤ xs.length ∧ Pv i σ H, ⟨xs.length, by simp, Nat.zero_le _, h0⟩, ?_⟩
  rintro i m σ H ⟨rfl, hi, p⟩
  have q := hl i σ H hi p
  by_cases hlt : i < xs.length
  · refine .inr ⟨⟨xs, xs[i], q, by simp [hlt]⟩, Pv (i + 1), fun σ' H' p' => ⟨xs.length - (i + 1), by omega, rfl, hlt, p'⟩, fun x H' y => ?_⟩
    obtain ⟨e, y⟩ := y
    subst e
    exact hs i x σ _ (y xs q) p
  · have e : i = xs.length := by omega
    subst e
    exact .inl ⟨⟨xs, q, Nat.le_refl _⟩, hd σ H p⟩
theorem for_range {lo : Int} {n : Nat} {g : TG} {tb : TS} {D : Ends} {σ : St} {H : Hp} (Pv : Nat → St → Hp → Prop) (h0 : Pv 0 σ H)
    (hs : ∀ i σ H, i < n → Pv i σ H → g (.int (lo + i)) σ H fun σ2 H2 => tb { D with nx := Pv (i + 1), ct := Pv (i + 1), bk := D.nx } σ2 H2) (hd : ∀ σ H, Pv n σ H → D.nx σ H) :
    ∃ W : Nat → Nat → St → Hp → Prop, (∃ m, W 0 m σ H) ∧ ∀ i m σ H, W i m σ H →
      ((Itr lo n).stop i H ∧ D.nx σ H) ∨ ((Itr lo n).go i H ∧ ∃ N : St → Hp → Prop, (∀ σ' H', N σ' H' → ∃ m', m' < m ∧ W (i + 1) m' σ' H') ∧ ∀ x H', (Itr lo n).yld i H x H' → g x σ H' fun σ2 H2 => tb { D with nx := N, ct := N, bk := D.nx } σ2 H2) := by
  refine ⟨fun i m σ H => m = n - i ∧ i ≤ n ∧ Pv i σ H, ⟨n, by simp, Nat.zero_le _, h0⟩, ?_⟩
  rintro i m σ H ⟨rfl, hi, p⟩
  by_cases hlt : i < n
  · refine .inr ⟨hlt, Pv (i + 1), fun σ' H' p' => ⟨n - (i + 1), by omega, rfl, hlt, p'⟩, fun x H' y => ?_⟩
    obtain ⟨e, y⟩ := y
    subst e y
    exact hs i σ _ hlt p
  · have e : i = n := by omega
    subst e
    exact .inl ⟨Nat.le_refl _, hd σ H p⟩
/-- while, by a word and a measure of the state -/
theorem while_by {c : TT} {tb : TS} {D : Ends} {σ : St} {H : Hp} (Pv : St → Hp → Prop) (μ : St → Hp → Nat) (h0 : Pv σ H)
    (hs : ∀ σ H, Pv σ H → c σ H fun b H1 => if b = true then tb { D with nx := fun σ' H' => Pv σ' H' ∧ μ σ' H' < μ σ H, ct := fun σ' H' => Pv σ' H' ∧ μ σ' H' < μ σ H, bk := D.nx } σ H1 else D.nx σ H1)
    (mono : ∀ σ H Q Q', (∀ b H1, Q b H1 → Q' b H1) → c σ H Q → c σ H Q') : tWhile c tb D σ H := by
  refine ⟨fun m σ H => m = μ σ H ∧ Pv σ H, ⟨_, rfl, h0⟩, ?_⟩
  rintro m σ H ⟨rfl, p⟩
  refine mono σ H _ _ (fun b H1 q => ?_) (hs σ H p)
  cases b with
  | true => exact ⟨_, fun σ' H' ⟨p', l⟩ => ⟨_, l, rfl, p'⟩, q⟩
  | false => exact q
end L2

namespace L2
open PySem PySem.Spec PyProof.Rows

abbrev R2 := V → V → Hp → VK → Prop
/-- a two-place operation on values: f is binaryOp op, inplaceOp op or compareOp op -/
def OpR (X : Cx) (f : Value → Value → Sem Value) (r : R2) : Prop :=
  ∀ (pins : List (Addr × Obj)) (s : Shared) (σ : St) (H : Hp) (x y : V) (v u : Value) (Q : VK), Inv X pins σ H s → RelV x v → RelV y u → r x y H Q →
    wpAny (model X.prog X.w) X.A (f v u) (EP X pins σ Q) X.xe s
/-- a one-place operation -/
def UnR (X : Cx) (f : Value → Sem Value) (r : V → Hp → VK → Prop) : Prop :=
  ∀ (pins : List (Addr × Obj)) (s : Shared) (σ : St) (H : Hp) (x : V) (v : Value) (Q : VK), Inv X pins σ H s → RelV x v → r x H Q →
    wpAny (model X.prog X.w) X.A (f v) (EP X pins σ Q) X.xe s
/-- a call of a value that is known (a builtin, a type) with values -/
def CallR (X : Cx) (f : Value) (r : List V → Hp → VK → Prop) : Prop :=
  ∀ (pins : List (Addr × Obj)) (s : Shared) (σ : St) (H : Hp) (xs : List V) (us : List Value) (Q : VK), Inv X pins σ H s → Vals xs us → r xs H Q →
    wpAny (model X.prog X.w) X.A (call f us) (EP X pins σ Q) X.xe s
/-- a value's truth -/
def TruR (X : Cx) (r : V → Hp → (Bool → Hp → Prop) → Prop) : Prop :=
  ∀ (pins : List (Addr × Obj)) (s : Shared) (σ : St) (H : Hp) (x : V) (v : Value) (Q : Bool → Hp → Prop), Inv X pins σ H s → RelV x v → r x H Q →
    wpAny (model X.prog X.w) X.A (truthy v) (TP X pins σ Q) X.xe s

def tOp (r : R2) (ta tb : TE) : TE := fun σ H Q => ta σ H fun x H1 => tb σ H1 fun y H2 => r x y H2 Q
def tUn (r : V → Hp → VK → Prop) (ta : TE) : TE := fun σ H Q => ta σ H fun x H1 => r x H1 Q
/-- ints in, under C, and a value out -/
def rI (C : Int → Int → Prop) (g : Int → Int → V) : R2 := fun x y H Q => ∃ i j, x = .int i ∧ y = .int j ∧ C i j ∧ Q (g i j) H
def rI0 (g : Int → Int → V) : R2 := fun x y H Q => ∃ i j, x = .int i ∧ y = .int j ∧ Q (g i j) H
def rU (g : Int → V) : V → Hp → VK → Prop := fun x H Q => ∃ i, x = .int i ∧ Q (g i) H

section
variable {X : Cx} {a b c : Expr} {ta tb tc : TE} {pos : Pos}

theorem binT (ha : PE X a ta) (hb : PE X b tb) {pins : List (Addr × Obj)} {s : Shared} {σ : St} {H : Hp} {R : V → V → Hp → Prop} (I : Inv X pins σ H s)
    (h : ta σ H fun x H1 => tb σ H1 fun y H2 => R x y H2) {Q : Value → Shared → Prop} {f : Value → Value → Sem Value}
    (hf : ∀ v u s2 x y H2, Inv X pins σ H2 s2 → RelV x v → RelV y u → R x y H2 → wpAny (model X.prog X.w) X.A (f v u) Q X.xe s2) :
    wpAny (model X.prog X.w) X.A (eval a X.env) (fun v s₁ => wpAny (model X.prog X.w) X.A (eval b X.env) (fun u s₂ => wpAny (model X.prog X.w) X.A (f v u) Q X.xe s₂) X.xe s₁) X.xe s := by
  refine thn (ha pins s σ H _ I h) fun v s1 ⟨x, H1, I1, r1, q1⟩ => ?_
  refine thn (hb pins s1 σ H1 _ I1 q1) fun u s2 ⟨y, H2, I2, r2, q2⟩ => ?_
  exact hf v u s2 x y H2 I2 r1 r2 q2

theorem pe_op {op : Operator} {r : R2} (ho : OpR X (binaryOp op) r) (ha : PE X a ta) (hb : PE X b tb) : PE X (.BinOp a op b pos) (tOp r ta tb) := by
  intro pins s σ H Q I h
  exact wpAny_BinOp (binT ha hb I h fun v u s2 x y H2 I2 rx ry q => ho pins s2 σ H2 x y v u Q I2 rx ry q)
theorem pe_un {op : UnaryOp} {r : V → Hp → VK → Prop} (ho : UnR X (unaryOp op) r) (ha : PE X a ta) : PE X (.UnaryOp op a pos) (tUn r ta) := by
  intro pins s σ H Q I h
  exact UnaryOp_ (thn (ha pins s σ H _ I h) fun v s1 ⟨x, H1, I1, r1, q1⟩ => ho pins s1 σ H1 x v Q I1 r1 q1)
/-- a op= e at a name: the name's slot i -/
theorem augR {op : Operator} {r : R2} (ho : OpR X (inplaceOp op) r) {pins : List (Addr × Obj)} {s : Shared} {σ : St} {H : Hp} {x y : V} {v u : Value} {Q : VK} (I : Inv X pins σ H s)
    (rx : RelV x v) (ry : RelV y u) (q : r x y H Q) : wpAny (model X.prog X.w) X.A (inplaceOp op v u) (EP X pins σ Q) X.xe s := ho pins s σ H x y v u Q I rx ry q

/-! ### ints -/
theorem opI {f : Value → Value → Sem Value} {C : Int → Int → Prop} {g : Int → Int → Int}
    (rule : ∀ (i j : Int) (t u : Tok) (s : Shared) (Q : Value → Shared → Prop) (E : Value → Shared → Prop), C i j → Q (.int (g i j) s.toks) { s with toks := s.toks + 1 } → wpAny (model X.prog X.w) X.A (f (.int i t) (.int j u)) Q E s) :
    OpR X f (rI C fun i j => .int (g i j)) := by
  intro pins s σ H x y v u Q I rx ry h
  obtain ⟨i, j, rfl, rfl, hc, q⟩ := h
  obtain ⟨t, rfl⟩ := rx
  obtain ⟨t', rfl⟩ := ry
  exact rule i j t t' s _ _ hc ⟨.int (g i j), H, I.tok _, ⟨_, rfl⟩, q⟩
theorem opI0 {f : Value → Value → Sem Value} {g : Int → Int → Int}
    (rule : ∀ (i j : Int) (t u : Tok) (s : Shared) (Q : Value → Shared → Prop) (E : Value → Shared → Prop), Q (.int (g i j) s.toks) { s with toks := s.toks + 1 } → wpAny (model X.prog X.w) X.A (f (.int i t) (.int j u)) Q E s) :
    OpR X f (rI0 fun i j => .int (g i j)) := by
  intro pins s σ H x y v u Q I rx ry h
  obtain ⟨i, j, rfl, rfl, q⟩ := h
  obtain ⟨t, rfl⟩ := rx
  obtain ⟨t', rfl⟩ := ry
  exact rule i j t t' s _ _ ⟨.int (g i j), H, I.tok _, ⟨_, rfl⟩, q⟩
theorem opB0 {f : Value → Value → Sem Value} {g : Int → Int → Bool}
    (rule : ∀ (i j : Int) (t u : Tok) (s : Shared) (Q : Value → Shared → Prop) (E : Value → Shared → Prop), Q (.bool (g i j)) s → wpAny (model X.prog X.w) X.A (f (.int i t) (.int j u)) Q E s) :
    OpR X f (rI0 fun i j => .bl (g i j)) := by
  intro pins s σ H x y v u Q I rx ry h
  obtain ⟨i, j, rfl, rfl, q⟩ := h
  obtain ⟨t, rfl⟩ := rx
  obtain ⟨t', rfl⟩ := ry
  exact rule i j t t' s _ _ ⟨.bl (g i j), H, I, rfl, q⟩

def CDiv (i j : Int) : Prop := 0 < j ∧ j < 1073741824
def CDivN (i j : Int) : Prop := j ≠ 0 ∧ j.natAbs < 1073741824
def CPow (i j : Int) : Prop := 0 ≤ j ∧ j ≤ 1000000 ∧ i.natAbs < 2 ^ 64
def CMul (i j : Int) : Prop := (-(2 ^ 64) < i ∧ i < 2 ^ 64) ∨ (-(2 ^ 64) < j ∧ j < 2 ^ 64)
theorem CMul.ok {i j : Int} (h : CMul i j) : IntMulOk i j := by
  rcases h with ⟨h1, h2⟩ | ⟨h1, h2⟩
  · exact .of_left (intBits_le_64 h1 h2)
  · exact .of_right (intBits_le_64 h1 h2)
theorem two_pow_nn (k : Nat) : (0 : Int) ≤ 2 ^ k := by
  rw [two_pow_cast]
  exact Int.natCast_nonneg _

theorem op_add : OpR X (binaryOp .Add) (rI0 fun i j => .int (i + j)) := opI0 fun _ _ _ _ _ _ _ q => add_int q
theorem op_sub : OpR X (binaryOp .Sub) (rI0 fun i j => .int (i - j)) := opI0 fun _ _ _ _ _ _ _ q => sub_int q
theorem op_mul : OpR X (binaryOp .Mult) (rI CMul fun i j => .int (i * j)) := opI fun _ _ _ _ _ _ _ hc q => mul_int q hc.ok
/-- // by a positive divisor -/
theorem op_fdiv : OpR X (binaryOp .FloorDiv) (rI CDiv fun i j => .int (i / j)) := opI fun i j _ _ _ _ _ hc q => by
  have h1 : (0 : Int) < j := hc.1
  have h2 : j < 1073741824 := hc.2
  exact floordiv_int (by omega) (by rw [Int.fdiv_eq_ediv_of_nonneg i (by omega)]; exact q) (.inl (PyProof.noPylong_small (by omega)))
theorem op_fdivN : OpR X (binaryOp .FloorDiv) (rI CDivN fun i j => .int (i.fdiv j)) := opI fun _ _ _ _ _ _ _ hc q => floordiv_int hc.1 q (.inl (PyProof.noPylong_small hc.2))
/-- % by a positive divisor of any size -/
theorem op_mod : OpR X (binaryOp .Mod) (rI (fun _ j => 0 < j) fun i j => .int (i % j)) := opI fun i j _ _ _ _ _ hc q => by
  have h1 : (0 : Int) < j := hc
  exact mod_int' (by omega) (by rw [Int.fmod_eq_emod_of_nonneg i (by omega)]; exact q)
theorem op_modN : OpR X (binaryOp .Mod) (rI (fun _ j => j ≠ 0) fun i j => .int (i.fmod j)) := opI fun _ _ _ _ _ _ _ hc q => mod_int' hc q
theorem op_pow : OpR X (binaryOp .Pow) (rI CPow fun i j => .int (i ^ j.toNat)) := opI fun _ _ _ _ _ _ _ hc q => pow_int_small hc.1 hc.2.1 hc.2.2 q
theorem op_shl : OpR X (binaryOp .LShift) (rI CPow fun i j => .int (i * 2 ^ j.toNat)) := opI fun _ _ _ _ _ _ _ hc q => lshift_int_small hc.1 hc.2.1 hc.2.2 q
theorem op_shr : OpR X (binaryOp .RShift) (rI (fun _ j => 0 ≤ j) fun i j => .int (i / 2 ^ j.toNat)) := opI fun i j _ _ _ _ _ hc q =>
  rshift_int hc (by rw [Int.fdiv_eq_ediv_of_nonneg i (two_pow_nn _)]; exact q)
theorem op_and : OpR X (binaryOp .BitAnd) (rI0 fun i j => .int (Builtin.bitAnd i j)) := opI0 fun _ _ _ _ _ _ _ q => and_int q
theorem op_or : OpR X (binaryOp .BitOr) (rI0 fun i j => .int (Builtin.bitOr i j)) := opI0 fun _ _ _ _ _ _ _ q => or_int q
theorem op_xor : OpR X (binaryOp .BitXor) (rI0 fun i j => .int (Builtin.bitXor i j)) := opI0 fun _ _ _ _ _ _ _ q => xor_int q

theorem iop_add : OpR X (inplaceOp .Add) (rI0 fun i j => .int (i + j)) := opI0 fun _ _ _ _ _ _ _ q => iadd_int q
theorem iop_sub : OpR X (inplaceOp .Sub) (rI0 fun i j => .int (i - j)) := opI0 fun _ _ _ _ _ _ _ q => isub_int q
theorem iop_mul : OpR X (inplaceOp .Mult) (rI CMul fun i j => .int (i * j)) := opI fun _ _ _ _ _ _ _ hc q => imul_int q hc.ok
theorem iop_fdiv : OpR X (inplaceOp .FloorDiv) (rI CDiv fun i j => .int (i / j)) := opI fun i j _ _ _ _ _ hc q => by
  have h1 : (0 : Int) < j := hc.1
  have h2 : j < 1073741824 := hc.2
  exact ifloordiv_int (by omega) (by rw [Int.fdiv_eq_ediv_of_nonneg i (by omega)]; exact q) (.inl (PyProof.noPylong_small (by omega)))
theorem iop_mod : OpR X (inplaceOp .Mod) (rI (fun _ j => 0 < j) fun i j => .int (i % j)) := opI fun i j _ _ _ _ _ hc q => by
  have h1 : (0 : Int) < j := hc
  exact imod_int (by omega) (by rw [Int.fmod_eq_emod_of_nonneg i (by omega)]; exact q)
theorem iop_shl : OpR X (inplaceOp .LShift) (rI CPow fun i j => .int (i * 2 ^ j.toNat)) := opI fun _ _ _ _ _ _ _ hc q => ilshift_int_small hc.1 hc.2.1 hc.2.2 q
theorem iop_shr : OpR X (inplaceOp .RShift) (rI (fun _ j => 0 ≤ j) fun i j => .int (i / 2 ^ j.toNat)) := opI fun i j _ _ _ _ _ hc q =>
  irshift_int hc (by rw [Int.fdiv_eq_ediv_of_nonneg i (two_pow_nn _)]; exact q)
theorem iop_and : OpR X (inplaceOp .BitAnd) (rI0 fun i j => .int (Builtin.bitAnd i j)) := opI0 fun _ _ _ _ _ _ _ q => iand_int q
theorem iop_or : OpR X (inplaceOp .BitOr) (rI0 fun i j => .int (Builtin.bitOr i j)) := opI0 fun _ _ _ _ _ _ _ q => ior_int q
theorem iop_xor : OpR X (inplaceOp .BitXor) (rI0 fun i j => .int (Builtin.bitXor i j)) := opI0 fun _ _ _ _ _ _ _ q => ixor_int q

theorem unI {f : Value → Sem Value} {g : Int → Int}
    (rule : ∀ (i : Int) (t : Tok) (s : Shared) (Q : Value → Shared → Prop) (E : Value → Shared → Prop), Q (.int (g i) s.toks) { s with toks := s.toks + 1 } → wpAny (model X.prog X.w) X.A (f (.int i t)) Q E s) :
    UnR X f (rU fun i => .int (g i)) := by
  intro pins s σ H x v Q I rx h
  obtain ⟨i, rfl, q⟩ := h
  obtain ⟨t, rfl⟩ := rx
  exact rule i t s _ _ ⟨.int (g i), H, I.tok _, ⟨_, rfl⟩, q⟩
theorem un_neg : UnR X (unaryOp .USub) (rU fun i => .int (-i)) := unI fun _ _ _ _ _ q => neg_int q
theorem un_inv : UnR X (unaryOp .Invert) (rU fun i => .int (Builtin.bitNot i)) := unI fun _ _ _ _ _ q => invert_int q

/-! ### bools among ints: n += (a < b) -/
theorem op_add_ib : OpR X (binaryOp .Add) (fun x y H Q => ∃ i k, x = .int i ∧ y = .bl k ∧ Q (.int (i + b2i k)) H) := by
  intro pins s σ H x y v u Q I rx ry h
  obtain ⟨i, k, rfl, rfl, q⟩ := h
  obtain ⟨t, rfl⟩ := rx
  cases ry
  exact add_int_bool ⟨.int (i + b2i k), H, I.tok _, ⟨_, rfl⟩, q⟩
end

/-! ### comparisons -/
/-- the scalars that == tells apart as data does -/
def scal : V → V → Bool
  | .non, .non => true | .non, .int _ => true | .int _, .non => true | .non, .bl _ => true | .bl _, .non => true | .non, .str _ => true | .str _, .non => true
  | .int _, .int _ => true | .bl _, .bl _ => true | .str _, .str _ => true | .byt _, .byt _ => true
  | .int _, .str _ => true | .str _, .int _ => true | .bl _, .str _ => true | .str _, .bl _ => true
  | _, _ => false
def rEq : R2 := fun x y H Q => scal x y = true ∧ Q (.bl (decide (x = y))) H
def rNe : R2 := fun x y H Q => scal x y = true ∧ Q (.bl (!decide (x = y))) H

theorem dec_int {i j : Int} : decide (V.int i = V.int j) = (i == j) := by
  rw [Bool.eq_iff_iff]
  simp
theorem dec_bl {i j : Bool} : decide (V.bl i = V.bl j) = (i == j) := by
  rw [Bool.eq_iff_iff]
  simp
theorem dec_str {i j : Str} : decide (V.str i = V.str j) = (i == j) := by
  rw [Bool.eq_iff_iff]
  simp
theorem dec_byt {i j : Array UInt8} : decide (V.byt i = V.byt j) = (i.toList == j.toList) := by
  rw [Bool.eq_iff_iff]
  cases i
  cases j
  simp

section
variable {X : Cx} {a b c : Expr} {ta tb tc : TE} {pos : Pos}
theorem fin_bl {pins : List (Addr × Obj)} {σ : St} {H : Hp} {s : Shared} {Q : VK} {k k' : Bool} (I : Inv X pins σ H s) (q : Q (.bl k) H) (e : k = k') : EP X pins σ Q (.bool k') s := by
  subst e
  exact ⟨.bl k, H, I, rfl, q⟩
theorem op_eq : OpR X (compareOp .Eq) rEq := by
  intro pins s σ H x y v u Q I rx ry h
  obtain ⟨hs, q⟩ := h
  cases x with
  | non =>
    cases rx
    cases y with
    | non => cases ry; exact PySem.EqNone.eq_none_none (fin_bl I q (by simp))
    | bl j => cases ry; exact PySem.EqNone.eq_none_bool (fin_bl I q (by simp))
    | int j => obtain ⟨t', rfl⟩ := ry; exact PySem.EqNone.eq_none_int (fin_bl I q (by simp))
    | str j => obtain ⟨t', rfl⟩ := ry; exact PySem.EqNone.eq_none_str (fin_bl I q (by simp))
    | _ => exact absurd (show false = true from hs) Bool.false_ne_true
  | bl i =>
    cases rx
    cases y with
    | non => cases ry; exact PySem.EqNone.eq_bool_none (fin_bl I q (by simp))
    | bl j => cases ry; exact eq_bool (fin_bl I q dec_bl)
    | str j => obtain ⟨t', rfl⟩ := ry; exact PySem.EqMixed.eq_bool_str (fin_bl I q (by simp))
    | _ => exact absurd (show false = true from hs) Bool.false_ne_true
  | int i =>
    obtain ⟨t, rfl⟩ := rx
    cases y with
    | non => cases ry; exact PySem.EqNone.eq_int_none (fin_bl I q (by simp))
    | int j => obtain ⟨t', rfl⟩ := ry; exact eq_int (fin_bl I q dec_int)
    | str j => obtain ⟨t', rfl⟩ := ry; exact PySem.EqMixed.eq_int_str (fin_bl I q (by simp))
    | _ => exact absurd (show false = true from hs) Bool.false_ne_true
  | str i =>
    obtain ⟨t, rfl⟩ := rx
    cases y with
    | non => cases ry; exact PySem.EqNone.eq_str_none (fin_bl I q (by simp))
    | bl j => cases ry; exact PySem.EqMixed.eq_str_bool (fin_bl I q (by simp))
    | int j => obtain ⟨t', rfl⟩ := ry; exact PySem.EqMixed.eq_str_int (fin_bl I q (by simp))
    | str j => obtain ⟨t', rfl⟩ := ry; exact eq_str (fin_bl I q dec_str)
    | _ => exact absurd (show false = true from hs) Bool.false_ne_true
  | byt i =>
    obtain ⟨t, rfl⟩ := rx
    cases y with
    | byt j => obtain ⟨t', rfl⟩ := ry; exact PySem.W.eq_bytes (fin_bl I q dec_byt)
    | _ => exact absurd (show false = true from hs) Bool.false_ne_true
  | _ => cases y <;> exact absurd (show false = true from hs) Bool.false_ne_true
theorem op_ne : OpR X (compareOp .NotEq) rNe := by
  intro pins s σ H x y v u Q I rx ry h
  obtain ⟨hs, q⟩ := h
  cases x with
  | non =>
    cases rx
    cases y with
    | non => cases ry; exact PySem.EqNone.ne_none_none (fin_bl I q (by simp))
    | bl j => cases ry; exact PySem.EqNone.ne_none_bool (fin_bl I q (by simp))
    | int j => obtain ⟨t', rfl⟩ := ry; exact PySem.EqNone.ne_none_int (fin_bl I q (by simp))
    | str j => obtain ⟨t', rfl⟩ := ry; exact PySem.EqNone.ne_none_str (fin_bl I q (by simp))
    | _ => exact absurd (show false = true from hs) Bool.false_ne_true
  | bl i =>
    cases rx
    cases y with
    | non => cases ry; exact PySem.EqNone.ne_bool_none (fin_bl I q (by simp))
    | bl j => cases ry; exact ne_bool (fin_bl I q (congrArg not dec_bl))
    | str j => obtain ⟨t', rfl⟩ := ry; exact PySem.EqMixed.ne_bool_str (fin_bl I q (by simp))
    | _ => exact absurd (show false = true from hs) Bool.false_ne_true
  | int i =>
    obtain ⟨t, rfl⟩ := rx
    cases y with
    | non => cases ry; exact PySem.EqNone.ne_int_none (fin_bl I q (by simp))
    | int j => obtain ⟨t', rfl⟩ := ry; exact ne_int (fin_bl I q (congrArg not dec_int))
    | str j => obtain ⟨t', rfl⟩ := ry; exact PySem.EqMixed.ne_int_str (fin_bl I q (by simp))
    | _ => exact absurd (show false = true from hs) Bool.false_ne_true
  | str i =>
    obtain ⟨t, rfl⟩ := rx
    cases y with
    | non => cases ry; exact PySem.EqNone.ne_str_none (fin_bl I q (by simp))
    | bl j => cases ry; exact PySem.EqMixed.ne_str_bool (fin_bl I q (by simp))
    | int j => obtain ⟨t', rfl⟩ := ry; exact PySem.EqMixed.ne_str_int (fin_bl I q (by simp))
    | str j => obtain ⟨t', rfl⟩ := ry; exact ne_str (fin_bl I q (congrArg not dec_str))
    | _ => exact absurd (show false = true from hs) Bool.false_ne_true
  | byt i =>
    obtain ⟨t, rfl⟩ := rx
    cases y with
    | byt j => obtain ⟨t', rfl⟩ := ry; exact PySem.W.ne_bytes (fin_bl I q (congrArg not dec_byt))
    | _ => exact absurd (show false = true from hs) Bool.false_ne_true
  | _ => cases y <;> exact absurd (show false = true from hs) Bool.false_ne_true

theorem op_lt : OpR X (compareOp .Lt) (rI0 fun i j => .bl (decide (i < j))) := opB0 fun _ _ _ _ _ _ _ q => lt_int q
theorem op_le : OpR X (compareOp .LtE) (rI0 fun i j => .bl (decide (i ≤ j))) := opB0 fun _ _ _ _ _ _ _ q => le_int q
theorem op_gt : OpR X (compareOp .Gt) (rI0 fun i j => .bl (decide (j < i))) := opB0 fun _ _ _ _ _ _ _ q => gt_int q
theorem op_ge : OpR X (compareOp .GtE) (rI0 fun i j => .bl (decide (j ≤ i))) := opB0 fun _ _ _ _ _ _ _ q => ge_int q
theorem op_lt_str : OpR X (compareOp .Lt) (fun x y H Q => ∃ i j, x = .str i ∧ y = .str j ∧ Q (.bl (decide (i.cps.toList < j.cps.toList))) H) := by
  intro pins s σ H x y v u Q I rx ry h
  obtain ⟨i, j, rfl, rfl, q⟩ := h
  obtain ⟨t, rfl⟩ := rx
  obtain ⟨t', rfl⟩ := ry
  exact lt_str (fin_bl I q rfl)
/-- the one string within the other -/
theorem op_in_str : OpR X (compareOp .In) (fun x y H Q => ∃ i j, x = .str i ∧ y = .str j ∧ Q (.bl (!(Builtin.Str.occurrences j i 0 j.length 1).isEmpty)) H) := by
  intro pins s σ H x y v u Q I rx ry h
  obtain ⟨i, j, rfl, rfl, q⟩ := h
  obtain ⟨t, rfl⟩ := rx
  obtain ⟨t', rfl⟩ := ry
  exact in_str (fin_bl I q rfl)

/-- is None, is not None: the right side a value none -/
theorem op_isN : OpR X (compareOp .Is) (fun x y H Q => y = .non ∧ Q (.bl (decide (x = .non))) H) := by
  intro pins s σ H x y v u Q I rx ry h
  obtain ⟨rfl, q⟩ := h
  cases ry
  refine is_none_gen (fin_bl I q ?_)
  cases x <;> first
    | (cases rx; rfl)
    | (obtain ⟨t, rfl⟩ := rx; rfl)
theorem op_notN : OpR X (compareOp .IsNot) (fun x y H Q => y = .non ∧ Q (.bl (!decide (x = .non))) H) := by
  intro pins s σ H x y v u Q I rx ry h
  obtain ⟨rfl, q⟩ := h
  cases ry
  refine isnot_none_gen (fin_bl I q ?_)
  cases x <;> first
    | (cases rx; rfl)
    | (obtain ⟨t, rfl⟩ := rx; rfl)

theorem op_notin_str : OpR X (compareOp .NotIn) (fun x y H Q => ∃ i j, x = .str i ∧ y = .str j ∧ Q (.bl (!(!(Builtin.Str.occurrences j i 0 j.length 1).isEmpty))) H) := by
  intro pins s σ H x y v u Q I rx ry h
  obtain ⟨i, j, rfl, rfl, q⟩ := h
  obtain ⟨t, rfl⟩ := rx
  obtain ⟨t', rfl⟩ := ry
  exact notIn_str (fin_bl I q rfl)
/-- is, is not of two objects that are tracked lists or instances -/
def isObj : HO → Bool
  | .lst _ => true
  | .ins _ _ _ => true
  | _ => false
theorem obj_there {pins : List (Addr × Obj)} {s : Shared} {σ : St} {H : Hp} {a : Addr} {o : HO} (I : Inv X pins σ H s) (h : H a = some o) (p : isObj o = true) : ∃ ob, s.heap.get? a = some ob ∧ ob.cls ≠ .type "tuple" := by
  cases o with
  | lst xs =>
    obtain ⟨_, its, n, _, e⟩ : xs.length ≤ sizeLine ∧ ∃ (its : List Value) (n : Nat), Vals xs its ∧ s.heap.get? a = some { cls := .type "list", data := .seq its.toArray n } := I.hok a _ h
    exact ⟨_, e, (by show Value.type "list" ≠ .type "tuple"; decide +kernel)⟩
  | ins C dx fs =>
    have x := I.hok a _ h
    obtain ⟨_, _, _, e, _⟩ := x
    exact ⟨_, e, (by show Value.ref C ≠ .type "tuple"; exact fun z => by cases z)⟩
  | _ => exact absurd (show false = true from p) Bool.false_ne_true
theorem op_is_ref : OpR X (compareOp .Is) (fun x y H Q => ∃ a b oa ob, x = .ref a ∧ y = .ref b ∧ H a = some oa ∧ isObj oa = true ∧ H b = some ob ∧ isObj ob = true ∧ Q (.bl (decide (a = b))) H) := by
  intro pins s σ H x y v u Q I rx ry h
  obtain ⟨a, b, oa, ob, rfl, rfl, ha, pa, hb, pb, q⟩ := h
  cases rx
  cases ry
  obtain ⟨o1, e1, n1⟩ := obj_there I ha pa
  obtain ⟨o2, e2, _⟩ := obj_there I hb pb
  by_cases z : a = b
  · subst z
    exact wpAny_is_ref_self (fin_bl I q (by simp))
  · exact wpAny_is_ref_other z e1 e2 n1 (fin_bl I q (by simp [z]))
theorem op_isnot_ref : OpR X (compareOp .IsNot) (fun x y H Q => ∃ a b oa ob, x = .ref a ∧ y = .ref b ∧ H a = some oa ∧ isObj oa = true ∧ H b = some ob ∧ isObj ob = true ∧ Q (.bl (!decide (a = b))) H) := by
  intro pins s σ H x y v u Q I rx ry h
  obtain ⟨a, b, oa, ob, rfl, rfl, ha, pa, hb, pb, q⟩ := h
  cases rx
  cases ry
  obtain ⟨o1, e1, n1⟩ := obj_there I ha pa
  obtain ⟨o2, e2, _⟩ := obj_there I hb pb
  by_cases z : a = b
  · subst z
    exact wpAny_isNot_ref_self (fin_bl I q (by simp))
  · exact wpAny_isNot_ref_other z e1 e2 n1 (fin_bl I q (by simp [z]))

/-- two rules for one operation: by cases -/
theorem OpR.or {f : Value → Value → Sem Value} {r r' : R2} (h : OpR X f r) (h' : OpR X f r') : OpR X f (fun x y H Q => r x y H Q ∨ r' x y H Q) := by
  intro pins s σ H x y v u Q I rx ry q
  rcases q with q | q
  · exact h pins s σ H x y v u Q I rx ry q
  · exact h' pins s σ H x y v u Q I rx ry q

theorem nomark (b : Expr) {op : CmpOp} (h : op ≠ .In := by decide) (h2 : op ≠ .NotIn := by decide) : behindInMarks op b = false := by
  have e1 : (op == CmpOp.In) = false := by cases op <;> first | rfl | exact absurd rfl h
  have e2 : (op == CmpOp.NotIn) = false := by cases op <;> first | rfl | exact absurd rfl h2
  cases b <;> simp [behindInMarks, e1, e2]
/-- a comparison as a value; hm: nomark b, or (for in, not in) by with_unfolding_all rfl -/
theorem pe_cmpR {op : CmpOp} {r : R2} (ho : OpR X (compareOp op) r) (ha : PE X a ta) (hb : PE X b tb) (hm : behindInMarks op b = false) : PE X (.Compare a [op] [b] pos) (tOp r ta tb) := by
  intro pins s σ H Q I h
  exact wpAny_Compare1 (binT ha hb I h fun v u s2 x y H2 I2 rx ry q => ho pins s2 σ H2 x y v u Q I2 rx ry q) hm
/-- a reading of a value as a test -/
def tTest (t : TE) : TT := fun σ H Q => t σ H fun x H' => ∃ k, x = .bl k ∧ Q k H'
theorem pt_cmpR {op : CmpOp} {r : R2} (ho : OpR X (compareOp op) r) (ha : PE X a ta) (hb : PE X b tb) (hm : behindInMarks op b = false) : PT X (.Compare a [op] [b] pos) (tTest (tOp r ta tb)) := by
  intro pins s σ H Q I h
  refine wpAny_isTrue_Compare1 (thn (ha pins s σ H _ I h) fun v s1 ⟨x, H1, I1, r1, q1⟩ => thn (hb pins s1 σ H1 _ I1 q1) fun u s2 ⟨y, H2, I2, r2, q2⟩ =>
    thn (ho pins s2 σ H2 x y v u _ I2 r1 r2 q2) fun c s3 ⟨z, H3, I3, r3, k, e, q3⟩ => ?_) hm
  subst e
  cases r3
  exact wpAny_truthy_bool ⟨H3, I3, q3⟩
/-- a op1 b op2 c -/
def tChain (r r' : R2) (ta tb tc : TE) : TE := fun σ H Q => ta σ H fun x H1 => tb σ H1 fun y H2 => r x y H2 fun z H3 => ∃ k, z = .bl k ∧
  (if k = true then tc σ H3 fun w' H4 => r' y w' H4 Q else Q (.bl false) H3)
theorem pe_chain {op op' : CmpOp} {r r' : R2} (ho : OpR X (compareOp op) r) (ho' : OpR X (compareOp op') r') (ha : PE X a ta) (hb : PE X b tb) (hc : PE X c tc)
    (hm : lastMarks [op, op'] [b, c] = false := by with_unfolding_all rfl) : PE X (.Compare a [op, op'] [b, c] pos) (tChain r r' ta tb tc) := by
  intro pins s σ H Q I h
  refine Compare_chain (thn (ha pins s σ H _ I h) fun v s1 ⟨x, H1, I1, r1, q1⟩ => chain_link (thn (hb pins s1 σ H1 _ I1 q1) fun u s2 ⟨y, H2, I2, r2, q2⟩ =>
    thn (ho pins s2 σ H2 x y v u _ I2 r1 r2 q2) fun d s3 ⟨z, H3, I3, r3, k, e, q3⟩ => ?_)) hm
  subst e
  cases r3
  refine wpAny_truthy_bool ?_
  cases k with
  | false => exact ite_ff ⟨.bl false, H3, I3, rfl, q3⟩
  | true => exact ite_tt (chain_last (thn (hc pins s3 σ H3 _ I3 q3) fun w' s4 ⟨z', H4, I4, r4, q4⟩ => ho' pins s4 σ H4 y z' u w' Q I4 r2 r4 q4))
theorem pt_chain {op op' : CmpOp} {r r' : R2} (ho : OpR X (compareOp op) r) (ho' : OpR X (compareOp op') r') (ha : PE X a ta) (hb : PE X b tb) (hc : PE X c tc)
    (hm : lastMarks [op, op'] [b, c] = false := by with_unfolding_all rfl) : PT X (.Compare a [op, op'] [b, c] pos) (tTest (tChain r r' ta tb tc)) := by
  intro pins s σ H Q I h
  refine isTrue_chain (thn (ha pins s σ H _ I h) fun v s1 ⟨x, H1, I1, r1, q1⟩ => test_link (thn (hb pins s1 σ H1 _ I1 q1) fun u s2 ⟨y, H2, I2, r2, q2⟩ =>
    thn (ho pins s2 σ H2 x y v u _ I2 r1 r2 q2) fun d s3 ⟨z, H3, I3, r3, k, e, q3⟩ => ?_)) hm
  subst e
  cases r3
  refine wpAny_truthy_bool ?_
  cases k with
  | false =>
    obtain ⟨k', e', q'⟩ := q3
    cases e'
    exact ite_ff ⟨H3, I3, q'⟩
  | true =>
    refine ite_tt (test_last (thn (hc pins s3 σ H3 _ I3 q3) fun w' s4 ⟨z', H4, I4, r4, q4⟩ => thn (ho' pins s4 σ H4 y z' u w' _ I4 r2 r4 q4) fun d' s5 ⟨z2, H5, I5, r5, k2, e2, q5⟩ => ?_))
    subst e2
    cases r5
    exact wpAny_truthy_bool ⟨H5, I5, q5⟩

/-! ### truth -/
/-- a value's truth by the abstract heap -/
def TruV (K : PySem.W.Frag) (x : V) (H : Hp) (k : Bool) : Prop :=
  match x with
  | .non => k = false
  | .bl b => k = b
  | .int i => k = (i != 0)
  | .str y => y.length ≤ sizeLine ∧ k = ((y.length : Int) != 0)
  | .byt y => y.size ≤ sizeLine ∧ k = ((y.size : Int) != 0)
  | .ref p => (∃ xs, SqL K H p xs ∧ k = !xs.isEmpty) ∨ (∃ xs, SqT K H p xs ∧ k = !xs.isEmpty) ∨ ∃ kvs, H p = some (.dK kvs) ∧ k = !kvs.isEmpty
  | _ => False
theorem isEmpty_kv {κ : Type} {kvs : List (κ × V)} {vs : List (κ × Value)} (r : KV kvs vs) : (!vs.isEmpty) = !kvs.isEmpty := by
  cases r <;> rfl
theorem isEmpty_of {xs : List V} {its : List Value} (r : Vals xs its) : (!its.toArray.isEmpty) = !xs.isEmpty := by
  cases r <;> simp
theorem line63 : (sizeLine : Nat) < 2 ^ 63 := by rw [sizeLine_eq]; decide
theorem tru_ok : TruR X (fun x H Q => ∃ k, TruV X.K x H k ∧ Q k H) := by
  intro pins s σ H x v Q I rx h
  obtain ⟨k, e, q⟩ := h
  have hl := line63
  have hs : sizeLine = 16777216 := sizeLine_eq
  cases x with
  | non =>
    cases rx
    have e' : k = false := e
    subst e'
    exact truthy_none ⟨H, I, q⟩
  | bl b =>
    cases rx
    have e' : k = b := e
    subst e'
    exact wpAny_truthy_bool ⟨H, I, q⟩
  | int i =>
    obtain ⟨t, rfl⟩ := rx
    have e' : k = (i != 0) := e
    subst e'
    exact PySem.P.truthy_int ⟨H, I, q⟩
  | str y =>
    obtain ⟨t, rfl⟩ := rx
    obtain ⟨hy, e'⟩ : y.length ≤ sizeLine ∧ k = ((y.length : Int) != 0) := e
    subst e'
    exact PySem.P.truthy_str (by omega) ⟨H, I.tok _, q⟩
  | byt y =>
    obtain ⟨t, rfl⟩ := rx
    obtain ⟨hy, e'⟩ : y.size ≤ sizeLine ∧ k = ((y.size : Int) != 0) := e
    subst e'
    exact PySem.W.truthy_bytes (by omega) ⟨H, I.tok _, q⟩
  | ref p =>
    cases rx
    have e' : (∃ xs, SqL X.K H p xs ∧ k = !xs.isEmpty) ∨ (∃ xs, SqT X.K H p xs ∧ k = !xs.isEmpty) ∨ ∃ kvs, H p = some (.dK kvs) ∧ k = !kvs.isEmpty := e
    rcases e' with ⟨xs, hx, e'⟩ | ⟨xs, hx, e'⟩ | ⟨kvs, hx, e'⟩
    · subst e'
      obtain ⟨its, r, pl, hz⟩ := I.list hx
      have hlen := r.length
      exact wpAny_truthy_list pl.isList (by simp only [List.size_toArray]; omega) ⟨H, I.tok _, by rw [isEmpty_of r]; exact q⟩
    · subst e'
      obtain ⟨its, r, pl, hz⟩ := I.tuple hx
      have hlen := r.length
      exact truthy_tuple pl (by simp only [List.size_toArray]; omega) ⟨H, I.tok _, by rw [isEmpty_of r]; exact q⟩
    · subst e'
      obtain ⟨hz, hS, vs, r, m⟩ : kvs.length ≤ sizeLine ∧ (p == sysModules) = false ∧ ∃ vs, KV kvs vs ∧ s.heap.DictOf (mixKind X.prog X.w) p vs := I.hok p _ hx
      have hlen : kvs.length = vs.length := Paired.length r
      exact wpAny_truthy_dict hS m (by omega) ⟨H, I.tok _, by rw [isEmpty_kv r]; exact q⟩
  | _ => exact (show False from e).elim
/-- any expression whose test is its value's truth (a name, a call, a subscript, a field ..: he by fun _ => rfl) -/
theorem pt_truth (ha : PE X a ta) (he : ∀ whole, isTrue a X.env whole = (do let v ← whole; standAt a.pos; holding [v] (truthy v))) :
    PT X a (fun σ H Q => ta σ H fun x H' => ∃ k, TruV X.K x H' k ∧ Q k H') := by
  intro pins s σ H Q I h
  exact isTrue_plain (thn (ha pins s σ H _ I h) fun v s1 ⟨x, H1, I1, r1, q1⟩ => tru_ok pins s1 σ H1 x v Q I1 r1 q1) (he _)

/-! ### strs and bytes -/
theorem pe_byt {x : List UInt8} {k : Nat} : PE X (.Constant (.bytes x) k pos) (fun _ H Q => Q (.byt x.toArray) H) := fun _ _ _ H _ I h => PySem.W.Constant_bytes ⟨.byt x.toArray, H, I.tok _, ⟨_, rfl⟩, h⟩
theorem op_add_str : OpR X (binaryOp .Add) (fun x y H Q => ∃ i j, x = .str i ∧ y = .str j ∧ i.length + j.length ≤ sizeLine ∧ Q (.str (i ++ j)) H) := by
  intro pins s σ H x y v u Q I rx ry h
  obtain ⟨i, j, rfl, rfl, hz, q⟩ := h
  obtain ⟨t, rfl⟩ := rx
  obtain ⟨t', rfl⟩ := ry
  exact add_str (fun t' tk => ⟨.str (i ++ j), H, I.tok _, ⟨_, rfl⟩, q⟩) hz
theorem iop_add_str : OpR X (inplaceOp .Add) (fun x y H Q => ∃ i j, x = .str i ∧ y = .str j ∧ i.length + j.length ≤ sizeLine ∧ Q (.str (i ++ j)) H) := by
  intro pins s σ H x y v u Q I rx ry h
  obtain ⟨i, j, rfl, rfl, hz, q⟩ := h
  obtain ⟨t, rfl⟩ := rx
  obtain ⟨t', rfl⟩ := ry
  exact iadd_str (fun t' tk => ⟨.str (i ++ j), H, I.tok _, ⟨_, rfl⟩, q⟩) hz
theorem op_add_byt : OpR X (binaryOp .Add) (fun x y H Q => ∃ i j, x = .byt i ∧ y = .byt j ∧ i.size + j.size ≤ 16777216 ∧ Q (.byt (i ++ j)) H) := by
  intro pins s σ H x y v u Q I rx ry h
  obtain ⟨i, j, rfl, rfl, hz, q⟩ := h
  obtain ⟨t, rfl⟩ := rx
  obtain ⟨t', rfl⟩ := ry
  exact PySem.W.KBy.add_bytes hz (fun t' tk => ⟨.byt (i ++ j), H, I.tok _, ⟨_, rfl⟩, q⟩)

def PlainIxT (b : Expr) : Prop := ∀ o i, subscripted b false o i = operate [o, i] (getItem o i)
/-- s[i], 0 ≤ i < len -/
theorem pe_item_str (ha : PE X a ta) (hb : PE X b tb) (hs : PlainIxT b) :
    PE X (.Subscript a b pos) (tOp (fun x y H Q => ∃ z i c, x = .str z ∧ y = .int i ∧ 0 ≤ i ∧ i < 2 ^ 63 ∧ i < z.length ∧ z.cps[i.toNat]? = some c ∧ Q (.str ⟨#[c]⟩) H) ta tb) := by
  intro pins s σ H Q I h
  refine Subscript_ (binT ha hb I h fun v u s2 x y H2 I2 rx ry q => ?_)
  obtain ⟨z, i, c, rfl, rfl, h0, h63, h1, hc, q⟩ := q
  obtain ⟨t, rfl⟩ := rx
  obtain ⟨t', rfl⟩ := ry
  have e : seqIndex? i z.length = some i.toNat := PySem.StrLaws.seqIndex_nonneg h0 h1
  exact tail_any (typeIs_str s2 z t) slot_str_getitem.lookup (getItem_str (c := c) (by
    have e1 : decide (i < -(2 ^ 63 : Int)) = false := decide_eq_false (by omega)
    have e2 : decide (i ≥ 2 ^ 63) = false := decide_eq_false (by omega)
    rw [e1, e2] <;> rfl) (by rw [e]; exact hc) ⟨.str ⟨#[c]⟩, H2, I2.tok _, ⟨_, rfl⟩, q⟩) (hs _ _)
/-- b[i], 0 ≤ i < len -/
theorem pe_item_byt (ha : PE X a ta) (hb : PE X b tb) (hs : PlainIxT b) :
    PE X (.Subscript a b pos) (tOp (fun x y H Q => ∃ (z : List UInt8) (i : Int), x = .byt z.toArray ∧ y = .int i ∧ z.length ≤ sizeLine ∧ 0 ≤ i ∧ i < z.length ∧ Q (.int ((z.getD i.toNat 0).toNat : Nat)) H) ta tb) := by
  intro pins s σ H Q I h
  refine Subscript_ (binT ha hb I h fun v u s2 x y H2 I2 rx ry q => ?_)
  obtain ⟨z, i, rfl, rfl, hz, h0, h1, q⟩ := q
  obtain ⟨t, rfl⟩ := rx
  obtain ⟨t', rfl⟩ := ry
  have hl : sizeLine = 16777216 := sizeLine_eq
  exact tail_any (PySem.W.typeIs_bytes s2 z.toArray t) PySem.W.FB.slot_bytes_getitem.lookup (PySem.W.getItem_bytes (by omega) h0 h1 ⟨.int ((z.getD i.toNat 0).toNat : Nat), H2, I2.tok _, ⟨_, rfl⟩, q⟩) (hs _ _)

/-! ### scalar builtins, by CallR -/
theorem vals1 {x : V} {us : List Value} (r : Vals [x] us) : ∃ u, us = [u] ∧ RelV x u := by
  cases r with
  | cons r1 r2 => cases r2; exact ⟨_, rfl, r1⟩
theorem vals2 {x y : V} {us : List Value} (r : Vals [x, y] us) : ∃ u w', us = [u, w'] ∧ RelV x u ∧ RelV y w' := by
  cases r with
  | cons r1 r2 =>
    cases r2 with
    | cons r3 r4 => cases r4; exact ⟨_, _, rfl, r1, r3⟩
theorem call_abs : CallR X (.builtin "abs") (fun xs H Q => ∃ i, xs = [.int i] ∧ Q (.int (if i < 0 then -i else i)) H) := by
  intro pins s σ H xs us Q I r h
  obtain ⟨i, rfl, q⟩ := h
  obtain ⟨u, rfl, t, rfl⟩ := vals1 r
  exact call_abs_int fun u tk => ⟨.int (if i < 0 then -i else i), H, I.tok _, ⟨_, rfl⟩, q⟩
theorem call_max2 (hc : X.calm = true) : CallR X (.builtin "max") (fun xs H Q => ∃ i j, xs = [.int i, .int j] ∧ Q (.int (if j > i then j else i)) H) := by
  intro pins s σ H xs us Q I r h
  obtain ⟨i, j, rfl, q⟩ := h
  obtain ⟨u, w', rfl, ⟨t, rfl⟩, ⟨t', rfl⟩⟩ := vals2 r
  refine max_two_ints (I.ok.hd hc) fun h' tk k => ⟨_, H, I.kept k, ?_, q⟩
  by_cases hj : j > i
  · rw [if_pos hj, if_pos hj]; exact ⟨_, rfl⟩
  · rw [if_neg hj, if_neg hj]; exact ⟨_, rfl⟩
theorem call_min2 (hc : X.calm = true) : CallR X (.builtin "min") (fun xs H Q => ∃ i j, xs = [.int i, .int j] ∧ Q (.int (if j < i then j else i)) H) := by
  intro pins s σ H xs us Q I r h
  obtain ⟨i, j, rfl, q⟩ := h
  obtain ⟨u, w', rfl, ⟨t, rfl⟩, ⟨t', rfl⟩⟩ := vals2 r
  refine min_two_ints (I.ok.hd hc) fun h' tk k => ⟨_, H, I.kept k, ?_, q⟩
  by_cases hj : j < i
  · rw [if_pos hj, if_pos hj]; exact ⟨_, rfl⟩
  · rw [if_neg hj, if_neg hj]; exact ⟨_, rfl⟩
theorem call_int1 : CallR X (.type "int") (fun xs H Q => (∃ i, xs = [.int i] ∧ Q (.int i) H) ∨ ∃ k, xs = [.bl k] ∧ Q (.int (if k then 1 else 0)) H) := by
  intro pins s σ H xs us Q I r h
  rcases h with ⟨i, rfl, q⟩ | ⟨k, rfl, q⟩
  · obtain ⟨u, rfl, t, rfl⟩ := vals1 r
    exact call_int_int ⟨.int i, H, I, ⟨_, rfl⟩, q⟩
  · obtain ⟨u, rfl, r1⟩ := vals1 r
    cases r1
    exact call_int_bool ⟨.int (if k then 1 else 0), H, I.tok _, ⟨_, rfl⟩, q⟩
theorem call_bool1 : CallR X (.type "bool") (fun xs H Q => (∃ i, xs = [.int i] ∧ Q (.bl (i != 0)) H) ∨ ∃ k, xs = [.bl k] ∧ Q (.bl k) H) := by
  intro pins s σ H xs us Q I r h
  rcases h with ⟨i, rfl, q⟩ | ⟨k, rfl, q⟩
  · obtain ⟨u, rfl, t, rfl⟩ := vals1 r
    exact call_bool_int ⟨.bl (i != 0), H, I, rfl, q⟩
  · obtain ⟨u, rfl, r1⟩ := vals1 r
    cases r1
    exact call_bool_bool ⟨.bl k, H, I, rfl, q⟩
theorem call_str_int : CallR X (.type "str") (fun xs H Q => ∃ i, xs = [.int i] ∧ i.natAbs.log2 < 1920 ∧ Q (.str (toString i)) H) := by
  intro pins s σ H xs us Q I r h
  obtain ⟨i, rfl, hz, q⟩ := h
  obtain ⟨u, rfl, t, rfl⟩ := vals1 r
  exact PySem.P.str_of_int hz ⟨.str _, H, I.tok _, ⟨_, rfl⟩, q⟩
theorem call_ord : CallR X (.builtin "ord") (fun xs H Q => ∃ x, xs = [.str x] ∧ x.length = 1 ∧ Q (.int (x.cps.getD 0 0 : Nat)) H) := by
  intro pins s σ H xs us Q I r h
  obtain ⟨x, rfl, hz, q⟩ := h
  obtain ⟨u, rfl, t, rfl⟩ := vals1 r
  exact ord_of_one hz ⟨.int _, H, I.tok _, ⟨_, rfl⟩, q⟩
theorem call_chr : CallR X (.builtin "chr") (fun xs H Q => ∃ i, xs = [.int i] ∧ 0 ≤ i ∧ i ≤ 1114111 ∧ Q (.str ⟨#[i.toNat]⟩) H) := by
  intro pins s σ H xs us Q I r h
  obtain ⟨i, rfl, h0, h1, q⟩ := h
  obtain ⟨u, rfl, t, rfl⟩ := vals1 r
  exact chr_of_range h0 h1 ⟨.str _, H, I.tok _, ⟨_, rfl⟩, q⟩
/-- len of a str, a bytes, a list, a tuple -/
def LenV (K : PySem.W.Frag) (x : V) (H : Hp) (n : Nat) : Prop :=
  match x with
  | .str y => y.length ≤ sizeLine ∧ n = y.length
  | .byt y => y.size ≤ sizeLine ∧ n = y.size
  | .ref p => (∃ xs, SqL K H p xs ∧ n = xs.length) ∨ ∃ xs, SqT K H p xs ∧ n = xs.length
  | _ => False
theorem call_len : CallR X (.builtin "len") (fun xs H Q => ∃ x n, xs = [x] ∧ LenV X.K x H n ∧ Q (.int n) H) := by
  intro pins s σ H xs us Q I r h
  obtain ⟨x, n, rfl, e, q⟩ := h
  obtain ⟨u, rfl, rx⟩ := vals1 r
  have hl := line63
  have hs : sizeLine = 16777216 := sizeLine_eq
  cases x with
  | str y =>
    obtain ⟨t, rfl⟩ := rx
    obtain ⟨hy, e'⟩ : y.length ≤ sizeLine ∧ n = y.length := e
    subst e'
    exact len_str (by omega) ⟨.int _, H, I.tok _, ⟨_, rfl⟩, q⟩
  | byt y =>
    obtain ⟨t, rfl⟩ := rx
    obtain ⟨hy, e'⟩ : y.size ≤ sizeLine ∧ n = y.size := e
    subst e'
    exact PySem.W.len_bytes (by omega) ⟨.int _, H, I.tok _, ⟨_, rfl⟩, q⟩
  | ref p =>
    cases rx
    have e' : (∃ xs, SqL X.K H p xs ∧ n = xs.length) ∨ ∃ xs, SqT X.K H p xs ∧ n = xs.length := e
    rcases e' with ⟨xs, hx, e'⟩ | ⟨xs, hx, e'⟩
    · subst e'
      obtain ⟨its, r', pl, hz⟩ := I.list hx
      have hlen := r'.length
      exact Calls.call_len_list pl.isList (by simp only [List.size_toArray]; omega) ⟨.int xs.length, H, I.tok _, ⟨_, by simp only [List.size_toArray]; rw [hlen]⟩, q⟩
    · subst e'
      obtain ⟨its, r', pl, hz⟩ := I.tuple hx
      have hlen := r'.length
      exact len_tuple pl (by simp only [List.size_toArray]; omega) ⟨.int xs.length, H, I.tok _, ⟨_, by simp only [List.size_toArray]; rw [hlen]⟩, q⟩
  | _ => exact (show False from e).elim
/-- divmod: a new tuple -/
theorem call_divmod : CallR X (.builtin "divmod") (fun xs H Q => ∃ i j, xs = [.int i, .int j] ∧ CDiv i j ∧ ∀ p, H p = none → Q (.ref p) (upd H p (.tup [.int (i / j), .int (i % j)]))) := by
  intro pins s σ H xs us Q I r h
  obtain ⟨i, j, rfl, ⟨h1, h2⟩, q⟩ := h
  obtain ⟨u, w', rfl, ⟨t, rfl⟩, ⟨t', rfl⟩⟩ := vals2 r
  refine divmod_int (by omega) ?_ (.inl (PyProof.noPylong_small (by omega)))
  rw [Int.fdiv_eq_ediv_of_nonneg i (by omega), Int.fmod_eq_emod_of_nonneg i (by omega)]
  have hn : H s.heap.objs.size = none := I.hok.fresh (Nat.le_refl _)
  refine ⟨.ref s.heap.objs.size, _, ?_, rfl, q _ hn⟩
  refine I.laid (fun b o e => Heap.get?_push_of_some _ e) (Nat.le_refl _) ⟨by simp only [List.length_cons, List.length_nil]; rw [sizeLine_eq]; decide, [.int (i / j) s.toks, .int (i % j) (s.toks + 1)], .cons ⟨_, rfl⟩ (.cons ⟨_, rfl⟩ .nil), ?_⟩
  exact ⟨_, Heap.get?_push_size s.heap rfl, rfl, 0, rfl⟩
end
end L2

namespace L2
open PySem PySem.Spec PyProof.Rows

/-! ### an instance, its attributes a map -/
structure ObjM (h : Heap) (x dx C : Addr) (mA : Str → Option Value) : Prop where
  obj : h.get? x = some (PySem.W.instObj C dx)
  ns : h.Ns1 dx mA
  ne : dx ≠ x

theorem lookIn_ns {h : Heap} {dx : Addr} {mA : Str → Option Value} (n : h.Ns1 dx mA) : ∃ od, h.get? dx = some od ∧ ∀ name, PySem.W.lookIn name od = some (mA name) := by
  obtain ⟨o, es, ep, ho, hd, hk, _, hm⟩ := n
  refine ⟨o, ho, fun name => ?_⟩
  have e := hm name
  unfold nsFind findBy at e
  rw [← Array.find?_toList] at e
  unfold PySem.W.lookIn
  rw [hd]
  dsimp only
  split
  · rename_i y q
    rw [q] at e
    exact congrArg some e
  · rename_i q
    rw [q] at e
    have a : es.toList.any (·.refKey) = false := by
      rw [List.any_eq_false]
      intro y hy
      obtain ⟨z, t, hkey⟩ := hk y (Array.mem_toList_iff.mp hy)
      simp [DictEntry.refKey, hkey]
    have a' : ¬ es.toList.any (·.refKey) = true := by rw [a]; exact Bool.false_ne_true
    rw [if_neg a']
    exact congrArg some e

theorem ObjM.look {h : Heap} {x dx C : Addr} {mA : Str → Option Value} (I : ObjM h x dx C mA) : ∃ od, PySem.W.InstAt h x (PySem.W.instObj C dx) C (some od) ∧ ∀ name, PySem.W.lookIn name od = some (mA name) :=
  let ⟨od, ho, hl⟩ := lookIn_ns I.ns
  ⟨od, ⟨I.obj, rfl, rfl, ho⟩, hl⟩

section
variable {prog : Program} {w : World} {A : Around} {E : Value → Shared → Prop} {s : Shared} {K : PySem.W.Frag} {x dx C f : Addr} {mA : Str → Option Value} {name : Str} {v : Value}

theorem get_map {expr : Bool} {Q : Value → Shared → Prop} (X : K.In s.heap) (I : ObjM s.heap x dx C mA) (hg : PySem.W.plainGet K C name = true) (hh : PySem.W.hasDictIn K C = true)
    (ha : PySem.W.findIn K (.ref C) name = some none) (hv : mA name = some v) (hv' : PySem.W.handedIn v = true) (h : Q v { s with toks := s.toks + 1 }) :
    wpAny (model prog w) A (getAttr (.ref x) name expr) Q E s := by
  obtain ⟨od, J, hl⟩ := I.look
  exact PySem.W.get_value X J (PySem.W.plainGet_of hg).1 (PySem.W.findObj_own hh ha rfl (by rw [hl, hv])) hv' h

theorem get_const {expr : Bool} {a : Value} {Q : Value → Shared → Prop} (X : K.In s.heap) (I : ObjM s.heap x dx C mA) (hg : PySem.W.plainGet K C name = true) (hh : PySem.W.hasDictIn K C = true)
    (ha : PySem.W.findIn K (.ref C) name = some (some a)) (hn : PySem.W.specialIn K a "__get__" = some none) (hc : PySem.W.copiedNames.contains name = false) (hv : mA name = none) (hv' : PySem.W.handedIn a = true)
    (h : Q a { s with toks := s.toks + 1 }) : wpAny (model prog w) A (getAttr (.ref x) name expr) Q E s := by
  obtain ⟨od, J, hl⟩ := I.look
  exact PySem.W.get_value X J (PySem.W.plainGet_of hg).1 (PySem.W.findObj_cls hh ha hn hv' hc (by rw [hl, hv])) hv' h

theorem get_meth {pl : Sem Bool} {Q : Value × List Value → Shared → Prop} (X : K.In s.heap) (I : ObjM s.heap x dx C mA) (hg : PySem.W.plainGet K C name = true)
    (hf : PySem.W.findIn K (.ref C) name = some (some (.ref f))) (ht : PySem.W.isFn K (.ref f) = true) (hv : mA name = none) (h : Q (.ref f, [.ref x]) s) :
    wpAny (model prog w) A (getMethod (.ref x) name pl) Q E s := by
  obtain ⟨od, J, hl⟩ := I.look
  exact PySem.W.method_fn X J (PySem.W.plainGet_of hg).1 (PySem.W.plainGet_of hg).2 hf (beq_iff_eq.mp ht) (by show (PySem.W.lookIn name od).map (·.isSome) = some false; rw [hl, hv]; rfl) h

theorem set_map {ns : List Str} {Q : Unit → Shared → Prop} (X : K.In s.heap) (I : ObjM s.heap x dx C mA)
    (hs : PySem.W.findIn K (.ref C) "__setattr__" = some (some (.builtin "object.__setattr__"))) (hp : PySem.W.plainOver K C = true) (ht : PySem.W.takerIn K C name = some none) (hh : PySem.W.hasDictIn K C = true)
    (hw : PySem.Within mA ns) (hsz : ns.length ≤ sizeLine)
    (h : ∀ h', ObjM h' x dx C (fun y => if y = name then some v else mA y) → Heap.SameBut dx s.heap h' → Q () { s with heap := h', toks := s.toks + 2 }) :
    wpAny (model prog w) A (setAttr (.ref x) name v) Q E s := by
  obtain ⟨od, J, hl⟩ := I.look
  refine PySem.W.set_plain X J hs (PySem.W.osa_open (s := { s with toks := s.toks + 1 }) (r := none) X J hp ht fun b => ?_)
  obtain ⟨cd, hc, hd'⟩ := PySem.W.any_some hh
  have hx : s.heap.get? x = some ⟨.ref C, some dx, .plain, #[]⟩ := I.obj
  refine wpAny_bind (wpAny_pure (wpAny_bind (wpAny_bind (wpAny_loadPart hx (wpAny_bind (PySem.W.Looks.here (s := { s with toks := s.toks + 1 }) (PySem.W.looks_clsIn X hc) ?_))))))
  rw [hd']
  refine wpAny_pure (a := some dx) (wpAny_bind (wpAny_pure (wpAny_bind ?_)))
  refine wpAny_nsSet1 (s := { s with toks := s.toks + 1 }) I.ns fun h' hn2 hs2 => ?_
  obtain ⟨oD, esD, epD, hoD, hdD, hcD⟩ := hn2.count (PySem.Within.cons name v hw)
  refine wpAny_bind (wpAny_lookBehind hoD (by rw [hdD]; exact pastItsLine_dict (Nat.le_trans hcD (by rw [List.length_cons]; omega))) ?_)
  exact wpAny_pure (h _ ⟨(hs2.2 _ (Ne.symm I.ne)).trans I.obj, hn2, I.ne⟩ hs2)

/-- C(..): the dict at the heap's end, the instance behind it; then its __init__ -/
theorem make_map {R : Result → Shared → Prop} {vs : List Value} {kw : List (Str × Value)} (X : K.In s.heap) (hm : PySem.W.makesIn K C = true)
    (hi : PySem.W.findIn K (.ref C) "__init__" = some (some (.ref f))) (hf : PySem.W.typeIn K (.ref f) = some (.type "function"))
    (h : codeAny (model prog w) (A.under (.builtin "type.__call__" ⟨.ref C :: vs, kw⟩)) (.call (.ref f) ⟨.ref (s.heap.objs.size + 1) :: vs, kw⟩) (PySem.W.InitBack (s.heap.objs.size + 1) R)
      { s with heap := (s.heap.push PySem.W.emptyDict).push (PySem.W.instObj C s.heap.objs.size) }) :
    codeAny (model prog w) A (.call (.ref C) ⟨vs, kw⟩) R s := by
  obtain ⟨hh, g, d, t, os⟩ := s
  exact PySem.W.make_core (PySem.W.makes_of X hm) (PySem.W.looks_findIn X hi) (fun self => PySem.W.bind_fn X self hf) (.inl rfl) h
/-- C() where there is no __init__ but object's -/
theorem make_map0 {R : Result → Shared → Prop} (X : K.In s.heap) (hm : PySem.W.makesIn K C = true)
    (hi : PySem.W.findIn K (.ref C) "__init__" = some (some (.builtin "object.__init__")))
    (hb : ∀ self, PySem.W.Looks (model prog w) s.heap (bindSpecial (.builtin "object.__init__") self) (.builtin "object.__init__", [self]))
    (h : codeAny (model prog w) (A.under (.builtin "type.__call__" ⟨[.ref C], []⟩)) (.call (.builtin "object.__init__") ⟨[.ref (s.heap.objs.size + 1)], []⟩) (PySem.W.InitBack (s.heap.objs.size + 1) R)
      { s with heap := (s.heap.push PySem.W.emptyDict).push (PySem.W.instObj C s.heap.objs.size) }) :
    codeAny (model prog w) A (.call (.ref C) ⟨[], []⟩) R s := by
  obtain ⟨hh, g, d, t, os⟩ := s
  exact PySem.W.make_core (PySem.W.makes_of X hm) (PySem.W.looks_findIn X hi) hb (.inr ⟨rfl, rfl⟩) h
end

/-! ### the attributes as a list of pairs -/
def putF (f : Str) (v : V) : List (Str × V) → List (Str × V)
  | [] => [(f, v)]
  | (g, x) :: r => if g = f then (g, v) :: r else (g, x) :: putF f v r
theorem lookup_putF (f g : Str) (v : V) : ∀ fs : List (Str × V), (putF f v fs).lookup g = if g = f then some v else fs.lookup g
  | [] => by
    show List.lookup g [(f, v)] = _
    by_cases h : g = f
    · have hb : (g == f) = true := beq_iff_eq.mpr h
      simp only [List.lookup, hb, if_pos h]
    · have hb : (g == f) = false := beq_eq_false_iff_ne.mpr h
      simp only [List.lookup, hb, if_neg h]
  | (k, x) :: r => by
    have ih := lookup_putF f g v r
    rw [show putF f v ((k, x) :: r) = (if k = f then (k, v) :: r else (k, x) :: putF f v r) from rfl]
    by_cases hk : k = f
    · rw [if_pos hk]
      by_cases h : g = k
      · have hb : (g == k) = true := beq_iff_eq.mpr h
        simp only [List.lookup, hb, if_pos (h.trans hk)]
      · have hb : (g == k) = false := beq_eq_false_iff_ne.mpr h
        simp only [List.lookup, hb, if_neg (fun e : g = f => h (e.trans hk.symm))]
    · rw [if_neg hk]
      by_cases h : g = k
      · have hb : (g == k) = true := beq_iff_eq.mpr h
        simp only [List.lookup, hb, if_neg (fun e : g = f => hk (h.symm.trans e))]
      · have hb : (g == k) = false := beq_eq_false_iff_ne.mpr h
        simp only [List.lookup, hb]
        exact ih
theorem keys_putF (f : Str) (v : V) : ∀ fs : List (Str × V), f ∈ (putF f v fs).map (·.1) ∧ ∀ g, g ∈ fs.map (·.1) → g ∈ (putF f v fs).map (·.1)
  | [] => ⟨by simp [putF], fun g h => by simp at h⟩
  | (k, x) :: r => by
    obtain ⟨i1, i2⟩ := keys_putF f v r
    rw [show putF f v ((k, x) :: r) = (if k = f then (k, v) :: r else (k, x) :: putF f v r) from rfl]
    by_cases hk : k = f
    · rw [if_pos hk]
      subst hk
      exact ⟨by simp, fun g h => by simpa using h⟩
    · rw [if_neg hk]
      refine ⟨?_, fun g h => ?_⟩
      · rw [List.map_cons]
        exact List.mem_cons_of_mem _ i1
      · rw [List.map_cons] at h ⊢
        rcases List.mem_cons.mp h with e | e
        · exact List.mem_cons.mpr (.inl e)
        · exact List.mem_cons_of_mem _ (i2 g e)
theorem length_putF (f : Str) (v : V) : ∀ fs : List (Str × V), (putF f v fs).length ≤ fs.length + 1
  | [] => by simp [putF]
  | (k, x) :: r => by
    have ih := length_putF f v r
    rw [show putF f v ((k, x) :: r) = (if k = f then (k, v) :: r else (k, x) :: putF f v r) from rfl]
    by_cases hk : k = f
    · rw [if_pos hk, List.length_cons, List.length_cons]; omega
    · rw [if_neg hk, List.length_cons, List.length_cons]; omega

theorem RelO.some_of {v : V} {o : Option Value} (r : RelO (some v) o) : ∃ u, o = some u ∧ RelV v u := by
  cases o with
  | none => exact (show False from r).elim
  | some u => exact ⟨u, rfl, r⟩
theorem RelO.none_of {o : Option Value} (r : RelO none o) : o = none := by
  cases o with
  | none => rfl
  | some u => exact (show False from r).elim
theorem handed_of {v : V} {u : Value} (r : RelV v u) : PySem.W.handedIn u = true := by
  cases v with
  | non => cases (show u = Value.none from r); rfl
  | bl b => cases (show u = Value.bool b from r); rfl
  | int i => obtain ⟨t, e⟩ := (show ∃ t, u = Value.int i t from r); cases e; rfl
  | str x => obtain ⟨t, e⟩ := (show ∃ t, u = Value.str x t from r); cases e; rfl
  | byt b => obtain ⟨t, e⟩ := (show ∃ t, u = Value.bytes b t from r); cases e; rfl
  | flt b => obtain ⟨t, e⟩ := (show ∃ t, u = Value.float b t from r); cases e; rfl
  | ref a => cases (show u = Value.ref a from r); rfl
  | ty n => cases (show u = Value.type n from r); rfl

section
variable {P : Program} {w : World} {H H' : Hp} {h h' : Heap} {a C dx : Addr} {fs fs' : List (Str × V)}
theorem ins_get (hok : HOk P w H h) (e : H a = some (.ins C dx fs)) : ∃ mA, ObjM h a dx C mA ∧ (∀ f, RelO (fs.lookup f) (mA f)) ∧ PySem.Within mA (fs.map (·.1)) ∧ fs.length ≤ 1000 ∧ H dx = some (.own a) := by
  obtain ⟨d, z, ne, ob, mA, n, r, q⟩ := (show ObjOk P w H h a (.ins C dx fs) from hok a _ e)
  exact ⟨mA, ⟨ob, n, ne⟩, r, q, z, d⟩
end

/-! ### what of the text a class must have -/
structure Cls (K : PySem.W.Frag) (C : Addr) : Prop where
  pg : PySem.W.plainGet K C Str.empty = true
  hd : PySem.W.hasDictIn K C = true
  po : PySem.W.plainOver K C = true
  sa : PySem.W.findIn K (.ref C) "__setattr__" = some (some (.builtin "object.__setattr__"))
theorem Cls.get {K : PySem.W.Frag} {C : Addr} (c : Cls K C) (f : Str) : PySem.W.plainGet K C f = true := c.pg
/-- no class of it has the name -/
def NoAttr (K : PySem.W.Frag) (C : Addr) (f : Str) : Prop := PySem.W.findIn K (.ref C) f = some none
theorem NoAttr.taker {K : PySem.W.Frag} {C : Addr} {f : Str} (n : NoAttr K C f) : PySem.W.takerIn K C f = some none := by
  unfold PySem.W.takerIn
  rw [show PySem.W.findIn K (.ref C) f = some none from n]
  rfl
/-- a constant of the class -/
structure Con (K : PySem.W.Frag) (C : Addr) (f : Str) (v : V) (u : Value) : Prop where
  at_ : PySem.W.findIn K (.ref C) f = some (some u)
  rel : RelV v u
  get : PySem.W.specialIn K u "__get__" = some none
  cp : PySem.W.copiedNames.contains f = false
/-- a method: a plain def of the class or of one above it -/
structure Meth (K : PySem.W.Frag) (C : Addr) (m : Str) (f : Addr) : Prop where
  at_ : PySem.W.findIn K (.ref C) m = some (some (.ref f))
  fn : PySem.W.isFn K (.ref f) = true
  kp : PySem.W.keepIn K (.ref f) = true

section
variable {X : Cx} {pins : List (Addr × Obj)} {σ : St} {H : Hp} {s : Shared} {a C dx : Addr} {fs : List (Str × V)} {f : Str} {v : V} {A : Around} {E : Value → Shared → Prop}

theorem getattr_ok {b : Bool} {Q : Value → Shared → Prop} (I : Inv X pins σ H s) (e : H a = some (.ins C dx fs)) (c : Cls X.K C) (n : NoAttr X.K C f) (l : fs.lookup f = some v)
    (h : ∀ u s', Inv X pins σ H s' → RelV v u → Q u s') : wpAny (model X.prog X.w) A (getAttr (.ref a) f b) Q E s := by
  obtain ⟨mA, O, r, _, _, _⟩ := ins_get I.hok e
  obtain ⟨u, hu, ru⟩ := RelO.some_of (v := v) (o := mA f) (by rw [← l]; exact r f)
  exact get_map I.kIn O (c.get f) c.hd n hu (handed_of ru) (h u _ (I.tok _) ru)

theorem getcon_ok {b : Bool} {u : Value} {Q : Value → Shared → Prop} (I : Inv X pins σ H s) (e : H a = some (.ins C dx fs)) (c : Cls X.K C) (k : Con X.K C f v u) (l : fs.lookup f = none)
    (h : ∀ s', Inv X pins σ H s' → Q u s') : wpAny (model X.prog X.w) A (getAttr (.ref a) f b) Q E s := by
  obtain ⟨mA, O, r, _, _, _⟩ := ins_get I.hok e
  have hn : mA f = none := RelO.none_of (by rw [← l]; exact r f)
  exact get_const I.kIn O (c.get f) c.hd k.at_ k.get k.cp hn (handed_of k.rel) (h _ (I.tok _))

theorem getmeth_ok {m : Str} {g : Addr} {pl : Sem Bool} {Q : Value × List Value → Shared → Prop} (I : Inv X pins σ H s) (e : H a = some (.ins C dx fs)) (c : Cls X.K C) (k : Meth X.K C m g) (l : fs.lookup m = none)
    (h : Q (.ref g, [.ref a]) s) : wpAny (model X.prog X.w) A (getMethod (.ref a) m pl) Q E s := by
  obtain ⟨mA, O, r, _, _, _⟩ := ins_get I.hok e
  have hn : mA m = none := RelO.none_of (by rw [← l]; exact r m)
  exact get_meth I.kIn O (c.get m) k.at_ k.fn hn h

theorem setattr_ok {y : V} {u : Value} {Q : Unit → Shared → Prop} (I : Inv X pins σ H s) (e : H a = some (.ins C dx fs)) (c : Cls X.K C) (n : NoAttr X.K C f) (hl : fs.length < 1000) (ry : RelV y u)
    (h : ∀ s', Inv X pins σ (upd H a (.ins C dx (putF f y fs))) s' → Q () s') : wpAny (model X.prog X.w) A (setAttr (.ref a) f u) Q E s := by
  obtain ⟨mA, O, r, wi, _, ho⟩ := ins_get I.hok e
  have hz : (fs.map (·.1)).length ≤ sizeLine := by rw [List.length_map, sizeLine_eq]; omega
  refine set_map I.kIn O c.sa c.po n.taker c.hd wi hz fun h' O' sb => h _ ?_
  have hd : ∃ o, h'.get? dx = some o := let ⟨o, _, _, e', _⟩ := O'.ns; ⟨o, e'⟩
  refine I.write (x := a) (e := dx) (by rw [e]; exact True.intro) (.inr ho) (fun b q hb z => (sb.2 b hb).trans z) hd ?_
  refine ⟨by rw [upd_ne O.ne]; exact ho, ?_, O.ne, O'.obj, _, O'.ns, fun g => ?_, fun g hg => ?_⟩
  · have := length_putF f y fs; omega
  · show RelO ((putF f y fs).lookup g) (if g = f then some u else mA g)
    rw [lookup_putF]
    by_cases q : g = f
    · rw [if_pos q, if_pos q]; exact ry
    · rw [if_neg q, if_neg q]; exact r g
  · by_cases q : g = f
    · rw [q]; exact (keys_putF f y fs).1
    · refine (keys_putF f y fs).2 g (wi g fun z => hg ?_)
      show (if g = f then some u else mA g) = none
      rw [if_neg q]; exact z

/-- a new instance, tracked, without attributes -/
theorem Inv.made (I : Inv X pins σ H s) : Inv X pins σ (upd (upd H s.heap.objs.size (.own (s.heap.objs.size + 1))) (s.heap.objs.size + 1) (.ins C s.heap.objs.size []))
    { s with heap := (s.heap.push PySem.W.emptyDict).push (PySem.W.instObj C s.heap.objs.size) } := by
  have e1 : (s.heap.push PySem.W.emptyDict).get? s.heap.objs.size = some PySem.W.emptyDict := Heap.get?_push_size s.heap rfl
  have e2 : ((s.heap.push PySem.W.emptyDict).push (PySem.W.instObj C s.heap.objs.size)).get? (s.heap.objs.size + 1) = some (PySem.W.instObj C s.heap.objs.size) := by
    have := Heap.get?_push_size (s.heap.push PySem.W.emptyDict) (o := PySem.W.instObj C s.heap.objs.size) rfl
    rwa [Heap.size_push] at this
  have e3 : (s.heap.push PySem.W.emptyDict).Ns s.heap.objs.size (fun _ => none) := ⟨PySem.W.emptyDict, #[], _, e1, rfl, (fun e he => absurd he (by simp)), fun _ => rfl⟩
  have I1 := I.laid (a := s.heap.objs.size) (o := .own (s.heap.objs.size + 1)) (h' := s.heap.push PySem.W.emptyDict) (t' := s.toks) (fun b u q => Heap.get?_push_of_some _ q) (Nat.le_refl _) ⟨_, e1⟩
  refine I1.laid (a := s.heap.objs.size + 1) (o := .ins C s.heap.objs.size []) (t' := s.toks) (fun b u q => Heap.get?_push_of_some _ q) (Nat.le_of_eq (Heap.size_push _ _)) ?_
  have ne : s.heap.objs.size ≠ s.heap.objs.size + 1 := Nat.ne_of_lt (Nat.lt_succ_self _)
  refine ⟨by rw [upd_ne ne, upd_same], Nat.zero_le _, ne, e2, fun _ => none, (Heap.Ns1.of_empty e3).at fun o q => Heap.get?_push_of_some _ q, fun _ => True.intro, fun y hy => absurd rfl hy⟩

/-- e.f where nothing but the object is asked: through attributeBase (super) and the last hold -/
theorem attr_of {prog : Program} {w : World} {env : Env} {e : Expr} {f : Str} {pos : Pos} {s : Shared} {Q : Value → Shared → Prop} (hb : attributeBase e f env (eval e env) = eval e env)
    (h : wpAny (model prog w) A (eval e env) (fun o s₁ => wpAny (model prog w) A (getAttr o f true) Q E s₁) E s) : wpAny (model prog w) A (eval (.Attribute e f pos) env) Q E s :=
  Attribute_any_ h (by rw [arm_eval_Attribute, hb])
end

/-! ### readings and rules -/
/-- e.f, an attribute of the instance -/
def tFld (K : PySem.W.Frag) (ta : TE) (f : Str) : TE := fun σ H Q => ta σ H fun x H1 => ∃ a C dx fs v, x = .ref a ∧ H1 a = some (.ins C dx fs) ∧ Cls K C ∧ NoAttr K C f ∧ fs.lookup f = some v ∧ Q v H1
/-- e.f, a constant of the class -/
def tCon (K : PySem.W.Frag) (ta : TE) (f : Str) : TE := fun σ H Q => ta σ H fun x H1 => ∃ a C dx fs v u, x = .ref a ∧ H1 a = some (.ins C dx fs) ∧ Cls K C ∧ Con K C f v u ∧ fs.lookup f = none ∧ Q v H1
/-- e.f = value -/
def sFld (K : PySem.W.Frag) (ta tv : TE) (f : Str) : TS := fun D σ H => tv σ H fun y H1 => ta σ H1 fun x H2 => ∃ a C dx fs, x = .ref a ∧ H2 a = some (.ins C dx fs) ∧ Cls K C ∧ NoAttr K C f ∧ fs.length < 1000 ∧
  D.nx σ (upd H2 a (.ins C dx (putF f y fs)))
/-- an augmented operator on two values -/
def InOp (X : Cx) (op : Operator) (rd : V → V → Hp → VK → Prop) : Prop :=
  ∀ (pins : List (Addr × Obj)) (s : Shared) (σ : St) (H : Hp) (x y : V) (u v : Value) (Q : VK), Inv X pins σ H s → RelV x u → RelV y v → rd x y H Q → wpAny (model X.prog X.w) X.A (inplaceOp op u v) (EP X pins σ Q) X.xe s
/-- e.f op= value -/
def sFldAug (K : PySem.W.Frag) (ta tv : TE) (rd : V → V → Hp → VK → Prop) (f : Str) : TS := fun D σ H => ta σ H fun x H1 => ∃ a C dx fs v, x = .ref a ∧ H1 a = some (.ins C dx fs) ∧ Cls K C ∧ NoAttr K C f ∧ fs.lookup f = some v ∧
  tv σ H1 fun y H2 => rd v y H2 fun z H3 => ∃ dx' fs', H3 a = some (.ins C dx' fs') ∧ fs'.length < 1000 ∧ D.nx σ (upd H3 a (.ins C dx' (putF f z fs')))

section
variable {X : Cx} {o e value : Expr} {f : Str} {pos pos' tpos : Pos} {ta tv : TE}
theorem pe_fld (he : PE X e ta) (hb : attributeBase e f X.env (eval e X.env) = eval e X.env) : PE X (.Attribute e f pos) (tFld X.K ta f) := by
  intro pins s σ H Q I h
  refine attr_of hb (thn (he pins s σ H _ I h) fun u s1 ⟨x, H1, I1, rx, a, C, dx, fs, v, ex, ea, c, n, l, q⟩ => ?_)
  subst ex
  obtain rfl : u = Value.ref a := rx
  exact getattr_ok I1 ea c n l fun u' s2 I2 ru => ⟨v, H1, I2, ru, q⟩
theorem pe_con (he : PE X e ta) (hb : attributeBase e f X.env (eval e X.env) = eval e X.env) : PE X (.Attribute e f pos) (tCon X.K ta f) := by
  intro pins s σ H Q I h
  refine attr_of hb (thn (he pins s σ H _ I h) fun u s1 ⟨x, H1, I1, rx, a, C, dx, fs, v, u0, ex, ea, c, k, l, q⟩ => ?_)
  subst ex
  obtain rfl : u = Value.ref a := rx
  exact getcon_ok I1 ea c k l fun s2 I2 => ⟨v, H1, I2, k.rel, q⟩
theorem ps_fld (ha : PE X o ta) (hv : PE X value tv) (hs : swapsWith value (some (.Attribute o f pos')) pos.line X.env = pure false) : PS X (.Assign [.Attribute o f pos'] value pos) (sFld X.K ta tv f) := by
  intro pins s σ H D I h
  refine plainObj_wpAny_Assign_Attribute (thn (hv pins s σ H _ I h) fun u s1 ⟨y, H1, I1, ry, q⟩ => thn (ha pins s1 σ H1 _ I1 q) fun ov s2 ⟨x, H2, I2, rx, a, C, dx, fs, ex, ea, c, n, l, q2⟩ => ?_) hs
  subst ex
  obtain rfl : ov = Value.ref a := rx
  exact setattr_ok I2 ea c n l ry fun s3 I3 => ⟨σ, _, I3, q2⟩
theorem ps_fldaug {op : Operator} {rd : V → V → Hp → VK → Prop} (ha : PE X o ta) (hv : PE X value tv) (hop : InOp X op rd) : PS X (.AugAssign (.Attribute o f tpos) op value pos) (sFldAug X.K ta tv rd f) := by
  intro pins s σ H D I h
  refine wpAny_AugAssign_AttributeAny (thn (ha pins s σ H _ I h) fun ov s1 ⟨x, H1, I1, rx, a, C, dx, fs, v, ex, ea, c, n, l, q⟩ => ?_)
  subst ex
  obtain rfl : ov = Value.ref a := rx
  refine getattr_ok I1 ea c n l fun u s2 I2 ru => thn (hv pins s2 σ H1 _ I2 q) fun w3 s3 ⟨y, H2, I3, ry, q3⟩ => thn (hop pins s3 σ H2 v y u w3 _ I3 ru ry q3) fun w4 s4 ⟨z, H3, I4, rz, dx', fs', ea', l', q4⟩ => ?_
  exact setattr_ok I4 ea' c n l' rz fun s5 I5 => ⟨σ, _, I5, q4⟩
def rAdd : V → V → Hp → VK → Prop := fun x y H Q => ∃ i j, x = .int i ∧ y = .int j ∧ Q (.int (i + j)) H
def rSub : V → V → Hp → VK → Prop := fun x y H Q => ∃ i j, x = .int i ∧ y = .int j ∧ Q (.int (i - j)) H
theorem in_add : InOp X .Add rAdd := by
  rintro pins s σ H x y u v Q I rx ry ⟨i, j, rfl, rfl, q⟩
  obtain ⟨t, rfl⟩ := (show ∃ t, u = Value.int i t from rx)
  obtain ⟨t', rfl⟩ := (show ∃ t', v = Value.int j t' from ry)
  exact PyProof.Rows.iadd_int ⟨.int (i + j), H, I.tok _, ⟨_, rfl⟩, q⟩
theorem in_sub : InOp X .Sub rSub := by
  rintro pins s σ H x y u v Q I rx ry ⟨i, j, rfl, rfl, q⟩
  obtain ⟨t, rfl⟩ := (show ∃ t, u = Value.int i t from rx)
  obtain ⟨t', rfl⟩ := (show ∃ t', v = Value.int j t' from ry)
  exact PyProof.Rows.isub_int ⟨.int (i - j), H, I.tok _, ⟨_, rfl⟩, q⟩

/-- what is between an instance and its method: the tree of a method call -/
theorem methcall_of {pl : Sem Bool} {m : Str} {apos : Pos} {args : List Expr} {pins : List (Addr × Obj)} {s : Shared} {σ : St} {H : Hp} {Q : Value → Shared → Prop} {te : TE} (he : PE X e te) (I : Inv X pins σ H s)
    (h : te σ H fun x H1 => ∃ a C dx fs g, x = .ref a ∧ H1 a = some (.ins C dx fs) ∧ Cls X.K C ∧ Meth X.K C m g ∧ fs.lookup m = none ∧
      ∀ s1, Inv X pins σ H1 s1 → wpAny (model X.prog X.w) X.A (callWith pos (.ref g) [.ref a] (backTo pos (starEach args X.env)) (backToKw pos (keywordEach [] X.env))) Q X.xe s1)
    (ht : eval (.Call (.Attribute e m apos) args [] pos) X.env = (do
      let ov ← eval e X.env
      standAt apos.atName
      let (f, first) ← holding [ov] (getMethod ov m pl)
      callWith pos f first (backTo pos (starEach args X.env)) (backToKw pos (keywordEach [] X.env)))) :
    wpAny (model X.prog X.w) X.A (eval (.Call (.Attribute e m apos) args [] pos) X.env) Q X.xe s := by
  refine PySem.W.methodCall_KW (pl := pl) (thn (he pins s σ H _ I h) fun u s1 ⟨x, H1, I1, rx, a, C, dx, fs, g, ex, ea, c, k, l, q⟩ => ?_) ht
  subst ex
  obtain rfl : u = Value.ref a := rx
  exact getmeth_ok I1 ea c k l (q s1 I1)
end

/-! ### isinstance -/
section
variable {X : Cx} {pins : List (Addr × Obj)} {σ : St} {H : Hp} {s : Shared} {A : Around} {E : Value → Shared → Prop} {Q : Value → Shared → Prop} {c : Value} {b : Bool}
/-- the type of a value, as the fragment's deciders take it; for an instance its class -/
inductive TyOf (K : PySem.W.Frag) (H : Hp) : V → Value → Prop where
  | non : TyOf K H .non (.type "NoneType")
  | bl (x : Bool) : TyOf K H (.bl x) (.type "bool")
  | int (i : Int) : TyOf K H (.int i) (.type "int")
  | str (x : Str) : TyOf K H (.str x) (.type "str")
  | flt (x : UInt64) : TyOf K H (.flt x) (.type "float")
  | lst {a : Addr} {xs : List V} (e : H a = some (.lst xs)) : TyOf K H (.ref a) (.type "list")
  | frz {a : Addr} {o : Obj} {xs : List V} (e : H a = some (.frz o (.lst xs))) : TyOf K H (.ref a) (.type "list")
  | tup {a : Addr} {xs : List V} (e : H a = some (.tup xs)) : TyOf K H (.ref a) (.type "tuple")
  | dK {a : Addr} {kvs : List (Key × V)} (e : H a = some (.dK kvs)) : TyOf K H (.ref a) (.type "dict")
  | dT {a : Addr} {kvs : List (List Key × V)} (e : H a = some (.dT kvs)) : TyOf K H (.ref a) (.type "dict")
  | ins {a C dx : Addr} {fs : List (Str × V)} (e : H a = some (.ins C dx fs)) (cl : Cls K C) (ha : PySem.W.findIn K (.ref C) "__class__" = some (some (.builtin "object.__class__")))
      (hn : PySem.W.specialIn K (.builtin "object.__class__") "__get__" = some (some (.builtin "getset_descriptor.__get__"))) (htk : PySem.W.takesIn K (.builtin "object.__class__") = some true)
      (hm : PySem.W.mroIn K C (.type "object") = some true) : TyOf K H (.ref a) (.ref C)
/-- isinstance(x, c) for one class c, a built-in or an own one: kitOne's answer -/
theorem isinst_ok {x : V} {u t : Value} (I : Inv X pins σ H s) (rx : RelV x u) (ty : TyOf X.K H x t) (e : PySem.W.kitOne X.K t c = some b) (h : ∀ tk, Q (.bool b) { s with toks := tk }) :
    wpAny (model X.prog X.w) A (call (.builtin "isinstance") [u, c]) Q E s := by
  cases ty with
  | non => cases (show u = Value.none from rx); exact PySem.W.kia_one PySem.W.kitx_none I.kIn True.intro e (fun z => nomatch z) h
  | bl y => cases (show u = Value.bool y from rx); exact PySem.W.kia_one PySem.W.kitx_bool I.kIn True.intro e (fun z => nomatch z) h
  | int i => obtain ⟨t, q⟩ := (show ∃ t, u = Value.int i t from rx); cases q; exact PySem.W.kia_one PySem.W.kitx_int I.kIn True.intro e (fun z => nomatch z) h
  | str y => obtain ⟨t, q⟩ := (show ∃ t, u = Value.str y t from rx); cases q; exact PySem.W.kia_one PySem.W.kitx_str I.kIn True.intro e (fun z => nomatch z) h
  | flt y => obtain ⟨t, q⟩ := (show ∃ t, u = Value.float y t from rx); cases q; exact PySem.W.kia_one PySem.W.kitx_float I.kIn True.intro e (fun z => nomatch z) h
  | @lst a xs ea =>
    cases (show u = Value.ref a from rx)
    obtain ⟨_, _, n, _, h1⟩ := (show ObjOk X.prog X.w H s.heap a (.lst xs) from I.hok a _ ea)
    exact PySem.W.kia_one PySem.W.kitx_list I.kIn ⟨_, h1, rfl⟩ e (fun z => nomatch z) h
  | @frz a ob xs ea =>
    cases (show u = Value.ref a from rx)
    obtain ⟨_, _, _, n, _, h1⟩ := (show ObjOk X.prog X.w H s.heap a (.frz ob (.lst xs)) from I.hok a _ ea)
    exact PySem.W.kia_one PySem.W.kitx_list I.kIn ⟨_, h1, rfl⟩ e (fun z => nomatch z) h
  | @tup a xs ea =>
    cases (show u = Value.ref a from rx)
    obtain ⟨_, _, _, p⟩ := (show ObjOk X.prog X.w H s.heap a (.tup xs) from I.hok a _ ea)
    obtain ⟨o, h1, h2, _⟩ := p
    exact PySem.W.kia_one PySem.W.kitx_tuple I.kIn ⟨o, h1, h2⟩ e (fun z => nomatch z) h
  | @dK a kvs ea =>
    cases (show u = Value.ref a from rx)
    obtain ⟨_, _, vs, _, p⟩ := (show ObjOk X.prog X.w H s.heap a (.dK kvs) from I.hok a _ ea)
    obtain ⟨o, es, ep, h1, h2, _⟩ := p
    exact PySem.W.kia_one PySem.W.kitx_dict I.kIn ⟨o, h1, h2.1⟩ e (fun z => nomatch z) h
  | @dT a kvs ea =>
    cases (show u = Value.ref a from rx)
    obtain ⟨_, _, xs, _, o, es, ep, h1, h2, _⟩ := (show ObjOk X.prog X.w H s.heap a (.dT kvs) from I.hok a _ ea)
    exact PySem.W.kia_one PySem.W.kitx_dict I.kIn ⟨o, h1, h2.1⟩ e (fun z => nomatch z) h
  | @ins a C dx fs ea cl ha hn htk hm =>
    cases (show u = Value.ref a from rx)
    obtain ⟨mA, O, _⟩ := ins_get I.hok ea
    obtain ⟨od, J, _⟩ := O.look
    exact PySem.W.kia_one (PySem.W.kitx_own (cl.get _) cl.hd ha hn htk hm) I.kIn J e (fun z => nomatch z) h
end
end L2

namespace L2
open PySem PySem.Spec PyProof.Rows

/-! ### room -/
structure Room (k : Nat) (A : Around) : Prop where
  hd : A.handled = none
  dp : A.depth + 3 * k + 5 < recursionLimit
  un : A.units + 16 * k + 200 < cLine
theorem Room.mono {j k : Nat} {A : Around} (r : Room k A) (h : j ≤ k) : Room j A := ⟨r.hd, by have := r.dp; omega, by have := r.un; omega⟩
theorem Room.deeper {k : Nat} {A : Around} (r : Room (k + 1) A) (env : Env) : Room k (A.deeper env) :=
  ⟨r.hd, by have := r.dp; show A.depth + 1 + 3 * k + 5 < _; omega, by have := r.un; show A.units + 3 + 16 * k + 200 < _; omega⟩
theorem Room.in1 {k : Nat} {A : Around} (r : Room (k + 1) A) : Room k A.in1 :=
  ⟨r.hd, by have := r.dp; show A.depth + 3 * k + 5 < _; omega, by have := r.un; show A.units + 1 + 16 * k + 200 < _; omega⟩
theorem make_depth {A : Around} {C : Addr} {us : List Value} {kw : List (Str × Value)} : (A.under (.builtin "type.__call__" ⟨.ref C :: us, kw⟩)).depth = A.depth + 1 := by
  first | rfl | simp [Around.under, Code.weight, Code.isCreation, Code.isGuard, Code.isCaller, Code.frames, Code.isFrame, guardIds]
theorem make_units {A : Around} {C : Addr} {us : List Value} {kw : List (Str × Value)} : (A.under (.builtin "type.__call__" ⟨.ref C :: us, kw⟩)).units = A.units + 1 := by
  first | rfl | simp [Around.under, Code.cUnits, Code.frames, Code.isFrame]
theorem Room.make {k : Nat} {A : Around} (r : Room (k + 1) A) (C : Addr) (us : List Value) (kw : List (Str × Value)) : Room k (A.under (.builtin "type.__call__" ⟨.ref C :: us, kw⟩)) :=
  ⟨r.hd, by have := r.dp; rw [make_depth]; omega, by have := r.un; rw [make_units]; omega⟩
theorem Room.depth {k : Nat} {A : Around} (r : Room k A) : A.depth < recursionLimit := by have := r.dp; omega
theorem Room.units {k : Nat} {A : Around} (r : Room k A) : A.units + 64 < cLine := by have := r.un; omega
theorem Room.units0 {k : Nat} {A : Around} (r : Room k A) : A.units < cLine := by have := r.un; omega

/-! ### argument lists and displays -/
def tNil : TA := fun _ H Q => Q [] H
def tCons (ta : TE) (tr : TA) : TA := fun σ H Q => ta σ H fun x H1 => tr σ H1 fun xs H2 => Q (x :: xs) H2
section
variable {X : Cx} {e : Expr} {es : List Expr} {te : TE} {t : TA} {pos : Pos}
theorem pa_nil : PA X [] tNil := fun _ _ _ _ H Q I h => Calls.spliced_nil ⟨[], H, I, .nil, h⟩
theorem pa_cons (ha : PE X e te) (hr : PA X es t) (hs : starEach (e :: es) X.env = (false, eval e X.env) :: starEach es X.env := by rfl) : PA X (e :: es) (tCons te t) := by
  intro pos pins s σ H Q I h
  rw [hs]
  show wpAny _ _ (spliced ((false, eval e X.env) :: backTo pos (starEach es X.env))) _ _ s
  refine Calls.spliced_cons (thn (ha pins s σ H _ I h) fun u s1 ⟨x, H1, I1, r1, q1⟩ => ?_)
  exact thn (hr pos pins s1 σ H1 _ I1 q1) fun us s2 ⟨xs, H2, I2, r2, q2⟩ => ⟨x :: xs, H2, I2, .cons r1 r2, q2⟩

/-- a tuple, a list of written items -/
def tTup (t : TA) : TE := fun σ H Q => t σ H fun xs H1 => xs.length ≤ sizeLine ∧ ∀ p, H1 p = none → Q (.ref p) (upd H1 p (.tup xs))
def tLst (t : TA) : TE := fun σ H Q => t σ H fun xs H1 => xs.length ≤ sizeLine ∧ ∀ p, H1 p = none → Q (.ref p) (upd H1 p (.lst xs))
theorem pe_tup {x1} (h : PA X es t) : PE X (.Tuple es x1 pos) (tTup t) := by
  intro pins s σ H Q I hq
  refine wpAny_Tuple_spliced (thn (h pos pins s σ H _ I hq) fun us s1 ⟨xs, H1, I1, r, z, q⟩ => ⟨by rw [← r.length]; exact z, ?_⟩)
  have hf : H1 s1.heap.objs.size = none := I1.hok.fresh (Nat.le_refl _)
  refine ⟨.ref s1.heap.objs.size, upd H1 s1.heap.objs.size (.tup xs), I1.laid (t' := s1.toks) (fun b u e => Heap.get?_push_of_some _ e) (Nat.le_refl _) ?_, rfl, q _ hf⟩
  exact ⟨z, us, r, ⟨_, Heap.get?_push_size _ rfl, rfl, _, rfl⟩⟩
theorem pe_lst (h : PA X es t) : PE X (.List es pos) (tLst t) := by
  intro pins s σ H Q I hq
  refine wpAny_List_spliced (thn (h pos pins s σ H _ I hq) fun us s1 ⟨xs, H1, I1, r, z, q⟩ => ⟨by rw [← r.length]; exact z, ?_⟩)
  have hf : H1 s1.heap.objs.size = none := I1.hok.fresh (Nat.le_refl _)
  refine ⟨.ref s1.heap.objs.size, upd H1 s1.heap.objs.size (.lst xs), I1.laid (t' := s1.toks) (fun b u e => Heap.get?_push_of_some _ e) (Nat.le_refl _) ?_, rfl, q _ hf⟩
  exact ⟨z, us, 0, r, Heap.get?_push_size _ rfl⟩
end

/-! ### what a def promises -/
/-- a def's promise: the bound arguments in the parameters' order, the heap, the wanted end, the wanted exception -/
abbrev Sp := List V → Hp → VK → XK → Prop
/-- how an exception lies behind a call (file 08 gives it): the callers' frames, abstract heap and state ahead of the call, the wish, the exception, the state -/
abbrev CXT := List Env → Hp → Shared → XK → Value → Shared → Prop

/-- the state at a call -/
structure Env0 (P : Program) (w : World) (K : PySem.W.Frag) (mg : Str → Option Value) (base : Heap) (A : Around) (outer : List Env) (s : Shared) (H : Hp) : Prop where
  frames : A.frames = some outer
  mod : Mod K mg base
  bs : ∀ b o, base.get? b = some o → s.heap.get? b = some o ∧ H b = none
  bsz : base.objs.size ≤ s.heap.objs.size
  funs : s.heap.FunFrames base outer
  frf : ∀ b ∈ frs outer, H b = none
  hok : HOk P w H s.heap
  bare : AllBare s.gens
/-- a call's end -/
def CE (outer : List Env) (P : Program) (w : World) (H : Hp) (s : Shared) (Q : VK) (u : Value) (s' : Shared) : Prop :=
  ∃ v H', s'.os = s.os ∧ AllBare s'.gens ∧ Un (frs outer) [] H H' s.heap s'.heap ∧ HOk P w H' s'.heap ∧ RelV v u ∧ Q v H'
def CR (CX : CXT) (outer : List Env) (P : Program) (w : World) (H : Hp) (s : Shared) (Q : VK) (E : XK) (r : Result) (s' : Shared) : Prop :=
  match r with
  | .ok (.ret u) => CE outer P w H s Q u s'
  | .ok _ => False
  | .error e => CX outer H s E e s'
structure FnOk (P : Program) (w : World) (K : PySem.W.Frag) (mg : Str → Option Value) (base : Heap) (CX : CXT) (k : Nat) (f : Addr) (fd : FuncData) (ps : List Str) (sp : Sp) : Prop where
  len : ∀ vs H Q E, sp vs H Q E → vs.length = ps.length
  run : ∀ (A : Around) (outer : List Env) (s : Shared) (H : Hp) (args : Args) (us : List Value) (vs : List V) (Q : VK) (E : XK), Room k A → Env0 P w K mg base A outer s H → BindsTo s fd args (ps.zip us) → Vals vs us → sp vs H Q E →
    codeAny (model P w) A (.call (.ref f) args) (CR CX outer P w H s Q E) s
theorem FnOk.mono {P : Program} {w : World} {K : PySem.W.Frag} {mg : Str → Option Value} {base : Heap} {CX : CXT} {j k : Nat} {f : Addr} {fd : FuncData} {ps : List Str} {sp : Sp} (F : FnOk P w K mg base CX j f fd ps sp) (h : j ≤ k) :
    FnOk P w K mg base CX k f fd ps sp := ⟨F.len, fun A outer s H args us vs Q E hr => F.run A outer s H args us vs Q E (hr.mono h)⟩
/-- a weaker promise -/
theorem FnOk.imp {P : Program} {w : World} {K : PySem.W.Frag} {mg : Str → Option Value} {base : Heap} {CX : CXT} {k : Nat} {f : Addr} {fd : FuncData} {ps : List Str} {sp sp' : Sp} (F : FnOk P w K mg base CX k f fd ps sp)
    (h : ∀ vs H Q E, sp' vs H Q E → sp vs H Q E) : FnOk P w K mg base CX k f fd ps sp' :=
  ⟨fun vs H Q E q => F.len vs H Q E (h _ _ _ _ q), fun A outer s H args us vs Q E hr he hb hv hs => F.run A outer s H args us vs Q E hr he hb hv (h _ _ _ _ hs)⟩

theorem Env0.make {P : Program} {w : World} {K : PySem.W.Frag} {mg : Str → Option Value} {base : Heap} {A : Around} {outer : List Env} {s : Shared} {H : Hp} (e : Env0 P w K mg base A outer s H) (C : Addr) (us : List Value) (kw : List (Str × Value)) :
    Env0 P w K mg base (A.under (.builtin "type.__call__" ⟨.ref C :: us, kw⟩)) outer s H := ⟨by first | exact e.frames | (simpa [Around.under, Code.envs, Code.isFrame, pushEnvs] using e.frames), e.mod, e.bs, e.bsz, e.funs, e.frf, e.hok, e.bare⟩
theorem Env0.in1 {P : Program} {w : World} {K : PySem.W.Frag} {mg : Str → Option Value} {base : Heap} {A : Around} {outer : List Env} {s : Shared} {H : Hp} (e : Env0 P w K mg base A outer s H) :
    Env0 P w K mg base A.in1 outer s H := ⟨e.frames, e.mod, e.bs, e.bsz, e.funs, e.frf, e.hok, e.bare⟩

section
variable {X : Cx} {pins : List (Addr × Obj)} {σ : St} {H : Hp} {s s' : Shared}
/-- from a body: what a callee wants -/
theorem Inv.env0 (I : Inv X pins σ H s) : Env0 X.prog X.w X.K X.mg X.base X.A X.stack s H :=
  ⟨I.ok.frames, I.ok.mod, I.bs, Nat.le_trans I.ok.bsz I.sz, I.stack, I.stkFree, I.hok, I.bare⟩
/-- behind a call -/
theorem Inv.after {Q : VK} {u : Value} (I : Inv X pins σ H s) (h : CE X.stack X.prog X.w H s Q u s') : EP X pins σ Q u s' := by
  obtain ⟨v, H', os, bare, un, hok, r, q⟩ := h
  obtain ⟨hh, g, d, t, os'⟩ := s'
  obtain rfl : os' = s.os := os
  exact ⟨v, H', I.call (h' := hh) (g' := g) (d' := d) (t' := t) (ch := []) un hok bare (fun b z => absurd z (by simp)), r, q⟩
end

/-! ### calls -/
/-- f(..): the written arguments, then the defaults dvs; E: what is wanted of an exception -/
def tCall (sp : Sp) (dvs : List V) (E : XK) (t : TA) : TE := fun σ H Q => t σ H fun vs H1 => sp (vs ++ dvs) H1 Q E
/-- o.m(..) of an instance of the class at C -/
def tMeth (C : Addr) (m : Str) (sp : Sp) (dvs : List V) (E : XK) (ta : TE) (t : TA) : TE := fun σ H Q => ta σ H fun x H1 => ∃ a dx fs, x = .ref a ∧ H1 a = some (.ins C dx fs) ∧ fs.lookup m = none ∧
  t σ H1 fun vs H2 => sp (x :: (vs ++ dvs)) H2 Q E
/-- C(..): a new instance and its dict, then __init__ -/
def tMake (C : Addr) (sp : Sp) (dvs : List V) (E : XK) (t : TA) : TE := fun σ H Q => t σ H fun vs H1 => ∀ x dx, H1 x = none → H1 dx = none → dx ≠ x →
  sp (.ref x :: (vs ++ dvs)) (upd (upd H1 dx (.own x)) x (.ins C dx [])) (fun v H2 => v = .non ∧ Q (.ref x) H2) E

/-- how the parameters are bound: us the positional arguments, kw the keywords' values by name, ds the defaults that fill up -/
def Binds (K : PySem.W.Frag) (fd : FuncData) (ps : List Str) (ds : List Value) : Prop :=
  ∀ (s : Shared) (us : List Value), K.In s.heap → (us ++ ds).length = ps.length → BindsTo s fd ⟨us, []⟩ (ps.zip (us ++ ds))
/-- every parameter is given -/
theorem Binds.all {K : PySem.W.Frag} {fd : FuncData} {ps : List Str} (h : ∀ us : List Value, us.length = ps.length → bindArgs fd ⟨us, []⟩ = pure (ps.zip us)) : Binds K fd ps [] := fun s us _ hl => by
  rw [List.append_nil] at hl ⊢
  exact .of_eq (h us hl)

/-- an exception of a callee reaches what this body wants of exceptions -/
def Passes (CX : CXT) (X : Cx) (E : XK) : Prop := ∀ (pins : List (Addr × Obj)) (σ : St) (H : Hp) (s : Shared) (e : Value) (s' : Shared), Inv X pins σ H s → CX X.stack H s E e s' → X.xe e s'

section
variable {X : Cx} {CX : CXT} {k : Nat} {f C : Addr} {fd : FuncData} {ps : List Str} {sp : Sp} {dvs : List V} {ds : List Value} {E : XK} {x m : Str} {p pos apos : Pos} {e o : Expr} {es : List Expr} {ta : TE} {t : TA}

/-- the callee runs -/
theorem run_fn {pins : List (Addr × Obj)} {σ : St} {H : Hp} {s : Shared} {Q : VK} {us : List Value} {vs : List V} (F : FnOk X.prog X.w X.K X.mg X.base CX k f fd ps sp) (hr : Room k X.A) (hb : Binds X.K fd ps ds) (hd : Vals dvs ds) (hx : Passes CX X E)
    (I : Inv X pins σ H s) (r : Vals vs us) (h : sp (vs ++ dvs) H Q E) : wpAny (model X.prog X.w) X.A (call (.ref f) us) (EP X pins σ Q) X.xe s := by
  have r2 : Vals (vs ++ dvs) (us ++ ds) := r.append hd
  have hl : (us ++ ds).length = ps.length := by rw [← r2.length]; exact F.len _ _ _ _ h
  refine wpAny_call (codeAny_mono (F.run X.A X.stack s H ⟨us, []⟩ (us ++ ds) (vs ++ dvs) Q E hr I.env0 (hb s us I.kIn hl) r2 h) fun r s' hq => ?_)
  cases r with
  | error e => exact hx pins σ H s e s' I hq
  | ok fl =>
    cases fl with
    | ret u => exact I.after hq
    | next => exact False.elim hq
    | brk => exact False.elim hq
    | cont => exact False.elim hq

theorem pe_call (F : FnOk X.prog X.w X.K X.mg X.base CX k f fd ps sp) (hr : Room k X.A) (hg : Gl X x) (hm : X.mg x = some (.ref f)) (hk : PySem.W.keepIn X.K (.ref f) = true) (hb : Binds X.K fd ps ds) (hd : Vals dvs ds) (hx : Passes CX X E)
    (ha : PA X (e :: es) t) (hdb : (x == ("__debug__" : Str)) = false := by decide) (he : starEach (e :: es) X.env = (false, eval e X.env) :: starEach es X.env := by rfl) (hpl : (backTo pos (starEach es X.env)).any (·.1) = false := by rfl) :
    PE X (.Call (.Name x p) (e :: es) [] pos) (tCall sp dvs E t) := by
  intro pins s σ H Q I h
  refine wpAny_Call_Name_kw (ld_glob I hg hm ?_ hdb)
  refine PySem.W.callWith_K (h₀ := X.base) I.ok.mod.kin hk (thn (ha pos pins s σ H _ I h) fun us s1 ⟨vs, H1, I1, r, q⟩ => ⟨I1.kIn, ?_⟩) he hpl
  exact run_fn F hr hb hd hx I1 r q
theorem pe_call0 (F : FnOk X.prog X.w X.K X.mg X.base CX k f fd ps sp) (hr : Room k X.A) (hg : Gl X x) (hm : X.mg x = some (.ref f)) (hk : PySem.W.keepIn X.K (.ref f) = true) (hb : Binds X.K fd ps ds) (hd : Vals dvs ds) (hx : Passes CX X E)
    (hdb : (x == ("__debug__" : Str)) = false := by decide) : PE X (.Call (.Name x p) [] [] pos) (tCall sp dvs E tNil) := by
  intro pins s σ H Q I h
  refine wpAny_Call_Name_kw (ld_glob I hg hm ?_ hdb)
  exact PySem.W.callWith_K0 I.kIn hk (run_fn (us := []) F hr hb hd hx I .nil h)

/-- o.m(e, ..) -/
theorem pe_meth {pl : Sem Bool} (he : PE X o ta) (c : Cls X.K C) (hm : Meth X.K C m f) (F : FnOk X.prog X.w X.K X.mg X.base CX k f fd ps sp) (hr : Room k X.A) (hb : Binds X.K fd ps ds) (hd : Vals dvs ds) (hx : Passes CX X E) (ha : PA X (e :: es) t)
    (hst : starEach (e :: es) X.env = (false, eval e X.env) :: starEach es X.env := by rfl) (hpl : (backTo pos (starEach es X.env)).any (·.1) = false := by rfl)
    (ht : eval (.Call (.Attribute o m apos) (e :: es) [] pos) X.env = (do
      let ov ← eval o X.env
      standAt apos.atName
      let (f, first) ← holding [ov] (getMethod ov m pl)
      callWith pos f first (backTo pos (starEach (e :: es) X.env)) (backToKw pos (keywordEach [] X.env))) := by rfl) :
    PE X (.Call (.Attribute o m apos) (e :: es) [] pos) (tMeth C m sp dvs E ta t) := by
  intro pins s σ H Q I h
  refine PySem.W.methodCall_KW (pl := pl) (thn (he pins s σ H _ I h) fun u s1 ⟨x, H1, I1, rx, a, dx, fs, ex, ea, l, q⟩ => ?_) ht
  subst ex
  obtain rfl : u = Value.ref a := rx
  refine getmeth_ok I1 ea c hm l ?_
  refine PySem.W.callWith_K (first := [.ref a]) (h₀ := X.base) I.ok.mod.kin hm.kp (thn (ha pos pins s1 σ H1 _ I1 q) fun us s2 ⟨vs, H2, I2, r, q2⟩ => ⟨I2.kIn, ?_⟩) hst hpl
  exact run_fn (us := .ref a :: us) (vs := .ref a :: vs) F hr hb hd hx I2 (.cons rfl r) q2
/-- o.m() -/
theorem pe_meth0 {pl : Sem Bool} (he : PE X o ta) (c : Cls X.K C) (hm : Meth X.K C m f) (F : FnOk X.prog X.w X.K X.mg X.base CX k f fd ps sp) (hr : Room k X.A) (hb : Binds X.K fd ps ds) (hd : Vals dvs ds) (hx : Passes CX X E)
    (ht : eval (.Call (.Attribute o m apos) [] [] pos) X.env = (do
      let ov ← eval o X.env
      standAt apos.atName
      let (f, first) ← holding [ov] (getMethod ov m pl)
      callWith pos f first (backTo pos (starEach [] X.env)) (backToKw pos (keywordEach [] X.env))) := by rfl) :
    PE X (.Call (.Attribute o m apos) [] [] pos) (tMeth C m sp dvs E ta tNil) := by
  intro pins s σ H Q I h
  refine PySem.W.methodCall_KW (pl := pl) (thn (he pins s σ H _ I h) fun u s1 ⟨x, H1, I1, rx, a, dx, fs, ex, ea, l, q⟩ => ?_) ht
  subst ex
  obtain rfl : u = Value.ref a := rx
  refine getmeth_ok I1 ea c hm l ?_
  exact PySem.W.callWith_K0 (first := [.ref a]) I1.kIn hm.kp (run_fn (us := [.ref a]) (vs := [.ref a]) F hr hb hd hx I1 (.cons rfl .nil) q)

/-- what a class must have to be made -/
structure Mk (K : PySem.W.Frag) (C f : Addr) : Prop where
  makes : PySem.W.makesIn K C = true
  init : PySem.W.findIn K (.ref C) "__init__" = some (some (.ref f))
  fn : PySem.W.isFn K (.ref f) = true
  kp : PySem.W.keepIn K (.ref C) = true

theorem run_make {pins : List (Addr × Obj)} {σ : St} {H : Hp} {s : Shared} {Q : VK} {us : List Value} {vs : List V} (M : Mk X.K C f) (F : FnOk X.prog X.w X.K X.mg X.base CX k f fd ps sp) (hr : Room (k + 1) X.A) (hb : Binds X.K fd ps ds) (hd : Vals dvs ds)
    (hx : Passes CX X E) (I : Inv X pins σ H s) (r : Vals vs us)
    (h : ∀ x dx, H x = none → H dx = none → dx ≠ x → sp (.ref x :: (vs ++ dvs)) (upd (upd H dx (.own x)) x (.ins C dx [])) (fun v H2 => v = .non ∧ Q (.ref x) H2) E) :
    wpAny (model X.prog X.w) X.A (call (.ref C) us) (EP X pins σ Q) X.xe s := by
  have hq := h (s.heap.objs.size + 1) s.heap.objs.size (I.hok.fresh (Nat.le_succ _)) (I.hok.fresh (Nat.le_refl _)) (Nat.ne_of_lt (Nat.lt_succ_self _))
  have I2 := Inv.made (C := C) I
  have r2 : Vals (V.ref (s.heap.objs.size + 1) :: (vs ++ dvs)) (Value.ref (s.heap.objs.size + 1) :: (us ++ ds)) := .cons rfl (r.append hd)
  have hl : (Value.ref (s.heap.objs.size + 1) :: us ++ ds).length = ps.length := by
    have e := r2.length
    rw [F.len _ _ _ _ hq] at e
    exact e.symm
  refine wpAny_call (make_map (f := f) I.kIn M.makes M.init (beq_iff_eq.mp M.fn) (codeAny_mono (F.run _ X.stack _ _ ⟨Value.ref (s.heap.objs.size + 1) :: us, []⟩ (Value.ref (s.heap.objs.size + 1) :: (us ++ ds)) _ _ E (hr.make C us [])
    (I2.env0.make C us []) (hb _ (Value.ref (s.heap.objs.size + 1) :: us) I2.kIn hl) r2 hq) fun r s' hq' => ?_))
  cases r with
  | error e => exact hx pins σ _ _ e s' I2 hq'
  | ok fl =>
    cases fl with
    | ret u =>
      obtain ⟨v, H', I3, rv, ev, q3⟩ := I2.after hq'
      subst ev
      exact ⟨rv, ⟨V.ref (s.heap.objs.size + 1), H', I3, rfl, q3⟩⟩
    | next => exact False.elim hq'
    | brk => exact False.elim hq'
    | cont => exact False.elim hq'
theorem pe_make (M : Mk X.K C f) (F : FnOk X.prog X.w X.K X.mg X.base CX k f fd ps sp) (hr : Room (k + 1) X.A) (hg : Gl X x) (hm : X.mg x = some (.ref C)) (hb : Binds X.K fd ps ds) (hd : Vals dvs ds) (hx : Passes CX X E)
    (ha : PA X (e :: es) t) (hdb : (x == ("__debug__" : Str)) = false := by decide) (he : starEach (e :: es) X.env = (false, eval e X.env) :: starEach es X.env := by rfl) (hpl : (backTo pos (starEach es X.env)).any (·.1) = false := by rfl) :
    PE X (.Call (.Name x p) (e :: es) [] pos) (tMake C sp dvs E t) := by
  intro pins s σ H Q I h
  refine wpAny_Call_Name_kw (ld_glob I hg hm ?_ hdb)
  refine PySem.W.callWith_K (h₀ := X.base) I.ok.mod.kin M.kp (thn (ha pos pins s σ H _ I h) fun us s1 ⟨vs, H1, I1, r, q⟩ => ⟨I1.kIn, ?_⟩) he hpl
  exact run_make M F hr hb hd hx I1 r q
theorem pe_make0 (M : Mk X.K C f) (F : FnOk X.prog X.w X.K X.mg X.base CX k f fd ps sp) (hr : Room (k + 1) X.A) (hg : Gl X x) (hm : X.mg x = some (.ref C)) (hb : Binds X.K fd ps ds) (hd : Vals dvs ds) (hx : Passes CX X E)
    (hdb : (x == ("__debug__" : Str)) = false := by decide) : PE X (.Call (.Name x p) [] [] pos) (tMake C sp dvs E tNil) := by
  intro pins s σ H Q I h
  refine wpAny_Call_Name_kw (ld_glob I hg hm ?_ hdb)
  exact PySem.W.callWith_K0 I.kIn M.kp (run_make (us := []) M F hr hb hd hx I .nil h)
end

/-! ### keywords -/
/-- the values of the keywords, from the left -/
def PK (X : Cx) (kws : List Keyword) (t : TA) : Prop :=
  ∀ (pos : Pos) (pins : List (Addr × Obj)) (s : Shared) (σ : St) (H : Hp) (Q : List V → Hp → Prop), Inv X pins σ H s → t σ H Q → wpAny (model X.prog X.w) X.A (evalAll ((backToKw pos (keywordEach kws X.env)).map (·.2))) (AP X pins σ Q) X.xe s
section
variable {X : Cx} {CX : CXT} {k : Nat} {f C : Addr} {fd : FuncData} {ps ks : List Str} {sp : Sp} {E : XK} {x m : Str} {p pos apos kpos : Pos} {e o : Expr} {es : List Expr} {kws : List Keyword} {te ta : TE} {t tk : TA} {nm : Option Str}
theorem pk_nil : PK X [] tNil := fun _ _ _ _ H Q I h => wpAny_evalAll_nil ⟨[], H, I, .nil, h⟩
theorem pk_cons (ha : PE X e te) (hr : PK X kws t) : PK X (⟨nm, e, kpos⟩ :: kws) (tCons te t) := by
  intro pos pins s σ H Q I h
  show wpAny _ _ (evalAll ((do let v ← eval e X.env; standAt pos; pure v) :: (backToKw pos (keywordEach kws X.env)).map (·.2))) _ _ s
  refine wpAny_evalAll_cons (wpAny_bind (thn (ha pins s σ H _ I h) fun u s1 ⟨x, H1, I1, r1, q1⟩ => wpAny_bind (wpAny_standAt (wpAny_pure ?_))))
  exact thn (hr pos pins s1 σ H1 _ I1 q1) fun us s2 ⟨xs, H2, I2, r2, q2⟩ => ⟨x :: xs, H2, I2, .cons r1 r2, q2⟩

/-- how a call with keywords binds: g puts the positional values us and the keywords' values ws (names ks) in the parameters' order, defaults among them -/
structure KBinds (K : PySem.W.Frag) (fd : FuncData) (ps ks : List Str) (g : List Value → List Value → List Value) (gV : List V → List V → List V) : Prop where
  to : ∀ (s : Shared) (us ws : List Value), K.In s.heap → (g us ws).length = ps.length → BindsTo s fd ⟨us, ks.zip ws⟩ (ps.zip (g us ws))
  rel : ∀ {vs : List V} {us : List Value} {zs : List V} {ws : List Value}, Vals vs us → Vals zs ws → Vals (gV vs zs) (g us ws)
def tCallK (sp : Sp) (gV : List V → List V → List V) (E : XK) (t tk : TA) : TE := fun σ H Q => t σ H fun vs H1 => tk σ H1 fun zs H2 => sp (gV vs zs) H2 Q E
variable {g : List Value → List Value → List Value} {gV : List V → List V → List V}
theorem run_fnk {pins : List (Addr × Obj)} {σ : St} {H : Hp} {s : Shared} {Q : VK} {us ws : List Value} {vs zs : List V} (F : FnOk X.prog X.w X.K X.mg X.base CX k f fd ps sp) (hr : Room k X.A) (hb : KBinds X.K fd ps ks g gV) (hx : Passes CX X E)
    (I : Inv X pins σ H s) (r : Vals vs us) (rz : Vals zs ws) (h : sp (gV vs zs) H Q E) : wpAny (model X.prog X.w) X.A (call (.ref f) us (ks.zip ws)) (EP X pins σ Q) X.xe s := by
  have r2 := hb.rel r rz
  have hl : (g us ws).length = ps.length := by rw [← r2.length]; exact F.len _ _ _ _ h
  refine wpAny_call (codeAny_mono (F.run X.A X.stack s H ⟨us, ks.zip ws⟩ (g us ws) (gV vs zs) Q E hr I.env0 (hb.to s us ws I.kIn hl) r2 h) fun r s' hq => ?_)
  cases r with
  | error e => exact hx pins σ H s e s' I hq
  | ok fl =>
    cases fl with
    | ret u => exact I.after hq
    | next => exact False.elim hq
    | brk => exact False.elim hq
    | cont => exact False.elim hq
/-- f(e, .., k = v, ..) -/
theorem pe_callK (F : FnOk X.prog X.w X.K X.mg X.base CX k f fd ps sp) (hr : Room k X.A) (hg : Gl X x) (hm : X.mg x = some (.ref f)) (hk : PySem.W.keepIn X.K (.ref f) = true) (hb : KBinds X.K fd ps ks g gV) (hx : Passes CX X E)
    (ha : PA X (e :: es) t) (hkw : PK X kws tk) (hall : (backToKw pos (keywordEach kws X.env)).all (·.1.isSome) = true := by rfl) (hks : (backToKw pos (keywordEach kws X.env)).filterMap (·.1) = ks := by rfl)
    (hdb : (x == ("__debug__" : Str)) = false := by decide) (he : starEach (e :: es) X.env = (false, eval e X.env) :: starEach es X.env := by rfl)
    (hpl : ((backTo pos (starEach (e :: es) X.env)).any (·.1) || (backToKw pos (keywordEach kws X.env)).any (·.1.isNone)) = false := by rfl) :
    PE X (.Call (.Name x p) (e :: es) kws pos) (tCallK sp gV E t tk) := by
  intro pins s σ H Q I h
  refine wpAny_Call_Name_kw (ld_glob I hg hm ?_ hdb)
  refine PySem.W.callWith_KW (h₀ := X.base) I.ok.mod.kin hk hall (thn (ha pos pins s σ H _ I h) fun us s1 ⟨vs, H1, I1, r, q⟩ => ?_) hpl he
  refine thn (hkw pos pins s1 σ H1 _ I1 q) fun ws s2 ⟨zs, H2, I2, rz, q2⟩ => ⟨I2.kIn, ?_⟩
  rw [hks]
  exact run_fnk F hr hb hx I2 r rz q2
end

/-! ### a def's body keeps its promise -/
/-- names: the parameters first -/
structure FnScope (N P : List Str) (sc : Scope) : Prop where
  kind : sc.kind = .function
  co : sc.isCoroutine = false
  gen : sc.isGenerator = false
  nd : N.Nodup
  pre : N.take P.length = P
  par : ∀ x ∈ P, sc.names.lookup x = some .local ∨ sc.names.lookup x = some .cell
  nofree : ∀ y ∈ sc.names, y.2 ≠ .free

theorem bindL_out {kindOf : Str → Option NameKind} {x : Str} : ∀ {binds : List (Str × Value)} {m : Str → Option Value}, (∀ v, (x, v) ∉ binds) → bindL kindOf binds m x = m x
  | [], _, _ => rfl
  | (n, v) :: r, m, h => by
    unfold bindL
    rw [bindL_out fun w hw => h w (List.mem_cons_of_mem _ hw)]
    split
    · have : x ≠ n := by rintro rfl; exact h v List.mem_cons_self
      simp [this]
    · rfl
theorem bindC_out {kindOf : Str → Option NameKind} {x : Str} : ∀ {binds : List (Str × Value)} {m : Str → Option Value}, (∀ v, (x, v) ∉ binds) → bindC kindOf binds m x = m x
  | [], _, _ => rfl
  | (n, v) :: r, m, h => by
    unfold bindC
    rw [bindC_out fun w hw => h w (List.mem_cons_of_mem _ hw)]
    split
    · rfl
    · have : x ≠ n := by rintro rfl; exact h v List.mem_cons_self
      simp [this]
theorem bindL_get {kindOf : Str → Option NameKind} {x : Str} {v : Value} : ∀ {P : List Str} {vs : List Value} {i : Nat} {m : Str → Option Value}, P.Nodup → P[i]? = some x → vs[i]? = some v → kindOf x = some .local →
    bindL kindOf (P.zip vs) m x = some v
  | [], _, _, _, _, h, _, _ => by simp at h
  | _ :: _, [], _, _, _, _, h, _ => by simp at h
  | p :: P, w :: vs, 0, m, nd, h1, h2, hk => by
    simp at h1 h2; subst h1; subst h2
    show bindL kindOf ((p, w) :: P.zip vs) m p = _
    unfold bindL
    rw [bindL_out fun v hv => (List.nodup_cons.mp nd).1 (List.of_mem_zip hv).1, if_pos hk]
    simp
  | p :: P, w :: vs, i + 1, m, nd, h1, h2, hk => by
    show bindL kindOf ((p, w) :: P.zip vs) m x = _
    unfold bindL
    exact bindL_get (i := i) (List.nodup_cons.mp nd).2 (by simpa using h1) (by simpa using h2) hk
theorem bindC_get {kindOf : Str → Option NameKind} {x : Str} {v : Value} : ∀ {P : List Str} {vs : List Value} {i : Nat} {m : Str → Option Value}, P.Nodup → P[i]? = some x → vs[i]? = some v → kindOf x ≠ some .local →
    bindC kindOf (P.zip vs) m x = some v
  | [], _, _, _, _, h, _, _ => by simp at h
  | _ :: _, [], _, _, _, _, h, _ => by simp at h
  | p :: P, w :: vs, 0, m, nd, h1, h2, hk => by
    simp at h1 h2; subst h1; subst h2
    show bindC kindOf ((p, w) :: P.zip vs) m p = _
    unfold bindC
    rw [bindC_out fun v hv => (List.nodup_cons.mp nd).1 (List.of_mem_zip hv).1, if_neg hk]
    simp
  | p :: P, w :: vs, i + 1, m, nd, h1, h2, hk => by
    show bindC kindOf ((p, w) :: P.zip vs) m x = _
    unfold bindC
    exact bindC_get (i := i) (List.nodup_cons.mp nd).2 (by simpa using h1) (by simpa using h2) hk

/-- the names' values at the entry -/
def start (N : List Str) (vs : List V) : St := vs.map some ++ List.replicate (N.length - vs.length) none

/-- the context of a def's body, at its entry; an exception leaves the frame, then lies as CX says -/
def cxOf (CX : CXT) (P : Program) (w : World) (K : PySem.W.Frag) (mg : Str → Option Value) (base : Heap) (N : List Str) (qual : Str) (scope : Scope) (f : Addr) (cd : Value) (A : Around) (outer : List Env) (s : Shared) (H : Hp) (E : XK) : Cx where
  prog := P
  w := w
  K := K
  mg := mg
  base := base
  A := A.deeper (envOfC qual scope s.heap.objs.size f cd)
  N := N
  s₀ := s
  H₀ := H
  env := envOfC qual scope s.heap.objs.size f cd
  outer := outer
  stack := envOfC qual scope s.heap.objs.size f cd :: outer
  ex := []
  calm := true
  fn := fun _ => true
  pn := []
  xe := fun e s' => wpAny (model P w) (A.deeper (envOfC qual scope s.heap.objs.size f cd)) (leaving (envOfC qual scope s.heap.objs.size f cd) e) (fun _ s'' => CX outer H s E e s'') (fun e' s'' => CX outer H s E e' s'') s'

theorem cell_has {sc : Scope} {n : Nat} {x : Str} (h : sc.names.lookup x = some .cell) : ∃ c, (cellsFrom n sc.names []).lookup x = some c := by
  have q := PySem.W.cellsFrom_some sc.names n [] (.inl h)
  exact Option.isSome_iff_exists.mp q

theorem inv_start {CX : CXT} {P : Program} {w : World} {K : PySem.W.Frag} {mg : Str → Option Value} {base : Heap} {N ps : List Str} {qual : Str} {scope : Scope} {f : Addr} {cd : Value} {A : Around} {outer : List Env} {s s1 : Shared} {H : Hp} {E : XK} {us : List Value} {vs : List V}
    (S : FnScope N ps scope) (hd : A.handled = none) (e0 : Env0 P w K mg base A outer s H) (hl : vs.length = ps.length) (r : Vals vs us)
    (x : InCallC s s.heap.objs.size (bindL (envOfC qual scope s.heap.objs.size f cd).kindOf (ps.zip us) fun _ => none) (cellsFrom (s.heap.objs.size + 1) scope.names []) (bindC (envOfC qual scope s.heap.objs.size f cd).kindOf (ps.zip us) fun _ => none) s1) :
    Inv (cxOf CX P w K mg base N qual scope f cd A outer s H E) [] (start N vs) H s1 := by
  have hpl : ps.length ≤ N.length := by have := congrArg List.length S.pre; rw [List.length_take] at this; omega
  obtain ⟨h1, tk, rfl, hk⟩ := x.done
  have noA : ∀ b : Addr, b ∉ (cxOf CX P w K mg base N qual scope f cd A outer s H E).ex := fun b z => absurd (show b ∈ ([] : List Addr) from z) (by simp)
  refine ⟨⟨e0.mod, S.kind, rfl, rfl, Nat.le_refl _, fun y z c h1 h2 => ?_, fun y hy => ?_, fun y c _ h => ?_, fun _ => hd, Around.frames_deeper e0.frames, .inr ⟨rfl, rfl⟩, fun b z => absurd z (noA b), e0.bs, e0.bsz, fun b _ _ => noA b, fun b z => absurd z (noA b), e0.funs, e0.frf⟩,
    rfl, e0.bare, Un.kept hk, ⟨_, x.toInCall.ns, fun i y v h1 h2 h3 => ?_⟩, fun y c h => ⟨_, x.cell y c h⟩, e0.hok.fresh (Nat.le_refl _), fun y c h => ?_, fun p hp => absurd (show p ∈ ([] : List (Addr × Obj)) from hp) (by simp), e0.hok.kept hk, ?_⟩
  · exact name_of_addr x.apart (PySem.mem_of_lookup h1) (PySem.mem_of_lookup h2)
  · have hy : scope.names.lookup y = some .cell ∨ scope.names.lookup y = some .free := hy
    rcases hy with hy | hy
    · exact cell_has hy
    · exact absurd rfl (S.nofree _ (PySem.mem_of_lookup hy))
  · exact Nat.le_of_lt (x.above y c (PySem.mem_of_lookup h))
  · have hi : i < vs.length := by
      unfold start at h2
      by_cases hi : i < vs.length
      · exact hi
      · rw [List.getElem?_append_right (by simpa using hi)] at h2
        rw [List.getElem?_replicate] at h2
        split at h2 <;> cases h2
    have ha : vs[i]? = some v := by
      unfold start at h2
      rw [List.getElem?_append_left (by simpa using hi), List.getElem?_map] at h2
      cases e : vs[i]? with
      | none => rw [e] at h2; cases h2
      | some a => rw [e] at h2; cases h2; rfl
    obtain ⟨u, hu, rv⟩ := r.get ha
    have hp : ps[i]? = some y := by
      rw [← S.pre, List.getElem?_take_of_lt (by omega)]; exact h1
    have ndP : ps.Nodup := by rw [← S.pre]; exact S.nd.sublist (List.take_sublist _ _)
    refine ⟨u, rv, ?_⟩
    rcases S.par y (List.mem_of_getElem? hp) with k | k
    · exact .inl ⟨k, bindL_get ndP hp hu k⟩
    · obtain ⟨c, e⟩ := cell_has (n := s.heap.objs.size + 1) k
      refine .inr ⟨.inl k, c, e, ?_⟩
      have q := x.cell y c e
      rw [bindC_get ndP hp hu (by show scope.names.lookup y ≠ _; rw [k]; decide)] at q
      exact q
  · exact e0.hok.fresh (Nat.le_of_lt (x.above y c (PySem.mem_of_lookup h)))
  · unfold start
    show _ = N.length
    rw [List.length_append, List.length_map, List.length_replicate]
    omega

/-- THE RULE: a def (or a method) of the text, by its body. The body's reading t is chosen for each entry; it is run at the parameters' values -/
theorem fn_of {CX : CXT} {P : Program} {w : World} {K : PySem.W.Frag} {mg : Str → Option Value} {base : Heap} {k : Nat} {f : Addr} {name qual : Str} {params : Arguments} {body : List Stmt} {scope : Scope} {dV kV doc pm cdv ct oc : Value} {an od : Option Addr}
    {osl : Array (Option Value)} {N ps : List Str} {sp : Sp} (lk : K.lookup f = some ⟨oc, od, .func (PySem.W.fnOf name qual params body scope dV kV doc pm an cdv ct), osl⟩) (hcd : PySem.W.codeIn K cdv qual = true) (S : FnScope N ps scope)
    (len : ∀ vs H Q E, sp vs H Q E → vs.length = ps.length)
    (hbody : ∀ (A : Around) (outer : List Env) (s : Shared) (H : Hp) (vs : List V) (Q : VK) (E : XK), Room k (A.deeper (envOfC qual scope s.heap.objs.size f cdv)) → sp vs H Q E →
      ∃ t, PSs (cxOf CX P w K mg base N qual scope f cdv A outer s H E) body t ∧ t { nx := fun _ H' => Q .non H', rt := Q } (start N vs) H) :
    FnOk P w K mg base CX (k + 1) f (PySem.W.fnOf name qual params body scope dV kV doc pm an cdv ct) ps sp := by
  refine ⟨len, fun A outer s H args us vs Q E hr e0 hb r hsp => ?_⟩
  have hl := len _ _ _ _ hsp
  have KX : K.In s.heap := e0.mod.kin.keeps fun b o e => (e0.bs b o e).1
  have lim : s.heap.NoLimit := e0.mod.nolimit.keeps fun b o e => (e0.bs b o e).1
  have hkind : ∀ y ∈ ps.zip us, scope.names.lookup y.1 = some .local ∨ (scope.names.lookup y.1 = some .cell ∧ ((cellsFrom (s.heap.objs.size + 1) scope.names []).lookup y.1).isSome = true) := fun ⟨n, v⟩ hy => by
    rcases S.par n (List.of_mem_zip hy).1 with q | q
    · exact .inl q
    · exact .inr ⟨q, PySem.W.cellsFrom_some _ _ _ (.inl q)⟩
  refine codeAny_call_function hr.depth (KX _ _ lk) rfl S.co S.gen rfl (PySem.W.codeRec_of KX hcd) (hb _ _ _ _ ?_)
  refine wpAny_newFunctionEnv_cells S.kind hkind fun env he s1 x => ?_
  subst he
  refine ⟨lim.keeps x.toInCall.keep, codeAny_func ?_⟩
  obtain ⟨t, ht, hq⟩ := hbody A outer s H vs Q E (hr.deeper _) hsp
  have I : Inv (cxOf CX P w K mg base N qual scope f cdv A outer s H E) [] (start N vs) H s1 := inv_start S hr.hd e0 hl r x
  refine wpAny_mono (ht [] s1 (start N vs) H _ I hq) (fun fl s' hs => ?_) fun e s' hs => hs
  have fin : ∀ {σ' : St} {H' : Hp} {v : V} {u : Value}, Inv (cxOf CX P w K mg base N qual scope f cdv A outer s H E) [] σ' H' s' → RelV v u → Q v H' → CE outer P w H s Q u s' :=
    fun {σ' H' v u} J rv q => ⟨v, H', J.os, J.bare, J.base, J.hok, rv, q⟩
  cases fl with
  | ret u =>
    obtain ⟨v, σ', H', J, rv, q⟩ := hs
    exact fin J rv q
  | next =>
    obtain ⟨σ', H', J, q⟩ := hs
    exact fin (v := V.non) (u := Value.none) J rfl q
  | brk =>
    obtain ⟨_, _, _, q⟩ := hs
    exact False.elim q
  | cont =>
    obtain ⟨_, _, _, q⟩ := hs
    exact False.elim q
end L2

namespace L2
open PySem PySem.Spec PyProof.Rows
section
variable {X : Cx} {x : Str} {p pos : Pos} {e : Expr} {es : List Expr} {t : TA} {id T : String} {r : List V → Hp → VK → Prop}

def tCB (r : List V → Hp → VK → Prop) (t : TA) : TE := fun σ H Q => t σ H fun vs H1 => r vs H1 Q
/-- f(e, ..), f a built-in function -/
theorem pe_callB (hc : CallR X (.builtin id) r) (hg : Gl X x) (hm : X.mg x = none) (hv : bootBuiltins x = some (.builtin id)) (ha : PA X (e :: es) t) (hn : x ≠ "__name__" := by decide) (hdb : (x == ("__debug__" : Str)) = false := by decide)
    (he : starEach (e :: es) X.env = (false, eval e X.env) :: starEach es X.env := by rfl) (hpl : (backTo pos (starEach es X.env)).any (·.1) = false := by rfl) : PE X (.Call (.Name x p) (e :: es) [] pos) (tCB r t) := by
  intro pins s σ H Q I h
  refine wpAny_Call_Name_kw (ld_blt I hg hm hv ?_ hn hdb)
  exact PyProof.Rows.callWith_builtin1 (thn (ha pos pins s σ H _ I h) fun us s1 ⟨vs, H1, I1, r1, q1⟩ => hc pins s1 σ H1 vs us Q I1 r1 q1) he hpl
/-- T(e, ..), T a built-in type -/
theorem pe_callTy (hc : CallR X (.type T) r) (hg : Gl X x) (hm : X.mg x = none) (hv : bootBuiltins x = some (.type T)) (ha : PA X (e :: es) t) (hn : x ≠ "__name__" := by decide) (hdb : (x == ("__debug__" : Str)) = false := by decide)
    (he : starEach (e :: es) X.env = (false, eval e X.env) :: starEach es X.env := by rfl) (hpl : (backTo pos (starEach es X.env)).any (·.1) = false := by rfl) : PE X (.Call (.Name x p) (e :: es) [] pos) (tCB r t) := by
  intro pins s σ H Q I h
  refine wpAny_Call_Name_kw (ld_blt I hg hm hv ?_ hn hdb)
  exact PyProof.Rows.callWith_type1 (thn (ha pos pins s σ H _ I h) fun us s1 ⟨vs, H1, I1, r1, q1⟩ => hc pins s1 σ H1 vs us Q I1 r1 q1) he hpl
/-- T() -/
theorem pe_callTy0 (hc : CallR X (.type T) r) (hg : Gl X x) (hm : X.mg x = none) (hv : bootBuiltins x = some (.type T)) (hn : x ≠ "__name__" := by decide) (hdb : (x == ("__debug__" : Str)) = false := by decide) :
    PE X (.Call (.Name x p) [] [] pos) (tCB r tNil) := by
  intro pins s σ H Q I h
  refine wpAny_Call_Name_kw (ld_blt I hg hm hv ?_ hn hdb)
  exact PyProof.Rows.callWith_type0 (hc pins s σ H [] [] Q I .nil h)
end
end L2

namespace HT
open PySem PyProof.Rows

/-- t < u of tuples of ints -/
def lexLt : List Int → List Int → Bool
  | [], [] => false
  | [], _ :: _ => true
  | _ :: _, [] => false
  | x :: xs, y :: ys => if x = y then lexLt xs ys else decide (x < y)
theorem lexLt_cons (x y : Int) (xs ys : List Int) : lexLt (x :: xs) (y :: ys) = if x = y then lexLt xs ys else decide (x < y) := rfl
theorem lexLt_nil_nil : lexLt [] [] = false := rfl
theorem lexLt_nil_cons (y : Int) (ys : List Int) : lexLt [] (y :: ys) = true := rfl
theorem lexLt_cons_nil (x : Int) (xs : List Int) : lexLt (x :: xs) [] = false := rfl

theorem eqAt_int (A : Around) (s : Shared) (a : Int) (t : Tok) (c : Int) (u : Tok) : ∃ e, SeqAt.EqAt A s (.int a t) (.int c u) e ∧ (e = true ↔ a = c) :=
  ⟨(a == c), SeqAt.EqAt.int_int a t c u, by simp⟩
theorem rcLt_int (A : Around) (s : Shared) (a : Int) (t : Tok) (c : Int) (u : Tok) (prog : Program) (w : World) (E : Value → Shared → Prop) (Q : Value → Shared → Prop) (h : Q (.bool (decide (a < c))) s) :
    wpAny (model prog w) A (richCompare .Lt (.int a t) (.int c u)) Q E s :=
  (PyProof.Rows.lt_int h : wpAny (model prog w) A (compareOp .Lt (.int a t) (.int c u)) Q E s)

section
open PySem.SeqAt
open PySem.AutoSeq1 (wpAny_loadPart')
open PySem.MeetsSeq PySem.MeetsSeq2 PySem.MeetsSeq3

theorem tuple_lt_ints (l b : Addr) (items items2 : Array Value) (n n2 : Nat) (dd dd2 : Option Addr) (sl sl2 : Array (Option Value)) (ns ms : List Int) (hi : IntsAre items.toList ns) (hj : IntsAre items2.toList ms) :
    Meets (Builtin.«tuple.__lt__» ⟨[.ref l, .ref b], []⟩)
      (fun _ R s => s.heap.get? l = some { cls := .type "tuple", dict := dd, data := .seq items n, slots := sl } ∧ s.heap.get? b = some { cls := .type "tuple", dict := dd2, data := .seq items2 n2, slots := sl2 } ∧
        R (.ok (.ret (.bool (lexLt ns ms)))) s) :=
  .of_wp fun prog w A R s h => by
    obtain ⟨hp, g, d, tk, os⟩ := s; obtain ⟨hl, hb, h⟩ := h
    have f2 := AutoSeq1.sub_tuple_tuple
    have z1 : items.size = ns.length := by rw [← hi.length]; simp
    have z2 : items2.size = ms.length := by rw [← hj.length]; simp
    wp_walk using wpAny_loadPart' hl, wpAny_loadPart' hb, wpAny_forIn_list _ (fun rest b s' => b.1 = none ∧ s' = ⟨hp, g, d, tk, os⟩ ∧ ∃ (vs ws : List Value) (ns' ms' : List Int), rest = vs.zip ws ∧
      IntsAre vs ns' ∧ IntsAre ws ms' ∧ ns'.length + items2.size = ms'.length + items.size ∧ R (.ok (.ret (.bool (lexLt ns' ms')))) ⟨hp, g, d, tk, os⟩) _
    case turn =>
      rintro ⟨y, x⟩ rest b s' ⟨hb', rfl, vs, ws, ns', ms', hz, hvi, hwi, hlen, hR⟩
      cases hvi with
      | nil => rw [List.zip_nil_left] at hz; cases hz
      | cons a t hvi' =>
        cases hwi with
        | nil => rw [List.zip_nil_right] at hz; cases hz
        | cons c u hwi' =>
          rw [List.zip_cons_cons] at hz
          injection hz with hyx hrest
          injection hyx with hy hx
          subst hy hx
          rw [lexLt_cons] at hR
          simp only [List.length_cons] at hlen
          obtain ⟨e, he, hiff⟩ := eqAt_int A.in1 ⟨hp, g, d, tk, os⟩ a t c u
          refine wpAny_bind (he prog w _ _ ?_)
          cases e with
          | true =>
            rw [if_pos (hiff.mp rfl)] at hR
            wp_walk
            exact ⟨rfl, rfl, _, _, _, _, hrest, hvi', hwi', by omega, hR⟩
          | false =>
            rw [if_neg (fun q => absurd (hiff.mpr q) Bool.false_ne_true)] at hR
            have hri := rcLt_int A.in1 ⟨hp, g, d, tk, os⟩ a t c u prog w
            wp_walk using hri
            exact ⟨_, rfl, by simpa using hR⟩
    case fin =>
      rintro ⟨b1, b2⟩ s' ⟨hb', rfl, vs, ws, ns', ms', hz, hvi, hwi, hlen, hR⟩
      simp only at hb'
      subst hb'
      have hv : lexLt ns' ms' = decide (items.size < items2.size) := by
        cases hvi with
        | nil =>
          cases hwi with
          | nil =>
            simp only [List.length_nil] at hlen
            rw [lexLt_nil_nil]
            exact (decide_eq_false (by omega)).symm
          | cons c u hw =>
            simp only [List.length_nil, List.length_cons] at hlen
            rw [lexLt_nil_cons]
            exact (decide_eq_true (by omega)).symm
        | cons a t hv =>
          cases hwi with
          | nil =>
            simp only [List.length_nil, List.length_cons] at hlen
            rw [lexLt_cons_nil]
            exact (decide_eq_false (by omega)).symm
          | cons c u hw =>
            rw [List.zip_cons_cons] at hz
            cases hz
      rw [hv] at hR
      wp_walk
      exact ⟨_, rfl, by simpa [Builtin.Tuple.tupleCompareSizes] using hR⟩
    case h =>
      exact ⟨rfl, rfl, items.toList, items2.toList, ns, ms, rfl, hi, hj, by omega, h⟩
end

section
variable {prog : Program} {w : World} {A : Around} {E : Value → Shared → Prop} {s : Shared}

theorem lt_tupInts {l b : Addr} {items items2 : Array Value} {ns ms : List Int} {Q : Value → Shared → Prop} (hl : IsTup s.heap l items) (hb : IsTup s.heap b items2) (hi : IntsAre items.toList ns) (hj : IntsAre items2.toList ms)
    (hu : A.units < cLine) (h : Q (.bool (lexLt ns ms)) s) : wpAny (model prog w) A (compareOp .Lt (.ref l) (.ref b)) Q E s := by
  obtain ⟨⟨cls, dd, data, sl⟩, ho, hc, n, hd⟩ := id hl
  obtain ⟨⟨cls2, dd2, data2, sl2⟩, ho2, hc2, n2, hd2⟩ := id hb
  simp only at hc hd hc2 hd2
  subst hc hd hc2 hd2
  exact richCompare_meets_room (op := .Lt) ⟨_, ho, rfl⟩ ⟨_, ho2, rfl⟩ PySem.F.slot_tuple_lt PySem.F.entry_tuple_lt (PySem.F.args_tuple_lt_2 _ _) (tuple_lt_ints l b items items2 n n2 dd dd2 sl sl2 ns ms hi hj)
    ⟨ho, ho2, show Value.bool (lexLt ns ms) ≠ Value.notImplemented ∧ Q (.bool (lexLt ns ms)) s from ⟨(fun x => nomatch x), h⟩⟩ hu

/-- t + u, t not empty -/
theorem cat_tup {t b : Addr} {vs ws : List Value} {Q : Value → Shared → Prop} (ht : IsTup s.heap t vs.toArray) (hb : IsTup s.heap b ws.toArray) (hv : vs ≠ [])
    (h1 : ws = [] → Q (.ref t) s) (h2 : ws ≠ [] → Q (.ref s.heap.objs.size) { s with heap := s.heap.push { cls := .type "tuple", data := .seq (vs ++ ws).toArray } })
    (hsz : vs.length + ws.length ≤ sizeLine) : wpAny (model prog w) A (binaryOp .Add (.ref t) (.ref b)) Q E s := by
  obtain ⟨⟨cls, dd, data, sl⟩, ho, hc, n, hd⟩ := id ht
  obtain ⟨⟨cls2, dd2, data2, sl2⟩, ho2, hc2, n2, hd2⟩ := id hb
  simp only at hc hd hc2 hd2
  subst hc hd hc2 hd2
  have e : vs.toArray ++ ws.toArray = (vs ++ ws).toArray := by simp
  by_cases hw : ws = []
  · exact concat_meets ⟨_, ho, rfl⟩ ⟨_, ho2, rfl⟩ noFill_tuple_add seq_tuple_add PySem.F.slot_tuple_add PySem.F.entry_tuple_add (PySem.F.args_tuple_add_2 _ _)
      (tuple_addW1 t b vs.toArray ws.toArray n n2 dd dd2 sl sl2 (by simpa using hv) (by simp [hw])) ⟨ho, ho2, h1 hw⟩
  · refine concat_meets ⟨_, ho, rfl⟩ ⟨_, ho2, rfl⟩ noFill_tuple_add seq_tuple_add PySem.F.slot_tuple_add PySem.F.entry_tuple_add (PySem.F.args_tuple_add_2 _ _)
      (tuple_addW2 t b vs.toArray ws.toArray n n2 dd dd2 sl sl2 (by simpa using hv) (by simpa using hw) (by rw [List.size_toArray, List.size_toArray]; exact hsz)) ⟨ho, ho2, ?_⟩
    rw [e]
    exact h2 hw

/-! ### t[a:b], not the whole -/
/-- a slice's bound as a place among n (d where it is left out) -/
def sIx (n d : Nat) : Option Int → Nat
  | none => d
  | some v => if v < 0 then (v + (n : Int)).toNat else min v.toNat n
theorem sIx_none (n d : Nat) : sIx n d none = d := rfl
theorem sIx_nat (n d k : Nat) : sIx n d (some (k : Int)) = min k n := by
  show (if (k : Int) < 0 then ((k : Int) + (n : Int)).toNat else min (k : Int).toNat n) = min k n
  rw [if_neg (by omega), Int.toNat_natCast]
theorem sIx_le (n d : Nat) (hd : d ≤ n) (o : Option Int) : sIx n d o ≤ n := by
  cases o with
  | none => exact hd
  | some v =>
    show (if v < 0 then (v + (n : Int)).toNat else min v.toNat n) ≤ n
    by_cases hv : v < 0
    · rw [if_pos hv]; omega
    · rw [if_neg hv]; exact Nat.min_le_right _ _
theorem clip_eq (v : Int) (n d : Nat) : (if v < 0 then max (v + (n : Int)) 0 else min v (n : Int)) = ((sIx n d (some v) : Nat) : Int) := by
  show (if v < 0 then max (v + (n : Int)) 0 else min v (n : Int)) = (((if v < 0 then (v + (n : Int)).toNat else min v.toNat n) : Nat) : Int)
  by_cases hv : v < 0
  · simp only [if_pos hv]; omega
  · simp only [if_neg hv]; omega
theorem adjust_gen (lo hi : Option Int) (n : Nat) : Builtin.Slice.sliceAdjust lo hi 1 (n : Int) = (((sIx n 0 lo : Nat) : Int), ((sIx n n hi : Nat) : Int)) := by
  have h1 : ¬ ((1 : Int) < 0) := by omega
  unfold Builtin.Slice.sliceAdjust
  simp only [h1, if_false]
  refine Prod.ext ?_ ?_
  · cases lo with
    | none => rfl
    | some v => exact clip_eq v n 0
  · cases hi with
    | none => rfl
    | some v => exact clip_eq v n n
theorem places_gen (i j : Nat) : Builtin.Slice.slicePlaces (i : Int) (j : Int) 1 = j - i := by
  unfold Builtin.Slice.slicePlaces
  have h1 : (1 : Int) > 0 := by omega
  simp only [h1, if_true, Int.ediv_one]
  split <;> omega
theorem slicePart_ {v : Value} {o : Option Int} {Q : Option Int → Shared → Prop} (p : IsPart v o) (h : Q o s) : wpAny (model prog w) A (Builtin.Slice.slicePartIndex v) Q E s := by
  cases p with
  | none => exact slicePart_none h
  | int i t => exact slicePart_int h
theorem sliceApplied_gen {sl : Addr} {vl vu : Value} {lo hi : Option Int} {n : Nat} {Q : Int × Int × Nat → Shared → Prop} (hs : s.heap.IsSliceOf sl vl vu .none) (pl : IsPart vl lo) (pu : IsPart vu hi)
    (h : Q (((sIx n 0 lo : Nat) : Int), 1, sIx n n hi - sIx n 0 lo) s) : wpAny (model prog w) A (Builtin.Slice.sliceApplied (.ref sl) (pure (n : Int))) Q E s := by
  obtain ⟨os, hos, hcs, hds⟩ := id hs
  unfold Builtin.Slice.sliceApplied Builtin.Slice.sliceFields
  refine wpAny_bind (wpAny_bind (wpAny_field hos hds (x := vl) rfl (wpAny_bind (wpAny_field hos hds (x := vu) rfl (wpAny_bind (wpAny_field hos hds (x := .none) rfl (wpAny_pure ?_)))))))
  refine wpAny_bind (slicePart_none ?_)
  show wpAny _ _ (if ((1 : Int) == 0) = true then _ else _) _ _ s
  rw [if_neg (by decide)]
  refine wpAny_bind (slicePart_ pl (wpAny_bind (slicePart_ pu (wpAny_bind (wpAny_pure ?_)))))
  show wpAny _ _ (match Builtin.Slice.sliceAdjust lo hi 1 (n : Int) with | (lo, hi) => pure (lo, (1 : Int), Builtin.Slice.slicePlaces lo hi 1)) _ _ s
  rw [adjust_gen lo hi n]
  show wpAny _ _ (pure (((sIx n 0 lo : Nat) : Int), (1 : Int), Builtin.Slice.slicePlaces ((sIx n 0 lo : Nat) : Int) ((sIx n n hi : Nat) : Int) 1)) _ _ s
  rw [places_gen]
  exact wpAny_pure h
theorem pick_gen (xs : Array Value) (i k : Nat) : ((List.range k).filterMap fun (m : Nat) => xs[((i : Int) + (m : Int) * 1).toNat]?).toArray = ((xs.toList.drop i).take k).toArray := by
  have e : (fun (m : Nat) => xs[((i : Int) + (m : Int) * 1).toNat]?) = fun m => xs[i + m]? := by
    funext m
    have : ((i : Int) + (m : Int) * 1).toNat = i + m := by omega
    rw [this]
  rw [e]
  have := pick_run xs i k
  rw [List.filterMap_map] at this
  have e2 : ((fun x => xs[x]?) ∘ fun x => i + x) = fun m => xs[i + m]? := rfl
  rw [e2] at this
  rw [this]

theorem getItem_tuple_cut {t sl : Addr} {items : Array Value} {vl vu : Value} {lo hi : Option Int} {Q : Value → Shared → Prop} (ht : IsTup s.heap t items) (hs : s.heap.IsSliceOf sl vl vu .none) (pl : IsPart vl lo) (pu : IsPart vu hi)
    (hw : ¬ (sIx items.size 0 lo = 0 ∧ sIx items.size items.size hi = items.size))
    (h : Q (.ref s.heap.objs.size) { s with heap := s.heap.push { cls := .type "tuple", data := .seq ((items.toList.drop (sIx items.size 0 lo)).take (sIx items.size items.size hi - sIx items.size 0 lo)).toArray } })
    (hsz : items.size ≤ sizeLine) : wpAny (model prog w) A (getItem (.ref t) (.ref sl)) Q E s := by
  have htake : sizeOk (.seq ((items.toList.drop (sIx items.size 0 lo)).take (sIx items.size items.size hi - sIx items.size 0 lo)).toArray) := by
    show ((items.toList.drop (sIx items.size 0 lo)).take (sIx items.size items.size hi - sIx items.size 0 lo)).toArray.size ≤ sizeLine
    rw [List.size_toArray, List.length_take, List.length_drop, Array.length_toList]
    omega
  have hj : sIx items.size items.size hi ≤ items.size := sIx_le _ _ (Nat.le_refl _) hi
  obtain ⟨os, hos, hcs, hds⟩ := id hs
  have hTs : s.TypeIs (.ref sl) "slice" := ⟨os, hos, hcs⟩
  unfold getItem
  try with_reducible refine wpAny_holding ?_
  first | refine wpAny_bind (wpAny_pure ?_) | skip
  refine wpAny_bind (wpAny_sequenceKey ht.typeIs (by decide) ?_)
  refine wpAny_bind (wpAny_callSpecial?_slot (name := Str.ofString "__getitem__") ht.typeIs PyProof.Rows.slot_tuple_getitem
    (wpAny_call_entry PyProof.Rows.slot_tuple_getitem ht.typeIs entry_tuple_getitem ?_ (args_tuple_getitem _ _)))
  show wpAny _ _ (Builtin.Tuple.tupleItemsOf (.ref t) >>= _) _ _ s
  refine wpAny_bind (tupleItemsOf_ ht ?_)
  refine wpAny_bind (wpAny_typeOf hTs ?_)
  rw [if_pos (by decide)]
  refine wpAny_bind (sliceApplied_gen hs pl pu ?_)
  have hno : ¬ ((((sIx items.size 0 lo : Nat) : Int) == 0 && (1 : Int) == 1 && (sIx items.size items.size hi - sIx items.size 0 lo) == items.size) = true) := by
    intro q
    rw [Bool.and_eq_true, Bool.and_eq_true] at q
    have q1 : ((sIx items.size 0 lo : Nat) : Int) = 0 := eq_of_beq q.1.1
    have q2 : sIx items.size items.size hi - sIx items.size 0 lo = items.size := eq_of_beq q.2
    exact hw ⟨by omega, by omega⟩
  show wpAny _ _ (if (((sIx items.size 0 lo : Nat) : Int) == 0 && (1 : Int) == 1 && (sIx items.size items.size hi - sIx items.size 0 lo) == items.size) = true then _ else _) _ _ s
  rw [if_neg hno, pick_gen]
  first
    | exact wpAny_bind (m := Builtin.Tuple.tupleExact _) (wpAny_newObj_type (wpAny_pure ⟨_, rfl, wpAny_pure h⟩) htake)
    | exact wpAny_bind (m := Builtin.Tuple.tupleExact _) (wpAny_newObj_type (wpAny_bind (wpAny_pure (wpAny_pure ⟨_, rfl, wpAny_pure h⟩))) htake)
    | exact wpAny_bind (wpAny_bind (m := Builtin.Tuple.tupleExact _) (wpAny_newObj_type (wpAny_pure (wpAny_pure ⟨_, rfl, wpAny_pure h⟩)) htake))
    | exact wpAny_bind (wpAny_bind (m := Builtin.Tuple.tupleExact _) (wpAny_newObj_type (wpAny_pure ⟨_, rfl, wpAny_pure h⟩) htake))
end
end HT

namespace L2
open PySem PySem.Spec PyProof.Rows

/-! ### the parts of a slice -/
abbrev TO := St → Hp → (Option Int → Hp → Prop) → Prop
/-- a slice's part (left out, or an int) -/
def PO (X : Cx) (e : Option Expr) (t : TO) : Prop :=
  ∀ (pins : List (Addr × Obj)) (s : Shared) (σ : St) (H : Hp) (Q : Option Int → Hp → Prop), Inv X pins σ H s → t σ H Q →
    wpAny (model X.prog X.w) X.A (evalPart e X.env) (fun u s' => ∃ o H', Inv X pins σ H' s' ∧ IsPart u o ∧ Q o H') X.xe s
def tNoPart : TO := fun _ H Q => Q none H
def tPart (t : TE) : TO := fun σ H Q => t σ H fun x H1 => ∃ i, x = .int i ∧ Q (some i) H1

theorem intsAre_of {ns : List Int} : ∀ {us : List Value}, Vals (ns.map V.int) us → IntsAre us ns := by
  induction ns with
  | nil => intro us r; rw [List.map_nil] at r; cases r; exact .nil
  | cons n ns ih =>
    intro us r
    rw [List.map_cons] at r
    cases r with
    | cons r1 r2 =>
      obtain ⟨t, e⟩ := r1
      subst e
      exact .cons n t (ih r2)

section
variable {X : Cx} {e : Expr} {te : TE} {lo hi : Option Expr} {tl th : TO} {pos p2 : Pos}

theorem po_none : PO X none tNoPart := by
  intro pins s σ H Q I h
  rw [evalPart_none]
  exact wpAny_pure ⟨none, H, I, .none, h⟩
theorem po_some (h : PE X e te) : PO X (some e) (tPart te) := by
  intro pins s σ H Q I hw
  rw [evalPart_some]
  refine thn (h pins s σ H _ I hw) fun u s1 ⟨x, H1, I1, r1, q1⟩ => ?_
  obtain ⟨i, rfl, q⟩ := q1
  obtain ⟨t, rfl⟩ := r1
  exact ⟨some i, H1, I1, .int i t, q⟩

/-- what a slice of a value is, by values: the slice object stands at sl -/
def SlR (X : Cx) (r : V → Option Int → Option Int → Hp → VK → Prop) : Prop :=
  ∀ (pins : List (Addr × Obj)) (s : Shared) (σ : St) (H : Hp) (x : V) (v vl vu : Value) (lo hi : Option Int) (sl : Addr) (Q : VK), Inv X pins σ H s → RelV x v → s.heap.IsSliceOf sl vl vu .none → IsPart vl lo → IsPart vu hi → r x lo hi H Q →
    ∃ T id, typeLookup (.type T) "__getitem__" = pure (some (.builtin id)) ∧ s.TypeIs v T ∧ wpAny (model X.prog X.w) X.A (getItem v (.ref sl)) (EP X pins σ Q) X.xe s
theorem SlR.or {r r' : V → Option Int → Option Int → Hp → VK → Prop} (h : SlR X r) (h' : SlR X r') : SlR X (fun x lo hi H Q => r x lo hi H Q ∨ r' x lo hi H Q) := by
  intro pins s σ H x v vl vu lo hi sl Q I rx hs pl pu q
  rcases q with q | q
  · exact h pins s σ H x v vl vu lo hi sl Q I rx hs pl pu q
  · exact h' pins s σ H x v vl vu lo hi sl Q I rx hs pl pu q
def tSl (r : V → Option Int → Option Int → Hp → VK → Prop) (te : TE) (tl th : TO) : TE := fun σ H Q => te σ H fun x H1 => tl σ H1 fun l H2 => th σ H2 fun u H3 => r x l u H3 Q
/-- a[lo:hi], any a -/
theorem pe_slice {r : V → Option Int → Option Int → Hp → VK → Prop} (hr : SlR X r) (he : PE X e te) (hl : PO X lo tl) (hu : PO X hi th) : PE X (.Subscript e (.Slice lo hi none p2) pos) (tSl r te tl th) := by
  intro pins s σ H Q I h
  refine Subscript_ (thn (he pins s σ H _ I h) fun v s1 ⟨x, H1, I1, r1, q1⟩ => ?_)
  refine wpAny_Slice (thn (hl pins s1 σ H1 _ I1 q1) fun vl s2 ⟨l, H2, I2, pl, q2⟩ => thn (hu pins s2 σ H2 _ I2 q2) fun vu s3 ⟨u, H3, I3, pu, q3⟩ => ?_)
  rw [evalPart_none]
  refine wpAny_pure ?_
  have I4 : Inv X pins σ H3 { s3 with heap := s3.heap.push { cls := .type "slice", data := .fields #[vl, vu, .none] } } := I3.kept (t' := s3.toks) fun b ob q => Heap.get?_push_of_some _ q
  obtain ⟨T, id, hT, ht, hg⟩ := hr pins { s3 with heap := s3.heap.push { cls := .type "slice", data := .fields #[vl, vu, .none] } } σ H3 x v vl vu l u s3.heap.objs.size Q I4 r1 (Heap.IsSliceOf.new ..) pl pu q3
  show wpAny (model X.prog X.w) X.A (subscriptTail e (.Slice lo hi none p2) v (.ref s3.heap.objs.size)) (EP X pins σ Q) X.xe { s3 with heap := s3.heap.push { cls := .type "slice", data := .fields #[vl, vu, .none] } }
  exact tail_any (ops := [.ref s3.heap.objs.size, v]) ht hT hg (by with_unfolding_all rfl)

/-- the items of xs[lo:hi] -/
def cutV (xs : List V) (lo hi : Option Int) : List V := (xs.drop (HT.sIx xs.length 0 lo)).take (HT.sIx xs.length xs.length hi - HT.sIx xs.length 0 lo)
theorem cutV_length (xs : List V) (lo hi : Option Int) : (cutV xs lo hi).length ≤ xs.length := by
  unfold cutV
  rw [List.length_take, List.length_drop]
  omega
/-- t[lo:hi], not the whole of it (the whole would be t itself) -/
def rSlT (K : PySem.W.Frag) : V → Option Int → Option Int → Hp → VK → Prop := fun x lo hi H Q => ∃ a xs, x = .ref a ∧ SqT K H a xs ∧
  ¬ (HT.sIx xs.length 0 lo = 0 ∧ HT.sIx xs.length xs.length hi = xs.length) ∧ ∀ p, H p = none → Q (.ref p) (upd H p (.tup (cutV xs lo hi)))
theorem sl_tup : SlR X (rSlT X.K) := by
  intro pins s σ H x v vl vu lo hi sl Q I rx hs pl pu h
  obtain ⟨a, xs, rfl, hx, hw, q⟩ := h
  cases rx
  obtain ⟨its, r, ht, hz⟩ := I.tuple hx
  have hlen : its.toArray.size = xs.length := by rw [List.size_toArray]; exact r.length.symm
  refine ⟨"tuple", _, PyProof.Rows.slot_tuple_getitem.lookup, ht.typeIs, ?_⟩
  refine HT.getItem_tuple_cut ht hs pl pu (by rw [hlen]; exact hw) ?_ (by rw [hlen]; exact hz)
  rw [hlen]
  refine ⟨.ref s.heap.objs.size, _, I.laid (t' := s.toks) (o := .tup (cutV xs lo hi)) (fun b ob q => Heap.get?_push_of_some _ q) (Nat.le_refl _) ?_, rfl, q _ (I.hok.fresh (Nat.le_refl _))⟩
  exact ⟨Nat.le_trans (cutV_length xs lo hi) hz, _, (r.drop (HT.sIx xs.length 0 lo)).take (HT.sIx xs.length xs.length hi - HT.sIx xs.length 0 lo), IsTup.new _ _⟩

/-! ### t < u, t + u -/
def rLtT (K : PySem.W.Frag) : R2 := fun x y H Q => ∃ a b ns ms, x = .ref a ∧ y = .ref b ∧ SqT K H a (ns.map V.int) ∧ SqT K H b (ms.map V.int) ∧ Q (.bl (HT.lexLt ns ms)) H
theorem op_ltT (hu : X.A.units < cLine) : OpR X (compareOp .Lt) (rLtT X.K) := by
  intro pins s σ H x y v u Q I rx ry h
  obtain ⟨a, b, ns, ms, rfl, rfl, ha, hb, q⟩ := h
  cases rx
  cases ry
  obtain ⟨its, r1, p1, _⟩ := I.tuple ha
  obtain ⟨its2, r2, p2, _⟩ := I.tuple hb
  have i1 : IntsAre its.toArray.toList ns := intsAre_of r1
  have i2 : IntsAre its2.toArray.toList ms := intsAre_of r2
  exact HT.lt_tupInts p1 p2 i1 i2 hu ⟨.bl (HT.lexLt ns ms), H, I, rfl, q⟩
/-- t + u, t not empty: u empty gives t itself -/
def rCatT (K : PySem.W.Frag) : R2 := fun x y H Q => ∃ a b xs ys, x = .ref a ∧ y = .ref b ∧ SqT K H a xs ∧ SqT K H b ys ∧ xs ≠ [] ∧ xs.length + ys.length ≤ sizeLine ∧
  (ys = [] → Q (.ref a) H) ∧ (ys ≠ [] → ∀ p, H p = none → Q (.ref p) (upd H p (.tup (xs ++ ys))))
theorem Vals.nil_iff {xs : List V} {us : List Value} (r : Vals xs us) : us = [] ↔ xs = [] := by
  cases r with
  | nil => simp
  | cons _ _ => simp
theorem op_catT : OpR X (binaryOp .Add) (rCatT X.K) := by
  intro pins s σ H x y v u Q I rx ry h
  obtain ⟨a, b, xs, ys, rfl, rfl, ha, hb, hx, hz, q1, q2⟩ := h
  cases rx
  cases ry
  obtain ⟨its, r1, p1, _⟩ := I.tuple ha
  obtain ⟨its2, r2, p2, _⟩ := I.tuple hb
  refine HT.cat_tup p1 p2 (fun z => hx (r1.nil_iff.mp z)) (fun z => ⟨.ref a, H, I, rfl, q1 (r2.nil_iff.mp z)⟩) (fun z => ?_) (by rw [← r1.length, ← r2.length]; exact hz)
  refine ⟨.ref s.heap.objs.size, _, I.laid (t' := s.toks) (o := .tup (xs ++ ys)) (fun b ob q => Heap.get?_push_of_some _ q) (Nat.le_refl _) ?_, rfl, q2 (fun w => z (r2.nil_iff.mpr w)) _ (I.hok.fresh (Nat.le_refl _))⟩
  exact ⟨by rw [List.length_append]; exact hz, _, r1.append r2, IsTup.new _ _⟩
/-- tuple(t) -/
theorem call_tupleT : CallR X (.type "tuple") (fun xs H Q => ∃ a ys, xs = [.ref a] ∧ SqT X.K H a ys ∧ Q (.ref a) H) := by
  intro pins s σ H xs us Q I r h
  obtain ⟨a, ys, rfl, ha, q⟩ := h
  obtain ⟨u, rfl, ru⟩ := vals1 r
  cases ru
  obtain ⟨its, _, p1, _⟩ := I.tuple ha
  exact call_tuple_same (items := its.toArray) p1 ⟨.ref a, H, I, rfl, q⟩
end
end L2

namespace L2
open PySem PySem.Spec PyProof.Rows

/-! ### places -/
/-- the place that an index of any sign means -/
def ixN (n : Nat) (i : Int) : Option Nat := if 0 ≤ i then (if i < n then some i.toNat else none) else if -(n : Int) ≤ i then some (i + n).toNat else none
def atI {α : Type} (xs : List α) (i : Int) : Option α := (ixN xs.length i).bind fun j => xs[j]?
theorem ixN_seq {n : Nat} {i : Int} {j : Nat} (h : ixN n i = some j) : seqIndex? i n = some j ∧ j < n ∧ -(n : Int) ≤ i ∧ i < n := by
  unfold ixN at h
  by_cases h0 : 0 ≤ i
  · rw [if_pos h0] at h
    by_cases h1 : i < n
    · rw [if_pos h1] at h
      have e : i.toNat = j := Option.some.inj h
      exact ⟨by rw [seqIndex_of h0 h1, e], by omega, by omega, h1⟩
    · rw [if_neg h1] at h; cases h
  · rw [if_neg h0] at h
    by_cases h1 : -(n : Int) ≤ i
    · rw [if_pos h1] at h
      have e : (i + n).toNat = j := Option.some.inj h
      exact ⟨by rw [seqIndex_neg (by omega) h1, e], by omega, h1, by omega⟩
    · rw [if_neg h1] at h; cases h
theorem atI_get {α : Type} {xs : List α} {i : Int} {v : α} (h : atI xs i = some v) : ∃ j, seqIndex? i xs.length = some j ∧ xs[j]? = some v ∧ j < xs.length ∧ -(xs.length : Int) ≤ i ∧ i < xs.length := by
  unfold atI at h
  cases e : ixN xs.length i with
  | none => rw [e] at h; cases h
  | some j =>
    rw [e] at h
    obtain ⟨h1, h2, h3, h4⟩ := ixN_seq e
    exact ⟨j, h1, h, h2, h3, h4⟩
theorem atI_nat {α : Type} {xs : List α} {j : Nat} {v : α} (h : xs[j]? = some v) : atI xs (j : Int) = some v := by
  have hj : j < xs.length := (List.getElem?_eq_some_iff.mp h).1
  have e : ixN xs.length (j : Int) = some j := by
    unfold ixN
    rw [if_pos (by omega), if_pos (by omega)]; simp
  unfold atI; rw [e]; exact h
theorem atI_last {α : Type} (xs : List α) (v : α) : atI (xs ++ [v]) (-1) = some v := by
  have hl : (xs ++ [v]).length = xs.length + 1 := by simp
  have e : ixN (xs ++ [v]).length (-1) = some xs.length := by
    unfold ixN
    rw [hl, if_neg (by decide), if_pos (by omega)]
    congr 1
    omega
  unfold atI
  rw [e]
  show (xs ++ [v])[xs.length]? = some v
  simp

/-! ### what may be subscripted -/
/-- what stands as an index of a plain subscript -/
def PlainIx (b : Expr) : Prop := ∀ o i, subscripted b false o i = operate [o, i] (getItem o i)
/-- a subscript by values -/
def IxR (X : Cx) (r : R2) : Prop :=
  ∀ (value slice : Expr) (pins : List (Addr × Obj)) (s : Shared) (σ : St) (H : Hp) (x y : V) (v u : Value) (Q : VK), Inv X pins σ H s → RelV x v → RelV y u → r x y H Q →
    subscripted slice false v u = operate [v, u] (getItem v u) → wpAny (model X.prog X.w) X.A (subscriptTail value slice v u) (EP X pins σ Q) X.xe s
/-- a call of a builtin's method by values: the receiver, the arguments -/
def MtR (X : Cx) (id : String) (r : V → List V → Hp → VK → Prop) : Prop :=
  ∀ (pins : List (Addr × Obj)) (s : Shared) (σ : St) (H : Hp) (x : V) (xs : List V) (v : Value) (us : List Value) (Q : VK), Inv X pins σ H s → RelV x v → Vals xs us → r x xs H Q →
    wpAny (model X.prog X.w) X.A (call (.builtin id) (v :: us)) (EP X pins σ Q) X.xe s
section
variable {X : Cx} {a b : Expr} {ta tb : TE} {pos : Pos}
theorem IxR.or {r r' : R2} (h : IxR X r) (h' : IxR X r') : IxR X (fun x y H Q => r x y H Q ∨ r' x y H Q) := by
  intro value slice pins s σ H x y v u Q I rx ry q hs
  rcases q with q | q
  · exact h value slice pins s σ H x y v u Q I rx ry q hs
  · exact h' value slice pins s σ H x y v u Q I rx ry q hs
theorem MtR.or {id : String} {r r' : V → List V → Hp → VK → Prop} (h : MtR X id r) (h' : MtR X id r') : MtR X id (fun x xs H Q => r x xs H Q ∨ r' x xs H Q) := by
  intro pins s σ H x xs v us Q I rx rs q
  rcases q with q | q
  · exact h pins s σ H x xs v us Q I rx rs q
  · exact h' pins s σ H x xs v us Q I rx rs q
/-- a[b] -/
theorem pe_ix {r : R2} (hr : IxR X r) (ha : PE X a ta) (hb : PE X b tb) (hs : PlainIx b) : PE X (.Subscript a b pos) (tOp r ta tb) := by
  intro pins s σ H Q I h
  exact Subscript_ (binT ha hb I h fun v u s2 x y H2 I2 rx ry q => hr a b pins s2 σ H2 x y v u Q I2 rx ry q (hs _ _))

def rIxL (K : PySem.W.Frag) : R2 := fun x y H Q => ∃ p xs i v, x = .ref p ∧ y = .int i ∧ SqL K H p xs ∧ atI xs i = some v ∧ Q v H
def rIxT (K : PySem.W.Frag) : R2 := fun x y H Q => ∃ p xs i v, x = .ref p ∧ y = .int i ∧ SqT K H p xs ∧ atI xs i = some v ∧ Q v H
def rIxS : R2 := fun x y H Q => ∃ z i c, x = .str z ∧ y = .int i ∧ z.length ≤ sizeLine ∧ atI z.cps.toList i = some c ∧ Q (.str ⟨#[c]⟩) H
theorem ix_list : IxR X (rIxL X.K) := by
  intro value slice pins s σ H x y v u Q I rx ry h hs
  obtain ⟨p, xs, i, z, rfl, rfl, hq, he, q⟩ := h
  cases rx
  obtain ⟨t, rfl⟩ := ry
  obtain ⟨its, r, pl, hz⟩ := I.list hq
  obtain ⟨j, h1, h2, h3, h4, h5⟩ := atI_get he
  obtain ⟨w, ew, rw'⟩ := r.get h2
  have hl := r.length
  have hn := line63
  have fin : EP X pins σ Q w s := ⟨z, H, I, rw', q⟩
  by_cases h0 : 0 ≤ i
  · have hj : i.toNat = j := by
      rw [seqIndex_of h0 h5] at h1
      exact Option.some.inj h1
    exact item_listR pl.isList h0 (by omega) (by rw [hj]; simpa using ew) fin hs
  · have hj : (i + (its.toArray.size : Int)).toNat = j := by
      rw [seqIndex_neg (by omega) h4] at h1
      rw [List.size_toArray, ← hl]
      exact Option.some.inj h1
    exact subscriptTail_builtinR (x := w) pl.isList.typeIs slot_list_getitem.lookup
      (wpAny_getItem_list_neg (Q := fun r s' => r = w ∧ EP X pins σ Q r s') pl.isList (by omega) (by rw [List.size_toArray] <;> omega) (by omega) (by rw [hj]; simpa using ew) ⟨rfl, fin⟩) hs
theorem ix_tup : IxR X (rIxT X.K) := by
  intro value slice pins s σ H x y v u Q I rx ry h hs
  obtain ⟨p, xs, i, z, rfl, rfl, hq, he, q⟩ := h
  cases rx
  obtain ⟨t, rfl⟩ := ry
  obtain ⟨its, r, pl, hz⟩ := I.tuple hq
  obtain ⟨j, h1, h2, h3, h4, h5⟩ := atI_get he
  obtain ⟨w, ew, rw'⟩ := r.get h2
  have hl := r.length
  have hn := line63
  have fin : EP X pins σ Q w s := ⟨z, H, I, rw', q⟩
  exact subscriptTail_builtinR (x := w) pl.typeIs slot_tuple_getitem.lookup
    (getItem_tuple (j := j) (Q := fun r s' => r = w ∧ EP X pins σ Q r s') pl (by omega) (by omega) (by rw [List.size_toArray, ← hl]; exact h1) (by simpa using ew) ⟨rfl, fin⟩) hs
theorem ix_str : IxR X rIxS := by
  intro value slice pins s σ H x y v u Q I rx ry h hs
  obtain ⟨z, i, c, rfl, rfl, hz, he, q⟩ := h
  obtain ⟨t, rfl⟩ := rx
  obtain ⟨t', rfl⟩ := ry
  obtain ⟨j, h1, h2, h3, h4, h5⟩ := atI_get he
  have hl : z.cps.toList.length = z.length := by simp [Str.length]
  rw [hl] at h1 h4 h5
  have hn := line63
  exact tail_any (typeIs_str s z t) slot_str_getitem.lookup (getItem_str (c := c) (by
    have e1 : decide (i < -(2 ^ 63 : Int)) = false := decide_eq_false (by omega)
    have e2 : decide (i ≥ 2 ^ 63) = false := decide_eq_false (by omega)
    rw [e1, e2, Bool.or_false]) (by rw [h1]; simpa using h2) ⟨.str ⟨#[c]⟩, H, I.tok _, ⟨_, rfl⟩, q⟩) hs
/-- list, tuple or str -/
def rIx (K : PySem.W.Frag) : R2 := fun x y H Q => rIxL K x y H Q ∨ rIxT K x y H Q ∨ rIxS x y H Q
theorem ix_seq : IxR X (rIx X.K) := ix_list.or (ix_tup.or ix_str)

/-! ### xs[i] = v, any sign -/
/-- the list's object behind a store -/
theorem mapSeq_set (its : List Value) (n j : Nat) (u : Value) : Obj.mapSeq (·.setIfInBounds j u) { cls := .type "list", data := .seq its.toArray n } = { cls := .type "list", data := .seq (its.set j u).toArray n } := by
  simp [Obj.mapSeq]
theorem Inv.lst {pins : List (Addr × Obj)} {σ : St} {H : Hp} {s : Shared} {p : Addr} {xs : List V} (I : Inv X pins σ H s) (h : H p = some (.lst xs)) :
    ∃ (its : List Value) (n : Nat), Vals xs its ∧ s.heap.get? p = some { cls := .type "list", data := .seq its.toArray n } ∧ xs.length ≤ sizeLine := by
  obtain ⟨z, its, n, r, e⟩ := I.hok p _ h
  exact ⟨its, n, r, e, z⟩
/-- the list at p is written by an update of its object -/
theorem Inv.lstUpd {pins : List (Addr × Obj)} {σ : St} {H : Hp} {s : Shared} {p : Addr} {xs ys : List V} {its its' : List Value} {n n' : Nat} {f : Obj → Obj} (I : Inv X pins σ H s) (h : H p = some (.lst xs))
    (ho : s.heap.get? p = some { cls := .type "list", data := .seq its.toArray n }) (hf : f { cls := .type "list", data := .seq its.toArray n } = { cls := .type "list", data := .seq its'.toArray n' }) (r : Vals ys its') (hz : ys.length ≤ sizeLine) (t : Nat) :
    Inv X pins σ (upd H p (.lst ys)) { s with heap := s.heap.update p f, toks := t } := by
  have e : (s.heap.update p f).get? p = some { cls := .type "list", data := .seq its'.toArray n' } := by
    rw [Heap.get?_update_self f ho (by rw [hf] <;> rfl), hf]
  refine I.write (x := p) (e := p) (by rw [h]; trivial) (.inl rfl) (fun b u hb q => (Heap.get?_update_other _ _ (Ne.symm hb)).trans q) ⟨_, e⟩ ?_
  exact ⟨hz, its', n', r, e⟩
def rSetL : V → V → V → Hp → (Hp → Prop) → Prop := fun o i v H Q => ∃ p xs k j, o = .ref p ∧ i = .int k ∧ H p = some (.lst xs) ∧ ixN xs.length k = some j ∧ Q (upd H p (.lst (xs.set j v)))
theorem set_list : PSet X rSetL := by
  intro pins s σ H o i v ov iv u Q I ro ri rv h
  obtain ⟨p, xs, k, j, rfl, rfl, hp, hj, q⟩ := h
  cases ro
  obtain ⟨t, rfl⟩ := ri
  obtain ⟨its, n, r, ho, hz⟩ := I.lst hp
  obtain ⟨h1, h2, h3, h4⟩ := ixN_seq hj
  have hl := r.length
  have hn := line63
  have I' : Inv X pins σ (upd H p (.lst (xs.set j v))) { s with heap := s.heap.update p (Obj.mapSeq (·.setIfInBounds j u)) } :=
    I.lstUpd hp ho (mapSeq_set its n j u) (r.set rv j) (by rw [List.length_set]; exact hz) s.toks
  by_cases h0 : 0 ≤ k
  · have hk : k.toNat = j := by
      rw [seqIndex_of h0 h4] at h1
      exact Option.some.inj h1
    exact PySem.W.ki_setAt ho h0 (by omega) (by rw [List.size_toArray, ← hl]; exact h4) (by rw [hk]; exact ⟨_, I', q⟩)
  · have hk : (k + (its.toArray.size : Int)).toNat = j := by
      rw [seqIndex_neg (by omega) h3] at h1
      rw [List.size_toArray, ← hl]
      exact Option.some.inj h1
    exact PySem.W.ki_setBack ho (by omega) (by rw [List.size_toArray, ← hl]; exact h3) (by omega) (by rw [hk]; exact ⟨_, I', q⟩)

/-! ### slices -/
theorem slice_bounds (lo hi : Option Int) (n : Nat) : (sliceBounds lo hi none n).1 = ((HT.sIx n 0 lo : Nat) : Int) ∧ (sliceBounds lo hi none n).2.1 = ((HT.sIx n n hi : Nat) : Int) ∧ (sliceBounds lo hi none n).2.2 = 1 := by
  refine ⟨?_, ?_, rfl⟩
  · cases lo with
    | none => simp [sliceBounds, HT.sIx]
    | some i =>
      simp only [sliceBounds, HT.sIx, Option.getD_none, show (1 : Int) > 0 by decide, if_true]
      by_cases h : i < 0
      · simp only [h, if_true] <;> omega
      · simp only [h, if_false] <;> omega
  · cases hi with
    | none => simp [sliceBounds, HT.sIx]
    | some i =>
      simp only [sliceBounds, HT.sIx, Option.getD_none, show (1 : Int) > 0 by decide, if_true]
      by_cases h : i < 0
      · simp only [h, if_true] <;> omega
      · simp only [h, if_false] <;> omega
theorem slicePick_cut (its : List Value) (lo hi : Option Int) : slicePick its.toArray lo hi none = ((its.drop (HT.sIx its.length 0 lo)).take (HT.sIx its.length its.length hi - HT.sIx its.length 0 lo)).toArray := by
  obtain ⟨h1, h2, h3⟩ := slice_bounds lo hi its.toArray.size
  unfold slicePick
  rw [h1, h2, h3]
  simp only [sliceRange_one, pick_run, List.size_toArray] <;> rfl
/-- xs[lo:hi] of a list: a new list -/
def rSlL (K : PySem.W.Frag) : V → Option Int → Option Int → Hp → VK → Prop := fun x lo hi H Q => ∃ a xs, x = .ref a ∧ SqL K H a xs ∧ ∀ p, H p = none → Q (.ref p) (upd H p (.lst (cutV xs lo hi)))
theorem sl_list : SlR X (rSlL X.K) := by
  intro pins s σ H x v vl vu lo hi sl Q I rx hs pl pu h
  obtain ⟨a, xs, rfl, hx, q⟩ := h
  cases rx
  obtain ⟨its, r, ht, hz⟩ := I.list hx
  have hlen := r.length
  refine ⟨"list", _, slot_list_getitem.lookup, ht.isList.typeIs, ?_⟩
  refine wpAny_getItem_list_slice ht.isList hs pl pu .none (by simp) ?_ (by rw [List.size_toArray] <;> omega)
  rw [slicePick_cut, ← hlen]
  refine ⟨.ref s.heap.objs.size, _, I.laid (t' := s.toks) (o := .lst (cutV xs lo hi)) (fun b ob q => Heap.get?_push_of_some _ q) (Nat.le_refl _) ?_, rfl, q _ (I.hok.fresh (Nat.le_refl _))⟩
  exact ⟨Nat.le_trans (cutV_length xs lo hi) hz, _, 0, (r.drop (HT.sIx xs.length 0 lo)).take (HT.sIx xs.length xs.length hi - HT.sIx xs.length 0 lo), Heap.get?_push_size _ rfl⟩

/-! ### in, not in: flat items -/
def flatV : V → Bool
  | .non => true
  | .bl _ => true
  | .int _ => true
  | .str _ => true
  | _ => false
/-- == of flat values -/
def eqV : V → V → Bool
  | .non, .non => true
  | .bl a, .bl b => a == b
  | .bl a, .int b => (if a then 1 else 0) == b
  | .int a, .bl b => a == (if b then 1 else 0)
  | .int a, .int b => a == b
  | .str a, .str b => a == b
  | _, _ => false
theorem eqAt_V {A : Around} {s : Shared} {y x : V} {u v : Value} (ry : RelV y u) (rx : RelV x v) (fy : flatV y = true) (fx : flatV x = true) : SeqAt.EqAt A s u v (eqV y x) := by
  cases y with
  | non =>
    cases ry
    cases x with
    | non => cases rx; exact SeqAt.EqAt.same _
    | bl b => cases rx; exact SeqAt.EqAt.none_bool b
    | int b => obtain ⟨t, rfl⟩ := rx; exact SeqAt.EqAt.none_int b t
    | str b => obtain ⟨t, rfl⟩ := rx; exact SeqAt.EqAt.none_str b t
    | _ => exact absurd (show false = true from fx) Bool.false_ne_true
  | bl a =>
    cases ry
    cases x with
    | non => cases rx; exact SeqAt.EqAt.bool_none a
    | bl b => cases rx; exact SeqAt.EqAt.bool_bool a b
    | int b => obtain ⟨t, rfl⟩ := rx; exact SeqAt.EqAt.bool_int a b t
    | str b => obtain ⟨t, rfl⟩ := rx; exact SeqAt.EqAt.bool_str a b t
    | _ => exact absurd (show false = true from fx) Bool.false_ne_true
  | int a =>
    obtain ⟨t', rfl⟩ := ry
    cases x with
    | non => cases rx; exact SeqAt.EqAt.int_none a t'
    | bl b => cases rx; exact SeqAt.EqAt.int_bool a t' b
    | int b => obtain ⟨t, rfl⟩ := rx; exact SeqAt.EqAt.int_int a t' b t
    | str b => obtain ⟨t, rfl⟩ := rx; exact SeqAt.EqAt.int_str a t' b t
    | _ => exact absurd (show false = true from fx) Bool.false_ne_true
  | str a =>
    obtain ⟨t', rfl⟩ := ry
    cases x with
    | non => cases rx; exact SeqAt.EqAt.str_none a t'
    | bl b => cases rx; exact SeqAt.EqAt.str_bool a t' b
    | int b => obtain ⟨t, rfl⟩ := rx; exact SeqAt.EqAt.str_int a t' b t
    | str b => obtain ⟨t, rfl⟩ := rx; exact SeqAt.EqAt.str_str a t' b t
    | _ => exact absurd (show false = true from fx) Bool.false_ne_true
  | _ => exact absurd (show false = true from fy) Bool.false_ne_true
/-- the items' answers, read off the values (a value's own answer does not lean on its token) -/
def eqU (x : V) (u : Value) : Bool := match u with
  | .none => eqV .non x
  | .bool b => eqV (.bl b) x
  | .int i _ => eqV (.int i) x
  | .str z _ => eqV (.str z) x
  | _ => false
theorem eqU_of {x y : V} {u : Value} (r : RelV y u) (f : flatV y = true) : eqU x u = eqV y x := by
  cases y with
  | non => cases r; rfl
  | bl b => cases r; rfl
  | int i => obtain ⟨t, rfl⟩ := r; rfl
  | str z => obtain ⟨t, rfl⟩ := r; rfl
  | _ => exact absurd (show false = true from f) Bool.false_ne_true
theorem any_eqU {x : V} : ∀ {xs : List V} {us : List Value}, Vals xs us → xs.all flatV = true → us.any (eqU x) = xs.any fun y => eqV y x
  | _, _, .nil, _ => rfl
  | y :: xs, u :: us, .cons r t, f => by
    rw [List.all_cons, Bool.and_eq_true] at f
    rw [List.any_cons, List.any_cons, eqU_of r f.1, any_eqU t f.2]
theorem mem_eqAt {A : Around} {s : Shared} {x : V} {v : Value} (rx : RelV x v) (fx : flatV x = true) : ∀ {xs : List V} {us : List Value}, Vals xs us → xs.all flatV = true → ∀ u ∈ us, SeqAt.EqAt A s u v (eqU x u)
  | _, _, .nil, _ => fun u hu => by cases hu
  | y :: xs, u :: us, .cons r t, f => fun u' hu => by
    rw [List.all_cons, Bool.and_eq_true] at f
    rcases List.mem_cons.mp hu with rfl | hu
    · rw [eqU_of r f.1]; exact eqAt_V r rx f.1 fx
    · exact mem_eqAt rx fx t f.2 u' hu
def inV (x : V) (xs : List V) : Bool := xs.any fun y => eqV y x
/-- x in a list or tuple of flat items -/
def rIn (K : PySem.W.Frag) (neg : Bool) : R2 := fun x y H Q => ∃ p xs, y = .ref p ∧ (SqL K H p xs ∨ SqT K H p xs) ∧ flatV x = true ∧ xs.all flatV = true ∧ Q (.bl (if neg then !inV x xs else inV x xs)) H
theorem op_in_seq : OpR X (compareOp .In) (rIn X.K false) := by
  intro pins s σ H x y v u Q I rx ry h
  obtain ⟨p, xs, rfl, hq, fx, fs, q⟩ := h
  cases ry
  rcases hq with hq | hq
  · obtain ⟨its, r, pl, hz⟩ := I.list hq
    refine SeqAt.in_listAt (eqU x) pl.isList (fun w hw => mem_eqAt rx fx r fs w (by simpa using hw)) ⟨.bl _, H, I, rfl, ?_⟩
    rw [show its.toArray.any (eqU x) = its.any (eqU x) by simp, any_eqU r fs]
    exact q
  · obtain ⟨its, r, pl, hz⟩ := I.tuple hq
    refine SeqAt.in_tupleAt (eqU x) pl (fun w hw => mem_eqAt rx fx r fs w (by simpa using hw)) ⟨.bl _, H, I, rfl, ?_⟩
    rw [show its.toArray.any (eqU x) = its.any (eqU x) by simp, any_eqU r fs]
    exact q
theorem op_notIn_seq : OpR X (compareOp .NotIn) (rIn X.K true) := by
  intro pins s σ H x y v u Q I rx ry h
  obtain ⟨p, xs, rfl, hq, fx, fs, q⟩ := h
  cases ry
  rcases hq with hq | hq
  · obtain ⟨its, r, pl, hz⟩ := I.list hq
    refine SeqAt.notIn_listAt (eqU x) pl.isList (fun w hw => mem_eqAt rx fx r fs w (by simpa using hw)) ⟨.bl _, H, I, rfl, ?_⟩
    rw [show its.toArray.any (eqU x) = its.any (eqU x) by simp, any_eqU r fs]
    exact q
  · obtain ⟨its, r, pl, hz⟩ := I.tuple hq
    refine SeqAt.notIn_tupleAt (eqU x) pl (fun w hw => mem_eqAt rx fx r fs w (by simpa using hw)) ⟨.bl _, H, I, rfl, ?_⟩
    rw [show its.toArray.any (eqU x) = its.any (eqU x) by simp, any_eqU r fs]
    exact q
theorem op_notIn_str : OpR X (compareOp .NotIn) (fun x y H Q => ∃ i j, x = .str i ∧ y = .str j ∧ Q (.bl (!(!(Builtin.Str.occurrences j i 0 j.length 1).isEmpty))) H) := by
  intro pins s σ H x y v u Q I rx ry h
  obtain ⟨i, j, rfl, rfl, q⟩ := h
  obtain ⟨t, rfl⟩ := rx
  obtain ⟨t', rfl⟩ := ry
  exact notIn_str ⟨.bl _, H, I, rfl, q⟩

/-! ### len, list(x), tuple(x) of any list or tuple that is read -/
theorem call_len_seq : CallR X (.builtin "len") (fun xs H Q => ∃ p ys, xs = [.ref p] ∧ (SqL X.K H p ys ∨ SqT X.K H p ys) ∧ Q (.int ys.length) H) := by
  intro pins s σ H xs us Q I r h
  obtain ⟨p, ys, rfl, hq, q⟩ := h
  obtain ⟨u, rfl, rx⟩ := vals1 r
  cases rx
  have hn := line63
  rcases hq with hq | hq
  · obtain ⟨its, r', pl, hz⟩ := I.list hq
    have hlen := r'.length
    exact Calls.call_len_list pl.isList (by simp only [List.size_toArray] <;> omega) ⟨.int ys.length, H, I.tok _, ⟨s.toks + 1, by rw [List.size_toArray, hlen]⟩, q⟩
  · obtain ⟨its, r', pl, hz⟩ := I.tuple hq
    have hlen := r'.length
    exact len_tuple pl (by simp only [List.size_toArray] <;> omega) ⟨.int ys.length, H, I.tok _, ⟨s.toks + 1, by rw [List.size_toArray, hlen]⟩, q⟩
theorem call_len_str : CallR X (.builtin "len") (fun xs H Q => ∃ z, xs = [.str z] ∧ z.length ≤ sizeLine ∧ Q (.int z.length) H) := by
  intro pins s σ H xs us Q I r h
  obtain ⟨z, rfl, hz, q⟩ := h
  obtain ⟨u, rfl, t, rfl⟩ := vals1 r
  have hn := line63
  exact len_str (by omega) ⟨.int z.length, H, I.tok _, ⟨_, rfl⟩, q⟩
theorem CallR.or {f : Value} {r r' : List V → Hp → VK → Prop} (h : CallR X f r) (h' : CallR X f r') : CallR X f (fun xs H Q => r xs H Q ∨ r' xs H Q) := by
  intro pins s σ H xs us Q I rs q
  rcases q with q | q
  · exact h pins s σ H xs us Q I rs q
  · exact h' pins s σ H xs us Q I rs q
theorem call_list_of : CallR X (.type "list") (fun xs H Q => ∃ p ys, xs = [.ref p] ∧ (SqL X.K H p ys ∨ SqT X.K H p ys) ∧ ∀ l, H l = none → Q (.ref l) (upd H l (.lst ys))) := by
  intro pins s σ H xs us Q I r h
  obtain ⟨p, ys, rfl, hq, q⟩ := h
  obtain ⟨u, rfl, rx⟩ := vals1 r
  cases rx
  have fin : ∀ (its : List Value), Vals ys its → ys.length ≤ sizeLine → ∀ (h' : Heap) (c' : Nat), (∀ b o', s.heap.get? b = some o' → h'.get? b = some o') →
      h'.get? s.heap.objs.size = some { cls := .type "list", dict := none, data := .seq its.toArray c', slots := #[] } → EP X pins σ Q (.ref s.heap.objs.size) { s with heap := h' } := fun its r' hz h' c' kp e =>
    ⟨.ref s.heap.objs.size, _, I.laid (t' := s.toks) kp (Nat.le_refl _) (show ObjOk X.prog X.w _ h' _ (.lst ys) from ⟨hz, its, c', r', e⟩), rfl, q _ (I.hok.fresh (Nat.le_refl _))⟩
  rcases hq with hq | hq
  · obtain ⟨its, r', pl, hz⟩ := I.list hq
    have hlen := r'.length
    obtain ⟨o, ho, hc, n, hd⟩ := pl.isList
    exact call_list_seq p (.inl rfl) ho hc hd (fun h' c' kp e => fin its r' hz h' c' kp e) (by simp only [List.size_toArray] <;> omega)
  · obtain ⟨its, r', pl, hz⟩ := I.tuple hq
    have hlen := r'.length
    obtain ⟨o, ho, hc, n, hd⟩ := pl
    exact call_list_seq p (.inr rfl) ho hc hd (fun h' c' kp e => fin its r' hz h' c' kp e) (by simp only [List.size_toArray] <;> omega)
theorem call_tuple_of : CallR X (.type "tuple") (fun xs H Q => ∃ p ys, xs = [.ref p] ∧ ((SqL X.K H p ys ∧ ∀ l, H l = none → Q (.ref l) (upd H l (.tup ys))) ∨ (SqT X.K H p ys ∧ Q (.ref p) H))) := by
  intro pins s σ H xs us Q I r h
  obtain ⟨p, ys, rfl, h⟩ := h
  obtain ⟨u, rfl, rx⟩ := vals1 r
  cases rx
  rcases h with ⟨hq, q⟩ | ⟨hq, q⟩
  · obtain ⟨its, r', pl, hz⟩ := I.list hq
    have hlen := r'.length
    refine call_tuple_list pl.isList (fun h' kp => ?_) (by simp only [List.size_toArray] <;> omega)
    have I1 : Inv X pins σ H { s with heap := h' } := I.kept (t' := s.toks) kp
    have I2 : Inv X pins σ (upd H h'.objs.size (.tup ys)) { s with heap := h'.push { cls := .type "tuple", data := .seq its.toArray } } :=
      I1.laid (t' := s.toks) (fun b o e => Heap.get?_push_of_some _ e) (Nat.le_refl _) (show ObjOk X.prog X.w _ _ _ (.tup ys) from ⟨hz, its, r', IsTup.new _ _⟩)
    exact ⟨.ref h'.objs.size, _, I2, rfl, q _ (I1.hok.fresh (Nat.le_refl _))⟩
  · obtain ⟨its, r', pl, hz⟩ := I.tuple hq
    exact call_tuple_same pl ⟨.ref p, H, I, rfl, q⟩

/-! ### the call of a builtin's method: o.m(..) -/
/-- the value is of that builtin type -/
def tyV (K : PySem.W.Frag) (T : String) (x : V) (H : Hp) : Prop := match x with
  | .str _ => T = "str"
  | .int _ => T = "int"
  | .ref p => (T = "list" ∧ ∃ xs, SqL K H p xs) ∨ (T = "tuple" ∧ ∃ o, K.lookup p = some o ∧ o.cls = .type "tuple" ∧ o.dict = none) ∨
      (T = "dict" ∧ ((∃ kvs, H p = some (.dK kvs)) ∨ ∃ kvs, H p = some (.dT kvs))) ∨ (T = "set" ∧ ∃ S n, H p = some (.set S n))
  | _ => False
theorem tyV_is {pins : List (Addr × Obj)} {σ : St} {H : Hp} {s : Shared} {T : String} {x : V} {v : Value} (I : Inv X pins σ H s) (r : RelV x v) (ty : tyV X.K T x H) :
    s.TypeIs v T ∧ ∀ a, v = .ref a → ∃ ob, s.heap.get? a = some ob ∧ ob.dict = none := by
  cases x with
  | str z =>
    obtain ⟨t, rfl⟩ := r
    cases (show T = "str" from ty)
    exact ⟨typeIs_str s z t, fun _ e => nomatch e⟩
  | int i =>
    obtain ⟨t, rfl⟩ := r
    cases (show T = "int" from ty)
    exact ⟨typeIs_int s i t, fun _ e => nomatch e⟩
  | ref p =>
    cases r
    rcases ty with ⟨rfl, xs, hq⟩ | ⟨rfl, o, hk, hc, hd⟩ | ⟨rfl, hk⟩ | ⟨rfl, S, n, hk⟩
    · obtain ⟨its, _, pl, _⟩ := I.list hq
      refine ⟨pl.isList.typeIs, fun a e => ?_⟩
      cases e
      obtain ⟨o, n, e, c, hd, _⟩ := pl
      exact ⟨o, e, hd⟩
    · refine ⟨⟨o, I.kIn p o hk, hc⟩, fun a e => ?_⟩
      cases e
      exact ⟨o, I.kIn _ o hk, hd⟩
    · have z : ∃ o, s.heap.get? p = some o ∧ o.ExactDict := by
        rcases hk with ⟨kvs, hk⟩ | ⟨kvs, hk⟩
        · obtain ⟨_, _, _, _, o, _, _, e, ex, _⟩ := I.hok p _ hk
          exact ⟨o, e, ex⟩
        · obtain ⟨_, _, _, _, o, _, _, e, ex, _⟩ := I.hok p _ hk
          exact ⟨o, e, ex⟩
      obtain ⟨o, e, ex⟩ := z
      refine ⟨⟨o, e, ex.1⟩, fun a e2 => ?_⟩
      cases e2
      exact ⟨o, e, ex.2.1⟩
    · obtain ⟨o, _, _, _, e, ex, _⟩ := I.hok p _ hk
      refine ⟨⟨o, e, ex.1⟩, fun a e2 => ?_⟩
      cases e2
      exact ⟨o, e, ex.2.1⟩
  | _ => exact False.elim ty
def tBM0 (K : PySem.W.Frag) (T : String) (r : V → List V → Hp → VK → Prop) (to : TE) : TE := fun σ H Q => to σ H fun x H1 => tyV K T x H1 ∧ r x [] H1 Q
def tBM (K : PySem.W.Frag) (T : String) (r : V → List V → Hp → VK → Prop) (to : TE) (t : TA) : TE := fun σ H Q => to σ H fun x H1 => tyV K T x H1 ∧ t σ H1 fun xs H2 => r x xs H2 Q
variable {o e : Expr} {es : List Expr} {to : TE} {t : TA} {name : Str} {apos cpos : Pos} {T id : String} {r : V → List V → Hp → VK → Prop}
theorem pe_bm0 (pa : PlainAttrs T) (slot : Slot T name id) (hty : typeOf (.builtin id) = pure (.type "method_descriptor")) (hm : MtR X id r) (ho : PE X o to)
    (hbase : attributeBase o name X.env (eval o X.env) = eval o X.env := by rfl) (hline : (apos.endLine == cpos.line) = true := by rfl) : PE X (.Call (.Attribute o name apos) [] [] cpos) (tBM0 X.K T r to) := by
  intro pins s σ H Q I h
  refine wpAny_Call_method0_late hbase hline (thn (ho pins s σ H _ I h) fun v s1 ⟨x, H1, I1, r1, ty, q1⟩ => ?_)
  obtain ⟨h1, h2⟩ := tyV_is I1 r1 ty
  exact ⟨T, id, pa, slot, hty, h1, h2, Calls.callWith_builtin rfl (PySem.evalArgs_none (hm pins s1 σ H1 x [] v [] Q I1 r1 .nil q1))⟩
theorem pe_bm (pa : PlainAttrs T) (slot : Slot T name id) (hty : typeOf (.builtin id) = pure (.type "method_descriptor")) (hm : MtR X id r) (ho : PE X o to) (ha : PA X (e :: es) t)
    (hbase : attributeBase o name X.env (eval o X.env) = eval o X.env := by rfl)
    (hfew : ((backTo cpos (starEach (e :: es) X.env)).all (fun x => !x.1) && (backToKw cpos (keywordEach [] X.env)).all (fun x => x.1.isSome)
      && decide ((e :: es).length + ([] : List Keyword).length + (if ([] : List Keyword).isEmpty then 0 else 1) < 30)) = true := by rfl)
    (hline : (apos.endLine == cpos.line) = true := by rfl) (hs : starEach (e :: es) X.env = (false, eval e X.env) :: starEach es X.env := by rfl) (hplain : (backTo cpos (starEach es X.env)).any (·.1) = false := by rfl) :
    PE X (.Call (.Attribute o name apos) (e :: es) [] cpos) (tBM X.K T r to t) := by
  intro pins s σ H Q I h
  refine wpAny_Call_method_late hbase hfew hline rfl (thn (ho pins s σ H _ I h) fun v s1 ⟨x, H1, I1, r1, ty, q1⟩ => ?_)
  obtain ⟨h1, h2⟩ := tyV_is I1 r1 ty
  refine ⟨T, id, pa, slot, hty, h1, h2, ?_⟩
  have hA := ha cpos pins s1 σ H1 _ I1 q1
  rw [hs] at hA ⊢
  refine Calls.callWith_builtin (by show (false || (backTo cpos (starEach es X.env)).any (·.1)) = false; rw [hplain] <;> rfl) (Calls.evalArgs_plain ?_)
  exact thn hA fun us s2 ⟨vs, H2, I2, r2, q2⟩ => hm pins s2 σ H2 x vs v us Q I2 r1 r2 q2
/- xs.append(e), list.index on a module's tuple .. are MtR facts of 06m -/
end
end L2

namespace L2
open PySem PySem.Spec PyProof.Rows

def MtM (X : Cx) (id : String) (r : V → List V → Hp → VK → Prop) : Prop :=
  ∀ (pins : List (Addr × Obj)) (s : Shared) (σ : St) (H : Hp) (x : V) (xs : List V) (v : Value) (us : List Value) (Q : VK), Inv X pins σ H s → RelV x v → Vals xs us → r x xs H Q →
    wpAny (model X.prog X.w) X.A (call (.builtin id) (v :: us)) (EP X pins σ Q) X.xe s

/-! ### lists of values -/
theorem Vals.one : ∀ {x : V} {us : List Value}, Vals [x] us → ∃ u, us = [u] ∧ RelV x u
  | _, _, .cons r .nil => ⟨_, rfl, r⟩
theorem Vals.two : ∀ {x y : V} {us : List Value}, Vals [x, y] us → ∃ u v, us = [u, v] ∧ RelV x u ∧ RelV y v
  | _, _, _, .cons r (.cons q .nil) => ⟨_, _, rfl, r, q⟩
theorem Vals.zero : ∀ {us : List Value}, Vals [] us → us = []
  | _, .nil => rfl
theorem Vals.dropLast {xs : List V} {us : List Value} (h : Vals xs us) : Vals xs.dropLast us.dropLast := by
  induction h with
  | nil => exact .nil
  | cons r t ih =>
    cases t with
    | nil => exact .nil
    | cons q t' => exact .cons r ih
theorem Vals.eraseIdx : ∀ {xs : List V} {us : List Value} (i : Nat), Vals xs us → Vals (xs.eraseIdx i) (us.eraseIdx i)
  | _, _, _, .nil => .nil
  | _, _, 0, .cons _ t => t
  | _, _, i + 1, .cons r t => .cons r (Vals.eraseIdx i t)
theorem Vals.reverse {xs : List V} {us : List Value} (h : Vals xs us) : Vals xs.reverse us.reverse := by
  induction h with
  | nil => exact .nil
  | cons r t ih => rw [List.reverse_cons, List.reverse_cons]; exact Vals.append ih (.cons r .nil)
theorem Vals.rep {xs : List V} {us : List Value} (h : Vals xs us) : ∀ k : Nat, Vals (List.replicate k xs).flatten (List.replicate k us).flatten
  | 0 => .nil
  | k + 1 => by
    rw [List.replicate_succ, List.replicate_succ, List.flatten_cons, List.flatten_cons]
    exact Vals.append h (Vals.rep h k)
theorem erase_last {α : Type} (l : List α) : l.eraseIdx (l.length - 1) = l.dropLast := by
  induction l with
  | nil => rfl
  | cons a r ih =>
    cases r with
    | nil => rfl
    | cons b r =>
      have e : (a :: b :: r).length - 1 = ((b :: r).length - 1) + 1 := by
        have h1 : (a :: b :: r).length = r.length + 2 := rfl
        have h2 : (b :: r).length = r.length + 1 := rfl
        omega
      rw [e, List.eraseIdx_cons_succ, ih]
      all_goals rfl
theorem len_erase {α : Type} : ∀ (l : List α) (i : Nat), (l.eraseIdx i).length ≤ l.length
  | [], _ => Nat.le_refl _
  | _ :: _, 0 => Nat.le_succ _
  | _ :: r, i + 1 => Nat.succ_le_succ (len_erase r i)
theorem foldl_rep (its : List Value) : ∀ (k : Nat) (acc : List Value),
    List.foldl (fun x1 x2 => x1 ++ x2) acc.toArray (List.replicate k its.toArray) = (acc ++ (List.replicate k its).flatten).toArray
  | 0, acc => by simp
  | k + 1, acc => by
    have e : acc.toArray ++ its.toArray = (acc ++ its).toArray := by simp
    have e2 : (acc ++ its) ++ (List.replicate k its).flatten = acc ++ (List.replicate (k + 1) its).flatten := by
      rw [List.replicate_succ, List.flatten_cons, List.append_assoc]
    rw [← e2, ← foldl_rep its k (acc ++ its), ← e, List.replicate_succ, List.foldl_cons]

section
variable {X : Cx} {pins : List (Addr × Obj)} {σ : St} {H : Hp} {s : Shared} {l b : Addr} {xs ys zs : List V}

/-! ### the two steps: a tracked list is rewritten, a new list is laid -/
theorem Inv.lset {its its' : List Value} {n : Nat} {f : Array Value → Array Value} {t' : Nat} (I : Inv X pins σ H s) (hH : H l = some (.lst xs))
    (e : s.heap.get? l = some { cls := .type "list", data := .seq its.toArray n }) (hf : f its.toArray = its'.toArray) (hv : Vals ys its') (hz : ys.length ≤ sizeLine) :
    Inv X pins σ (upd H l (.lst ys)) { s with heap := s.heap.update l (Obj.mapSeq f), toks := t' } := by
  have q := PySem.IsL.update e f
  rw [hf] at q
  refine I.write (x := l) (e := l) (by rw [hH]; exact trivial) (.inl rfl) (fun b' u hb hu => (Heap.get?_update_other s.heap (Obj.mapSeq f) (Ne.symm hb)).trans hu) ⟨_, q⟩ ?_
  exact ⟨hz, its', _, hv, q⟩
theorem Inv.lnew {its : List Value} {t' : Nat} (I : Inv X pins σ H s) (hv : Vals ys its) (hz : ys.length ≤ sizeLine) :
    Inv X pins σ (upd H s.heap.objs.size (.lst ys)) { s with heap := s.heap.push { cls := .type "list", data := .seq its.toArray }, toks := t' } :=
  I.laid (fun _ _ q => Heap.get?_push_of_some _ q) (Nat.le_refl _) ⟨hz, its, 0, hv, Heap.get?_push_size _ rfl⟩
theorem Inv.fresh (I : Inv X pins σ H s) : H s.heap.objs.size = none := I.hok.fresh (Nat.le_refl _)
theorem Inv.lstM (I : Inv X pins σ H s) (hH : H l = some (.lst xs)) : xs.length ≤ sizeLine ∧ ∃ (its : List Value) (n : Nat), Vals xs its ∧ xs.length = its.length ∧ s.heap.get? l = some { cls := .type "list", data := .seq its.toArray n } := by
  obtain ⟨z, its, n, r, e⟩ := I.hok l _ hH
  exact ⟨z, its, n, r, r.length, e⟩

theorem notLongL {n : Nat} (h : n ≤ sizeLine) : Builtin.List.listTooLong n = false := by
  unfold Builtin.List.listTooLong
  exact decide_eq_false (by omega)
end

section
variable {X : Cx}

/-! ### methods -/
def rAppend : V → List V → Hp → VK → Prop := fun x vs H Q => ∃ l xs y, x = .ref l ∧ vs = [y] ∧ H l = some (.lst xs) ∧ xs.length < sizeLine ∧ Q .non (upd H l (.lst (xs ++ [y])))
theorem mt_append : MtM X "list.append" rAppend := by
  intro pins s σ H x vs v us Q I rx rv h
  obtain ⟨l, xs, y, rfl, rfl, hH, hz, q⟩ := h
  cases rx
  obtain ⟨u, rfl, ru⟩ := rv.one
  obtain ⟨z, its, n, r, hl, e⟩ := I.lstM hH
  refine call_meets F.slot_list_append ⟨_, e, rfl⟩ F.entry_list_append (F.args_list_append_2 _ _) (PySem.list_append l its.toArray n u (by rw [List.size_toArray]; omega)) ⟨e, ?_⟩
  refine ⟨.non, _, I.lset (its' := its ++ [u]) hH e (by simp) (r.append (.cons ru .nil)) ?_, rfl, q⟩
  rw [List.length_append, List.length_singleton]
  omega

def rExtend : V → List V → Hp → VK → Prop := fun x vs H Q => ∃ l b xs zs, x = .ref l ∧ vs = [.ref b] ∧ H l = some (.lst xs) ∧ H b = some (.lst zs) ∧ xs.length + zs.length ≤ sizeLine ∧ Q .non (upd H l (.lst (xs ++ zs)))
theorem mt_extend : MtM X "list.extend" rExtend := by
  intro pins s σ H x vs v us Q I rx rv h
  obtain ⟨l, b, xs, zs, rfl, rfl, hH, hB, hz, q⟩ := h
  cases rx
  obtain ⟨u, rfl, ru⟩ := rv.one
  cases ru
  obtain ⟨z, its, n, r, hl, e⟩ := I.lstM hH
  obtain ⟨z2, its2, n2, r2, hl2, e2⟩ := I.lstM hB
  have hsz : its.toArray.size + its2.toArray.size ≤ sizeLine := by rw [List.size_toArray, List.size_toArray]; omega
  have hlong : ¬ (!its.toArray.isEmpty && Builtin.List.listTooLong (its.toArray.size + its2.toArray.size)) = true := by
    rw [notLongL hsz, Bool.and_false]
    exact Bool.false_ne_true
  refine call_meets F.slot_list_extend ⟨_, e, rfl⟩ F.entry_list_extend (F.args_list_extend_2 _ _)
    (AutoSeq1.list_extend_list_list_0 l its.toArray n b its2.toArray n2 hlong (by rw [List.size_toArray]; omega) (by omega)) ⟨e, e2, ?_⟩
  refine ⟨.non, _, I.lset (its' := its ++ its2) hH e (by simp) (r.append r2) ?_, rfl, q⟩
  rw [List.length_append]
  omega

def rPop : V → List V → Hp → VK → Prop := fun x vs H Q => ∃ l xs y, x = .ref l ∧ vs = [] ∧ H l = some (.lst xs) ∧ xs[xs.length - 1]? = some y ∧ Q y (upd H l (.lst xs.dropLast))
theorem mt_pop : MtM X "list.pop" rPop := by
  intro pins s σ H x vs v us Q I rx rv h
  obtain ⟨l, xs, y, rfl, rfl, hH, hy, q⟩ := h
  cases rx
  have hus := rv.zero
  subst hus
  obtain ⟨z, its, n, r, hl, e⟩ := I.lstM hH
  obtain ⟨u, hu, ru⟩ := r.get hy
  have hy' : its.toArray[its.toArray.size - 1]? = some u := by
    show its.toArray[its.length - 1]? = some u
    rw [← Array.getElem?_toList, ← hl]
    exact hu
  refine call_meets F.slot_list_pop ⟨_, e, rfl⟩ F.entry_list_pop (F.args_list_pop_1 _) (MeetsSeq.list_pop_last l its.toArray n u hy' (by rw [List.size_toArray]; omega)) ⟨e, ?_⟩
  refine ⟨y, _, I.lset (its' := its.dropLast) hH e ?_ r.dropLast ?_, ru, q⟩
  · show its.toArray.eraseIdxIfInBounds (its.toArray.size - 1) = its.dropLast.toArray
    rw [List.size_toArray, List.eraseIdxIfInBounds_toArray, erase_last]
  · rw [List.length_dropLast]
    omega

def rPopAt : V → List V → Hp → VK → Prop := fun x vs H Q => ∃ l xs i k y, x = .ref l ∧ vs = [.int i] ∧ H l = some (.lst xs) ∧ -(2 ^ 63) ≤ i ∧ i < 2 ^ 63 ∧ seqIndex? i xs.length = some k ∧ xs[k]? = some y ∧ Q y (upd H l (.lst (xs.eraseIdx k)))
theorem mt_popAt : MtM X "list.pop" rPopAt := by
  intro pins s σ H x vs v us Q I rx rv h
  obtain ⟨l, xs, i, k, y, rfl, rfl, hH, h1, h2, hk, hy, q⟩ := h
  cases rx
  obtain ⟨u, rfl, ru⟩ := rv.one
  obtain ⟨t, rfl⟩ := ru
  obtain ⟨z, its, n, r, hl, e⟩ := I.lstM hH
  obtain ⟨w, hw, rw'⟩ := r.get hy
  refine call_meets F.slot_list_pop ⟨_, e, rfl⟩ F.entry_list_pop (F.args_list_pop_2 _ _)
    (MeetsSeq.list_pop_at l its.toArray n i t k w (fitsIndex_both h1 h2) (by rw [List.size_toArray, ← hl]; exact hk) (by rw [← Array.getElem?_toList]; exact hw) (by rw [List.size_toArray]; omega)) ⟨e, ?_⟩
  refine ⟨y, _, I.lset (its' := its.eraseIdx k) hH e ?_ (r.eraseIdx k) ?_, rw', q⟩
  · show its.toArray.eraseIdxIfInBounds k = (its.eraseIdx k).toArray
    rw [List.eraseIdxIfInBounds_toArray]
  · have := len_erase xs k
    omega

def rReverse : V → List V → Hp → VK → Prop := fun x vs H Q => ∃ l xs, x = .ref l ∧ vs = [] ∧ H l = some (.lst xs) ∧ Q .non (upd H l (.lst xs.reverse))
theorem mt_reverse : MtM X "list.reverse" rReverse := by
  intro pins s σ H x vs v us Q I rx rv h
  obtain ⟨l, xs, rfl, rfl, hH, q⟩ := h
  cases rx
  have hus := rv.zero
  subst hus
  obtain ⟨z, its, n, r, hl, e⟩ := I.lstM hH
  refine call_meets F.slot_list_reverse ⟨_, e, rfl⟩ F.entry_list_reverse (F.args_list_reverse_1 _) (AutoSeq1.list_reverse_list_0 l its.toArray n (by rw [List.size_toArray]; omega)) ⟨e, ?_⟩
  refine ⟨.non, _, I.lset (its' := its.reverse) hH e (by simp) r.reverse ?_, rfl, q⟩
  rw [List.length_reverse]
  omega

def rClear : V → List V → Hp → VK → Prop := fun x vs H Q => ∃ l xs, x = .ref l ∧ vs = [] ∧ H l = some (.lst xs) ∧ Q .non (upd H l (.lst []))
theorem mt_clear : MtM X "list.clear" rClear := by
  intro pins s σ H x vs v us Q I rx rv h
  obtain ⟨l, xs, rfl, rfl, hH, q⟩ := h
  cases rx
  have hus := rv.zero
  subst hus
  obtain ⟨z, its, n, r, hl, e⟩ := I.lstM hH
  refine call_meets F.slot_list_clear ⟨_, e, rfl⟩ F.entry_list_clear (F.args_list_clear_1 _) (AutoSeq1.list_clear_list_0 l its.toArray n (by rw [List.size_toArray]; omega)) ⟨e, ?_⟩
  exact ⟨.non, _, I.lset (its' := []) (ys := []) hH e rfl .nil (Nat.zero_le _), rfl, q⟩

/-! ### list + list, list += list, list * int -/
def rCat : R2 := fun x y H Q => ∃ l b xs zs, x = .ref l ∧ y = .ref b ∧ H l = some (.lst xs) ∧ H b = some (.lst zs) ∧ xs.length + zs.length ≤ sizeLine ∧ ∀ p, H p = none → Q (.ref p) (upd H p (.lst (xs ++ zs)))
theorem op_cat : OpR X (binaryOp .Add) rCat := by
  intro pins s σ H x y v u Q I rx ry h
  obtain ⟨l, b, xs, zs, rfl, rfl, hH, hB, hz, q⟩ := h
  cases rx
  cases ry
  obtain ⟨z, its, n, r, hl, e⟩ := I.lstM hH
  obtain ⟨z2, its2, n2, r2, hl2, e2⟩ := I.lstM hB
  refine PySem.P.add_list e e2 ?_ (by rw [List.size_toArray, List.size_toArray]; omega)
  have ea : its.toArray ++ its2.toArray = (its ++ its2).toArray := by simp
  rw [ea]
  exact ⟨.ref _, _, I.lnew (t' := s.toks) (r.append r2) (by rw [List.length_append]; omega), rfl, q _ I.fresh⟩
/-- a list times an int (a negative one is nothing) -/
def rRep : R2 := fun x y H Q => ∃ l k xs, x = .ref l ∧ y = .int k ∧ H l = some (.lst xs) ∧ -(2 ^ 63) ≤ k ∧ k < 2 ^ 63 ∧ xs.length * k.toNat ≤ sizeLine ∧
  ∀ p, H p = none → Q (.ref p) (upd H p (.lst (List.replicate k.toNat xs).flatten))
theorem len_rep {α : Type} (xs : List α) (k : Nat) : (List.replicate k xs).flatten.length = k * xs.length := by
  induction k with
  | zero => simp
  | succ k ih => rw [List.replicate_succ, List.flatten_cons, List.length_append, ih, Nat.succ_mul, Nat.add_comm]
theorem op_rep : OpR X (binaryOp .Mult) rRep := by
  intro pins s σ H x y v u Q I rx ry h
  obtain ⟨l, k, xs, rfl, rfl, hH, h1, h2, hz, q⟩ := h
  cases rx
  obtain ⟨t, rfl⟩ := ry
  obtain ⟨z, its, n, r, hl, e⟩ := I.lstM hH
  have hlen : its.toArray.size * k.toNat ≤ sizeLine := by rw [List.size_toArray, ← hl]; exact hz
  have hcap : ¬ its.toArray.size * k.toNat > (2 ^ 63 - 1) / 8 := by
    have : (sizeLine : Nat) ≤ (2 ^ 63 - 1) / 8 := by decide
    omega
  have hfit : ¬ (!Builtin.List.listFitsIndex k) = true := by
    rw [fitsIndex_both h1 h2]
    exact Bool.false_ne_true
  have hlong : ¬ Builtin.List.listTooLong (its.toArray.size * k.toNat) = true := by
    rw [notLongL hlen]
    exact Bool.false_ne_true
  have hnew : List.foldl (fun x1 x2 => x1 ++ x2) #[] (List.replicate (if its.toArray.isEmpty = true then 0 else k.toNat) its.toArray) = (List.replicate k.toNat its).flatten.toArray := by
    have f0 : ∀ m : Nat, List.foldl (fun x1 x2 => x1 ++ x2) #[] (List.replicate m its.toArray) = (List.replicate m its).flatten.toArray := fun m => by
      have := foldl_rep its m []
      rw [List.nil_append] at this
      exact this
    rw [f0]
    cases its with
    | nil => simp
    | cons a r' => rw [if_neg (by simp)]
  refine wpAny_binaryOp_repeat_ref (T := "list") (U := "int") (by decide) ⟨_, e, rfl⟩ (fun s' => typeIs_int s' k t) noFill_list_mul F.fills_int_mul F.slot_int_rmul repeat_list F.slot_int_index.lookup
    (call_meets F.slot_int_rmul (typeIs_int s k t) F.entry_int_rmul (F.args_int_rmul_2 _ _) (int___rmul___int_list k t l its.toArray n)
      ⟨e, rfl, ⟨_, e, rfl⟩, call_meets F.slot_list_mul ⟨_, e, rfl⟩ F.entry_list_mul (F.args_list_mul_2 _ _) (AutoListH.list___mul___list_int_3 l its.toArray n k t hfit hcap hlong) ⟨e, ?_⟩⟩)
  rw [hnew]
  exact ⟨.ref _, _, I.lnew (t' := s.toks) (r.rep k.toNat) (by rw [len_rep, Nat.mul_comm]; exact hz), rfl, q _ I.fresh⟩

/-! ### del xs[i] -/
theorem del_list {pins : List (Addr × Obj)} {s : Shared} {σ : St} {H : Hp} {l : Addr} {xs : List V} {i : Int} {t : Tok} {k : Nat} {Q : Unit → Shared → Prop} (I : Inv X pins σ H s) (hH : H l = some (.lst xs))
    (h1 : -(2 ^ 63) ≤ i) (h2 : i < 2 ^ 63) (hk : seqIndex? i xs.length = some k) (h : ∀ s', Inv X pins σ (upd H l (.lst (xs.eraseIdx k))) s' → Q () s') :
    wpAny (model X.prog X.w) X.A (delItem (.ref l) (.int i t)) Q X.xe s := by
  obtain ⟨z, its, n, r, hl, e⟩ := I.lstM hH
  refine PySem.P.delItem_list (k := k) e (fitsIndex_both h1 h2) (by rw [List.size_toArray, ← hl]; exact hk) (h _ ?_) (by rw [List.size_toArray]; omega)
  refine I.lset (its' := its.eraseIdx k) (t' := s.toks) hH e ?_ (r.eraseIdx k) ?_
  · show its.toArray.eraseIdxIfInBounds k = (its.eraseIdx k).toArray
    rw [List.eraseIdxIfInBounds_toArray]
  · have := len_erase xs k
    omega
end

/-! ### xs[a:b] = ys -/
section
variable {prog : Program} {w : World} {A : Around} {E : Value → Shared → Prop} {s : Shared}
theorem splice_eq (its its2 : List Value) (a c : Nat) : its.toArray.extract 0 a ++ its2.toArray ++ its.toArray.extract c its.toArray.size = (its.take a ++ its2 ++ its.drop c).toArray := by
  apply Array.toList_inj.mp
  first
    | (simp
       exact List.take_of_length_le (by simp))
    | simp [List.take_of_length_le]
    | simp
theorem bounds_run {a c n : Nat} (hac : a ≤ c) (hc : c ≤ n) : sliceBounds (some (a : Int)) (some (c : Int)) none n = ((a : Int), (c : Int), 1) := by
  simp only [sliceBounds, Option.getD_none]
  have h1 : ¬ ((a : Int) < 0) := by omega
  have h2 : ¬ ((c : Int) < 0) := by omega
  simp only [h1, h2, if_false, show (1 : Int) > 0 by decide, if_true]
  congr 1
  · omega
  · congr 1; omega
set_option maxRecDepth 100000 in
/-- list.__setitem__ with a slice of step one and another list -/
theorem setItem_slice {l b sl : Addr} {items new : Array Value} {n n2 : Nat} {vl vu : Value} {a c : Nat} {Q : Unit → Shared → Prop}
    (e : s.heap.get? l = some { cls := .type "list", data := .seq items n }) (e2 : s.heap.get? b = some { cls := .type "list", data := .seq new n2 }) (hne : l ≠ b)
    (hs : s.heap.IsSliceOf sl vl vu .none) (pl : IsPart vl (some (a : Int))) (pu : IsPart vu (some (c : Int))) (hac : a ≤ c) (hc : c ≤ items.size)
    (hsz : items.size + new.size ≤ sizeLine) (h : Q () { s with heap := s.heap.update l (Obj.mapSeq fun xs => xs.extract 0 a ++ new ++ xs.extract c xs.size) }) :
    wpAny (model prog w) A (setItem (.ref l) (.ref sl) (.ref b)) Q E s := by
  have hl : s.heap.IsList l items := PySem.IsL.isList e
  have hb : s.heap.IsList b new := PySem.IsL.isList e2
  obtain ⟨os, hos, hcs, hds⟩ := id hs
  have hTs : s.TypeIs (.ref sl) "slice" := ⟨os, hos, hcs⟩
  have hstep : ¬ ((rawPart none == rawInt 0) = true) := Bool.false_ne_true
  have hsame : Builtin.List.listSameRef (.ref l) (.ref b) = false := by
    unfold Builtin.List.listSameRef
    exact beq_eq_false_iff_ne.mpr hne
  have hmax : (max (a : Int) (c : Int)).toNat = c := by omega
  have hz' : ((fun xs : Array Value => xs.extract 0 a ++ new ++ xs.extract c xs.size) items).size ≤ sizeLine + 1 := by
    simp only [Array.size_append, Array.size_extract]
    omega
  unfold setItem
  try with_reducible refine wpAny_holding ?_
  first | refine wpAny_bind (wpAny_pure ?_) | skip
  refine wpAny_bind (wpAny_sequenceKey hl.typeIs (by decide) ?_)
  refine wpAny_bind (wpAny_callSpecial?_slot (name := Str.ofString "__setitem__") hl.typeIs slot_list_setitem
    (wpAny_call_entry slot_list_setitem hl.typeIs entry_list_setitem ?_ (args_list_setitem _ _ _)))
  show wpAny _ _ (Builtin.List.listSubscript? (.ref sl) >>= _) _ _ s
  refine wpAny_bind ?_
  unfold Builtin.List.listSubscript?
  refine wpAny_bind (wpAny_specialOf hTs slice_no_index ?_)
  simp only [Option.isNone_none, if_true]
  refine wpAny_pure ?_
  show wpAny _ _ (typeOf (.ref sl) >>= _) _ _ s
  refine wpAny_bind (wpAny_typeOf hTs ?_)
  first
    | rw [if_neg (by decide)]
    | refine PySem.W.KFB.if_not (by decide) ?_
  rw [listSliceParts_eq]
  refine wpAny_bind (wpAny_bind (wpAny_field hos hds (x := .none) rfl (wpAny_bind (wpAny_listPart .none ?_))))
  rw [if_neg hstep]
  refine wpAny_bind (wpAny_field hos hds (x := vl) rfl (wpAny_bind (wpAny_listPart pl ?_)))
  refine wpAny_bind (wpAny_field hos hds (x := vu) rfl (wpAny_bind (wpAny_listPart pu (wpAny_pure ?_))))
  first
    | simp only [hsame, Bool.false_eq_true, if_false]
    | refine PySem.W.KFB.if_not hsame ?_
    | (dsimp only
       rw [if_neg (by rw [hsame]; exact Bool.false_ne_true)])
  refine wpAny_bind (m := Builtin.List.listAllItems (.ref b) "must assign iterable to extended slice") ?_
  unfold Builtin.List.listAllItems
  refine wpAny_bind (wpAny_typeOf hb.typeIs ?_)
  first
    | refine PySem.W.KFB.if_so (by decide) ?_
    | rw [if_pos (by decide)]
    | simp only [beq_self_eq_true, Bool.true_or, if_true]
  unfold Builtin.List.listItems
  refine wpAny_bind (wpAny_seqItems e2 rfl (wpAny_pure ?_))
  refine wpAny_bind (wpAny_bind (wpAny_seqItems e rfl (wpAny_pure ?_)))
  refine wpAny_bind (wpAny_of_eq ((sliceIndices_raw (some (a : Int)) (some (c : Int)) none items.size (by simp)).trans (congrArg (pure : Int × Int × Int → Sem (Int × Int × Int)) (bounds_run hac hc))) ?_)
  show wpAny _ _ (if ((1 : Int) == 1) = true then _ else _) _ _ s
  rw [if_pos (by decide)]
  refine wpAny_bind (wpAny_rule ?_)
  first
    | simp only [notLongL hsz, Bool.false_eq_true, if_false]
    | refine PySem.W.KFB.if_not (notLongL hsz) ?_
  first | refine wpAny_bind (wpAny_pure ?_) | skip
  show wpAny _ _ (updateSeq l (fun xs => xs.extract 0 ((a : Int)).toNat ++ new ++ xs.extract (max (a : Int) (c : Int)).toNat xs.size) >>= _) _ _ s
  rw [hmax, Int.toNat_natCast]
  refine wpAny_bind (wpAny_updateSeq (hz := Nat.le_trans (Nat.le_add_right _ _) hsz) (_hz' := hz') e rfl ?_)
  refine wpAny_bind (wpAny_letGo ?_)
  first
    | exact wpAny_bind (wpAny_pure (wpAny_pure ⟨.none, rfl, wpAny_pure h⟩))
    | exact wpAny_pure ⟨.none, rfl, wpAny_pure h⟩
end

section
variable {X : Cx}
/-- xs[a:c] = ys of another list, at the value level: sl is the slice object that was just made -/
theorem set_slice {pins : List (Addr × Obj)} {s : Shared} {σ : St} {H : Hp} {l b sl : Addr} {xs ys : List V} {a c : Int} {vl vu : Value} {Q : Unit → Shared → Prop} (I : Inv X pins σ H s)
    (hH : H l = some (.lst xs)) (hB : H b = some (.lst ys)) (hne : l ≠ b) (hs : s.heap.IsSliceOf sl vl vu .none) (ra : RelV (.int a) vl) (rc : RelV (.int c) vu) (h0 : 0 ≤ a) (hac : a ≤ c) (hc : c ≤ xs.length)
    (hz : xs.length + ys.length ≤ sizeLine) (h : ∀ s', Inv X pins σ (upd H l (.lst (xs.take a.toNat ++ ys ++ xs.drop c.toNat))) s' → Q () s') :
    wpAny (model X.prog X.w) X.A (setItem (.ref l) (.ref sl) (.ref b)) Q X.xe s := by
  obtain ⟨ta, rfl⟩ := ra
  obtain ⟨tc, rfl⟩ := rc
  obtain ⟨z, its, n, r, hl, e⟩ := I.lstM hH
  obtain ⟨z2, its2, n2, r2, hl2, e2⟩ := I.lstM hB
  obtain ⟨a', rfl⟩ := Int.eq_ofNat_of_zero_le h0
  obtain ⟨c', rfl⟩ := Int.eq_ofNat_of_zero_le (Int.le_trans h0 hac)
  simp only [Int.toNat_natCast] at h
  refine setItem_slice (a := a') (c := c') e e2 hne hs (.int _ _) (.int _ _) (by omega) (by rw [List.size_toArray]; omega) (by rw [List.size_toArray, List.size_toArray]; omega) (h _ ?_)
  refine I.lset (its' := its.take a' ++ its2 ++ its.drop c') (t' := s.toks) hH e ?_ (Vals.append (Vals.append (r.take _) r2) (r.drop _)) ?_
  · exact splice_eq its its2 a' c'
  · rw [List.length_append, List.length_append, List.length_take, List.length_drop]
    omega
end
end L2

namespace Att
open PySem PySem.W PySem.Calls PyProof.Rows

/-! ### the script -/
theorem ints_of_wellAll {P : Params} {h : Heap} : ∀ (ns : List Int) (vs : List Value), WellAll P h vs (ns.map WData.int) → IntsAre vs ns := by
  intro ns
  induction ns with
  | nil =>
    intro vs w
    rw [List.map_nil] at w
    cases w
    exact .nil
  | cons n ns ih =>
    intro vs w
    rw [List.map_cons] at w
    cases w with
    | cons a b =>
      cases a
      exact .cons _ _ (ih _ b)

theorem script_of {l : OpenLaw} {n : Nat} (hn : l.most = some n) {P : Params} {h : Heap} {args : List WData} {vals : List Value}
    (hpre : l.row.toRowW.claim.pre args = true) (hwl : WellAll P h vals args) :
    ∃ a vs ns, vals = [Value.ref a] ∧ args = [WData.list (ns.map WData.int)] ∧ h.get? a = some { cls := .type "list", data := .seq vs.toArray } ∧ IntsAre vs ns ∧ ns.length ≤ n := by
  have hsh : WShape.hasAll [] args [.list .int] = true := (pre_splitW hpre).1
  have hc : l.pre.holds [] { args := args } = true := (pre_splitW hpre).2
  obtain ⟨d, r, rfl, h1, h2⟩ := hasAllW_cons hsh
  obtain rfl := hasAllW_nil h2
  obtain ⟨xs, rfl, h3⟩ := hasW_list h1
  obtain ⟨ns, rfl⟩ := items_int h3
  have hlen : ns.length ≤ n := by
    unfold OpenLaw.pre at hc
    have h4 : (WTm.not (.lt (.lit (.int (n : Int))) (.len (.arg 0)))).holds [] { args := [.list (ns.map .int)] } = true := by
      have h4 := (holds_andW hc).1
      rw [hn] at h4
      exact h4
    have h5 := condW_of h4 (w_not (w_lt w_lit (w_len_list (w_arg rfl))))
    rw [List.length_map] at h5
    refine Nat.le_of_not_lt fun q => ?_
    have q' : (n : Int) < ((ns.length : Nat) : Int) := by omega
    first
      | (rw [decide_eq_true q'] at h5; exact absurd h5 (by decide))
      | (simp at h5; omega)
  cases hwl with
  | cons w1 w2 =>
    cases w2
    cases w1 with
    | list ho hall => exact ⟨_, _, ns, rfl, rfl, ho, ints_of_wellAll ns _ hall, hlen⟩

theorem post_true (l : OpenLaw) (args : List WData) : l.row.toRowW.claim.post args (.bool true) args = true :=
  postW_of (r := l.row.toRowW) (X := (true == true))
    (show WShape.has [] (.bool true) .bool = true by first | rfl | decide | simp [WShape.has, WShape.arms, WShape.armsAll])
    (show (WTm.eq .res (.lit (.bool true))).value [] { args := args, res := some (.bool true), after := args } = some (.bool (true == true)) from w_eq_bool (w_res rfl) w_lit) rfl

/-! ### the attachment: holds_open's last premise (the goal 'hc' behind k_head) from a wpAny of the law's body -/
theorem attach {l : OpenLaw} {n : Nat} {q : Program} {loose : List Str} {XP : (Str → Option Value) → Heap → Prop} {YP : World → Heap → Prop} {d : DefRec} {x : Str}
    (hn : l.most = some n) (hdf : d.params.defaults = [])
    (hbind : ∀ pm cd doc v : Value, bindArgs (docDef d.name d.params d.body d.scope pm cd doc) ⟨[v], []⟩ = pure [(x, v)])
    (hx : d.scope.names.lookup x = some .local ∨ d.scope.names.lookup x = some .cell)
    (hk : d.scope.kind = .function) (hco : d.scope.isCoroutine = false) (hgen : d.scope.isGenerator = false)
    (body : ∀ (w : World) (s₀ s₁ s : Shared) (mg mb : Str → Option Value) (fa : Addr) (o : Obj) (pm cd doc : Value) (a : Addr) (vs : List Value) (ns : List Int),
      Ground q loose [] XP w s₀ mg mb s₁.heap → YP w s₁.heap →
      s₁.heap.get? fa = some o → o.data = .func (docDef d.name d.params d.body d.scope pm cd doc) → s₁.heap.CodeRec cd d.name → mg d.name = some (.ref fa) →
      s₁.heap.get? a = some { cls := .type "list", data := .seq vs.toArray } → IntsAre vs ns → ns.length ≤ n →
      s.gens = #[] → s.os = s₁.os →
      Fr s₁.heap s₁.heap.objs.size s.heap (bindL (envOfC d.name d.scope s₁.heap.objs.size fa cd).kindOf [(x, .ref a)] fun _ => none) →
      Cl s₁.heap.objs.size (cellsFrom (s₁.heap.objs.size + 1) d.scope.names []) s.heap (bindC (envOfC d.name d.scope s₁.heap.objs.size fa cd).kindOf [(x, .ref a)] fun _ => none) →
      wpAny (model l.prog w) (callerA.deeper (envOfC d.name d.scope s₁.heap.objs.size fa cd)) (execs d.body (envOfC d.name d.scope s₁.heap.objs.size fa cd))
        (fun f s' => f = .ret (.bool true) ∧ OldK s₁.heap s'.heap ∧ s'.os = s₁.os ∧ AllBare s'.gens) (fun _ _ => False) s) :
    WalkO q loose XP YP l.row.toRowW d [] (fun f vs => PySem.call f vs) := by
  intro w s₀ s₁ mg mb G Y fa o pm cd doc dV kV ho hd hcd hD hmg hg args vals as hpre hlay hrd hwl hlo
  obtain rfl : dV = .none := Dflts.none hD hdf
  obtain rfl : kV = .none := Dflts.noKw hD
  obtain ⟨a, vs, ns, rfl, rfl, hobj, hints, hlen⟩ := script_of hn hpre hwl
  refine enter_call ?_
  refine call_cells_ret (o := o) (by rw [depth_caller]; decide) ho (fd_plain hd) G.T.nolimit hcd (hbind pm cd doc (.ref a)) (fun y hy => ?_) (fun h₁ tk F X => ?_) hco hgen hk
  · obtain rfl : y = (x, Value.ref a) := List.mem_singleton.mp hy
    rcases hx with e | e
    · exact .inl e
    · exact .inr ⟨e, cellsFrom_some _ _ _ (.inl e)⟩
  · refine wpAny_mono (body w s₀ s₁ { s₁ with heap := h₁, toks := tk } mg mb fa o pm cd doc a vs ns G Y ho (fd_plain hd) hcd hmg hobj hints hlen hg rfl F X) (fun f s' hq => ?_) (fun _ _ hq => hq)
    obtain ⟨rfl, h2, h3, h4⟩ := hq
    exact ⟨.inl ⟨.bool true, .bool true, [], rfl, fun _ => rfl, .bool true, post_true l _, fun _ => ⟨List.Pairwise.nil, fun _ hm => (nomatch hm)⟩⟩, h2, h3, h4⟩

/-- the same from a codeAny of the CALL (for a layer whose function contracts speak of calls) -/
theorem attach_call {l : OpenLaw} {n : Nat} {q : Program} {loose : List Str} {XP : (Str → Option Value) → Heap → Prop} {YP : World → Heap → Prop} {d : DefRec}
    (hn : l.most = some n) (hdf : d.params.defaults = [])
    (call : ∀ (w : World) (s₀ s₁ : Shared) (mg mb : Str → Option Value) (fa : Addr) (o : Obj) (pm cd doc : Value) (a : Addr) (vs : List Value) (ns : List Int),
      Ground q loose [] XP w s₀ mg mb s₁.heap → YP w s₁.heap →
      s₁.heap.get? fa = some o → o.data = .func (docDef d.name d.params d.body d.scope pm cd doc) → s₁.heap.CodeRec cd d.name → mg d.name = some (.ref fa) →
      s₁.heap.get? a = some { cls := .type "list", data := .seq vs.toArray } → IntsAre vs ns → ns.length ≤ n → s₁.gens = #[] →
      codeAny (model l.prog w) callerA (.call (.ref fa) ⟨[.ref a], []⟩) (fun r s' => r = .ok (.ret (.bool true)) ∧ OldK s₁.heap s'.heap ∧ s'.os = s₁.os ∧ AllBare s'.gens) s₁) :
    WalkO q loose XP YP l.row.toRowW d [] (fun f vs => PySem.call f vs) := by
  intro w s₀ s₁ mg mb G Y fa o pm cd doc dV kV ho hd hcd hD hmg hg args vals as hpre hlay hrd hwl hlo
  obtain rfl : dV = .none := Dflts.none hD hdf
  obtain rfl : kV = .none := Dflts.noKw hD
  obtain ⟨a, vs, ns, rfl, rfl, hobj, hints, hlen⟩ := script_of hn hpre hwl
  refine enter_call (codeAny_mono (call w s₀ s₁ mg mb fa o pm cd doc a vs ns G Y ho (fd_plain hd) hcd hmg hobj hints hlen hg) fun r s' hq => ?_)
  obtain ⟨rfl, h2, h3, h4⟩ := hq
  exact ⟨.inl ⟨.bool true, .bool true, [], rfl, fun _ => rfl, .bool true, post_true l _, fun _ => ⟨List.Pairwise.nil, fun _ hm => (nomatch hm)⟩⟩, h2, h3, h4⟩

/-- the same where the top left finished generators (o_head chose holds_openN): nothing may have changed at all and no generator may be left -/
theorem attachN {l : OpenLaw} {n : Nat} {q : Program} {loose : List Str} {XP : (Str → Option Value) → Heap → Prop} {YP : World → Heap → Prop} {d : DefRec} {x : Str}
    (hn : l.most = some n) (hdf : d.params.defaults = [])
    (hbind : ∀ pm cd doc v : Value, bindArgs (docDef d.name d.params d.body d.scope pm cd doc) ⟨[v], []⟩ = pure [(x, v)])
    (hx : d.scope.names.lookup x = some .local ∨ d.scope.names.lookup x = some .cell)
    (hk : d.scope.kind = .function) (hco : d.scope.isCoroutine = false) (hgen : d.scope.isGenerator = false)
    (body : ∀ (w : World) (s₀ s₁ s : Shared) (mg mb : Str → Option Value) (fa : Addr) (o : Obj) (pm cd doc : Value) (a : Addr) (vs : List Value) (ns : List Int),
      Ground q loose [] XP w s₀ mg mb s₁.heap → YP w s₁.heap →
      s₁.heap.get? fa = some o → o.data = .func (docDef d.name d.params d.body d.scope pm cd doc) → s₁.heap.CodeRec cd d.name → mg d.name = some (.ref fa) →
      s₁.heap.get? a = some { cls := .type "list", data := .seq vs.toArray } → IntsAre vs ns → ns.length ≤ n →
      s.gens = #[] → s.os = s₁.os →
      Fr s₁.heap s₁.heap.objs.size s.heap (bindL (envOfC d.name d.scope s₁.heap.objs.size fa cd).kindOf [(x, .ref a)] fun _ => none) →
      Cl s₁.heap.objs.size (cellsFrom (s₁.heap.objs.size + 1) d.scope.names []) s.heap (bindC (envOfC d.name d.scope s₁.heap.objs.size fa cd).kindOf [(x, .ref a)] fun _ => none) →
      wpAny (model l.prog w) (callerA.deeper (envOfC d.name d.scope s₁.heap.objs.size fa cd)) (execs d.body (envOfC d.name d.scope s₁.heap.objs.size fa cd))
        (fun f s' => f = .ret (.bool true) ∧ (∀ b o, s₁.heap.get? b = some o → s'.heap.get? b = some o) ∧ s'.os = s₁.os ∧ s'.gens = #[]) (fun _ _ => False) s) :
    WalkN q loose XP YP l.row.toRowW d [] (fun f vs => PySem.call f vs) := by
  intro w s₀ s₁ mg mb G Y fa o pm cd doc dV kV ho hd hcd hD hmg hg args vals as hpre hlay hrd hwl hlo
  obtain rfl : dV = .none := Dflts.none hD hdf
  obtain rfl : kV = .none := Dflts.noKw hD
  obtain ⟨a, vs, ns, rfl, rfl, hobj, hints, hlen⟩ := script_of hn hpre hwl
  refine enter_callW ?_
  refine call_cells_ret (o := o) (by rw [depth_caller]; decide) ho (fd_plain hd) G.T.nolimit hcd (hbind pm cd doc (.ref a)) (fun y hy => ?_) (fun h₁ tk F X => ?_) hco hgen hk
  · obtain rfl : y = (x, Value.ref a) := List.mem_singleton.mp hy
    rcases hx with e | e
    · exact .inl e
    · exact .inr ⟨e, cellsFrom_some _ _ _ (.inl e)⟩
  · refine wpAny_mono (body w s₀ s₁ { s₁ with heap := h₁, toks := tk } mg mb fa o pm cd doc a vs ns G Y ho (fd_plain hd) hcd hmg hobj hints hlen hg rfl F X) (fun f s' hq => ?_) (fun _ _ hq => hq)
    obtain ⟨rfl, h2, h3, h4⟩ := hq
    exact ⟨.inl ⟨.bool true, .bool true, [], rfl, fun _ => rfl, .bool true, post_true l _, fun _ => ⟨List.Pairwise.nil, fun _ hm => (nomatch hm)⟩⟩, h2, h3, h4⟩

/-! ### rules over ANY heap (no ledger) from facts about the written part K: the library's own take a ledger (News) for what they write -/
section
variable {prog : Program} {w : World} {A : Around} {E : Value → Shared → Prop} {s : Shared} {K : Frag}

/-- a def of the module, or a method (qual 'C.m'), entered: the frame is the next address; cells behind it -/
theorem call_fn {R : Result → Shared → Prop} {name qual : Str} {params : Arguments} {body : List Stmt} {scope : Scope} {dV kV doc pm cdv ct oc : Value} {an od : Option Addr} {osl : Array (Option Value)} {f : Addr} {args : Args} {binds : List (Str × Value)}
    (X : K.In s.heap) (hlim : s.heap.NoLimit) (ho : K.lookup f = some ⟨oc, od, .func (fnOf name qual params body scope dV kV doc pm an cdv ct), osl⟩) (hcd : codeIn K cdv qual = true) (hroom : A.depth < recursionLimit)
    (hbind : BindsTo s (fnOf name qual params body scope dV kV doc pm an cdv ct) args binds)
    (hkind : (binds.all fun y => scope.names.lookup y.1 == some .local || scope.names.lookup y.1 == some .cell) = true)
    (h : ∀ s₁, InCallC s s.heap.objs.size (bindL (envOfC qual scope s.heap.objs.size f cdv).kindOf binds fun _ => none) (cellsFrom (s.heap.objs.size + 1) scope.names [])
        (bindC (envOfC qual scope s.heap.objs.size f cdv).kindOf binds fun _ => none) s₁ →
      wpAny (model prog w) (A.deeper (envOfC qual scope s.heap.objs.size f cdv)) (execs body (envOfC qual scope s.heap.objs.size f cdv))
        (fun fl s' => R (.ok (.ret (match fl with | .ret v => v | _ => .none))) s')
        (fun e s' => wpAny (model prog w) (A.deeper (envOfC qual scope s.heap.objs.size f cdv)) (leaving (envOfC qual scope s.heap.objs.size f cdv) e) (fun _ s'' => R (.error e) s'') (fun e' s'' => R (.error e') s'') s') s₁)
    (hco : scope.isCoroutine = false) (hgen : scope.isGenerator = false) (hk : scope.kind = .function) : codeAny (model prog w) A (.call (.ref f) args) R s := by
  refine codeAny_call_function hroom (X _ _ ho) rfl hco hgen rfl (codeRec_of X hcd) (hbind _ _ _ _ ?_)
  refine wpAny_newFunctionEnv_cells hk (kindsX hkind _) fun env he s₁ x => ?_
  subst he
  exact ⟨hlim.keeps x.toInCall.keep, codeAny_func (h s₁ x)⟩

/-- C(..): dict at size, instance at size + 1, then __init__ -/
theorem make_obj {R : Result → Shared → Prop} {C fI : Addr} {rest : List Value} {kw : List (Str × Value)}
    (X : K.In s.heap) (hm : makesIn K C = true) (hi : findIn K (.ref C) "__init__" = some (some (.ref fI))) (hf : isFn K (.ref fI) = true)
    (h : codeAny (model prog w) (A.under (.builtin "type.__call__" ⟨.ref C :: rest, kw⟩)) (.call (.ref fI) ⟨.ref (s.heap.objs.size + 1) :: rest, kw⟩) (InitBack (s.heap.objs.size + 1) R)
      { s with heap := (s.heap.push emptyDict).push (instObj C s.heap.objs.size) }) : codeAny (model prog w) A (.call (.ref C) ⟨rest, kw⟩) R s := by
  obtain ⟨hh, g, d, t, os⟩ := s
  exact make_core (makes_of X hm) (looks_findIn X hi) (fun self => bind_fn X self (beq_iff_eq.mp hf)) (.inl rfl) h

/-- x.name where the instance's dict holds the name and the class does not -/
theorem get_field {x C : Addr} {ox : Obj} {es : List DictEntry} {n : Nat} {name : Str} {expr : Bool} {v : Value} {Q : Value → Shared → Prop}
    (X : K.In s.heap) (I : PySem.W.InstAt s.heap x ox C (some (dictOf es n))) (hg : plainGet K C name = true) (hh : hasDictIn K C = true) (ha : findIn K (.ref C) name = some none)
    (hl : getL name es = some (some v)) (hv : handedIn v = true) (h : Q v { s with toks := s.toks + 1 }) : wpAny (model prog w) A (getAttr (.ref x) name expr) Q E s :=
  get_value X I (plainGet_of hg).1 (findObj_own hh ha rfl hl) hv h

/-- x.m(..): the method found in the class -/
theorem get_method {x C f : Addr} {ox : Obj} {es : List DictEntry} {n : Nat} {name : Str} {pl : Sem Bool} {Q : Value × List Value → Shared → Prop}
    (X : K.In s.heap) (I : PySem.W.InstAt s.heap x ox C (some (dictOf es n))) (hg : plainGet K C name = true) (hf : findIn K (.ref C) name = some (some (.ref f))) (ht : isFn K (.ref f) = true)
    (hl : getL name es = some none) (h : Q (.ref f, [.ref x]) s) : wpAny (model prog w) A (getMethod (.ref x) name pl) Q E s :=
  method_fn X I (plainGet_of hg).1 (plainGet_of hg).2 hf (beq_iff_eq.mp ht) (by show (lookIn name (dictOf es n)).map _ = _; rw [lookIn_dict, hl]; rfl) h

/-! the whole heap as the ledger: makes every rule that writes through a ledger a rule over any heap -/
def noObjs (h : Heap) : Heap := { h with objs := #[] }
theorem noObjs_get (h : Heap) (b : Addr) : (noObjs h).get? b = none := by
  cases e : (noObjs h).get? b with
  | none => rfl
  | some o => exact absurd (Heap.lt_size e) (Nat.not_lt_zero _)
def ledger (h : Heap) (L d : Addr) : List (Addr × Obj) := (List.range h.objs.size).filterMap fun a => if a = L ∨ a = d then none else (h.get? a).map fun o => (a, o)
theorem mem_ledger {h : Heap} {L d a : Addr} {o : Obj} : (a, o) ∈ ledger h L d ↔ a ≠ L ∧ a ≠ d ∧ h.get? a = some o := by
  unfold ledger
  rw [List.mem_filterMap]
  constructor
  · rintro ⟨b, _, e⟩
    split at e
    · cases e
    · rename_i hb
      obtain ⟨o', ho, e'⟩ := Option.map_eq_some_iff.mp e
      cases e'
      exact ⟨fun q => hb (.inl q), fun q => hb (.inr q), ho⟩
  · rintro ⟨n1, n2, ho⟩
    refine ⟨a, List.mem_range.mpr (Heap.lt_size ho), ?_⟩
    rw [if_neg (show ¬ (a = L ∨ a = d) from fun q => q.elim n1 n2), ho] <;> rfl
theorem news_ledger {h : Heap} {L d : Addr} {od : Obj} (hne : d ≠ L) (ho : h.get? d = some od) : News (noObjs h) L h ([] ++ (d, od) :: ledger h L d) := by
  rintro ⟨a, o⟩ hp
  rcases List.mem_cons.mp hp with e | hp
  · cases e
    exact ⟨ho, hne, noObjs_get _ _⟩
  · obtain ⟨n1, n2, e⟩ := mem_ledger.mp hp
    exact ⟨e, n1, noObjs_get _ _⟩
theorem fr_all {h : Heap} {L : Addr} {m : Str → Option Value} (n : h.Ns L m) : Fr (noObjs h) L h m :=
  ⟨n, fun b o e => (by rw [noObjs_get] at e; cases e), Nat.zero_le _⟩
/-- Upd of the head entry (for append_K, setItem_K ..) -/
theorem upd_ledger {h : Heap} {L d : Addr} {o o' : Obj} : Upd d o o' ((d, o) :: ledger h L d) ((d, o') :: ledger h L d) :=
  .head fun ⟨_, _⟩ hp => (mem_ledger.mp hp).2.1

/-- x.name = v over any heap: L is any namespace of the heap (the frame's, say): its map stays, its object is not told; all else but the dict stays -/
theorem set_field {x C dx L : Addr} {ox : Obj} {m : Str → Option Value} {es es' : List DictEntry} {n n' : Nat} {name : Str} {v : Value} {Q : Unit → Shared → Prop}
    (X : K.In s.heap) (I : PySem.W.InstAt s.heap x ox C (some (dictOf es n))) (hd : ox.dict = some dx) (hL : s.heap.Ns L m) (hne : dx ≠ L)
    (hs : findIn K (.ref C) "__setattr__" = some (some (.builtin "object.__setattr__"))) (hp : plainOver K C = true) (ht : takerIn K C name = some none) (hh : hasDictIn K C = true) (hl : (getL name es).isSome = true)
    (e : (putL name (PyData.keyHash w.params name) (.str name (s.toks + 1)) v es, putN name es n) = (es', n')) (hz : es'.length ≤ 1000)
    (h : ∀ h' : Heap, h'.Ns L m → h'.get? dx = some (dictOf es' n') → (∀ b o, b ≠ dx → b ≠ L → s.heap.get? b = some o → h'.get? b = some o) → Q () { s with heap := h', toks := s.toks + 2 }) :
    wpAny (model prog w) A (setAttr (.ref x) name v) Q E s := by
  obtain ⟨e1, e2⟩ := Prod.mk.inj e
  have hdx : s.heap.get? dx = some (dictOf es n) := by
    have := I.dict
    rw [hd] at this
    exact this
  refine set_plain X I hs (osa_dict (s := { s with toks := s.toks + 1 }) (h₀ := noObjs s.heap) (L := L) (m := m) (od := dictOf es n) (od' := dictOf es' n') (es := es') (n := n') (pre := []) (post := ledger s.heap L dx)
    (fr_all hL) (news_ledger hne hdx) X I hd hp ht hh hl (fun _ q => nomatch q) (fun ⟨_, _⟩ q => (mem_ledger.mp q).2.1) (by rw [putName_dict, e1, e2]) rfl hz fun h' F' N' => ?_)
  exact h h' F'.ns (N'.get (List.Mem.head _)) fun b o n1 n2 ho => N'.get (List.Mem.tail _ (mem_ledger.mpr ⟨n2, n1, ho⟩))
end
end Att

namespace L2
open PySem PySem.Spec PyProof.Rows

theorem vals_ints : ∀ {vs : List Value} {ns : List Int}, IntsAre vs ns → Vals (ns.map V.int) vs
  | _, _, .nil => .nil
  | _, _, .cons n t h => .cons ⟨t, rfl⟩ (vals_ints h)

/-- nothing is tracked but the script, known to the object (or it is an object of the module) -/
def Only (H : Hp) : Prop := ∀ b, H b = none ∨ ∃ o xs, H b = some (.frz o (.lst xs))

/-- THE HEAD: the law's promise, at the heap behind the top. F, the promise of the law's def, may use that base is part of the heap (so K.In base, base.Ns mainGlobals mg stand in Mod) -/
theorem law_call {P : Program} {w : World} {K : PySem.W.Frag} {mg mb : Str → Option Value} {CX : CXT} {k : Nat} {fa a : Addr} {fd : FuncData} {x : Str} {sp : Sp} {s₁ : Shared} {vs : List Value} {ns : List Int}
    (KX : K.In s₁.heap) (hns : s₁.heap.Ns mainGlobals mg) (hb : s₁.heap.Ns builtinsNs mb) (hbb : ∀ x : Str, x ≠ "__name__" → mb x = bootBuiltins x) (hlim : s₁.heap.NoLimit) (hg : s₁.gens = #[])
    (ha : s₁.heap.get? a = some { cls := .type "list", data := .seq vs.toArray }) (hi : IntsAre vs ns) (hl : ns.length ≤ sizeLine) (hr : Room k callerA)
    (F : ∀ base : Heap, K.In base → base.Ns mainGlobals mg → FnOk P w K mg base CX k fa fd [x] sp) (hbind : ∀ (s : Shared) (u : Value), BindsTo s fd ⟨[u], []⟩ [(x, u)])
    (hsp : ∀ H : Hp, Only H → SqL K H a (ns.map V.int) → sp [.ref a] H (fun v _ => v = .bl true) fun _ _ _ => False)
    (hCX : ∀ H e s', CX [] H s₁ (fun _ _ _ => False) e s' → False) :
    codeAny (model P w) callerA (.call (.ref fa) ⟨[.ref a], []⟩) (fun r s' => r = .ok (.ret (.bool true)) ∧ OldK s₁.heap s'.heap ∧ s'.os = s₁.os ∧ AllBare s'.gens) s₁ := by
  have rv := vals_ints hi
  have lenV := hi.length
  -- from an abstract heap in which nothing but the script may be tracked
  have core : ∀ H : Hp, Only H → SqL K H a (ns.map V.int) → HOk P w H s₁.heap → (∀ b, H b ≠ none → b = a) → (H a ≠ none → K.lookup a = none) →
      codeAny (model P w) callerA (.call (.ref fa) ⟨[.ref a], []⟩) (fun r s' => r = .ok (.ret (.bool true)) ∧ OldK s₁.heap s'.heap ∧ s'.os = s₁.os ∧ AllBare s'.gens) s₁ := by
    intro H hO hS hok hA hK
    have base_of : ∀ {b : Addr} {o : Obj}, s₁.heap.get? b = some o → H b = none → (hidT s₁.heap H).get? b = some o := fun e n => hidT_get e n
    have noA : ∀ {b : Addr} {o : Obj} {es : Array DictEntry} {ep : Nat}, s₁.heap.get? b = some o → o.data = .dict es ep → H b = none := fun {b o es ep} e d => by
      cases q : H b with
      | none => rfl
      | some u =>
        have e' : b = a := hA b (by rw [q]; simp)
        subst e'
        rw [ha] at e; cases e
        have d' : Data.seq vs.toArray _ = Data.dict es ep := d
        cases d'
    have nsK : ∀ {b : Addr} {m : Str → Option Value}, s₁.heap.Ns b m → (hidT s₁.heap H).Ns b m := fun {b m} ⟨o, es, ep, e, d, r⟩ => ⟨o, es, ep, base_of e (noA e d), d, r⟩
    have hKb : K.In (hidT s₁.heap H) := fun b o e => base_of (KX b o e) (by
      cases q : H b with
      | none => rfl
      | some u =>
        have e' : b = a := hA b (by rw [q]; simp)
        subst e'
        rw [hK (by rw [q]; simp)] at e; cases e)
    have hM : Mod K mg (hidT s₁.heap H) := ⟨hKb, nsK hns, ⟨mb, nsK hb, hbb⟩, let ⟨mc, h1, h2⟩ := hlim; ⟨mc, nsK h1, h2⟩⟩
    have e0 : Env0 P w K mg (hidT s₁.heap H) callerA [] s₁ H := ⟨rfl, hM, fun b o e => of_hidT e, Nat.le_of_eq (hidT_size _ _), trivial, fun b hb => absurd (show b ∈ ([] : List Addr) from hb) (by simp), hok, .of_eq hg⟩
    refine codeAny_mono ((F _ hKb (nsK hns)).run callerA [] s₁ H ⟨[.ref a], []⟩ [.ref a] [.ref a] _ _ hr e0 (hbind s₁ (.ref a)) (.cons rfl .nil) (hsp H hO hS)) fun r s' h => ?_
    cases r with
    | error e => exact (hCX H e s' h).elim
    | ok fl =>
      cases fl with
      | next => exact False.elim h
      | brk => exact False.elim h
      | cont => exact False.elim h
      | ret u =>
        obtain ⟨v, H', os, bare, un, hok', r', q⟩ := h
        have q' : v = .bl true := q
        subst q'
        obtain rfl : u = Value.bool true := r'
        refine ⟨rfl, OldK.of_keep fun b o e => ?_, os, bare⟩
        cases q : H b with
        | none => exact un.keep b o e q (by intro z; exact absurd (show b ∈ ([] : List Addr) from z) (by simp)) (by simp)
        | some u =>
          rcases hO b with z | ⟨ob, xs, z⟩
          · rw [q] at z; cases z
          · have z2 := un.frzs b ob _ z
            obtain ⟨e1, _⟩ := hok b _ z
            obtain ⟨e2, _⟩ := hok' b _ z2
            rw [e] at e1; cases e1
            exact e2
  cases hk : K.lookup a with
  | some o =>
    -- the script is one of the module's own objects
    have e := KX a o hk
    rw [ha] at e
    cases e
    refine core (fun _ => none) (fun _ => .inl rfl) (.inr ⟨_, vs.toArray, _, hk, rfl, rfl, rfl, by rw [List.size_toArray, lenV]; exact hl, by simpa using rv⟩) (fun b u z => by have z' : (none : Option HO) = some u := z; cases z') (fun b z => absurd rfl z) fun z => absurd rfl z
  | none =>
    refine core (fun b => if b = a then some (.frz { cls := .type "list", data := .seq vs.toArray } (.lst (ns.map V.int))) else none) (fun b => ?_) (.inl (.inr ⟨{ cls := .type "list", data := .seq vs.toArray }, if_pos rfl⟩)) (fun b u z => ?_) (fun b z => ?_) fun _ => hk
    · by_cases hb : b = a
      · exact .inr ⟨_, _, if_pos hb⟩
      · exact .inl (if_neg hb)
    · by_cases hb : b = a
      · have z' := (if_pos hb).symm.trans z
        cases z'
        subst hb
        exact ⟨ha, by rw [List.length_map]; exact hl, vs, _, rv, ha⟩
      · have z' := (if_neg hb).symm.trans z
        cases z'
    · by_cases hb : b = a
      · exact hb
      · exact absurd (if_neg hb) z
end L2

namespace L2
open PySem PySem.Spec PyProof.Rows

abbrev KOf {K : PySem.W.Frag} {h : Heap} (_ : K.In h) : PySem.W.Frag := K

/-- the goal that k_head leaves (case hc), from the law's promise. F gives the function object fd (K's own) once, then the promise over every base -/
theorem walk_of {l : PySem.W.OpenLaw} {n k : Nat} {q : Program} {loose : List Str} {XP : (Str → Option Value) → Heap → Prop} {YP : World → Heap → Prop} {d : DefRec} {K : Params → PySem.W.Frag} {CX : World → CXT} {sp : World → Sp} {x : Str}
    (hn : l.most = some n) (hn2 : n ≤ sizeLine) (hdf : d.params.defaults = []) (hr : Room k callerA)
    (hY : ∀ (w : World) (h : Heap), YP w h → (K w.params).In h)
    (F : ∀ (w : World) (mg : Str → Option Value) (fa : Addr) (h : Heap), (K w.params).In h → h.Ns mainGlobals mg → mg d.name = some (.ref fa) →
      ∃ fd : FuncData, (∀ (s : Shared) (u : Value), BindsTo s fd ⟨[u], []⟩ [(x, u)]) ∧
        ∀ base : Heap, (K w.params).In base → base.Ns mainGlobals mg → FnOk l.prog w (K w.params) mg base (CX w) k fa fd [x] (sp w))
    (hsp : ∀ (w : World) (H : Hp) (a : Addr) (ns : List Int), ns.length ≤ n → Only H → SqL (K w.params) H a (ns.map V.int) → sp w [.ref a] H (fun v _ => v = .bl true) fun _ _ _ => False)
    (hCX : ∀ (w : World) (H : Hp) (s : Shared) (e : Value) (s' : Shared), CX w [] H s (fun _ _ _ => False) e s' → False) :
    PySem.W.WalkO q loose XP YP l.row.toRowW d [] (fun f vs => PySem.call f vs) := by
  refine Att.attach_call hn hdf fun w s₀ s₁ mg mb fa o pm cd doc a vs ns G Y ho hd hcd hmg hobj hints hlen hg => ?_
  have KX := hY w _ Y
  obtain ⟨fd, hb, hF⟩ := F w mg fa _ KX G.T.g hmg
  exact law_call KX G.T.g G.T.b G.T.builtins G.T.nolimit hg hobj hints (Nat.le_trans hlen hn2) hr hF hb (fun H hO hS => hsp w H a ns hlen hO hS) fun H e s' => hCX w H s₁ e s'
/-- the same where the promise hangs on the written part alone: (sp := My.sp_law), no hole under a binder -/
theorem walk_ofK {l : PySem.W.OpenLaw} {n k : Nat} {q : Program} {loose : List Str} {XP : (Str → Option Value) → Heap → Prop} {YP : World → Heap → Prop} {d : DefRec} {K : Params → PySem.W.Frag} {CX : CXT} {sp : PySem.W.Frag → Sp} {x : Str}
    (hn : l.most = some n) (hn2 : n ≤ sizeLine) (hdf : d.params.defaults = []) (hr : Room k callerA)
    (hY : ∀ (w : World) (h : Heap), YP w h → (K w.params).In h)
    (F : ∀ (w : World) (mg : Str → Option Value) (fa : Addr) (h : Heap), (K w.params).In h → h.Ns mainGlobals mg → mg d.name = some (.ref fa) →
      ∃ fd : FuncData, (∀ (s : Shared) (u : Value), BindsTo s fd ⟨[u], []⟩ [(x, u)]) ∧
        ∀ base : Heap, (K w.params).In base → base.Ns mainGlobals mg → FnOk l.prog w (K w.params) mg base CX k fa fd [x] (sp (K w.params)))
    (hsp : ∀ (K : PySem.W.Frag) (H : Hp) (a : Addr) (ns : List Int), ns.length ≤ n → Only H → SqL K H a (ns.map V.int) → sp K [.ref a] H (fun v _ => v = .bl true) fun _ _ _ => False)
    (hCX : ∀ (H : Hp) (s : Shared) (e : Value) (s' : Shared), CX [] H s (fun _ _ _ => False) e s' → False) :
    PySem.W.WalkO q loose XP YP l.row.toRowW d [] (fun f vs => PySem.call f vs) :=
  walk_of (K := K) (CX := fun _ => CX) (sp := fun w => sp (K w.params)) hn hn2 hdf hr hY F (fun w H a ns h1 h2 h3 => hsp (K w.params) H a ns h1 h2 h3) fun _ H s e s' => hCX H s e s'
end L2

/- THE LAST THEOREM (shape; LID, My.* are yours):
   My.Adr: a structure of the addresses that your layer names (classes, functions); My.Txt K t: a structure (Prop) of the equations over K;
   My.txt_mk : {K} {implicit addresses ..} (e1 : nsIn K mainGlobals "law" = some (some (.ref f))) (e2 : K.lookup f = some ⟨oc, od, .func (fnOf "law" "law" params body scope dV kV doc pm an cdv ct), sl⟩) (e3 : codeIn K cdv "law" = true) .. : ∃ t, My.Txt K t

set_option maxRecDepth 100000 in
set_option maxHeartbeats 0 in
theorem PySem.Challenge.cw_LID_holds : PySem.Challenge.rw_LID.Holds := by
  w_on; o_law; k_head; (case hw => w_witness2)
  k_fill
  refine L2.walk_of (l := PySem.Challenge.rw_LID) (n := 63) (k := 40) (x := "script") (CX := fun w => ..) (sp := fun _ => My.sp_law) rfl (by decide) rfl ⟨rfl, by decide, by decide⟩ (fun w h Y => PySem.W.kIn_of Y) ?F ?S ?C
  case F =>
    intro w mg fa h KX G hmg
    have T : ∃ t, My.Txt (L2.KOf KX) t := by
      dsimp only [L2.KOf]                          -- K must stand as «<heap const> w.params» for k_is
      refine' My.txt_mk ?e1 ?e2 ?e3 ..
      (case e1 => PySem.W.k_is)                    -- in the order: a name -> its address -> its object -> its parts
      (case e2 => PySem.W.k_is)
      ..
    obtain ⟨t, T⟩ := T
    have e0 := hmg.symm.trans (PySem.W.mg_of KX G T.law)
    cases e0                                       -- fa is the law's own address
    exact ⟨_, fun s u => .of_eq rfl, fun base kb nb => My.law_fn T kb nb⟩     -- if «.of_eq rfl» comes too early: refine' ⟨_, ?b, fun base kb nb => My.law_fn T kb nb⟩; exact fun s u => .of_eq rfl
  case S => exact fun w H a ns hl hO hS => ..
  case C => exact ..
(the tactic k_is has no namespace: write k_is) -/

/-! SHORT WORDS over the layer: a def of the text, its body, what a loop and a test want. -/
namespace L2
open PySem PySem.Spec PyProof.Rows

/-! ### the text by places -/
/-- the j-th statement of a class's body -/
def inClass (s : Stmt) (j : Nat) : Stmt := match s with
  | .ClassDef _ _ _ body _ _ _ _ _ _ _ => body.getD j (.Pass ⟨0, 0, 0, 0⟩)
  | _ => .Pass ⟨0, 0, 0, 0⟩
def defArgs (s : Stmt) : Arguments := match s with
  | .FunctionDef _ a _ _ _ _ _ _ _ _ => a
  | _ => { posonlyargs := [], args := [], vararg := none, kwonlyargs := [], kw_defaults := [], kwarg := none, defaults := [] }
def defBody (s : Stmt) : List Stmt := match s with
  | .FunctionDef _ _ b _ _ _ _ _ _ _ => b
  | _ => []
def defScope (s : Stmt) : Scope := match s with
  | .FunctionDef _ _ _ _ _ _ sc _ _ _ => sc
  | _ => { kind := .function, names := [], isGenerator := false, isCoroutine := false }

/-! ### no exception leaves a def -/
abbrev CX0 : CXT := fun _ _ _ _ _ _ => False
abbrev E0 : XK := fun _ _ _ => False
theorem pass0 {X : Cx} : Passes CX0 X E0 := fun _ _ _ _ _ _ _ h => h.elim

/-! ### a def (or method) of the text as it stands behind the top -/
structure Fun (K : PySem.W.Frag) (x qual : Str) (st : Stmt) (f : Addr) (fd : FuncData) : Prop where
  ex : ∃ (oc : Value) (od : Option Addr) (kV doc pm : Value) (an : Option Addr) (cdv ct : Value) (osl : Array (Option Value)),
    fd = PySem.W.fnOf x qual (defArgs st) (defBody st) (defScope st) .none kV doc pm an cdv ct ∧ K.lookup f = some ⟨oc, od, .func fd, osl⟩ ∧ PySem.W.codeIn K cdv qual = true
  kp : PySem.W.keepIn K (.ref f) = true
section
variable {P : Program} {w : World} {K : PySem.W.Frag} {mg : Str → Option Value} {base : Heap}
/-- THE RULE for a def: its body as a term of rules, and the reading of that term -/
theorem Fun.ok {x qual : Str} {st : Stmt} {f : Addr} {fd : FuncData} {N ps : List Str} {k : Nat} {sp : Sp} (F : Fun K x qual st f fd) (S : FnScope N ps (defScope st)) (len : ∀ vs H Q E, sp vs H Q E → vs.length = ps.length)
    (hbody : ∀ (cdv : Value) (A : Around) (outer : List Env) (s : Shared) (H : Hp) (vs : List V) (Q : VK) (E : XK), Room k (A.deeper (envOfC qual (defScope st) s.heap.objs.size f cdv)) → sp vs H Q E →
      ∃ t, PSs (cxOf CX0 P w K mg base N qual (defScope st) f cdv A outer s H E).nox (defBody st) t ∧ t { nx := fun _ H' => Q .non H', rt := Q } (start N vs) H) : FnOk P w K mg base CX0 (k + 1) f fd ps sp := by
  obtain ⟨oc, od, kV, doc, pm, an, cdv, ct, osl, rfl, lk, hcd⟩ := F.ex
  refine fn_of lk hcd S len fun A outer s H vs Q E hr hsp => ?_
  obtain ⟨t, h, q⟩ := hbody cdv A outer s H vs Q E hr hsp
  exact ⟨t, h.nox, q⟩
/-- how its arguments bind (no defaults): h is «fun _ _ _ _ _ _ us hl => match us, hl with | [_, _], _ => rfl», one _ a parameter -/
theorem Fun.binds {x qual : Str} {st : Stmt} {f : Addr} {fd : FuncData} {ps : List Str} (F : Fun K x qual st f fd)
    (h : ∀ (kV doc pm : Value) (an : Option Addr) (cdv ct : Value) (us : List Value), us.length = ps.length → bindArgs (PySem.W.fnOf x qual (defArgs st) (defBody st) (defScope st) .none kV doc pm an cdv ct) ⟨us, []⟩ = pure (ps.zip us)) : Binds K fd ps [] := by
  obtain ⟨oc, od, kV, doc, pm, an, cdv, ct, osl, rfl, lk, hcd⟩ := F.ex
  exact .all (h kV doc pm an cdv ct)
theorem fun_mk {x qual : Str} {st : Stmt} {f : Addr} {oc : Value} {od an : Option Addr} {osl : Array (Option Value)} {kV doc pm cdv ct : Value} (l : K.lookup f = some ⟨oc, od, .func (PySem.W.fnOf x qual (defArgs st) (defBody st) (defScope st) .none kV doc pm an cdv ct), osl⟩)
    (c : PySem.W.codeIn K cdv qual = true) (k : PySem.W.keepIn K (.ref f) = true) : Fun K x qual st f (PySem.W.fnOf x qual (defArgs st) (defBody st) (defScope st) .none kV doc pm an cdv ct) := ⟨⟨oc, od, kV, doc, pm, an, cdv, ct, osl, rfl, l, c⟩, k⟩
end
theorem hu_of {A : Around} {k : Nat} (hr : Room k A) : A.units + 1 < cLine := Nat.lt_of_le_of_lt (Nat.add_le_add_left (by decide : 1 ≤ 64) _) hr.units
theorem small1000 {n : Nat} (h : n ≤ 1000) : n < sizeLine := Nat.lt_of_le_of_lt h (by decide)

/-! ### expressions in short: the name that stands in the i-th slot -/
section
variable {X : Cx}
theorem pv (i : Nat) {x : Str} {pos : Pos} (hN : X.N[i]? = some x := by rfl) (hv : Vis X.env.scope x := by first | exact Or.inl rfl | exact Or.inr (Or.inl rfl) | exact Or.inr (Or.inr rfl)) (hd : (x == ("__debug__" : Str)) = false := by decide)
    (hcd : (x == ("__classdict__" : Str)) = false := by decide) : PE X (.Name x pos) (tVar i) := pe_var hN hv hd hcd
end

/-! ### tests -/
theorem iteF {A B : Prop} (h : B) : if false = true then A else B := by
  rw [if_neg Bool.false_ne_true]
  exact h
theorem iteT {A B : Prop} (h : A) : if true = true then A else B := by
  rw [if_pos rfl]
  exact h
theorem ite2 {c A B : Prop} [Decidable c] (h1 : c → A) (h2 : ¬ c → B) : if c then A else B := by
  by_cases h : c
  · rw [if_pos h]
    exact h1 h
  · rw [if_neg h]
    exact h2 h
theorem iteNS {c A B : Prop} [Decidable c] (hc : c) (h : B) : if (!decide c) = true then A else B := by
  rw [decide_eq_true hc]
  exact iteF h

/-! ### heaps -/
/-- all that was tracked is as it was -/
def Same (H H' : Hp) : Prop := ∀ b o, H b = some o → H' b = some o
theorem Same.refl (H : Hp) : Same H H := fun _ _ h => h
theorem Same.trans {H H1 H2 : Hp} (a : Same H H1) (b : Same H1 H2) : Same H H2 := fun c o h => b c o (a c o h)
theorem Same.free {H H' : Hp} (e : Same H H') {l : Addr} (h : H' l = Option.none) : H l = Option.none := by
  cases q : H l with
  | none => rfl
  | some o =>
    rw [e l o q] at h
    cases h
theorem Same.seq {K : PySem.W.Frag} {H H' : Hp} {a : Addr} {xs : List V} (e : Same H H') (h : SqL K H a xs) : SqL K H' a xs := by
  rcases h with (h | ⟨o, h⟩) | h
  · exact .inl (.inl (e _ _ h))
  · exact .inl (.inr ⟨o, e _ _ h⟩)
  · exact .inr h

end L2

/-! ### EXTENSION 1: sizes, big divisions, deep equality, isinstance, own defs -/
namespace L2
open PySem PySem.Spec PyProof.Rows

/-- below 2^n either way -/
def Sz (n : Nat) (x : Int) : Prop := x.natAbs < 2 ^ n
theorem Sz.mono {m n : Nat} {x : Int} (h : Sz m x) (e : m ≤ n) : Sz n x := Nat.lt_of_lt_of_le h (Nat.pow_le_pow_right (by decide) e)
theorem Sz.of_le {n : Nat} {x y : Int} (h : Sz n y) (e : x.natAbs ≤ y.natAbs) : Sz n x := Nat.lt_of_le_of_lt e h
theorem Sz.mul {m n : Nat} {x y : Int} (h : Sz m x) (h' : Sz n y) : Sz (m + n) (x * y) := by
  unfold Sz
  rw [Int.natAbs_mul, Nat.pow_add]
  exact Nat.mul_lt_mul'' h h'
theorem Sz.add {n : Nat} {x y : Int} (h : Sz n x) (h' : Sz n y) : Sz (n + 1) (x + y) := by
  unfold Sz at *
  rw [Nat.pow_succ]
  omega
theorem Sz.sub {n : Nat} {x y : Int} (h : Sz n x) (h' : Sz n y) : Sz (n + 1) (x - y) := by
  unfold Sz at *
  rw [Nat.pow_succ]
  omega
theorem Sz.neg {n : Nat} {x : Int} (h : Sz n x) : Sz n (-x) := by
  unfold Sz at *
  omega
theorem Sz.log {n : Nat} {x : Int} (h : Sz n x) (hn : 0 < n) : x.natAbs.log2 < n := by
  by_cases h0 : x.natAbs = 0
  · rw [h0]
    exact hn
  · exact (Nat.log2_lt h0).mpr h
theorem Sz.bits {n : Nat} {x : Int} (h : Sz n x) : Builtin.Int.intBits x ≤ n := by
  unfold Builtin.Int.intBits
  by_cases h0 : (x == 0) = true
  · rw [if_pos h0]
    exact Nat.zero_le _
  · rw [if_neg h0]
    have hx : x.natAbs ≠ 0 := by
      intro z
      exact h0 (by simp; omega)
    exact (Nat.log2_lt hx).mpr h

section
variable {X : Cx} {a b : Expr} {ta tb : TE} {pos : Pos}
/-- // by a number of any sign -/
theorem op_fdivL : OpR X (binaryOp .FloorDiv) (rI (fun _ j => j ≠ 0 ∧ Sz 9000 j) fun i j => .int (i.fdiv j)) := opI fun _ _ _ _ _ _ _ hc q => floordiv_int hc.1 q (.inl (PyProof.noPylong_of_log2 (hc.2.log (by decide))))
/-- a product -/
theorem op_mulL : OpR X (binaryOp .Mult) (rI (fun i j => Sz 9000 i ∧ Sz 9000 j) fun i j => .int (i * j)) := opI fun _ _ _ _ _ _ _ hc q =>
  mul_int q (PySem.IntMulOk.of_bits (Nat.le_trans hc.1.bits (by decide)) (Nat.le_trans hc.2.bits (by decide)))

/-! ### data -/
end
mutual
/-- what v holds, as data: tuples and lists at any depth -/
def HasD (K : PySem.W.Frag) (H : Hp) : V → PyData → Prop
  | v, .none => v = .non
  | v, .bool b => v = .bl b
  | v, .int i => v = .int i
  | v, .str x => v = .str x
  | v, .list ds => ∃ a xs, v = .ref a ∧ SqL K H a xs ∧ HasDs K H xs ds
  | v, .tuple ds => ∃ a xs, v = .ref a ∧ SqT K H a xs ∧ HasDs K H xs ds
  | _, .dict _ => False
def HasDs (K : PySem.W.Frag) (H : Hp) : List V → List PyData → Prop
  | xs, [] => xs = []
  | xs, d :: ds => ∃ x r, xs = x :: r ∧ HasD K H x d ∧ HasDs K H r ds
end
section
variable {X : Cx} {pins : List (Addr × Obj)} {σ : St} {H : Hp} {s : Shared}
mutual
theorem Inv.reads (I : Inv X pins σ H s) : ∀ (d : PyData) {v : V} {u : Value}, HasD X.K H v d → RelV v u → ∃ as, Reads s.heap u d as
  | .none, v, u, h, r => by
    rw [HasD] at h
    subst h
    cases r
    exact ⟨[], .none⟩
  | .bool b, v, u, h, r => by
    rw [HasD] at h
    subst h
    cases r
    exact ⟨[], .bool b⟩
  | .int i, v, u, h, r => by
    rw [HasD] at h
    subst h
    obtain ⟨t, rfl⟩ := r
    exact ⟨[], .int i t⟩
  | .str x, v, u, h, r => by
    rw [HasD] at h
    subst h
    obtain ⟨t, rfl⟩ := r
    exact ⟨[], .str x t⟩
  | .list ds, v, u, h, r => by
    rw [HasD] at h
    obtain ⟨a, xs, rfl, hl, hs⟩ := h
    cases r
    obtain ⟨its, rv, ⟨o, n, e, hc, hd, hdt⟩, _⟩ := I.list hl
    obtain ⟨as, ra⟩ := Inv.readsAll I ds hs rv
    exact ⟨_, .list e hc hdt (by simpa using ra)⟩
  | .tuple ds, v, u, h, r => by
    rw [HasD] at h
    obtain ⟨a, xs, rfl, hl, hs⟩ := h
    cases r
    obtain ⟨its, rv, p, _⟩ := I.tuple hl
    obtain ⟨o, e, hc, n, hdt⟩ := p
    obtain ⟨as, ra⟩ := Inv.readsAll I ds hs rv
    exact ⟨_, .tuple e hc hdt (by simpa using ra)⟩
  | .dict _, v, u, h, r => by
    rw [HasD] at h
    exact h.elim
theorem Inv.readsAll (I : Inv X pins σ H s) : ∀ (ds : List PyData) {xs : List V} {us : List Value}, HasDs X.K H xs ds → Vals xs us → ∃ as, ReadsAll s.heap us ds as
  | [], xs, us, h, r => by
    rw [HasDs] at h
    subst h
    cases r
    exact ⟨[], .nil⟩
  | d :: ds, xs, us, h, r => by
    rw [HasDs] at h
    obtain ⟨x, q, rfl, h1, h2⟩ := h
    cases r with
    | cons r1 r2 =>
      obtain ⟨as, a1⟩ := Inv.reads I d h1 r1
      obtain ⟨bs, a2⟩ := Inv.readsAll I ds h2 r2
      exact ⟨_, .cons a1 a2⟩
end
/-- == of data -/
def rEqD (X : Cx) (neg : Bool) : R2 := fun x y H Q => ∃ d e : PyData, HasD X.K H x d ∧ HasD X.K H y e ∧ d.canLay0 = true ∧ e.canLay0 = true ∧ X.A.units + min d.depth e.depth < cLine ∧
  Q (.bl (if neg then !PyData.eqv d e else PyData.eqv d e)) H
theorem op_eqD : OpR X (compareOp .Eq) (rEqD X false) := by
  intro pins s σ H x y v u Q I rx ry h
  obtain ⟨d, e, h1, h2, c1, c2, hu, q⟩ := h
  obtain ⟨as, ra⟩ := I.reads d h1 rx
  obtain ⟨bs, rb⟩ := I.reads e h2 ry
  exact SeqAt.compareEq_reads ra rb c1 c2 hu ⟨.bl (PyData.eqv d e), H, I, rfl, q⟩
theorem op_neD : OpR X (compareOp .NotEq) (rEqD X true) := by
  intro pins s σ H x y v u Q I rx ry h
  obtain ⟨d, e, h1, h2, c1, c2, hu, q⟩ := h
  obtain ⟨as, ra⟩ := I.reads d h1 rx
  obtain ⟨bs, rb⟩ := I.reads e h2 ry
  exact SeqAt.compareNe_reads ra rb c1 c2 hu ⟨.bl (!PyData.eqv d e), H, I, rfl, q⟩

/-! ### isinstance -/
/-- a class as a value: a built-in type, or an own class -/
def clsV : V → Value
  | .ty n => .type n
  | .ref a => .ref a
  | _ => .none
theorem call_isi : CallR X (.builtin "isinstance") (fun xs H Q => ∃ x c t b, xs = [x, c] ∧ (∃ n, c = .ty n) ∧ TyOf X.K H x t ∧ PySem.W.kitOne X.K t (clsV c) = some b ∧ Q (.bl b) H) := by
  intro pins s σ H xs us Q I r h
  obtain ⟨x, c, t, b, rfl, ⟨n, rfl⟩, ty, e, q⟩ := h
  obtain ⟨u, u', rfl, rx, rc⟩ := vals2 r
  cases rc
  exact isinst_ok I rx ty e fun tk => ⟨.bl b, H, I.tok tk, rfl, q⟩
/-- int(text) -/
theorem call_int_str : CallR X (.type "int") (fun xs H Q => ∃ x n, xs = [.str x] ∧ PySem.intText? x = some n ∧ x.length ≤ 640 ∧ Q (.int n) H) := by
  intro pins s σ H xs us Q I r h
  obtain ⟨x, n, rfl, h1, h2, q⟩ := h
  obtain ⟨u, rfl, t, rfl⟩ := vals1 r
  exact PySem.W.KIN.call_text h1 h2 ⟨.int n, H, I.tok _, ⟨_, rfl⟩, q⟩
/-- text * number -/
theorem op_mul_str : OpR X (binaryOp .Mult) (fun x y H Q => ∃ i j, x = .str i ∧ y = .int j ∧ MulOk i j ∧ Q (.str (Txt.mul i j)) H) := by
  intro pins s σ H x y v u Q I rx ry h
  obtain ⟨i, j, rfl, rfl, ok, q⟩ := h
  obtain ⟨t, rfl⟩ := rx
  obtain ⟨t', rfl⟩ := ry
  exact SB.mul ok fun t' k => ⟨.str _, H, I.tok k, ⟨_, rfl⟩, q⟩
end

/-! ### built-in names -/
theorem bt_abs : bootBuiltins "abs" = some (.builtin "abs") := by decide +kernel
theorem bt_len : bootBuiltins "len" = some (.builtin "len") := by decide +kernel
theorem bt_min : bootBuiltins "min" = some (.builtin "min") := by decide +kernel
theorem bt_max : bootBuiltins "max" = some (.builtin "max") := by decide +kernel
theorem bt_sum : bootBuiltins "sum" = some (.builtin "sum") := by decide +kernel
theorem bt_isinstance : bootBuiltins "isinstance" = some (.builtin "isinstance") := by decide +kernel
theorem bt_sorted : bootBuiltins "sorted" = some (.builtin "sorted") := by decide +kernel
theorem bt_ord : bootBuiltins "ord" = some (.builtin "ord") := by decide +kernel
theorem bt_any : bootBuiltins "any" = some (.builtin "any") := by decide +kernel
theorem bt_all : bootBuiltins "all" = some (.builtin "all") := by decide +kernel
theorem bt_int : bootBuiltins "int" = some (.type "int") := by decide +kernel
theorem bt_bool : bootBuiltins "bool" = some (.type "bool") := by decide +kernel
theorem bt_str : bootBuiltins "str" = some (.type "str") := by decide +kernel
theorem bt_list : bootBuiltins "list" = some (.type "list") := by decide +kernel
theorem bt_tuple : bootBuiltins "tuple" = some (.type "tuple") := by decide +kernel
theorem bt_range : bootBuiltins "range" = some (.type "range") := by decide +kernel
theorem bt_dict : bootBuiltins "dict" = some (.type "dict") := by decide +kernel
theorem bt_enumerate : bootBuiltins "enumerate" = some (.type "enumerate") := by decide +kernel
theorem bt_zip : bootBuiltins "zip" = some (.type "zip") := by decide +kernel
theorem bt_reversed : bootBuiltins "reversed" = some (.type "reversed") := by decide +kernel
theorem bt_ValueError : bootBuiltins "ValueError" = some (.type "ValueError") := by decide +kernel
theorem ifP {c A B : Prop} [Decidable c] (h : c) (x : A) : if c then A else B := by
  rw [if_pos h]
  exact x
theorem ifN {c A B : Prop} [Decidable c] (h : ¬ c) (x : B) : if c then A else B := by
  rw [if_neg h]
  exact x
theorem kit_ty (K : PySem.W.Frag) {T C : String} {b : Bool} (h : (if (Value.type T == Value.type C) = true then some true else if PySem.W.kitMeta C = true then (fastBuiltinMro T).map (·.contains (Value.type C)) else none) = some b) : PySem.W.kitOne K (.type T) (.type C) = some b := h
/-! ### own defs, without their addresses -/
/-- a def of the text as the top left it -/
structure Def (K : PySem.W.Frag) (mg : Str → Option Value) (x qual : Str) (st : Stmt) (ps : List Str) : Prop where
  ex : ∃ f fd, Fun K x qual st f fd ∧ Binds K fd ps [] ∧ mg x = some (.ref f)
/-- a def that keeps its promise -/
structure Own (P : Program) (w : World) (K : PySem.W.Frag) (mg : Str → Option Value) (base : Heap) (CX : CXT) (x : Str) (ps : List Str) (k : Nat) (sp : Sp) : Prop where
  ex : ∃ f fd, FnOk P w K mg base CX k f fd ps sp ∧ Binds K fd ps [] ∧ mg x = some (.ref f) ∧ PySem.W.keepIn K (.ref f) = true
section
variable {P : Program} {w : World} {K : PySem.W.Frag} {mg : Str → Option Value} {base : Heap}
theorem Def.own {x qual : Str} {st : Stmt} {ps N : List Str} {k : Nat} {sp : Sp} (D : Def K mg x qual st ps) (S : FnScope N ps (defScope st)) (len : ∀ vs H Q E, sp vs H Q E → vs.length = ps.length)
    (hbody : ∀ (f : Addr) (cdv : Value) (A : Around) (outer : List Env) (s : Shared) (H : Hp) (vs : List V) (Q : VK) (E : XK), Room k (A.deeper (envOfC qual (defScope st) s.heap.objs.size f cdv)) → sp vs H Q E →
      ∃ t, PSs (cxOf CX0 P w K mg base N qual (defScope st) f cdv A outer s H E).nox (defBody st) t ∧ t { nx := fun _ H' => Q .non H', rt := Q } (start N vs) H) : Own P w K mg base CX0 x ps (k + 1) sp := by
  obtain ⟨f, fd, F, b, m⟩ := D.ex
  exact ⟨f, fd, F.ok S len fun cdv A outer s H vs Q E hr h => hbody f cdv A outer s H vs Q E hr h, b, m, F.kp⟩
end
section
variable {X : Cx} {CX : CXT} {k : Nat} {ps : List Str} {sp : Sp} {E : XK} {x : Str} {p pos : Pos} {e : Expr} {es : List Expr} {t : TA}
theorem pe_own (F : Own X.prog X.w X.K X.mg X.base CX x ps k sp) (hr : Room k X.A) (hg : Gl X x) (hx : Passes CX X E) (ha : PA X (e :: es) t) (hdb : (x == ("__debug__" : Str)) = false := by decide)
    (he : starEach (e :: es) X.env = (false, eval e X.env) :: starEach es X.env := by rfl) (hpl : (backTo pos (starEach es X.env)).any (·.1) = false := by rfl) : PE X (.Call (.Name x p) (e :: es) [] pos) (tCall sp [] E t) := by
  obtain ⟨f, fd, F, b, m, kp⟩ := F.ex
  exact pe_call F hr hg m kp b .nil hx ha hdb he hpl
end

/-! ### a cut between two statements -/
def tSeqJ (t u : TS) : TS := fun D σ H => ∃ P : St → Hp → Prop, t { D with nx := P } σ H ∧ ∀ σ' H', P σ' H' → u D σ' H'
theorem pss_consJ {X : Cx} {st : Stmt} {rest : List Stmt} {t u : TS} (h1 : PS X st t) (h2 : PSs X rest u) : PSs X (st :: rest) (tSeqJ t u) := by
  intro pins s σ H D I h
  obtain ⟨P, hp, hq⟩ := h
  refine wpAny_execs_cons (thn (h1 pins s σ H { D with nx := P } I hp) fun f s1 q => ?_)
  cases f with
  | next =>
    obtain ⟨σ', H', I', q⟩ := q
    exact h2 pins s1 σ' H' D I' (hq σ' H' q)
  | ret v => exact q
  | brk => exact q
  | cont => exact q

/-! ### an item of a written list of ints -/
theorem atI_ints {ns : List Int} {i : Int} (h0 : 0 ≤ i) (h1 : i < ns.length) : ∃ n, n ∈ ns ∧ atI (ns.map V.int) i = some (.int n) := by
  obtain ⟨j, rfl⟩ : ∃ j : Nat, i = (j : Int) := ⟨i.toNat, by omega⟩
  have hj : j < ns.length := by omega
  refine ⟨ns[j], List.getElem_mem hj, atI_nat ?_⟩
  rw [List.getElem?_map, List.getElem?_eq_getElem hj]
  rfl
theorem Same.upd {H : Hp} {a : Addr} {o : HO} (n : H a = none) : Same H (upd H a o) := fun b u e => by
  rw [upd_ne (ne_of_none e n)]
  exact e
theorem Same.tup {K : PySem.W.Frag} {H H' : Hp} {a : Addr} {xs : List V} (e : Same H H') (h : SqT K H a xs) : SqT K H' a xs := by
  rcases h with (h | ⟨o, h⟩) | h
  · exact .inl (.inl (e _ _ h))
  · exact .inl (.inr ⟨o, e _ _ h⟩)
  · exact .inr h
end L2

namespace Hw
/-! ### lowest terms -/
def low (t b : Int) : Int × Int := (t / (Int.gcd t b : Int), b / (Int.gcd t b : Int))
def lowI (t b : Int) : Int × Int := if b < 0 then low (-t) (-b) else low t b
theorem gpos (t : Int) {b : Int} (hb : b ≠ 0) : 0 < (Int.gcd t b : Int) := by
  have := Int.gcd_pos_of_ne_zero_right t hb
  omega
theorem gdl (t b : Int) : (Int.gcd t b : Int) ∣ t := Int.gcd_dvd_left ..
theorem gdr (t b : Int) : (Int.gcd t b : Int) ∣ b := Int.gcd_dvd_right ..
theorem low_pos (t : Int) {b : Int} (hb : 0 < b) : 0 < (low t b).2 := by
  have g := gpos t (show b ≠ 0 by omega)
  exact Int.ediv_pos_of_pos_of_dvd hb (by omega) (gdr t b)
theorem low_le (t : Int) {b : Int} (hb : 0 < b) : (low t b).2 ≤ b := by
  have g := gpos t (show b ≠ 0 by omega)
  exact Int.ediv_le_self _ (by omega)
theorem low_abs (t b : Int) : (low t b).1.natAbs ≤ t.natAbs := by
  show (t / (Int.gcd t b : Int)).natAbs ≤ _
  rw [Int.natAbs_ediv_of_dvd (gdl t b)]
  exact Nat.div_le_self _ _
theorem low_low (t : Int) {b : Int} (hb : b ≠ 0) : low (low t b).1 (low t b).2 = low t b := by
  have e : Int.gcd (low t b).1 (low t b).2 = 1 := Int.gcd_ediv_gcd_ediv_gcd (by have := Int.gcd_pos_of_ne_zero_right t hb; omega)
  rw [low.eq_def (low t b).1, e]
  simp
theorem lowI_pos (t : Int) {b : Int} (hb : b ≠ 0) : 0 < (lowI t b).2 := by
  unfold lowI
  split
  · exact low_pos _ (by omega)
  · exact low_pos _ (by omega)
theorem lowI_low (t : Int) {b : Int} (hb : b ≠ 0) : low (lowI t b).1 (lowI t b).2 = lowI t b := by
  unfold lowI
  split
  · exact low_low _ (by omega)
  · exact low_low _ (by omega)
theorem lowI_le (t : Int) {b : Int} (hb : b ≠ 0) : (lowI t b).2.natAbs ≤ b.natAbs := by
  have h := lowI_pos t hb
  unfold lowI at *
  split
  · rename_i hn
    rw [if_pos hn] at h
    have := low_le (-t) (show 0 < -b by omega)
    omega
  · rename_i hn
    rw [if_neg hn] at h
    have := low_le t (show 0 < b by omega)
    omega
theorem gcd_turn (a b : Int) : Int.gcd b (a % b) = Int.gcd a b := by
  have e : a % b = a - (a / b) * b := by
    have := Int.emod_def a b
    rw [this, Int.mul_comm]
  rw [Int.gcd_comm b, e, Int.gcd_sub_mul_right_left]
theorem gcd_end {d : Int} (h : 0 ≤ d) : ((Int.gcd d 0 : Nat) : Int) = d := by
  rw [Int.gcd_zero_right]
  omega
theorem fdiv_low1 (t b : Int) : t.fdiv (Int.gcd t b : Int) = (low t b).1 := Int.fdiv_eq_ediv_of_nonneg _ (by omega)
theorem fdiv_low2 (t b : Int) : b.fdiv (Int.gcd t b : Int) = (low t b).2 := Int.fdiv_eq_ediv_of_nonneg _ (by omega)
theorem gcd_negs (t b : Int) : Int.gcd (-t) (-b) = Int.gcd t b := by
  rw [Int.neg_gcd, Int.gcd_neg]
theorem fdiv_neg1 (t b : Int) : t.fdiv (-(Int.gcd t b : Int)) = (low (-t) (-b)).1 := by
  show _ = -t / ((Int.gcd (-t) (-b) : Nat) : Int)
  rw [gcd_negs, Int.fdiv_eq_ediv_of_dvd (Int.neg_dvd.mpr (gdl t b)), Int.ediv_neg, Int.neg_ediv_of_dvd (gdl t b)]
theorem fdiv_neg2 (t b : Int) : b.fdiv (-(Int.gcd t b : Int)) = (low (-t) (-b)).2 := by
  show _ = -b / ((Int.gcd (-t) (-b) : Nat) : Int)
  rw [gcd_negs, Int.fdiv_eq_ediv_of_dvd (Int.neg_dvd.mpr (gdr t b)), Int.ediv_neg, Int.neg_ediv_of_dvd (gdr t b)]
theorem gcd_le (t : Int) {b : Int} (hb : b ≠ 0) : ((Int.gcd t b : Nat) : Int).natAbs ≤ b.natAbs := by
  have := Int.natAbs_dvd_natAbs.mpr (gdr t b)
  exact Nat.le_of_dvd (by omega) this
theorem gcd_abs2 (a b : Int) : Int.gcd (if a < 0 then -a else a) (if b < 0 then -b else b) = Int.gcd a b := by
  split <;> split <;> simp [Int.neg_gcd, Int.gcd_neg]
theorem gcd_abs1 (a b : Int) : Int.gcd (if a < 0 then -a else a) b = Int.gcd a b := by
  split <;> simp [Int.neg_gcd]
theorem abs_nn (a : Int) : 0 ≤ (if a < 0 then -a else a) := by
  split <;> omega
end Hw

/-! ### EXTENSION 2: list comprehensions (one clause, at most one test; the element raises nothing) -/
namespace L2
open PySem PySem.Spec PyProof.Rows

/-- the scope of a comprehension's block within a scope -/
def relS (scope osc : Scope) : Scope :=
  { scope with names := scope.names.map fun (n, k) => if (k == .free && osc.kind == .function && osc.names.lookup n == some .cell) then (n, .cell) else (n, k) }
def cEnv (scope : Scope) (cl : List (Str × Addr)) (L : Addr) (env : Env) : Env :=
  { scope := relS scope env.scope, locals := L, globals := env.globals, cells := cellsFrom (L + 1) scope.names cl, qual := env.qual, func := none, code := env.code, frame := env.frame, builtins := env.builtins }
/-- the cells of the free names -/
def closL (env : Env) : List (Str × NameKind) → List (Str × Addr) → List (Str × Addr)
  | [], acc => acc
  | (n, k) :: r, acc => if k == .free then closL env r ((n, (env.cells.lookup n).getD 0) :: acc) else closL env r acc
theorem clos_loop {env : Env} (f : Str × NameKind → List (Str × Addr) → Sem (ForInStep (List (Str × Addr))))
    (hf : ∀ n k cs, f (n, k) cs = if (k == .free) = true then (do let a ← cellOf env n; pure (.yield ((n, a) :: cs))) else pure (.yield cs)) :
    ∀ (names : List (Str × NameKind)) (acc : List (Str × Addr)), (∀ y ∈ names, y.2 = .free → ∃ c, env.cells.lookup y.1 = some c) → forIn names acc f = (pure (closL env names acc) : Sem _)
  | [], acc, _ => by rw [List.forIn_nil]; rfl
  | (n, k) :: r, acc, h => by
    rw [List.forIn_cons, hf]
    unfold closL
    by_cases hk : (k == NameKind.free) = true
    · rw [if_pos hk, if_pos hk]
      obtain ⟨c, hc⟩ := h (n, k) List.mem_cons_self (by simpa using hk)
      have hc' : env.cells.lookup n = some c := hc
      unfold cellOf
      rw [hc']
      simp only [pure_bind, Option.getD_some]
      exact clos_loop f hf r _ fun y hy => h y (List.mem_cons_of_mem _ hy)
    · rw [if_neg hk, if_neg hk]
      simp only [pure_bind]
      exact clos_loop f hf r _ fun y hy => h y (List.mem_cons_of_mem _ hy)
theorem closure_for {scope : Scope} {env : Env} (h : ∀ y ∈ scope.names, y.2 = .free → ∃ c, env.cells.lookup y.1 = some c) : closureFor scope env = pure (closL env scope.names []) := by
  unfold closureFor
  show (forIn scope.names ([] : List (Str × Addr)) _ >>= fun cs => pure cs) = _
  rw [clos_loop (env := env) _ (fun n k cs => by cases hk : k == NameKind.free <;> simp [hk]) scope.names [] h]
  rfl
theorem closL_mem {env : Env} : ∀ (names : List (Str × NameKind)) (acc : List (Str × Addr)) {n : Str} {c : Addr}, (n, c) ∈ closL env names acc → (n, c) ∈ acc ∨ ((n, NameKind.free) ∈ names ∧ c = (env.cells.lookup n).getD 0)
  | [], _, _, _, h => .inl h
  | (m, k) :: r, acc, n, c, h => by
    unfold closL at h
    by_cases hk : (k == NameKind.free) = true
    · rw [if_pos hk] at h
      rcases closL_mem r _ h with h | ⟨h1, h2⟩
      · rcases List.mem_cons.mp h with e | h
        · cases e
          refine .inr ⟨?_, rfl⟩
          rw [show k = NameKind.free by simpa using hk]
          exact List.mem_cons_self
        · exact .inl h
      · exact .inr ⟨List.mem_cons_of_mem _ h1, h2⟩
    · rw [if_neg hk] at h
      rcases closL_mem r _ h with h | ⟨h1, h2⟩
      · exact .inl h
      · exact .inr ⟨List.mem_cons_of_mem _ h1, h2⟩
theorem closL_acc {env : Env} : ∀ (names : List (Str × NameKind)) (acc : List (Str × Addr)) {n : Str}, n ∈ acc.map (·.1) → n ∈ (closL env names acc).map (·.1)
  | [], _, _, h => h
  | (m, k) :: r, acc, n, h => by
    unfold closL
    by_cases hk : (k == NameKind.free) = true
    · rw [if_pos hk]
      exact closL_acc r _ (by simp at h ⊢; exact .inr h)
    · rw [if_neg hk]
      exact closL_acc r _ h
theorem closL_has {env : Env} : ∀ (names : List (Str × NameKind)) (acc : List (Str × Addr)) {n : Str}, (n, NameKind.free) ∈ names → n ∈ (closL env names acc).map (·.1)
  | (m, k) :: r, acc, n, h => by
    unfold closL
    rcases List.mem_cons.mp h with e | h
    · cases e
      rw [if_pos (show (NameKind.free == NameKind.free) = true from rfl)]
      exact closL_acc r _ (by simp)
    · by_cases hk : (k == NameKind.free) = true
      · rw [if_pos hk]
        exact closL_has r _ h
      · rw [if_neg hk]
        exact closL_has r _ h
theorem lookup_of_key {α : Type} : ∀ {l : List (Str × α)} {n : Str}, n ∈ l.map (·.1) → ∃ c, l.lookup n = some c
  | (k, v) :: r, n, h => by
    rw [List.lookup_cons]
    cases hb : n == k with
    | true => exact ⟨v, rfl⟩
    | false =>
      refine lookup_of_key (l := r) ?_
      rw [List.map_cons] at h
      rcases List.mem_cons.mp h with e | h
      · rw [e] at hb
        simp at hb
      · exact h
theorem cellsFrom_app : ∀ (names : List (Str × NameKind)) (k : Nat) (acc : List (Str × Addr)), cellsFrom k names acc = cellsFrom k names [] ++ acc
  | [], _, _ => rfl
  | (n, kd) :: r, k, acc => by
    unfold cellsFrom
    split
    · rw [cellsFrom_app r (k + 1) ((n, k) :: acc), cellsFrom_app r (k + 1) [(n, k)], List.append_assoc]
      rfl
    · exact cellsFrom_app r k acc
theorem cellsFrom_names : ∀ (names : List (Str × NameKind)) (k : Nat) {n : Str} {c : Addr}, (n, c) ∈ cellsFrom k names [] → (n, NameKind.cell) ∈ names
  | [], _, _, _, h => by cases h
  | (m, kd) :: r, k, n, c, h => by
    unfold cellsFrom at h
    split at h
    · rename_i hk
      rw [cellsFrom_app] at h
      rcases List.mem_append.mp h with h | h
      · exact List.mem_cons_of_mem _ (cellsFrom_names r _ h)
      · have e : (n, c) = (m, k) := by simpa using h
        cases e
        rw [show kd = NameKind.cell by simpa using hk]
        exact List.mem_cons_self
    · exact List.mem_cons_of_mem _ (cellsFrom_names r _ h)
theorem lookup_app {α : Type} : ∀ (l r : List (Str × α)) (n : Str), (l ++ r).lookup n = (l.lookup n).or (r.lookup n)
  | [], r, n => by simp
  | (k, v) :: l, r, n => by
    rw [List.cons_append, List.lookup_cons, List.lookup_cons]
    cases hb : n == k with
    | true => rfl
    | false => exact lookup_app l r n

theorem relS_lookup (scope osc : Scope) (x : Str) : (relS scope osc).names.lookup x = (scope.names.lookup x).map fun k => if (k == .free && osc.kind == .function && osc.names.lookup x == some .cell) = true then .cell else k := by
  unfold relS
  show (scope.names.map _).lookup x = _
  induction scope.names with
  | nil => rfl
  | cons y r ih =>
    obtain ⟨n, k⟩ := y
    rw [List.map_cons]
    show List.lookup x ((if (k == NameKind.free && osc.kind == .function && osc.names.lookup n == some .cell) = true then (n, NameKind.cell) else (n, k)) :: _) = _
    by_cases hc : (k == NameKind.free && osc.kind == .function && osc.names.lookup n == some .cell) = true
    · rw [if_pos hc, List.lookup_cons, List.lookup_cons]
      cases hb : x == n with
      | true =>
        have e : x = n := by simpa using hb
        subst e
        simp only [Option.map_some]
        rw [if_pos hc]
      | false => exact ih
    · rw [if_neg hc, List.lookup_cons, List.lookup_cons]
      cases hb : x == n with
      | true =>
        have e : x = n := by simpa using hb
        subst e
        simp only [Option.map_some]
        rw [if_neg hc]
      | false => exact ih
theorem ad_no {c n : Nat} (h : c < n) (h' : n + 1 + 1 ≤ c) : False := by omega
theorem ad_ne1 {b n : Nat} (h : b < n) : b ≠ n + 1 := by omega
theorem ad_ne2 {b c n : Nat} (h : b < n) (h' : n + 1 + 1 ≤ c) : c ≠ b := by omega
theorem ad_ne3 {c n : Nat} (h' : n + 1 + 1 ≤ c) : c ≠ n := by omega
theorem ad_le3 {c n : Nat} (h' : n + 1 + 1 ≤ c) : n ≤ c := by omega
theorem ad_ne4 {c n m : Nat} (h : c < n) (h' : n ≤ m) : c ≠ m := by omega
/-- the names of a comprehension's block: its own (tg), then the free ones (cap) with their slots outside (caps). Closed: by decide -/
structure CompSc (osc : Scope) (ON : List Str) (scope : Scope) (tg cap : List Str) (caps : List Nat) : Prop where
  kind : scope.kind = .function
  loc : ∀ y ∈ scope.names, y.2 = .local → scope.names.lookup y.1 = some .local
  fre : ∀ y ∈ scope.names, y.2 = .free → osc.names.lookup y.1 = some .cell ∨ osc.names.lookup y.1 = some .free
  own : ∀ y ∈ scope.names, y.2 = .cell → scope.names.lookup y.1 = some .cell
  capk : ∀ x ∈ cap, scope.names.lookup x = some .free ∧ (x, NameKind.cell) ∉ scope.names
  capi : caps.map (fun j => ON[j]?) = cap.map some
/-- the context of the block -/
def cxComp (X : Cx) (scope : Scope) (cl : List (Str × Addr)) (L : Addr) (N : List Str) (ex : List Addr) (s : Shared) (H : Hp) : Cx :=
  { X with N := N, s₀ := s, H₀ := H, env := cEnv scope cl L X.env, outer := X.stack, stack := X.stack, ex := ex, fn := fun x => scope.names.any fun y => y.1 == x && y.2 == .cell, pn := [], xe := fun _ _ => False }
/-- the slots at each turn -/
def compSt (σ : St) (k : Nat) (caps : List Nat) : St := List.replicate k none ++ caps.map fun j => (σ[j]?).getD none

section
variable {X : Cx} {pins : List (Addr × Obj)} {σ : St} {H : Hp} {s : Shared}
theorem comp_start {scope : Scope} {tg cap : List Str} {caps : List Nat} {fp : List Addr} (S : CompSc X.env.scope X.N scope tg cap caps) (I : Inv X pins σ H s) (hfp : ∀ b ∈ fp, FpOk X pins H b) (hlt : ∀ b ∈ fp, b < s.heap.objs.size) (tk : Nat) :
    Inv (cxComp X scope (closL X.env scope.names []) (s.heap.objs.size + 1) (tg ++ cap) fp s H) [] (compSt σ tg.length caps) (upd H s.heap.objs.size (.lst []))
      { s with heap := pushCells ((s.heap.push { cls := .type "list", data := .seq ([] : List Value).toArray }).push { cls := .type "dict", data := .dict #[] }) scope.names, toks := tk } := by
  have hasc : ∀ y ∈ scope.names, y.2 = .free → ∃ c, X.env.cells.lookup y.1 = some c := fun y hy h => I.ok.has y.1 (S.fre y hy h)
  have clo : ∀ {n : Str} {c : Addr}, (closL X.env scope.names []).lookup n = some c → X.env.cells.lookup n = some c := fun {n c} e => by
    rcases closL_mem scope.names [] (PySem.mem_of_lookup e) with h | ⟨h1, h2⟩
    · cases h
    · obtain ⟨c', e'⟩ := hasc (n, .free) h1 rfl
      have e'' : X.env.cells.lookup n = some c' := e'
      rw [e''] at h2
      rw [e'', h2]
      rfl
  have D1 : ((s.heap.push { cls := .type "list", data := .seq ([] : List Value).toArray }).push { cls := .type "dict", data := .dict #[] }).objs.size = s.heap.objs.size + 1 + 1 := by rw [Heap.size_push, Heap.size_push]
  have own := cellsFrom_ok scope.names ((s.heap.push { cls := .type "list", data := .seq ([] : List Value).toArray }).push { cls := .type "dict", data := .dict #[] }) (s.heap.objs.size + 1 + 1) [] ⟨fun _ _ hm => (nomatch hm), List.Pairwise.nil⟩ (Nat.le_of_eq D1.symm)
  rw [D1] at own
  have kp : ∀ b o, s.heap.get? b = some o → (pushCells ((s.heap.push { cls := .type "list", data := .seq ([] : List Value).toArray }).push { cls := .type "dict", data := .dict #[] }) scope.names).get? b = some o :=
    fun b o e => pushCells_keeps _ _ b o (Heap.get?_push_of_some _ (Heap.get?_push_of_some _ e))
  have cellE : (cxComp X scope (closL X.env scope.names []) (s.heap.objs.size + 1) (tg ++ cap) fp s H).env.cells = cellsFrom (s.heap.objs.size + 1 + 1) scope.names [] ++ closL X.env scope.names [] := cellsFrom_app _ _ _
  -- a cell is its own, or one from outside
  have two : ∀ {n : Str} {c : Addr}, (cxComp X scope (closL X.env scope.names []) (s.heap.objs.size + 1) (tg ++ cap) fp s H).env.cells.lookup n = some c →
      ((n, c) ∈ cellsFrom (s.heap.objs.size + 1 + 1) scope.names [] ∧ s.heap.objs.size + 1 + 1 ≤ c) ∨ (X.env.cells.lookup n = some c ∧ c < s.heap.objs.size ∧ (cellsFrom (s.heap.objs.size + 1 + 1) scope.names []).lookup n = none) := fun {n c} e => by
    rw [cellE, lookup_app] at e
    cases q : (cellsFrom (s.heap.objs.size + 1 + 1) scope.names []).lookup n with
    | some c' =>
      rw [q] at e
      cases e
      have m := PySem.mem_of_lookup q
      exact .inl ⟨m, (own.empty _ _ m).2⟩
    | none =>
      rw [q] at e
      have e' := clo e
      obtain ⟨v, z⟩ := I.cell n c e'
      exact .inr ⟨e', z.lt, rfl⟩
  have ownl : ∀ {x : Str}, (x, NameKind.cell) ∈ scope.names → ((cellsFrom (s.heap.objs.size + 1 + 1) scope.names []).lookup x).isSome = true := fun {x} h => PySem.W.cellsFrom_some scope.names (s.heap.objs.size + 1 + 1) [] (.inl (S.own (x, .cell) h rfl))
  have ltD : ∀ {b : Addr}, b < s.heap.objs.size → b ≠ s.heap.objs.size := fun h => Nat.ne_of_lt h
  have fresh : ∀ {a : Addr}, s.heap.objs.size ≤ a → H a = none := fun h => I.hok.fresh h
  refine ⟨⟨I.ok.mod, S.kind, I.ok.glob, I.ok.blt, Nat.le_succ _, fun x y c h1 h2 => ?_, fun x hx => ?_, fun x c hf h => ?_, I.ok.hd, I.ok.frames, .inl rfl, fun b hb => ?_, I.bs, Nat.le_trans I.ok.bsz I.sz, fun b o e hb => ?_, fun b hb hs => ?_, I.stack, I.stkFree⟩,
    rfl, I.bare, Un.laid kp (Nat.le_refl _) (fresh (Nat.le_refl _)), ⟨fun _ => none, ?_, fun i x v h1 h2 h3 => ?_⟩, fun x c h => ?_, ?_, fun x c h => ?_, fun p hp => ?_, I.hok.laid kp (Nat.le_refl _) ?_, ?_⟩
  · -- inj
    rcases two h1 with ⟨m1, l1⟩ | ⟨e1, l1, _⟩ <;> rcases two h2 with ⟨m2, l2⟩ | ⟨e2, l2, _⟩
    · exact name_of_addr own.apart m1 m2
    · exact (ad_no l2 l1).elim
    · exact (ad_no l1 l2).elim
    · exact I.ok.inj x y c e1 e2
  · -- has
    have hx' : (relS scope X.env.scope).names.lookup x = some .cell ∨ (relS scope X.env.scope).names.lookup x = some .free := hx
    have mem : ∃ k, (x, k) ∈ scope.names ∧ (k = .cell ∨ k = .free) := by
      have : ∃ k, (x, k) ∈ (relS scope X.env.scope).names ∧ (k = NameKind.cell ∨ k = NameKind.free) := by
        rcases hx' with h | h
        · exact ⟨_, PySem.mem_of_lookup h, .inl rfl⟩
        · exact ⟨_, PySem.mem_of_lookup h, .inr rfl⟩
      obtain ⟨k, hk, hk'⟩ := this
      unfold relS at hk
      obtain ⟨⟨n, k0⟩, h1, h2⟩ := List.mem_map.mp hk
      change (if (k0 == NameKind.free && X.env.scope.kind == .function && X.env.scope.names.lookup n == some .cell) = true then (n, NameKind.cell) else (n, k0)) = (x, k) at h2
      by_cases hc : (k0 == NameKind.free && X.env.scope.kind == .function && X.env.scope.names.lookup n == some .cell) = true
      · rw [if_pos hc] at h2
        cases h2
        simp only [Bool.and_eq_true] at hc
        exact ⟨k0, h1, .inr (by simpa using hc.1.1)⟩
      · rw [if_neg hc] at h2
        cases h2
        exact ⟨k, h1, hk'⟩
    obtain ⟨k, hk, hk'⟩ := mem
    show ∃ c, (cellsFrom (s.heap.objs.size + 1 + 1) scope.names (closL X.env scope.names [])).lookup x = some c
    rw [cellsFrom_app, lookup_app]
    cases q : (cellsFrom (s.heap.objs.size + 1 + 1) scope.names []).lookup x with
    | some c => exact ⟨c, rfl⟩
    | none =>
      rcases hk' with rfl | rfl
      · have z := ownl hk
        rw [q] at z
        cases z
      · exact lookup_of_key (closL_has scope.names [] hk)
  · -- cab
    rcases two h with ⟨_, l⟩ | ⟨e, l, q⟩
    · exact ad_le3 l
    · have hf' : (scope.names.any fun y => y.1 == x && y.2 == .cell) = true := hf
      obtain ⟨⟨n, k⟩, hm, hz⟩ := List.any_eq_true.mp hf'
      simp only [Bool.and_eq_true] at hz
      have e1 : n = x := by simpa using hz.1
      have e2 : k = .cell := by simpa using hz.2
      subst e1 e2
      have z := ownl hm
      rw [q] at z
      cases z
  · -- exf
    refine ⟨?_, fun x c h => ?_⟩
    · exact ad_ne1 (hlt b hb)
    · rcases two h with ⟨_, l⟩ | ⟨e, _, _⟩
      · exact ad_ne2 (hlt b hb) l
      · exact (hfp b hb).2.2.2.2.1 x c e
  · -- noex
    obtain ⟨_, _, _, f3, _⟩ := hfp b hb
    rcases f3 with z | z
    · exact I.ok.noex b o e z
    · exact absurd (Nat.lt_of_lt_of_le (Heap.lt_size e) (Nat.le_trans I.ok.bsz z)) (Nat.lt_irrefl _)
  · -- exfs
    obtain ⟨_, f1, f2, _⟩ := hfp b hb
    rcases List.mem_cons.mp (I.stkSub b hs) with z | z
    · exact f1 z
    · exact f2 z
  · -- the block's names
    have h := (Heap.Ns.new (s.heap.push { cls := .type "list", data := .seq ([] : List Value).toArray }) (.type "dict"))
    rw [Heap.size_push] at h
    exact h.keeps (pushCells_keeps _ _)
  · -- the free names' values
    have hi : tg.length ≤ i := by
      refine Nat.le_of_not_lt fun hi => ?_
      unfold compSt at h2
      rw [List.getElem?_append_left (by simpa using hi), List.getElem?_replicate] at h2
      split at h2 <;> cases h2
    have h1' : cap[i - tg.length]? = some x := by
      have z : (tg ++ cap)[i]? = some x := h1
      rw [List.getElem?_append_right hi] at z
      exact z
    unfold compSt at h2
    rw [List.getElem?_append_right (by simpa using hi), List.length_replicate, List.getElem?_map] at h2
    cases hj : caps[i - tg.length]? with
    | none => rw [hj] at h2; cases h2
    | some j =>
      rw [hj] at h2
      have hv : σ[j]? = some (some v) := by
        have z : (σ[j]?).getD none = some v := Option.some.inj h2
        cases q : σ[j]? with
        | none => rw [q] at z; cases z
        | some o => rw [q] at z; rw [show o = some v from z]
      have hN : X.N[j]? = some x := by
        have z := congrArg (fun l : List (Option Str) => l[i - tg.length]?) S.capi
        simp only [List.getElem?_map, hj, h1', Option.map_some] at z
        exact Option.some.inj z
      obtain ⟨hk0, hk2⟩ := S.capk x (List.mem_of_getElem? h1')
      have hk1 := PySem.mem_of_lookup hk0
      have vis : Vis X.env.scope x := by
        rcases S.fre (x, .free) hk1 rfl with z | z
        · exact .inr (.inl z)
        · exact .inr (.inr z)
      obtain ⟨m, hn, hl⟩ := I.loc
      obtain ⟨u, r, l⟩ := hl j x v hN hv vis
      refine ⟨u, r, ?_⟩
      rcases l with ⟨l1, _⟩ | ⟨_, c, hc, z⟩
      · have l1' : X.env.scope.names.lookup x = some .local := l1
        rcases S.fre (x, .free) hk1 rfl with q | q
        · have q' : X.env.scope.names.lookup x = some .cell := q
          rw [l1'] at q'
          cases q'
        · have q' : X.env.scope.names.lookup x = some .free := q
          rw [l1'] at q'
          cases q'
      · refine .inr ⟨?_, c, ?_, z.keeps kp⟩
        · rcases h3 with q | q | q
          · have q' : (relS scope X.env.scope).names.lookup x = some .local := q
            rw [relS_lookup, hk0, Option.map_some] at q'
            have q'' := Option.some.inj q'
            split at q'' <;> cases q''
          · exact .inl q
          · exact .inr q
        · rw [cellE, lookup_app]
          cases q : (cellsFrom (s.heap.objs.size + 1 + 1) scope.names []).lookup x with
          | some c' => exact absurd (cellsFrom_names _ _ (PySem.mem_of_lookup q)) hk2
          | none =>
            obtain ⟨c', e'⟩ := lookup_of_key (closL_has (env := X.env) scope.names [] hk1)
            rw [e', Option.none_or]
            rw [← clo e', hc]
  · -- cells
    rcases two h with ⟨m, _⟩ | ⟨e, _, _⟩
    · exact ⟨none, (own.empty _ _ m).1⟩
    · obtain ⟨v, z⟩ := I.cell x c e
      exact ⟨v, z.keeps kp⟩
  · show upd H s.heap.objs.size (.lst []) (s.heap.objs.size + 1) = none
    rw [upd_ne (Nat.succ_ne_self _)]
    exact fresh (Nat.le_succ _)
  · show upd H s.heap.objs.size (.lst []) c = none
    rcases two h with ⟨_, l⟩ | ⟨e, l, _⟩
    · rw [upd_ne (ad_ne3 l)]
      exact fresh (ad_le3 l)
    · rw [upd_ne (Nat.ne_of_lt l)]
      exact I.freeC x c e
  · have z : p ∈ ([] : List (Addr × Obj)) := hp
    cases z
  · refine ⟨Nat.zero_le _, [], _, .nil, pushCells_keeps _ _ _ _ (Heap.get?_push_of_some _ (Heap.get?_push_size _ rfl))⟩
  · unfold compSt
    show _ = (tg ++ cap).length
    have z := congrArg List.length S.capi
    rw [List.length_map, List.length_map] at z
    rw [List.length_append, List.length_replicate, List.length_map, List.length_append, z]

/-- the block is left -/
theorem comp_back {scope : Scope} {cl : List (Str × Addr)} {L : Addr} {N : List Str} {fp : List Addr} {σ' : St} {H' : Hp} {s' : Shared} {pins' : List (Addr × Obj)} (I : Inv X pins σ H s) (hfp : ∀ b ∈ fp, FpOk X pins H b)
    (J : Inv (cxComp X scope cl L N fp s H) pins' σ' H' s') : Inv X pins σ H' s' :=
  I.call' J.os J.base J.hok J.bare fun b hb => let ⟨_, f1, _, f3, f4, f5⟩ := hfp b hb; ⟨f3, f1, f4, f5⟩
/-- an untracked object of the block's own is changed behind it -/
theorem comp_gone {L : Addr} {h' : Heap} (I : Inv X pins σ H s) (hL : H L = none) (h1 : X.s₀.heap.objs.size ≤ L) (h2 : L ≠ X.env.locals) (h3 : ∀ x c, X.env.cells.lookup x = some c → c ≠ L) (h4 : ∀ p ∈ X.pn ++ pins, p.1 ≠ L)
    (hs : Heap.SameBut L s.heap h') : Inv X pins σ H { s with heap := h' } :=
  I.turned (t' := s.toks) (fun b o hb e => (hs.2 b hb).trans e) hL h2 (.inr h1) h3 h4

/-- [e for t in it if c]: W i m vs H: turn i, a measure, the values so far, the heap (the list that grows stands in it, at l) -/
def CompRun (J : It) (g : TG) (tt : TT) (te : TE) (σ0 : St) (Q : VK) (H1 : Hp) (l : Addr) : Prop := ∃ W : Nat → Nat → List V → Hp → Prop, (∃ m, W 0 m [] (upd H1 l (.lst []))) ∧
  ∀ i m vs H, W i m vs H → H l = some (.lst vs) ∧ ((J.stop i H ∧ Q (.ref l) H) ∨ (J.go i H ∧ vs.length < sizeLine ∧ ∃ N : List V → Hp → Prop, (∀ vs' H', N vs' H' → ∃ m', m' < m ∧ W (i + 1) m' vs' H') ∧ ∀ x H', J.yld i H x H' →
    g x σ0 H' fun σ2 H2 => tt σ2 H2 fun b H3 => if b = true then te σ2 H3 fun v H4 => H4 l = some (.lst vs) ∧ N (vs ++ [v]) (upd H4 l (.lst (vs ++ [v]))) else N vs H3))
def tComp (wi : TI) (g : TG) (tt : TT) (te : TE) (k : Nat) (caps : List Nat) : TE := fun σ H Q => wi σ H fun J H1 => ∀ l, H1 l = none → CompRun J g tt te (compSt σ k caps) Q H1 l
/-- a target that sets slots below k alone -/
def GK (g : TG) (k : Nat) : Prop := ∀ v σ H Q, g v σ H Q → g v σ H fun σ' H' => Q σ' H' ∧ σ'.length = σ.length ∧ ∀ i, k ≤ i → σ'[i]? = σ[i]?
theorem gk_name {i k : Nat} (h : i < k) : GK (gName i) k := fun v σ H Q q => ⟨q, by simp, fun j hj => List.getElem?_set_ne (by omega)⟩
theorem gk_tup2 {K : PySem.W.Frag} {i j k : Nat} (hi : i < k) (hj : j < k) : GK (gTup K 2 (gCons (gName i) (gCons (gName j) gNil))) k := fun v σ H Q q => by
  obtain ⟨a, xs, e, h1, h2, v1, r1, e1, v2, r2, e2, e3, q⟩ := q
  refine ⟨a, xs, e, h1, h2, v1, r1, e1, v2, r2, e2, e3, q, by simp, fun l hl => ?_⟩
  rw [List.getElem?_set_ne (by omega), List.getElem?_set_ne (by omega)]
/-- no test -/
def tYes : TT := fun _ H Q => Q true H
/-- the tests of a clause -/
def PTs (X : Cx) (ifs : List Expr) (t : TT) : Prop :=
  ∀ (pins : List (Addr × Obj)) (s : Shared) (σ : St) (H : Hp) (Q : Bool → Hp → Prop), Inv X pins σ H s → t σ H Q → wpAny (model X.prog X.w) X.A
    (forIn ifs true fun c r => if r = true then do let ok ← isTrue c X.env (eval c X.env); pure (ForInStep.yield ok) else pure (ForInStep.yield r)) (TP X pins σ Q) X.xe s
theorem pts_nil {X : Cx} : PTs X [] tYes := fun _ _ _ H _ I h => wpAny_tests_nil ⟨H, I, h⟩
theorem pts_one {X : Cx} {c : Expr} {t : TT} (h : PT X c t) : PTs X [c] t := fun pins s σ H Q I q => wpAny_tests_one (h pins s σ H Q I q)
end
section
variable {prog : Program} {w : World} {A : Around} {R : Result → Shared → Prop} {s : Shared}
theorem comp_env {M : Model} {E : Value → Shared → Prop} {scope : Scope} {globals : Addr} {cl : List (Str × Addr)} {qual : Str} {env : Env} {Q : Env → Shared → Prop}
    (h : Q (newEnv scope s.heap.objs.size globals (cellsFrom (s.heap.objs.size + 1) scope.names cl) qual none .none (some env) builtinsNs) { s with heap := pushCells (s.heap.push { cls := .type "dict", data := .dict #[] }) scope.names }) :
    wpAny M A (newFunctionEnv scope globals cl [] qual none .none (some env)) Q E s := by
  simp only [newFunctionEnv, Option.isSome_some, if_true]
  refine wpAny_bind (wpAny_alloc ?_)
  refine wpAny_bind (wpAny_layCells _ (fun name kind cells => by cases hkc : kind == NameKind.cell <;> simp [hkc]) _ _ _ _ ?_)
  rw [show ({ s with heap := s.heap.push { cls := .type "dict", data := .dict #[] } } : Shared).heap.objs.size = s.heap.objs.size + 1 from Heap.size_push ..]
  rw [List.forIn_nil]
  exact wpAny_bind (wpAny_pure (wpAny_pure h))
theorem comp_loop {elt target iter : Expr} {ifs : List Expr} {scope : Scope} {pos : Pos} {it acc : Value} {env : Env} (I : Nat → Shared → Prop)
    (turn : ∀ n s, I n s → wpAny (model prog w) A (pyNext it) (fun r s₁ => match r with
      | none => R (.ok .next) s₁
      | some v => wpAny (model prog w) A (letOwnedTupleGo target it v) (fun _ s₁' => wpAny (model prog w) A (assign target env v) (fun _ s₂ =>
          wpAny (model prog w) A (forIn ifs true fun c r => if r = true then do let ok ← isTrue c env (eval c env); pure (ForInStep.yield ok) else pure (ForInStep.yield r)) (fun ok s₃ =>
            if ok = true then wpAny (model prog w) A (eval elt env) (fun x s₄ =>
              wpAny (model prog w) A (call (.builtin "list.append") [acc, x]) (fun _ s₅ => ∃ m, m < n ∧ I m s₅) (notedBy (model prog w) A env fun e s' => R (.error e) s') s₄) (notedBy (model prog w) A env fun e s' => R (.error e) s') s₃
            else ∃ m, m < n ∧ I m s₃) (notedBy (model prog w) A env fun e s' => R (.error e) s') s₂) (notedBy (model prog w) A env fun e s' => R (.error e) s') s₁') (notedBy (model prog w) A env fun e s' => R (.error e) s') s₁) (notedBy (model prog w) A env fun e s' => R (.error e) s') s)
    (n : Nat) (h : I n s) : codeAny (model prog w) A (.compLoop (.ListComp elt [⟨target, iter, ifs, 0⟩] scope pos) 0 it acc env) R s := by
  refine codeAny_loop rfl I (fun n s hI => ?_) n h
  show wpAny _ A ((compTurn (.ListComp elt [⟨target, iter, ifs, 0⟩] scope pos) 0 it acc env).onRaise (fun x => do noteFrame x env; theTreesLotGoes x)) _ _ s
  refine wpAny_noted ?_
  rw [compTurn_list]
  refine wpAny_bind (wpAny_standAt (wpAny_bind (wpAny_mono (turn n s hI) (fun r s₁ h₁ => ?_) fun _ _ h' => h')))
  cases r with
  | none => exact wpAny_pure h₁
  | some v =>
    refine wpAny_bind (wpAny_mono h₁ (fun _ s₁' h₁' => ?_) fun _ _ h' => h')
    refine wpAny_bind (wpAny_mono h₁' (fun _ s₂ h₂ => wpAny_bind (wpAny_mono h₂ (fun ok s₃ h₃ => ?_) fun _ _ h' => h')) fun _ _ h' => h')
    cases ok with
    | false => exact wpAny_pure ⟨rfl, h₃⟩
    | true =>
      exact wpAny_bind (wpAny_bind (wpAny_mono h₃ (fun x s₄ h₄ => wpAny_bind (wpAny_mono h₄ (fun _ s₅ h₅ => wpAny_pure (wpAny_pure ⟨rfl, h₅⟩)) fun _ _ h' => h')) fun _ _ h' => h'))
end
section
variable {X : Cx} {pins : List (Addr × Obj)} {σ : St} {H : Hp} {s : Shared} {scope : Scope} {tg cap : List Str} {caps : List Nat} {target iter elt : Expr} {ifs : List Expr} {g : TG} {tt : TT} {te : TE} {pos : Pos}
theorem comp_run {RR : Value → Addr → Result → Shared → Prop} {Q : VK} {J : It} {fp : List Addr} {it : Addr} {tn : Nat → Heap → Prop} (S : CompSc X.env.scope X.N scope tg cap caps) (hc : X.calm = true) (gk : GK g tg.length)
    (hg : ∀ cl L ex s H, PG (cxComp X scope cl L (tg ++ cap) ex s H) target g) (ht : ∀ cl L ex s H, PTs (cxComp X scope cl L (tg ++ cap) ex s H) ifs tt) (he : ∀ cl L ex s H, PE (cxComp X scope cl L (tg ++ cap) ex s H) elt te)
    (I : Inv X pins σ H s) (T : Turn X.prog X.w X.K target J fp it tn) (st : tn 0 s.heap) (hfp : ∀ b ∈ fp, FpOk X pins H b)
    (h : ∀ l, H l = none → ∃ W : Nat → Nat → List V → Hp → Prop, (∃ m, W 0 m [] (upd H l (.lst []))) ∧
      ∀ i m vs H, W i m vs H → H l = some (.lst vs) ∧ ((J.stop i H ∧ Q (.ref l) H) ∨ (J.go i H ∧ vs.length < sizeLine ∧ ∃ N : List V → Hp → Prop, (∀ vs' H', N vs' H' → ∃ m', m' < m ∧ W (i + 1) m' vs' H') ∧ ∀ x H', J.yld i H x H' →
        g x (compSt σ tg.length caps) H' fun σ2 H2 => tt σ2 H2 fun b H3 => if b = true then te σ2 H3 fun v H4 => H4 l = some (.lst vs) ∧ N (vs ++ [v]) (upd H4 l (.lst (vs ++ [v]))) else N vs H3)))
    (hRR : ∀ cl L σ' H' s', s.heap.objs.size ≤ L → Inv (cxComp X scope cl L (tg ++ cap) fp s H) [] σ' H' s' → Q (.ref s.heap.objs.size) H' → RR (.ref s.heap.objs.size) L (.ok .next) s') :
    wpAny (model X.prog X.w) X.A (newList []) (fun acc s₃ => wpAny (model X.prog X.w) X.A (newFunctionEnv scope X.env.globals (closL X.env scope.names []) [] X.env.qual none .none (some X.env)) (fun cenv s₄ =>
      codeAny (model X.prog X.w) X.A (.compStart (.ListComp elt [⟨target, iter, ifs, 0⟩] scope pos) 0 (.ref it) acc { cenv with scope := relabel scope X.env }) (RR acc cenv.locals) s₄) X.xe s₃) X.xe s := by
  refine wpAny_newObj_type (comp_env ?_)
  have hlt : ∀ b ∈ fp, b < s.heap.objs.size := fun b hb => let ⟨o, e, _⟩ := T.obj _ _ st b hb; Heap.lt_size e
  have I0 := comp_start S I hfp hlt s.toks
  have hD : H s.heap.objs.size = none := I.hok.fresh (Nat.le_refl _)
  obtain ⟨W, ⟨m0, w0⟩, turn⟩ := h _ hD
  have kp : ∀ b o, s.heap.get? b = some o → (pushCells ((s.heap.push { cls := .type "list", data := .seq ([] : List Value).toArray }).push { cls := .type "dict", data := .dict #[] }) scope.names).get? b = some o :=
    fun b o e => pushCells_keeps _ _ b o (Heap.get?_push_of_some _ (Heap.get?_push_of_some _ e))
  have st0 := T.keep _ _ _ st fun b _ o e => kp b o e
  have fr0 : ∀ b ∈ fp, upd H s.heap.objs.size (.lst []) b = none := fun b hb => by
    rw [upd_ne (Nat.ne_of_lt (hlt b hb))]
    exact (hfp b hb).1
  -- the iterator's objects are the block's
  have stat : ∀ {H' : Hp}, (∀ b ∈ fp, H' b = none) → ∀ b ∈ fp, FpOk (cxComp X scope (closL X.env scope.names []) (s.heap.objs.size + 1) (tg ++ cap) fp s H) [] H' b := fun hn b hb =>
    ⟨hn b hb, (I0.ok.exf b hb).1, I0.ok.exfs b hb, .inl hb, (I0.ok.exf b hb).2, fun p hp => absurd (show p ∈ ([] : List (Addr × Obj)) from hp) (by simp)⟩
  have loop : ∀ s1 : Shared, s1 = { s with heap := pushCells ((s.heap.push { cls := .type "list", data := .seq ([] : List Value).toArray }).push { cls := .type "dict", data := .dict #[] }) scope.names } →
      codeAny (model X.prog X.w) X.A (.compLoop (.ListComp elt [⟨target, iter, ifs, 0⟩] scope pos) 0 (.ref it) (.ref s.heap.objs.size) (cEnv scope (closL X.env scope.names []) (s.heap.objs.size + 1) X.env)) (RR (.ref s.heap.objs.size) (s.heap.objs.size + 1)) s1 := by
    rintro s1 rfl
    refine comp_loop (fun n s' => ∃ i vs H', Inv (cxComp X scope (closL X.env scope.names []) (s.heap.objs.size + 1) (tg ++ cap) fp s H) [] (compSt σ tg.length caps) H' s' ∧ tn i s'.heap ∧ (∀ b ∈ fp, H' b = none) ∧ W i n vs H') ?_ m0 ⟨0, [], _, I0, st0, fr0, w0⟩
    rintro n s3 ⟨i, vs, H3, I3, st3, fr3, w3⟩
    obtain ⟨hl, turn3⟩ := turn i n vs H3 w3
    rcases turn3 with ⟨stop, q⟩ | ⟨go, hz, N, hN, step⟩
    · refine wpAny_mono (T.done (cxComp X scope (closL X.env scope.names []) (s.heap.objs.size + 1) (tg ++ cap) fp s H) rfl rfl rfl hc i [] s3 _ H3 (fun _ _ => False) I3 (stat fr3) st3 stop) (fun r s4 ⟨hr, I4⟩ => ?_) fun _ _ f => f.elim
      subst hr
      exact hRR _ _ _ _ _ (Nat.le_succ _) I4 q
    · refine wpAny_mono (T.item (cxComp X scope (closL X.env scope.names []) (s.heap.objs.size + 1) (tg ++ cap) fp s H) rfl rfl rfl hc i [] s3 _ H3 (fun _ _ => False) I3 (stat fr3) st3 go) (fun r s4 ⟨u, hr, h4⟩ => ?_) fun _ _ f => f.elim
      subst hr
      refine wpAny_mono h4 (fun _ s5 ⟨x, H5, I5, r5, y5, st5, fr5⟩ => ?_) fun _ _ f => f.elim
      have I5' := I5.pinned (stat fr5) (T.obj _ _ st5)
      refine wpAny_mono (hg _ _ _ _ _ _ s5 _ H5 x u _ I5' r5 (gk _ _ _ _ (step x H5 y5))) (fun _ s6 ⟨σ6, H6, I6, q6, len6, keep6⟩ => ?_) fun _ _ f => f.elim
      refine wpAny_mono (ht _ _ _ _ _ _ s6 σ6 H6 _ I6 q6) (fun ok s7 ⟨H7, I7, q7⟩ => ?_) fun _ _ f => f.elim
      have again : ∀ {σ8 : St} {H8 : Hp} {s8 : Shared} {vs' : List V} {m' : Nat}, Inv (cxComp X scope (closL X.env scope.names []) (s.heap.objs.size + 1) (tg ++ cap) fp s H) ([] ++ pinsAt fp s5.heap) σ8 H8 s8 → σ8 = σ6 → m' < n → W (i + 1) m' vs' H8 →
          ∃ m, m < n ∧ ∃ i vs H', Inv (cxComp X scope (closL X.env scope.names []) (s.heap.objs.size + 1) (tg ++ cap) fp s H) [] (compSt σ tg.length caps) H' s8 ∧ tn i s8.heap ∧ (∀ b ∈ fp, H' b = none) ∧ W i m vs H' := fun {σ8 H8 s8 vs' m'} I8 e8 hm w8 => by
        refine ⟨m', hm, i + 1, vs', H8, ?_, T.keep _ _ _ st5 fun b hb o e => (I8.pin (b, o) (List.mem_append_right _ (List.mem_append_right _ (mem_pinsAt hb e)))).1, fun b hb => ?_, w8⟩
        · subst e8
          refine I8.unpinned.weak len6.symm fun j v e => ?_
          by_cases hj : tg.length ≤ j
          · rw [keep6 j hj]
            exact e
          · unfold compSt at e
            rw [List.getElem?_append_left (by rw [List.length_replicate]; omega), List.getElem?_replicate] at e
            split at e <;> cases e
        · obtain ⟨o, e, d⟩ := T.obj _ _ st5 b hb
          exact (I8.pin (b, o) (List.mem_append_right _ (List.mem_append_right _ (mem_pinsAt hb e)))).2.1
      cases ok with
      | false =>
        rw [if_neg Bool.false_ne_true] at q7 ⊢
        obtain ⟨m', hm, w8⟩ := hN _ _ q7
        exact again I7 rfl hm w8
      | true =>
        rw [if_pos rfl] at q7 ⊢
        refine wpAny_mono (he _ _ _ _ _ _ s7 σ6 H7 _ I7 q7) (fun y s8 ⟨v, H8, I8, r8, hl8, n8⟩ => ?_) fun _ _ f => f.elim
        refine wpAny_mono (mt_append (X := cxComp X scope (closL X.env scope.names []) (s.heap.objs.size + 1) (tg ++ cap) fp s H) _ s8 σ6 H8 (.ref s.heap.objs.size) [v] (.ref s.heap.objs.size) [y]
          (fun _ H9 => H9 = upd H8 s.heap.objs.size (.lst (vs ++ [v]))) I8 rfl (.cons r8 .nil) ⟨_, vs, v, rfl, rfl, hl8, hz, rfl⟩) (fun _ s9 ⟨z, H9, I9, _, e9⟩ => ?_) fun _ _ f => f.elim
        subst e9
        obtain ⟨m', hm, w8⟩ := hN _ _ n8
        exact again I9 rfl hm w8
  have hsz : (s.heap.push { cls := .type "list", data := .seq ([] : List Value).toArray }).objs.size = s.heap.objs.size + 1 := Heap.size_push ..
  dsimp only [newEnv]
  rw [hsz]
  exact codeAny_compStart_list (loop _ rfl) (T.self _ 0 _ _ _ st0 (loop _ rfl))

/-- what a comprehension leaves, as a value -/
theorem pe_comp {wi : TI} (S : CompSc X.env.scope X.N scope tg cap caps) (hc : X.calm = true) (gk : GK g tg.length) (hi : PI X target iter wi)
    (hg : ∀ cl L ex s H, PG (cxComp X scope cl L (tg ++ cap) ex s H) target g) (ht : ∀ cl L ex s H, PTs (cxComp X scope cl L (tg ++ cap) ex s H) ifs tt) (he : ∀ cl L ex s H, PE (cxComp X scope cl L (tg ++ cap) ex s H) elt te)
    (hs : ∀ x, foldedSetIterable iter X.env x = pure x := by intro _; rfl) : PE X (.ListComp elt [⟨target, iter, ifs, 0⟩] scope pos) (tComp wi g tt te tg.length caps) := by
  intro pins s σ H Q I h
  rw [eval_ListComp]
  have hasc : ∀ y ∈ scope.names, y.2 = .free → ∃ c, X.env.cells.lookup y.1 = some c := fun y hy h => I.ok.has y.1 (S.fre y hy h)
  refine wpAny_comprehension_free (use := none) rfl hs (closure_for hasc) S.kind S.loc (thn (hi pins s σ H _ I h) fun v s1 h1 => thn h1 fun itv s2 h2 => ?_)
  obtain ⟨it, fp, tn, J, H2, e, I2, T, st2, f2, h2⟩ := h2
  subst e
  refine comp_run (RR := fun acc C => compPost (model X.prog X.w) X.A X.xe none (EP X pins σ Q) acc C) S hc gk hg ht he I2 T st2 f2 h2 ?_
  intro cl L σ' H' s' hL J' q
  obtain ⟨m, hn, _⟩ := J'.loc
  have I' := comp_back I2 f2 J'
  refine ⟨m, hn, fun h' hs' => ⟨.ref s2.heap.objs.size, H', comp_gone I' J'.free (Nat.le_trans I2.sz hL) (Nat.ne_of_gt (Nat.lt_of_lt_of_le I2.lt hL)) (fun x c e z => ?_) (fun p hp z => ?_) hs', rfl, q⟩⟩
  · obtain ⟨v, w'⟩ := I2.cell x c e
    exact ad_ne4 w'.lt hL z
  · exact ad_ne4 (Heap.lt_size (I2.pin p hp).1) hL z

/-- name = [..], the store within the comprehension's end -/
theorem ps_setComp {wi : TI} {i : Nat} {y : Str} {py spos : Pos} (hN : X.N.Nodup) (hi' : X.N[i]? = some y) (hx : Loc X.env.scope y) (S : CompSc X.env.scope X.N scope tg cap caps) (hc : X.calm = true) (gk : GK g tg.length) (hi : PI X target iter wi)
    (hg : ∀ cl L ex s H, PG (cxComp X scope cl L (tg ++ cap) ex s H) target g) (ht : ∀ cl L ex s H, PTs (cxComp X scope cl L (tg ++ cap) ex s H) ifs tt) (he : ∀ cl L ex s H, PE (cxComp X scope cl L (tg ++ cap) ex s H) elt te)
    (hsw : swapsWith (.ListComp elt [⟨target, iter, ifs, 0⟩] scope pos) (some (.Name y py)) spos.line X.env = pure true := by rfl)
    (hf : X.fn y = true ∨ X.env.scope.names.lookup y = some .local := by first | exact .inl rfl | exact .inr rfl | assumption)
    (hs : ∀ x, foldedSetIterable iter X.env x = pure x := by intro _; rfl) : PS X (.Assign [.Name y py] (.ListComp elt [⟨target, iter, ifs, 0⟩] scope pos) spos) (tAsg (tComp wi g tt te tg.length caps) (gName i)) := by
  intro pins s σ H D I h
  rw [exec_Assign_Name_used _ _ _ _ hsw]
  refine wpAny_bind (wpAny_standAt (wpAny_bind ?_))
  show wpAny _ X.A (do let _ ← comprehension (.ListComp elt [⟨target, iter, ifs, 0⟩] scope pos) scope X.env _ (newList []) false (eval iter X.env) (some (assign (.Name y py) X.env))) _ _ s
  have hasc : ∀ y ∈ scope.names, y.2 = .free → ∃ c, X.env.cells.lookup y.1 = some c := fun y hy h => I.ok.has y.1 (S.fre y hy h)
  refine wpAny_bind (wpAny_mono (wpAny_comprehension_free (use := some (assign (.Name y py) X.env)) (Q := fun _ s' => SP X pins D .next s') rfl hs (closure_for hasc) S.kind S.loc (thn (hi pins s σ H _ I h) fun v s1 h1 => thn h1 fun itv s2 h2 => ?_))
    (fun _ s' hq => wpAny_pure (wpAny_pure hq)) fun _ _ e => e)
  obtain ⟨it, fp, tn, J, H2, e, I2, T, st2, f2, h2⟩ := h2
  subst e
  refine comp_run (Q := fun x H1 => gName i x σ H1 D.nx) (RR := fun acc C => compPost (model X.prog X.w) X.A X.xe (some (assign (.Name y py) X.env)) (fun _ s' => SP X pins D .next s') acc C) S hc gk hg ht he I2 T st2 f2 h2 ?_
  intro cl L σ' H' s' hL J' q
  obtain ⟨m, hn, _⟩ := J'.loc
  have I' := comp_back I2 f2 J'
  show wpAny _ X.A (assign (.Name y py) X.env (.ref s2.heap.objs.size)) _ _ s'
  refine wpAny_assign_Name (store_ok2 (v := .ref s2.heap.objs.size) I' hN hi' hx rfl (fun s3 I3 ⟨a, sb, ha⟩ => ?_) hf)
  have hLa : L ≠ a := by
    rcases ha with ha | ha
    · rw [ha]
      exact Nat.ne_of_gt (Nat.lt_of_lt_of_le I2.lt hL)
    · obtain ⟨v, w'⟩ := I2.cell y a ha
      exact (ad_ne4 w'.lt hL).symm
  refine ⟨m, hn.sameBut sb hLa, fun h' hs' => ⟨_, H', comp_gone I3 J'.free (Nat.le_trans I2.sz hL) (Nat.ne_of_gt (Nat.lt_of_lt_of_le I2.lt hL)) (fun x c e z => ?_) (fun p hp z => ?_) hs', q⟩⟩
  · obtain ⟨v, w'⟩ := I2.cell x c e
    exact ad_ne4 w'.lt hL z
  · exact ad_ne4 (Heap.lt_size (I2.pin p hp).1) hL z
/-! ### the forms one uses -/
/-- over a list that the turns leave as it is: the values so far by the turn -/
theorem comp_list {K : PySem.W.Frag} {a : Addr} {xs : List V} {g : TG} {tt : TT} {te : TE} {σ0 : St} {Q : VK} {H1 : Hp} {l : Addr} (Pv : Nat → List V → Hp → Prop) (h0 : Pv 0 [] (upd H1 l (.lst [])))
    (hl : ∀ i vs H, i ≤ xs.length → Pv i vs H → SqL K H a xs ∧ H l = some (.lst vs) ∧ vs.length ≤ i) (hz : xs.length ≤ sizeLine)
    (ht : ∀ i x vs H, xs[i]? = some x → Pv i vs H → g x σ0 H fun σ2 H2 => tt σ2 H2 fun b H3 => if b = true then te σ2 H3 fun v H4 => H4 l = some (.lst vs) ∧ Pv (i + 1) (vs ++ [v]) (upd H4 l (.lst (vs ++ [v]))) else Pv (i + 1) vs H3)
    (he : ∀ vs H, Pv xs.length vs H → Q (.ref l) H) :
    CompRun (Itl K a) g tt te σ0 Q H1 l := by
  refine ⟨fun i m vs H => m = xs.length - i ∧ i ≤ xs.length ∧ Pv i vs H, ⟨xs.length, by simp, Nat.zero_le _, h0⟩, ?_⟩
  rintro i m vs H ⟨rfl, hi, p⟩
  obtain ⟨q, q1, q2⟩ := hl i vs H hi p
  refine ⟨q1, ?_⟩
  by_cases hlt : i < xs.length
  · refine .inr ⟨⟨xs, xs[i], q, by simp [hlt]⟩, by omega, Pv (i + 1), fun vs' H' p' => ⟨xs.length - (i + 1), by omega, rfl, hlt, p'⟩, fun x H' y => ?_⟩
    obtain ⟨e, y⟩ := y
    subst e
    exact ht i x vs _ (y xs q) p
  · have e : i = xs.length := by omega
    subst e
    exact .inl ⟨⟨xs, q, Nat.le_refl _⟩, he vs H p⟩
theorem comp_tup {K : PySem.W.Frag} {a : Addr} {xs : List V} {g : TG} {tt : TT} {te : TE} {σ0 : St} {Q : VK} {H1 : Hp} {l : Addr} (Pv : Nat → List V → Hp → Prop) (h0 : Pv 0 [] (upd H1 l (.lst [])))
    (hl : ∀ i vs H, i ≤ xs.length → Pv i vs H → SqT K H a xs ∧ H l = some (.lst vs) ∧ vs.length ≤ i) (hz : xs.length ≤ sizeLine)
    (ht : ∀ i x vs H, xs[i]? = some x → Pv i vs H → g x σ0 H fun σ2 H2 => tt σ2 H2 fun b H3 => if b = true then te σ2 H3 fun v H4 => H4 l = some (.lst vs) ∧ Pv (i + 1) (vs ++ [v]) (upd H4 l (.lst (vs ++ [v]))) else Pv (i + 1) vs H3)
    (he : ∀ vs H, Pv xs.length vs H → Q (.ref l) H) :
    CompRun (Itt K a) g tt te σ0 Q H1 l := by
  refine ⟨fun i m vs H => m = xs.length - i ∧ i ≤ xs.length ∧ Pv i vs H, ⟨xs.length, by simp, Nat.zero_le _, h0⟩, ?_⟩
  rintro i m vs H ⟨rfl, hi, p⟩
  obtain ⟨q, q1, q2⟩ := hl i vs H hi p
  refine ⟨q1, ?_⟩
  by_cases hlt : i < xs.length
  · refine .inr ⟨⟨xs, xs[i], q, by simp [hlt]⟩, by omega, Pv (i + 1), fun vs' H' p' => ⟨xs.length - (i + 1), by omega, rfl, hlt, p'⟩, fun x H' y => ?_⟩
    obtain ⟨e, y⟩ := y
    subst e
    exact ht i x vs _ (y xs q) p
  · have e : i = xs.length := by omega
    subst e
    exact .inl ⟨⟨xs, q, Nat.le_refl _⟩, he vs H p⟩
theorem comp_range {lo : Int} {n : Nat} {g : TG} {tt : TT} {te : TE} {σ0 : St} {Q : VK} {H1 : Hp} {l : Addr} (Pv : Nat → List V → Hp → Prop) (h0 : Pv 0 [] (upd H1 l (.lst [])))
    (hl : ∀ i vs H, i ≤ n → Pv i vs H → H l = some (.lst vs) ∧ vs.length ≤ i) (hz : n ≤ sizeLine)
    (ht : ∀ i vs H, i < n → Pv i vs H → g (.int (lo + i)) σ0 H fun σ2 H2 => tt σ2 H2 fun b H3 => if b = true then te σ2 H3 fun v H4 => H4 l = some (.lst vs) ∧ Pv (i + 1) (vs ++ [v]) (upd H4 l (.lst (vs ++ [v]))) else Pv (i + 1) vs H3)
    (he : ∀ vs H, Pv n vs H → Q (.ref l) H) :
    CompRun (Itr lo n) g tt te σ0 Q H1 l := by
  refine ⟨fun i m vs H => m = n - i ∧ i ≤ n ∧ Pv i vs H, ⟨n, by simp, Nat.zero_le _, h0⟩, ?_⟩
  rintro i m vs H ⟨rfl, hi, p⟩
  obtain ⟨q1, q2⟩ := hl i vs H hi p
  refine ⟨q1, ?_⟩
  by_cases hlt : i < n
  · refine .inr ⟨hlt, by omega, Pv (i + 1), fun vs' H' p' => ⟨n - (i + 1), by omega, rfl, hlt, p'⟩, fun x H' y => ?_⟩
    obtain ⟨e, y⟩ := y
    subst e y
    exact ht i vs _ hlt p
  · have e : i = n := by omega
    subst e
    exact .inl ⟨Nat.le_refl _, he vs H p⟩
end
end L2

/-! ### EXTENSION 3: own exceptions: raised, passing, caught -/
namespace L2
open PySem PySem.Spec PyProof.Rows

theorem ObjOk.at {P : Program} {w : World} {H : Hp} {h : Heap} {a : Addr} {o : HO} (x : ObjOk P w H h a o) : ∃ ob, h.get? a = some ob := by
  cases o with
  | lst xs => obtain ⟨_, _, _, _, e⟩ := x; exact ⟨_, e⟩
  | tup xs => obtain ⟨_, _, _, ob, e, _⟩ := x; exact ⟨_, e⟩
  | dK kvs => obtain ⟨_, _, _, _, ob, _, _, e, _⟩ := x; exact ⟨_, e⟩
  | dT kvs => obtain ⟨_, _, _, _, ob, _, _, e, _⟩ := x; exact ⟨_, e⟩
  | set S n => obtain ⟨ob, _, _, _, e, _⟩ := x; exact ⟨_, e⟩
  | ins C dx fs => obtain ⟨_, _, _, e, _⟩ := x; exact ⟨_, e⟩
  | own y => exact x
  | xd fs => obtain ⟨_, ⟨_, _, _, e, _⟩, _⟩ := x; exact ⟨_, e⟩
  | rng lo hi => obtain ⟨_, _, _, e⟩ := x; exact ⟨_, e⟩
  | frz ob u => obtain ⟨e, _⟩ := x; exact ⟨_, e⟩
  | tbl ps => exact ⟨_, (show h.get? a = some _ from x)⟩
  | met f y => exact ⟨_, (show h.get? a = some _ from x)⟩
  | ext φ => obtain ⟨_, e, _⟩ := x; exact e

/-- an instance of the own class at C flies; H, h: ahead of the call; H', h': now. B: what stays -/
structure Fly (P : Program) (w : World) (outer : List Env) (H : Hp) (h : Heap) (H' : Hp) (h' : Heap) (a C : Addr) : Prop where
  ex : ∃ (B : Heap) (a0 : Value), Heap.FlyingW B outer a (.ref C) a0 h' ∧ (∀ b u, H' b = some u → ∃ o, B.get? b = some o) ∧
    ∀ b o, h.get? b = some o → b ∉ frs outer → ∃ o', B.get? b = some o' ∧ (H b = none → o' = o)
  un : Un (frs outer) [] H H' h h'
  hok : HOk P w H' h'
/-- how an own exception lies behind a call -/
def CXE (P : Program) (w : World) : CXT := fun outer H s E e s' => ∃ (a C : Addr) (H' : Hp), e = .ref a ∧ s'.os = s.os ∧ AllBare s'.gens ∧ Fly P w outer H s.heap H' s'.heap a C ∧ E (.ref C) none H'

section
variable {X : Cx} {pins : List (Addr × Obj)} {σ : St} {H H' : Hp} {s : Shared}
/-- the frame is left: what was true behind the inner call is true behind this one -/
theorem fly_on {h2 h3 : Heap} {B : Heap} {a C : Addr} {a0 : Value} (I : Inv X pins σ H s) (hex : X.ex = []) (hst : X.stack = X.env :: X.outer) (u2 : Un (frs X.stack) [] H H' s.heap h2) (hok : HOk X.prog X.w H' h2)
    (trk : ∀ b u, H' b = some u → ∃ o, B.get? b = some o) (cov : ∀ b o, s.heap.get? b = some o → b ∉ frs X.stack → ∃ o', B.get? b = some o' ∧ (H b = none → o' = o)) (hB : B.StaysIn h2)
    (fl : Heap.FlyingW B X.outer a (.ref C) a0 h3) (up : h2.UpToSlots h3) : Fly X.prog X.w X.outer X.H₀ X.s₀.heap H' h3 a C := by
  have hx : ∀ b : Addr, b ∉ X.ex := fun b z => by rw [hex] at z; cases z
  have new : ∀ b o, X.s₀.heap.get? b = some o → b ≠ X.env.locals := fun b o e => Nat.ne_of_lt (Nat.lt_of_lt_of_le (Heap.lt_size e) I.ok.above)
  have nst : ∀ b o, X.s₀.heap.get? b = some o → b ∉ X.fs → b ∉ frs X.stack := fun b o e hb z => by
    rcases List.mem_cons.mp (I.stkSub b z) with q | q
    · exact new b o e q
    · exact hb q
  have sub : ∀ b, b ∈ X.fs → b ∈ frs X.stack := fun b hb => by
    rw [hst]
    unfold frs
    rw [List.filterMap_cons]
    split
    · exact hb
    · exact List.mem_cons_of_mem _ hb
  have n0 : ∀ b : Addr, b ∉ ([] : List Addr) := fun b => by simp
  refine ⟨⟨B, a0, fl, trk, fun b o e hb => ?_⟩, ⟨fun b o e n hb _ => ?_, fun b o e n hb _ => ?_, fun b o e n _ => ?_, fun b o e _ => ?_, fun b xs e => u2.tups b xs (I.base.tups b xs e), fun b o u e => u2.frzs b o u (I.base.frzs b o u e), fun b ps e => ?_⟩, fun b u e => ?_⟩
  · obtain ⟨o1, e1⟩ := I.base.there b o e (hx b)
    obtain ⟨o', eB, q⟩ := cov b o1 e1 (nst b o e hb)
    refine ⟨o', eB, fun n => ?_⟩
    have e2 := I.base.keep b o e n hb (hx b)
    rw [e1] at e2
    cases e2
    exact q (I.base.free b o e n (hx b))
  · have e1 := I.base.keep b o e n hb (hx b)
    obtain ⟨o', eB, q⟩ := cov b o e1 (nst b o e hb)
    rw [← q (I.base.free b o e n (hx b))]
    exact fl.1 b o' eB
  · obtain ⟨sl, e1⟩ := I.base.slot b o e n hb (hx b)
    obtain ⟨sl2, e2⟩ := u2.slot b _ e1 (I.base.free b o e n (hx b)) (sub b hb) (n0 b)
    obtain ⟨_, o0, ho0, hd⟩ := I.ok.funs.mem hb
    rw [e] at ho0
    cases ho0
    obtain ⟨sl3, e3⟩ := up b _ e2 hd
    exact ⟨sl3, e3⟩
  · obtain ⟨o1, e1⟩ := I.base.there b o e (hx b)
    exact u2.free b o1 e1 (I.base.free b o e n (hx b)) (n0 b)
  · obtain ⟨o1, e1⟩ := I.base.there b o e (hx b)
    by_cases hb : b ∈ frs X.stack
    · obtain ⟨_, o0, ho0, hd⟩ := I.stack.mem hb
      rw [e1] at ho0
      cases ho0
      obtain ⟨sl2, e2⟩ := u2.slot b _ e1 (I.stkFree b hb) hb (n0 b)
      obtain ⟨sl3, e3⟩ := up b _ e2 hd
      exact ⟨_, e3⟩
    · obtain ⟨o', eB, _⟩ := cov b o1 e1 hb
      exact ⟨o', fl.1 b o' eB⟩
  · obtain ⟨m1, e1⟩ := I.base.tbls b ps e
    obtain ⟨m2, e2⟩ := u2.tbls b _ e1
    exact ⟨m1 ++ m2, by rw [e2, Array.append_assoc]⟩
  · refine (hok b u e).stay (fun c v hc q => ?_) (fun _ q => q) fun _ _ q => q
    have tc : ∃ o, B.get? c = some o := by
      rcases hc with z | z
      · rw [z]
        exact trk b u e
      · exact trk c _ z
    obtain ⟨o, eo⟩ := tc
    have q' := hB c o eo
    rw [q] at q'
    cases q'
    exact fl.1 c v eo
end

section
variable {P : Program} {w : World} {K : PySem.W.Frag} {mg : Str → Option Value} {base : Heap} {N : List Str} {qual : Str} {scope : Scope} {f : Addr} {cd : Value} {A : Around} {outer : List Env} {s : Shared} {H : Hp} {E : XK}
/-- a callee's exception passes through a def's body -/
theorem passE : Passes (CXE P w) (cxOf (CXE P w) P w K mg base N qual scope f cd A outer s H E) E := by
  intro pins σ H1 s1 e s' I h
  obtain ⟨a, C, H', rfl, os, bare, F, q⟩ := h
  obtain ⟨⟨B, a0, fl, trk, cov⟩, un, hok⟩ := F
  show wpAny _ _ (leaving (envOfC qual scope s.heap.objs.size f cd) (.ref a)) _ _ s'
  refine wpAny_leaves_onW (outer := outer) I.ok.frames rfl fl fun h3 fl3 up => ?_
  exact ⟨a, C, H', rfl, os.trans I.os, bare, fly_on I rfl rfl un hok trk cov fl.1 fl3 up, q⟩
/-- no exception is wished for -/
theorem passN {X : Cx} : Passes (CXE P w) X (fun _ _ _ => False) := fun _ _ _ _ _ _ _ h => by
  obtain ⟨_, _, _, _, _, _, _, q⟩ := h
  exact q.elim
/-- a new exception leaves a def's body -/
theorem raiseE {pins : List (Addr × Obj)} {σ : St} {H1 : Hp} {s1 : Shared} {h' : Heap} {e C : Addr} {vs : List Value} (I : Inv (cxOf (CXE P w) P w K mg base N qual scope f cd A outer s H E) pins σ H1 s1) (hx : Heap.MadeExcOf s1.heap h' e (.ref C) vs) (q : E (.ref C) none H1) :
    (cxOf (CXE P w) P w K mg base N qual scope f cd A outer s H E).xe (.ref e) { s1 with heap := h' } := by
  show wpAny _ _ (leaving (envOfC qual scope s.heap.objs.size f cd) (.ref e)) _ _ { s1 with heap := h' }
  have fin : ∀ env ∈ (envOfC qual scope s.heap.objs.size f cd :: outer), ∀ b, env.frame = some b → b ∈ frs (envOfC qual scope s.heap.objs.size f cd :: outer) := fun env he b hb => List.mem_filterMap.mpr ⟨env, he, hb⟩
  have hl := PySem.W.funFrames_hide (show s1.heap.FunFrames base (envOfC qual scope s.heap.objs.size f cd :: outer) from I.stack) fin
  refine wpAny_leaves_madeW (outer := outer) (h := s1.heap) (base := PySem.W.hideAll s1.heap (frs (envOfC qual scope s.heap.objs.size f cd :: outer))) I.ok.frames rfl (fun b o q => PySem.W.of_hideAll _ q) hl hx fun h3 t fl3 _ _ up => ?_
  have ne : ∀ b u, H1 b = some u → b ∉ frs (envOfC qual scope s.heap.objs.size f cd :: outer) := fun b u e z => by
    have n := I.stkFree b z
    rw [e] at n
    cases n
  refine ⟨e, C, H1, rfl, I.os, I.bare, fly_on I rfl rfl (Un.kept hx.keeps) (I.hok.kept hx.keeps) (fun b u eb => ?_) (fun b o eb hb => ⟨o, PySem.W.hideAll_get _ eb hb, fun _ => rfl⟩) (fun b o q => hx.keeps b o (PySem.W.of_hideAll _ q)) fl3 up, q⟩
  obtain ⟨o, eo⟩ := (I.hok b u eb).at
  exact ⟨o, PySem.W.hideAll_get _ eo (ne b u eb)⟩
end

/-- the own classes under ValueError -/
abbrev bmV : List Value := [.type "ValueError", .type "Exception", .type "BaseException", .type "object"]
/-- what a class that is raised must have -/
structure ExcCls (K : PySem.W.Frag) (C : Addr) : Prop where
  is : PySem.W.excIn K C bmV "ValueError.__new__" = true
theorem ExcCls.obj {K : PySem.W.Frag} {C : Addr} {h : Heap} (X : ExcCls K C) (k : K.In h) :
    ∃ bm N nm q bs hdct sn sub ab col dd k0 k1 k2 k3 k5 mN, h.get? C = some (excClassObj nm q C N bs bm hdct sn sub ab col dd k0 k1 k2 k3 k5 "ValueError.__new__") ∧ h.Ns N mN ∧ mN "__init__" = none ∧ OwnTail h bmV bm := by
  have q := X.is
  unfold PySem.W.excIn at q
  cases e : K.lookup C with
  | none =>
    rw [e] at q
    exact absurd q Bool.false_ne_true
  | some ob =>
    rw [e] at q
    have eh := k C ob e
    split at q
    · rename_i dd cd sl z
      cases z
      split at q
      · rename_i C' bm x0 x1 x2 x3 n x5 hm hs
        simp only [Bool.and_eq_true, beq_iff_eq, Bool.not_eq_true'] at q
        obtain ⟨⟨⟨⟨⟨r1, r2⟩, r3⟩, r4⟩, r5⟩, r6⟩ := q
        subst r1 r2
        cases cd
        cases sl
        dsimp only at hm hs r3 r5 r6
        subst hm hs r3
        exact ⟨bm, _, _, _, _, _, _, _, _, _, _, _, _, _, _, _, _, eh, .of_isNs (PySem.W.isNs_of_in k r5), PySem.W.nsMap_none_of_in k r5 r6, PySem.W.tail_of_in k r4⟩
      · cases q
    · cases q

section
variable {P : Program} {w : World} {K : PySem.W.Frag} {mg : Str → Option Value} {base : Heap} {N : List Str} {qual : Str} {scope : Scope} {f : Addr} {cd : Value} {A : Around} {outer : List Env} {s : Shared} {H : Hp} {E : XK}
  {x : Str} {C : Addr} {np cpos pos : Pos} {e : Expr} {es : List Expr} {t : TA}
/-- raise C(..) -/
def tRaise (E : XK) (C : Addr) (t : TA) : TS := fun _ σ H => t σ H fun vs H1 => vs.length ≤ sizeLine ∧ E (.ref C) none H1
theorem ps_raise (hC : ExcCls K C) (hm : mg x = some (.ref C)) (hg : Gl (cxOf (CXE P w) P w K mg base N qual scope f cd A outer s H E) x) (ha : PA (cxOf (CXE P w) P w K mg base N qual scope f cd A outer s H E) (e :: es) t)
    (hdb : (x == ("__debug__" : Str)) = false := by decide)
    (he : starEach (e :: es) (cxOf (CXE P w) P w K mg base N qual scope f cd A outer s H E).env = (false, eval e (cxOf (CXE P w) P w K mg base N qual scope f cd A outer s H E).env) :: starEach es (cxOf (CXE P w) P w K mg base N qual scope f cd A outer s H E).env := by rfl)
    (hpl : (backTo cpos (starEach es (cxOf (CXE P w) P w K mg base N qual scope f cd A outer s H E).env)).any (·.1) = false := by rfl) :
    PS (cxOf (CXE P w) P w K mg base N qual scope f cd A outer s H E) (.Raise (some (.Call (.Name x np) (e :: es) [] cpos)) none pos) (tRaise E C t) := by
  intro pins s1 σ H1 D I h
  obtain ⟨bm, NN, nm, q, bs, hdct, sn, sub, ab, col, dd, k0, k1, k2, k3, k5, mN, h1, h2, h3, T⟩ := hC.obj I.ok.mod.kin
  refine wpAny_Raise_call_subU (C := C) (nm := nm) (q := q) (N := NN) (bs := bs) (bm := bm) (hdct := hdct) (sn := sn) (sub := sub) (ab := ab) (col := col) (dd := dd) (k0 := k0) (k1 := k1) (k2 := k2) (k3 := k3) (k5 := k5)
    PySem.F.excBase_ValueError (by decide +kernel) PySem.F.excBase_ValueError (mN := mN) (T.hasType PySem.F.excBase_ValueError.hasBase) (I.ok.hd rfl) ?_ h3 (ld_glob I hg hm ⟨rfl, ?_⟩ hdb)
  · rw [he]
    exact hpl
  · have ha' := ha cpos pins s1 σ H1 _ I h
    rw [he] at ha' ⊢
    exact Calls.evalArgs_plain (thn ha' fun us s2 ⟨vs, H2, I2, r, hz, q⟩ => ⟨rfl, by rw [← r.length]; exact hz, I2.bk _ _ h1, h2.keeps I2.bk, T.keeps I2.bk, fun h' ex hx => raiseE I2 hx q⟩)
end

/-! ### defs that raise -/
section
variable {P : Program} {w : World} {K : PySem.W.Frag} {mg : Str → Option Value} {base : Heap}
theorem Fun.okE {x qual : Str} {st : Stmt} {f : Addr} {fd : FuncData} {N ps : List Str} {k : Nat} {sp : Sp} (F : Fun K x qual st f fd) (S : FnScope N ps (defScope st)) (len : ∀ vs H Q E, sp vs H Q E → vs.length = ps.length)
    (hbody : ∀ (cdv : Value) (A : Around) (outer : List Env) (s : Shared) (H : Hp) (vs : List V) (Q : VK) (E : XK), Room k (A.deeper (envOfC qual (defScope st) s.heap.objs.size f cdv)) → sp vs H Q E →
      ∃ t, PSs (cxOf (CXE P w) P w K mg base N qual (defScope st) f cdv A outer s H E) (defBody st) t ∧ t { nx := fun _ H' => Q .non H', rt := Q } (start N vs) H) : FnOk P w K mg base (CXE P w) (k + 1) f fd ps sp := by
  obtain ⟨oc, od, kV, doc, pm, an, cdv, ct, osl, rfl, lk, hcd⟩ := F.ex
  exact fn_of lk hcd S len fun A outer s H vs Q E hr hsp => hbody cdv A outer s H vs Q E hr hsp
theorem Def.ownE {x qual : Str} {st : Stmt} {ps N : List Str} {k : Nat} {sp : Sp} (D : Def K mg x qual st ps) (S : FnScope N ps (defScope st)) (len : ∀ vs H Q E, sp vs H Q E → vs.length = ps.length)
    (hbody : ∀ (f : Addr) (cdv : Value) (A : Around) (outer : List Env) (s : Shared) (H : Hp) (vs : List V) (Q : VK) (E : XK), Room k (A.deeper (envOfC qual (defScope st) s.heap.objs.size f cdv)) → sp vs H Q E →
      ∃ t, PSs (cxOf (CXE P w) P w K mg base N qual (defScope st) f cdv A outer s H E) (defBody st) t ∧ t { nx := fun _ H' => Q .non H', rt := Q } (start N vs) H) : Own P w K mg base (CXE P w) x ps (k + 1) sp := by
  obtain ⟨f, fd, F, b, m⟩ := D.ex
  exact ⟨f, fd, F.okE S len fun cdv A outer s H vs Q E hr h => hbody f cdv A outer s H vs Q E hr h, b, m, F.kp⟩
end
end L2

/-! ### EXTENSION 4: try with one handler for an own class -/
namespace L2
open PySem PySem.Spec PyProof.Rows

/-- an exception has come out of the code at σ -/
def XP (X : Cx) (pins : List (Addr × Obj)) (XE : St → Addr → Hp → Prop) (e : Value) (s' : Shared) : Prop :=
  ∃ (σ : St) (a C : Addr) (H' H1 : Hp) (s1 : Shared), e = .ref a ∧ Inv X pins σ H1 s1 ∧ s'.os = s1.os ∧ AllBare s'.gens ∧ Fly X.prog X.w X.stack H1 s1.heap H' s'.heap a C ∧ XE σ C H'
abbrev TX := St → Hp → VK → (St → Addr → Hp → Prop) → Prop
abbrev TB := Ends → (St → Addr → Hp → Prop) → St → Hp → Prop
/-- an expression, a statement, a block that may raise -/
def PEX (X : Cx) (e : Expr) (t : TX) : Prop :=
  ∀ (pins : List (Addr × Obj)) (s : Shared) (σ : St) (H : Hp) (Q : VK) (XE : St → Addr → Hp → Prop), Inv X pins σ H s → t σ H Q XE → wpAny (model X.prog X.w) X.A (eval e X.env) (EP X pins σ Q) (XP X pins XE) s
def PTB (X : Cx) (st : Stmt) (t : TB) : Prop :=
  ∀ (pins : List (Addr × Obj)) (s : Shared) (σ : St) (H : Hp) (D : Ends) (XE : St → Addr → Hp → Prop), Inv X pins σ H s → t D XE σ H → wpAny (model X.prog X.w) X.A (exec st X.env) (SP X pins D) (XP X pins XE) s
def PTBs (X : Cx) (st : List Stmt) (t : TB) : Prop :=
  ∀ (pins : List (Addr × Obj)) (s : Shared) (σ : St) (H : Hp) (D : Ends) (XE : St → Addr → Hp → Prop), Inv X pins σ H s → t D XE σ H → wpAny (model X.prog X.w) X.A (execs st X.env) (SP X pins D) (XP X pins XE) s
/-- the callee's wish -/
abbrev wishX (XE : St → Addr → Hp → Prop) (σ : St) : XK := fun c _ H' => ∃ C, c = .ref C ∧ XE σ C H'

section
variable {X : Cx} {k : Nat} {f C : Addr} {fd : FuncData} {ps : List Str} {sp : Sp} {x m : Str} {p pos apos : Pos} {e o : Expr} {es : List Expr} {ta : TE} {t : TA}
theorem run_fnX {pins : List (Addr × Obj)} {σ : St} {H : Hp} {s : Shared} {Q : VK} {XE : St → Addr → Hp → Prop} {us : List Value} {vs : List V} (F : FnOk X.prog X.w X.K X.mg X.base (CXE X.prog X.w) k f fd ps sp) (hr : Room k X.A) (hb : Binds X.K fd ps [])
    (I : Inv X pins σ H s) (r : Vals vs us) (h : sp vs H Q (wishX XE σ)) : wpAny (model X.prog X.w) X.A (call (.ref f) us) (EP X pins σ Q) (XP X pins XE) s := by
  have hl : (us ++ []).length = ps.length := by
    rw [List.append_nil, ← r.length]
    exact F.len _ _ _ _ h
  have hbn := hb s us I.kIn hl
  rw [List.append_nil] at hbn
  refine wpAny_call (codeAny_mono (F.run X.A X.stack s H ⟨us, []⟩ us vs Q _ hr I.env0 hbn r h) fun r s' hq => ?_)
  cases r with
  | error e =>
    obtain ⟨a, C, H', e1, os, bare, fl, C', e2, q⟩ := hq
    cases e2
    exact ⟨σ, a, C, H', H, s, e1, I, os, bare, fl, q⟩
  | ok fl =>
    cases fl with
    | ret u => exact I.after hq
    | next => exact False.elim hq
    | brk => exact False.elim hq
    | cont => exact False.elim hq
/-- f(e, ..) -/
def tCallX (sp : Sp) (t : TA) : TX := fun σ H Q XE => t σ H fun vs H1 => sp vs H1 Q (wishX XE σ)
theorem pex_own (F : Own X.prog X.w X.K X.mg X.base (CXE X.prog X.w) x ps k sp) (hr : Room k X.A) (hg : Gl X x) (ha : PA X.nox (e :: es) t) (hdb : (x == ("__debug__" : Str)) = false := by decide)
    (he : starEach (e :: es) X.env = (false, eval e X.env) :: starEach es X.env := by rfl) (hpl : (backTo pos (starEach es X.env)).any (·.1) = false := by rfl) : PEX X (.Call (.Name x p) (e :: es) [] pos) (tCallX sp t) := by
  obtain ⟨f, fd, F, b, m, kp⟩ := F.ex
  intro pins s σ H Q XE I h
  refine wpAny_Call_Name_kw (ld_glob I hg m ?_ hdb)
  refine PySem.W.callWith_K (h₀ := X.base) I.ok.mod.kin kp (wpAny_mono (ha pos pins s σ H _ (I.wish _) h) (fun us s1 ⟨vs, H1, I1, r, q⟩ => ⟨I1.kIn, ?_⟩) fun _ _ z => z.elim) he hpl
  exact run_fnX F hr b I1.unwish r q
/-- C(e, ..) -/
def tMakeX (C : Addr) (sp : Sp) (t : TA) : TX := fun σ H Q XE => t σ H fun vs H1 => ∀ x dx, H1 x = none → H1 dx = none → dx ≠ x →
  sp (.ref x :: vs) (upd (upd H1 dx (.own x)) x (.ins C dx [])) (fun v H2 => v = .non ∧ Q (.ref x) H2) (wishX XE σ)
theorem pex_make (M : Mk X.K C f) (F : FnOk X.prog X.w X.K X.mg X.base (CXE X.prog X.w) k f fd ps sp) (hr : Room (k + 1) X.A) (hg : Gl X x) (hm : X.mg x = some (.ref C)) (hb : Binds X.K fd ps []) (ha : PA X.nox (e :: es) t)
    (hdb : (x == ("__debug__" : Str)) = false := by decide) (he : starEach (e :: es) X.env = (false, eval e X.env) :: starEach es X.env := by rfl) (hpl : (backTo pos (starEach es X.env)).any (·.1) = false := by rfl) :
    PEX X (.Call (.Name x p) (e :: es) [] pos) (tMakeX C sp t) := by
  intro pins s0 σ H0 Q XE I0 h0
  refine wpAny_Call_Name_kw (ld_glob I0 hg hm ?_ hdb)
  refine PySem.W.callWith_K (h₀ := X.base) I0.ok.mod.kin M.kp (wpAny_mono (ha pos pins s0 σ H0 _ (I0.wish _) h0) (fun us s ⟨vs, H, Iw, r, h⟩ => ⟨Iw.kIn, ?_⟩) fun _ _ z => z.elim) he hpl
  have I := Iw.unwish
  have hq := h (s.heap.objs.size + 1) s.heap.objs.size (I.hok.fresh (Nat.le_succ _)) (I.hok.fresh (Nat.le_refl _)) (Nat.ne_of_lt (Nat.lt_succ_self _))
  have I2 := Inv.made (C := C) I
  have r2 : Vals (V.ref (s.heap.objs.size + 1) :: vs) (Value.ref (s.heap.objs.size + 1) :: us) := .cons rfl r
  have hl : (Value.ref (s.heap.objs.size + 1) :: us ++ []).length = ps.length := by
    rw [List.append_nil]
    have z := r2.length
    rw [F.len _ _ _ _ hq] at z
    exact z.symm
  have hbn := hb _ (Value.ref (s.heap.objs.size + 1) :: us) I2.kIn hl
  rw [List.append_nil] at hbn
  refine wpAny_call (make_map (f := f) I.kIn M.makes M.init (beq_iff_eq.mp M.fn) (codeAny_mono (F.run _ X.stack _ _ ⟨Value.ref (s.heap.objs.size + 1) :: us, []⟩ (Value.ref (s.heap.objs.size + 1) :: us) _ _ _ (hr.make C us []) (I2.env0.make C us []) hbn r2 hq) fun r s' hq' => ?_))
  cases r with
  | error e =>
    obtain ⟨a, C, H', e1, os, bare, fl, C', e2, q⟩ := hq'
    cases e2
    exact ⟨σ, a, C, H', _, _, e1, I2, os, bare, fl, q⟩
  | ok fl =>
    cases fl with
    | ret u =>
      obtain ⟨v, H', I3, rv, ev, q3⟩ := I2.after hq'
      subst ev
      exact ⟨rv, ⟨V.ref (s.heap.objs.size + 1), H', I3, rfl, q3⟩⟩
    | next => exact False.elim hq'
    | brk => exact False.elim hq'
    | cont => exact False.elim hq'
/-- name = e -/
theorem ptb_set {i : Nat} {pos' : Pos} {tx : TX} (hN : X.N.Nodup) (hi : X.N[i]? = some x) (hx : Loc X.env.scope x) (he : PEX X e tx) (hs : swapsWith e (some (.Name x pos')) pos.line X.env = pure false := by rfl)
    (hf : X.fn x = true ∨ X.env.scope.names.lookup x = some .local := by first | exact .inl rfl | exact .inr rfl | assumption) :
    PTB X (.Assign [.Name x pos'] e pos) (fun D XE σ H => tx σ H (fun v H1 => D.nx (σ.set i (some v)) H1) XE) := by
  intro pins s σ H D XE I h
  refine wpAny_Assign_Name (thn (he pins s σ H _ XE I h) fun v s1 ⟨y, H1, I1, r1, q1⟩ => ?_) hs
  exact store_ok I1 hN hi hx r1 (fun s2 I2 => ⟨_, H1, I2, q1⟩) hf
theorem ptb_expr {tx : TX} (he : PEX X e tx) (hs : swapsWith e none pos.line X.env = pure false := by rfl) : PTB X (.Expr e pos) (fun D XE σ H => tx σ H (fun _ H1 => D.nx σ H1) XE) := by
  intro pins s σ H D XE I h
  exact wpAny_Expr_any (thn (he pins s σ H _ XE I h) fun v s1 ⟨x, H1, I1, r1, q1⟩ => ⟨σ, H1, I1, q1⟩) I.quiet hs
theorem ptbs_nil : PTBs X [] (fun D _ σ H => D.nx σ H) := fun _ _ σ H _ _ I h => wpAny_execs_nil ⟨σ, H, I, h⟩
theorem ptbs_cons {st : Stmt} {rest : List Stmt} {t u : TB} (h1 : PTB X st t) (h2 : PTBs X rest u) : PTBs X (st :: rest) (fun D XE σ H => t { D with nx := u D XE } XE σ H) := by
  intro pins s σ H D XE I h
  refine wpAny_execs_cons (thn (h1 pins s σ H _ XE I h) fun f s1 q => ?_)
  cases f with
  | next =>
    obtain ⟨σ', H', I', q⟩ := q
    exact h2 pins s1 σ' H' D XE I' q
  | ret v => exact q
  | brk => exact q
  | cont => exact q
theorem ptb_if {c : Expr} {a b : List Stmt} {tc : TT} {t u : TB} (hc : PT X.nox c tc) (ha : PTBs X a t) (hb : PTBs X b u) : PTB X (.If c a b pos) (fun D XE σ H => tc σ H fun d H1 => if d = true then t D XE σ H1 else u D XE σ H1) := by
  intro pins s σ H D XE I h
  refine wpAny_If (wpAny_mono (hc pins s σ H _ (I.wish _) h) (fun d s1 ⟨H1, I1, q1⟩ => ?_) fun _ _ z => z.elim)
  cases d with
  | true => exact ha pins s1 σ H1 D XE I1.unwish q1
  | false => exact hb pins s1 σ H1 D XE I1.unwish q1
end

/-! ### within the handler -/
/-- the context of a handler's suite -/
def Cx.hand (X : Cx) (a : Addr) : Cx := { X with A := X.A.mark (some (.ref a)), calm := false, xe := fun _ _ => False }
theorem Inv.hand {X : Cx} {pins : List (Addr × Obj)} {σ : St} {H : Hp} {s : Shared} (I : Inv X pins σ H s) (a : Addr) : Inv (X.hand a) pins σ H s :=
  ⟨⟨I.ok.mod, I.ok.kind, I.ok.glob, I.ok.blt, I.ok.above, I.ok.inj, I.ok.has, I.ok.cab, fun z => absurd (show false = true from z) Bool.false_ne_true, I.ok.frames, I.ok.stk, I.ok.exf, I.ok.bs, I.ok.bsz, I.ok.noex, I.ok.exfs, I.ok.funs, I.ok.frf⟩,
    I.os, I.bare, I.base, I.loc, I.cell, I.free, I.freeC, I.pin, I.hok, I.len⟩
theorem Inv.unhand {X : Cx} {pins : List (Addr × Obj)} {σ : St} {H : Hp} {s : Shared} {a : Addr} (ok : X.Ok) (I : Inv (X.hand a) pins σ H s) : Inv X pins σ H s :=
  ⟨ok, I.os, I.bare, I.base, I.loc, I.cell, I.free, I.freeC, I.pin, I.hok, I.len⟩
/-- an exception object, an instance of the own class at C -/
def ExcAt (a C : Addr) (h : Heap) : Prop := ∃ o vs, h.get? a = some o ∧ o.cls = .ref C ∧ o.data = .fields vs
theorem excAt_ok {P : Program} {w : World} {H : Hp} {h : Heap} {a C : Addr} (e : ExcAt a C h) : ObjOk P w H h a (.ext (ExcAt a C)) :=
  ⟨e, let ⟨o, _, q, _⟩ := e; ⟨o, q⟩, fun _ _ ⟨o, vs, q, r⟩ k => ⟨o, vs, k o q, r⟩⟩

section
variable {X : Cx} {pins : List (Addr × Obj)} {σ : St} {H H' : Hp} {s : Shared}
/-- the exception is looked at: what stands stays -/
theorem fly_stay {h2 h3 B : Heap} (I : Inv X pins σ H s) (u2 : Un (frs X.stack) [] H H' s.heap h2) (hok : HOk X.prog X.w H' h2) (trk : ∀ b u, H' b = some u → ∃ o, B.get? b = some o)
    (cov : ∀ b o, s.heap.get? b = some o → b ∉ frs X.stack → ∃ o', B.get? b = some o' ∧ (H b = none → o' = o)) (hB : B.StaysIn h2) (hB3 : B.StaysIn h3) (up : h2.UpToSlots h3) :
    Un (frs X.stack) [] H H' s.heap h3 ∧ HOk X.prog X.w H' h3 := by
  have n0 : ∀ b : Addr, b ∉ ([] : List Addr) := fun b => by simp
  have frm : ∀ b o, s.heap.get? b = some o → b ∈ frs X.stack → ∃ sl, h3.get? b = some { o with slots := sl } := fun b o e hb => by
    obtain ⟨_, o0, ho0, hd⟩ := I.stack.mem hb
    rw [e] at ho0
    cases ho0
    obtain ⟨sl2, e2⟩ := u2.slot b _ e (I.stkFree b hb) hb (n0 b)
    obtain ⟨sl3, e3⟩ := up b _ e2 hd
    exact ⟨sl3, e3⟩
  refine ⟨⟨fun b o e n hb _ => ?_, fun b o e n hb _ => frm b o e hb, u2.free, fun b o e _ => ?_, u2.tups, u2.frzs, u2.tbls⟩, fun b u e => ?_⟩
  · obtain ⟨o', eB, q⟩ := cov b o e hb
    rw [← q n]
    exact hB3 b o' eB
  · by_cases hb : b ∈ frs X.stack
    · obtain ⟨sl, e3⟩ := frm b o e hb
      exact ⟨_, e3⟩
    · obtain ⟨o', eB, _⟩ := cov b o e hb
      exact ⟨o', hB3 b o' eB⟩
  · refine (hok b u e).stay (fun c v hc q => ?_) (fun _ q => q) fun _ _ q => q
    have tc : ∃ o, B.get? c = some o := by
      rcases hc with z | z
      · rw [z]
        exact trk b u e
      · exact trk c _ z
    obtain ⟨o, eo⟩ := tc
    have q' := hB c o eo
    rw [q] at q'
    cases q'
    exact hB3 c v eo
/-- an object that the state did not know is taken up -/
theorem Inv.take {a : Addr} {o : HO} (I : Inv X pins σ H s) (hn : H a = none) (h0 : X.s₀.heap.get? a = none) (hL : a ≠ X.env.locals) (hc : ∀ x c, X.env.cells.lookup x = some c → c ≠ a) (hp : ∀ p ∈ X.pn ++ pins, p.1 ≠ a) (new : ObjOk X.prog X.w (upd H a o) s.heap a o)
    (nw : ∀ b, o ≠ .own b) : Inv X pins σ (upd H a o) s := by
  have ne : ∀ b ob, X.s₀.heap.get? b = some ob → b ≠ a := fun b ob e z => by
    rw [z, h0] at e
    cases e
  have nt : ∀ b u, H b = some u → b ≠ a := fun b u e => ne_of_none e hn
  refine ⟨I.ok, I.os, I.bare, ⟨I.base.keep, I.base.slot, fun b ob e n hx => ?_, I.base.there, fun b xs e => ?_, fun b ob u e => ?_, fun b ps e => ?_⟩, I.loc, I.cell, ?_, fun x c e => ?_, fun p q => ?_, fun b u e => ?_, I.len⟩
  · rw [upd_ne (ne b ob e)]
    exact I.base.free b ob e n hx
  · have z := I.base.tups b xs e
    rw [upd_ne (nt b _ z)]
    exact z
  · have z := I.base.frzs b ob u e
    rw [upd_ne (nt b _ z)]
    exact z
  · obtain ⟨m, z⟩ := I.base.tbls b ps e
    refine ⟨m, ?_⟩
    rw [upd_ne (nt b _ z)]
    exact z
  · rw [upd_ne (Ne.symm hL)]
    exact I.free
  · rw [upd_ne (hc x c e)]
    exact I.freeC x c e
  · obtain ⟨p1, p2, p3, p4, p5⟩ := I.pin p q
    exact ⟨p1, by rw [upd_ne (hp p q)]; exact p2, p3, p4, p5⟩
  · by_cases hb : b = a
    · subst hb
      rw [upd_same] at e
      cases e
      exact new
    · rw [upd_ne hb] at e
      refine (I.hok b u e).stay (fun _ _ _ q => q) (fun c q => ?_) fun c xs q => ?_
      · rw [upd_ne (nt c _ q)]
        exact q
      · rw [upd_ne (nt c _ q)]
        exact q
end
section
variable {X : Cx} {pins : List (Addr × Obj)} {σ : St} {H H' : Hp} {s : Shared}
/-- a local name is forgotten -/
theorem Inv.goes {n : Str} {i tk : Nat} {h' : Heap} {v : Option Value} {m : Str → Option Value} (I : Inv X pins σ H s) (hN : X.N.Nodup) (hi : X.N[i]? = some n)
    (hm : ∀ (j : Nat) (x : Str) (v : V), X.N[j]? = some x → σ[j]? = some (some v) → Vis X.env.scope x → ∃ u, RelV v u ∧ Look X.env s.heap m x u) (hn : h'.Ns X.env.locals fun x => if x = n then v else m x) (sb : Heap.SameBut X.env.locals s.heap h') :
    Inv X pins (σ.set i none) H { s with heap := h', toks := tk } := by
  have cne := I.cne
  have old : ∀ b o, X.s₀.heap.get? b = some o → b ≠ X.env.locals := fun b o e => Nat.ne_of_lt (Nat.lt_of_lt_of_le (Heap.lt_size e) I.ok.above)
  refine ⟨I.ok, I.os, I.bare, ⟨fun b o e q hb hx => ?_, fun b o e q hb hx => ?_, I.base.free, fun b o e hx => ?_, I.base.tups, I.base.frzs, I.base.tbls⟩, ⟨_, hn, fun j y v' e1 e2 e3 => ?_⟩, fun y c e => ?_, I.free, I.freeC, fun p hp => ?_, fun b u e => ?_, by rw [List.length_set]; exact I.len⟩
  · exact (sb.2 b (old b o e)).trans (I.base.keep b o e q hb hx)
  · obtain ⟨sl, e1⟩ := I.base.slot b o e q hb hx
    exact ⟨sl, (sb.2 b (old b o e)).trans e1⟩
  · obtain ⟨o', e1⟩ := I.base.there b o e hx
    exact ⟨o', (sb.2 b (old b o e)).trans e1⟩
  · by_cases hj : i = j
    · subst hj
      rw [List.getElem?_set] at e2
      split at e2
      · split at e2 <;> cases e2
      · rename_i z
        exact absurd rfl z
    · rw [List.getElem?_set_ne hj] at e2
      obtain ⟨u, r, q⟩ := hm j y v' e1 e2 e3
      refine ⟨u, r, ?_⟩
      rcases q with ⟨k, e⟩ | ⟨k, c, e, z⟩
      · refine .inl ⟨k, ?_⟩
        have : y ≠ n := fun e => hj (nodup_ix hN hi (e ▸ e1))
        show (if y = n then v else m y) = some u
        rw [if_neg this]
        exact e
      · exact .inr ⟨k, c, e, z.sameBut sb (cne y c e)⟩
  · obtain ⟨w', z⟩ := I.cell y c e
    exact ⟨w', z.sameBut sb (cne y c e)⟩
  · obtain ⟨p1, p2, p3, p4, p5⟩ := I.pin p hp
    exact ⟨(sb.2 p.1 p3).trans p1, p2, p3, p4, p5⟩
  · refine (I.hok b u e).stay (fun c w' hc q => (sb.2 c ?_).trans q) (fun _ q => q) fun _ _ q => q
    rintro rfl
    rcases hc with rfl | hc
    · rw [I.free] at e
      cases e
    · rw [I.free] at hc
      cases hc
/-- try: .. except D as n: .. -/
def tTry (K : PySem.W.Frag) (Dc : Addr) (i : Nat) (tb : TB) (th : TS) : TS := fun D σ H => tb D (fun σ1 C H1 => PySem.W.exmOne K (.ref C) (.ref Dc) = some true ∧ ∀ a, H1 a = none →
  th { nx := fun σ2 H2 => D.nx (σ2.set i none) H2, rt := D.rt, bk := fun σ2 H2 => D.bk (σ2.set i none) H2, ct := fun σ2 H2 => D.ct (σ2.set i none) H2 } (σ1.set i (some (.ref a))) (upd H1 a (.ext (ExcAt a C)))) σ H
theorem ps_try {n Dn : Str} {Dc : Addr} {i : Nat} {b₀ : Stmt} {suite body : List Stmt} {np hpos pos : Pos} {tb : TB} {th : TS} (hst : X.stack = X.env :: X.outer) (hfr : X.env.frame = some X.env.locals) (hex : X.ex = []) (hN : X.N.Nodup) (hi : X.N[i]? = some n)
    (hl : X.env.scope.names.lookup n = some .local) (hg : Gl X Dn) (hm : X.mg Dn = some (.ref Dc)) (hb : PTBs X body tb) (hh : ∀ a, PSs (X.hand a) (b₀ :: suite) th) (hdb : (Dn == ("__debug__" : Str)) = false := by decide) :
    PS X (.Try body [.ExceptHandler (some (.Name Dn np)) (some n) (b₀ :: suite) hpos] [] [] pos) (tTry X.K Dc i tb th) := by
  intro pins s σ H D I h
  refine wpAny_Try_except (wpAny_mono (hb pins s σ H D _ I h) (fun f s1 q => ?_) fun e s1 q => ?_)
  · cases f with
    | next => exact wpAny_execs_nil q
    | ret v => exact q
    | brk => exact q
    | cont => exact q
  · obtain ⟨σ1, a, C, H', H1, s0, rfl, I1, os, bare, ⟨⟨B, a0, fl, trk, cov⟩, un, hok⟩, hexm, q⟩ := q
    have fr : X.A.frames = some (X.env :: X.outer) := by
      rw [← hst]
      exact I1.ok.frames
    have fl' : Heap.FlyingW B (X.env :: X.outer) a (.ref C) a0 s1.heap := by
      rw [← hst]
      exact fl
    have n0 : ∀ b : Addr, b ∉ ([] : List Addr) := fun b => by simp
    have ha0 : s0.heap.get? a = none := by
      cases e : s0.heap.get? a with
      | none => rfl
      | some o =>
        by_cases hb' : a ∈ frs X.stack
        · obtain ⟨_, o0, ho0, hd⟩ := I1.stack.mem hb'
          rw [e] at ho0
          cases ho0
          obtain ⟨sl, e2⟩ := un.slot a o e (I1.stkFree a hb') hb' (n0 a)
          obtain ⟨oe, vs, e3, _, hd3, _⟩ := fl.first
          rw [e2] at e3
          cases e3
          exact absurd hd3 (hd vs)
        · obtain ⟨o', eB, _⟩ := cov a o e hb'
          rw [fl.2.1] at eB
          cases eB
    have hna : H' a = none := by
      cases e : H' a with
      | none => rfl
      | some u =>
        obtain ⟨o, eB⟩ := trk a u e
        rw [fl.2.1] at eB
        cases eB
    refine wpAny_looks_onW fr hfr fl' fun h4 held4 up4 => ?_
    refine wpAny_landsW held4 fun h5 fl5 up5 => ?_
    obtain ⟨un5, hok5⟩ := fly_stay I1 un hok trk cov fl.1 fl5.1 (up4.trans up5)
    have I5 : Inv X pins σ1 H' { s1 with heap := h5 } := I1.call' (s' := { s1 with heap := h5 }) os un5 hok5 bare fun b z => absurd z (n0 b)
    obtain ⟨ob, hob, hoc⟩ := fl5.there
    have LT : PySem.W.Looks (model X.prog X.w) h5 (typeOf (.ref a)) (.ref C) := by
      rw [← hoc]
      exact (PySem.W.Looks.ld hob).andThen .now
    refine wpAny_handleBy_cons (codeAny_handlers_test (ld_glob (I5.hand a) hg hm ?_ hdb)) (by intro z; cases z)
    refine (PySem.W.exm_one I5.kIn LT hexm).here ?_
    refine codeAny_handlers_suite_as (lands_againW fl5 fun h6 fl6 up6 => ?_)
    obtain ⟨un6, hok6⟩ := fly_stay I1 un hok trk cov fl.1 fl6.1 ((up4.trans up5).trans up6)
    have I6 : Inv X pins σ1 H' { s1 with heap := h6 } := I1.call' (s' := { s1 with heap := h6 }) os un6 hok6 bare fun b z => absurd z (n0 b)
    obtain ⟨oe, vs, e6, c6, d6, _⟩ := fl6.first
    have gone : ∀ b o, s0.heap.get? b = some o → b ≠ a := fun b o e z => by
      rw [z, ha0] at e
      cases e
    have I7 : Inv X pins σ1 (upd H' a (.ext (ExcAt a C))) { s1 with heap := h6 } := by
      refine I6.take hna ?_ ?_ (fun x c e => ?_) (fun p hp => ?_) (excAt_ok ⟨oe, vs, e6, c6, d6⟩) (fun b z => by cases z)
      · cases e : X.s₀.heap.get? a with
        | none => rfl
        | some o =>
          obtain ⟨o', e'⟩ := I1.base.there a o e (by rw [hex]; exact n0 a)
          rw [ha0] at e'
          cases e'
      · obtain ⟨m, ⟨o, _, _, e, _⟩, _⟩ := I1.loc
        exact (gone _ o e).symm
      · obtain ⟨v, o, e', _⟩ := I1.cell x c e
        exact gone c o e'
      · exact gone _ _ (I1.pin p hp).1
    refine store_ok (X := X.hand a) (v := .ref a) (I7.hand a) hN hi (.inl hl) rfl (fun s8 I8 => ?_) (.inr hl)
    refine wpAny_mono (hh a pins s8 _ _ _ I8 (q a hna)) (fun f s9 q9 => ?_) fun _ _ z => z.elim
    have hcls : (X.env.scope.kind == .class || (X.env.scope.kind == .module && X.env.locals != X.env.globals)) = false := by
      rw [I.ok.kind]
      rfl
    have ends : ∀ {σ9 : St} {H9 : Hp} {R : Flow → Shared → Prop}, Inv (X.hand a) pins σ9 H9 s9 → (∀ s10, Inv X pins (σ9.set i none) H9 s10 → R f s10) →
        wpAny (model X.prog X.w) X.A (do bindName X.env n .none; unbindBehindTheSuite X.env n hpos) (fun _ s10 => R f s10) X.xe s9 := fun {σ9 H9 R} I9 k => by
      have J9 := I9.unhand I.ok
      obtain ⟨m, hn, hl9⟩ := J9.loc
      exact wpAny_nameGoes_keeps hl hn hcls fun h10 v hn10 sb => k _ (J9.goes hN hi hl9 hn10 sb)
    cases f with
    | next =>
      obtain ⟨σ9, H9, I9, q9⟩ := q9
      exact ends (R := fun f s10 => SP X pins D f s10) I9 fun s10 I10 => ⟨_, H9, I10, q9⟩
    | brk =>
      obtain ⟨σ9, H9, I9, q9⟩ := q9
      exact ends (R := fun f s10 => SP X pins D f s10) I9 fun s10 I10 => ⟨_, H9, I10, q9⟩
    | cont =>
      obtain ⟨σ9, H9, I9, q9⟩ := q9
      exact ends (R := fun f s10 => SP X pins D f s10) I9 fun s10 I10 => ⟨_, H9, I10, q9⟩
    | ret u =>
      obtain ⟨v, σ9, H9, I9, r9, q9⟩ := q9
      exact ends (R := fun f s10 => SP X pins D f s10) I9 fun s10 I10 => ⟨v, _, H9, I10, r9, q9⟩
end
end L2

/-! ### EXTENSION 5: isinstance of an exception, and with own classes -/
namespace L2
open PySem PySem.Spec PySem.W PySem.Calls PyProof.Rows Builtin Builtin.ObjectAttr Builtin.Getset_descriptor

section
variable {prog : Program} {w : World} {A : Around} {E : Value → Shared → Prop} {s : Shared} {K : PySem.W.Frag} {x D : Addr} {ox : Obj} {name : Str}
/-- what the class of an exception must have, for isinstance -/
structure ExcIsi (K : PySem.W.Frag) (D : Addr) : Prop where
  ga : findIn K (.ref D) "__getattribute__" = some (some (.builtin "BaseException.__getattribute__"))
  gn : findIn K (.ref D) "__getattr__" = some none
  hb : mroIn K D (.type "BaseException") = some true
  cl : (clsIn K D).isSome = true
  ha : findIn K (.ref D) "__class__" = some (some (.builtin "object.__class__"))
  hn : specialIn K (.builtin "object.__class__") "__get__" = some (some (.builtin "getset_descriptor.__get__"))
  htk : takesIn K (.builtin "object.__class__") = some true
  hm : mroIn K D (.type "object") = some true
theorem exc_type {M : Model} {h : Heap} {vs : Array Value} (e : h.get? x = some ox) (c : ox.cls = .ref D) (_d : ox.data = .fields vs) : Looks M h (typeOf (.ref x)) (.ref D) := by
  rw [← c]
  exact (Looks.ld e).andThen .now
theorem exc_find {M : Model} {h : Heap} (X : K.In h) (C : ExcIsi K D) : Looks M h (find (.ref x) (.ref D) "__class__") (.bind (.builtin "getset_descriptor.__get__") (.builtin "object.__class__")) := by
  have t1 := looks_findIn (M := M) X C.ha
  have t2 : Looks M h (getOf (some (.builtin "object.__class__"))) (some (.builtin "getset_descriptor.__get__")) := looks_specialIn X C.hn
  have t3 := looks_takesIn (M := M) X C.htk
  refine t1.andThen (t2.andThen ?_)
  exact (show Looks M h (dataDescriptor? (some (.builtin "object.__class__")) (some (.builtin "getset_descriptor.__get__"))) (some (.builtin "getset_descriptor.__get__", .builtin "object.__class__")) from t3.andThen .now).andThen (Looks.tag .now)
theorem exc_get {R : Result → Shared → Prop} {tp : Value} (X : K.In s.heap) (L : ∀ M : Model, Looks M s.heap (typeOf (.ref x)) (.ref D)) (C : ExcIsi K D) (h : R (.ok (.ret (.ref D))) s) :
    codeAny (model prog w) A (.call (.builtin "getset_descriptor.__get__") ⟨[.builtin "object.__class__", .ref x, tp], []⟩) R s := by
  obtain ⟨hh, g, dr, t, os⟩ := s
  have t0 := L (model prog w)
  have t1 := looks_mroIn (M := model prog w) X C.hm
  refine codeAny_call_builtin KF.slot_gs.plain KF.entry_gs (KF.slot_gs.check _ _ _ _ _ _ _ _ KF.type_class (KF.args_gs _ _ _) ?_)
  unfold Builtin.«getset_descriptor.__get__» descrGet
  rw [dga_obj]
  refine wpAny_bind (wpAny_pure ?_)
  unfold descrGetter descrCheckInstance descrNameAndClass isInstance
  simp only [KF.owner_class]
  repeat lk
  refine ⟨Code.quiet_builtin _ (by decide +kernel), codeAny_builtin KF.entry_class ?_⟩
  unfold Builtin.«object.__class__» shownTypeOf
  repeat lk
  exact h
theorem exc_ga_check {M : Model} {nameV : Value} {Q : Unit → Shared → Prop} (X : K.In s.heap) (L : ∀ M : Model, Looks M s.heap (typeOf (.ref x)) (.ref D)) (C : ExcIsi K D) (hq : Q () s) :
    wpAny M A (checkBuiltinCall "BaseException.__getattribute__" ⟨[.ref x, nameV], []⟩) Q E s := by
  have hk : builtinKind "BaseException.__getattribute__" = some .slot := by decide +kernel
  have hsplit : splitId "BaseException.__getattribute__" = some ("BaseException", "__getattribute__") := by decide +kernel
  have ha := F.args_bexc_ga (.ref x) nameV
  have t0 := L M
  have t1 := looks_mroIn (M := M) X C.hb
  obtain ⟨hh, g, dr, t, os⟩ := s
  simp only [checkBuiltinCall, hk, hsplit]
  refine wpAny_bind ?_
  · unfold isInstance
    repeat lk
    repeat (any_goals (first | assumption | wp_step))
theorem exc_class {Q : Option Value → Shared → Prop} (X : K.In s.heap) (L : ∀ (M : Model) (h : Heap), (∀ b o, s.heap.get? b = some o → h.get? b = some o) → Looks M h (typeOf (.ref x)) (.ref D)) (C : ExcIsi K D)
    (h : Q (some (.ref D)) { s with toks := s.toks + 1 }) : wpAny (model prog w) A (getAttr? (.ref x) "__class__") Q E s := by
  obtain ⟨hh, g, d, t, os⟩ := s
  have t0 := L (model prog w) hh fun _ _ e => e
  have t1 := looks_findIn (M := model prog w) X C.ga
  have t2 := exc_find (M := model prog w) (x := x) X C
  have t3 := looks_findIn (M := model prog w) X C.gn
  unfold getAttr? getAttrBy? getAttrBy
  refine wpAny_bind (wpAny_mkText (wpAny_bind (wpAny_attempt (wpAny_holding (wpAny_bind (t0.at (wpAny_bind (t1.at ?_))))))))
  show wpAny _ _ (getAttrByItsOwn _ _ _ _ _ _) _ _ _
  unfold getAttrByItsOwn
  refine wpAny_bind (show wpAny _ _ (typeLookup (.ref D) "__getattr__") _ _ _ from t3.at ?_)
  refine wpAny_bind (wpAny_attempt (wpAny_holding ?_))
  show wpAny _ _ (boundAndCalled _ _ _) _ _ _
  unfold boundAndCalled
  rw [F.excAttr_ValueError.ga.bind (.ref x)]
  refine wpAny_bind (wpAny_pure ?_)
  refine wpAny_call (codeAny_call_builtin F.excAttr_ValueError.ga.plain F.entry_bexc_ga (exc_ga_check X (fun M => L M hh fun _ _ e => e) C ?_))
  unfold Builtin.«object.__getattribute__»
  refine wpAny_bind (wpAny_pure (wpAny_bind (wpAny_pure (wpAny_bind (t0.at (wpAny_bind (t2.at ?_)))))))
  show wpAny _ _ (holding [.builtin "object.__class__"] (call (.builtin "getset_descriptor.__get__") [.builtin "object.__class__", .ref x, .ref D]) >>= ret) _ _ _
  refine wpAny_bind (wpAny_holding (wpAny_call (exc_get X (fun M => L M hh fun _ _ e => e) C ?_)))
  exact wpAny_pure (wpAny_pure (wpAny_pure h))
theorem kitx_exc (C : ExcIsi K D) : KitX K (.ref x) (.ref D) (ExcAt x D) where
  ty := fun M h _ ⟨o, vs, e, c, d⟩ => exc_type e c d
  it := fun M h X _ => by
    have z := C.cl
    unfold clsIn at z
    split at z
    · rename_i c' d' cd' sl' ho
      intro A' Q' E' s' k q
      unfold isType loadHead
      exact wpAny_bind (wpAny_loadPart (k _ _ (X _ _ ho)) (wpAny_pure q))
    · cases z
  ne := fun h tp dd its n sl X htp => by
    refine Bool.eq_false_iff.mpr fun q => ?_
    have e : D = tp := Value.ref.inj (beq_iff_eq.mp q)
    subst e
    have z := C.cl
    unfold clsIn at z
    split at z
    · rename_i c' d' cd' sl' ho
      have y := (X _ _ ho).symm.trans htp
      cases y
    · cases z
  ca := fun X ⟨o, vs, e, c, d⟩ k => exc_class X (fun M h kk => exc_type (kk _ _ e) c d) C k
end

section
variable {X : Cx}
/-- isinstance(e, C): an exception, an own class or a built-in one -/
theorem call_isiX : CallR X (.builtin "isinstance") (fun xs H Q => ∃ a D c b, xs = [.ref a, c] ∧ ((∃ n, c = .ty n) ∨ ∃ C, c = .ref C) ∧ H a = some (.ext (ExcAt a D)) ∧ ExcIsi X.K D ∧ kitOne X.K (.ref D) (clsV c) = some b ∧ Q (.bl b) H) := by
  intro pins s σ H xs us Q I r h
  obtain ⟨a, D, c, b, rfl, hc, ha, C, e, q⟩ := h
  obtain ⟨u, u', rfl, rx, rc⟩ := vals2 r
  cases rx
  have hx : ExcAt a D s.heap := (I.hok a _ ha).1
  have ec : clsV c = u' := by
    rcases hc with ⟨n, rfl⟩ | ⟨n, rfl⟩ <;> (cases rc; rfl)
  rw [ec] at e
  exact kia_one (kitx_exc C) I.kIn hx e (fun z => nomatch z) fun tk => ⟨.bl b, H, I.tok tk, rfl, q⟩
end
end L2

/-! ### EXTENSION 6: data: what a value holds, what is new -/
namespace L2
open PySem PySem.Spec PyProof.Rows

theorem SqT.mono {K : PySem.W.Frag} {H H' : Hp} {a : Addr} {xs : List V} (e : Same H H') (h : SqT K H a xs) : SqT K H' a xs := e.tup h
/-- a tuple is no list, no instance: what stands at l is none -/
def NoTup (o : Option HO) : Prop := (∀ xs, o ≠ some (.tup xs)) ∧ ∀ ob u, o ≠ some (.frz ob u)
theorem noTup_lst {xs : List V} : NoTup (some (.lst xs)) := ⟨fun _ z => (by cases z), fun _ _ z => (by cases z)⟩
theorem noTup_ins {C dx : Addr} {fs : List (Str × V)} : NoTup (some (.ins C dx fs)) := ⟨fun _ z => (by cases z), fun _ _ z => (by cases z)⟩
theorem SqT.write {K : PySem.W.Frag} {H : Hp} {a l : Addr} {o : HO} {xs : List V} (n : NoTup (H l)) (h : SqT K H a xs) : SqT K (upd H l o) a xs := by
  rcases h with (h | ⟨ob, h⟩) | h
  · exact .inl (.inl (by rw [upd_ne (fun z => n.1 xs (by rw [← z]; exact h))]; exact h))
  · exact .inl (.inr ⟨ob, by rw [upd_ne (fun z => n.2 ob _ (by rw [← z]; exact h))]; exact h⟩)
  · exact .inr h

mutual
theorem HasD.same {K : PySem.W.Frag} {H H' : Hp} (S : Same H H') : ∀ (d : PyData) {v : V}, HasD K H v d → HasD K H' v d
  | .none, v, h => by rw [HasD] at h ⊢; exact h
  | .bool _, v, h => by rw [HasD] at h ⊢; exact h
  | .int _, v, h => by rw [HasD] at h ⊢; exact h
  | .str _, v, h => by rw [HasD] at h ⊢; exact h
  | .list ds, v, h => by
    rw [HasD] at h ⊢
    obtain ⟨a, xs, e, q, r⟩ := h
    exact ⟨a, xs, e, S.seq q, HasDs.same S ds r⟩
  | .tuple ds, v, h => by
    rw [HasD] at h ⊢
    obtain ⟨a, xs, e, q, r⟩ := h
    exact ⟨a, xs, e, S.tup q, HasDs.same S ds r⟩
  | .dict _, v, h => by rw [HasD] at h; exact h.elim
theorem HasDs.same {K : PySem.W.Frag} {H H' : Hp} (S : Same H H') : ∀ (ds : List PyData) {xs : List V}, HasDs K H xs ds → HasDs K H' xs ds
  | [], xs, h => by rw [HasDs] at h ⊢; exact h
  | d :: ds, xs, h => by
    rw [HasDs] at h ⊢
    obtain ⟨x, r, e, h1, h2⟩ := h
    exact ⟨x, r, e, HasD.same S d h1, HasDs.same S ds h2⟩
end
mutual
/-- v holds d in H', and every list of it is younger than H -/
def NewD (K : PySem.W.Frag) (H H' : Hp) : V → PyData → Prop
  | v, .none => v = .non
  | v, .bool b => v = .bl b
  | v, .int i => v = .int i
  | v, .str x => v = .str x
  | v, .list ds => ∃ a xs, v = .ref a ∧ H a = none ∧ H' a = some (.lst xs) ∧ NewDs K H H' xs ds
  | v, .tuple ds => ∃ a xs, v = .ref a ∧ SqT K H' a xs ∧ NewDs K H H' xs ds
  | _, .dict _ => False
def NewDs (K : PySem.W.Frag) (H H' : Hp) : List V → List PyData → Prop
  | xs, [] => xs = []
  | xs, d :: ds => ∃ x r, xs = x :: r ∧ NewD K H H' x d ∧ NewDs K H H' r ds
end
mutual
theorem NewD.has {K : PySem.W.Frag} {H H' : Hp} : ∀ (d : PyData) {v : V}, NewD K H H' v d → HasD K H' v d
  | .none, v, h => by rw [NewD] at h; rw [HasD]; exact h
  | .bool _, v, h => by rw [NewD] at h; rw [HasD]; exact h
  | .int _, v, h => by rw [NewD] at h; rw [HasD]; exact h
  | .str _, v, h => by rw [NewD] at h; rw [HasD]; exact h
  | .list ds, v, h => by
    rw [NewD] at h; rw [HasD]
    obtain ⟨a, xs, e, _, q, r⟩ := h
    exact ⟨a, xs, e, SqL.of q, NewDs.has ds r⟩
  | .tuple ds, v, h => by
    rw [NewD] at h; rw [HasD]
    obtain ⟨a, xs, e, q, r⟩ := h
    exact ⟨a, xs, e, q, NewDs.has ds r⟩
  | .dict _, v, h => by rw [NewD] at h; exact h.elim
theorem NewDs.has {K : PySem.W.Frag} {H H' : Hp} : ∀ (ds : List PyData) {xs : List V}, NewDs K H H' xs ds → HasDs K H' xs ds
  | [], xs, h => by rw [NewDs] at h; rw [HasDs]; exact h
  | d :: ds, xs, h => by
    rw [NewDs] at h; rw [HasDs]
    obtain ⟨x, r, e, h1, h2⟩ := h
    exact ⟨x, r, e, NewD.has d h1, NewDs.has ds h2⟩
end
mutual
/-- the heap goes on: from H, H' to J, J', where what is new stays new, what stands stays -/
theorem NewD.go {K : PySem.W.Frag} {H H' J J' : Hp} (hn : ∀ a xs, H a = none → H' a = some (.lst xs) → J a = none ∧ J' a = some (.lst xs)) (ht : ∀ a xs, SqT K H' a xs → SqT K J' a xs) : ∀ (d : PyData) {v : V}, NewD K H H' v d → NewD K J J' v d
  | .none, v, h => by rw [NewD] at h ⊢; exact h
  | .bool _, v, h => by rw [NewD] at h ⊢; exact h
  | .int _, v, h => by rw [NewD] at h ⊢; exact h
  | .str _, v, h => by rw [NewD] at h ⊢; exact h
  | .list ds, v, h => by
    rw [NewD] at h ⊢
    obtain ⟨a, xs, e, n, q, r⟩ := h
    obtain ⟨n', q'⟩ := hn a xs n q
    exact ⟨a, xs, e, n', q', NewDs.go hn ht ds r⟩
  | .tuple ds, v, h => by
    rw [NewD] at h ⊢
    obtain ⟨a, xs, e, q, r⟩ := h
    exact ⟨a, xs, e, ht a xs q, NewDs.go hn ht ds r⟩
  | .dict _, v, h => by rw [NewD] at h; exact h.elim
theorem NewDs.go {K : PySem.W.Frag} {H H' J J' : Hp} (hn : ∀ a xs, H a = none → H' a = some (.lst xs) → J a = none ∧ J' a = some (.lst xs)) (ht : ∀ a xs, SqT K H' a xs → SqT K J' a xs) : ∀ (ds : List PyData) {xs : List V}, NewDs K H H' xs ds → NewDs K J J' xs ds
  | [], xs, h => by rw [NewDs] at h ⊢; exact h
  | d :: ds, xs, h => by
    rw [NewDs] at h ⊢
    obtain ⟨x, r, e, h1, h2⟩ := h
    exact ⟨x, r, e, NewD.go hn ht d h1, NewDs.go hn ht ds h2⟩
end
section
variable {K : PySem.W.Frag} {H H' J : Hp} {v : V} {d : PyData} {xs : List V} {ds : List PyData}
theorem NewD.later (S : Same H' J) (h : NewD K H H' v d) : NewD K H J v d := NewD.go (fun _ _ n q => ⟨n, S _ _ q⟩) (fun _ _ q => S.tup q) d h
theorem NewDs.later (S : Same H' J) (h : NewDs K H H' xs ds) : NewDs K H J xs ds := NewDs.go (fun _ _ n q => ⟨n, S _ _ q⟩) (fun _ _ q => S.tup q) ds h
theorem NewD.wider (S : Same J H) (h : NewD K H H' v d) : NewD K J H' v d := NewD.go (fun _ _ n q => ⟨S.free n, q⟩) (fun _ _ q => q) d h
theorem NewDs.wider (S : Same J H) (h : NewDs K H H' xs ds) : NewDs K J H' xs ds := NewDs.go (fun _ _ n q => ⟨S.free n, q⟩) (fun _ _ q => q) ds h
/-- an elder object that is no tuple is written -/
theorem NewD.write {l : Addr} {o : HO} (n : H l ≠ none) (t : NoTup (H' l)) (h : NewD K H H' v d) : NewD K H (upd H' l o) v d :=
  NewD.go (fun a _ z q => ⟨z, by rw [upd_ne (fun e => n (by rw [← e]; exact z))]; exact q⟩) (fun _ _ q => q.write t) d h
theorem NewDs.write {l : Addr} {o : HO} (n : H l ≠ none) (t : NoTup (H' l)) (h : NewDs K H H' xs ds) : NewDs K H (upd H' l o) xs ds :=
  NewDs.go (fun a _ z q => ⟨z, by rw [upd_ne (fun e => n (by rw [← e]; exact z))]; exact q⟩) (fun _ _ q => q.write t) ds h
end

/-! ### lists of data -/
section
variable {K : PySem.W.Frag} {H H' : Hp}
theorem HasDs.len : ∀ {ds : List PyData} {xs : List V}, HasDs K H xs ds → xs.length = ds.length
  | [], xs, h => by rw [HasDs] at h; subst h; rfl
  | d :: ds, xs, h => by
    rw [HasDs] at h
    obtain ⟨x, r, rfl, _, h2⟩ := h
    rw [List.length_cons, List.length_cons, HasDs.len h2]
theorem HasDs.get : ∀ {ds : List PyData} {xs : List V} {i : Nat} {d : PyData}, HasDs K H xs ds → ds[i]? = some d → ∃ x, xs[i]? = some x ∧ HasD K H x d
  | [], xs, i, d, h, e => by simp at e
  | d0 :: ds, xs, i, d, h, e => by
    rw [HasDs] at h
    obtain ⟨x, r, rfl, h1, h2⟩ := h
    cases i with
    | zero =>
      rw [List.getElem?_cons_zero] at e
      cases e
      exact ⟨x, rfl, h1⟩
    | succ i =>
      rw [List.getElem?_cons_succ] at e
      obtain ⟨y, e1, e2⟩ := HasDs.get h2 e
      exact ⟨y, by rw [List.getElem?_cons_succ]; exact e1, e2⟩
theorem HasDs.at {ds : List PyData} {xs : List V} {i : Nat} {x : V} (h : HasDs K H xs ds) (e : xs[i]? = some x) : ∃ d, ds[i]? = some d ∧ HasD K H x d := by
  have hi : i < ds.length := by
    rw [← h.len]
    exact (List.getElem?_eq_some_iff.mp e).1
  obtain ⟨y, e1, e2⟩ := h.get (List.getElem?_eq_getElem hi)
  rw [e] at e1
  cases e1
  exact ⟨_, List.getElem?_eq_getElem hi, e2⟩
theorem HasDs.ints : ∀ {ns : List Int} {xs : List V}, HasDs K H xs (ns.map PyData.int) ↔ xs = ns.map V.int
  | [], xs => by rw [List.map_nil, HasDs]; rfl
  | n :: ns, xs => by
    rw [List.map_cons, HasDs, List.map_cons]
    constructor
    · rintro ⟨x, r, rfl, h1, h2⟩
      rw [HasD] at h1
      rw [h1, HasDs.ints.mp h2]
    · rintro rfl
      exact ⟨_, _, rfl, by rw [HasD], HasDs.ints.mpr rfl⟩
theorem HasDs.app : ∀ {ds es : List PyData} {xs ys : List V}, HasDs K H xs ds → HasDs K H ys es → HasDs K H (xs ++ ys) (ds ++ es)
  | [], es, xs, ys, h, h' => by rw [HasDs] at h; subst h; exact h'
  | d :: ds, es, xs, ys, h, h' => by
    rw [HasDs] at h
    obtain ⟨x, r, rfl, h1, h2⟩ := h
    rw [List.cons_append, List.cons_append, HasDs]
    exact ⟨_, _, rfl, h1, HasDs.app h2 h'⟩
theorem HasDs.take : ∀ {ds : List PyData} {xs : List V} (n : Nat), HasDs K H xs ds → HasDs K H (xs.take n) (ds.take n)
  | ds, xs, 0, h => by rw [List.take_zero, List.take_zero, HasDs]
  | [], xs, n + 1, h => by rw [HasDs] at h; subst h; rw [List.take_nil, List.take_nil, HasDs]
  | d :: ds, xs, n + 1, h => by
    rw [HasDs] at h
    obtain ⟨x, r, rfl, h1, h2⟩ := h
    rw [List.take_succ_cons, List.take_succ_cons, HasDs]
    exact ⟨_, _, rfl, h1, HasDs.take n h2⟩
theorem HasDs.drop : ∀ {ds : List PyData} {xs : List V} (n : Nat), HasDs K H xs ds → HasDs K H (xs.drop n) (ds.drop n)
  | ds, xs, 0, h => by rw [List.drop_zero, List.drop_zero]; exact h
  | [], xs, n + 1, h => by rw [HasDs] at h; subst h; rw [List.drop_nil, List.drop_nil, HasDs]
  | d :: ds, xs, n + 1, h => by
    rw [HasDs] at h
    obtain ⟨x, r, rfl, h1, h2⟩ := h
    rw [List.drop_succ_cons, List.drop_succ_cons]
    exact HasDs.drop n h2
theorem NewDs.len {ds : List PyData} {xs : List V} (h : NewDs K H H' xs ds) : xs.length = ds.length := (NewDs.has ds h).len
theorem NewDs.get : ∀ {ds : List PyData} {xs : List V} {i : Nat} {d : PyData}, NewDs K H H' xs ds → ds[i]? = some d → ∃ x, xs[i]? = some x ∧ NewD K H H' x d
  | [], xs, i, d, h, e => by simp at e
  | d0 :: ds, xs, i, d, h, e => by
    rw [NewDs] at h
    obtain ⟨x, r, rfl, h1, h2⟩ := h
    cases i with
    | zero =>
      rw [List.getElem?_cons_zero] at e
      cases e
      exact ⟨x, rfl, h1⟩
    | succ i =>
      rw [List.getElem?_cons_succ] at e
      obtain ⟨y, e1, e2⟩ := NewDs.get h2 e
      exact ⟨y, by rw [List.getElem?_cons_succ]; exact e1, e2⟩
theorem NewDs.at {ds : List PyData} {xs : List V} {i : Nat} {x : V} (h : NewDs K H H' xs ds) (e : xs[i]? = some x) : ∃ d, ds[i]? = some d ∧ NewD K H H' x d := by
  have hi : i < ds.length := by
    rw [← h.len]
    exact (List.getElem?_eq_some_iff.mp e).1
  obtain ⟨y, e1, e2⟩ := h.get (List.getElem?_eq_getElem hi)
  rw [e] at e1
  cases e1
  exact ⟨_, List.getElem?_eq_getElem hi, e2⟩
theorem NewDs.nil : NewDs K H H' [] [] := by rw [NewDs]
theorem NewDs.cons {x : V} {d : PyData} {xs : List V} {ds : List PyData} (h : NewD K H H' x d) (h' : NewDs K H H' xs ds) : NewDs K H H' (x :: xs) (d :: ds) := by
  rw [NewDs]
  exact ⟨_, _, rfl, h, h'⟩
theorem HasDs.nil : HasDs K H [] [] := by rw [HasDs]
theorem HasDs.cons {x : V} {d : PyData} {xs : List V} {ds : List PyData} (h : HasD K H x d) (h' : HasDs K H xs ds) : HasDs K H (x :: xs) (d :: ds) := by
  rw [HasDs]
  exact ⟨_, _, rfl, h, h'⟩
theorem NewDs.app : ∀ {ds es : List PyData} {xs ys : List V}, NewDs K H H' xs ds → NewDs K H H' ys es → NewDs K H H' (xs ++ ys) (ds ++ es)
  | [], es, xs, ys, h, h' => by rw [NewDs] at h; subst h; exact h'
  | d :: ds, es, xs, ys, h, h' => by
    rw [NewDs] at h
    obtain ⟨x, r, rfl, h1, h2⟩ := h
    exact .cons h1 (NewDs.app h2 h')
theorem NewDs.snoc {x : V} {d : PyData} {xs : List V} {ds : List PyData} (h : NewDs K H H' xs ds) (h' : NewD K H H' x d) : NewDs K H H' (xs ++ [x]) (ds ++ [d]) := h.app (.cons h' .nil)
theorem NewDs.take : ∀ {ds : List PyData} {xs : List V} (n : Nat), NewDs K H H' xs ds → NewDs K H H' (xs.take n) (ds.take n)
  | ds, xs, 0, h => by rw [List.take_zero, List.take_zero]; exact .nil
  | [], xs, n + 1, h => by rw [NewDs] at h; subst h; rw [List.take_nil, List.take_nil]; exact .nil
  | d :: ds, xs, n + 1, h => by
    rw [NewDs] at h
    obtain ⟨x, r, rfl, h1, h2⟩ := h
    rw [List.take_succ_cons, List.take_succ_cons]
    exact .cons h1 (NewDs.take n h2)
theorem NewDs.drop : ∀ {ds : List PyData} {xs : List V} (n : Nat), NewDs K H H' xs ds → NewDs K H H' (xs.drop n) (ds.drop n)
  | ds, xs, 0, h => by rw [List.drop_zero, List.drop_zero]; exact h
  | [], xs, n + 1, h => by rw [NewDs] at h; subst h; rw [List.drop_nil, List.drop_nil]; exact .nil
  | d :: ds, xs, n + 1, h => by
    rw [NewDs] at h
    obtain ⟨x, r, rfl, h1, h2⟩ := h
    rw [List.drop_succ_cons, List.drop_succ_cons]
    exact NewDs.drop n h2
theorem NewDs.set : ∀ {ds : List PyData} {xs : List V} {x : V} {d : PyData} (i : Nat), NewDs K H H' xs ds → NewD K H H' x d → NewDs K H H' (xs.set i x) (ds.set i d)
  | [], xs, x, d, i, h, h' => by rw [NewDs] at h; subst h; exact .nil
  | d0 :: ds, xs, x, d, i, h, h' => by
    rw [NewDs] at h
    obtain ⟨y, r, rfl, h1, h2⟩ := h
    cases i with
    | zero => exact .cons h' h2
    | succ i => exact .cons h1 (NewDs.set i h2 h')
theorem NewDs.rev : ∀ {ds : List PyData} {xs : List V}, NewDs K H H' xs ds → NewDs K H H' xs.reverse ds.reverse
  | [], xs, h => by rw [NewDs] at h; subst h; exact .nil
  | d :: ds, xs, h => by
    rw [NewDs] at h
    obtain ⟨x, r, rfl, h1, h2⟩ := h
    rw [List.reverse_cons, List.reverse_cons]
    exact (NewDs.rev h2).snoc h1
theorem NewDs.rep {x : V} {d : PyData} (h : NewD K H H' x d) : ∀ (n : Nat), NewDs K H H' (List.replicate n x) (List.replicate n d)
  | 0 => .nil
  | n + 1 => .cons h (NewDs.rep h n)
theorem NewDs.ints {ns : List Int} {xs : List V} : NewDs K H H' xs (ns.map PyData.int) ↔ xs = ns.map V.int := by
  constructor
  · intro h
    exact HasDs.ints.mp (NewDs.has _ h)
  · rintro rfl
    induction ns with
    | nil => exact .nil
    | cons n ns ih => exact .cons (by rw [NewD]) ih
theorem NewD.int (i : Int) : NewD K H H' (.int i) (.int i) := by rw [NewD]
theorem NewD.bl (i : Bool) : NewD K H H' (.bl i) (.bool i) := by rw [NewD]
theorem NewD.non : NewD K H H' .non .none := by rw [NewD]
theorem NewD.str (x : Str) : NewD K H H' (.str x) (.str x) := by rw [NewD]
theorem HasD.int (i : Int) : HasD K H (.int i) (.int i) := by rw [HasD]
theorem HasD.bl (i : Bool) : HasD K H (.bl i) (.bool i) := by rw [HasD]
theorem HasD.non : HasD K H .non .none := by rw [HasD]
theorem HasD.str (x : Str) : HasD K H (.str x) (.str x) := by rw [HasD]
theorem NewD.lst {a : Addr} {xs : List V} {ds : List PyData} (n : H a = none) (q : H' a = some (.lst xs)) (h : NewDs K H H' xs ds) : NewD K H H' (.ref a) (.list ds) := by
  rw [NewD]
  exact ⟨a, xs, rfl, n, q, h⟩
theorem NewD.tup {a : Addr} {xs : List V} {ds : List PyData} (q : SqT K H' a xs) (h : NewDs K H H' xs ds) : NewD K H H' (.ref a) (.tuple ds) := by
  rw [NewD]
  exact ⟨a, xs, rfl, q, h⟩
theorem HasD.lst {a : Addr} {xs : List V} {ds : List PyData} (q : SqL K H a xs) (h : HasDs K H xs ds) : HasD K H (.ref a) (.list ds) := by
  rw [HasD]
  exact ⟨a, xs, rfl, q, h⟩
theorem HasD.tup {a : Addr} {xs : List V} {ds : List PyData} (q : SqT K H a xs) (h : HasDs K H xs ds) : HasD K H (.ref a) (.tuple ds) := by
  rw [HasD]
  exact ⟨a, xs, rfl, q, h⟩
theorem HasD.oflst {v : V} {ds : List PyData} (h : HasD K H v (.list ds)) : ∃ a xs, v = .ref a ∧ SqL K H a xs ∧ HasDs K H xs ds := by rw [HasD] at h; exact h
theorem HasD.oftup {v : V} {ds : List PyData} (h : HasD K H v (.tuple ds)) : ∃ a xs, v = .ref a ∧ SqT K H a xs ∧ HasDs K H xs ds := by rw [HasD] at h; exact h
theorem NewD.oflst {v : V} {ds : List PyData} (h : NewD K H H' v (.list ds)) : ∃ a xs, v = .ref a ∧ H a = none ∧ H' a = some (.lst xs) ∧ NewDs K H H' xs ds := by rw [NewD] at h; exact h
theorem NewD.oftup {v : V} {ds : List PyData} (h : NewD K H H' v (.tuple ds)) : ∃ a xs, v = .ref a ∧ SqT K H' a xs ∧ NewDs K H H' xs ds := by rw [NewD] at h; exact h
theorem NewD.ofint {v : V} {i : Int} (h : NewD K H H' v (.int i)) : v = .int i := by rw [NewD] at h; exact h
theorem NewD.ofbl {v : V} {i : Bool} (h : NewD K H H' v (.bool i)) : v = .bl i := by rw [NewD] at h; exact h
theorem NewD.ofnon {v : V} (h : NewD K H H' v .none) : v = .non := by rw [NewD] at h; exact h
theorem NewD.ofstr {v : V} {x : Str} (h : NewD K H H' v (.str x)) : v = .str x := by rw [NewD] at h; exact h
theorem HasD.ofint {v : V} {i : Int} (h : HasD K H v (.int i)) : v = .int i := by rw [HasD] at h; exact h
theorem HasD.ofbl {v : V} {i : Bool} (h : HasD K H v (.bool i)) : v = .bl i := by rw [HasD] at h; exact h
theorem HasD.ofnon {v : V} (h : HasD K H v .none) : v = .non := by rw [HasD] at h; exact h
theorem HasD.ofstr {v : V} {x : Str} (h : HasD K H v (.str x)) : v = .str x := by rw [HasD] at h; exact h
end
/-- a pure def's end: what comes out holds d, its lists are new, nothing else has changed -/
def Res (K : PySem.W.Frag) (H : Hp) (Q : VK) (d : PyData) : Prop := ∀ r H', Same H H' → NewD K H H' r d → Q r H'
/-- a list object at l, new since H -/
theorem upd_new {H : Hp} {l : Addr} {o : HO} (h : H l = none) : Same H (upd H l o) := Same.upd h
theorem same_write {H H' : Hp} {l : Addr} {o : HO} (S : Same H H') (h : H l = none) : Same H (upd H' l o) := fun b u e => by
  rw [upd_ne (ne_of_none e h)]
  exact S b u e
theorem some_ne {H : Hp} {l : Addr} {o : HO} (h : H l = some o) : H l ≠ none := by rw [h]; exact fun z => nomatch z
/-- no list, no tuple stands there -/
def NoSeq (o : Option HO) : Prop := (∀ xs, o ≠ some (.lst xs)) ∧ (∀ xs, o ≠ some (.tup xs)) ∧ ∀ ob u, o ≠ some (.frz ob u)
theorem noSeq_ins {C dx : Addr} {fs : List (Str × V)} : NoSeq (some (.ins C dx fs)) := ⟨fun _ z => (by cases z), fun _ z => (by cases z), fun _ _ z => (by cases z)⟩
theorem noSeq_none : NoSeq none := ⟨fun _ z => (by cases z), fun _ z => (by cases z), fun _ _ z => (by cases z)⟩
theorem NoSeq.tup {o : Option HO} (n : NoSeq o) : NoTup o := ⟨n.2.1, n.2.2⟩
theorem SqL.write {K : PySem.W.Frag} {H : Hp} {a l : Addr} {o : HO} {xs : List V} (n : NoSeq (H l)) (h : SqL K H a xs) : SqL K (upd H l o) a xs := by
  rcases h with (h | ⟨ob, h⟩) | h
  · exact .inl (.inl (by rw [upd_ne (fun z => n.1 xs (by rw [← z]; exact h))]; exact h))
  · exact .inl (.inr ⟨ob, by rw [upd_ne (fun z => n.2.2 ob _ (by rw [← z]; exact h))]; exact h⟩)
  · exact .inr h
mutual
theorem HasD.write {K : PySem.W.Frag} {H : Hp} {l : Addr} {o : HO} (n : NoSeq (H l)) : ∀ (d : PyData) {v : V}, HasD K H v d → HasD K (upd H l o) v d
  | .none, v, h => by rw [HasD] at h ⊢; exact h
  | .bool _, v, h => by rw [HasD] at h ⊢; exact h
  | .int _, v, h => by rw [HasD] at h ⊢; exact h
  | .str _, v, h => by rw [HasD] at h ⊢; exact h
  | .list ds, v, h => by
    rw [HasD] at h ⊢
    obtain ⟨a, xs, e, q, r⟩ := h
    exact ⟨a, xs, e, q.write n, HasDs.write n ds r⟩
  | .tuple ds, v, h => by
    rw [HasD] at h ⊢
    obtain ⟨a, xs, e, q, r⟩ := h
    exact ⟨a, xs, e, q.write n.tup, HasDs.write n ds r⟩
  | .dict _, v, h => by rw [HasD] at h; exact h.elim
theorem HasDs.write {K : PySem.W.Frag} {H : Hp} {l : Addr} {o : HO} (n : NoSeq (H l)) : ∀ (ds : List PyData) {xs : List V}, HasDs K H xs ds → HasDs K (upd H l o) xs ds
  | [], xs, h => by rw [HasDs] at h ⊢; exact h
  | d :: ds, xs, h => by
    rw [HasDs] at h ⊢
    obtain ⟨x, r, e, h1, h2⟩ := h
    exact ⟨x, r, e, HasD.write n d h1, HasDs.write n ds h2⟩
end
end L2

/-! ### EXTENSION 7: zip and enumerate, walked by a pair of names; comprehensions of data -/
namespace L2
open PySem PySem.Spec PyProof.Rows

section
variable {X : Cx} {pins : List (Addr × Obj)} {σ : St} {H : Hp} {s : Shared} {h' : Heap}
/-- some untracked records of ours have turned -/
theorem Inv.turnedL {t' : Nat} {ch : List Addr} (I : Inv X pins σ H s) (k : ∀ b o, b ∉ ch → s.heap.get? b = some o → h'.get? b = some o) (hf : ∀ b ∈ ch, FpOk X pins H b) : Inv X pins σ H { s with heap := h', toks := t' } := by
  have nit : ∀ b u, H b = some u → b ∉ ch := fun b u e z => by rw [(hf b z).1] at e; cases e
  refine I.step (g' := s.gens) (d' := s.drawn) (ch := ch) (fun b hb => ?_) (fun b o _ _ hc e _ => k b o hc e) (fun b o _ _ hc e _ => ⟨o.slots, k b o hc e⟩) (fun _ _ _ _ n => n)
    (fun b o hc e => ⟨o, k b o hc e⟩) (fun _ _ e => e) (fun _ _ _ e => e) (fun b ps e => ⟨#[], by rw [e]; simp⟩) (fun m hm => ?_) (fun b u e => ?_) I.bare
  · obtain ⟨_, f1, _, f3, f4, f5⟩ := hf b hb
    exact ⟨f3, f1, f4, f5⟩
  · obtain ⟨o, es, ep, ho, r⟩ := hm
    exact ⟨o, es, ep, k _ o (fun z => (hf _ z).2.1 rfl) ho, r⟩
  · refine (I.hok b u e).stay (fun c v hc q => k c v ?_ q) (fun _ q => q) fun _ _ q => q
    rcases hc with z | z
    · rw [z]; exact nit b u e
    · exact nit c _ z
/-- .. and a new tuple has come -/
theorem Inv.turnedT {t' : Nat} {ch : List Addr} {T : Addr} {vs : List V} {us : List Value} (I : Inv X pins σ H s) (k : ∀ b o, b ∉ ch → s.heap.get? b = some o → h'.get? b = some o) (hf : ∀ b ∈ ch, FpOk X pins H b)
    (hT : s.heap.objs.size ≤ T) (tp : h'.IsTuple T us.toArray) (r : Vals vs us) (hz : vs.length ≤ sizeLine) : Inv X pins σ (upd H T (.tup vs)) { s with heap := h', toks := t' } := by
  have hn : H T = none := I.hok.fresh hT
  have nit : ∀ b u, H b = some u → b ∉ ch := fun b u e z => by rw [(hf b z).1] at e; cases e
  have up : ∀ b u, H b = some u → upd H T (.tup vs) b = some u := fun b u e => by rw [upd_ne (ne_of_none e hn)]; exact e
  have old : ∀ b o, s.heap.get? b = some o → b ≠ T := fun b o e => Nat.ne_of_lt (Nat.lt_of_lt_of_le (Heap.lt_size e) hT)
  refine I.step (g' := s.gens) (d' := s.drawn) (ch := ch) (fun b hb => ?_) (fun b o _ _ hc e _ => k b o hc e) (fun b o _ _ hc e _ => ⟨o.slots, k b o hc e⟩) (fun b o _ e n => by rw [upd_ne (old b o e)]; exact n)
    (fun b o hc e => ⟨o, k b o hc e⟩) (fun b xs e => up b _ e) (fun b o u e => up b _ e) (fun b ps e => ⟨#[], by rw [up b _ e]; simp⟩) (fun m hm => ?_) (fun b u e => ?_) I.bare
  · obtain ⟨_, f1, _, f3, f4, f5⟩ := hf b hb
    exact ⟨f3, f1, f4, f5⟩
  · obtain ⟨o, es, ep, ho, r⟩ := hm
    exact ⟨o, es, ep, k _ o (fun z => (hf _ z).2.1 rfl) ho, r⟩
  · by_cases hb : b = T
    · subst hb
      rw [upd_same] at e
      cases e
      exact ⟨hz, us, r, tp⟩
    · rw [upd_ne hb] at e
      refine (I.hok b u e).stay (fun c v hc q => k c v ?_ q) (fun c q => up c _ q) fun c xs q => up c _ q
      rcases hc with z | z
      · rw [z]; exact nit b u e
      · exact nit c _ z
end

/-- the pairs of two lists that the turns leave as they are -/
def Itz (K : PySem.W.Frag) (a b : Addr) : It :=
  ⟨fun i H => ∃ xs ys x y, SqL K H a xs ∧ SqL K H b ys ∧ xs[i]? = some x ∧ ys[i]? = some y,
   fun i H v H' => ∃ T x y, v = .ref T ∧ H T = none ∧ H' = upd H T (.tup [x, y]) ∧ (∀ xs, SqL K H a xs → xs[i]? = some x) ∧ ∀ ys, SqL K H b ys → ys[i]? = some y,
   fun i H => ∃ xs ys, SqL K H a xs ∧ SqL K H b ys ∧ min xs.length ys.length = i⟩
/-- a list's places and items -/
def Ite (K : PySem.W.Frag) (a : Addr) : It :=
  ⟨fun i H => ∃ xs x, SqL K H a xs ∧ xs[i]? = some x,
   fun i H v H' => ∃ T x, v = .ref T ∧ H T = none ∧ H' = upd H T (.tup [.int i, x]) ∧ ∀ xs, SqL K H a xs → xs[i]? = some x,
   fun i H => ∃ xs, SqL K H a xs ∧ xs.length = i⟩
theorem turn_zip {P : Program} {w : World} {K : PySem.W.Frag} {elts : List Expr} {k : Nat} {pos : Pos} {z TI TO i1 i2 a b : Addr} (D : ZipApart z TI TO i1 i2 a b) :
    Turn P w K (.Tuple elts k pos) (Itz K a b) [z, TI, TO, i1, i2] z (fun i h => IsZip h z TI TO .none ∧ IsPair h TI (.ref i1) (.ref i2) ∧ (∃ a b, IsPair h TO a b) ∧ h.IsListIter i1 a i ∧ h.IsListIter i2 b i) where
  mem := by simp
  obj := fun i h st c hc => by
    obtain ⟨hz, hTI, ⟨u, v, hTO⟩, ⟨o1, e1, _, d1⟩, ⟨o2, e2, _, d2⟩⟩ := st
    simp only [List.mem_cons, List.not_mem_nil, or_false] at hc
    rcases hc with rfl | rfl | rfl | rfl | rfl
    · exact ⟨_, hz, fun v z => by cases z⟩
    · exact ⟨_, hTI, fun v z => by cases z⟩
    · exact ⟨_, hTO, fun v z => by cases z⟩
    · exact ⟨_, e1, fun v z => by rw [d1] at z; cases z⟩
    · exact ⟨_, e2, fun v z => by rw [d2] at z; cases z⟩
  keep := fun i h h' st kk => by
    obtain ⟨hz, hTI, ⟨u, v, hTO⟩, h1, h2⟩ := st
    exact ⟨kk z (by simp) _ hz, kk TI (by simp) _ hTI, ⟨u, v, kk TO (by simp) _ hTO⟩, h1.at fun o e => kk i1 (by simp) o e, h2.at fun o e => kk i2 (by simp) o e⟩
  item := by
    intro X hP hw hK hc i pins s σ H E I hf st hg
    subst hP hw hK
    obtain ⟨xs, ys, x, y, hx, hy, ex, ey⟩ := hg
    obtain ⟨u1, r1, p1, z1⟩ := I.list hx
    obtain ⟨u2, r2, p2, z2⟩ := I.list hy
    obtain ⟨v1, q1, rv1⟩ := r1.get ex
    obtain ⟨v2, q2, rv2⟩ := r2.get ey
    have W := WalksT.zip2 (prog := X.prog) (w := X.w) (A := X.A) (I.ok.hd hc) z TI TO i1 i2 a b D u1.toArray u2.toArray
    have l1 : i < u1.length := (List.getElem?_eq_some_iff.mp q1).1
    have l2 : i < u2.length := (List.getElem?_eq_some_iff.mp q2).1
    obtain ⟨s1, s2, s3, s4, s5⟩ := st
    refine W.item i s _ _ (by simp; omega) ⟨s1, s2, s3, s4, s5, p1.isList, p2.isList⟩ fun T vals h1 tk hPt hT tp mid kk => ⟨_, rfl, ?_⟩
    obtain ⟨x', y', e1, e2, rfl⟩ := hPt
    have e1' : u1[i]? = some x' := by simpa using e1
    have e2' : u2[i]? = some y' := by simpa using e2
    rw [q1] at e1'
    rw [q2] at e2'
    cases e1'
    cases e2'
    refine W.go elts k pos i T { s with heap := h1, toks := tk } _ _ mid fun h2 st2 kk2 => ?_
    have nw := W.apart i T _ mid
    obtain ⟨o, eo, oc, od⟩ := tp
    have tp2 : h2.IsTuple T #[v1, v2] := ⟨o, kk2 T o nw eo, oc, od⟩
    obtain ⟨t1, t2, t3, t4, t5, _⟩ := st2
    have hn : H T = none := I.hok.fresh hT
    have sub : ∀ c ∈ [z, TO, i1, i2], c ∈ [z, TI, TO, i1, i2] := fun c hc => by
      simp only [List.mem_cons, List.not_mem_nil, or_false] at hc ⊢
      rcases hc with rfl | rfl | rfl | rfl <;> simp
    have I2 : Inv X pins σ (upd H T (.tup [x, y])) { s with heap := h2, toks := tk } := I.turnedT (ch := [z, TO, i1, i2]) (us := [v1, v2]) (fun c o hc e => kk2 c o hc (kk c o hc e)) (fun c hc => hf c (sub c hc)) hT tp2 (.cons rv1 (.cons rv2 .nil)) (by show 2 ≤ sizeLine; decide)
    refine ⟨.ref T, upd H T (.tup [x, y]), I2, rfl,
      ⟨T, x, y, rfl, hn, rfl, fun xs' h' => by rw [I.list_inj h' hx]; exact ex, fun ys' h' => by rw [I.list_inj h' hy]; exact ey⟩, ⟨t1, t2, t3, t4, t5⟩, fun c hc => ?_⟩
    obtain ⟨oc', ec, _⟩ : ∃ o, s.heap.get? c = some o ∧ True := by
      obtain ⟨u, v, hTO⟩ := s3
      obtain ⟨o1, e1, _⟩ := s4
      obtain ⟨o2, e2, _⟩ := s5
      simp only [List.mem_cons, List.not_mem_nil, or_false] at hc
      rcases hc with rfl | rfl | rfl | rfl | rfl
      · exact ⟨_, s1, trivial⟩
      · exact ⟨_, s2, trivial⟩
      · exact ⟨_, hTO, trivial⟩
      · exact ⟨_, e1, trivial⟩
      · exact ⟨_, e2, trivial⟩
    rw [upd_ne (Nat.ne_of_lt (Nat.lt_of_lt_of_le (Heap.lt_size ec) hT))]
    exact (hf c hc).1
  done := by
    intro X hP hw hK hc i pins s σ H E I hf st hg
    subst hP hw hK
    obtain ⟨xs, ys, hx, hy, hi⟩ := hg
    obtain ⟨u1, r1, p1, z1⟩ := I.list hx
    obtain ⟨u2, r2, p2, z2⟩ := I.list hy
    have W := WalksT.zip2 (prog := X.prog) (w := X.w) (A := X.A) (I.ok.hd hc) z TI TO i1 i2 a b D u1.toArray u2.toArray
    obtain ⟨s1, s2, s3, s4, s5⟩ := st
    have en : min u1.toArray.size u2.toArray.size = i := by
      have := r1.length
      have := r2.length
      simp
      omega
    refine W.done s _ _ (by rw [en]; exact ⟨s1, s2, s3, s4, s5, p1.isList, p2.isList⟩) fun h' tk kk => ⟨rfl, I.turnedL (ch := [z, TO, i1, i2]) kk fun c hc => hf c ?_⟩
    simp only [List.mem_cons, List.not_mem_nil, or_false] at hc ⊢
    rcases hc with rfl | rfl | rfl | rfl <;> simp
  self := fun _ _ _ _ _ st h => wpAny_pyIter_zip st.1 h
theorem turn_enum {P : Program} {w : World} {K : PySem.W.Frag} {elts : List Expr} {k : Nat} {pos : Pos} {e it a : Addr} (hei : e ≠ it) (hae : a ≠ e) (hai : a ≠ it) :
    Turn P w K (.Tuple elts k pos) (Ite K a) [e, it] e (fun i h => (∃ old, IsEnum h e it i old) ∧ h.IsListIter it a i) where
  mem := by simp
  obj := fun i h st c hc => by
    obtain ⟨⟨old, he⟩, ⟨o1, e1, _, d1⟩⟩ := st
    simp only [List.mem_cons, List.not_mem_nil, or_false] at hc
    rcases hc with rfl | rfl
    · exact ⟨_, he, fun v z => by cases z⟩
    · exact ⟨_, e1, fun v z => by rw [d1] at z; cases z⟩
  keep := fun i h h' st kk => by
    obtain ⟨⟨old, he⟩, h1⟩ := st
    exact ⟨⟨old, kk e (by simp) _ he⟩, h1.at fun o q => kk it (by simp) o q⟩
  item := by
    intro X hP hw hK hc i pins s σ H E I hf st hg
    subst hP hw hK
    obtain ⟨xs, x, hx, ex⟩ := hg
    obtain ⟨u1, r1, p1, z1⟩ := I.list hx
    obtain ⟨v1, q1, rv1⟩ := r1.get ex
    have W := WalksT.enumerate (prog := X.prog) (w := X.w) (A := X.A) (I.ok.hd hc) e it a hei hae hai u1.toArray
    have l1 : i < u1.length := (List.getElem?_eq_some_iff.mp q1).1
    obtain ⟨s1, s2⟩ := st
    refine W.item i s _ _ (by simp; omega) ⟨s1, s2, p1.isList⟩ fun T vals h1 tk hPt hT tp mid kk => ⟨_, rfl, ?_⟩
    obtain ⟨t, x', e1, rfl⟩ := hPt
    have e1' : u1[i]? = some x' := by simpa using e1
    rw [q1] at e1'
    cases e1'
    refine W.go elts k pos i T { s with heap := h1, toks := tk } _ _ mid fun h2 st2 kk2 => ?_
    have nw := W.apart i T _ mid
    obtain ⟨o, eo, oc, od⟩ := tp
    have tp2 : h2.IsTuple T #[.int i t, v1] := ⟨o, kk2 T o nw eo, oc, od⟩
    obtain ⟨t1, t2, _⟩ := st2
    have hn : H T = none := I.hok.fresh hT
    have I2 : Inv X pins σ (upd H T (.tup [.int i, x])) { s with heap := h2, toks := tk } := I.turnedT (ch := [e, it]) (us := [.int i t, v1]) (fun c o hc e => kk2 c o hc (kk c o hc e)) (fun c hc => hf c hc) hT tp2 (.cons ⟨t, rfl⟩ (.cons rv1 .nil)) (by show 2 ≤ sizeLine; decide)
    refine ⟨.ref T, upd H T (.tup [.int i, x]), I2, rfl,
      ⟨T, x, rfl, hn, rfl, fun xs' h' => by rw [I.list_inj h' hx]; exact ex⟩, ⟨t1, t2⟩, fun c hc => ?_⟩
    obtain ⟨oc', ec, _⟩ : ∃ o, s.heap.get? c = some o ∧ True := by
      obtain ⟨old, he⟩ := s1
      obtain ⟨o1, e1, _⟩ := s2
      simp only [List.mem_cons, List.not_mem_nil, or_false] at hc
      rcases hc with rfl | rfl
      · exact ⟨_, he, trivial⟩
      · exact ⟨_, e1, trivial⟩
    rw [upd_ne (Nat.ne_of_lt (Nat.lt_of_lt_of_le (Heap.lt_size ec) hT))]
    exact (hf c hc).1
  done := by
    intro X hP hw hK hc i pins s σ H E I hf st hg
    subst hP hw hK
    obtain ⟨xs, hx, hi⟩ := hg
    obtain ⟨u1, r1, p1, z1⟩ := I.list hx
    have W := WalksT.enumerate (prog := X.prog) (w := X.w) (A := X.A) (I.ok.hd hc) e it a hei hae hai u1.toArray
    obtain ⟨s1, s2⟩ := st
    have en : u1.toArray.size = i := by
      have := r1.length
      simp
      omega
    exact W.done s _ _ (by rw [en]; exact ⟨s1, s2, p1.isList⟩) fun h' tk kk => ⟨rfl, I.turnedL (ch := [e, it]) kk fun c hc => hf c hc⟩
  self := fun _ _ _ _ _ st h => by
    obtain ⟨⟨old, he⟩, _⟩ := st
    exact wpAny_pyIter_enum he h

section
variable {X : Cx}
def iZip (K : PySem.W.Frag) (ta : TA) : TI := fun σ H R => ta σ H fun vs H1 => ∃ a b, vs = [.ref a, .ref b] ∧ (∃ xs, SqL K H1 a xs) ∧ (∃ ys, SqL K H1 b ys) ∧ R (Itz K a b) H1
def iEnum (K : PySem.W.Frag) (ta : TA) : TI := fun σ H R => ta σ H fun vs H1 => ∃ a, vs = [.ref a] ∧ (∃ xs, SqL K H1 a xs) ∧ R (Ite K a) H1
theorem pi_zip {e1 e2 : Expr} {ta : TA} {p pos tpos : Pos} {elts : List Expr} {k : Nat} (hg : Gl X "zip") (hm : X.mg "zip" = none) (ha : PA X [e1, e2] ta) (hs : starEach [e1, e2] X.env = [(false, eval e1 X.env), (false, eval e2 X.env)] := by rfl) (hs2 : starEach [e2] X.env = [(false, eval e2 X.env)] := by rfl) :
    PI X (.Tuple elts k tpos) (.Call (.Name "zip" p) [e1, e2] [] pos) (iZip X.K ta) := by
  intro pins s σ H R I h
  refine Call_ (ld_blt I hg hm bt_zip (PyProof.Rows.callWith_type1 (thn (ha pos pins s σ H _ I h) fun us s1 ⟨vs, H1, I1, r1, q1⟩ => ?_) (by rw [hs, hs2]) (by rw [hs2]; rfl)))
  obtain ⟨a, b, e, ⟨xs, hx⟩, ⟨ys, hy⟩, q⟩ := q1
  subst e
  obtain ⟨u, u', rfl, ra, rb⟩ := vals2 r1
  cases ra
  cases rb
  obtain ⟨u1, _, p1, _⟩ := I1.list hx
  obtain ⟨u2, _, p2, _⟩ := I1.list hy
  have lt1 : a < s1.heap.objs.size := by obtain ⟨o, _, e, _⟩ := id p1; exact Heap.lt_size e
  have lt2 : b < s1.heap.objs.size := by obtain ⟨o, _, e, _⟩ := id p2; exact Heap.lt_size e
  refine call_zip_2 p1.isList p2.isList fun h' hz hTI hTO hi1 hi2 hsz kk => ?_
  refine wpAny_pyIter_zip hz ?_
  have D : ZipApart (s1.heap.objs.size + 4) (s1.heap.objs.size + 2) (s1.heap.objs.size + 3) s1.heap.objs.size (s1.heap.objs.size + 1) a b := zipApart_new lt1 lt2
  refine ⟨_, _, _, _, H1, rfl, I1.kept (t' := s1.toks) kk, turn_zip D, ⟨hz, hTI, ⟨_, _, hTO⟩, hi1, hi2⟩, fun c hc => ?_, q⟩
  have hge : s1.heap.objs.size ≤ c := by
    simp only [List.mem_cons, List.not_mem_nil, or_false] at hc
    rcases hc with e | e | e | e | e <;> (rw [e]; first | exact Nat.le_add_right _ _ | exact Nat.le_refl _)
  exact I1.fpOk hge (I1.hok.fresh hge)
theorem pi_enum {e1 : Expr} {ta : TA} {p pos tpos : Pos} {elts : List Expr} {k : Nat} (hg : Gl X "enumerate") (hm : X.mg "enumerate" = none) (ha : PA X [e1] ta) (hs : starEach [e1] X.env = [(false, eval e1 X.env)] := by rfl) :
    PI X (.Tuple elts k tpos) (.Call (.Name "enumerate" p) [e1] [] pos) (iEnum X.K ta) := by
  intro pins s σ H R I h
  refine Call_ (ld_blt I hg hm bt_enumerate (PyProof.Rows.callWith_type1 (thn (ha pos pins s σ H _ I h) fun us s1 ⟨vs, H1, I1, r1, q1⟩ => ?_) hs rfl))
  obtain ⟨a, e, ⟨xs, hx⟩, q⟩ := q1
  subst e
  obtain ⟨u, rfl, ra⟩ := vals1 r1
  cases ra
  obtain ⟨u1, _, p1, _⟩ := I1.list hx
  have lt1 : a < s1.heap.objs.size := by obtain ⟨o, _, e, _⟩ := id p1; exact Heap.lt_size e
  refine call_enumerate_list p1.isList fun h' he hi hsz kk => ?_
  refine wpAny_pyIter_enum he ?_
  refine ⟨_, _, _, _, H1, rfl, I1.kept (t' := s1.toks) kk, turn_enum (Nat.ne_of_gt (Nat.lt_succ_self _)) (Nat.ne_of_lt (Nat.lt_succ_of_lt lt1)) (Nat.ne_of_lt lt1), ⟨⟨_, he⟩, hi⟩, fun c hc => ?_, q⟩
  have hge : s1.heap.objs.size ≤ c := by
    simp only [List.mem_cons, List.not_mem_nil, or_false] at hc
    rcases hc with e | e <;> (rw [e]; first | exact Nat.le_add_right _ _ | exact Nat.le_refl _)
  exact I1.fpOk hge (I1.hok.fresh hge)
end

/-! ### the forms one uses -/
theorem for_zip {K : PySem.W.Frag} {a b : Addr} {xs ys : List V} {g : TG} {tb : TS} {D : Ends} {σ : St} {H : Hp} (Pv : Nat → St → Hp → Prop) (h0 : Pv 0 σ H) (hl : ∀ i σ H, i ≤ min xs.length ys.length → Pv i σ H → SqL K H a xs ∧ SqL K H b ys)
    (hs : ∀ i x y T σ H, xs[i]? = some x → ys[i]? = some y → H T = none → Pv i σ H → g (.ref T) σ (upd H T (.tup [x, y])) fun σ2 H2 => tb { D with nx := Pv (i + 1), ct := Pv (i + 1), bk := D.nx } σ2 H2) (hd : ∀ σ H, Pv (min xs.length ys.length) σ H → D.nx σ H) :
    ∃ W : Nat → Nat → St → Hp → Prop, (∃ m, W 0 m σ H) ∧ ∀ i m σ H, W i m σ H →
      ((Itz K a b).stop i H ∧ D.nx σ H) ∨ ((Itz K a b).go i H ∧ ∃ N : St → Hp → Prop, (∀ σ' H', N σ' H' → ∃ m', m' < m ∧ W (i + 1) m' σ' H') ∧ ∀ x H', (Itz K a b).yld i H x H' → g x σ H' fun σ2 H2 => tb { D with nx := N, ct := N, bk := D.nx } σ2 H2) := by
  refine ⟨fun i m σ H => m = min xs.length ys.length - i ∧ i ≤ min xs.length ys.length ∧ Pv i σ H, ⟨min xs.length ys.length, by simp, Nat.zero_le _, h0⟩, ?_⟩
  rintro i m σ H ⟨rfl, hi, p⟩
  obtain ⟨q1, q2⟩ := hl i σ H hi p
  by_cases hlt : i < min xs.length ys.length
  · have h1 : i < xs.length := by omega
    have h2 : i < ys.length := by omega
    refine .inr ⟨⟨xs, ys, xs[i], ys[i], q1, q2, by simp, by simp⟩, Pv (i + 1), fun σ' H' p' => ⟨min xs.length ys.length - (i + 1), by omega, rfl, by omega, p'⟩, fun v H' y => ?_⟩
    obtain ⟨T, x, y, rfl, hT, rfl, y1, y2⟩ := y
    exact hs i x y T σ _ (y1 xs q1) (y2 ys q2) hT p
  · have e : i = min xs.length ys.length := by omega
    subst e
    exact .inl ⟨⟨xs, ys, q1, q2, rfl⟩, hd σ H p⟩
theorem for_enum {K : PySem.W.Frag} {a : Addr} {xs : List V} {g : TG} {tb : TS} {D : Ends} {σ : St} {H : Hp} (Pv : Nat → St → Hp → Prop) (h0 : Pv 0 σ H) (hl : ∀ i σ H, i ≤ xs.length → Pv i σ H → SqL K H a xs)
    (hs : ∀ i x T σ H, xs[i]? = some x → H T = none → Pv i σ H → g (.ref T) σ (upd H T (.tup [.int i, x])) fun σ2 H2 => tb { D with nx := Pv (i + 1), ct := Pv (i + 1), bk := D.nx } σ2 H2) (hd : ∀ σ H, Pv xs.length σ H → D.nx σ H) :
    ∃ W : Nat → Nat → St → Hp → Prop, (∃ m, W 0 m σ H) ∧ ∀ i m σ H, W i m σ H →
      ((Ite K a).stop i H ∧ D.nx σ H) ∨ ((Ite K a).go i H ∧ ∃ N : St → Hp → Prop, (∀ σ' H', N σ' H' → ∃ m', m' < m ∧ W (i + 1) m' σ' H') ∧ ∀ x H', (Ite K a).yld i H x H' → g x σ H' fun σ2 H2 => tb { D with nx := N, ct := N, bk := D.nx } σ2 H2) := by
  refine ⟨fun i m σ H => m = xs.length - i ∧ i ≤ xs.length ∧ Pv i σ H, ⟨xs.length, by simp, Nat.zero_le _, h0⟩, ?_⟩
  rintro i m σ H ⟨rfl, hi, p⟩
  have q1 := hl i σ H hi p
  by_cases hlt : i < xs.length
  · refine .inr ⟨⟨xs, xs[i], q1, by simp⟩, Pv (i + 1), fun σ' H' p' => ⟨xs.length - (i + 1), by omega, rfl, by omega, p'⟩, fun v H' y => ?_⟩
    obtain ⟨T, x, rfl, hT, rfl, y1⟩ := y
    exact hs i x T σ _ (y1 xs q1) hT p
  · have e : i = xs.length := by omega
    subst e
    exact .inl ⟨⟨xs, q1, rfl⟩, hd σ H p⟩

/-! ### comprehensions of data: each element by its reading, the values new -/
section
variable {K : PySem.W.Frag} {te : TE} {σ0 : St} {Q : VK} {H1 : Hp} {l : Addr} {g : TG}
/-- the run of any iterator of n turns without a test: y i H x H': what comes at turn i -/
theorem comp_dataG {J : It} {n : Nat} {ds : List PyData} (hn : ds.length = n) (hl : H1 l = none) (hz : n ≤ sizeLine)
    (hgo : ∀ i H, i < n → Same H1 H → J.go i H) (hst : ∀ H, Same H1 H → J.stop n H)
    (ht : ∀ i H x H' d (R : VK), ds[i]? = some d → Same H1 H → J.yld i H x H' → (∀ v H4, Same H H4 → NewD K H H4 v d → R v H4) → g x σ0 H' fun σ2 H2 => te σ2 H2 R)
    (he : ∀ H, Same H1 H → NewD K H1 H (.ref l) (.list ds) → Q (.ref l) H) :
    CompRun J g tYes te σ0 Q H1 l := by
  refine ⟨fun i m vs H => m = n - i ∧ i ≤ n ∧ H l = some (.lst vs) ∧ Same H1 H ∧ NewDs K (upd H1 l (.lst [])) H vs (ds.take i), ⟨n, by simp, Nat.zero_le _, upd_same, Same.upd hl, by rw [List.take_zero]; exact .nil⟩, ?_⟩
  rintro i m vs H ⟨rfl, hi, hL, hS, hD⟩
  refine ⟨hL, ?_⟩
  by_cases hlt : i < n
  · have hd : ds[i]? = some ds[i] := List.getElem?_eq_getElem (by omega)
    refine .inr ⟨hgo i H hlt hS, ?_, fun vs' H' => H' l = some (.lst vs') ∧ Same H1 H' ∧ NewDs K (upd H1 l (.lst [])) H' vs' (ds.take (i + 1)), fun vs' H' ⟨a, b, c⟩ => ⟨n - (i + 1), by omega, rfl, hlt, a, b, c⟩, fun x H' y => ?_⟩
    · rw [hD.len, List.length_take]
      omega
    · refine ht i H x H' _ _ hd hS y fun v H4 S4 N4 => ?_
      have hb : Same (upd H1 l (.lst [])) (upd H1 l (.lst [])) := Same.refl _
      have nl : upd H1 l (.lst []) l ≠ none := some_ne upd_same
      have S04 : Same H1 H4 := hS.trans S4
      refine ⟨S4 _ _ hL, upd_same, same_write S04 hl, ?_⟩
      have wl : ∀ a, H a = none → upd H1 l (.lst []) a = none := fun a e => by
        have ne : a ≠ l := fun z => by rw [z, hL] at e; cases e
        rw [upd_ne ne]
        exact hS.free e
      have e1 : ds.take (i + 1) = ds.take i ++ [ds[i]] := by rw [List.take_succ_eq_append_getElem]
      rw [e1]
      have hl4 : NoTup (H4 l) := by rw [S4 _ _ hL]; exact noTup_lst
      refine NewDs.snoc ((hD.later S4).write nl hl4) ?_
      exact NewD.write nl hl4 (NewD.go (fun a xs z q => ⟨wl a z, q⟩) (fun _ _ q => q) _ N4)
  · have e : i = n := by omega
    subst e
    refine .inl ⟨hst H hS, he H hS (.lst hl hL ?_)⟩
    rw [List.take_of_length_le (by omega)] at hD
    exact hD.wider (Same.upd hl)
end
section
variable {K : PySem.W.Frag} {te : TE} {σ0 : St} {Q : VK} {H1 : Hp} {l : Addr}
theorem comp_rangeD {lo : Int} {n : Nat} {ds : List PyData} (hn : ds.length = n) (hl : H1 l = none) (hz : n ≤ sizeLine)
    (ht : ∀ (i : Nat) H d (R : VK), ds[i]? = some d → Same H1 H → (∀ v H4, Same H H4 → NewD K H H4 v d → R v H4) → te (σ0.set 0 (some (.int (lo + i)))) H R)
    (he : ∀ H, Same H1 H → NewD K H1 H (.ref l) (.list ds) → Q (.ref l) H) :
    CompRun (Itr lo n) (gName 0) tYes te σ0 Q H1 l :=
  comp_dataG (K := K) (J := Itr lo n) hn hl hz (fun i H h _ => h) (fun _ _ => Nat.le_refl _) (fun i H x H' d R e S y k => by
    obtain ⟨rfl, rfl⟩ := y
    exact ht i _ d R e S k) he
theorem comp_listD {a : Addr} {xs : List V} {ds : List PyData} (hq : SqL K H1 a xs) (hn : ds.length = xs.length) (hl : H1 l = none) (hz : xs.length ≤ sizeLine)
    (ht : ∀ (i : Nat) x H d (R : VK), xs[i]? = some x → ds[i]? = some d → Same H1 H → (∀ v H4, Same H H4 → NewD K H H4 v d → R v H4) → te (σ0.set 0 (some x)) H R)
    (he : ∀ H, Same H1 H → NewD K H1 H (.ref l) (.list ds) → Q (.ref l) H) :
    CompRun (Itl K a) (gName 0) tYes te σ0 Q H1 l :=
  comp_dataG (K := K) (J := Itl K a) hn hl hz (fun i H h S => ⟨xs, xs[i], S.seq hq, by simp [h]⟩) (fun _ S => ⟨xs, S.seq hq, Nat.le_refl _⟩) (fun i H x H' d R e S y k => by
    obtain ⟨rfl, y⟩ := y
    exact ht i x _ d R (y xs (S.seq hq)) e S k) he
theorem comp_zipD {a b : Addr} {xs ys : List V} {ds : List PyData} (hq : SqL K H1 a xs) (hq' : SqL K H1 b ys) (hn : ds.length = min xs.length ys.length) (hl : H1 l = none) (hz : min xs.length ys.length ≤ sizeLine) (h2 : 2 ≤ σ0.length)
    (ht : ∀ (i : Nat) x y H d (R : VK), xs[i]? = some x → ys[i]? = some y → ds[i]? = some d → Same H1 H → (∀ v H4, Same H H4 → NewD K H H4 v d → R v H4) → te ((σ0.set 0 (some x)).set 1 (some y)) H R)
    (he : ∀ H, Same H1 H → NewD K H1 H (.ref l) (.list ds) → Q (.ref l) H) :
    CompRun (Itz K a b) (gTup K 2 (gCons (gName 0) (gCons (gName 1) gNil))) tYes te σ0 Q H1 l :=
  comp_dataG (K := K) (J := Itz K a b) hn hl hz (fun i H h S => ⟨xs, ys, xs[i], ys[i], S.seq hq, S.seq hq', by simp, by simp⟩) (fun _ S => ⟨xs, ys, S.seq hq, S.seq hq', rfl⟩) (fun i H x H' d R e S y k => by
    obtain ⟨T, x, y, rfl, hT, rfl, y1, y2⟩ := y
    refine ⟨T, _, rfl, SqT.of upd_same, rfl, _, _, rfl, _, _, rfl, rfl, ?_⟩
    refine ht i x y _ d R (y1 xs (S.seq hq)) (y2 ys (S.seq hq')) e (S.trans (Same.upd hT)) fun v H4 S4 N4 => ?_
    exact k v H4 ((Same.upd hT).trans S4) (N4.wider (Same.upd hT))) he
end
end L2

/-! ### EXTENSION 8: own methods and classes without their addresses; a comprehension's names by computation -/
namespace L2
open PySem PySem.Spec PyProof.Rows

/-- a method as the top left it -/
structure DefM (K : PySem.W.Frag) (C : Addr) (x qual : Str) (st : Stmt) (ps : List Str) : Prop where
  ex : ∃ f fd, Fun K x qual st f fd ∧ Binds K fd ps [] ∧ Meth K C x f
structure DefI (K : PySem.W.Frag) (C : Addr) (qual : Str) (st : Stmt) (ps : List Str) : Prop where
  ex : ∃ f fd, Fun K "__init__" qual st f fd ∧ Binds K fd ps [] ∧ Mk K C f
/-- a method that keeps its promise -/
structure OwnM (P : Program) (w : World) (K : PySem.W.Frag) (mg : Str → Option Value) (base : Heap) (CX : CXT) (C : Addr) (x : Str) (ps : List Str) (k : Nat) (sp : Sp) : Prop where
  ex : ∃ f fd, FnOk P w K mg base CX k f fd ps sp ∧ Binds K fd ps [] ∧ Meth K C x f
structure OwnI (P : Program) (w : World) (K : PySem.W.Frag) (mg : Str → Option Value) (base : Heap) (CX : CXT) (C : Addr) (ps : List Str) (k : Nat) (sp : Sp) : Prop where
  ex : ∃ f fd, FnOk P w K mg base CX k f fd ps sp ∧ Binds K fd ps [] ∧ Mk K C f
section
variable {P : Program} {w : World} {K : PySem.W.Frag} {mg : Str → Option Value} {base : Heap} {C : Addr}
theorem DefM.own {x qual : Str} {st : Stmt} {ps N : List Str} {k : Nat} {sp : Sp} (D : DefM K C x qual st ps) (S : FnScope N ps (defScope st)) (len : ∀ vs H Q E, sp vs H Q E → vs.length = ps.length)
    (hbody : ∀ (f : Addr) (cdv : Value) (A : Around) (outer : List Env) (s : Shared) (H : Hp) (vs : List V) (Q : VK) (E : XK), Room k (A.deeper (envOfC qual (defScope st) s.heap.objs.size f cdv)) → sp vs H Q E →
      ∃ t, PSs (cxOf CX0 P w K mg base N qual (defScope st) f cdv A outer s H E).nox (defBody st) t ∧ t { nx := fun _ H' => Q .non H', rt := Q } (start N vs) H) : OwnM P w K mg base CX0 C x ps (k + 1) sp := by
  obtain ⟨f, fd, F, b, m⟩ := D.ex
  exact ⟨f, fd, F.ok S len fun cdv A outer s H vs Q E hr h => hbody f cdv A outer s H vs Q E hr h, b, m⟩
theorem DefI.own {qual : Str} {st : Stmt} {ps N : List Str} {k : Nat} {sp : Sp} (D : DefI K C qual st ps) (S : FnScope N ps (defScope st)) (len : ∀ vs H Q E, sp vs H Q E → vs.length = ps.length)
    (hbody : ∀ (f : Addr) (cdv : Value) (A : Around) (outer : List Env) (s : Shared) (H : Hp) (vs : List V) (Q : VK) (E : XK), Room k (A.deeper (envOfC qual (defScope st) s.heap.objs.size f cdv)) → sp vs H Q E →
      ∃ t, PSs (cxOf CX0 P w K mg base N qual (defScope st) f cdv A outer s H E).nox (defBody st) t ∧ t { nx := fun _ H' => Q .non H', rt := Q } (start N vs) H) : OwnI P w K mg base CX0 C ps (k + 1) sp := by
  obtain ⟨f, fd, F, b, m⟩ := D.ex
  exact ⟨f, fd, F.ok S len fun cdv A outer s H vs Q E hr h => hbody f cdv A outer s H vs Q E hr h, b, m⟩
theorem DefM.ownE {x qual : Str} {st : Stmt} {ps N : List Str} {k : Nat} {sp : Sp} (D : DefM K C x qual st ps) (S : FnScope N ps (defScope st)) (len : ∀ vs H Q E, sp vs H Q E → vs.length = ps.length)
    (hbody : ∀ (f : Addr) (cdv : Value) (A : Around) (outer : List Env) (s : Shared) (H : Hp) (vs : List V) (Q : VK) (E : XK), Room k (A.deeper (envOfC qual (defScope st) s.heap.objs.size f cdv)) → sp vs H Q E →
      ∃ t, PSs (cxOf (CXE P w) P w K mg base N qual (defScope st) f cdv A outer s H E) (defBody st) t ∧ t { nx := fun _ H' => Q .non H', rt := Q } (start N vs) H) : OwnM P w K mg base (CXE P w) C x ps (k + 1) sp := by
  obtain ⟨f, fd, F, b, m⟩ := D.ex
  exact ⟨f, fd, F.okE S len fun cdv A outer s H vs Q E hr h => hbody f cdv A outer s H vs Q E hr h, b, m⟩
theorem DefI.ownE {qual : Str} {st : Stmt} {ps N : List Str} {k : Nat} {sp : Sp} (D : DefI K C qual st ps) (S : FnScope N ps (defScope st)) (len : ∀ vs H Q E, sp vs H Q E → vs.length = ps.length)
    (hbody : ∀ (f : Addr) (cdv : Value) (A : Around) (outer : List Env) (s : Shared) (H : Hp) (vs : List V) (Q : VK) (E : XK), Room k (A.deeper (envOfC qual (defScope st) s.heap.objs.size f cdv)) → sp vs H Q E →
      ∃ t, PSs (cxOf (CXE P w) P w K mg base N qual (defScope st) f cdv A outer s H E) (defBody st) t ∧ t { nx := fun _ H' => Q .non H', rt := Q } (start N vs) H) : OwnI P w K mg base (CXE P w) C ps (k + 1) sp := by
  obtain ⟨f, fd, F, b, m⟩ := D.ex
  exact ⟨f, fd, F.okE S len fun cdv A outer s H vs Q E hr h => hbody f cdv A outer s H vs Q E hr h, b, m⟩
end
section
variable {X : Cx} {CX : CXT} {k : Nat} {C : Addr} {ps : List Str} {sp : Sp} {E : XK} {x m : Str} {p pos apos : Pos} {e o : Expr} {es : List Expr} {ta : TE} {t : TA}
theorem pe_ownM {pl : Sem Bool} (F : OwnM X.prog X.w X.K X.mg X.base CX C m ps k sp) (c : Cls X.K C) (hr : Room k X.A) (hx : Passes CX X E) (he : PE X o ta) (ha : PA X (e :: es) t)
    (hst : starEach (e :: es) X.env = (false, eval e X.env) :: starEach es X.env := by rfl) (hpl : (backTo pos (starEach es X.env)).any (·.1) = false := by rfl)
    (ht : eval (.Call (.Attribute o m apos) (e :: es) [] pos) X.env = (do
      let ov ← eval o X.env
      standAt apos.atName
      let (f, first) ← holding [ov] (getMethod ov m pl)
      callWith pos f first (backTo pos (starEach (e :: es) X.env)) (backToKw pos (keywordEach [] X.env))) := by rfl) :
    PE X (.Call (.Attribute o m apos) (e :: es) [] pos) (tMeth C m sp [] E ta t) := by
  obtain ⟨f, fd, G, b, me⟩ := F.ex
  exact pe_meth (pl := pl) he c me G hr b .nil hx ha hst hpl ht
theorem pe_ownM0 {pl : Sem Bool} (F : OwnM X.prog X.w X.K X.mg X.base CX C m ps k sp) (c : Cls X.K C) (hr : Room k X.A) (hx : Passes CX X E) (he : PE X o ta)
    (ht : eval (.Call (.Attribute o m apos) [] [] pos) X.env = (do
      let ov ← eval o X.env
      standAt apos.atName
      let (f, first) ← holding [ov] (getMethod ov m pl)
      callWith pos f first (backTo pos (starEach [] X.env)) (backToKw pos (keywordEach [] X.env))) := by rfl) :
    PE X (.Call (.Attribute o m apos) [] [] pos) (tMeth C m sp [] E ta tNil) := by
  obtain ⟨f, fd, G, b, me⟩ := F.ex
  exact pe_meth0 (pl := pl) he c me G hr b .nil hx ht
theorem pe_ownI (F : OwnI X.prog X.w X.K X.mg X.base CX C ps k sp) (hr : Room (k + 1) X.A) (hg : Gl X x) (hm : X.mg x = some (.ref C)) (hx : Passes CX X E) (ha : PA X (e :: es) t)
    (hdb : (x == ("__debug__" : Str)) = false := by decide) (he : starEach (e :: es) X.env = (false, eval e X.env) :: starEach es X.env := by rfl) (hpl : (backTo pos (starEach es X.env)).any (·.1) = false := by rfl) :
    PE X (.Call (.Name x p) (e :: es) [] pos) (tMake C sp [] E t) := by
  obtain ⟨f, fd, G, b, me⟩ := F.ex
  exact pe_make me G hr hg hm b .nil hx ha hdb he hpl
theorem pe_globI {n : Int} (hg : Gl X x) (hm : ∃ t, X.mg x = some (.int n t)) (hd : (x == ("__debug__" : Str)) = false := by decide) : PE X (.Name x pos) (tC (.int n)) := by
  obtain ⟨t, hm⟩ := hm
  exact pe_glob hg hm ⟨t, rfl⟩ hd
end
/-- the check of a comprehension's names -/
def compOk (osc : Scope) (ON : List Str) (scope : Scope) (tg cap : List Str) (caps : List Nat) : Bool :=
  scope.kind == .function &&
  (scope.names.all fun y => !(y.2 == .local) || (scope.names.lookup y.1 == some .local)) &&
  (scope.names.all fun y => !(y.2 == .free) || (osc.names.lookup y.1 == some .cell || osc.names.lookup y.1 == some .free)) &&
  (scope.names.all fun y => !(y.2 == .cell) || (scope.names.lookup y.1 == some .cell)) &&
  (cap.all fun x => scope.names.lookup x == some .free && !(scope.names.any fun y => y.1 == x && y.2 == .cell)) &&
  (caps.map (fun j => ON[j]?) == cap.map some)
theorem CompSc.of_ok {osc : Scope} {ON : List Str} {scope : Scope} {tg cap : List Str} {caps : List Nat} (h : compOk osc ON scope tg cap caps = true) : CompSc osc ON scope tg cap caps := by
  unfold compOk at h
  simp only [Bool.and_eq_true] at h
  obtain ⟨⟨⟨⟨⟨h1, h2⟩, h3⟩, h4⟩, h5⟩, h6⟩ := h
  refine ⟨by simpa using h1, fun y hy e => ?_, fun y hy e => ?_, fun y hy e => ?_, fun x hx => ?_, by simpa using h6⟩
  · have z := List.all_eq_true.mp h2 y hy
    simpa [e] using z
  · have z := List.all_eq_true.mp h3 y hy
    simpa [e] using z
  · have z := List.all_eq_true.mp h4 y hy
    simpa [e] using z
  · have z := List.all_eq_true.mp h5 x hx
    simp only [Bool.and_eq_true, Bool.not_eq_true'] at z
    refine ⟨by simpa using z.1, fun q => ?_⟩
    have w := z.2
    rw [List.any_eq_false] at w
    exact w _ q (by simp)
end L2

/-! ### EXTENSION 9: any, sum, min, max of a list; len, an item, a text with a number, by data -/
namespace L2
open PySem PySem.Spec PyProof.Rows

theorem vals_get {xs : List V} {us : List Value} {i : Nat} {u : Value} (r : Vals xs us) (e : us[i]? = some u) : ∃ x, xs[i]? = some x ∧ RelV x u := by
  have hi : i < xs.length := by
    rw [r.length]
    exact (List.getElem?_eq_some_iff.mp e).1
  obtain ⟨u', e', q⟩ := r.get (List.getElem?_eq_getElem hi)
  rw [e] at e'
  cases e'
  exact ⟨_, List.getElem?_eq_getElem hi, q⟩
theorem preSum_list : ∀ (ns : List Int) (k : Nat), k ≤ ns.length → preSum (fun i => ns.getD i 0) k = (ns.take k).sum
  | ns, 0, _ => by simp [preSum]
  | ns, k + 1, h => by
    have hk : k < ns.length := by omega
    rw [preSum, preSum_list ns k (by omega), List.take_succ_eq_append_getElem hk, List.sum_append, List.getD_eq_getElem?_getD, List.getElem?_eq_getElem hk]
    simp
theorem argBest_le (bt : Nat → Nat → Bool) : ∀ k, argBest bt k ≤ k
  | 0 => Nat.le_refl _
  | k + 1 => by
    unfold argBest
    split
    · exact Nat.le_refl _
    · exact Nat.le_succ_of_le (argBest_le bt k)
theorem argBest_min (f : Nat → Int) : ∀ k i, i ≤ k → f (argBest (fun i j => decide (f i < f j)) k) ≤ f i
  | 0, i, h => by
    obtain rfl : i = 0 := by omega
    exact Int.le_refl _
  | k + 1, i, h => by
    unfold argBest
    have ih := argBest_min f k
    by_cases hd : f (k + 1) < f (argBest (fun i j => decide (f i < f j)) k)
    · rw [if_pos (by simpa using hd)]
      by_cases hi : i = k + 1
      · subst hi
        exact Int.le_refl _
      · have := ih i (by omega)
        omega
    · rw [if_neg (by simpa using hd)]
      by_cases hi : i = k + 1
      · subst hi
        omega
      · exact ih i (by omega)
theorem argBest_max (f : Nat → Int) : ∀ k i, i ≤ k → f i ≤ f (argBest (fun i j => decide (f i > f j)) k)
  | 0, i, h => by
    obtain rfl : i = 0 := by omega
    exact Int.le_refl _
  | k + 1, i, h => by
    unfold argBest
    have ih := argBest_max f k
    by_cases hd : f (k + 1) > f (argBest (fun i j => decide (f i > f j)) k)
    · rw [if_pos (by simpa using hd)]
      by_cases hi : i = k + 1
      · subst hi
        exact Int.le_refl _
      · have := ih i (by omega)
        omega
    · rw [if_neg (by simpa using hd)]
      by_cases hi : i = k + 1
      · subst hi
        omega
      · exact ih i (by omega)

section
variable {X : Cx}
theorem iter_list {l : Addr} {its : Array Value} {A : Around} {E : Value → Shared → Prop} {s : Shared} {Q : Value → Shared → Prop} {M : Model} {prog : Program} {w : World} (hl : s.heap.IsList l its)
    (h : ∀ s₂ : Shared, s₂ = { s with heap := s.heap.push { cls := .type "list_iterator", data := .fields #[.ref l, .int 0 0] } } →
      (s₂.heap.IsListIter s.heap.objs.size l 0 ∧ s₂.heap.IsList l its) → (∀ b ∈ [s.heap.objs.size, l], b < s₂.heap.objs.size) → l ≠ s.heap.objs.size → Q (.ref s.heap.objs.size) s₂) :
    wpAny (model prog w) A (pyIter (.ref l)) Q E s := by
  have hlt : l < s.heap.objs.size := by obtain ⟨_, e, _⟩ := hl; exact Heap.lt_size e
  refine wpAny_pyIter_list hl (h _ rfl ⟨⟨_, Heap.get?_push_size _ rfl, rfl, rfl⟩, hl.push _⟩ (fun b hb => ?_) (Nat.ne_of_lt hlt))
  show b < (s.heap.push _).objs.size
  rw [Heap.size_push]
  rcases List.mem_cons.mp hb with rfl | hb
  · exact Nat.lt_succ_self _
  · rcases List.mem_cons.mp hb with rfl | hb
    · exact Nat.lt_succ_of_lt hlt
    · cases hb
/-- any(list of bools) -/
theorem call_any (hc : X.calm = true) : CallR X (.builtin "any") (fun xs H Q => ∃ (x : V) (bs : List Bool), xs = [x] ∧ HasD X.K H x (.list (bs.map PyData.bool)) ∧ Q (.bl (bs.any id)) H) := by
  intro pins s σ H xs us Q I r h
  obtain ⟨x, bs, rfl, hd, q⟩ := h
  obtain ⟨a, ys, rfl, hq, hds⟩ := hd.oflst
  obtain ⟨u, rfl, rx⟩ := vals1 r
  cases rx
  obtain ⟨its, rv, p, hz⟩ := I.list hq
  refine call_any_walk (iter_list (M := model X.prog X.w) p.isList fun s₂ e st hfp hlI => ?_)
  subst e
  have hlen : its.length = bs.length := by
    have h1 := rv.length
    have h2 := hds.len
    rw [List.length_map] at h2
    omega
  refine ⟨_, _, _, _, _, _, fun i => bs.getD i false, rfl, Walks.list (A := X.A.in1) (I.ok.hd hc) _ a hlI its.toArray, st, fun i v s Q E hP hQ => ?_, fun h' tk hk => ⟨.bl (bs.any id), H, ?_, ?_, q⟩⟩
  · have hP' : its[i]? = some v := by simpa using hP
    obtain ⟨y, e1, ry⟩ := vals_get rv hP'
    obtain ⟨d, e2, hy⟩ := hds.at e1
    rw [List.getElem?_map] at e2
    cases hb : bs[i]? with
    | none => rw [hb] at e2; cases e2
    | some b =>
      rw [hb] at e2
      cases e2
      rw [hy.ofbl] at ry
      cases ry
      have z : bs.getD i false = b := by rw [List.getD_eq_getElem?_getD, hb]; rfl
      have hQ' : Q b s := by rw [← z]; exact hQ
      exact wpAny_truthy_bool hQ'
  · exact I.kept (old_kept hk)
  · show Value.bool _ = Value.bool _
    have e0 : its.toArray.size = bs.length := by simpa using hlen
    rw [e0]
    congr 1
    rw [Bool.eq_iff_iff, List.any_eq_true, List.any_eq_true]
    constructor
    · rintro ⟨i, hi, h⟩
      have hi' : i < bs.length := List.mem_range.mp hi
      refine ⟨bs[i], List.getElem_mem hi', ?_⟩
      rw [List.getD_eq_getElem?_getD, List.getElem?_eq_getElem hi'] at h
      exact h
    · rintro ⟨b, hb, h⟩
      obtain ⟨i, hi, e⟩ := List.getElem_of_mem hb
      refine ⟨i, List.mem_range.mpr hi, ?_⟩
      rw [List.getD_eq_getElem?_getD, List.getElem?_eq_getElem hi, e]
      exact h
/-- the ints of a list -/
theorem ints_walk {its : List Value} {ns : List Int} {i : Nat} {v : Value} (rv : Vals (ns.map V.int) its) (h : its.toArray[i]? = some v) : ∃ t, v = .int (ns.getD i 0) t := by
  have hP' : its[i]? = some v := by simpa using h
  obtain ⟨y, e1, ry⟩ := vals_get rv hP'
  rw [List.getElem?_map] at e1
  cases hb : ns[i]? with
  | none => rw [hb] at e1; cases e1
  | some b =>
    rw [hb] at e1
    cases e1
    obtain ⟨t, rfl⟩ := ry
    exact ⟨t, by rw [List.getD_eq_getElem?_getD, hb]; rfl⟩
/-- sum(list of ints) -/
theorem call_sum (hc : X.calm = true) : CallR X (.builtin "sum") (fun xs H Q => ∃ (x : V) (ns : List Int), xs = [x] ∧ HasD X.K H x (.list (ns.map PyData.int)) ∧ Q (.int ns.sum) H) := by
  intro pins s σ H xs us Q I r h
  obtain ⟨x, ns, rfl, hd, q⟩ := h
  obtain ⟨a, ys, rfl, hq, hds⟩ := hd.oflst
  rw [HasDs.ints.mp hds] at hq
  obtain ⟨u, rfl, rx⟩ := vals1 r
  cases rx
  obtain ⟨its, rv, p, hz⟩ := I.list hq
  refine call_sum_walkG (iter_list (M := model X.prog X.w) p.isList fun s₂ e st hfp hlI => ?_)
  subst e
  have hlen : its.toArray.size = ns.length := by
    have h1 := rv.length
    rw [List.length_map] at h1
    simp
    omega
  refine ⟨_, _, _, _, _, _, fun i => ns.getD i 0, rfl, Walks.list (A := X.A.in1) (I.ok.hd hc) _ a hlI its.toArray, st, hfp, fun i v hP => ints_walk rv hP, fun h' tk t' hk => ⟨.int ns.sum, H, I.kept (old_kept hk), ⟨t', ?_⟩, q⟩⟩
  rw [hlen, preSum_list ns _ (Nat.le_refl _), List.take_length]
theorem call_min1 (hc : X.calm = true) : CallR X (.builtin "min") (fun xs H Q => ∃ (x : V) (ns : List Int), xs = [x] ∧ HasD X.K H x (.list (ns.map PyData.int)) ∧ ns ≠ [] ∧ ∀ m, m ∈ ns → (∀ n ∈ ns, m ≤ n) → Q (.int m) H) := by
  intro pins s σ H xs us Q I r h
  obtain ⟨x, ns, rfl, hd, hne, q⟩ := h
  obtain ⟨a, ys, rfl, hq, hds⟩ := hd.oflst
  rw [HasDs.ints.mp hds] at hq
  obtain ⟨u, rfl, rx⟩ := vals1 r
  cases rx
  obtain ⟨its, rv, p, hz⟩ := I.list hq
  refine call_min_walk (iter_list (M := model X.prog X.w) p.isList fun s₂ e st hfp hlI => ?_)
  subst e
  have hlen : its.toArray.size = ns.length := by
    have h1 := rv.length
    rw [List.length_map] at h1
    simp
    omega
  have hpos : 0 < ns.length := List.length_pos_iff.mpr hne
  refine ⟨_, _, _, _, _, _, _, rfl, Walks.list (A := X.A.in1) (I.ok.hd hc) _ a hlI its.toArray, st, hfp, by omega, CmpOf.ints_lt (fun i => ns.getD i 0) (fun i v hP => ints_walk rv hP), fun v h' tk hP hk => ?_⟩
  obtain ⟨t, rfl⟩ := ints_walk rv hP
  rw [hlen]
  have hb : argBest (fun i j => decide (ns.getD i 0 < ns.getD j 0)) (ns.length - 1) < ns.length := by
    have := argBest_le (fun i j => decide (ns.getD i 0 < ns.getD j 0)) (ns.length - 1)
    omega
  refine ⟨.int _, H, I.kept (old_kept hk), ⟨t, rfl⟩, q _ ?_ fun n hn => ?_⟩
  · rw [List.getD_eq_getElem?_getD, List.getElem?_eq_getElem hb]
    exact List.getElem_mem hb
  · obtain ⟨i, hi, e⟩ := List.getElem_of_mem hn
    have z := argBest_min (fun i => ns.getD i 0) (ns.length - 1) i (by omega)
    rw [show ns.getD i 0 = n by rw [List.getD_eq_getElem?_getD, List.getElem?_eq_getElem hi, e]; rfl] at z
    exact z
theorem call_max1 (hc : X.calm = true) : CallR X (.builtin "max") (fun xs H Q => ∃ (x : V) (ns : List Int), xs = [x] ∧ HasD X.K H x (.list (ns.map PyData.int)) ∧ ns ≠ [] ∧ ∀ m, m ∈ ns → (∀ n ∈ ns, n ≤ m) → Q (.int m) H) := by
  intro pins s σ H xs us Q I r h
  obtain ⟨x, ns, rfl, hd, hne, q⟩ := h
  obtain ⟨a, ys, rfl, hq, hds⟩ := hd.oflst
  rw [HasDs.ints.mp hds] at hq
  obtain ⟨u, rfl, rx⟩ := vals1 r
  cases rx
  obtain ⟨its, rv, p, hz⟩ := I.list hq
  refine call_max_walk (iter_list (M := model X.prog X.w) p.isList fun s₂ e st hfp hlI => ?_)
  subst e
  have hlen : its.toArray.size = ns.length := by
    have h1 := rv.length
    rw [List.length_map] at h1
    simp
    omega
  have hpos : 0 < ns.length := List.length_pos_iff.mpr hne
  refine ⟨_, _, _, _, _, _, _, rfl, Walks.list (A := X.A.in1) (I.ok.hd hc) _ a hlI its.toArray, st, hfp, by omega, CmpOf.ints_gt (fun i => ns.getD i 0) (fun i v hP => ints_walk rv hP), fun v h' tk hP hk => ?_⟩
  obtain ⟨t, rfl⟩ := ints_walk rv hP
  rw [hlen]
  have hb : argBest (fun i j => decide (ns.getD i 0 > ns.getD j 0)) (ns.length - 1) < ns.length := by
    have := argBest_le (fun i j => decide (ns.getD i 0 > ns.getD j 0)) (ns.length - 1)
    omega
  refine ⟨.int _, H, I.kept (old_kept hk), ⟨t, rfl⟩, q _ ?_ fun n hn => ?_⟩
  · rw [List.getD_eq_getElem?_getD, List.getElem?_eq_getElem hb]
    exact List.getElem_mem hb
  · obtain ⟨i, hi, e⟩ := List.getElem_of_mem hn
    have z := argBest_max (fun i => ns.getD i 0) (ns.length - 1) i (by omega)
    rw [show ns.getD i 0 = n by rw [List.getD_eq_getElem?_getD, List.getElem?_eq_getElem hi, e]; rfl] at z
    exact z
/-- len of data -/
theorem call_lenQ : CallR X (.builtin "len") (fun xs H Q => ∃ (x : V) (ds : List PyData), xs = [x] ∧ (HasD X.K H x (.list ds) ∨ HasD X.K H x (.tuple ds)) ∧ Q (.int ds.length) H) := by
  intro pins s σ H xs us Q I r h
  obtain ⟨x, ds, rfl, hd, q⟩ := h
  rcases hd with hd | hd
  · obtain ⟨a, ys, rfl, hq, hds⟩ := hd.oflst
    refine call_len_seq pins s σ H _ us Q I r ⟨a, ys, rfl, .inl hq, ?_⟩
    rw [hds.len]
    exact q
  · obtain ⟨a, ys, rfl, hq, hds⟩ := hd.oftup
    refine call_len_seq pins s σ H _ us Q I r ⟨a, ys, rfl, .inr hq, ?_⟩
    rw [hds.len]
    exact q
/-- an item of data -/
def rIxQ (K : PySem.W.Frag) : R2 := fun x y H Q => ∃ ds i d, (HasD K H x (.list ds) ∨ HasD K H x (.tuple ds)) ∧ y = .int i ∧ atI ds i = some d ∧ ∀ v, HasD K H v d → Q v H
theorem atI_has {K : PySem.W.Frag} {H : Hp} {xs : List V} {ds : List PyData} {i : Int} {d : PyData} (h : HasDs K H xs ds) (e : atI ds i = some d) : ∃ v, atI xs i = some v ∧ HasD K H v d := by
  unfold atI at e ⊢
  rw [h.len]
  cases hi : ixN ds.length i with
  | none => rw [hi] at e; cases e
  | some j =>
    rw [hi] at e
    exact h.get e
theorem ix_Q : IxR X (rIxQ X.K) := by
  intro value slice pins s σ H x y v u Q I rx ry h hs
  obtain ⟨ds, i, d, hd, rfl, e, q⟩ := h
  rcases hd with hd | hd
  · obtain ⟨a, xs, rfl, hq, hds⟩ := hd.oflst
    obtain ⟨z, ez, hz⟩ := atI_has hds e
    exact ix_list value slice pins s σ H _ _ v u Q I rx ry ⟨a, xs, i, z, rfl, rfl, hq, ez, q z hz⟩ hs
  · obtain ⟨a, xs, rfl, hq, hds⟩ := hd.oftup
    obtain ⟨z, ez, hz⟩ := atI_has hds e
    exact ix_tup value slice pins s σ H _ _ v u Q I rx ry ⟨a, xs, i, z, rfl, rfl, hq, ez, q z hz⟩ hs
theorem atI_nat' {α : Type} {xs : List α} {i : Nat} {x : α} (h : xs[i]? = some x) : atI xs (i : Int) = some x := atI_nat h
/-- f"text {number}" -/
theorem pe_fstr1 {x : Str} {e : Expr} {te : TE} {k : Nat} {p1 p2 p3 : Pos} (hx : x.length ≤ 1000) (he : PE X e te) :
    PE X (.JoinedStr [.Constant (.str x) k p1, .FormattedValue e (-1) none p2] p3) (fun σ H Q => te σ H fun v H1 => ∃ i, v = .int i ∧ i.natAbs.log2 < 1920 ∧ ∀ y, Q (.str y) H1) := by
  intro pins s σ H Q I h
  refine JoinedStr_many (joinParts_cons (Calls.Constant_str ⟨?_, ?_⟩))
  · rw [strLen_append]
    show 0 + x.length ≤ sizeLine
    exact Nat.le_trans (by omega) (show 1000 ≤ sizeLine by decide)
  · refine joinParts_cons (FormattedValue_plain (thn (he pins _ σ H _ (I.tok _) h) fun u s1 ⟨v, H1, I1, r, i, ev, hd, q⟩ => ?_))
    subst ev
    obtain ⟨t, rfl⟩ := r
    have fits := int_text_fits hd
    have lim : (Str.empty ++ x ++ toString i : Str).length ≤ sizeLine := by
      rw [strLen_append, strLen_append]
      have : (Str.empty : Str).length = 0 := rfl
      have z := int_text_length_le (k := 1920) (by decide) hd
      have e : (toString i : Str).length = (toString i : String).length := PySem.ofString_length _
      have : 1000 + 5000 ≤ sizeLine := by decide
      omega
    exact formatField_int_small hd ⟨lim, joinParts_nil ⟨.str _, H1, I1.tok _, ⟨_, rfl⟩, q _⟩ lim⟩
end
end L2
namespace L2
open PySem PySem.Spec PyProof.Rows
theorem get_list {X : Cx} : PGet X (fun o i H Q => ∃ (p : Addr) (xs : List V) (j : Nat) (v : V), o = .ref p ∧ i = .int j ∧ SqL X.K H p xs ∧ xs[j]? = some v ∧ Q v H) := by
  intro pins s σ H o i ov iv Q I ro ri h
  obtain ⟨p, xs, j, v, rfl, rfl, hq, e, q⟩ := h
  cases ro
  obtain ⟨t, rfl⟩ := ri
  obtain ⟨its, r, pl, hz⟩ := I.list hq
  obtain ⟨w, ew, rw'⟩ := r.get e
  have hn := line63
  have hj : j < xs.length := (List.getElem?_eq_some_iff.mp e).1
  exact wpAny_getItem_list pl.isList (by omega) (by omega) (by simpa using ew) ⟨v, H, I, rw', q⟩
theorem ixN_nat {n j : Nat} (h : j < n) : ixN n (j : Int) = some j := by
  unfold ixN
  rw [if_pos (by omega), if_pos (by omega)]
  simp
end L2

/-! ### the rules by K itself, for the blocks of comprehensions -/
namespace L2
open PySem PySem.Spec PyProof.Rows
section
variable {X : Cx} {K : PySem.W.Frag}
theorem call_lenK (hK : X.K = K) : CallR X (.builtin "len") (fun xs H Q => ∃ (x : V) (ds : List PyData), xs = [x] ∧ (HasD K H x (.list ds) ∨ HasD K H x (.tuple ds)) ∧ Q (.int ds.length) H) := by subst hK; exact call_lenQ
theorem call_anyK (hK : X.K = K) (hc : X.calm = true) : CallR X (.builtin "any") (fun xs H Q => ∃ (x : V) (bs : List Bool), xs = [x] ∧ HasD K H x (.list (bs.map PyData.bool)) ∧ Q (.bl (bs.any id)) H) := by subst hK; exact call_any hc
theorem call_sumK (hK : X.K = K) (hc : X.calm = true) : CallR X (.builtin "sum") (fun xs H Q => ∃ (x : V) (ns : List Int), xs = [x] ∧ HasD K H x (.list (ns.map PyData.int)) ∧ Q (.int ns.sum) H) := by subst hK; exact call_sum hc
theorem call_minK (hK : X.K = K) (hc : X.calm = true) : CallR X (.builtin "min") (fun xs H Q => ∃ (x : V) (ns : List Int), xs = [x] ∧ HasD K H x (.list (ns.map PyData.int)) ∧ ns ≠ [] ∧ ∀ m, m ∈ ns → (∀ n ∈ ns, m ≤ n) → Q (.int m) H) := by subst hK; exact call_min1 hc
theorem call_maxK (hK : X.K = K) (hc : X.calm = true) : CallR X (.builtin "max") (fun xs H Q => ∃ (x : V) (ns : List Int), xs = [x] ∧ HasD K H x (.list (ns.map PyData.int)) ∧ ns ≠ [] ∧ ∀ m, m ∈ ns → (∀ n ∈ ns, n ≤ m) → Q (.int m) H) := by subst hK; exact call_max1 hc
theorem call_listK (hK : X.K = K) : CallR X (.type "list") (fun xs H Q => ∃ p ys, xs = [.ref p] ∧ (SqL K H p ys ∨ SqT K H p ys) ∧ ∀ l, H l = none → Q (.ref l) (upd H l (.lst ys))) := by subst hK; exact call_list_of
theorem call_isiK (hK : X.K = K) : CallR X (.builtin "isinstance") (fun xs H Q => ∃ x c t b, xs = [x, c] ∧ (∃ n, c = .ty n) ∧ TyOf K H x t ∧ PySem.W.kitOne K t (clsV c) = some b ∧ Q (.bl b) H) := by subst hK; exact call_isi
theorem call_isiXK (hK : X.K = K) : CallR X (.builtin "isinstance") (fun xs H Q => ∃ a D c b, xs = [.ref a, c] ∧ ((∃ n, c = .ty n) ∨ ∃ C, c = .ref C) ∧ H a = some (.ext (ExcAt a D)) ∧ ExcIsi K D ∧ PySem.W.kitOne K (.ref D) (clsV c) = some b ∧ Q (.bl b) H) := by subst hK; exact call_isiX
theorem ix_K (hK : X.K = K) : IxR X (rIxQ K) := by subst hK; exact ix_Q
theorem ix_listK (hK : X.K = K) : IxR X (rIxL K) := by subst hK; exact ix_list
theorem ix_tupK (hK : X.K = K) : IxR X (rIxT K) := by subst hK; exact ix_tup
theorem sl_listK (hK : X.K = K) : SlR X (rSlL K) := by subst hK; exact sl_list
theorem op_inK (hK : X.K = K) : OpR X (compareOp .In) (rIn K false) := by subst hK; exact op_in_seq
theorem op_notInK (hK : X.K = K) : OpR X (compareOp .NotIn) (rIn K true) := by subst hK; exact op_notIn_seq
theorem pe_fldK {e : Expr} {f : Str} {pos : Pos} {ta : TE} (hK : X.K = K) (he : PE X e ta) (hb : attributeBase e f X.env (eval e X.env) = eval e X.env) : PE X (.Attribute e f pos) (tFld K ta f) := by subst hK; exact pe_fld he hb
theorem ps_fldK {o value : Expr} {f : Str} {pos pos' : Pos} {ta tv : TE} (hK : X.K = K) (ha : PE X o ta) (hv : PE X value tv) (hs : swapsWith value (some (.Attribute o f pos')) pos.line X.env = pure false) : PS X (.Assign [.Attribute o f pos'] value pos) (sFld K ta tv f) := by subst hK; exact ps_fld ha hv hs
theorem pg_tupK {es : List Expr} {k n : Nat} {t : TGs} {pos : Pos} (hK : X.K = K) (hc : X.calm = true) (h : PGs X es t) (hn : (assignEach es X.env).length = n := by rfl) (hst : (assignEach es X.env).findIdx? (·.1) = none := by rfl) : PG X (.Tuple es k pos) (gTup K n t) := by subst hK; exact pg_tup hc h hn hst
theorem pi_listK {tg l : Expr} {tl : TE} (hK : X.K = K) (hl : PE X l tl) : PI X tg l (iList K tl) := by subst hK; exact pi_list hl
theorem pi_zipK {e1 e2 : Expr} {ta : TA} {p pos tpos : Pos} {elts : List Expr} {k : Nat} (hK : X.K = K) (hg : Gl X "zip") (hm : X.mg "zip" = none) (ha : PA X [e1, e2] ta) (hs : starEach [e1, e2] X.env = [(false, eval e1 X.env), (false, eval e2 X.env)] := by rfl) (hs2 : starEach [e2] X.env = [(false, eval e2 X.env)] := by rfl) :
    PI X (.Tuple elts k tpos) (.Call (.Name "zip" p) [e1, e2] [] pos) (iZip K ta) := by subst hK; exact pi_zip hg hm ha hs hs2
theorem pi_enumK {e1 : Expr} {ta : TA} {p pos tpos : Pos} {elts : List Expr} {k : Nat} (hK : X.K = K) (hg : Gl X "enumerate") (hm : X.mg "enumerate" = none) (ha : PA X [e1] ta) (hs : starEach [e1] X.env = [(false, eval e1 X.env)] := by rfl) :
    PI X (.Tuple elts k tpos) (.Call (.Name "enumerate" p) [e1] [] pos) (iEnum K ta) := by subst hK; exact pi_enum hg hm ha hs
theorem get_listK (hK : X.K = K) : PGet X (fun o i H Q => ∃ (p : Addr) (xs : List V) (j : Nat) (v : V), o = .ref p ∧ i = .int j ∧ SqL K H p xs ∧ xs[j]? = some v ∧ Q v H) := by subst hK; exact get_list
/-- == of data: a room of 64 units is there -/
def rEqK (K : PySem.W.Frag) (neg : Bool) : R2 := fun x y H Q => ∃ d e : PyData, HasD K H x d ∧ HasD K H y e ∧ d.canLay0 = true ∧ e.canLay0 = true ∧ d.depth ≤ 60 ∧
  Q (.bl (if neg then !PyData.eqv d e else PyData.eqv d e)) H
theorem op_eqK {k : Nat} (hK : X.K = K) (hr : Room k X.A) : OpR X (compareOp .Eq) (rEqK K false) := by
  subst hK
  intro pins s σ H x y v u Q I rx ry h
  obtain ⟨d, e, h1, h2, c1, c2, hu, q⟩ := h
  exact op_eqD pins s σ H x y v u Q I rx ry ⟨d, e, h1, h2, c1, c2, by have := hr.units; omega, q⟩
theorem op_neK {k : Nat} (hK : X.K = K) (hr : Room k X.A) : OpR X (compareOp .NotEq) (rEqK K true) := by
  subst hK
  intro pins s σ H x y v u Q I rx ry h
  obtain ⟨d, e, h1, h2, c1, c2, hu, q⟩ := h
  exact op_neD pins s σ H x y v u Q I rx ry ⟨d, e, h1, h2, c1, c2, by have := hr.units; omega, q⟩
end
end L2

/-! ### EXTENSION 10: a list that grows; isinstance by data; items of a menu -/
namespace L2
open PySem PySem.Spec PyProof.Rows
/-- the list at l, made at H (where it was not), stands at H2 with the values vs, which hold ds; what stood at H stays -/
structure Grow (K : PySem.W.Frag) (H : Hp) (l : Addr) (H2 : Hp) (vs : List V) (ds : List PyData) : Prop where
  n : H l = none
  S : Same H H2
  at_ : H2 l = some (.lst vs)
  d : NewDs K (upd H l (.lst [])) H2 vs ds
section
variable {K : PySem.W.Frag} {H H2 H3 : Hp} {l : Addr} {vs : List V} {ds : List PyData}
theorem Grow.start (n : H l = none) : Grow K H l (upd H l (.lst [])) [] [] := ⟨n, Same.upd n, upd_same, .nil⟩
theorem Grow.later (g : Grow K H l H2 vs ds) (S : Same H2 H3) : Grow K H l H3 vs ds := ⟨g.n, g.S.trans S, S _ _ g.at_, g.d.later S⟩
/-- what is new since H2 is new since the list's making -/
theorem Grow.young (g : Grow K H l H2 vs ds) {v : V} {d : PyData} (h : NewD K H2 H3 v d) : NewD K (upd H l (.lst [])) H3 v d :=
  NewD.go (fun a xs z q => ⟨by
    have ne : a ≠ l := fun e => by rw [e, g.at_] at z; cases z
    rw [upd_ne ne]
    exact g.S.free z, q⟩) (fun _ _ q => q) d h
theorem Grow.push (g : Grow K H l H2 vs ds) {v : V} {d : PyData} (S : Same H2 H3) (h : NewD K H2 H3 v d) : Grow K H l (upd H3 l (.lst (vs ++ [v]))) (vs ++ [v]) (ds ++ [d]) := by
  have at3 := S _ _ g.at_
  have nt : NoTup (H3 l) := by rw [at3]; exact noTup_lst
  have nl : upd H l (.lst []) l ≠ none := some_ne upd_same
  exact ⟨g.n, same_write (g.S.trans S) g.n, upd_same, ((g.d.later S).write nl nt).snoc ((g.young h).write nl nt)⟩
theorem Grow.new (g : Grow K H l H2 vs ds) : NewD K H H2 (.ref l) (.list ds) := .lst g.n g.at_ (g.d.wider (Same.upd g.n))
theorem Grow.has (g : Grow K H l H2 vs ds) : HasD K H2 (.ref l) (.list ds) := NewD.has _ g.new
/-- the whole list is written anew by values that are at hand -/
theorem Grow.put (g : Grow K H l H2 vs ds) {vs' : List V} {ds' : List PyData} (h : NewDs K (upd H l (.lst [])) H2 vs' ds') : Grow K H l (upd H2 l (.lst vs')) vs' ds' := by
  have nt : NoTup (H2 l) := by rw [g.at_]; exact noTup_lst
  exact ⟨g.n, same_write g.S g.n, upd_same, h.write (some_ne upd_same) nt⟩
end
mutual
/-- no list within -/
def flatD : PyData → Bool
  | .none => true
  | .bool _ => true
  | .int _ => true
  | .str _ => true
  | .list _ => false
  | .tuple ds => flatDs ds
  | .dict _ => false
def flatDs : List PyData → Bool
  | [] => true
  | d :: ds => flatD d && flatDs ds
end
mutual
theorem NewD.flat {K : PySem.W.Frag} {H J : Hp} : ∀ (d : PyData) {v : V}, flatD d = true → HasD K H v d → NewD K J H v d
  | .none, v, _, h => by rw [HasD] at h; rw [NewD]; exact h
  | .bool _, v, _, h => by rw [HasD] at h; rw [NewD]; exact h
  | .int _, v, _, h => by rw [HasD] at h; rw [NewD]; exact h
  | .str _, v, _, h => by rw [HasD] at h; rw [NewD]; exact h
  | .list ds, v, f, _ => by simp [flatD] at f
  | .tuple ds, v, f, h => by
    rw [flatD] at f
    rw [HasD] at h; rw [NewD]
    obtain ⟨a, xs, e, q, r⟩ := h
    exact ⟨a, xs, e, q, NewDs.flat ds f r⟩
  | .dict _, v, _, h => by rw [HasD] at h; exact h.elim
theorem NewDs.flat {K : PySem.W.Frag} {H J : Hp} : ∀ (ds : List PyData) {xs : List V}, flatDs ds = true → HasDs K H xs ds → NewDs K J H xs ds
  | [], xs, _, h => by rw [HasDs] at h; rw [NewDs]; exact h
  | d :: ds, xs, f, h => by
    rw [flatDs, Bool.and_eq_true] at f
    rw [HasDs] at h; rw [NewDs]
    obtain ⟨x, r, e, h1, h2⟩ := h
    exact ⟨x, r, e, NewD.flat d f.1 h1, NewDs.flat ds f.2 h2⟩
end
theorem flatDs_map {α : Type} (f : α → PyData) (h : ∀ x, flatD (f x) = true) : ∀ xs : List α, flatDs (xs.map f) = true
  | [] => by rw [List.map_nil, flatDs]
  | x :: xs => by rw [List.map_cons, flatDs, h x, flatDs_map f h xs]; rfl
section
variable {K : PySem.W.Frag} {H H2 H3 : Hp} {l : Addr} {vs : List V} {ds : List PyData}
/-- a new list of a pure def -/
theorem NewD.grow {v : V} (S : Same H H2) (f : flatDs ds = true) (h : NewD K H H2 v (.list ds)) : ∃ l vs, v = .ref l ∧ Grow K H l H2 vs ds := by
  obtain ⟨a, xs, rfl, n, q, hd⟩ := h.oflst
  exact ⟨a, xs, rfl, n, S, q, NewDs.flat ds f (NewDs.has _ hd)⟩
end

/-! ### isinstance by data -/
def tyD : PyData → String
  | .none => "NoneType"
  | .bool _ => "bool"
  | .int _ => "int"
  | .str _ => "str"
  | .list _ => "list"
  | .tuple _ => "tuple"
  | .dict _ => "dict"
theorem call_isiD {X : Cx} {K : PySem.W.Frag} (hK : X.K = K) : CallR X (.builtin "isinstance") (fun xs H Q => ∃ x n d b, xs = [x, .ty n] ∧ HasD K H x d ∧ PySem.W.kitOne K (.type (tyD d)) (.type n) = some b ∧ Q (.bl b) H) := by
  subst hK
  intro pins s σ H xs us Q I r h
  obtain ⟨x, n, d, b, rfl, hd, e, q⟩ := h
  obtain ⟨u, u', rfl, rx, rc⟩ := vals2 r
  cases rc
  have fin : ∀ tk, EP X pins σ Q (.bool b) { s with toks := tk } := fun tk => ⟨.bl b, H, I.tok tk, rfl, q⟩
  cases d with
  | none =>
    cases hd.ofnon
    exact isinst_ok I rx .non e fin
  | bool y =>
    cases hd.ofbl
    exact isinst_ok I rx (.bl y) e fin
  | int y =>
    cases hd.ofint
    exact isinst_ok I rx (.int y) e fin
  | str y =>
    cases hd.ofstr
    exact isinst_ok I rx (.str y) e fin
  | list ds =>
    obtain ⟨a, ys, rfl, hq, _⟩ := hd.oflst
    cases rx
    obtain ⟨its, _, ⟨o, nn, h1, h2, _⟩, _⟩ := I.list hq
    exact PySem.W.kia_one PySem.W.kitx_list I.kIn ⟨o, h1, h2⟩ e (fun z => nomatch z) fin
  | tuple ds =>
    obtain ⟨a, ys, rfl, hq, _⟩ := hd.oftup
    cases rx
    obtain ⟨its, _, ⟨o, h1, h2, _⟩, _⟩ := I.tuple hq
    exact PySem.W.kia_one PySem.W.kitx_tuple I.kIn ⟨o, h1, h2⟩ e (fun z => nomatch z) fin
  | dict _ =>
    rw [HasD] at hd
    exact hd.elim
/-! ### an item of a written menu -/
theorem atI_intsD {ns : List Int} {i : Int} (h0 : 0 ≤ i) (h1 : i < ns.length) : ∃ n, n ∈ ns ∧ atI (ns.map PyData.int) i = some (.int n) := by
  obtain ⟨j, rfl⟩ : ∃ j : Nat, i = (j : Int) := ⟨i.toNat, by omega⟩
  have hj : j < ns.length := by omega
  refine ⟨ns[j], List.getElem_mem hj, atI_nat ?_⟩
  rw [List.getElem?_map, List.getElem?_eq_getElem hj]
  rfl
end L2

/-! ### EXTENSION 11: min and max with a default -/
namespace L2
open PySem PySem.Spec PyProof.Rows

section
variable {prog : Program} {w : World} {A : Around} {R : Result → Shared → Prop} {I : Addr} {fp wr : List Addr} {n : Nat} {Pv : Nat → Value → Prop} {St : Nat → Heap → Prop} {dv : Value}
theorem min_turns (W : Walks prog w A.in1 I fp wr n Pv St) (bt : Nat → Nat → Bool) (hcmp : CmpOf prog w A.in1 .Lt Pv bt) (Z : Addr) (hZ : Z ∉ fp) :
    ∀ (k j : Nat) (s : Shared) (u : Value) (c : Nat), n - (j + 1) = k → j + 1 ≤ n → St (j + 1) s.heap → Pv (argBest bt j) u →
    s.heap.get? Z = some { cls := .type "list", dict := none, data := .seq #[u, u] c, slots := #[] } →
    (∀ v g tk, Pv (argBest bt (n - 1)) v → (∀ b o, b ∉ wr → b ≠ Z → s.heap.get? b = some o → g.get? b = some o) → R (.ok (.ret v)) { s with heap := g, toks := tk }) →
    codeAny (model prog w) A (.builtin "min.loop" ⟨[.ref I, .none, .ref Z], [(Str.ofString "default", dv)]⟩) R s := by
  have zw : Z ∉ wr := fun h => hZ (W.sub _ h)
  have nm : (toString "min" ++ toString ".loop" : String) = "min.loop" := by decide
  intro k
  induction k with
  | zero =>
    intro j s u c e1 e2 st pu at_ fin
    have en : j + 1 = n := by omega
    refine codeAny_builtin F.entry_min_loop ?_
    rw [Around.under_plainId F.plain_min_loop _]
    show wpAny _ A.in1 (seqItems? (.ref Z) >>= _) _ _ s
    refine wpAny_bind (wpAny_seqItems at_ rfl ?_)
    show wpAny _ A.in1 (tryCatch (pyNext (.ref I)) _ >>= _) _ _ s
    refine wpAny_bind (wpAny_tryCatch (W.done s _ _ (en ▸ st) fun g tk kp => ?_))
    have at2 := kp Z _ zw at_
    show wpAny _ A.in1 (updateSeq Z (fun _ => #[]) >>= _) _ _ _
    refine wpAny_bind (wpAny_updateSeq at2 rfl (wpAny_bind (wpAny_letGo (wpAny_pure ?_))))
    refine fin u _ tk (by rw [← en]; exact pu) fun b o nb nz e => (Heap.get?_update_other _ _ (Ne.symm nz)).trans (kp b o nb e)
  | succ k ih =>
    intro j s u c e1 e2 st pu at_ fin
    have lt : j + 1 < n := by omega
    refine codeAny_builtin F.entry_min_loop ?_
    rw [Around.under_plainId F.plain_min_loop _]
    show wpAny _ A.in1 (seqItems? (.ref Z) >>= _) _ _ s
    refine wpAny_bind (wpAny_seqItems at_ rfl ?_)
    show wpAny _ A.in1 (tryCatch (pyNext (.ref I)) _ >>= _) _ _ s
    refine wpAny_bind (wpAny_tryCatch (W.item (j + 1) s _ _ lt st fun v g tk pv st2 kp => ?_))
    have at2 := kp Z _ zw at_
    show wpAny _ A.in1 (tryCatch (holding [v, v] (richCompare .Lt v u >>= _)) _ >>= _) _ _ _
    refine wpAny_bind (wpAny_tryCatch (wpAny_holding (wpAny_bind (hcmp (j + 1) (argBest bt j) v u _ _ _ pv pu ?_))))
    refine wpAny_bind (wpAny_holding (wpAny_truthy_bool (wpAny_bind (wpAny_letGo (wpAny_pure ?_)))))
    cases hb : bt (j + 1) (argBest bt j) with
    | true =>
      simp only [if_true]
      refine wpAny_bind (wpAny_updateSeq at2 rfl (wpAny_bind (wpAny_letGo ?_)))
      rw [nm]
      refine wpAny_pure ⟨plainId_quiet F.plain_min_loop _, ih (j + 1) _ v _ (by omega) lt (W.frame _ _ _ st2 fun b bf o e => ?_) (by simp only [argBest, hb, if_true]; exact pv) (Heap.get?_update_self _ at2 rfl) fun v' g2 t2 p2 k2 => ?_⟩
      · exact (Heap.get?_update_other _ _ (fun h : Z = b => hZ (by rw [h]; exact bf))).trans e
      · exact fin v' g2 t2 p2 fun b o nb nz e => k2 b o nb nz ((Heap.get?_update_other _ _ (Ne.symm nz)).trans (kp b o nb e))
    | false =>
      simp only [Bool.false_eq_true, if_false]
      refine wpAny_bind (wpAny_letGo ?_)
      rw [nm]
      refine wpAny_pure ⟨plainId_quiet F.plain_min_loop _, ih (j + 1) _ u c (by omega) lt st2 (by simp only [argBest, hb, Bool.false_eq_true, if_false]; exact pu) at2 fun v' g2 t2 p2 k2 => ?_⟩
      exact fin v' g2 t2 p2 fun b o nb nz e => k2 b o nb nz (kp b o nb e)
theorem min_begins (W : Walks prog w A.in1 I fp wr n Pv St) (bt : Nat → Nat → Bool) (hcmp : CmpOf prog w A.in1 .Lt Pv bt) (Z : Addr) (hZ : Z ∉ fp) {s : Shared} {c : Nat} (st : St 0 s.heap)
    (at_ : s.heap.get? Z = some { cls := .type "list", dict := none, data := .seq #[] c, slots := #[] })
    (fin : ∀ v g tk, (if n = 0 then v = dv else Pv (argBest bt (n - 1)) v) → (∀ b o, b ∉ wr → b ≠ Z → s.heap.get? b = some o → g.get? b = some o) → R (.ok (.ret v)) { s with heap := g, toks := tk }) :
    codeAny (model prog w) A (.builtin "min.loop" ⟨[.ref I, .none, .ref Z], [(Str.ofString "default", dv)]⟩) R s := by
  have zw : Z ∉ wr := fun h => hZ (W.sub _ h)
  have nm : (toString "min" ++ toString ".loop" : String) = "min.loop" := by decide
  refine codeAny_builtin F.entry_min_loop ?_
  rw [Around.under_plainId F.plain_min_loop _]
  show wpAny _ A.in1 (seqItems? (.ref Z) >>= _) _ _ s
  refine wpAny_bind (wpAny_seqItems at_ rfl ?_)
  show wpAny _ A.in1 (tryCatch (pyNext (.ref I)) _ >>= _) _ _ s
  by_cases h0 : n = 0
  · subst h0
    refine wpAny_bind (wpAny_tryCatch (W.done s _ _ st fun g tk kp => ?_))
    show wpAny _ A.in1 (rule _ >>= _) _ _ _
    refine wpAny_bind (wpAny_rule (wpAny_pure ?_))
    exact fin dv g tk (by rw [if_pos rfl]) fun b o nb _ e => kp b o nb e
  · have hn : 0 < n := by omega
    refine wpAny_bind (wpAny_tryCatch (W.item 0 s _ _ hn st fun v g tk pv st2 kp => ?_))
    have at2 := kp Z _ zw at_
    show wpAny _ A.in1 (updateSeq Z (fun _ => #[v, v]) >>= _) _ _ _
    refine wpAny_bind (wpAny_updateSeq at2 rfl ?_)
    rw [nm]
    refine wpAny_pure ⟨plainId_quiet F.plain_min_loop _, min_turns W bt hcmp Z hZ _ 0 _ v _ rfl hn (W.frame _ _ _ st2 fun b bf o e => ?_) pv (Heap.get?_update_self _ at2 rfl) fun v' g2 t2 p2 k2 => ?_⟩
    · exact (Heap.get?_update_other _ _ (fun h : Z = b => hZ (by rw [h]; exact bf))).trans e
    · exact fin v' g2 t2 (by rw [if_neg h0]; exact p2) fun b o nb nz e => k2 b o nb nz ((Heap.get?_update_other _ _ (Ne.symm nz)).trans (kp b o nb e))
end
theorem args_minD (a v : Value) : argsOk "min" ⟨[a], [(Str.ofString "default", v)]⟩ := by unfold argsOk; kernel_rfl
/-- min(list of ints, default=number) -/
theorem run_minD {X : Cx} {pins : List (Addr × Obj)} {σ : St} {H : Hp} {s : Shared} {Q : VK} {v : V} {u : Value} {ns : List Int} {d : Int} {t : Tok} (hc : X.calm = true) (I : Inv X pins σ H s) (r : RelV v u) (hd : HasD X.K H v (.list (ns.map PyData.int)))
    (q0 : ns = [] → Q (.int d) H) (q : ∀ m, m ∈ ns → (∀ n ∈ ns, m ≤ n) → Q (.int m) H) : wpAny (model X.prog X.w) X.A (call (.builtin "min") [u] [(Str.ofString "default", .int d t)]) (EP X pins σ Q) X.xe s := by
  obtain ⟨a, ys, rfl, hq, hds⟩ := hd.oflst
  rw [HasDs.ints.mp hds] at hq
  cases r
  obtain ⟨its, rv, p, hz⟩ := I.list hq
  have nm : (toString "min" ++ toString ".loop" : String) = "min.loop" := by decide
  refine PyProof.Rows.kmk_tree F.kind_min F.plain_min F.entry_min (args_minD _ _) ?_
  show wpAny _ X.A.in1 (Builtin.Builtins.bindParams "min" ["key", "default"] 0 ⟨[], [(Str.ofString "default", .int d t)]⟩ >>= _) _ _ s
  refine wpAny_bind (wpAny_of_eq (show Builtin.Builtins.bindParams "min" ["key", "default"] 0 ⟨[], [(Str.ofString "default", .int d t)]⟩ = pure [none, some (.int d t)] from rfl) ?_)
  refine wpAny_bind (wpAny_pure ?_)
  refine wpAny_bind (iter_list (M := model X.prog X.w) p.isList fun s₂ e st hfp hlI => ?_)
  subst e
  refine wpAny_bind (wpAny_newObj_type ?_)
  have hSf : (s.heap.push { cls := .type "list_iterator", data := .fields #[.ref a, .int 0 0] }).objs.size ∉ [s.heap.objs.size, a] := fun hm => Nat.lt_irrefl _ (hfp _ hm)
  have W := Walks.list (prog := X.prog) (w := X.w) (A := X.A.in1) (I.ok.hd hc) s.heap.objs.size a hlI its.toArray
  have hlen : its.toArray.size = ns.length := by
    have h1 := rv.length
    rw [List.length_map] at h1
    simp
    omega
  rw [nm]
  refine wpAny_pure ⟨plainId_quiet F.plain_min_loop _, min_begins (A := X.A) W _ (CmpOf.ints_lt (fun i => ns.getD i 0) (fun i v hP => ints_walk rv hP)) _ hSf (W.frame _ _ _ st fun b _ o e => Heap.get?_push_of_some _ e) (Heap.get?_push_size _ rfl) fun v g tk hv hk => ?_⟩
  have kk : ∀ b o, s.heap.get? b = some o → g.get? b = some o := fun b o e => by
    have l1 := Heap.lt_size e
    have e2 : (s.heap.push { cls := .type "list_iterator", data := .fields #[.ref a, .int 0 0] }).get? b = some o := Heap.get?_push_of_some _ e
    refine hk b o (fun hm => ?_) (Nat.ne_of_lt (Heap.lt_size e2)) (Heap.get?_push_of_some _ e2)
    exact Nat.ne_of_lt l1 (List.mem_singleton.mp hm)
  by_cases h0 : its.toArray.size = 0
  · rw [if_pos h0] at hv
    subst hv
    have : ns = [] := List.eq_nil_of_length_eq_zero (by omega)
    exact ⟨.int d, H, I.kept kk, ⟨t, rfl⟩, q0 this⟩
  · rw [if_neg h0] at hv
    obtain ⟨tt, rfl⟩ := ints_walk rv hv
    rw [hlen]
    have hb : argBest (fun i j => decide (ns.getD i 0 < ns.getD j 0)) (ns.length - 1) < ns.length := by
      have := argBest_le (fun i j => decide (ns.getD i 0 < ns.getD j 0)) (ns.length - 1)
      omega
    refine ⟨.int _, H, I.kept kk, ⟨tt, rfl⟩, q _ ?_ fun n hn => ?_⟩
    · rw [List.getD_eq_getElem?_getD, List.getElem?_eq_getElem hb]
      exact List.getElem_mem hb
    · obtain ⟨i, hi, e⟩ := List.getElem_of_mem hn
      have z := argBest_min (fun i => ns.getD i 0) (ns.length - 1) i (by omega)
      rw [show ns.getD i 0 = n by rw [List.getD_eq_getElem?_getD, List.getElem?_eq_getElem hi, e]; rfl] at z
      exact z
/-- the expression -/
theorem pe_minD {X : Cx} {K : PySem.W.Frag} {e : Expr} {ta : TA} {p pos kp cp : Pos} {d : Int} {kk : Nat} (hK : X.K = K) (hc : X.calm = true) (hg : Gl X "min") (hm : X.mg "min" = none) (ha : PA X [e] ta)
    (h1 : backTo pos (starEach [e] X.env) = (false, eval e X.env) :: backTo pos (starEach [] X.env) := by rfl) (h2 : (backTo pos (starEach [e] X.env)).any (·.1) = false := by rfl) :
    PE X (.Call (.Name "min" p) [e] [⟨some "default", .Constant (.int d) kk cp, kp⟩] pos) (fun σ H Q => ta σ H fun vs H1 => ∃ (v : V) (ns : List Int), vs = [v] ∧ HasD K H1 v (.list (ns.map PyData.int)) ∧ (ns = [] → Q (.int d) H1) ∧ ∀ m, m ∈ ns → (∀ n ∈ ns, m ≤ n) → Q (.int m) H1) := by
  subst hK
  intro pins s σ H Q I h
  refine wpAny_Call_Name_kw (ld_blt I hg hm bt_min (callWith_kw ?_ h1 h2))
  refine thn (ha pos pins s σ H _ I h) fun us s1 ⟨vs, H1, I1, rv, v, ns, ev, hd, q0, q⟩ => ?_
  subst ev
  obtain ⟨u, rfl, ru⟩ := vals1 rv
  refine kws_cons (wpAny_Constant_int (kws_nil ?_))
  exact run_minD hc (I1.tok _) ru hd q0 q

section
variable {prog : Program} {w : World} {A : Around} {R : Result → Shared → Prop} {I : Addr} {fp wr : List Addr} {n : Nat} {Pv : Nat → Value → Prop} {St : Nat → Heap → Prop} {dv : Value}
theorem max_turns (W : Walks prog w A.in1 I fp wr n Pv St) (bt : Nat → Nat → Bool) (hcmp : CmpOf prog w A.in1 .Gt Pv bt) (Z : Addr) (hZ : Z ∉ fp) :
    ∀ (k j : Nat) (s : Shared) (u : Value) (c : Nat), n - (j + 1) = k → j + 1 ≤ n → St (j + 1) s.heap → Pv (argBest bt j) u →
    s.heap.get? Z = some { cls := .type "list", dict := none, data := .seq #[u, u] c, slots := #[] } →
    (∀ v g tk, Pv (argBest bt (n - 1)) v → (∀ b o, b ∉ wr → b ≠ Z → s.heap.get? b = some o → g.get? b = some o) → R (.ok (.ret v)) { s with heap := g, toks := tk }) →
    codeAny (model prog w) A (.builtin "max.loop" ⟨[.ref I, .none, .ref Z], [(Str.ofString "default", dv)]⟩) R s := by
  have zw : Z ∉ wr := fun h => hZ (W.sub _ h)
  have nm : (toString "max" ++ toString ".loop" : String) = "max.loop" := by decide
  intro k
  induction k with
  | zero =>
    intro j s u c e1 e2 st pu at_ fin
    have en : j + 1 = n := by omega
    refine codeAny_builtin F.entry_max_loop ?_
    rw [Around.under_plainId F.plain_max_loop _]
    show wpAny _ A.in1 (seqItems? (.ref Z) >>= _) _ _ s
    refine wpAny_bind (wpAny_seqItems at_ rfl ?_)
    show wpAny _ A.in1 (tryCatch (pyNext (.ref I)) _ >>= _) _ _ s
    refine wpAny_bind (wpAny_tryCatch (W.done s _ _ (en ▸ st) fun g tk kp => ?_))
    have at2 := kp Z _ zw at_
    show wpAny _ A.in1 (updateSeq Z (fun _ => #[]) >>= _) _ _ _
    refine wpAny_bind (wpAny_updateSeq at2 rfl (wpAny_bind (wpAny_letGo (wpAny_pure ?_))))
    refine fin u _ tk (by rw [← en]; exact pu) fun b o nb nz e => (Heap.get?_update_other _ _ (Ne.symm nz)).trans (kp b o nb e)
  | succ k ih =>
    intro j s u c e1 e2 st pu at_ fin
    have lt : j + 1 < n := by omega
    refine codeAny_builtin F.entry_max_loop ?_
    rw [Around.under_plainId F.plain_max_loop _]
    show wpAny _ A.in1 (seqItems? (.ref Z) >>= _) _ _ s
    refine wpAny_bind (wpAny_seqItems at_ rfl ?_)
    show wpAny _ A.in1 (tryCatch (pyNext (.ref I)) _ >>= _) _ _ s
    refine wpAny_bind (wpAny_tryCatch (W.item (j + 1) s _ _ lt st fun v g tk pv st2 kp => ?_))
    have at2 := kp Z _ zw at_
    show wpAny _ A.in1 (tryCatch (holding [v, v] (richCompare .Gt v u >>= _)) _ >>= _) _ _ _
    refine wpAny_bind (wpAny_tryCatch (wpAny_holding (wpAny_bind (hcmp (j + 1) (argBest bt j) v u _ _ _ pv pu ?_))))
    refine wpAny_bind (wpAny_holding (wpAny_truthy_bool (wpAny_bind (wpAny_letGo (wpAny_pure ?_)))))
    cases hb : bt (j + 1) (argBest bt j) with
    | true =>
      simp only [if_true]
      refine wpAny_bind (wpAny_updateSeq at2 rfl (wpAny_bind (wpAny_letGo ?_)))
      rw [nm]
      refine wpAny_pure ⟨plainId_quiet F.plain_max_loop _, ih (j + 1) _ v _ (by omega) lt (W.frame _ _ _ st2 fun b bf o e => ?_) (by simp only [argBest, hb, if_true]; exact pv) (Heap.get?_update_self _ at2 rfl) fun v' g2 t2 p2 k2 => ?_⟩
      · exact (Heap.get?_update_other _ _ (fun h : Z = b => hZ (by rw [h]; exact bf))).trans e
      · exact fin v' g2 t2 p2 fun b o nb nz e => k2 b o nb nz ((Heap.get?_update_other _ _ (Ne.symm nz)).trans (kp b o nb e))
    | false =>
      simp only [Bool.false_eq_true, if_false]
      refine wpAny_bind (wpAny_letGo ?_)
      rw [nm]
      refine wpAny_pure ⟨plainId_quiet F.plain_max_loop _, ih (j + 1) _ u c (by omega) lt st2 (by simp only [argBest, hb, Bool.false_eq_true, if_false]; exact pu) at2 fun v' g2 t2 p2 k2 => ?_⟩
      exact fin v' g2 t2 p2 fun b o nb nz e => k2 b o nb nz (kp b o nb e)
theorem max_begins (W : Walks prog w A.in1 I fp wr n Pv St) (bt : Nat → Nat → Bool) (hcmp : CmpOf prog w A.in1 .Gt Pv bt) (Z : Addr) (hZ : Z ∉ fp) {s : Shared} {c : Nat} (st : St 0 s.heap)
    (at_ : s.heap.get? Z = some { cls := .type "list", dict := none, data := .seq #[] c, slots := #[] })
    (fin : ∀ v g tk, (if n = 0 then v = dv else Pv (argBest bt (n - 1)) v) → (∀ b o, b ∉ wr → b ≠ Z → s.heap.get? b = some o → g.get? b = some o) → R (.ok (.ret v)) { s with heap := g, toks := tk }) :
    codeAny (model prog w) A (.builtin "max.loop" ⟨[.ref I, .none, .ref Z], [(Str.ofString "default", dv)]⟩) R s := by
  have zw : Z ∉ wr := fun h => hZ (W.sub _ h)
  have nm : (toString "max" ++ toString ".loop" : String) = "max.loop" := by decide
  refine codeAny_builtin F.entry_max_loop ?_
  rw [Around.under_plainId F.plain_max_loop _]
  show wpAny _ A.in1 (seqItems? (.ref Z) >>= _) _ _ s
  refine wpAny_bind (wpAny_seqItems at_ rfl ?_)
  show wpAny _ A.in1 (tryCatch (pyNext (.ref I)) _ >>= _) _ _ s
  by_cases h0 : n = 0
  · subst h0
    refine wpAny_bind (wpAny_tryCatch (W.done s _ _ st fun g tk kp => ?_))
    show wpAny _ A.in1 (rule _ >>= _) _ _ _
    refine wpAny_bind (wpAny_rule (wpAny_pure ?_))
    exact fin dv g tk (by rw [if_pos rfl]) fun b o nb _ e => kp b o nb e
  · have hn : 0 < n := by omega
    refine wpAny_bind (wpAny_tryCatch (W.item 0 s _ _ hn st fun v g tk pv st2 kp => ?_))
    have at2 := kp Z _ zw at_
    show wpAny _ A.in1 (updateSeq Z (fun _ => #[v, v]) >>= _) _ _ _
    refine wpAny_bind (wpAny_updateSeq at2 rfl ?_)
    rw [nm]
    refine wpAny_pure ⟨plainId_quiet F.plain_max_loop _, max_turns W bt hcmp Z hZ _ 0 _ v _ rfl hn (W.frame _ _ _ st2 fun b bf o e => ?_) pv (Heap.get?_update_self _ at2 rfl) fun v' g2 t2 p2 k2 => ?_⟩
    · exact (Heap.get?_update_other _ _ (fun h : Z = b => hZ (by rw [h]; exact bf))).trans e
    · exact fin v' g2 t2 (by rw [if_neg h0]; exact p2) fun b o nb nz e => k2 b o nb nz ((Heap.get?_update_other _ _ (Ne.symm nz)).trans (kp b o nb e))
end
theorem args_maxD (a v : Value) : argsOk "max" ⟨[a], [(Str.ofString "default", v)]⟩ := by unfold argsOk; kernel_rfl
/-- max(list of ints, default=number) -/
theorem run_maxD {X : Cx} {pins : List (Addr × Obj)} {σ : St} {H : Hp} {s : Shared} {Q : VK} {v : V} {u : Value} {ns : List Int} {d : Int} {t : Tok} (hc : X.calm = true) (I : Inv X pins σ H s) (r : RelV v u) (hd : HasD X.K H v (.list (ns.map PyData.int)))
    (q0 : ns = [] → Q (.int d) H) (q : ∀ m, m ∈ ns → (∀ n ∈ ns, n ≤ m) → Q (.int m) H) : wpAny (model X.prog X.w) X.A (call (.builtin "max") [u] [(Str.ofString "default", .int d t)]) (EP X pins σ Q) X.xe s := by
  obtain ⟨a, ys, rfl, hq, hds⟩ := hd.oflst
  rw [HasDs.ints.mp hds] at hq
  cases r
  obtain ⟨its, rv, p, hz⟩ := I.list hq
  have nm : (toString "max" ++ toString ".loop" : String) = "max.loop" := by decide
  refine PyProof.Rows.kmk_tree F.kind_max F.plain_max F.entry_max (args_maxD _ _) ?_
  show wpAny _ X.A.in1 (Builtin.Builtins.bindParams "max" ["key", "default"] 0 ⟨[], [(Str.ofString "default", .int d t)]⟩ >>= _) _ _ s
  refine wpAny_bind (wpAny_of_eq (show Builtin.Builtins.bindParams "max" ["key", "default"] 0 ⟨[], [(Str.ofString "default", .int d t)]⟩ = pure [none, some (.int d t)] from rfl) ?_)
  refine wpAny_bind (wpAny_pure ?_)
  refine wpAny_bind (iter_list (M := model X.prog X.w) p.isList fun s₂ e st hfp hlI => ?_)
  subst e
  refine wpAny_bind (wpAny_newObj_type ?_)
  have hSf : (s.heap.push { cls := .type "list_iterator", data := .fields #[.ref a, .int 0 0] }).objs.size ∉ [s.heap.objs.size, a] := fun hm => Nat.lt_irrefl _ (hfp _ hm)
  have W := Walks.list (prog := X.prog) (w := X.w) (A := X.A.in1) (I.ok.hd hc) s.heap.objs.size a hlI its.toArray
  have hlen : its.toArray.size = ns.length := by
    have h1 := rv.length
    rw [List.length_map] at h1
    simp
    omega
  rw [nm]
  refine wpAny_pure ⟨plainId_quiet F.plain_max_loop _, max_begins (A := X.A) W _ (CmpOf.ints_gt (fun i => ns.getD i 0) (fun i v hP => ints_walk rv hP)) _ hSf (W.frame _ _ _ st fun b _ o e => Heap.get?_push_of_some _ e) (Heap.get?_push_size _ rfl) fun v g tk hv hk => ?_⟩
  have kk : ∀ b o, s.heap.get? b = some o → g.get? b = some o := fun b o e => by
    have l1 := Heap.lt_size e
    have e2 : (s.heap.push { cls := .type "list_iterator", data := .fields #[.ref a, .int 0 0] }).get? b = some o := Heap.get?_push_of_some _ e
    refine hk b o (fun hm => ?_) (Nat.ne_of_lt (Heap.lt_size e2)) (Heap.get?_push_of_some _ e2)
    exact Nat.ne_of_lt l1 (List.mem_singleton.mp hm)
  by_cases h0 : its.toArray.size = 0
  · rw [if_pos h0] at hv
    subst hv
    have : ns = [] := List.eq_nil_of_length_eq_zero (by omega)
    exact ⟨.int d, H, I.kept kk, ⟨t, rfl⟩, q0 this⟩
  · rw [if_neg h0] at hv
    obtain ⟨tt, rfl⟩ := ints_walk rv hv
    rw [hlen]
    have hb : argBest (fun i j => decide (ns.getD i 0 > ns.getD j 0)) (ns.length - 1) < ns.length := by
      have := argBest_le (fun i j => decide (ns.getD i 0 > ns.getD j 0)) (ns.length - 1)
      omega
    refine ⟨.int _, H, I.kept kk, ⟨tt, rfl⟩, q _ ?_ fun n hn => ?_⟩
    · rw [List.getD_eq_getElem?_getD, List.getElem?_eq_getElem hb]
      exact List.getElem_mem hb
    · obtain ⟨i, hi, e⟩ := List.getElem_of_mem hn
      have z := argBest_max (fun i => ns.getD i 0) (ns.length - 1) i (by omega)
      rw [show ns.getD i 0 = n by rw [List.getD_eq_getElem?_getD, List.getElem?_eq_getElem hi, e]; rfl] at z
      exact z
/-- the expression -/
theorem pe_maxD {X : Cx} {K : PySem.W.Frag} {e : Expr} {ta : TA} {p pos kp cp : Pos} {d : Int} {kk : Nat} (hK : X.K = K) (hc : X.calm = true) (hg : Gl X "max") (hm : X.mg "max" = none) (ha : PA X [e] ta)
    (h1 : backTo pos (starEach [e] X.env) = (false, eval e X.env) :: backTo pos (starEach [] X.env) := by rfl) (h2 : (backTo pos (starEach [e] X.env)).any (·.1) = false := by rfl) :
    PE X (.Call (.Name "max" p) [e] [⟨some "default", .Constant (.int d) kk cp, kp⟩] pos) (fun σ H Q => ta σ H fun vs H1 => ∃ (v : V) (ns : List Int), vs = [v] ∧ HasD K H1 v (.list (ns.map PyData.int)) ∧ (ns = [] → Q (.int d) H1) ∧ ∀ m, m ∈ ns → (∀ n ∈ ns, n ≤ m) → Q (.int m) H1) := by
  subst hK
  intro pins s σ H Q I h
  refine wpAny_Call_Name_kw (ld_blt I hg hm bt_max (callWith_kw ?_ h1 h2))
  refine thn (ha pos pins s σ H _ I h) fun us s1 ⟨vs, H1, I1, rv, v, ns, ev, hd, q0, q⟩ => ?_
  subst ev
  obtain ⟨u, rfl, ru⟩ := vals1 rv
  refine kws_cons (wpAny_Constant_int (kws_nil ?_))
  exact run_maxD hc (I1.tok _) ru hd q0 q
end L2

/-! ### EXTENSION 12: is True, is not True -/
namespace L2
open PySem PySem.Spec PyProof.Rows
theorem op_isB {X : Cx} : OpR X (compareOp .Is) (fun x y H Q => ∃ i j, x = .bl i ∧ y = .bl j ∧ Q (.bl (i == j)) H) := by
  intro pins s σ H x y v u Q I rx ry h
  obtain ⟨i, j, rfl, rfl, q⟩ := h
  cases rx
  cases ry
  exact is_bool ⟨.bl (i == j), H, I, rfl, q⟩
theorem op_notB {X : Cx} : OpR X (compareOp .IsNot) (fun x y H Q => ∃ i j, x = .bl i ∧ y = .bl j ∧ Q (.bl (i != j)) H) := by
  intro pins s σ H x y v u Q I rx ry h
  obtain ⟨i, j, rfl, rfl, q⟩ := h
  cases rx
  cases ry
  exact isnot_bool ⟨.bl (i != j), H, I, rfl, q⟩
end L2

/-! ### EXTENSION 13: methods and classes within try; slices by places -/
namespace L2
open PySem PySem.Spec PyProof.Rows
section
variable {X : Cx} {k : Nat} {C : Addr} {ps : List Str} {sp : Sp} {x m : Str} {p pos apos : Pos} {e o : Expr} {es : List Expr} {ta : TE} {t : TA}
def tMethX (C : Addr) (m : Str) (sp : Sp) (ta : TE) (t : TA) : TX := fun σ H Q XE => ta σ H fun y H1 => ∃ a dx fs, y = .ref a ∧ H1 a = some (.ins C dx fs) ∧ fs.lookup m = none ∧ t σ H1 fun vs H2 => sp (y :: vs) H2 Q (wishX XE σ)
theorem pex_ownM {pl : Sem Bool} (F : OwnM X.prog X.w X.K X.mg X.base (CXE X.prog X.w) C m ps k sp) (c : Cls X.K C) (hr : Room k X.A) (he : PE X.nox o ta) (ha : PA X.nox (e :: es) t)
    (hst : starEach (e :: es) X.env = (false, eval e X.env) :: starEach es X.env := by rfl) (hpl : (backTo pos (starEach es X.env)).any (·.1) = false := by rfl)
    (ht : eval (.Call (.Attribute o m apos) (e :: es) [] pos) X.env = (do
      let ov ← eval o X.env
      standAt apos.atName
      let (f, first) ← holding [ov] (getMethod ov m pl)
      callWith pos f first (backTo pos (starEach (e :: es) X.env)) (backToKw pos (keywordEach [] X.env))) := by rfl) :
    PEX X (.Call (.Attribute o m apos) (e :: es) [] pos) (tMethX C m sp ta t) := by
  obtain ⟨f, fd, G, b, me⟩ := F.ex
  intro pins s σ H Q XE I h
  refine PySem.W.methodCall_KW (pl := pl) (wpAny_mono (he pins s σ H _ (I.wish _) h) (fun u s1 ⟨y, H1, I1, rx, a, dx, fs, ex, ea, l, q⟩ => ?_) fun _ _ z => z.elim) ht
  subst ex
  obtain rfl : u = Value.ref a := rx
  refine getmeth_ok I1.unwish ea c me l ?_
  refine PySem.W.callWith_K (first := [.ref a]) (h₀ := X.base) I.ok.mod.kin me.kp (wpAny_mono (ha pos pins s1 σ H1 _ I1 q) (fun us s2 ⟨vs, H2, I2, r, q2⟩ => ⟨I2.kIn, ?_⟩) fun _ _ z => z.elim) hst hpl
  exact run_fnX (us := .ref a :: us) (vs := .ref a :: vs) G hr b I2.unwish (.cons rfl r) q2
theorem pex_ownI {f : Addr} (F : OwnI X.prog X.w X.K X.mg X.base (CXE X.prog X.w) C ps k sp) (hr : Room (k + 1) X.A) (hg : Gl X x) (hm : X.mg x = some (.ref C)) (ha : PA X.nox (e :: es) t)
    (hdb : (x == ("__debug__" : Str)) = false := by decide) (he : starEach (e :: es) X.env = (false, eval e X.env) :: starEach es X.env := by rfl) (hpl : (backTo pos (starEach es X.env)).any (·.1) = false := by rfl) :
    PEX X (.Call (.Name x p) (e :: es) [] pos) (tMakeX C sp t) := by
  obtain ⟨f, fd, G, b, me⟩ := F.ex
  exact pex_make me G hr hg hm b ha hdb he hpl
end
/-- xs[:r], xs[r:] for a place within -/
theorem cut_to {xs : List V} {r : Nat} (h : r ≤ xs.length) : cutV xs none (some (r : Int)) = xs.take r := by
  have e : HT.sIx xs.length xs.length (some (r : Int)) = r := by
    rw [HT.sIx_nat]
    omega
  have e0 : HT.sIx xs.length 0 none = 0 := rfl
  unfold cutV
  rw [e, e0]
  simp
theorem cut_from {xs : List V} {r : Nat} (h : r ≤ xs.length) : cutV xs (some (r : Int)) none = xs.drop r := by
  have e : HT.sIx xs.length 0 (some (r : Int)) = r := by
    rw [HT.sIx_nat]
    omega
  have e0 : HT.sIx xs.length xs.length none = xs.length := rfl
  unfold cutV
  rw [e, e0]
  exact List.take_of_length_le (by rw [List.length_drop]; exact Nat.le_refl _)
end L2

namespace Hw
open PySem L2
/-! ### fractions as Rat -/
theorem lowI_rat (t : Int) {b : Int} (hb : b ≠ 0) : lowI t b = ((Rat.divInt t b).num, ((Rat.divInt t b).den : Int)) := by
  have hg : ∀ x y : Int, Int.gcd x y = Int.gcd y x := Int.gcd_comm
  unfold lowI
  by_cases h : b < 0
  · rw [if_pos h]
    unfold low
    rw [Rat.num_divInt, Rat.den_divInt, if_neg hb, gcd_negs, Int.sign_eq_neg_one_of_neg h, hg b t]
    refine Prod.ext ?_ ?_
    · show -t / _ = -1 * t / _
      rw [Int.neg_one_mul]
    · show -b / ((Int.gcd t b : Nat) : Int) = ((b.natAbs / Int.gcd t b : Nat) : Int)
      rw [Int.natCast_ediv]
      congr 1
      omega
  · rw [if_neg h]
    unfold low
    have h0 : 0 < b := by omega
    rw [Rat.num_divInt, Rat.den_divInt, if_neg hb, Int.sign_eq_one_of_pos h0, hg b t]
    refine Prod.ext ?_ ?_
    · show t / _ = 1 * t / _
      rw [Int.one_mul]
    · show b / ((Int.gcd t b : Nat) : Int) = ((b.natAbs / Int.gcd t b : Nat) : Int)
      rw [Int.natCast_ediv]
      congr 1
      omega
theorem low_rat (t : Int) {b : Int} (hb : 0 < b) : low t b = ((Rat.divInt t b).num, ((Rat.divInt t b).den : Int)) := by
  rw [← lowI_rat t (by omega), lowI, if_neg (by omega)]
theorem rat_add (q r : Rat) : Rat.divInt (q.num * r.den + r.num * q.den) (q.den * r.den) = q + r := by
  rw [Rat.add_def', ← Rat.divInt_ofNat]
  rfl
theorem rat_sub (q r : Rat) : Rat.divInt (q.num * r.den - r.num * q.den) (q.den * r.den) = q - r := by
  rw [Rat.sub_def', ← Rat.divInt_ofNat]
  rfl
theorem rat_mul (q r : Rat) : Rat.divInt (q.num * r.num) (q.den * r.den) = q * r := by
  rw [Rat.mul_def', ← Rat.divInt_ofNat]
  rfl
theorem rat_div (q r : Rat) : Rat.divInt (q.num * r.den) (q.den * r.num) = q / r := by
  have h : q / r = Rat.divInt q.num q.den * Rat.divInt r.den r.num := by
    rw [Rat.div_def, Rat.inv_def, Rat.num_divInt_den]
  rw [h, Rat.divInt_mul_divInt]
theorem den_pos (q : Rat) : (0 : Int) < q.den := by
  have := q.den_pos
  omega
theorem rat_lt (q r : Rat) : decide (q.num * r.den < r.num * q.den) = decide (q < r) := by
  rw [decide_eq_decide, Rat.lt_iff]
theorem rat_int (n : Int) : Rat.divInt n 1 = (n : Rat) := by
  have h : ((1 : Nat) : Int) = 1 := rfl
  rw [← h, Rat.divInt_ofNat]
  exact Rat.mkRat_self (n : Rat)
/-- tops and bottoms below 2^n -/
def RSz (n : Nat) (q : Rat) : Prop := Sz n q.num ∧ Sz n (q.den : Int)
theorem RSz.mono {m n : Nat} {q : Rat} (h : RSz m q) (e : m ≤ n) : RSz n q := ⟨h.1.mono e, h.2.mono e⟩
theorem RSz.of_div {n : Nat} {t b : Int} (hb : b ≠ 0) (h1 : Sz n t) (h2 : Sz n b) : RSz n (Rat.divInt t b) := by
  have e := lowI_rat t hb
  have e1 : (Rat.divInt t b).num = (lowI t b).1 := by rw [e]
  have e2 : ((Rat.divInt t b).den : Int) = (lowI t b).2 := by rw [e]
  refine ⟨?_, ?_⟩
  · rw [e1]
    refine h1.of_le ?_
    unfold lowI
    split
    · have := low_abs (-t) (-b)
      omega
    · exact low_abs t b
  · rw [e2]
    exact h2.of_le (lowI_le t hb)
theorem RSz.add {m n : Nat} {q r : Rat} (h : RSz m q) (h' : RSz n r) : RSz (m + n + 1) (q + r) := by
  rw [← rat_add]
  refine .of_div (by have := den_pos q; have := den_pos r; exact Int.ne_of_gt (Int.mul_pos (den_pos q) (den_pos r))) ?_ ((h.2.mul h'.2).mono (by omega))
  exact (h.1.mul h'.2).add ((h'.1.mul h.2).mono (by omega))
theorem RSz.sub {m n : Nat} {q r : Rat} (h : RSz m q) (h' : RSz n r) : RSz (m + n + 1) (q - r) := by
  rw [← rat_sub]
  refine .of_div (Int.ne_of_gt (Int.mul_pos (den_pos q) (den_pos r))) ?_ ((h.2.mul h'.2).mono (by omega))
  exact (h.1.mul h'.2).sub ((h'.1.mul h.2).mono (by omega))
theorem RSz.mul {m n : Nat} {q r : Rat} (h : RSz m q) (h' : RSz n r) : RSz (m + n) (q * r) := by
  rw [← rat_mul]
  exact .of_div (Int.ne_of_gt (Int.mul_pos (den_pos q) (den_pos r))) (h.1.mul h'.1) (h.2.mul h'.2)
theorem RSz.div {m n : Nat} {q r : Rat} (h : RSz m q) (h' : RSz n r) (hr : r ≠ 0) : RSz (m + n) (q / r) := by
  rw [← rat_div]
  exact .of_div (Int.mul_ne_zero (Int.ne_of_gt (den_pos q)) (fun z => hr (Rat.num_eq_zero.mp z))) (h.1.mul h'.2) (h.2.mul h'.1)
theorem RSz.int {n : Nat} {i : Int} (h : Sz n i) (h1 : 0 < n := by omega) : RSz n (i : Rat) := ⟨h, by
  show ((1 : Nat) : Int).natAbs < 2 ^ n
  exact Nat.lt_of_lt_of_le (by decide : 1 < 2 ^ 1) (Nat.pow_le_pow_right (by decide) h1)⟩
theorem RSz.zero {n : Nat} (h1 : 0 < n := by omega) : RSz n 0 := RSz.int (i := 0) (show (0 : Int).natAbs < 2 ^ n by simp; exact Nat.two_pow_pos n) h1
theorem RSz.neg {n : Nat} {q : Rat} (h : RSz n q) : RSz n (-q) := ⟨by rw [Rat.neg_num]; exact h.1.neg, by rw [Rat.neg_den]; exact h.2⟩

/-! ### the data of the program -/
def frD (q : Rat) : PyData := .tuple [.int q.num, .int q.den]
def intsD (ns : List Int) : PyData := .list (ns.map .int)
def tblD (t : List (List Int)) : PyData := .list (t.map intsD)
def frsD (qs : List Rat) : PyData := .list (qs.map frD)
def pairD (p : Int × Int) : PyData := .tuple [.int p.1, .int p.2]
def pairsD (ps : List (Int × Int)) : PyData := .list (ps.map pairD)
def ropesD (rs : List (List (Int × Int))) : PyData := .list (rs.map pairsD)
section
variable {K : PySem.W.Frag} {H H' : Hp} {v : V} {q : Rat}
theorem has_fr (h : HasD K H v (frD q)) : ∃ p, v = .ref p ∧ SqT K H p [.int q.num, .int q.den] := by
  obtain ⟨a, xs, rfl, hq, hd⟩ := h.oftup
  rw [HasDs.ints (ns := [q.num, (q.den : Int)]) |>.mp hd] at hq
  exact ⟨a, rfl, hq⟩
theorem fr_has {p : Addr} (h : SqT K H p [.int q.num, .int q.den]) : HasD K H (.ref p) (frD q) := .tup h (HasDs.ints (ns := [q.num, (q.den : Int)]) |>.mpr rfl)
theorem fr_new {p : Addr} (h : SqT K H' p [.int q.num, .int q.den]) : NewD K H H' (.ref p) (frD q) := .tup h (NewDs.ints (ns := [q.num, (q.den : Int)]) |>.mpr rfl)
theorem has_ints {ns : List Int} (h : HasD K H v (intsD ns)) : ∃ a, v = .ref a ∧ SqL K H a (ns.map V.int) := by
  obtain ⟨a, xs, rfl, hq, hd⟩ := h.oflst
  rw [HasDs.ints.mp hd] at hq
  exact ⟨a, rfl, hq⟩
theorem ints_has {a : Addr} {ns : List Int} (h : SqL K H a (ns.map V.int)) : HasD K H (.ref a) (intsD ns) := .lst h (HasDs.ints.mpr rfl)
theorem new_ints {ns : List Int} (h : NewD K H H' v (intsD ns)) : ∃ a, v = .ref a ∧ H a = none ∧ H' a = some (.lst (ns.map V.int)) := by
  obtain ⟨a, xs, rfl, n, hq, hd⟩ := h.oflst
  rw [NewDs.ints.mp hd] at hq
  exact ⟨a, rfl, n, hq⟩
theorem ints_new {a : Addr} {ns : List Int} (n : H a = none) (h : H' a = some (.lst (ns.map V.int))) : NewD K H H' (.ref a) (intsD ns) := .lst n h (NewDs.ints.mpr rfl)
theorem has_pair {p : Int × Int} (h : HasD K H v (pairD p)) : ∃ a, v = .ref a ∧ SqT K H a [.int p.1, .int p.2] := by
  obtain ⟨a, xs, rfl, hq, hd⟩ := h.oftup
  rw [HasDs.ints (ns := [p.1, p.2]) |>.mp hd] at hq
  exact ⟨a, rfl, hq⟩
theorem pair_new {p : Int × Int} {a : Addr} (h : SqT K H' a [.int p.1, .int p.2]) : NewD K H H' (.ref a) (pairD p) := .tup h (NewDs.ints (ns := [p.1, p.2]) |>.mpr rfl)
theorem zero_num' : (0 : Rat).num = 0 := rfl
theorem zero_den' : ((0 : Rat).den : Int) = 1 := rfl
end

/-! ### == of data -/
mutual
/-- ints, None, texts, nested: no bool -/
def plainD : PyData → Bool
  | .none => true
  | .bool _ => false
  | .int _ => true
  | .str _ => true
  | .list ds => plainDs ds
  | .tuple ds => plainDs ds
  | .dict _ => false
def plainDs : List PyData → Bool
  | [] => true
  | d :: ds => plainD d && plainDs ds
end
mutual
theorem eqv_iff : ∀ (d e : PyData), plainD d = true → plainD e = true → (PyData.eqv d e = true ↔ d = e)
  | .none, e, _, he => by cases e <;> simp_all [PyData.eqv, plainD]
  | .int i, e, _, he => by cases e <;> simp_all [PyData.eqv, plainD]
  | .str x, e, _, he => by cases e <;> simp_all [PyData.eqv, plainD]
  | .list ds, e, hd, he => by
    cases e with
    | list es =>
      rw [plainD] at hd he
      rw [PyData.eqv, eqvAll_iff ds es hd he]
      simp
    | _ => simp_all [PyData.eqv, plainD]
  | .tuple ds, e, hd, he => by
    cases e with
    | tuple es =>
      rw [plainD] at hd he
      rw [PyData.eqv, eqvAll_iff ds es hd he]
      simp
    | _ => simp_all [PyData.eqv, plainD]
  | .bool _, e, hd, _ => by simp [plainD] at hd
  | .dict _, e, hd, _ => by simp [plainD] at hd
theorem eqvAll_iff : ∀ (ds es : List PyData), plainDs ds = true → plainDs es = true → (PyData.eqvAll ds es = true ↔ ds = es)
  | [], [], _, _ => by simp [PyData.eqvAll]
  | [], e :: es, _, _ => by simp [PyData.eqvAll]
  | d :: ds, [], _, _ => by simp [PyData.eqvAll]
  | d :: ds, e :: es, hd, he => by
    rw [plainDs, Bool.and_eq_true] at hd he
    rw [PyData.eqvAll, Bool.and_eq_true, eqv_iff d e hd.1 he.1, eqvAll_iff ds es hd.2 he.2]
    simp
end
theorem eqv_dec {d e : PyData} [DecidableEq PyData] (hd : plainD d = true) (he : plainD e = true) : PyData.eqv d e = decide (d = e) := by
  rw [Bool.eq_iff_iff, eqv_iff d e hd he, decide_eq_true_iff]
theorem plainDs_map {α : Type} (f : α → PyData) (h : ∀ x, plainD (f x) = true) : ∀ xs : List α, plainDs (xs.map f) = true
  | [] => by rw [List.map_nil, plainDs]
  | x :: xs => by rw [List.map_cons, plainDs, h x, plainDs_map f h xs]; rfl
theorem plain_int (n : Int) : plainD (.int n) = true := by rw [plainD]
theorem plain_fr (q : Rat) : plainD (frD q) = true := by simp [frD, plainD, plainDs]
theorem plain_pair (q : Int × Int) : plainD (pairD q) = true := by simp [pairD, plainD, plainDs]
theorem plain_ints (ns : List Int) : plainD (intsD ns) = true := by rw [intsD, plainD]; exact plainDs_map _ plain_int ns
theorem plain_tbl (t : List (List Int)) : plainD (tblD t) = true := by rw [tblD, plainD]; exact plainDs_map _ plain_ints t
theorem plain_frs (qs : List Rat) : plainD (frsD qs) = true := by rw [frsD, plainD]; exact plainDs_map _ plain_fr qs
theorem plain_pairs (qs : List (Int × Int)) : plainD (pairsD qs) = true := by rw [pairsD, plainD]; exact plainDs_map _ plain_pair qs
theorem plain_ropes (qs : List (List (Int × Int))) : plainD (ropesD qs) = true := by rw [ropesD, plainD]; exact plainDs_map _ plain_pairs qs
theorem frD_inj {q r : Rat} : frD q = frD r ↔ q = r := by
  constructor
  · intro h
    unfold frD at h
    injection h with h
    injection h with h1 h
    injection h with h2 h
    injection h1 with h1
    injection h2 with h2
    exact Rat.ext h1 (by omega)
  · rintro rfl
    rfl
theorem map_inj {α : Type} {f : α → PyData} (h : ∀ x y, f x = f y → x = y) : ∀ {xs ys : List α}, xs.map f = ys.map f → xs = ys
  | [], [], _ => rfl
  | [], y :: ys, e => by simp at e
  | x :: xs, [], e => by simp at e
  | x :: xs, y :: ys, e => by
    rw [List.map_cons, List.map_cons] at e
    injection e with e1 e2
    rw [h _ _ e1, map_inj h e2]
theorem intsD_inj {a b : List Int} : intsD a = intsD b ↔ a = b := by
  constructor
  · intro h
    injection h with h
    exact map_inj (fun x y e => by injection e) h
  · rintro rfl; rfl
theorem frsD_inj {a b : List Rat} : frsD a = frsD b ↔ a = b := by
  constructor
  · intro h
    injection h with h
    exact map_inj (fun x y e => frD_inj.mp e) h
  · rintro rfl; rfl
theorem tblD_inj {a b : List (List Int)} : tblD a = tblD b ↔ a = b := by
  constructor
  · intro h
    injection h with h
    exact map_inj (fun x y e => intsD_inj.mp e) h
  · rintro rfl; rfl
/-- how deep, and that it is all there -/
theorem canLay_map {α : Type} (f : α → PyData) (h : ∀ x, (f x).canLay0 = true) : ∀ xs : List α, PyData.canLayAll0 (xs.map f) = true
  | [] => rfl
  | x :: xs => by
    rw [List.map_cons, PyData.canLayAll0, h x, canLay_map f h xs]
    rfl
theorem depth_map {α : Type} (f : α → PyData) (n : Nat) (h : ∀ x, (f x).depth ≤ n) : ∀ xs : List α, PyData.depthAll (xs.map f) ≤ n
  | [] => by simp [PyData.depthAll]
  | x :: xs => by
    rw [List.map_cons, PyData.depthAll]
    have := h x
    have := depth_map f n h xs
    omega
/-- data that == can be asked of -/
structure Lays (n : Nat) (d : PyData) : Prop where
  lay : d.canLay0 = true
  dep : d.depth ≤ n
theorem lays_int (i : Int) : Lays 1 (.int i) := ⟨rfl, by simp [PyData.depth]⟩
theorem lays_fr (q : Rat) : Lays 3 (frD q) := ⟨rfl, by simp [frD, PyData.depth, PyData.depthAll]⟩
theorem lays_pair (q : Int × Int) : Lays 3 (pairD q) := ⟨rfl, by simp [pairD, PyData.depth, PyData.depthAll]⟩
theorem lays_list {α : Type} {f : α → PyData} {n : Nat} (h : ∀ x, Lays n (f x)) (xs : List α) : Lays (n + 1) (.list (xs.map f)) := ⟨by
    rw [PyData.canLay0]
    exact canLay_map f (fun x => (h x).lay) xs, by
    have := depth_map f n (fun x => (h x).dep) xs
    simp only [PyData.depth]
    omega⟩
theorem lays_ints (ns : List Int) : Lays 2 (intsD ns) := lays_list lays_int ns
theorem lays_frs (ns : List Rat) : Lays 4 (frsD ns) := lays_list lays_fr ns
theorem lays_tbl (ns : List (List Int)) : Lays 3 (tblD ns) := lays_list lays_ints ns
theorem lays_pairs (ns : List (Int × Int)) : Lays 4 (pairsD ns) := lays_list lays_pair ns
theorem lays_ropes (ns : List (List (Int × Int))) : Lays 5 (ropesD ns) := lays_list lays_pairs ns
theorem lays_units {A : Around} {k n m : Nat} {d e : PyData} (hr : Room k A) (h : Lays n d) (hn : n ≤ 64) : A.units + min d.depth e.depth < cLine := by
  have h1 := hr.units
  have h2 := h.dep
  omega
theorem ne_no {d e : PyData} (h : PyData.eqv d e = true) : ¬ ((if true = true then !PyData.eqv d e else PyData.eqv d e) = true) := by simp [h]
theorem ne_yes {d e : PyData} (h : PyData.eqv d e = false) : (if true = true then !PyData.eqv d e else PyData.eqv d e) = true := by simp [h]
theorem eq_yes {d e : PyData} (h : PyData.eqv d e = true) : (if false = true then !PyData.eqv d e else PyData.eqv d e) = true := by simp [h]
theorem eq_no {d e : PyData} (h : PyData.eqv d e = false) : ¬ ((if false = true then !PyData.eqv d e else PyData.eqv d e) = true) := by simp [h]
theorem eqv_self {d : PyData} (h : plainD d = true) : PyData.eqv d d = true := (eqv_iff d d h h).mpr rfl
theorem eqv_not {d e : PyData} (hd : plainD d = true) (he : plainD e = true) (h : d ≠ e) : PyData.eqv d e = false := by
  rw [Bool.eq_false_iff]
  exact fun z => h ((eqv_iff d e hd he).mp z)
end Hw

namespace Hw
open PySem L2
/-! ### sums of products -/
def dot : List Int → List Rat → Rat
  | n :: ns, q :: qs => (n : Rat) * q + dot ns qs
  | _, _ => 0
theorem dot_nil : dot [] [] = 0 := rfl
theorem dot_snoc : ∀ (ns : List Int) (qs : List Rat) (n : Int) (q : Rat), ns.length = qs.length → dot (ns ++ [n]) (qs ++ [q]) = dot ns qs + (n : Rat) * q
  | [], [], n, q, _ => by
    show (n : Rat) * q + 0 = 0 + (n : Rat) * q
    rw [Rat.add_comm]
  | [], q' :: qs, n, q, h => by simp at h
  | n' :: ns, [], n, q, h => by simp at h
  | n' :: ns, q' :: qs, n, q, h => by
    show (n' : Rat) * q' + dot (ns ++ [n]) (qs ++ [q]) = (n' : Rat) * q' + dot ns qs + (n : Rat) * q
    rw [dot_snoc ns qs n q (by simpa using h), Rat.add_assoc]
theorem dot_take {ns : List Int} {qs : List Rat} {i : Nat} {n : Int} {q : Rat} (hl : ns.length = qs.length) (h1 : ns[i]? = some n) (h2 : qs[i]? = some q) : dot (ns.take (i + 1)) (qs.take (i + 1)) = dot (ns.take i) (qs.take i) + (n : Rat) * q := by
  obtain ⟨hi, e1⟩ := List.getElem?_eq_some_iff.mp h1
  obtain ⟨hj, e2⟩ := List.getElem?_eq_some_iff.mp h2
  rw [List.take_succ_eq_append_getElem hi, List.take_succ_eq_append_getElem hj, e1, e2]
  exact dot_snoc _ _ _ _ (by rw [List.length_take, List.length_take, hl])
theorem RSz.dot {m : Nat} : ∀ (ns : List Int) (qs : List Rat), (∀ n ∈ ns, Sz 12 n) → (∀ q ∈ qs, RSz m q) → RSz (ns.length * (m + 13) + 1) (dot ns qs)
  | [], _, _, _ => by
    show RSz _ 0
    exact .zero
  | n :: ns, [], _, _ => by
    show RSz _ 0
    exact .zero
  | n :: ns, q :: qs, h1, h2 => by
    show RSz _ ((n : Rat) * q + Hw.dot ns qs)
    have a := (RSz.int (h1 n List.mem_cons_self)).mul (h2 q List.mem_cons_self)
    have b := RSz.dot ns qs (fun x hx => h1 x (List.mem_cons_of_mem _ hx)) (fun x hx => h2 x (List.mem_cons_of_mem _ hx))
    refine (a.add b).mono ?_
    rw [List.length_cons, Nat.succ_mul]
    omega
theorem rat_one_int (n : Int) : frD (n : Rat) = .tuple [.int n, .int 1] := rfl
end Hw

namespace Hw
open PySem L2
/-! ### sums over places -/
def sumN : Nat → (Nat → Rat) → Rat
  | 0, _ => 0
  | n + 1, f => sumN n f + f n
theorem sumN_congr {n : Nat} {f g : Nat → Rat} (h : ∀ i, i < n → f i = g i) : sumN n f = sumN n g := by
  induction n with
  | zero => rfl
  | succ n ih => rw [sumN, sumN, ih fun i hi => h i (by omega), h n (by omega)]
theorem sumN_zero (n : Nat) : sumN n (fun _ => 0) = 0 := by
  induction n with
  | zero => rfl
  | succ n ih => rw [sumN, ih]; grind
theorem sumN_add (n : Nat) (f g : Nat → Rat) : sumN n (fun i => f i + g i) = sumN n f + sumN n g := by
  induction n with
  | zero => rw [sumN, sumN, sumN]; grind
  | succ n ih => rw [sumN, sumN, sumN, ih]; grind
theorem sumN_sub (n : Nat) (f g : Nat → Rat) : sumN n (fun i => f i - g i) = sumN n f - sumN n g := by
  induction n with
  | zero => rw [sumN, sumN, sumN]; grind
  | succ n ih => rw [sumN, sumN, sumN, ih]; grind
theorem sumN_mul (n : Nat) (c : Rat) (f : Nat → Rat) : sumN n (fun i => c * f i) = c * sumN n f := by
  induction n with
  | zero => rw [sumN, sumN, Rat.mul_zero]
  | succ n ih => rw [sumN, sumN, ih]; grind
theorem sumN_mul' (n : Nat) (c : Rat) (f : Nat → Rat) : sumN n (fun i => f i * c) = sumN n f * c := by
  induction n with
  | zero => rw [sumN, sumN, Rat.zero_mul]
  | succ n ih => rw [sumN, sumN, ih]; grind
theorem sumN_comm (n m : Nat) (f : Nat → Nat → Rat) : sumN n (fun i => sumN m fun j => f i j) = sumN m (fun j => sumN n fun i => f i j) := by
  induction n with
  | zero =>
    rw [sumN]
    exact (sumN_zero m).symm
  | succ n ih =>
    rw [sumN, ih, ← sumN_add]
    exact sumN_congr fun j _ => by rw [sumN]
theorem sumN_nonneg {n : Nat} {f : Nat → Rat} (h : ∀ i, i < n → 0 ≤ f i) : 0 ≤ sumN n f := by
  induction n with
  | zero => exact Rat.le_refl
  | succ n ih =>
    rw [sumN]
    exact Rat.add_nonneg (ih fun i hi => h i (by omega)) (h n (by omega))
theorem RSz.sumN {m : Nat} : ∀ (n : Nat) (f : Nat → Rat), (∀ i, i < n → RSz m (f i)) → RSz (n * (m + 1) + 1) (sumN n f)
  | 0, _, _ => .zero
  | n + 1, f, h => by
    have a := RSz.sumN n f fun i hi => h i (by omega)
    have b := h n (by omega)
    refine (a.add b).mono ?_
    rw [Nat.succ_mul]
    omega
theorem getD_of {α : Type} {xs : List α} {i : Nat} {x d : α} (h : xs[i]? = some x) : xs.getD i d = x := by rw [List.getD_eq_getElem?_getD, h]; rfl
theorem dot_sumN {ns : List Int} {qs : List Rat} (hl : ns.length = qs.length) : dot ns qs = sumN ns.length fun i => ((ns.getD i 0 : Int) : Rat) * qs.getD i 0 := by
  have key : ∀ k, k ≤ ns.length → dot (ns.take k) (qs.take k) = sumN k fun i => ((ns.getD i 0 : Int) : Rat) * qs.getD i 0 := by
    intro k
    induction k with
    | zero => intro _; rfl
    | succ k ih =>
      intro hk
      have h1 : ns[k]? = some ns[k] := List.getElem?_eq_getElem (by omega)
      have h2 : qs[k]? = some (qs[k]'(by omega)) := List.getElem?_eq_getElem (by omega)
      rw [dot_take hl h1 h2, ih (by omega), sumN, getD_of h1, getD_of h2]
  have h := key ns.length (Nat.le_refl _)
  rw [List.take_length, hl, List.take_length, ← hl] at h
  exact h
end Hw

/-! ### EXTENSION 12: texts: split, join, partition, f"{a}:{b}", try with nothing raised -/
namespace L2
open PySem PySem.Spec PyProof.Rows PySem.Builtin PySem.Builtin.Str
section
variable {X : Cx}
theorem vals_strs : ∀ {l : List (Str × Tok)}, Vals ((l.map (·.1)).map V.str) (strValues l)
  | [] => .nil
  | (x, t) :: r => .cons ⟨t, rfl⟩ (vals_strs (l := r))
theorem strs_of_vals : ∀ {ys : List Str} {us : List Value}, Vals (ys.map V.str) us → StrsAre us ys
  | [], _, .nil => .nil
  | y :: r, _, .cons ⟨t, e⟩ h => by
    subst e
    exact .cons y t (strs_of_vals h)
theorem push_keeps {h : Heap} {o : Obj} : ∀ b u, h.get? b = some u → (h.push o).get? b = some u := fun _ _ e => Heap.get?_push_of_some _ e
theorem mt_split : MtR X "str.split" (fun x xs H Q => ∃ z y, x = .str z ∧ xs = [.str y] ∧ (y.length == 0) = false ∧ z.length + 2 ≤ sizeLine ∧ ∀ l, H l = none → Q (.ref l) (upd H l (.lst ((Txt.split z y).map V.str)))) := by
  intro pins s σ H x xs v us Q I rx r h
  obtain ⟨z, y, rfl, rfl, hy, hsz, q⟩ := h
  obtain ⟨t, rfl⟩ := rx
  obtain ⟨u, rfl, t', rfl⟩ := r.one
  have hn : (partsBetween z (occurrences z y 0 z.length (z.length + 1)) y.length).length ≤ sizeLine := by
    have e1 := StrLaws.occ_length_le z y 0 z.length (z.length + 1)
    rw [length_partsBetween]
    omega
  have fin : ∀ (l : List (Str × Tok)) (k : Nat), l.map (·.1) = Txt.split z y → EP X pins σ Q (.ref s.heap.objs.size) { s with heap := s.heap.push { cls := .type "list", data := .seq (strValues l).toArray }, toks := k } := fun l k e => by
    refine ⟨.ref s.heap.objs.size, _, I.laid (t' := k) push_keeps (Nat.le_refl _) (show ObjOk X.prog X.w _ _ _ (.lst ((Txt.split z y).map V.str)) from ⟨?_, strValues l, _, ?_, Heap.get?_push_size _ rfl⟩), rfl, q _ (I.hok.fresh (Nat.le_refl _))⟩
    · have := split_le z y
      rw [List.length_map]
      omega
    · rw [← e]
      exact vals_strs
  cases h1 : (decide (z.length < y.length) || decide (strKind z < strKind y))
  · cases hf : (occurrences z y 0 z.length (z.length + 1)).isEmpty
    · refine call_meets F.slot_str_split (typeIs_str _ _ _) F.entry_str_split (F.args_str_split_2 _ _) (meets_str_split_sep z y t t' h1 hy hf (by omega) hn) ?_
      show wants _ _ _ { s with toks := _, heap := s.heap.push { cls := .type "list", data := .seq (strsFrom s.toks (partsBetween z (occurrences z y 0 z.length (z.length + 1)) y.length)).toArray } }
      rw [strsFrom_eq]
      exact fin (numbered s.toks _) _ ((numbered_texts _ _).trans ((if_neg (ne_true_of_eq_false h1)).trans (if_neg (ne_true_of_eq_false hf))).symm)
    · exact call_meets F.slot_str_split (typeIs_str _ _ _) F.entry_str_split (F.args_str_split_2 _ _) (meets_str_split_not_found z y t t' h1 hy hf)
        (fin [(z, t)] s.toks ((if_neg (ne_true_of_eq_false h1)).trans (if_pos hf)).symm)
  · exact call_meets F.slot_str_split (typeIs_str _ _ _) F.entry_str_split (F.args_str_split_2 _ _) (meets_str_split_cannot_occur z y t t' h1)
      (fin [(z, t)] s.toks (if_pos h1).symm)
theorem mt_join : MtR X "str.join" (fun x xs H Q => ∃ sep p ys, x = .str sep ∧ xs = [.ref p] ∧ SqL X.K H p (ys.map V.str) ∧ (ys.map (·.length)).sum + ys.length * sep.length ≤ 16777216 ∧ Q (.str (Str.join sep ys)) H) := by
  intro pins s σ H x xs v us Q I rx r h
  obtain ⟨sep, p, ys, rfl, rfl, hq, hb, q⟩ := h
  obtain ⟨t, rfl⟩ := rx
  obtain ⟨u, rfl, r1⟩ := r.one
  cases r1
  obtain ⟨its, r', pl, hz⟩ := I.list hq
  refine join_list pl.isList (strs_of_vals r') hb fun t' k => ?_
  show EP X pins σ Q (.str (glued sep ys) t') _
  rw [StrLaws.glued_eq_join]
  exact ⟨.str _, H, I.tok _, ⟨_, rfl⟩, q⟩
theorem mt_partition : MtR X "str.partition" (fun x xs H Q => ∃ z y, x = .str z ∧ xs = [.str y] ∧ (y.length == 0) = false ∧ z.length ≤ sizeLine ∧ ∀ l, H l = none → Q (.ref l) (upd H l (.tup [.str (Txt.partition z y).1, .str (Txt.partition z y).2.1, .str (Txt.partition z y).2.2]))) := by
  intro pins s σ H x xs v us Q I rx r h
  obtain ⟨z, y, rfl, rfl, hy, hsz, q⟩ := h
  obtain ⟨t, rfl⟩ := rx
  obtain ⟨u, rfl, t', rfl⟩ := r.one
  have fin : ∀ (ta tb tc k : Nat), EP X pins σ Q (.ref s.heap.objs.size) { s with heap := s.heap.push { cls := .type "tuple", data := .seq [.str (Txt.partition z y).1 ta, .str (Txt.partition z y).2.1 tb, .str (Txt.partition z y).2.2 tc].toArray }, toks := k } := fun ta tb tc k => by
    refine ⟨.ref s.heap.objs.size, _, I.laid (t' := k) push_keeps (Nat.le_refl _) (show ObjOk X.prog X.w _ _ _ (.tup _) from ?_), rfl, q _ (I.hok.fresh (Nat.le_refl _))⟩
    refine ⟨?_, _, .cons ⟨ta, rfl⟩ (.cons ⟨tb, rfl⟩ (.cons ⟨tc, rfl⟩ .nil)), ⟨_, Heap.get?_push_size _ rfl, rfl, _, rfl⟩⟩
    show 3 ≤ sizeLine
    decide
  refine call_meets F.slot_str_partition (typeIs_str _ _ _) F.entry_str_partition (F.args_str_partition_2 _ _) (meets_str_partition z y t t' hy hsz) ?_
  unfold Txt.partition at fin
  revert fin
  cases occurrences z y 0 z.length 1 with
  | nil => intro h'; exact h' _ _ _ _
  | cons i r => intro h'; exact h' _ _ _ _
theorem mt_joinK {K : PySem.W.Frag} (hK : X.K = K) : MtR X "str.join" (fun x xs H Q => ∃ sep p ys, x = .str sep ∧ xs = [.ref p] ∧ SqL K H p (ys.map V.str) ∧ (ys.map (·.length)).sum + ys.length * sep.length ≤ 16777216 ∧ Q (.str (Str.join sep ys)) H) := by
  subst hK
  exact mt_join
theorem HasDs.strs {K : PySem.W.Frag} {H : Hp} : ∀ {ys : List Str} {xs : List V}, HasDs K H xs (ys.map PyData.str) ↔ xs = ys.map V.str
  | [], xs => by
    cases xs with
    | nil => exact ⟨fun _ => rfl, fun _ => .nil⟩
    | cons x r => exact ⟨fun h => absurd h.len (by simp), fun e => (by cases e)⟩
  | y :: ys, xs => by
    cases xs with
    | nil => exact ⟨fun h => absurd h.len (by simp), fun e => (by cases e)⟩
    | cons x r =>
      constructor
      · intro h
        rw [List.map_cons, HasDs] at h
        obtain ⟨x', r', e, h1, h2⟩ := h
        cases e
        rw [h1.ofstr, HasDs.strs.mp h2]
        rfl
      · intro e
        cases e
        exact .cons (.str y) (HasDs.strs.mpr rfl)
theorem NewDs.strs {K : PySem.W.Frag} {H H' : Hp} {ys : List Str} {xs : List V} : NewDs K H H' xs (ys.map PyData.str) ↔ xs = ys.map V.str := by
  constructor
  · intro h
    exact HasDs.strs.mp (NewDs.has _ h)
  · rintro rfl
    induction ys with
    | nil => exact .nil
    | cons y r ih => exact .cons (.str y) ih
def strsD (xs : List Str) : PyData := .list (xs.map PyData.str)
theorem strs_has {K : PySem.W.Frag} {H : Hp} {a : Addr} {xs : List Str} (h : SqL K H a (xs.map V.str)) : HasD K H (.ref a) (strsD xs) := .lst h (HasDs.strs.mpr rfl)
theorem has_strs {K : PySem.W.Frag} {H : Hp} {v : V} {xs : List Str} (h : HasD K H v (strsD xs)) : ∃ a, v = .ref a ∧ SqL K H a (xs.map V.str) := by
  obtain ⟨a, ys, e, q, d⟩ := h.oflst
  rw [HasDs.strs.mp d] at q
  exact ⟨a, e, q⟩
theorem strs_new {K : PySem.W.Frag} {H H' : Hp} {a : Addr} {xs : List Str} (n : H a = none) (h : H' a = some (.lst (xs.map V.str))) : NewD K H H' (.ref a) (strsD xs) := .lst n h (NewDs.strs.mpr rfl)
theorem new_strs {K : PySem.W.Frag} {H H' : Hp} {v : V} {xs : List Str} (h : NewD K H H' v (strsD xs)) : ∃ a, v = .ref a ∧ H a = none ∧ H' a = some (.lst (xs.map V.str)) := by
  obtain ⟨a, ys, e, n, q, d⟩ := h.oflst
  rw [NewDs.strs.mp d] at q
  exact ⟨a, e, n, q⟩
/-- f"{a}:{b}" -/
theorem pe_fstr2 {x : Str} {e1 e2 : Expr} {t1 t2 : TE} {k : Nat} {p1 p2 p3 p4 : Pos} (hx : x.length ≤ 1000) (h1 : PE X e1 t1) (h2 : PE X e2 t2) :
    PE X (.JoinedStr [.FormattedValue e1 (-1) none p1, .Constant (.str x) k p2, .FormattedValue e2 (-1) none p3] p4) (fun σ H Q => t1 σ H fun v H1 => ∃ i, v = .int i ∧ i.natAbs.log2 < 1920 ∧ t2 σ H1 fun u H2 => ∃ j, u = .int j ∧ j.natAbs.log2 < 1920 ∧ Q (.str (toString i ++ x ++ toString j)) H2) := by
  intro pins s σ H Q I h
  refine JoinedStr_many (joinParts_cons (FormattedValue_plain (thn (h1 pins s σ H _ I h) fun u s1 ⟨v, H1, I1, r, i, ev, hd, q⟩ => ?_)))
  subst ev
  obtain ⟨t, rfl⟩ := r
  have li : (toString i : Str).length ≤ 1921 := by
    have e : (toString i : Str).length = (toString i : String).length := PySem.ofString_length _
    rw [e]
    exact int_text_length_le (k := 1920) (by decide) hd
  have sz : 1000000 ≤ sizeLine := by decide
  have e0 : (Str.empty ++ (toString i : Str)) = (toString i : Str) := Str.append_left_empty rfl
  refine formatField_int_small hd ⟨by rw [e0]; omega, ?_⟩
  rw [e0]
  refine joinParts_cons (Calls.Constant_str ⟨?_, ?_⟩)
  · rw [strLen_append]
    omega
  · refine joinParts_cons (FormattedValue_plain (thn (h2 pins _ σ H1 _ ((I1.tok _).tok _) q) fun u s2 ⟨v, H2, I2, r, j, ev, hj, q⟩ => ?_))
    subst ev
    obtain ⟨t', rfl⟩ := r
    have lj : (toString j : Str).length ≤ 1921 := by
      have e : (toString j : Str).length = (toString j : String).length := PySem.ofString_length _
      rw [e]
      exact int_text_length_le (k := 1920) (by decide) hj
    have lim : (toString i ++ x ++ toString j : Str).length ≤ sizeLine := by
      rw [strLen_append, strLen_append]
      omega
    exact formatField_int_small hj ⟨lim, joinParts_nil ⟨.str _, H2, I2.tok _, ⟨_, rfl⟩, q⟩ lim⟩
/-- try, and nothing is raised -/
theorem ps_tryN {body : List Stmt} {h0 : ExceptHandler} {hs : List ExceptHandler} {pos : Pos} {t : TS} (hb : PSs X.nox body t) : PS X (.Try body (h0 :: hs) [] [] pos) t := by
  intro pins s σ H D I h
  refine wpAny_Try_except (wpAny_mono (hb pins s σ H D (I.wish _) h) (fun f s1 q => ?_) fun _ _ z => z.elim)
  cases f with
  | next =>
    obtain ⟨σ', H', I', q⟩ := q
    exact wpAny_execs_nil ⟨σ', H', I'.unwish, q⟩
  | ret v =>
    obtain ⟨u, σ', H', I', r, q⟩ := q
    exact ⟨u, σ', H', I'.unwish, r, q⟩
  | brk =>
    obtain ⟨σ', H', I', q⟩ := q
    exact ⟨σ', H', I'.unwish, q⟩
  | cont =>
    obtain ⟨σ', H', I', q⟩ := q
    exact ⟨σ', H', I'.unwish, q⟩
end
end L2

/-! ### texts: join and split -/
namespace L2
open PySem
theorem str_ext {a b : Str} (h : a.cps.toList = b.cps.toList) : a = b := Str.ext' (Array.toList_inj.mp h)
theorem toList_app (a b : Str) : (a ++ b).cps.toList = a.cps.toList ++ b.cps.toList := by rw [Str.cps_append, Array.toList_append]
theorem join_cons2 (sep x y : Str) (r : List Str) : Str.join sep (x :: y :: r) = x ++ sep ++ Str.join sep (y :: r) := rfl
theorem join_cons (sep x : Str) {r : List Str} (h : r ≠ []) : Str.join sep (x :: r) = x ++ sep ++ Str.join sep r := by
  cases r with
  | nil => exact absurd rfl h
  | cons y r => rfl
theorem join_snoc (sep x : Str) : ∀ {l : List Str}, l ≠ [] → Str.join sep (l ++ [x]) = Str.join sep l ++ sep ++ x
  | [], h => absurd rfl h
  | [y], _ => rfl
  | y :: z :: r, _ => by
    have ih := join_snoc sep x (l := z :: r) (by simp)
    show Str.join sep (y :: (z :: r ++ [x])) = _
    rw [join_cons _ _ (by simp), ih, join_cons2]
    simp only [Str.append_assoc]
theorem emp_eq : ("" : Str) = Str.empty := by decide +kernel
theorem join0_cons (x : Str) (r : List Str) : Str.join "" (x :: r) = x ++ Str.join "" r := by
  rw [emp_eq]
  cases r with
  | nil => show x = x ++ Str.empty; rw [Str.append_empty]
  | cons y r => rw [join_cons2, Str.append_empty]
theorem join0_snoc (x : Str) (l : List Str) : Str.join "" (l ++ [x]) = Str.join "" l ++ x := by
  induction l with
  | nil => show x = Str.empty ++ x; rw [Str.empty_append]
  | cons y r ih => rw [List.cons_append, join0_cons, ih, join0_cons, Str.append_assoc]
theorem join0_lines (nl : Str) (ls : List Str) : Str.join "" (ls.map (· ++ nl)) = Str.join nl (ls ++ [("" : Str)]) := by
  induction ls with
  | nil => exact emp_eq.symm
  | cons x r ih => rw [List.map_cons, join0_cons, ih, List.cons_append, join_cons _ _ (by simp), Str.append_assoc]
/-- of two texts without c the first ends where c first stands -/
theorem free_cut {c : Nat} : ∀ {a a' r r' : List Nat}, c ∉ a → c ∉ a' → a ++ c :: r = a' ++ c :: r' → a = a' ∧ r = r'
  | [], [], _, _, _, _, e => ⟨rfl, (List.cons.inj e).2⟩
  | [], x :: _, _, _, _, h, e => absurd ((List.cons.inj e).1 ▸ List.mem_cons_self) h
  | x :: _, [], _, _, h, _, e => absurd ((List.cons.inj e).1.symm ▸ List.mem_cons_self) h
  | x :: a, y :: a', r, r', h, h', e => by
    obtain ⟨e1, e2⟩ := List.cons.inj e
    obtain ⟨p, q⟩ := free_cut (fun z => h (List.mem_cons_of_mem _ z)) (fun z => h' (List.mem_cons_of_mem _ z)) e2
    exact ⟨by rw [e1, p], q⟩
theorem join_one {c : Nat} (x y : Str) (r : List Str) : (Str.join ⟨#[c]⟩ (x :: y :: r)).cps.toList = x.cps.toList ++ c :: (Str.join ⟨#[c]⟩ (y :: r)).cps.toList := by
  rw [join_cons2, toList_app, toList_app, List.append_assoc]
  rfl
theorem join_inj {c : Nat} : ∀ {ps qs : List Str}, ps ≠ [] → qs ≠ [] → (∀ p ∈ ps, c ∉ p.cps.toList) → (∀ p ∈ qs, c ∉ p.cps.toList) → Str.join ⟨#[c]⟩ ps = Str.join ⟨#[c]⟩ qs → ps = qs
  | [], _, h, _, _, _, _ => absurd rfl h
  | _, [], _, h, _, _, _ => absurd rfl h
  | [x], [y], _, _, _, _, e => by
    have : x = y := e
    rw [this]
  | [x], y :: z :: r, _, _, h1, _, e => by
    have e' := congrArg (fun s : Str => s.cps.toList) e
    rw [join_one] at e'
    have hx : c ∉ x.cps.toList := h1 x List.mem_cons_self
    refine absurd ?_ hx
    show c ∈ (Str.join ⟨#[c]⟩ [x]).cps.toList
    rw [e']
    simp
  | x :: w :: l, [y], _, _, _, h2, e => by
    have e' := congrArg (fun s : Str => s.cps.toList) e
    rw [join_one] at e'
    have hx : c ∉ y.cps.toList := h2 y List.mem_cons_self
    refine absurd ?_ hx
    show c ∈ (Str.join ⟨#[c]⟩ [y]).cps.toList
    rw [← e']
    simp
  | x :: w :: l, y :: z :: r, _, _, h1, h2, e => by
    have e' := congrArg (fun s : Str => s.cps.toList) e
    rw [join_one, join_one] at e'
    obtain ⟨a, b⟩ := free_cut (h1 x List.mem_cons_self) (h2 y List.mem_cons_self) e'
    have ih := join_inj (ps := w :: l) (qs := z :: r) (by simp) (by simp) (fun p hp => h1 p (List.mem_cons_of_mem _ hp)) (fun p hp => h2 p (List.mem_cons_of_mem _ hp)) (str_ext b)
    rw [str_ext a, ih]
theorem split_ne (x y : Str) : Txt.split x y ≠ [] := fun e => by
  have := PyProof.Rows.split_pos x y
  rw [e] at this
  exact absurd this (by decide)
theorem split_join {c : Nat} {ps : List Str} (h : ps ≠ []) (hf : ∀ p ∈ ps, c ∉ p.cps.toList) : Txt.split (Str.join ⟨#[c]⟩ ps) ⟨#[c]⟩ = ps :=
  join_inj (split_ne _ _) h (StrLaws.split_free _ _) hf (StrLaws.join_split _ _)
theorem at_one {x : Str} {c i : Nat} : StrLaws.At x ⟨#[c]⟩ x.length i ↔ x.cps.toList[i]? = some c := StrLaws.subAt_one x c i
theorem partition_at {c : Nat} {a b : Str} (h : c ∉ a.cps.toList) : Txt.partition (a ++ ⟨#[c]⟩ ++ b) ⟨#[c]⟩ = (a, ⟨#[c]⟩, b) := by
  have el : (a ++ ⟨#[c]⟩ ++ b : Str).cps.toList = a.cps.toList ++ c :: b.cps.toList := by
    rw [toList_app, toList_app, List.append_assoc]
    rfl
  have al : a.cps.toList.length = a.length := by simp [Str.length]
  have hat : StrLaws.At (a ++ ⟨#[c]⟩ ++ b) ⟨#[c]⟩ (a ++ ⟨#[c]⟩ ++ b : Str).length a.length := by
    rw [at_one, el, List.getElem?_append_right (by omega), al, Nat.sub_self]
    rfl
  unfold Txt.partition
  rcases StrLaws.occ_head (a ++ ⟨#[c]⟩ ++ b) ⟨#[c]⟩ 1 (Nat.le_refl 1) with ⟨h0, hn⟩ | ⟨i, r, h0, hi, hn⟩
  · exact absurd hat (hn _)
  · rw [h0]
    have hi' : i = a.length := by
      rcases Nat.lt_trichotomy i a.length with q | q | q
      · rw [at_one, el, List.getElem?_append_left (by omega)] at hi
        exact absurd (List.mem_of_getElem? hi) h
      · exact q
      · exact absurd hat (hn _ q)
    subst hi'
    show (Builtin.Str.strSub _ 0 a.length, _, _) = _
    have e1 : Builtin.Str.strSub (a ++ ⟨#[c]⟩ ++ b) 0 a.length = a := by
      refine str_ext ?_
      rw [StrLaws.strSub_toList, el, List.drop_zero, Nat.sub_zero, List.take_append_of_le_length (by omega), List.take_of_length_le (by omega)]
    have e2 : Builtin.Str.strSub (a ++ ⟨#[c]⟩ ++ b) (a.length + (⟨#[c]⟩ : Str).length) (a ++ ⟨#[c]⟩ ++ b : Str).length = b := by
      refine str_ext ?_
      rw [StrLaws.strSub_toList, el]
      have : (a.cps.toList ++ c :: b.cps.toList).drop (a.length + (⟨#[c]⟩ : Str).length) = b.cps.toList := by
        rw [show a.cps.toList ++ c :: b.cps.toList = (a.cps.toList ++ [c]) ++ b.cps.toList by simp, List.drop_append_of_le_length (by simp [Str.length])]
        rw [List.drop_of_length_le (by simp [Str.length])]
        rfl
      rw [this]
      refine List.take_of_length_le ?_
      rw [strLen_append, strLen_append]
      simp [Str.length]
    rw [e1, e2]
/-! ### numbers as texts -/
abbrev txtI (n : Int) : Str := toString n
theorem txt_nat (m : Nat) : (txtI m).cps.toList = (Nat.toDigits 10 m).map Char.toNat := PySem.W.KIN.signs_num m
theorem txt_neg (m : Nat) : (txtI (Int.negSucc m)).cps.toList = 45 :: (Nat.toDigits 10 (m + 1)).map Char.toNat := by
  show (PySem.Str.ofString (toString (Int.negSucc m))).cps.toList = _
  rw [PyProof.Rows.signs_ofString]
  show (("-" ++ Nat.repr (m + 1)).toList).map Char.toNat = _
  rw [String.toList_append, List.map_append, Nat.toList_repr]
  rfl
theorem txt_sign (n : Int) : ∀ c ∈ (txtI n).cps.toList, c = 45 ∨ (48 ≤ c ∧ c ≤ 57) := by
  have dig : ∀ (m : Nat), ∀ c ∈ (Nat.toDigits 10 m).map Char.toNat, 48 ≤ c ∧ c ≤ 57 := fun m c hc => by
    obtain ⟨ch, hch, e⟩ := List.mem_map.mp hc
    have r := PyProof.Rows.digit_range (Nat.isDigit_of_mem_toDigits (by decide) (by decide) hch)
    rw [← e]
    exact r
  intro c hc
  cases n with
  | ofNat m =>
    rw [show Int.ofNat m = (m : Int) from rfl, txt_nat] at hc
    exact .inr (dig m c hc)
  | negSucc m =>
    rw [txt_neg] at hc
    rcases List.mem_cons.mp hc with h | h
    · exact .inl h
    · exact .inr (dig _ c h)
theorem txt_free (n : Int) {c : Nat} (h : c ≠ 45) (h' : ¬ (48 ≤ c ∧ c ≤ 57)) : c ∉ (txtI n).cps.toList := fun hc => (txt_sign n c hc).elim h h'
theorem txt_len {n : Int} (h : n.natAbs < 1048576) : (txtI n).length ≤ 21 := by
  have e : (txtI n).length = (toString n : String).length := PySem.ofString_length _
  rw [e]
  have hs : Sz 20 n := h
  exact int_text_length_le (k := 20) (by decide) (hs.log (by decide))
theorem read9 : ∀ i : Fin 19, PySem.intText? (txtI ((i.val : Int) - 9)) = some ((i.val : Int) - 9) := by decide +kernel
theorem txt_read {n : Int} (h : -9 ≤ n) (h' : n ≤ 1000) : PySem.intText? (txtI n) = some n := by
  by_cases h0 : 0 ≤ n
  · exact PySem.W.KIN.num_reads h0 (by omega)
  · have e := read9 ⟨(n + 9).toNat, by omega⟩
    have e2 : (((n + 9).toNat : Nat) : Int) - 9 = n := by omega
    dsimp only at e
    rw [e2] at e
    exact e
end L2

/-! ### EXTENSION 13: comprehensions whose element raises -/
namespace L2
open PySem PySem.Spec PyProof.Rows
section
variable {M : Model} {A : Around} {E : Value → Shared → Prop} {s : Shared}
/-- an exception that is on its way, whatever its first entry bears -/
def HeldA (base : Heap) (l : List Env) (e : Addr) (cls a0 fl : Value) (h : Heap) : Prop := base.StaysIn h ∧ base.get? e = none ∧ h.FunFrames base l ∧ h.TracedAtW base e cls a0 fl
theorem frames_but {h h' base : Heap} {Lc : Addr} (sb : ∀ b, b ≠ Lc → h'.get? b = h.get? b) : ∀ {l : List Env}, Lc ∉ l.filterMap (·.frame) → h.FunFrames base l → h'.FunFrames base l
  | [], _, _ => trivial
  | env :: r, hn, ⟨hk, ⟨L, o, hf, hb, ho, hd⟩, hr⟩ => by
    rw [List.filterMap_cons, hf] at hn
    have h1 : L ≠ Lc := fun z => hn (z ▸ List.mem_cons_self)
    exact ⟨hk, ⟨L, o, hf, hb, (sb L h1).trans ho, hd⟩, frames_but sb (fun z => hn (List.mem_cons_of_mem _ z)) hr⟩
theorem setFlight_any {base : Heap} {l : List Env} {e : Addr} {cls a0 fl : Value} {f : Option Addr} {Q : Unit → Shared → Prop} (R : HeldA base l e cls a0 fl s.heap)
    (h : ∀ h', HeldA base l e cls a0 (f.elim Value.none fun f => rawInt f) h' → s.heap.UpToSlots h' → Q () { s with heap := h' }) : wpAny M A (setFlight (.ref e) f) Q E s := by
  obtain ⟨hkb, hen, hl, oe, vs, T, oT, ts, he, hcls, hd, h1, hnT, hTe, hT, hdT, h3⟩ := R
  have hsz3 : 3 < ts.size := (Array.getElem?_eq_some_iff.mp h3).1
  have other : ∀ b, b ≠ T → (s.heap.update T (Obj.mapFields (·.setIfInBounds 3 (f.elim Value.none fun f => rawInt f)))).get? b = s.heap.get? b := fun b hb => Heap.get?_update_other _ _ (Ne.symm hb)
  have noRecord : ∀ b o, s.heap.get? b = some o → (∀ vs, o.data ≠ .fields vs) → b ≠ T := fun b o hb hnf q => by
    rw [q, hT] at hb
    injection hb with hb
    subst hb
    exact hnf ts hdT
  unfold setFlight
  refine wpAny_bind (wpAny_field he hd h1 ?_)
  rw [if_pos (show (Value.ref T != Value.none) = true from by simp)]
  refine wpAny_setField hT hdT hsz3 (h _ ⟨fun b o hbo => (other b fun q => by rw [q, hnT] at hbo; cases hbo).trans (hkb b o hbo), hen,
    hl.of_keeps fun b o hb hnf => ⟨o, (other b (noRecord b o hb hnf)).trans hb, rfl⟩, ?_⟩ fun b o hb hnf => ⟨o.slots, (other b (noRecord b o hb hnf)).trans hb⟩)
  exact ⟨oe, vs, T, _, _, (other e (Ne.symm hTe)).trans he, hcls, hd, h1, hnT, hTe, Heap.get?_update_self _ hT (Obj.isFreed_of_fields (Obj.data_mapFields hdT _)), Obj.data_mapFields hdT _, by simp [hsz3]⟩
theorem leaves_any {base : Heap} {env : Env} {outer : List Env} {L e : Addr} {cls a0 fl : Value} {Q : Unit → Shared → Prop} (hfr : A.frames = some (env :: outer)) (hf : env.frame = some L) (hh : HeldA base (env :: outer) e cls a0 fl s.heap)
    (hQ : ∀ h', Heap.FlyingW base outer e cls a0 h' → s.heap.UpToSlots h' → Q () { s with heap := h' }) : wpAny M A (leaving env (.ref e)) Q E s := by
  by_cases hfl : (fl == rawInt L) = true
  · have e1 : fl = rawInt L := by simpa using hfl
    subst e1
    unfold leaving
    refine wpAny_bind (wpAny_noteFrame_againW hf hh.2.2.2 ?_)
    refine wpAny_landsW (show Heap.HeldW base (env :: outer) e cls a0 L s.heap from hh) fun h' hfl up => ?_
    obtain ⟨k1, k2, ⟨_, _, k3⟩, k4⟩ := hfl
    exact hQ h' ⟨k1, k2, k3, k4⟩ up
  · obtain ⟨hkb, hen, hl, oe, vs, T, oT, ts, he, ⟨hcls, h0⟩, hd, h1, hnT, hTe, hT, hdT, h3⟩ := hh
    subst hcls
    unfold leaving noteFrame
    simp only [hf]
    refine wpAny_bind (wpAny_bind (wpAny_field he hd h1 ?_))
    rw [if_pos (show (Value.ref T != Value.none) = true from by simp)]
    refine wpAny_bind (wpAny_field hT hdT h3 ?_)
    rw [if_neg hfl]
    refine wpAny_bind (wpAny_setField hT hdT (Array.getElem?_eq_some_iff.mp h3).1 ?_)
    have other : ∀ b, b ≠ T → (s.heap.update T (Obj.mapFields (·.setIfInBounds 3 Value.none))).get? b = s.heap.get? b := fun b hb => Heap.get?_update_other _ _ (Ne.symm hb)
    have noRecord : ∀ b o, s.heap.get? b = some o → (∀ vs, o.data ≠ .fields vs) → b ≠ T := fun b o hb hnf q => by
      rw [q, hT] at hb
      injection hb with hb
      subst hb
      exact hnf ts hdT
    refine wpAny_newEntryW hfr (hl.of_keeps fun b o hb hnf => ⟨o, (other b (noRecord b o hb hnf)).trans hb, rfl⟩) hf ((other e (Ne.symm hTe)).trans he)
      (fun b o hbo => (other b fun q => by rw [q, hnT] at hbo; cases hbo).trans (hkb b o hbo)) hen hd (Array.getElem?_eq_some_iff.mp h1).1 h0
      fun h' ⟨x1, ⟨_, _, x2⟩, x3, x4⟩ => hQ h' ⟨x1, hen, x2, x3⟩ fun b o hb hnf => x4 b o ((other b (noRecord b o hb hnf)).trans hb) hnf
end
section
variable {X : Cx} {pins : List (Addr × Obj)} {σ : St} {H H' : Hp} {s : Shared}
/-- as fly_on, with one new object that was changed on the way -/
theorem fly_onG {h2 h3 : Heap} {B : Heap} {a C Lc : Addr} {a0 : Value} (I : Inv X pins σ H s) (hex : X.ex = []) (hst : X.stack = X.env :: X.outer) (hLc : X.s₀.heap.get? Lc = none) (u2 : Un (frs X.stack) [] H H' s.heap h2) (hok : HOk X.prog X.w H' h2)
    (trk : ∀ b u, H' b = some u → ∃ o, B.get? b = some o) (cov : ∀ b o, s.heap.get? b = some o → b ∉ frs X.stack → b ≠ Lc → ∃ o', B.get? b = some o' ∧ (H b = none → o' = o)) (hB : B.StaysIn h2)
    (fl : Heap.FlyingW B X.outer a (.ref C) a0 h3) (up : ∀ b o, b ≠ Lc → h2.get? b = some o → (∀ vs, o.data ≠ .fields vs) → ∃ sl, h3.get? b = some { o with slots := sl }) : Fly X.prog X.w X.outer X.H₀ X.s₀.heap H' h3 a C := by
  have hx : ∀ b : Addr, b ∉ X.ex := fun b z => by rw [hex] at z; cases z
  have new : ∀ b o, X.s₀.heap.get? b = some o → b ≠ X.env.locals := fun b o e => Nat.ne_of_lt (Nat.lt_of_lt_of_le (Heap.lt_size e) I.ok.above)
  have nLc : ∀ b o, X.s₀.heap.get? b = some o → b ≠ Lc := fun b o e z => by rw [z, hLc] at e; cases e
  have nst : ∀ b o, X.s₀.heap.get? b = some o → b ∉ X.fs → b ∉ frs X.stack := fun b o e hb z => by
    rcases List.mem_cons.mp (I.stkSub b z) with q | q
    · exact new b o e q
    · exact hb q
  have sub : ∀ b, b ∈ X.fs → b ∈ frs X.stack := fun b hb => by
    rw [hst]
    unfold frs
    rw [List.filterMap_cons]
    split
    · exact hb
    · exact List.mem_cons_of_mem _ hb
  have n0 : ∀ b : Addr, b ∉ ([] : List Addr) := fun b => by simp
  refine ⟨⟨B, a0, fl, trk, fun b o e hb => ?_⟩, ⟨fun b o e n hb _ => ?_, fun b o e n hb _ => ?_, fun b o e n _ => ?_, fun b o e _ => ?_, fun b xs e => u2.tups b xs (I.base.tups b xs e), fun b o u e => u2.frzs b o u (I.base.frzs b o u e), fun b ps e => ?_⟩, fun b u e => ?_⟩
  · obtain ⟨o1, e1⟩ := I.base.there b o e (hx b)
    obtain ⟨o', eB, q⟩ := cov b o1 e1 (nst b o e hb) (nLc b o e)
    refine ⟨o', eB, fun n => ?_⟩
    have e2 := I.base.keep b o e n hb (hx b)
    rw [e1] at e2
    cases e2
    exact q (I.base.free b o e n (hx b))
  · have e1 := I.base.keep b o e n hb (hx b)
    obtain ⟨o', eB, q⟩ := cov b o e1 (nst b o e hb) (nLc b o e)
    rw [← q (I.base.free b o e n (hx b))]
    exact fl.1 b o' eB
  · obtain ⟨sl, e1⟩ := I.base.slot b o e n hb (hx b)
    obtain ⟨sl2, e2⟩ := u2.slot b _ e1 (I.base.free b o e n (hx b)) (sub b hb) (n0 b)
    obtain ⟨_, o0, ho0, hd⟩ := I.ok.funs.mem hb
    rw [e] at ho0
    cases ho0
    obtain ⟨sl3, e3⟩ := up b _ (nLc b _ e) e2 hd
    exact ⟨sl3, e3⟩
  · obtain ⟨o1, e1⟩ := I.base.there b o e (hx b)
    exact u2.free b o1 e1 (I.base.free b o e n (hx b)) (n0 b)
  · obtain ⟨o1, e1⟩ := I.base.there b o e (hx b)
    by_cases hb : b ∈ frs X.stack
    · obtain ⟨_, o0, ho0, hd⟩ := I.stack.mem hb
      rw [e1] at ho0
      cases ho0
      obtain ⟨sl2, e2⟩ := u2.slot b _ e1 (I.stkFree b hb) hb (n0 b)
      obtain ⟨sl3, e3⟩ := up b _ (nLc b _ e) e2 hd
      exact ⟨_, e3⟩
    · obtain ⟨o', eB, _⟩ := cov b o1 e1 hb (nLc b _ e)
      exact ⟨o', fl.1 b o' eB⟩
  · obtain ⟨m1, e1⟩ := I.base.tbls b ps e
    obtain ⟨m2, e2⟩ := u2.tbls b _ e1
    exact ⟨m1 ++ m2, by rw [e2, Array.append_assoc]⟩
  · refine (hok b u e).stay (fun c v hc q => ?_) (fun _ q => q) fun _ _ q => q
    have tc : ∃ o, B.get? c = some o := by
      rcases hc with z | z
      · rw [z]
        exact trk b u e
      · exact trk c _ z
    obtain ⟨o, eo⟩ := tc
    have q' := hB c o eo
    rw [q] at q'
    cases q'
    exact fl.1 c v eo
end
/-- the wish of a block whose element may raise -/
def xeC (X : Cx) (scope : Scope) (cl : List (Str × Addr)) (L : Addr) (N : List Str) (ex : List Addr) (s : Shared) (H : Hp) (E : XK) : Value → Shared → Prop :=
  fun e s' => ∃ pins, XP (cxComp X scope cl L N ex s H) pins (fun _ C H' => E (.ref C) none H') e s'
def cxCompE (X : Cx) (scope : Scope) (cl : List (Str × Addr)) (L : Addr) (N : List Str) (ex : List Addr) (s : Shared) (H : Hp) (E : XK) : Cx := (cxComp X scope cl L N ex s H).wish (xeC X scope cl L N ex s H E)
/-- a callee's exception comes out of the element -/
theorem passC {X : Cx} {scope : Scope} {cl : List (Str × Addr)} {L : Addr} {N : List Str} {ex : List Addr} {s : Shared} {H : Hp} {E : XK} : Passes (CXE X.prog X.w) (cxCompE X scope cl L N ex s H E) E := by
  intro pins σ H1 s1 e s' I h
  obtain ⟨a, C, H', rfl, os, bare, F, q⟩ := h
  exact ⟨pins, σ, a, C, H', H1, s1, rfl, I.unwish, os, bare, F, q⟩
theorem note_same (e : Value) (scope : Scope) (cl : List (Str × Addr)) (L : Addr) (env : Env) : noteFrame e (cEnv scope cl L env) = noteFrame e env := rfl
section
variable {P : Program} {w : World} {K : PySem.W.Frag} {mg : Str → Option Value} {base : Heap} {N : List Str} {qual : Str} {scope : Scope} {f : Addr} {cd : Value} {A : Around} {outer : List Env} {s : Shared} {H : Hp} {E : XK}
/-- .. and leaves the comprehension, and the def -/
theorem comp_err {sc : Scope} {cl : List (Str × Addr)} {L : Addr} {CN : List Str} {fp : List Addr} {pins : List (Addr × Obj)} {σ : St} {H2 : Hp} {s2 s' : Shared} {e acc : Value} {use : Option (Value → Sem Unit)} {Q : Value → Shared → Prop}
    (I2 : Inv (cxOf (CXE P w) P w K mg base N qual scope f cd A outer s H E) pins σ H2 s2) (f2 : ∀ b ∈ fp, FpOk (cxOf (CXE P w) P w K mg base N qual scope f cd A outer s H E) pins H2 b) (hL : s2.heap.objs.size ≤ L)
    (h : xeC (cxOf (CXE P w) P w K mg base N qual scope f cd A outer s H E) sc cl L CN fp s2 H2 E e s') :
    notedBy (model P w) (A.deeper (envOfC qual scope s.heap.objs.size f cd)) (cEnv sc cl L (envOfC qual scope s.heap.objs.size f cd)) (fun e s' => compPost (model P w) (A.deeper (envOfC qual scope s.heap.objs.size f cd)) (cxOf (CXE P w) P w K mg base N qual scope f cd A outer s H E).xe use Q acc L (.error e) s') e s' := by
  obtain ⟨pins', σ', a, C, H', H1, s1, rfl, J, os, bare, ⟨⟨B, a0, fl, trk, cov⟩, un, hok⟩, q⟩ := h
  have I1 := comp_back I2 f2 J
  have n0 : ∀ b : Addr, b ∉ ([] : List Addr) := fun b => by simp
  have hfrL : L ∉ frs (envOfC qual scope s.heap.objs.size f cd :: outer) := fun z => by
    obtain ⟨_, o, ho, _⟩ := I2.stack.mem z
    exact absurd (Heap.lt_size ho) (Nat.not_lt.mpr hL)
  obtain ⟨m, ⟨oL, es, ep, eL, dL, kL, fL⟩, _⟩ := J.loc
  have eL' : s1.heap.get? L = some oL := eL
  obtain ⟨oB, eB, qB⟩ := cov L oL eL' hfrL
  have hoB : oB = oL := qB J.free
  subst hoB
  -- what stays, but for the block's names
  have hHL : H' L = none := un.free L oB eL' J.free (n0 L)
  have fl2 : Heap.FlyingW (PySem.W.hideAll B [L]) (envOfC qual scope s.heap.objs.size f cd :: outer) a (.ref C) a0 s'.heap := PySem.W.flyingW_base (fun b o q => PySem.W.of_hideAll _ q) fl
  have hid : (PySem.W.hideAll B [L]).get? L = none := PySem.W.hideAll_none _ List.mem_cons_self
  show wpAny _ _ (noteFrame (.ref a) (envOfC qual scope s.heap.objs.size f cd)) _ _ s'
  refine wpAny_looks_onW (outer := outer) I2.ok.frames rfl fl2 fun h4 held4 up4 => ?_
  have eL4 : ∃ sl, h4.get? L = some { oB with slots := sl } := up4 L oB (fl.1 L oB eB) fun vs z => by rw [dL] at z; cases z
  obtain ⟨sl4, eL4⟩ := eL4
  have fin : ∃ m, h4.Ns L m ∧ ∀ h', Heap.SameBut L h4 h' → ∀ cenv : Env, cenv.locals = L → wpAny (model P w) (A.deeper (envOfC qual scope s.heap.objs.size f cd)) (PySem.passOn "comprehension.variables-let-go" (.ref a) cenv : Sem Value) (fun _ _ => False) (cxOf (CXE P w) P w K mg base N qual scope f cd A outer s H E).xe { s' with heap := h' } := by
    refine ⟨m, ⟨_, es, ep, eL4, dL, kL, fL⟩, fun h' sb cenv _ => ?_⟩
    have held' : HeldA (PySem.W.hideAll B [L]) (envOfC qual scope s.heap.objs.size f cd :: outer) a (.ref C) a0 (rawInt s.heap.objs.size) h' := by
      obtain ⟨k1, k2, k3, oe, vs, T, oT, ts, he, hcls, hd, h1, hnT, hTe, hT, hdT, h3⟩ := held4
      have ne1 : a ≠ L := fun z => by
        rw [z, eL4] at he
        cases he
        rw [show ({ oB with slots := sl4 } : Obj).data = oB.data from rfl, dL] at hd
        cases hd
      have ne2 : T ≠ L := fun z => by
        rw [z, eL4] at hT
        cases hT
        rw [show ({ oB with slots := sl4 } : Obj).data = oB.data from rfl, dL] at hdT
        cases hdT
      refine ⟨fun b o e => (sb.2 b fun z => ?_).trans (k1 b o e), k2, frames_but sb.2 hfrL k3, oe, vs, T, oT, ts, (sb.2 a ne1).trans he, hcls, hd, h1, hnT, hTe, (sb.2 T ne2).trans hT, hdT, h3⟩
      rw [z, hid] at e
      cases e
    obtain ⟨_, _, _, oe, vs, T, oT, ts, he, _, hd, h1, _⟩ := id held'
    have fin2 : ∀ h5, HeldA (PySem.W.hideAll B [L]) (envOfC qual scope s.heap.objs.size f cd :: outer) a (.ref C) a0 (cenv.frame.elim Value.none fun f => rawInt f) h5 → h'.UpToSlots h5 → (cxOf (CXE P w) P w K mg base N qual scope f cd A outer s H E).xe (.ref a) { s' with heap := h5 } := fun h5 held5 up5 => by
      show wpAny _ _ (leaving (envOfC qual scope s.heap.objs.size f cd) (.ref a)) _ _ { s' with heap := h5 }
      refine leaves_any (outer := outer) I2.ok.frames rfl held5 fun h6 fl6 up6 => ?_
      have hLc : s.heap.get? L = none := by
        cases e : s.heap.get? L with
        | none => rfl
        | some o => exact absurd (Heap.lt_size e) (Nat.not_lt.mpr (Nat.le_trans I2.sz hL))
      refine ⟨a, C, H', rfl, (os.trans J.os).trans I2.os, bare, fly_onG (Lc := L) I1 rfl rfl hLc un hok (fun b u eb => ?_) (fun b o eb hb hbL => ?_) fl2.1 fl6 (fun b o hbL eb hd => ?_), q⟩
      · obtain ⟨o, eo⟩ := trk b u eb
        refine ⟨o, PySem.W.hideAll_get _ eo fun z => ?_⟩
        rw [List.mem_singleton.mp z, hHL] at eb
        cases eb
      · obtain ⟨o', e1, e2⟩ := cov b o eb hb
        exact ⟨o', PySem.W.hideAll_get _ e1 (fun z => hbL (List.mem_singleton.mp z)), e2⟩
      · obtain ⟨sl, e1⟩ := up4 b o eb hd
        obtain ⟨sl2, e2⟩ := (up5.trans up6) b _ ((sb.2 b hbL).trans e1) hd
        exact ⟨sl2, e2⟩
    unfold PySem.passOn
    refine wpAny_bind (wpAny_field he hd h1 ?_)
    rw [if_neg (show ¬ ((Value.ref T == Value.none) = true) from by simp)]
    first
      | exact wpAny_bind (wpAny_pure (wpAny_bind (setFlight_any held' fun h5 held5 up5 => wpAny_throw (fin2 h5 held5 up5))))
      | exact wpAny_bind (setFlight_any held' fun h5 held5 up5 => wpAny_throw (fin2 h5 held5 up5))
  cases use with
  | none => exact fin
  | some u => exact fin
end
end L2
namespace L2
open PySem PySem.Spec PyProof.Rows
section
variable {X : Cx} {pins : List (Addr × Obj)} {σ : St} {H : Hp} {s : Shared} {scope : Scope} {tg cap : List Str} {caps : List Nat} {target iter elt : Expr} {ifs : List Expr} {g : TG} {tt : TT} {te : TE} {pos : Pos}
theorem comp_runE {E : XK} {RR : Value → Addr → Result → Shared → Prop} {Q : VK} {J : It} {fp : List Addr} {it : Addr} {tn : Nat → Heap → Prop} (S : CompSc X.env.scope X.N scope tg cap caps) (hc : X.calm = true) (gk : GK g tg.length)
    (hg : ∀ cl L ex s H, PG (cxComp X scope cl L (tg ++ cap) ex s H) target g) (ht : ∀ cl L ex s H, PTs (cxComp X scope cl L (tg ++ cap) ex s H) ifs tt) (he : ∀ cl L ex s H, PE (cxCompE X scope cl L (tg ++ cap) ex s H E) elt te)
    (I : Inv X pins σ H s) (T : Turn X.prog X.w X.K target J fp it tn) (st : tn 0 s.heap) (hfp : ∀ b ∈ fp, FpOk X pins H b)
    (h : ∀ l, H l = none → ∃ W : Nat → Nat → List V → Hp → Prop, (∃ m, W 0 m [] (upd H l (.lst []))) ∧
      ∀ i m vs H, W i m vs H → H l = some (.lst vs) ∧ ((J.stop i H ∧ Q (.ref l) H) ∨ (J.go i H ∧ vs.length < sizeLine ∧ ∃ N : List V → Hp → Prop, (∀ vs' H', N vs' H' → ∃ m', m' < m ∧ W (i + 1) m' vs' H') ∧ ∀ x H', J.yld i H x H' →
        g x (compSt σ tg.length caps) H' fun σ2 H2 => tt σ2 H2 fun b H3 => if b = true then te σ2 H3 fun v H4 => H4 l = some (.lst vs) ∧ N (vs ++ [v]) (upd H4 l (.lst (vs ++ [v]))) else N vs H3)))
    (hRR : ∀ cl L σ' H' s', s.heap.objs.size ≤ L → Inv (cxComp X scope cl L (tg ++ cap) fp s H) [] σ' H' s' → Q (.ref s.heap.objs.size) H' → RR (.ref s.heap.objs.size) L (.ok .next) s')
    (hErr : ∀ cl L e s', s.heap.objs.size ≤ L → xeC X scope cl L (tg ++ cap) fp s H E e s' → notedBy (model X.prog X.w) X.A (cEnv scope cl L X.env) (fun e s' => RR (.ref s.heap.objs.size) L (.error e) s') e s') :
    wpAny (model X.prog X.w) X.A (newList []) (fun acc s₃ => wpAny (model X.prog X.w) X.A (newFunctionEnv scope X.env.globals (closL X.env scope.names []) [] X.env.qual none .none (some X.env)) (fun cenv s₄ =>
      codeAny (model X.prog X.w) X.A (.compStart (.ListComp elt [⟨target, iter, ifs, 0⟩] scope pos) 0 (.ref it) acc { cenv with scope := relabel scope X.env }) (RR acc cenv.locals) s₄) X.xe s₃) X.xe s := by
  refine wpAny_newObj_type (comp_env ?_)
  have hlt : ∀ b ∈ fp, b < s.heap.objs.size := fun b hb => let ⟨o, e, _⟩ := T.obj _ _ st b hb; Heap.lt_size e
  have I0 := comp_start S I hfp hlt s.toks
  have hD : H s.heap.objs.size = none := I.hok.fresh (Nat.le_refl _)
  obtain ⟨W, ⟨m0, w0⟩, turn⟩ := h _ hD
  have kp : ∀ b o, s.heap.get? b = some o → (pushCells ((s.heap.push { cls := .type "list", data := .seq ([] : List Value).toArray }).push { cls := .type "dict", data := .dict #[] }) scope.names).get? b = some o :=
    fun b o e => pushCells_keeps _ _ b o (Heap.get?_push_of_some _ (Heap.get?_push_of_some _ e))
  have st0 := T.keep _ _ _ st fun b _ o e => kp b o e
  have fr0 : ∀ b ∈ fp, upd H s.heap.objs.size (.lst []) b = none := fun b hb => by
    rw [upd_ne (Nat.ne_of_lt (hlt b hb))]
    exact (hfp b hb).1
  -- the iterator's objects are the block's
  have stat : ∀ {H' : Hp}, (∀ b ∈ fp, H' b = none) → ∀ b ∈ fp, FpOk (cxComp X scope (closL X.env scope.names []) (s.heap.objs.size + 1) (tg ++ cap) fp s H) [] H' b := fun hn b hb =>
    ⟨hn b hb, (I0.ok.exf b hb).1, I0.ok.exfs b hb, .inl hb, (I0.ok.exf b hb).2, fun p hp => absurd (show p ∈ ([] : List (Addr × Obj)) from hp) (by simp)⟩
  have loop : ∀ s1 : Shared, s1 = { s with heap := pushCells ((s.heap.push { cls := .type "list", data := .seq ([] : List Value).toArray }).push { cls := .type "dict", data := .dict #[] }) scope.names } →
      codeAny (model X.prog X.w) X.A (.compLoop (.ListComp elt [⟨target, iter, ifs, 0⟩] scope pos) 0 (.ref it) (.ref s.heap.objs.size) (cEnv scope (closL X.env scope.names []) (s.heap.objs.size + 1) X.env)) (RR (.ref s.heap.objs.size) (s.heap.objs.size + 1)) s1 := by
    rintro s1 rfl
    refine comp_loop (fun n s' => ∃ i vs H', Inv (cxComp X scope (closL X.env scope.names []) (s.heap.objs.size + 1) (tg ++ cap) fp s H) [] (compSt σ tg.length caps) H' s' ∧ tn i s'.heap ∧ (∀ b ∈ fp, H' b = none) ∧ W i n vs H') ?_ m0 ⟨0, [], _, I0, st0, fr0, w0⟩
    rintro n s3 ⟨i, vs, H3, I3, st3, fr3, w3⟩
    obtain ⟨hl, turn3⟩ := turn i n vs H3 w3
    rcases turn3 with ⟨stop, q⟩ | ⟨go, hz, N, hN, step⟩
    · refine wpAny_mono (T.done (cxComp X scope (closL X.env scope.names []) (s.heap.objs.size + 1) (tg ++ cap) fp s H) rfl rfl rfl hc i [] s3 _ H3 (fun _ _ => False) I3 (stat fr3) st3 stop) (fun r s4 ⟨hr, I4⟩ => ?_) fun _ _ f => f.elim
      subst hr
      exact hRR _ _ _ _ _ (Nat.le_succ _) I4 q
    · refine wpAny_mono (T.item (cxComp X scope (closL X.env scope.names []) (s.heap.objs.size + 1) (tg ++ cap) fp s H) rfl rfl rfl hc i [] s3 _ H3 (fun _ _ => False) I3 (stat fr3) st3 go) (fun r s4 ⟨u, hr, h4⟩ => ?_) fun _ _ f => f.elim
      subst hr
      refine wpAny_mono h4 (fun _ s5 ⟨x, H5, I5, r5, y5, st5, fr5⟩ => ?_) fun _ _ f => f.elim
      have I5' := I5.pinned (stat fr5) (T.obj _ _ st5)
      refine wpAny_mono (hg _ _ _ _ _ _ s5 _ H5 x u _ I5' r5 (gk _ _ _ _ (step x H5 y5))) (fun _ s6 ⟨σ6, H6, I6, q6, len6, keep6⟩ => ?_) fun _ _ f => f.elim
      refine wpAny_mono (ht _ _ _ _ _ _ s6 σ6 H6 _ I6 q6) (fun ok s7 ⟨H7, I7, q7⟩ => ?_) fun _ _ f => f.elim
      have again : ∀ {σ8 : St} {H8 : Hp} {s8 : Shared} {vs' : List V} {m' : Nat}, Inv (cxComp X scope (closL X.env scope.names []) (s.heap.objs.size + 1) (tg ++ cap) fp s H) ([] ++ pinsAt fp s5.heap) σ8 H8 s8 → σ8 = σ6 → m' < n → W (i + 1) m' vs' H8 →
          ∃ m, m < n ∧ ∃ i vs H', Inv (cxComp X scope (closL X.env scope.names []) (s.heap.objs.size + 1) (tg ++ cap) fp s H) [] (compSt σ tg.length caps) H' s8 ∧ tn i s8.heap ∧ (∀ b ∈ fp, H' b = none) ∧ W i m vs H' := fun {σ8 H8 s8 vs' m'} I8 e8 hm w8 => by
        refine ⟨m', hm, i + 1, vs', H8, ?_, T.keep _ _ _ st5 fun b hb o e => (I8.pin (b, o) (List.mem_append_right _ (List.mem_append_right _ (mem_pinsAt hb e)))).1, fun b hb => ?_, w8⟩
        · subst e8
          refine I8.unpinned.weak len6.symm fun j v e => ?_
          by_cases hj : tg.length ≤ j
          · rw [keep6 j hj]
            exact e
          · unfold compSt at e
            rw [List.getElem?_append_left (by rw [List.length_replicate]; omega), List.getElem?_replicate] at e
            split at e <;> cases e
        · obtain ⟨o, e, d⟩ := T.obj _ _ st5 b hb
          exact (I8.pin (b, o) (List.mem_append_right _ (List.mem_append_right _ (mem_pinsAt hb e)))).2.1
      cases ok with
      | false =>
        rw [if_neg Bool.false_ne_true] at q7 ⊢
        obtain ⟨m', hm, w8⟩ := hN _ _ q7
        exact again I7 rfl hm w8
      | true =>
        rw [if_pos rfl] at q7 ⊢
        refine wpAny_mono (he _ _ _ _ _ _ s7 σ6 H7 _ (I7.wish _) q7) (fun y s8 ⟨v, H8, I8w, r8, hl8, n8⟩ => ?_) fun e s8 z => hErr _ _ e s8 (Nat.le_succ _) z
        have I8 := I8w.unwish
        refine wpAny_mono (mt_append (X := cxComp X scope (closL X.env scope.names []) (s.heap.objs.size + 1) (tg ++ cap) fp s H) _ s8 σ6 H8 (.ref s.heap.objs.size) [v] (.ref s.heap.objs.size) [y]
          (fun _ H9 => H9 = upd H8 s.heap.objs.size (.lst (vs ++ [v]))) I8 rfl (.cons r8 .nil) ⟨_, vs, v, rfl, rfl, hl8, hz, rfl⟩) (fun _ s9 ⟨z, H9, I9, _, e9⟩ => ?_) fun _ _ f => f.elim
        subst e9
        obtain ⟨m', hm, w8⟩ := hN _ _ n8
        exact again I9 rfl hm w8
  have hsz : (s.heap.push { cls := .type "list", data := .seq ([] : List Value).toArray }).objs.size = s.heap.objs.size + 1 := Heap.size_push ..
  dsimp only [newEnv]
  rw [hsz]
  exact codeAny_compStart_list (loop _ rfl) (T.self _ 0 _ _ _ st0 (loop _ rfl))

end
section
variable {P : Program} {w : World} {K : PySem.W.Frag} {mg : Str → Option Value} {base : Heap} {N : List Str} {qual : Str} {fscope : Scope} {f : Addr} {cd : Value} {A : Around} {outer : List Env} {fs : Shared} {fH : Hp} {E : XK}
variable {scope : Scope} {tg cap : List Str} {caps : List Nat} {target iter elt : Expr} {ifs : List Expr} {g : TG} {tt : TT} {te : TE} {pos : Pos}
/-- what a comprehension leaves, as a value -/
theorem pe_compE {wi : TI} (S : CompSc (cxOf (CXE P w) P w K mg base N qual fscope f cd A outer fs fH E).env.scope (cxOf (CXE P w) P w K mg base N qual fscope f cd A outer fs fH E).N scope tg cap caps) (hc : (cxOf (CXE P w) P w K mg base N qual fscope f cd A outer fs fH E).calm = true) (gk : GK g tg.length) (hi : PI (cxOf (CXE P w) P w K mg base N qual fscope f cd A outer fs fH E) target iter wi)
    (hg : ∀ cl L ex s H, PG (cxComp (cxOf (CXE P w) P w K mg base N qual fscope f cd A outer fs fH E) scope cl L (tg ++ cap) ex s H) target g) (ht : ∀ cl L ex s H, PTs (cxComp (cxOf (CXE P w) P w K mg base N qual fscope f cd A outer fs fH E) scope cl L (tg ++ cap) ex s H) ifs tt) (he : ∀ cl L ex s H, PE (cxCompE (cxOf (CXE P w) P w K mg base N qual fscope f cd A outer fs fH E) scope cl L (tg ++ cap) ex s H E) elt te)
    (hs : ∀ x, foldedSetIterable iter (cxOf (CXE P w) P w K mg base N qual fscope f cd A outer fs fH E).env x = pure x := by intro _; rfl) : PE (cxOf (CXE P w) P w K mg base N qual fscope f cd A outer fs fH E) (.ListComp elt [⟨target, iter, ifs, 0⟩] scope pos) (tComp wi g tt te tg.length caps) := by
  intro pins s σ H Q I h
  rw [eval_ListComp]
  have hasc : ∀ y ∈ scope.names, y.2 = .free → ∃ c, (cxOf (CXE P w) P w K mg base N qual fscope f cd A outer fs fH E).env.cells.lookup y.1 = some c := fun y hy h => I.ok.has y.1 (S.fre y hy h)
  refine wpAny_comprehension_free (use := none) rfl hs (closure_for hasc) S.kind S.loc (thn (hi pins s σ H _ I h) fun v s1 h1 => thn h1 fun itv s2 h2 => ?_)
  obtain ⟨it, fp, tn, J, H2, e, I2, T, st2, f2, h2⟩ := h2
  subst e
  refine comp_runE (E := E) (RR := fun acc C => compPost (model (cxOf (CXE P w) P w K mg base N qual fscope f cd A outer fs fH E).prog (cxOf (CXE P w) P w K mg base N qual fscope f cd A outer fs fH E).w) (cxOf (CXE P w) P w K mg base N qual fscope f cd A outer fs fH E).A (cxOf (CXE P w) P w K mg base N qual fscope f cd A outer fs fH E).xe none (EP (cxOf (CXE P w) P w K mg base N qual fscope f cd A outer fs fH E) pins σ Q) acc C) S hc gk hg ht he I2 T st2 f2 h2 ?_ (fun cl L e s' hL z => comp_err I2 f2 hL z)
  intro cl L σ' H' s' hL J' q
  obtain ⟨m, hn, _⟩ := J'.loc
  have I' := comp_back I2 f2 J'
  refine ⟨m, hn, fun h' hs' => ⟨.ref s2.heap.objs.size, H', comp_gone I' J'.free (Nat.le_trans I2.sz hL) (Nat.ne_of_gt (Nat.lt_of_lt_of_le I2.lt hL)) (fun x c e z => ?_) (fun p hp z => ?_) hs', rfl, q⟩⟩
  · obtain ⟨v, w'⟩ := I2.cell x c e
    exact ad_ne4 w'.lt hL z
  · exact ad_ne4 (Heap.lt_size (I2.pin p hp).1) hL z

/-- name = [..], the store within the comprehension's end -/
theorem ps_setCompE {wi : TI} {i : Nat} {y : Str} {py spos : Pos} (hN : (cxOf (CXE P w) P w K mg base N qual fscope f cd A outer fs fH E).N.Nodup) (hi' : (cxOf (CXE P w) P w K mg base N qual fscope f cd A outer fs fH E).N[i]? = some y) (hx : Loc (cxOf (CXE P w) P w K mg base N qual fscope f cd A outer fs fH E).env.scope y) (S : CompSc (cxOf (CXE P w) P w K mg base N qual fscope f cd A outer fs fH E).env.scope (cxOf (CXE P w) P w K mg base N qual fscope f cd A outer fs fH E).N scope tg cap caps) (hc : (cxOf (CXE P w) P w K mg base N qual fscope f cd A outer fs fH E).calm = true) (gk : GK g tg.length) (hi : PI (cxOf (CXE P w) P w K mg base N qual fscope f cd A outer fs fH E) target iter wi)
    (hg : ∀ cl L ex s H, PG (cxComp (cxOf (CXE P w) P w K mg base N qual fscope f cd A outer fs fH E) scope cl L (tg ++ cap) ex s H) target g) (ht : ∀ cl L ex s H, PTs (cxComp (cxOf (CXE P w) P w K mg base N qual fscope f cd A outer fs fH E) scope cl L (tg ++ cap) ex s H) ifs tt) (he : ∀ cl L ex s H, PE (cxCompE (cxOf (CXE P w) P w K mg base N qual fscope f cd A outer fs fH E) scope cl L (tg ++ cap) ex s H E) elt te)
    (hsw : swapsWith (.ListComp elt [⟨target, iter, ifs, 0⟩] scope pos) (some (.Name y py)) spos.line (cxOf (CXE P w) P w K mg base N qual fscope f cd A outer fs fH E).env = pure true := by rfl)
    (hf : (cxOf (CXE P w) P w K mg base N qual fscope f cd A outer fs fH E).fn y = true ∨ (cxOf (CXE P w) P w K mg base N qual fscope f cd A outer fs fH E).env.scope.names.lookup y = some .local := by first | exact .inl rfl | exact .inr rfl | assumption)
    (hs : ∀ x, foldedSetIterable iter (cxOf (CXE P w) P w K mg base N qual fscope f cd A outer fs fH E).env x = pure x := by intro _; rfl) : PS (cxOf (CXE P w) P w K mg base N qual fscope f cd A outer fs fH E) (.Assign [.Name y py] (.ListComp elt [⟨target, iter, ifs, 0⟩] scope pos) spos) (tAsg (tComp wi g tt te tg.length caps) (gName i)) := by
  intro pins s σ H D I h
  rw [exec_Assign_Name_used _ _ _ _ hsw]
  refine wpAny_bind (wpAny_standAt (wpAny_bind ?_))
  show wpAny _ (cxOf (CXE P w) P w K mg base N qual fscope f cd A outer fs fH E).A (do let _ ← comprehension (.ListComp elt [⟨target, iter, ifs, 0⟩] scope pos) scope (cxOf (CXE P w) P w K mg base N qual fscope f cd A outer fs fH E).env _ (newList []) false (eval iter (cxOf (CXE P w) P w K mg base N qual fscope f cd A outer fs fH E).env) (some (assign (.Name y py) (cxOf (CXE P w) P w K mg base N qual fscope f cd A outer fs fH E).env))) _ _ s
  have hasc : ∀ y ∈ scope.names, y.2 = .free → ∃ c, (cxOf (CXE P w) P w K mg base N qual fscope f cd A outer fs fH E).env.cells.lookup y.1 = some c := fun y hy h => I.ok.has y.1 (S.fre y hy h)
  refine wpAny_bind (wpAny_mono (wpAny_comprehension_free (use := some (assign (.Name y py) (cxOf (CXE P w) P w K mg base N qual fscope f cd A outer fs fH E).env)) (Q := fun _ s' => SP (cxOf (CXE P w) P w K mg base N qual fscope f cd A outer fs fH E) pins D .next s') rfl hs (closure_for hasc) S.kind S.loc (thn (hi pins s σ H _ I h) fun v s1 h1 => thn h1 fun itv s2 h2 => ?_))
    (fun _ s' hq => wpAny_pure (wpAny_pure hq)) fun _ _ e => e)
  obtain ⟨it, fp, tn, J, H2, e, I2, T, st2, f2, h2⟩ := h2
  subst e
  refine comp_runE (E := E) (Q := fun x H1 => gName i x σ H1 D.nx) (RR := fun acc C => compPost (model (cxOf (CXE P w) P w K mg base N qual fscope f cd A outer fs fH E).prog (cxOf (CXE P w) P w K mg base N qual fscope f cd A outer fs fH E).w) (cxOf (CXE P w) P w K mg base N qual fscope f cd A outer fs fH E).A (cxOf (CXE P w) P w K mg base N qual fscope f cd A outer fs fH E).xe (some (assign (.Name y py) (cxOf (CXE P w) P w K mg base N qual fscope f cd A outer fs fH E).env)) (fun _ s' => SP (cxOf (CXE P w) P w K mg base N qual fscope f cd A outer fs fH E) pins D .next s') acc C) S hc gk hg ht he I2 T st2 f2 h2 ?_ (fun cl L e s' hL z => comp_err I2 f2 hL z)
  intro cl L σ' H' s' hL J' q
  obtain ⟨m, hn, _⟩ := J'.loc
  have I' := comp_back I2 f2 J'
  show wpAny _ (cxOf (CXE P w) P w K mg base N qual fscope f cd A outer fs fH E).A (assign (.Name y py) (cxOf (CXE P w) P w K mg base N qual fscope f cd A outer fs fH E).env (.ref s2.heap.objs.size)) _ _ s'
  refine wpAny_assign_Name (store_ok2 (v := .ref s2.heap.objs.size) I' hN hi' hx rfl (fun s3 I3 ⟨a, sb, ha⟩ => ?_) hf)
  have hLa : L ≠ a := by
    rcases ha with ha | ha
    · rw [ha]
      exact Nat.ne_of_gt (Nat.lt_of_lt_of_le I2.lt hL)
    · obtain ⟨v, w'⟩ := I2.cell y a ha
      exact (ad_ne4 w'.lt hL).symm
  refine ⟨m, hn.sameBut sb hLa, fun h' hs' => ⟨_, H', comp_gone I3 J'.free (Nat.le_trans I2.sz hL) (Nat.ne_of_gt (Nat.lt_of_lt_of_le I2.lt hL)) (fun x c e z => ?_) (fun p hp z => ?_) hs', q⟩⟩
  · obtain ⟨v, w'⟩ := I2.cell x c e
    exact ad_ne4 w'.lt hL z
  · exact ad_ne4 (Heap.lt_size (I2.pin p hp).1) hL z
end
end L2
namespace L2
open PySem PySem.Spec PyProof.Rows
section
variable {K : PySem.W.Frag} {te : TE} {σ0 : St} {Q : VK} {H1 : Hp} {l : Addr} {g : TG}
/-- as comp_dataG; an element comes to its end only where P holds -/
theorem comp_dataP {J : It} {P : Nat → Prop} {n : Nat} {ds : List PyData} (hn : ds.length = n) (hl : H1 l = none) (hz : n ≤ sizeLine)
    (hgo : ∀ i H, i < n → Same H1 H → J.go i H) (hst : ∀ H, Same H1 H → J.stop n H)
    (ht : ∀ i H x H' d (R : VK), ds[i]? = some d → Same H1 H → J.yld i H x H' → (P i → ∀ v H4, Same H H4 → NewD K H H4 v d → R v H4) → g x σ0 H' fun σ2 H2 => te σ2 H2 R)
    (he : ∀ H, Same H1 H → (∀ j, j < n → P j) → NewD K H1 H (.ref l) (.list ds) → Q (.ref l) H) :
    CompRun J g tYes te σ0 Q H1 l := by
  refine ⟨fun i m vs H => m = n - i ∧ i ≤ n ∧ H l = some (.lst vs) ∧ Same H1 H ∧ (∀ j, j < i → P j) ∧ NewDs K (upd H1 l (.lst [])) H vs (ds.take i), ⟨n, by simp, Nat.zero_le _, upd_same, Same.upd hl, fun j hj => absurd hj (Nat.not_lt_zero _), by rw [List.take_zero]; exact .nil⟩, ?_⟩
  rintro i m vs H ⟨rfl, hi, hL, hS, hP, hD⟩
  refine ⟨hL, ?_⟩
  by_cases hlt : i < n
  · have hd : ds[i]? = some ds[i] := List.getElem?_eq_getElem (by omega)
    refine .inr ⟨hgo i H hlt hS, ?_, fun vs' H' => H' l = some (.lst vs') ∧ Same H1 H' ∧ P i ∧ NewDs K (upd H1 l (.lst [])) H' vs' (ds.take (i + 1)), fun vs' H' ⟨a, b, p, c⟩ => ⟨n - (i + 1), by omega, rfl, hlt, a, b, fun j hj => (by rcases Nat.lt_succ_iff_lt_or_eq.mp hj with z | z; exact hP j z; rw [z]; exact p), c⟩, fun x H' y => ?_⟩
    · rw [hD.len, List.length_take]
      omega
    · refine ht i H x H' _ _ hd hS y fun hpi v H4 S4 N4 => ?_
      have hb : Same (upd H1 l (.lst [])) (upd H1 l (.lst [])) := Same.refl _
      have nl : upd H1 l (.lst []) l ≠ none := some_ne upd_same
      have S04 : Same H1 H4 := hS.trans S4
      refine ⟨S4 _ _ hL, upd_same, same_write S04 hl, hpi, ?_⟩
      have wl : ∀ a, H a = none → upd H1 l (.lst []) a = none := fun a e => by
        have ne : a ≠ l := fun z => by rw [z, hL] at e; cases e
        rw [upd_ne ne]
        exact hS.free e
      have e1 : ds.take (i + 1) = ds.take i ++ [ds[i]] := by rw [List.take_succ_eq_append_getElem]
      rw [e1]
      have hl4 : NoTup (H4 l) := by rw [S4 _ _ hL]; exact noTup_lst
      refine NewDs.snoc ((hD.later S4).write nl hl4) ?_
      exact NewD.write nl hl4 (NewD.go (fun a xs z q => ⟨wl a z, q⟩) (fun _ _ q => q) _ N4)
  · have e : i = n := by omega
    subst e
    refine .inl ⟨hst H hS, he H hS hP (.lst hl hL ?_)⟩
    rw [List.take_of_length_le (by omega)] at hD
    exact hD.wider (Same.upd hl)
theorem comp_listP {P : Nat → Prop} {a : Addr} {xs : List V} {ds : List PyData} (hq : SqL K H1 a xs) (hn : ds.length = xs.length) (hl : H1 l = none) (hz : xs.length ≤ sizeLine)
    (ht : ∀ (i : Nat) x H d (R : VK), xs[i]? = some x → ds[i]? = some d → Same H1 H → (P i → ∀ v H4, Same H H4 → NewD K H H4 v d → R v H4) → te (σ0.set 0 (some x)) H R)
    (he : ∀ H, Same H1 H → (∀ j, j < xs.length → P j) → NewD K H1 H (.ref l) (.list ds) → Q (.ref l) H) :
    CompRun (Itl K a) (gName 0) tYes te σ0 Q H1 l :=
  comp_dataP (K := K) (J := Itl K a) (P := P) hn hl hz (fun i H h S => ⟨xs, xs[i], S.seq hq, by simp [h]⟩) (fun _ S => ⟨xs, S.seq hq, Nat.le_refl _⟩) (fun i H x H' d R e S y k => by
    obtain ⟨rfl, y⟩ := y
    exact ht i x _ d R (y xs (S.seq hq)) e S k) he
end
end L2

/-! ### EXTENSION 14: a def called within an except suite -/
namespace L2
open PySem PySem.Spec PyProof.Rows
structure RoomH (k : Nat) (A : Around) : Prop where
  dp : A.depth + 3 * k + 5 < recursionLimit
  un : A.units + 16 * k + 200 < cLine
theorem Room.hand {k : Nat} {X : Cx} (r : Room k X.A) {a : Addr} : RoomH k (X.hand a).A := ⟨r.dp, r.un⟩
theorem RoomH.mono {j k : Nat} {A : Around} (r : RoomH k A) (h : j ≤ k) : RoomH j A := ⟨by have := r.dp; omega, by have := r.un; omega⟩
theorem RoomH.depth {k : Nat} {A : Around} (r : RoomH k A) : A.depth < recursionLimit := by have := r.dp; omega
theorem RoomH.deeper {k : Nat} {A : Around} (r : RoomH (k + 1) A) (env : Env) : RoomH k (A.deeper env) :=
  ⟨by have := r.dp; show A.depth + 1 + 3 * k + 5 < _; omega, by have := r.un; show A.units + 3 + 16 * k + 200 < _; omega⟩
/-- the context of its body -/
def cxH (P : Program) (w : World) (K : PySem.W.Frag) (mg : Str → Option Value) (base : Heap) (N : List Str) (qual : Str) (scope : Scope) (f : Addr) (cd : Value) (A : Around) (outer : List Env) (s : Shared) (H : Hp) (E : XK) : Cx :=
  { cxOf CX0 P w K mg base N qual scope f cd A outer s H E with calm := false, xe := fun _ _ => False }
structure FnOkH (P : Program) (w : World) (K : PySem.W.Frag) (mg : Str → Option Value) (base : Heap) (k : Nat) (f : Addr) (fd : FuncData) (ps : List Str) (sp : Sp) : Prop where
  len : ∀ vs H Q E, sp vs H Q E → vs.length = ps.length
  run : ∀ (A : Around) (outer : List Env) (s : Shared) (H : Hp) (args : Args) (us : List Value) (vs : List V) (Q : VK) (E : XK), RoomH k A → Env0 P w K mg base A outer s H → BindsTo s fd args (ps.zip us) → Vals vs us → sp vs H Q E →
    codeAny (model P w) A (.call (.ref f) args) (CR CX0 outer P w H s Q E) s
theorem inv_startH {P : Program} {w : World} {K : PySem.W.Frag} {mg : Str → Option Value} {base : Heap} {N ps : List Str} {qual : Str} {scope : Scope} {f : Addr} {cd : Value} {A : Around} {outer : List Env} {s s1 : Shared} {H : Hp} {E : XK} {us : List Value} {vs : List V}
    (S : FnScope N ps scope) (e0 : Env0 P w K mg base A outer s H) (hl : vs.length = ps.length) (r : Vals vs us)
    (x : InCallC s s.heap.objs.size (bindL (envOfC qual scope s.heap.objs.size f cd).kindOf (ps.zip us) fun _ => none) (cellsFrom (s.heap.objs.size + 1) scope.names []) (bindC (envOfC qual scope s.heap.objs.size f cd).kindOf (ps.zip us) fun _ => none) s1) :
    Inv (cxH P w K mg base N qual scope f cd A outer s H E) [] (start N vs) H s1 := by
  have hpl : ps.length ≤ N.length := by have := congrArg List.length S.pre; rw [List.length_take] at this; omega
  obtain ⟨h1, tk, rfl, hk⟩ := x.done
  have noA : ∀ b : Addr, b ∉ (cxH P w K mg base N qual scope f cd A outer s H E).ex := fun b z => absurd (show b ∈ ([] : List Addr) from z) (by simp)
  refine ⟨⟨e0.mod, S.kind, rfl, rfl, Nat.le_refl _, fun y z c h1 h2 => ?_, fun y hy => ?_, fun y c _ h => ?_, fun z => absurd (show false = true from z) Bool.false_ne_true, Around.frames_deeper e0.frames, .inr ⟨rfl, rfl⟩, fun b z => absurd z (noA b), e0.bs, e0.bsz, fun b _ _ => noA b, fun b z => absurd z (noA b), e0.funs, e0.frf⟩,
    rfl, e0.bare, Un.kept hk, ⟨_, x.toInCall.ns, fun i y v h1 h2 h3 => ?_⟩, fun y c h => ⟨_, x.cell y c h⟩, e0.hok.fresh (Nat.le_refl _), fun y c h => ?_, fun p hp => absurd (show p ∈ ([] : List (Addr × Obj)) from hp) (by simp), e0.hok.kept hk, ?_⟩
  · exact name_of_addr x.apart (PySem.mem_of_lookup h1) (PySem.mem_of_lookup h2)
  · have hy : scope.names.lookup y = some .cell ∨ scope.names.lookup y = some .free := hy
    rcases hy with hy | hy
    · exact cell_has hy
    · exact absurd rfl (S.nofree _ (PySem.mem_of_lookup hy))
  · exact Nat.le_of_lt (x.above y c (PySem.mem_of_lookup h))
  · have hi : i < vs.length := by
      unfold start at h2
      by_cases hi : i < vs.length
      · exact hi
      · rw [List.getElem?_append_right (by simpa using hi)] at h2
        rw [List.getElem?_replicate] at h2
        split at h2 <;> cases h2
    have ha : vs[i]? = some v := by
      unfold start at h2
      rw [List.getElem?_append_left (by simpa using hi), List.getElem?_map] at h2
      cases e : vs[i]? with
      | none => rw [e] at h2; cases h2
      | some a => rw [e] at h2; cases h2; rfl
    obtain ⟨u, hu, rv⟩ := r.get ha
    have hp : ps[i]? = some y := by
      rw [← S.pre, List.getElem?_take_of_lt (by omega)]; exact h1
    have ndP : ps.Nodup := by rw [← S.pre]; exact S.nd.sublist (List.take_sublist _ _)
    refine ⟨u, rv, ?_⟩
    rcases S.par y (List.mem_of_getElem? hp) with k | k
    · exact .inl ⟨k, bindL_get ndP hp hu k⟩
    · obtain ⟨c, e⟩ := cell_has (n := s.heap.objs.size + 1) k
      refine .inr ⟨.inl k, c, e, ?_⟩
      have q := x.cell y c e
      rw [bindC_get ndP hp hu (by show scope.names.lookup y ≠ _; rw [k]; decide)] at q
      exact q
  · exact e0.hok.fresh (Nat.le_of_lt (x.above y c (PySem.mem_of_lookup h)))
  · unfold start
    show _ = N.length
    rw [List.length_append, List.length_map, List.length_replicate]
    omega

theorem fn_ofH {P : Program} {w : World} {K : PySem.W.Frag} {mg : Str → Option Value} {base : Heap} {k : Nat} {f : Addr} {name qual : Str} {params : Arguments} {body : List Stmt} {scope : Scope} {dV kV doc pm cdv ct oc : Value} {an od : Option Addr}
    {osl : Array (Option Value)} {N ps : List Str} {sp : Sp} (lk : K.lookup f = some ⟨oc, od, .func (PySem.W.fnOf name qual params body scope dV kV doc pm an cdv ct), osl⟩) (hcd : PySem.W.codeIn K cdv qual = true) (S : FnScope N ps scope)
    (len : ∀ vs H Q E, sp vs H Q E → vs.length = ps.length)
    (hbody : ∀ (A : Around) (outer : List Env) (s : Shared) (H : Hp) (vs : List V) (Q : VK) (E : XK), RoomH k (A.deeper (envOfC qual scope s.heap.objs.size f cdv)) → sp vs H Q E →
      ∃ t, PSs (cxH P w K mg base N qual scope f cdv A outer s H E) body t ∧ t { nx := fun _ H' => Q .non H', rt := Q } (start N vs) H) :
    FnOkH P w K mg base (k + 1) f (PySem.W.fnOf name qual params body scope dV kV doc pm an cdv ct) ps sp := by
  refine ⟨len, fun A outer s H args us vs Q E hr e0 hb r hsp => ?_⟩
  have hl := len _ _ _ _ hsp
  have KX : K.In s.heap := e0.mod.kin.keeps fun b o e => (e0.bs b o e).1
  have lim : s.heap.NoLimit := e0.mod.nolimit.keeps fun b o e => (e0.bs b o e).1
  have hkind : ∀ y ∈ ps.zip us, scope.names.lookup y.1 = some .local ∨ (scope.names.lookup y.1 = some .cell ∧ ((cellsFrom (s.heap.objs.size + 1) scope.names []).lookup y.1).isSome = true) := fun ⟨n, v⟩ hy => by
    rcases S.par n (List.of_mem_zip hy).1 with q | q
    · exact .inl q
    · exact .inr ⟨q, PySem.W.cellsFrom_some _ _ _ (.inl q)⟩
  refine codeAny_call_function hr.depth (KX _ _ lk) rfl S.co S.gen rfl (PySem.W.codeRec_of KX hcd) (hb _ _ _ _ ?_)
  refine wpAny_newFunctionEnv_cells S.kind hkind fun env he s1 x => ?_
  subst he
  refine ⟨lim.keeps x.toInCall.keep, codeAny_func ?_⟩
  obtain ⟨t, ht, hq⟩ := hbody A outer s H vs Q E (hr.deeper _) hsp
  have I : Inv (cxH P w K mg base N qual scope f cdv A outer s H E) [] (start N vs) H s1 := inv_startH S e0 hl r x
  refine wpAny_mono (ht [] s1 (start N vs) H _ I hq) (fun fl s' hs => ?_) fun e s' hs => hs.elim
  have fin : ∀ {σ' : St} {H' : Hp} {v : V} {u : Value}, Inv (cxH P w K mg base N qual scope f cdv A outer s H E) [] σ' H' s' → RelV v u → Q v H' → CE outer P w H s Q u s' :=
    fun {σ' H' v u} J rv q => ⟨v, H', J.os, J.bare, J.base, J.hok, rv, q⟩
  cases fl with
  | ret u =>
    obtain ⟨v, σ', H', J, rv, q⟩ := hs
    exact fin J rv q
  | next =>
    obtain ⟨σ', H', J, q⟩ := hs
    exact fin (v := V.non) (u := Value.none) J rfl q
  | brk =>
    obtain ⟨_, _, _, q⟩ := hs
    exact False.elim q
  | cont =>
    obtain ⟨_, _, _, q⟩ := hs
    exact False.elim q

structure OwnH (P : Program) (w : World) (K : PySem.W.Frag) (mg : Str → Option Value) (base : Heap) (x : Str) (ps : List Str) (k : Nat) (sp : Sp) : Prop where
  ex : ∃ f fd, FnOkH P w K mg base k f fd ps sp ∧ Binds K fd ps [] ∧ mg x = some (.ref f) ∧ PySem.W.keepIn K (.ref f) = true
section
variable {P : Program} {w : World} {K : PySem.W.Frag} {mg : Str → Option Value} {base : Heap}
theorem Def.ownH {x qual : Str} {st : Stmt} {ps N : List Str} {k : Nat} {sp : Sp} (D : Def K mg x qual st ps) (S : FnScope N ps (defScope st)) (len : ∀ vs H Q E, sp vs H Q E → vs.length = ps.length)
    (hbody : ∀ (f : Addr) (cdv : Value) (A : Around) (outer : List Env) (s : Shared) (H : Hp) (vs : List V) (Q : VK) (E : XK), RoomH k (A.deeper (envOfC qual (defScope st) s.heap.objs.size f cdv)) → sp vs H Q E →
      ∃ t, PSs (cxH P w K mg base N qual (defScope st) f cdv A outer s H E) (defBody st) t ∧ t { nx := fun _ H' => Q .non H', rt := Q } (start N vs) H) : OwnH P w K mg base x ps (k + 1) sp := by
  obtain ⟨f, fd, F, b, m⟩ := D.ex
  have kp := F.kp
  obtain ⟨oc, od, kV, doc, pm, an, cdv, ct, osl, rfl, lk, hcd⟩ := F.ex
  exact ⟨f, _, fn_ofH lk hcd S len fun A outer s H vs Q E hr hsp => hbody f cdv A outer s H vs Q E hr hsp, b, m, kp⟩
end
section
variable {X : Cx} {k : Nat} {ps : List Str} {sp : Sp} {x : Str} {p pos : Pos} {e : Expr} {es : List Expr} {t : TA}
theorem pe_ownH (F : OwnH X.prog X.w X.K X.mg X.base x ps k sp) (hr : RoomH k X.A) (hg : Gl X x) (ha : PA X (e :: es) t) (hdb : (x == ("__debug__" : Str)) = false := by decide)
    (he : starEach (e :: es) X.env = (false, eval e X.env) :: starEach es X.env := by rfl) (hpl : (backTo pos (starEach es X.env)).any (·.1) = false := by rfl) : PE X (.Call (.Name x p) (e :: es) [] pos) (fun σ H Q => t σ H fun vs H1 => sp vs H1 Q fun _ _ _ => False) := by
  obtain ⟨f, fd, F, b, m, kp⟩ := F.ex
  intro pins s σ H Q I h
  refine wpAny_Call_Name_kw (ld_glob I hg m ?_ hdb)
  refine PySem.W.callWith_K (h₀ := X.base) I.ok.mod.kin kp (wpAny_mono (ha pos pins s σ H _ I h) (fun us s1 ⟨vs, H1, I1, r, q⟩ => ⟨I1.kIn, ?_⟩) fun _ _ z => z) he hpl
  have hl : (us ++ []).length = ps.length := by
    rw [List.append_nil, ← r.length]
    exact F.len _ _ _ _ q
  have hbn := b s1 us I1.kIn hl
  rw [List.append_nil] at hbn
  refine wpAny_call (codeAny_mono (F.run X.A X.stack s1 H1 ⟨us, []⟩ us vs Q _ hr I1.env0 hbn r q) fun r s' hq => ?_)
  cases r with
  | error e => exact False.elim hq
  | ok fl =>
    cases fl with
    | ret u => exact I1.after hq
    | next => exact False.elim hq
    | brk => exact False.elim hq
    | cont => exact False.elim hq
end
end L2

/-! ### EXTENSION 15: list.insert at a place within -/
namespace L2
open PySem PySem.Spec PyProof.Rows
section
variable {X : Cx}
theorem Vals.take' : ∀ {xs : List V} {us : List Value} (k : Nat), Vals xs us → Vals (xs.take k) (us.take k)
  | _, _, 0, _ => by rw [List.take_zero, List.take_zero]; exact .nil
  | _, _, k + 1, .nil => .nil
  | _, _, k + 1, .cons r t => .cons r (Vals.take' k t)
theorem Vals.drop' : ∀ {xs : List V} {us : List Value} (k : Nat), Vals xs us → Vals (xs.drop k) (us.drop k)
  | _, _, 0, h => h
  | _, _, k + 1, .nil => .nil
  | _, _, k + 1, .cons r t => Vals.drop' k t
def rInsert : V → List V → Hp → VK → Prop := fun x vs H Q => ∃ (l : Addr) (xs : List V) (i : Int) (y : V), x = .ref l ∧ vs = [.int i, y] ∧ H l = some (.lst xs) ∧ 0 ≤ i ∧ i ≤ xs.length ∧ xs.length < 1000 ∧ Q .non (upd H l (.lst (xs.take i.toNat ++ y :: xs.drop i.toNat)))
theorem fits_of {i : Int} (h0 : 0 ≤ i) (h1 : i < 1000) : Builtin.List.listFitsIndex i = true := by
  unfold Builtin.List.listFitsIndex
  rw [Bool.and_eq_true, decide_eq_true_eq, decide_eq_true_eq]
  exact ⟨Int.le_trans (by decide) h0, Int.lt_trans h1 (by decide)⟩
theorem mt_insert : MtM X "list.insert" rInsert := by
  intro pins s σ H x vs v us Q I rx rv h
  obtain ⟨l, xs, i, y, rfl, rfl, hH, h0, hk, hz, q⟩ := h
  cases rx
  obtain ⟨u, u', rfl, ⟨t, rfl⟩, ry⟩ := rv.two
  obtain ⟨z, its, n, r, hl, e⟩ := I.lstM hH
  have big : 1000 ≤ sizeLine := by decide
  have hc0 : ¬ (!Builtin.List.listFitsIndex i) = true := by
    rw [fits_of h0 (by omega)]
    exact Bool.false_ne_true
  have hsz : its.toArray.size ≤ sizeLine := by
    rw [List.size_toArray]
    omega
  have hkk : (if i < 0 then (i + (its.toArray.size : Int)).toNat else min i.toNat its.toArray.size) = i.toNat := by
    rw [if_neg (by omega), List.size_toArray]
    omega
  refine call_meets F.slot_list_insert ⟨_, e, rfl⟩ F.entry_list_insert (F.args_list_insert_3 _ _ _) (PySem.AutoSeq1.list_insert_list_int_val_1 l its.toArray n i t u' hc0 hsz) ⟨e, ?_⟩
  refine ⟨.non, upd H l (.lst (xs.take i.toNat ++ y :: xs.drop i.toNat)), ?_, rfl, q⟩
  refine I.lset (its := its) (its' := its.take i.toNat ++ u' :: its.drop i.toNat) (ys := xs.take i.toNat ++ y :: xs.drop i.toNat) hH e ?_ (Vals.append (Vals.take' i.toNat r) (.cons ry (Vals.drop' i.toNat r))) ?_
  · show (its.toArray.extract 0 (if i < 0 then (i + (its.toArray.size : Int)).toNat else min i.toNat its.toArray.size)).push u' ++ its.toArray.extract (if i < 0 then (i + (its.toArray.size : Int)).toNat else min i.toNat its.toArray.size) = _
    rw [hkk, PySem.W.kl_ins_eq]
  · rw [List.length_append, List.length_cons, List.length_take, List.length_drop]
    omega
end
end L2
/-! ### elements that are displays -/
namespace L2
open PySem PySem.Spec PyProof.Rows
section
variable {es : List Expr} {env : Env} {p : Pos}
theorem st_BoolOp {op : BoolOp} {a : List Expr} : starEach (.BoolOp op a p :: es) env = (false, eval (.BoolOp op a p) env) :: starEach es env := by rfl
theorem st_BinOp {a : Expr} {op : Operator} {b : Expr} : starEach (.BinOp a op b p :: es) env = (false, eval (.BinOp a op b p) env) :: starEach es env := by rfl
theorem st_UnaryOp {op : UnaryOp} {a : Expr} : starEach (.UnaryOp op a p :: es) env = (false, eval (.UnaryOp op a p) env) :: starEach es env := by rfl
theorem st_IfExp {a b c : Expr} : starEach (.IfExp a b c p :: es) env = (false, eval (.IfExp a b c p) env) :: starEach es env := by rfl
theorem st_ListComp {a : Expr} {g : List Comprehension} {sc : Scope} : starEach (.ListComp a g sc p :: es) env = (false, eval (.ListComp a g sc p) env) :: starEach es env := by rfl
theorem st_Compare {a : Expr} {ops : List CmpOp} {b : List Expr} : starEach (.Compare a ops b p :: es) env = (false, eval (.Compare a ops b p) env) :: starEach es env := by rfl
theorem st_Call {a : Expr} {b : List Expr} {kw : List Keyword} : starEach (.Call a b kw p :: es) env = (false, eval (.Call a b kw p) env) :: starEach es env := by rfl
theorem st_JoinedStr {a : List Expr} : starEach (.JoinedStr a p :: es) env = (false, eval (.JoinedStr a p) env) :: starEach es env := by rfl
theorem st_Constant {c : Const} {k : Nat} : starEach (.Constant c k p :: es) env = (false, eval (.Constant c k p) env) :: starEach es env := by rfl
theorem st_Attribute {a : Expr} {x : Str} : starEach (.Attribute a x p :: es) env = (false, eval (.Attribute a x p) env) :: starEach es env := by rfl
theorem st_Subscript {a b : Expr} : starEach (.Subscript a b p :: es) env = (false, eval (.Subscript a b p) env) :: starEach es env := by rfl
theorem st_Name {x : Str} : starEach (.Name x p :: es) env = (false, eval (.Name x p) env) :: starEach es env := by rfl
theorem st_List {a : List Expr} : starEach (.List a p :: es) env = (false, eval (.List a p) env) :: starEach es env := by rfl
theorem st_Tuple {a : List Expr} {k : Nat} : starEach (.Tuple a k p :: es) env = (false, eval (.Tuple a k p) env) :: starEach es env := by rfl
end
section
variable {X : Cx} {es : List Expr} {te : TE} {t : TA}
theorem pe_bmL {T name id : _} {r : V → List V → Hp → VK → Prop} {o : Expr} {to : TE} {es' : List Expr} {p apos cpos : Pos} (pa : PlainAttrs T) (slot : Slot T name id) (hty : typeOf (.builtin id) = pure (.type "method_descriptor")) (hm : MtR X id r) (ho : PE X o to) (ha : PA X [.List es' p] t)
    (hbase : attributeBase o name X.env (eval o X.env) = eval o X.env := by rfl) (hline : (apos.endLine == cpos.line) = true := by rfl) : PE X (.Call (.Attribute o name apos) [.List es' p] [] cpos) (tBM X.K T r to t) :=
  pe_bm pa slot hty hm ho ha hbase (by rw [st_List]; rfl) hline st_List rfl
theorem ps_asgL {a b : Expr} {es' : List Expr} {p q pos : Pos} {g : TG} (he : PE X (.List es' q) te) (hg : PG X (.Subscript a b p) g) : PS X (.Assign [.Subscript a b p] (.List es' q) pos) (tAsg te g) := ps_asg he hg rfl rfl rfl
end
end L2

namespace Hw
open PySem L2
/-! ### the text -/
def top (i : Nat) : Stmt := PySem.Challenge.pw_hoistworks_k02_hoists.main.body.getD i (.Pass ⟨0, 0, 0, 0⟩)
abbrev s_Hoist___init__ : Stmt := inClass (top 14) 0
abbrev s_Hoist_weights : Stmt := inClass (top 14) 1
abbrev s_Hoist_many_ropes : Stmt := inClass (top 14) 2
abbrev s_Hoist_strands : Stmt := inClass (top 14) 3
abbrev s_check_weights : Stmt := top 15
abbrev s_check_rope : Stmt := top 16
abbrev s_check_number : Stmt := top 17
abbrev s_added_strands : Stmt := top 18
abbrev s__law_cell_at : Stmt := top 20
abbrev s__law_whole : Stmt := top 21
abbrev s__law_kind : Stmt := top 22
abbrev s__law_made : Stmt := top 23
abbrev s__law_ropes : Stmt := top 24
abbrev s__law_spoiled : Stmt := top 25
abbrev s__law_right : Stmt := top 26
abbrev s_law : Stmt := top 27
structure Ad where
  Hoist : Addr
  HoistError : Addr
  NoHoist : Addr
  NoRope : Addr
  NoBody : Addr
  Sinks : Addr
  TooMany : Addr
  BadText : Addr
structure Txt (K : PySem.W.Frag) (mg : Str → Option Value) (C : Ad) : Prop where
  b_len : mg "len" = none
  b_abs : mg "abs" = none
  b_min : mg "min" = none
  b_max : mg "max" = none
  b_isinstance : mg "isinstance" = none
  b_sum : mg "sum" = none
  b_int : mg "int" = none
  b_list : mg "list" = none
  b_bool : mg "bool" = none
  b_range : mg "range" = none
  b_ValueError : mg "ValueError" = none
  g_MOST_BODIES : ∃ t, mg "MOST_BODIES" = some (.int 4 t)
  g_MOST_ROPES : ∃ t, mg "MOST_ROPES" = some (.int 5 t)
  g_MOST_WEIGHT : ∃ t, mg "MOST_WEIGHT" = some (.int 1000 t)
  g_MOST_PAIRS : ∃ t, mg "MOST_PAIRS" = some (.int 12 t)
  g_MOST_STRANDS : ∃ t, mg "MOST_STRANDS" = some (.int 9 t)
  c_Hoist : mg "Hoist" = some (.ref C.Hoist)
  l_Hoist : Cls K C.Hoist
  n_body_weights : NoAttr K C.Hoist "body_weights"
  n_rope_strands : NoAttr K C.Hoist "rope_strands"
  c_HoistError : mg "HoistError" = some (.ref C.HoistError)
  c_NoHoist : mg "NoHoist" = some (.ref C.NoHoist)
  c_NoRope : mg "NoRope" = some (.ref C.NoRope)
  c_NoBody : mg "NoBody" = some (.ref C.NoBody)
  c_Sinks : mg "Sinks" = some (.ref C.Sinks)
  c_TooMany : mg "TooMany" = some (.ref C.TooMany)
  c_BadText : mg "BadText" = some (.ref C.BadText)
  e_NoBody : ExcCls K C.NoBody
  e_NoHoist : ExcCls K C.NoHoist
  e_NoRope : ExcCls K C.NoRope
  i_NoHoist : ExcIsi K C.NoHoist
  kit_NoHoist_HoistError : PySem.W.kitOne K (.ref C.NoHoist) (.ref C.HoistError) = some true
  kit_NoHoist_NoHoist : PySem.W.kitOne K (.ref C.NoHoist) (.ref C.NoHoist) = some true
  kit_NoHoist_NoRope : PySem.W.kitOne K (.ref C.NoHoist) (.ref C.NoRope) = some false
  kit_NoHoist_NoBody : PySem.W.kitOne K (.ref C.NoHoist) (.ref C.NoBody) = some false
  kit_NoHoist_Sinks : PySem.W.kitOne K (.ref C.NoHoist) (.ref C.Sinks) = some false
  kit_NoHoist_TooMany : PySem.W.kitOne K (.ref C.NoHoist) (.ref C.TooMany) = some false
  kit_NoHoist_BadText : PySem.W.kitOne K (.ref C.NoHoist) (.ref C.BadText) = some false
  kit_NoHoist_V : PySem.W.kitOne K (.ref C.NoHoist) (.type "ValueError") = some true
  exm_NoHoist : PySem.W.exmOne K (.ref C.NoHoist) (.ref C.HoistError) = some true
theorem kit_ii (K : PySem.W.Frag) : PySem.W.kitOne K (.type "int") (.type "int") = some true := kit_ty K (by decide +kernel)
theorem kit_ib (K : PySem.W.Frag) : PySem.W.kitOne K (.type "int") (.type "bool") = some false := kit_ty K (by decide +kernel)
theorem kit_bb (K : PySem.W.Frag) : PySem.W.kitOne K (.type "bool") (.type "bool") = some true := kit_ty K (by decide +kernel)
theorem kit_tt (K : PySem.W.Frag) : PySem.W.kitOne K (.type "tuple") (.type "tuple") = some true := kit_ty K (by decide +kernel)
theorem kit_ll (K : PySem.W.Frag) : PySem.W.kitOne K (.type "list") (.type "list") = some true := kit_ty K (by decide +kernel)
theorem kit_ss (K : PySem.W.Frag) : PySem.W.kitOne K (.type "str") (.type "str") = some true := kit_ty K (by decide +kernel)

/-! ### parts: promises -/
def spGcd : Sp := fun vs H Q _ => ∃ a b : Int, vs = [.int a, .int b] ∧ Q (.int (Int.gcd a b : Int)) H
def spLowest (K : PySem.W.Frag) : Sp := fun vs H Q _ => ∃ t b : Int, vs = [.int t, .int b] ∧ b ≠ 0 ∧ Sz 9000 b ∧ Res K H Q (frD (Rat.divInt t b))
def spLow (K : PySem.W.Frag) : Sp := fun vs H Q _ => ∃ t b : Int, vs = [.int t, .int b] ∧ 0 < b ∧ Sz 9000 b ∧ Res K H Q (frD (Rat.divInt t b))
/-- two fractions in, a fraction out -/
def spRat (K : PySem.W.Frag) (c : Rat → Prop) (f : Rat → Rat → Rat) : Sp := fun vs H Q _ => ∃ (v u : V) (q r : Rat), vs = [v, u] ∧ HasD K H v (frD q) ∧ HasD K H u (frD r) ∧ RSz 4000 q ∧ RSz 4000 r ∧ c r ∧ Res K H Q (frD (f q r))
def spLess (K : PySem.W.Frag) : Sp := fun vs H Q _ => ∃ (v u : V) (q r : Rat), vs = [v, u] ∧ HasD K H v (frD q) ∧ HasD K H u (frD r) ∧ RSz 4000 q ∧ RSz 4000 r ∧ Q (.bl (decide (q < r))) H


/-! ### hoists: what they are -/
def sumAt (ps : List (Int × Int)) (b : Int) : Int := ((ps.filter (fun p => p.1 == b)).map (·.2)).sum
def sums (ps : List (Int × Int)) (n : Nat) : List Int := (List.range n).map fun b : Nat => sumAt ps (b : Int)
structure ROK (nb : Nat) (ps : List (Int × Int)) : Prop where
  len : ps.length ≤ 12
  each : ∀ p ∈ ps, 0 ≤ p.1 ∧ p.1 < nb ∧ p.2.natAbs ≤ 9
  sum : ∀ s ∈ sums ps nb, s.natAbs ≤ 9
structure WOK (ws : List Int) : Prop where
  n1 : 1 ≤ ws.length
  n4 : ws.length ≤ 4
  w : ∀ w ∈ ws, 0 ≤ w ∧ w ≤ 1000
structure HOK (ws : List Int) (tb : List (List Int)) : Prop extends WOK ws where
  r5 : tb.length ≤ 5
  rl : ∀ row ∈ tb, row.length = ws.length
  re : ∀ row ∈ tb, ∀ x ∈ row, x.natAbs ≤ 9
theorem sums_len (ps : List (Int × Int)) (n : Nat) : (sums ps n).length = n := by simp [sums]
theorem sums_nil (n : Nat) : sums [] n = List.replicate n 0 := by
  refine List.ext_getElem (by simp [sums]) fun i h1 h2 => ?_
  simp [sums, sumAt]
theorem sums_snoc (ps : List (Int × Int)) (n : Nat) (b : Nat) (x : Int) (h : b < n) : sums (ps ++ [((b : Int), x)]) n = (sums ps n).set b (sumAt ps b + x) := by
  refine List.ext_getElem (by simp [sums]) fun i h1 h2 => ?_
  rw [List.getElem_set]
  simp only [sums, List.getElem_map, List.getElem_range]
  unfold sumAt
  rw [List.filter_append, List.map_append, List.sum_append]
  by_cases hb : b = i
  · subst hb
    simp
  · have : ¬ ((b : Int) == (i : Int)) = true := by simp <;> omega
    simp [this, hb]
theorem sums_get (ps : List (Int × Int)) (n b : Nat) (h : b < n) : (sums ps n)[b]? = some (sumAt ps b) := by
  rw [List.getElem?_eq_getElem (by rw [sums_len]; exact h)]
  simp [sums]
def hflds (a b : Addr) : List (Str × V) := [("body_weights", .ref a), ("rope_strands", .ref b)]
theorem bw_ne : ¬ (("body_weights" : Str) = "rope_strands") := by decide +kernel
theorem hflds_put (a b : Addr) : putF "rope_strands" (.ref b) (putF "body_weights" (.ref a) []) = hflds a b := by
  show (if ("body_weights" : Str) = "rope_strands" then _ else _) = _
  rw [if_neg bw_ne]
  rfl
theorem hflds_bw (a b : Addr) : (hflds a b).lookup ("body_weights" : Str) = some (.ref a) := by
  rw [← hflds_put, lookup_putF, if_neg bw_ne, lookup_putF, if_pos rfl]
theorem hflds_rs (a b : Addr) : (hflds a b).lookup ("rope_strands" : Str) = some (.ref b) := by
  rw [← hflds_put, lookup_putF, if_pos rfl]
theorem hflds_no (a b : Addr) {m : Str} (h1 : ¬ m = "rope_strands") (h2 : ¬ m = "body_weights") : (hflds a b).lookup m = none := by
  rw [← hflds_put, lookup_putF, if_neg h1, lookup_putF, if_neg h2]
  rfl
/-- a hoist stands at v -/
structure HoistAt (K : PySem.W.Frag) (C : Ad) (H : Hp) (v : V) (ws : List Int) (tb : List (List Int)) : Prop where
  ex : ∃ p dx a b, v = .ref p ∧ H p = some (.ins C.Hoist dx (hflds a b)) ∧ HasD K H (.ref a) (intsD ws) ∧ HasD K H (.ref b) (tblD tb)
  ok : HOK ws tb
theorem HoistAt.same {K : PySem.W.Frag} {C : Ad} {H H' : Hp} {v : V} {ws : List Int} {tb : List (List Int)} (S : Same H H') (h : HoistAt K C H v ws tb) : HoistAt K C H' v ws tb := by
  obtain ⟨⟨p, dx, a, b, e, h1, h2, h3⟩, ok⟩ := h
  exact ⟨⟨p, dx, a, b, e, S _ _ h1, h2.same S, h3.same S⟩, ok⟩
/-- the cell of a table -/
def cellT (tb : List (List Int)) (r b : Nat) : Int := (tb.getD r []).getD b 0
def spHoistI (K : PySem.W.Frag) (C : Ad) : Sp := fun vs H Q _ => ∃ (x dx : Addr) (vw vr : V) (ws : List Int) (rs : List (List (Int × Int))), vs = [.ref x, vw, vr] ∧ H x = some (.ins C.Hoist dx []) ∧ HasD K H vw (intsD ws) ∧ HasD K H vr (ropesD rs) ∧
  WOK ws ∧ rs.length ≤ 5 ∧ (∀ ps ∈ rs, ROK ws.length ps) ∧ ∀ H', (∀ b o, H b = some o → b ≠ x → H' b = some o) → HoistAt K C H' (.ref x) ws (rs.map fun ps => sums ps ws.length) → Q .non H'
def spWeights (K : PySem.W.Frag) (C : Ad) : Sp := fun vs H Q _ => ∃ v ws tb, vs = [v] ∧ HoistAt K C H v ws tb ∧ Res K H Q (intsD ws)
def spManyRopes (K : PySem.W.Frag) (C : Ad) : Sp := fun vs H Q _ => ∃ v ws tb, vs = [v] ∧ HoistAt K C H v ws tb ∧ Q (.int tb.length) H
def smallI (i : Int) : Prop := i.natAbs < 1000000
def spCheckRope (K : PySem.W.Frag) (C : Ad) : Sp := fun vs H Q E => ∃ v ws tb r, vs = [v, .int r] ∧ HoistAt K C H v ws tb ∧ smallI r ∧ (0 ≤ r ∧ r < tb.length → Q .non H) ∧ (¬ (0 ≤ r ∧ r < tb.length) → E (.ref C.NoRope) none H)
def spStrands (K : PySem.W.Frag) (C : Ad) : Sp := fun vs H Q E => ∃ v ws tb r b, vs = [v, .int r, .int b] ∧ HoistAt K C H v ws tb ∧ smallI r ∧ smallI b ∧
  (0 ≤ r ∧ r < tb.length → 0 ≤ b ∧ b < ws.length → Q (.int (cellT tb r.toNat b.toNat)) H) ∧ (¬ (0 ≤ r ∧ r < tb.length) → E (.ref C.NoRope) none H) ∧ (0 ≤ r ∧ r < tb.length → ¬ (0 ≤ b ∧ b < ws.length) → E (.ref C.NoBody) none H)
def spCheckWeights (K : PySem.W.Frag) : Sp := fun vs H Q _ => ∃ v ws, vs = [v] ∧ HasD K H v (intsD ws) ∧ WOK ws ∧ Q .non H
def spCheckNumber : Sp := fun vs H Q _ => ∃ n : Int, vs = [.int n] ∧ n.natAbs ≤ 9 ∧ Q .non H
def spAddedStrands (K : PySem.W.Frag) : Sp := fun vs H Q _ => ∃ (v : V) (ps : List (Int × Int)) (n : Nat), vs = [v, .int n] ∧ n ≤ 4 ∧ HasD K H v (pairsD ps) ∧ ROK n ps ∧ Res K H Q (intsD (sums ps n))
theorem small_log {i : Int} (h : smallI i) : i.natAbs.log2 < 1920 := (show Sz 20 i from Nat.lt_trans h (by decide)).mono (by decide : 20 ≤ 1920) |>.log (by decide)
/-- a hoist at v, its lists new since J -/
structure HoistNew (K : PySem.W.Frag) (C : Ad) (J H : Hp) (v : V) (ws : List Int) (tb : List (List Int)) : Prop where
  ex : ∃ p dx a b, v = .ref p ∧ H p = some (.ins C.Hoist dx (hflds a b)) ∧ NewD K J H (.ref a) (intsD ws) ∧ NewD K J H (.ref b) (tblD tb)
  ok : HOK ws tb
theorem HoistNew.at {K : PySem.W.Frag} {C : Ad} {J H : Hp} {v : V} {ws : List Int} {tb : List (List Int)} (h : HoistNew K C J H v ws tb) : HoistAt K C H v ws tb := by
  obtain ⟨⟨p, dx, a, b, e, h1, h2, h3⟩, ok⟩ := h
  exact ⟨⟨p, dx, a, b, e, h1, NewD.has _ h2, NewD.has _ h3⟩, ok⟩
theorem HoistNew.later {K : PySem.W.Frag} {C : Ad} {J H H' : Hp} {v : V} {ws : List Int} {tb : List (List Int)} (S : Same H H') (h : HoistNew K C J H v ws tb) : HoistNew K C J H' v ws tb := by
  obtain ⟨⟨p, dx, a, b, e, h1, h2, h3⟩, ok⟩ := h
  exact ⟨⟨p, dx, a, b, e, S _ _ h1, h2.later S, h3.later S⟩, ok⟩
theorem HoistNew.wider {K : PySem.W.Frag} {C : Ad} {J J' H : Hp} {v : V} {ws : List Int} {tb : List (List Int)} (S : Same J' J) (h : HoistNew K C J H v ws tb) : HoistNew K C J' H v ws tb := by
  obtain ⟨⟨p, dx, a, b, e, h1, h2, h3⟩, ok⟩ := h
  exact ⟨⟨p, dx, a, b, e, h1, h2.wider S, h3.wider S⟩, ok⟩
theorem HoistNew.write {K : PySem.W.Frag} {C : Ad} {J H : Hp} {v : V} {ws : List Int} {tb : List (List Int)} {l : Addr} {xs ys : List V} (n : J l ≠ none) (hl : H l = some (.lst xs)) (h : HoistNew K C J H v ws tb) : HoistNew K C J (upd H l (.lst ys)) v ws tb := by
  obtain ⟨⟨p, dx, a, b, e, h1, h2, h3⟩, ok⟩ := h
  have ne : p ≠ l := fun z => by rw [z, hl] at h1; cases h1
  have nt : NoTup (H l) := by rw [hl]; exact noTup_lst
  exact ⟨⟨p, dx, a, b, e, by rw [upd_ne ne]; exact h1, NewD.write n nt h2, NewD.write n nt h3⟩, ok⟩
/-- weights and ropes that make a hoist -/
structure HV (ws : List Int) (rs : List (List (Int × Int))) : Prop extends WOK ws where
  r5 : rs.length ≤ 5
  each : ∀ ps ∈ rs, ROK ws.length ps
def smallPs (ps : List (Int × Int)) : Prop := ps.length ≤ 100 ∧ ∀ p ∈ ps, smallI p.1 ∧ p.2.natAbs ≤ 2000
def spCheckNumberE (C : Ad) : Sp := fun vs H Q E => ∃ n : Int, vs = [.int n] ∧ smallI n ∧ (n.natAbs ≤ 9 → Q .non H) ∧ (¬ n.natAbs ≤ 9 → E (.ref C.NoHoist) none H)
def spCheckWeightsE (K : PySem.W.Frag) (C : Ad) : Sp := fun vs H Q E => ∃ v ws, vs = [v] ∧ HasD K H v (intsD ws) ∧ (∀ w ∈ ws, smallI w) ∧ (WOK ws → Q .non H) ∧ (¬ WOK ws → E (.ref C.NoHoist) none H)
def spAddedStrandsE (K : PySem.W.Frag) (C : Ad) : Sp := fun vs H Q E => ∃ (v : V) (ps : List (Int × Int)) (n : Nat), vs = [v, .int n] ∧ n ≤ 4 ∧ HasD K H v (pairsD ps) ∧ smallPs ps ∧ (ROK n ps → Res K H Q (intsD (sums ps n))) ∧ (¬ ROK n ps → ∀ H', Same H H' → E (.ref C.NoHoist) none H')
def spHoistE (K : PySem.W.Frag) (C : Ad) : Sp := fun vs H Q E => ∃ (x dx : Addr) (vw vr : V) (ws : List Int) (rs : List (List (Int × Int))), vs = [.ref x, vw, vr] ∧ H x = some (.ins C.Hoist dx []) ∧ HasD K H vw (intsD ws) ∧ HasD K H vr (ropesD rs) ∧
  (∀ w ∈ ws, smallI w) ∧ ws.length ≤ 100 ∧ rs.length ≤ 100 ∧ (∀ ps ∈ rs, smallPs ps) ∧ (HV ws rs → ∀ H', (∀ b o, H b = some o → b ≠ x → H' b = some o) → HoistNew K C H H' (.ref x) ws (rs.map fun ps => sums ps ws.length) → Q .non H') ∧
  (¬ HV ws rs → ∀ H', (∀ b o, H b = some o → b ≠ x → H' b = some o) → E (.ref C.NoHoist) none H')
theorem sc_Hoist_weights : FnScope ["self"] ["self"] (defScope s_Hoist_weights) := ⟨rfl, rfl, rfl, by decide +kernel, rfl, by decide +kernel, by decide +kernel⟩
theorem ok_Hoist_weights {P : Program} {w : World} {K : PySem.W.Frag} {mg : Str → Option Value} {base : Heap} {C : Ad} (T : Txt K mg C) (D : DefM K C.Hoist "weights" "Hoist.weights" s_Hoist_weights ["self"]) :
    OwnM P w K mg base CX0 C.Hoist "weights" ["self"] 1 (spWeights K C) := by
  refine D.own sc_Hoist_weights (fun vs H Q E h => ?_) (fun f cdv A outer s H vs Q E hr h => ?_)
  · obtain ⟨a, _, _, rfl, _⟩ := h
    rfl
  · obtain ⟨v, ws, tb, rfl, ⟨⟨p, dx, a, b, rfl, h1, h2, h3⟩, ok⟩, k⟩ := h
    refine ⟨_, (pss_one (ps_ret (pe_callTy (call_listK (K := K) rfl) rfl T.b_list bt_list (pa_cons (pe_fldK (K := K) rfl (pv 0) rfl) pa_nil st_Attribute)))), ?_⟩
    obtain ⟨a', e, hq⟩ := has_ints h2
    cases e
    refine ⟨_, rfl, p, _, dx, _, _, rfl, h1, T.l_Hoist, T.n_body_weights, hflds_bw a b, _, _, rfl, .inl hq, fun l hl => ?_⟩
    exact k _ _ (Same.upd hl) (ints_new hl upd_same)
theorem sc_Hoist_many_ropes : FnScope ["self"] ["self"] (defScope s_Hoist_many_ropes) := ⟨rfl, rfl, rfl, by decide +kernel, rfl, by decide +kernel, by decide +kernel⟩
theorem ok_Hoist_many_ropes {P : Program} {w : World} {K : PySem.W.Frag} {mg : Str → Option Value} {base : Heap} {C : Ad} (T : Txt K mg C) (D : DefM K C.Hoist "many_ropes" "Hoist.many_ropes" s_Hoist_many_ropes ["self"]) :
    OwnM P w K mg base CX0 C.Hoist "many_ropes" ["self"] 1 (spManyRopes K C) := by
  refine D.own sc_Hoist_many_ropes (fun vs H Q E h => ?_) (fun f cdv A outer s H vs Q E hr h => ?_)
  · obtain ⟨a, _, _, rfl, _⟩ := h
    rfl
  · obtain ⟨v, ws, tb, rfl, ⟨⟨p, dx, a, b, rfl, h1, h2, h3⟩, ok⟩, k⟩ := h
    refine ⟨_, (pss_one (ps_ret (pe_callB (call_lenK (K := K) rfl) rfl T.b_len bt_len (pa_cons (pe_fldK (K := K) rfl (pv 0) rfl) pa_nil st_Attribute)))), ?_⟩
    refine ⟨_, rfl, p, _, dx, _, _, rfl, h1, T.l_Hoist, T.n_rope_strands, hflds_rs a b, _, _, rfl, .inl h3, ?_⟩
    rw [List.length_map]
    exact k
theorem sc_check_rope : FnScope ["hoist", "rope"] ["hoist", "rope"] (defScope s_check_rope) := ⟨rfl, rfl, rfl, by decide +kernel, rfl, by decide +kernel, by decide +kernel⟩
theorem ok_check_rope {P : Program} {w : World} {K : PySem.W.Frag} {mg : Str → Option Value} {base : Heap} {C : Ad} (T : Txt K mg C) (D : Def K mg "check_rope" "check_rope" s_check_rope ["hoist", "rope"])
    (o_Hoist_many_ropes : OwnM P w K mg base CX0 C.Hoist "many_ropes" ["self"] 1 (spManyRopes K C)) :
    Own P w K mg base (CXE P w) "check_rope" ["hoist", "rope"] 2 (spCheckRope K C) := by
  refine D.ownE sc_check_rope (fun vs H Q E h => ?_) (fun f cdv A outer s H vs Q E hr h => ?_)
  · obtain ⟨a, _, _, _, rfl, _⟩ := h
    rfl
  · obtain ⟨v, ws, tb, r, rfl, hA, hs, k, ke⟩ := h
    have hA' := hA
    obtain ⟨⟨p, dx, a, b, rfl, h1, h2, h3⟩, ok⟩ := hA
    refine ⟨_, (pss_one (ps_if (PW.pt (pw_or (pt_cmpR op_lt (pv 1) pe_int (nomark _)) (pw_or1 (pt_cmpR op_ge (pv 1) (pe_ownM0 o_Hoist_many_ropes T.l_Hoist (hr.mono (by decide)) pass0 (pv 0)) (nomark _)))))
        (pss_one (ps_raise T.e_NoRope T.c_NoRope rfl (pa_cons (pe_fstr1 (by decide +kernel) (pv 1)) pa_nil st_JoinedStr)))
        pss_nil)), ?_⟩
    refine ⟨_, rfl, _, _, rfl, rfl, _, rfl, ?_⟩
    by_cases hn : r < 0
    · refine ifP (by simpa using hn) ?_
      refine ⟨_, rfl, _, rfl, small_log hs, fun y => ⟨by show 1 ≤ sizeLine; decide, ke (by omega)⟩⟩
    · refine ifN (by simpa using hn) ?_
      refine ⟨_, rfl, _, rfl, p, dx, _, rfl, h1, hflds_no _ _ (by decide +kernel) (by decide +kernel), _, _, _, rfl, hA', _, _, rfl, rfl, _, rfl, ?_⟩
      by_cases hl : r < tb.length
      · refine ifN (by simp <;> omega) ?_
        exact k ⟨by omega, hl⟩
      · refine ifP (by simp <;> omega) ?_
        refine ⟨_, rfl, _, rfl, small_log hs, fun y => ⟨by show 1 ≤ sizeLine; decide, ke (by omega)⟩⟩
theorem cellT_get {ws : List Int} {tb : List (List Int)} (ok : HOK ws tb) {r b : Nat} (hr : r < tb.length) (hb : b < ws.length) : ∃ row, tb[r]? = some row ∧ row[b]? = some (cellT tb r b) := by
  refine ⟨tb[r], List.getElem?_eq_getElem hr, ?_⟩
  have hl : b < tb[r].length := by
    rw [ok.rl _ (List.getElem_mem hr)]
    exact hb
  unfold cellT
  rw [List.getD_eq_getElem?_getD (l := tb), List.getElem?_eq_getElem hr]
  simp [List.getD_eq_getElem?_getD, List.getElem?_eq_getElem hl]
theorem sc_Hoist_strands : FnScope ["self", "rope", "body"] ["self", "rope", "body"] (defScope s_Hoist_strands) := ⟨rfl, rfl, rfl, by decide +kernel, rfl, by decide +kernel, by decide +kernel⟩
theorem ok_Hoist_strands {P : Program} {w : World} {K : PySem.W.Frag} {mg : Str → Option Value} {base : Heap} {C : Ad} (T : Txt K mg C) (D : DefM K C.Hoist "strands" "Hoist.strands" s_Hoist_strands ["self", "rope", "body"])
    (o_check_rope : Own P w K mg base (CXE P w) "check_rope" ["hoist", "rope"] 2 (spCheckRope K C)) :
    OwnM P w K mg base (CXE P w) C.Hoist "strands" ["self", "rope", "body"] 3 (spStrands K C) := by
  refine D.ownE sc_Hoist_strands (fun vs H Q E h => ?_) (fun f cdv A outer s H vs Q E hr h => ?_)
  · obtain ⟨a, _, _, _, _, rfl, _⟩ := h
    rfl
  · obtain ⟨v, ws, tb, r, b', rfl, hA, hs, hs', k, ke, kb⟩ := h
    have hA' := hA
    obtain ⟨⟨p, dx, a, b, rfl, h1, h2, h3⟩, ok⟩ := hA
    refine ⟨_, (pss_cons (ps_expr (pe_own o_check_rope (hr.mono (by decide)) rfl passE (pa_cons (pv 0) (pa_cons (pv 1) pa_nil st_Name) st_Name)))
        (pss_cons (ps_if (PW.pt (pw_or (pt_cmpR op_lt (pv 2) pe_int (nomark _)) (pw_or1 (pt_cmpR op_ge (pv 2) (pe_callB (call_lenK (K := K) rfl) rfl T.b_len bt_len (pa_cons (pe_fldK (K := K) rfl (pv 0) rfl) pa_nil st_Attribute)) (nomark _)))))
        (pss_one (ps_raise T.e_NoBody T.c_NoBody rfl (pa_cons (pe_fstr1 (by decide +kernel) (pv 2)) pa_nil st_JoinedStr)))
        pss_nil)
        (pss_one (ps_ret (pe_ix (ix_K (K := K) rfl) (pe_ix (ix_K (K := K) rfl) (pe_fldK (K := K) rfl (pv 0) rfl) (pv 1) (fun _ _ => rfl)) (pv 2) (fun _ _ => rfl)))))), ?_⟩
    refine ⟨_, rfl, _, rfl, _, ws, tb, r, rfl, hA', hs, fun hr' => ?_, ke⟩
    refine ⟨_, rfl, _, _, rfl, rfl, _, rfl, ?_⟩
    by_cases hn : b' < 0
    · refine ifP (by simpa using hn) ?_
      refine ⟨_, rfl, _, rfl, small_log hs', fun y => ⟨by show 1 ≤ sizeLine; decide, kb hr' (by omega)⟩⟩
    · refine ifN (by simpa using hn) ?_
      refine ⟨_, rfl, _, rfl, p, _, dx, _, _, rfl, h1, T.l_Hoist, T.n_body_weights, hflds_bw a b, _, _, rfl, .inl h2, _, _, rfl, rfl, _, rfl, ?_⟩
      rw [List.length_map]
      by_cases hl : b' < ws.length
      · refine ifN (by simp <;> omega) ?_
        obtain ⟨rn, rfl⟩ : ∃ rn : Nat, r = rn := ⟨r.toNat, by omega⟩
        obtain ⟨bn, rfl⟩ : ∃ bn : Nat, b' = bn := ⟨b'.toNat, by omega⟩
        obtain ⟨row, e1, e2⟩ := cellT_get ok (r := rn) (b := bn) (by omega) (by omega)
        have e1' : (tb.map intsD)[rn]? = some (intsD row) := by rw [List.getElem?_map, e1]; rfl
        have e2' : (row.map PyData.int)[bn]? = some (.int (cellT tb rn bn)) := by rw [List.getElem?_map, e2]; rfl
        refine ⟨_, rfl, p, _, dx, _, _, rfl, h1, T.l_Hoist, T.n_rope_strands, hflds_rs a b, _, rfl, _, _, _, .inl h3, rfl, atI_nat e1', fun u hu => ?_⟩
        refine ⟨_, rfl, _, _, _, .inl hu, rfl, atI_nat e2', fun z hz => ?_⟩
        rw [hz.ofint]
        exact k hr' ⟨by omega, hl⟩
      · refine ifP (by simp <;> omega) ?_
        refine ⟨_, rfl, _, rfl, small_log hs', fun y => ⟨by show 1 ≤ sizeLine; decide, kb hr' (by omega)⟩⟩
theorem sc_check_number : FnScope ["number"] ["number"] (defScope s_check_number) := ⟨rfl, rfl, rfl, by decide +kernel, rfl, by decide +kernel, by decide +kernel⟩
theorem ok_check_number {P : Program} {w : World} {K : PySem.W.Frag} {mg : Str → Option Value} {base : Heap} {C : Ad} (T : Txt K mg C) (D : Def K mg "check_number" "check_number" s_check_number ["number"]) :
    Own P w K mg base (CXE P w) "check_number" ["number"] 1 (spCheckNumberE C) := by
  refine D.ownE sc_check_number (fun vs H Q E h => ?_) (fun f cdv A outer s H vs Q E hr h => ?_)
  · obtain ⟨a, rfl, _⟩ := h
    rfl
  · obtain ⟨n, rfl, hs, k, ke⟩ := h
    refine ⟨_, (pss_one (ps_if (pt_cmpR op_gt (pe_callB (call_abs) rfl T.b_abs bt_abs (pa_cons (pv 0) pa_nil st_Name)) (pe_globI rfl T.g_MOST_STRANDS) (nomark _))
        (pss_one (ps_raise T.e_NoHoist T.c_NoHoist rfl (pa_cons (pe_fstr1 (by decide +kernel) (pv 0)) pa_nil st_JoinedStr)))
        pss_nil)), ?_⟩
    refine ⟨_, rfl, n, rfl, _, _, rfl, rfl, _, rfl, ?_⟩
    by_cases h9 : n.natAbs ≤ 9
    · refine ifN ?_ (k h9)
      simp only [decide_eq_true_eq]
      split <;> omega
    · refine ifP ?_ ?_
      · simp only [decide_eq_true_eq]
        split <;> omega
      · refine ⟨_, rfl, _, rfl, small_log hs, fun y => ⟨by show 1 ≤ sizeLine; decide, ke h9⟩⟩
theorem sc_check_weights : FnScope ["weights", "weight"] ["weights"] (defScope s_check_weights) := ⟨rfl, rfl, rfl, by decide +kernel, rfl, by decide +kernel, by decide +kernel⟩
theorem ok_check_weights {P : Program} {w : World} {K : PySem.W.Frag} {mg : Str → Option Value} {base : Heap} {C : Ad} (T : Txt K mg C) (D : Def K mg "check_weights" "check_weights" s_check_weights ["weights"]) :
    Own P w K mg base (CXE P w) "check_weights" ["weights"] 1 (spCheckWeightsE K C) := by
  refine D.ownE sc_check_weights (fun vs H Q E h => ?_) (fun f cdv A outer s H vs Q E hr h => ?_)
  · obtain ⟨a, _, rfl, _⟩ := h
    rfl
  · obtain ⟨v, ws, rfl, hv, hs, k, ke⟩ := h
    obtain ⟨a, rfl, hq⟩ := has_ints hv
    refine ⟨_, (pss_cons (ps_if (PW.pt (pw_or (pt_cmpR op_lt (pe_callB (call_lenK (K := K) rfl) rfl T.b_len bt_len (pa_cons (pv 0) pa_nil st_Name)) pe_int (nomark _)) (pw_or1 (pt_cmpR op_gt (pe_callB (call_lenK (K := K) rfl) rfl T.b_len bt_len (pa_cons (pv 0) pa_nil st_Name)) (pe_globI rfl T.g_MOST_BODIES) (nomark _)))))
        (pss_one (ps_raise T.e_NoHoist T.c_NoHoist rfl (pa_cons pe_str pa_nil st_Constant)))
        pss_nil)
        (pss_one (ps_for PassesOwn.leaving rfl (pi_listK (K := K) rfl (pv 0)) (pg_name (i := 1) sc_check_weights.nd rfl (Or.inl rfl))
        (pss_one (ps_if (PW.pt (pw_or (pt_cmpR op_lt (pv 1) pe_int (nomark _)) (pw_or1 (pt_cmpR op_gt (pv 1) (pe_globI rfl T.g_MOST_WEIGHT) (nomark _)))))
        (pss_one (ps_raise T.e_NoHoist T.c_NoHoist rfl (pa_cons (pe_fstr1 (by decide +kernel) (pv 1)) pa_nil st_JoinedStr)))
        pss_nil))))), ?_⟩
    refine ⟨_, rfl, _, _, rfl, .inl hv, _, _, rfl, rfl, _, rfl, ?_⟩
    rw [List.length_map]
    by_cases h1 : ws.length < 1
    · refine ifP (by simp; omega) ?_
      exact ⟨by show 1 ≤ sizeLine; decide, ke fun ok => absurd ok.n1 (by omega)⟩
    refine ifN (by simp; omega) ?_
    refine ⟨_, rfl, _, _, rfl, .inl hv, _, _, rfl, rfl, _, rfl, ?_⟩
    rw [List.length_map]
    by_cases h4 : 4 < ws.length
    · refine ifP (by simp; omega) ?_
      exact ⟨by show 1 ≤ sizeLine; decide, ke fun ok => absurd ok.n4 (by omega)⟩
    refine ifN (by simp; omega) ?_
    refine ⟨_, rfl, a, rfl, ⟨_, hq⟩, for_list (K := K) (a := a) (xs := ws.map V.int) (fun i σ H2 => H2 = H ∧ (∀ w ∈ ws.take i, 0 ≤ w ∧ w ≤ 1000) ∧ ∃ z, σ = [some (.ref a), z]) ⟨rfl, fun w hw => (by simp at hw), _, rfl⟩ (fun i σ H2 _ ⟨e, _⟩ => by rw [e]; exact hq) ?_ ?_⟩
    · rintro i x σ H2 hi ⟨rfl, hall, z, rfl⟩
      rw [List.getElem?_map] at hi
      cases hw : ws[i]? with
      | none => rw [hw] at hi; cases hi
      | some x' =>
        rw [hw] at hi
        cases hi
        have hm := List.mem_of_getElem? hw
        have hx := hs x' hm
        refine ⟨_, rfl, _, _, rfl, rfl, _, rfl, ?_⟩
        by_cases h0 : x' < 0
        · refine ifP (by simp; omega) ?_
          exact ⟨_, rfl, _, rfl, small_log hx, fun y => ⟨by show 1 ≤ sizeLine; decide, ke fun ok => absurd (ok.w x' hm) (by omega)⟩⟩
        refine ifN (by simp; omega) ?_
        refine ⟨_, rfl, _, _, rfl, rfl, _, rfl, ?_⟩
        by_cases h1000 : 1000 < x'
        · refine ifP (by simp; omega) ?_
          exact ⟨_, rfl, _, rfl, small_log hx, fun y => ⟨by show 1 ≤ sizeLine; decide, ke fun ok => absurd (ok.w x' hm) (by omega)⟩⟩
        refine ifN (by simp; omega) ?_
        refine ⟨rfl, fun w hw' => ?_, _, rfl⟩
        obtain ⟨hi', ei⟩ := List.getElem?_eq_some_iff.mp hw
        rw [List.take_succ_eq_append_getElem hi', ei] at hw'
        rcases List.mem_append.mp hw' with h | h
        · exact hall w h
        · rw [List.mem_singleton.mp h]
          omega
    · rintro σ H2 ⟨rfl, hall, z, rfl⟩
      rw [List.length_map, List.take_length] at hall
      exact k ⟨by omega, by omega, hall⟩
theorem sc_added_strands : FnScope ["rope", "many_bodies", "sums", "body", "number", "total"] ["rope", "many_bodies"] (defScope s_added_strands) := ⟨rfl, rfl, rfl, by decide +kernel, rfl, by decide +kernel, by decide +kernel⟩
theorem ok_added_strands {P : Program} {w : World} {K : PySem.W.Frag} {mg : Str → Option Value} {base : Heap} {C : Ad} (T : Txt K mg C) (D : Def K mg "added_strands" "added_strands" s_added_strands ["rope", "many_bodies"])
    (o_check_number : Own P w K mg base (CXE P w) "check_number" ["number"] 1 (spCheckNumberE C)) :
    Own P w K mg base (CXE P w) "added_strands" ["rope", "many_bodies"] 2 (spAddedStrandsE K C) := by
  refine D.ownE sc_added_strands (fun vs H Q E h => ?_) (fun f cdv A outer s H vs Q E hr h => ?_)
  · obtain ⟨a, _, _, rfl, _⟩ := h
    rfl
  · obtain ⟨v, ps, n, rfl, hn4, hv, ⟨hlen, hsm⟩, k, ke⟩ := h
    obtain ⟨a, xs, rfl, hq, hd⟩ := hv.oflst
    refine ⟨_, (pss_cons (ps_if (pt_cmpR op_gt (pe_callB (call_lenK (K := K) rfl) rfl T.b_len bt_len (pa_cons (pv 0) pa_nil st_Name)) (pe_globI rfl T.g_MOST_PAIRS) (nomark _))
        (pss_one (ps_raise T.e_NoHoist T.c_NoHoist rfl (pa_cons pe_str pa_nil st_Constant)))
        pss_nil)
        (pss_cons (ps_set (i := 2) sc_added_strands.nd rfl (Or.inl rfl) (pe_op op_rep (pe_lst (pa_cons pe_int pa_nil st_Constant)) (pv 1)))
        (pss_cons (ps_for PassesOwn.leaving rfl (pi_listK (K := K) rfl (pv 0)) (pg_tupK (K := K) rfl rfl (pgs_cons (pg_name (i := 3) sc_added_strands.nd rfl (Or.inl rfl)) (pgs_cons (pg_name (i := 4) sc_added_strands.nd rfl (Or.inl rfl)) pgs_nil)))
        (pss_cons (ps_if (PW.pt (pw_or (pt_cmpR op_lt (pv 3) pe_int (nomark _)) (pw_or1 (pt_cmpR op_ge (pv 3) (pv 1) (nomark _)))))
        (pss_one (ps_raise T.e_NoHoist T.c_NoHoist rfl (pa_cons (pe_fstr1 (by decide +kernel) (pv 3)) pa_nil st_JoinedStr)))
        pss_nil)
        (pss_cons (ps_expr (pe_own o_check_number (hr.mono (by decide)) rfl passE (pa_cons (pv 4) pa_nil st_Name)))
        (pss_one (ps_augS (pv 2) (pv 3) (get_listK (K := K) rfl) (pv 4) ip_add set_list)))))
        (pss_cons (ps_for PassesOwn.leaving rfl (pi_listK (K := K) rfl (pv 2)) (pg_name (i := 5) sc_added_strands.nd rfl (Or.inl rfl))
        (pss_one (ps_expr (pe_own o_check_number (hr.mono (by decide)) rfl passE (pa_cons (pv 5) pa_nil st_Name)))))
        (pss_one (ps_ret (pv 2))))))), ?_⟩
    have sl : (10 : Nat) ≤ sizeLine := by decide
    refine ⟨_, rfl, _, _, rfl, .inl hv, _, _, rfl, rfl, _, rfl, ?_⟩
    rw [List.length_map]
    by_cases h12 : 12 < ps.length
    · refine ifP (by simp; omega) ?_
      exact ⟨by show 1 ≤ sizeLine; decide, ke (fun ok => absurd ok.len (by omega)) _ (Same.refl _)⟩
    refine ifN (by simp; omega) ?_
    refine ⟨by show 1 ≤ sizeLine; decide, fun t ht => ?_⟩
    refine ⟨_, rfl, t, (n : Int), _, rfl, rfl, upd_same, by omega, by omega, ?_, fun l hl => ?_⟩
    · show 1 * _ ≤ sizeLine
      omega
    have hl0 : H l = none := (Same.upd ht).free hl
    have S1 : Same H (upd (upd H t (.lst [.int 0])) l (.lst (List.replicate (n : Int).toNat [V.int 0]).flatten)) := (Same.upd ht).trans (Same.upd hl)
    have e0 : (List.replicate (n : Int).toNat [V.int 0]).flatten = (sums (ps.take 0) n).map V.int := by
      rw [List.take_zero, sums_nil, List.map_replicate]
      simp
    have sumS : ∀ i (b : Nat), (sumAt (ps.take i) b).natAbs ≤ 300000 := fun i b => by
      unfold sumAt
      have : ∀ (l : List (Int × Int)), (∀ p ∈ l, p.2.natAbs ≤ 2000) → ((l.filter fun p : Int × Int => p.1 == (b : Int)).map fun p : Int × Int => p.2).sum.natAbs ≤ l.length * 2000 := fun l => by
        induction l with
        | nil => exact fun _ => Nat.le_refl _
        | cons p r ih =>
          intro h
          have a1 := h p List.mem_cons_self
          have a2 := ih fun q hq => h q (List.mem_cons_of_mem _ hq)
          rw [List.filter_cons]
          split
          · rw [List.map_cons, List.sum_cons, List.length_cons]
            omega
          · rw [List.length_cons]
            omega
      have h := this (ps.take i) fun p hp => (hsm p (List.take_subset _ _ hp)).2
      have hl := List.length_take_le i ps
      have hl' : (ps.take i).length ≤ 100 := by rw [List.length_take]; omega
      omega
    refine ⟨_, rfl, a, rfl, ⟨_, S1.seq hq⟩, for_list (K := K) (a := a) (xs := xs) (fun i σ H2 => Same H H2 ∧ H2 l = some (.lst ((sums (ps.take i) n).map V.int)) ∧ (∀ p ∈ ps.take i, 0 ≤ p.1 ∧ p.1 < n ∧ p.2.natAbs ≤ 9) ∧ ∃ z1 z2 z3, σ = [some (.ref a), some (.int n), some (.ref l), z1, z2, z3])
      ⟨S1, by rw [← e0]; exact upd_same, fun p hp => (by simp at hp), _, _, _, rfl⟩ (fun i σ H2 _ ⟨S, _⟩ => S.seq hq) ?_ ?_⟩
    · rintro i x σ H2 hi ⟨S, hL, hall, z1, z2, z3, rfl⟩
      obtain ⟨d, e1, hx⟩ := (hd.same S).at hi
      rw [List.getElem?_map] at e1
      cases hp : ps[i]? with
      | none => rw [hp] at e1; cases e1
      | some p =>
        rw [hp] at e1
        cases e1
        obtain ⟨t', rfl, hT⟩ := has_pair hx
        obtain ⟨p1, p2⟩ := p
        have hm := List.mem_of_getElem? hp
        have hps := hsm _ hm
        dsimp only at hps hT
        refine ⟨t', _, rfl, hT, rfl, _, _, rfl, _, _, rfl, rfl, ?_⟩
        refine ⟨_, rfl, _, _, rfl, rfl, _, rfl, ?_⟩
        by_cases h0 : p1 < 0
        · refine ifP (by simp; omega) ?_
          exact ⟨_, rfl, _, rfl, small_log hps.1, fun y => ⟨by show 1 ≤ sizeLine; decide, ke (fun ok => absurd (ok.each _ hm).1 (by show ¬ (0 ≤ p1); omega)) _ S⟩⟩
        refine ifN (by simp; omega) ?_
        refine ⟨_, rfl, _, rfl, _, _, rfl, rfl, _, rfl, ?_⟩
        by_cases hn : (n : Int) ≤ p1
        · refine ifP (by simp; omega) ?_
          exact ⟨_, rfl, _, rfl, small_log hps.1, fun y => ⟨by show 1 ≤ sizeLine; decide, ke (fun ok => absurd (ok.each _ hm).2.1 (by show ¬ (p1 < n); omega)) _ S⟩⟩
        refine ifN (by simp; omega) ?_
        refine ⟨_, rfl, p2, rfl, (by unfold smallI; omega), fun h9 => ?_, fun h9 => ke (fun ok => h9 (ok.each _ hm).2.2) _ S⟩
        obtain ⟨bn, rfl⟩ : ∃ bn : Nat, p1 = bn := ⟨p1.toNat, by omega⟩
        have hb : bn < n := by omega
        have eg : ((sums (ps.take i) n).map V.int)[bn]? = some (.int (sumAt (ps.take i) bn)) := by rw [List.getElem?_map, sums_get _ _ _ hb]; rfl
        refine ⟨_, rfl, _, rfl, l, _, bn, _, rfl, rfl, SqL.of hL, eg, _, rfl, _, _, rfl, rfl, l, _, _, bn, rfl, rfl, hL, ixN_nat (by simp [sums_len]; exact hb), ?_⟩
        have et : ps.take (i + 1) = ps.take i ++ [((bn : Int), p2)] := by
          obtain ⟨hi', ei⟩ := List.getElem?_eq_some_iff.mp hp
          rw [List.take_succ_eq_append_getElem hi', ei]
        refine ⟨same_write S hl0, ?_, fun p hp' => ?_, _, _, _, rfl⟩
        · rw [upd_same, et, sums_snoc _ _ _ _ hb, List.map_set]
        · rw [et] at hp'
          rcases List.mem_append.mp hp' with h | h
          · exact hall p h
          · rw [List.mem_singleton.mp h]
            exact ⟨by omega, by show (bn : Int) < n; omega, h9⟩
    · rintro σ H2 ⟨S, hL, hall, z1, z2, z3, rfl⟩
      have el : xs.length = ps.length := by rw [hd.len, List.length_map]
      rw [el, List.take_length] at hL hall
      refine ⟨_, rfl, l, rfl, ⟨_, SqL.of hL⟩, for_list (K := K) (a := l) (xs := (sums ps n).map V.int) (fun i σ H3 => H3 = H2 ∧ (∀ x ∈ (sums ps n).take i, x.natAbs ≤ 9) ∧ ∃ z1 z2 z3, σ = [some (.ref a), some (.int n), some (.ref l), z1, z2, z3]) ⟨rfl, fun p hp => (by simp at hp), _, _, _, rfl⟩ (fun i σ H3 _ ⟨e, _⟩ => by rw [e]; exact SqL.of hL) ?_ ?_⟩
      · rintro i x σ H3 hi ⟨rfl, hal2, z1, z2, z3, rfl⟩
        rw [List.getElem?_map] at hi
        cases hw : (sums ps n)[i]? with
        | none => rw [hw] at hi; cases hi
        | some x' =>
          rw [hw] at hi
          cases hi
          have hm := List.mem_of_getElem? hw
          have hb300 : x'.natAbs ≤ 300000 := by
            obtain ⟨b, _, rfl⟩ := List.mem_map.mp hm
            have := sumS ps.length b
            rw [List.take_length] at this
            exact this
          refine ⟨_, rfl, x', rfl, (by unfold smallI; omega), fun h9 => ?_, fun h9 => ke (fun ok => h9 (ok.sum _ hm)) _ S⟩
          refine ⟨rfl, fun y hy => ?_, _, _, _, rfl⟩
          obtain ⟨hi', ei⟩ := List.getElem?_eq_some_iff.mp hw
          rw [List.take_succ_eq_append_getElem hi', ei] at hy
          rcases List.mem_append.mp hy with h | h
          · exact hal2 y h
          · rw [List.mem_singleton.mp h]
            exact h9
      · rintro σ H3 ⟨rfl, hal2, z1, z2, z3, rfl⟩
        rw [List.length_map, List.take_length] at hal2
        refine ⟨_, rfl, ?_⟩
        exact k ⟨by omega, hall, hal2⟩ _ _ S (ints_new hl0 hL)
theorem sc_Hoist___init__ : FnScope ["self", "weights", "ropes"] ["self", "weights", "ropes"] (defScope s_Hoist___init__) := ⟨rfl, rfl, rfl, by decide +kernel, rfl, by decide +kernel, by decide +kernel⟩
theorem ok_Hoist___init__ {P : Program} {w : World} {K : PySem.W.Frag} {mg : Str → Option Value} {base : Heap} {C : Ad} (T : Txt K mg C) (D : DefI K C.Hoist "Hoist.__init__" s_Hoist___init__ ["self", "weights", "ropes"])
    (o_added_strands : Own P w K mg base (CXE P w) "added_strands" ["rope", "many_bodies"] 2 (spAddedStrandsE K C))
    (o_check_weights : Own P w K mg base (CXE P w) "check_weights" ["weights"] 1 (spCheckWeightsE K C)) :
    OwnI P w K mg base (CXE P w) C.Hoist ["self", "weights", "ropes"] 3 (spHoistE K C) := by
  refine D.ownE sc_Hoist___init__ (fun vs H Q E h => ?_) (fun f cdv A outer s H vs Q E hr h => ?_)
  · obtain ⟨a, _, _, _, _, _, rfl, _⟩ := h
    rfl
  · obtain ⟨x, dx, vw, vr, ws, rs, rfl, hx, hw, hr', hsw, hwl, hrl, hsr, k, ke⟩ := h
    obtain ⟨aw, rfl, hqw⟩ := has_ints hw
    obtain ⟨ar, xr, rfl, hqr, hdr⟩ := hr'.oflst
    refine ⟨_, (pss_cons (ps_expr (pe_own o_check_weights (hr.mono (by decide)) rfl passE (pa_cons (pv 1) pa_nil st_Name)))
        (pss_cons (ps_if (pt_cmpR op_gt (pe_callB (call_lenK (K := K) rfl) rfl T.b_len bt_len (pa_cons (pv 2) pa_nil st_Name)) (pe_globI rfl T.g_MOST_ROPES) (nomark _))
        (pss_one (ps_raise T.e_NoHoist T.c_NoHoist rfl (pa_cons pe_str pa_nil st_Constant)))
        pss_nil)
        (pss_cons (ps_fldK (K := K) rfl (pv 0) (pe_callTy (call_listK (K := K) rfl) rfl T.b_list bt_list (pa_cons (pv 1) pa_nil st_Name)) rfl)
        (pss_one (ps_fldK (K := K) rfl (pv 0) (pe_compE (tg := ["rope"]) (cap := ["weights"]) (caps := [1]) (CompSc.of_ok (by kernel_rfl)) rfl (gk_name (by decide)) (pi_listK (K := K) rfl (pv 2)) (fun _ _ _ _ _ => (pg_name (i := 0) (show ((["rope"] : List Str) ++ (["weights"] : List Str)).Nodup by decide +kernel) rfl (Or.inl rfl))) (fun _ _ _ _ _ => pts_nil) (fun _ _ _ _ _ => (pe_own o_added_strands (hr.mono (by decide)) rfl passC (pa_cons (pv 0) (pa_cons (pe_callB (call_lenK (K := K) rfl) rfl T.b_len bt_len (pa_cons (pv 1) pa_nil st_Name)) pa_nil st_Call) st_Name)))) rfl))))), ?_⟩
    refine ⟨_, rfl, _, ws, rfl, hw, hsw, fun wok => ?_, fun nw => ke (fun hv => nw hv.toWOK) _ fun b o e _ => e⟩
    have h4 := wok.n4
    refine ⟨_, rfl, _, _, rfl, .inl hr', _, _, rfl, rfl, _, rfl, ?_⟩
    rw [List.length_map]
    by_cases h5 : 5 < rs.length
    · refine ifP (by simp; omega) ?_
      exact ⟨by show 1 ≤ sizeLine; decide, ke (fun hv => absurd hv.r5 (by omega)) _ fun b o e _ => e⟩
    refine ifN (by simp; omega) ?_
    refine ⟨_, rfl, _, _, rfl, .inl hqw, fun l hl => ?_⟩
    have xl : x ≠ l := ne_of_none hx hl
    have S1 : Same H (upd H l (.lst (ws.map V.int))) := Same.upd hl
    refine ⟨_, rfl, x, _, dx, _, rfl, S1 _ _ hx, T.l_Hoist, T.n_body_weights, by decide, ?_⟩
    have ni : NoSeq (upd H l (.lst (ws.map V.int)) x) := by rw [S1 _ _ hx]; exact noSeq_ins
    have hqr2 := (S1.seq hqr).write (o := .ins C.Hoist dx (putF "body_weights" (.ref l) [])) ni
    have hw2 := (hw.same S1).write (o := .ins C.Hoist dx (putF "body_weights" (.ref l) [])) ni
    have hdr2 := (hdr.same S1).write (o := .ins C.Hoist dx (putF "body_weights" (.ref l) [])) ni
    have lr : xr.length = rs.length := by rw [hdr.len, List.length_map]
    have sl : (10 : Nat) ≤ sizeLine := by decide
    have keep : ∀ H3, Same (upd (upd H l (.lst (ws.map V.int))) x (.ins C.Hoist dx (putF "body_weights" (.ref l) []))) H3 → ∀ b o, H b = some o → b ≠ x → H3 b = some o := fun H3 S3 b o e hb => by
      refine S3 _ _ ?_
      rw [upd_ne hb]
      exact S1 _ _ e
    refine ⟨_, rfl, ar, rfl, ⟨_, hqr2⟩, fun l2 hl2 => comp_listP (K := K) (P := fun i => ∀ ps, rs[i]? = some ps → ROK ws.length ps) (ds := rs.map fun ps => intsD (sums ps ws.length)) hqr2 (by rw [List.length_map, lr]) hl2 (by omega) ?_ ?_⟩
    · intro i y H3 d R ey ed S3 kk
      obtain ⟨d', e1, hy⟩ := hdr2.at ey
      rw [List.getElem?_map] at e1 ed
      cases hp : rs[i]? with
      | none => rw [hp] at e1; cases e1
      | some ps =>
        rw [hp] at e1 ed
        cases e1
        cases ed
        have hm := List.mem_of_getElem? hp
        refine ⟨_, rfl, _, rfl, _, _, rfl, .inl (hw2.same S3), ?_⟩
        refine ⟨_, ps, ws.length, by rw [List.length_map]; rfl, h4, hy.same S3, hsr ps hm, fun rok => kk (fun ps' e => by rw [hp] at e; cases e; exact rok), fun nrok H4 S4 => ke (fun hv => nrok (hv.each ps hm)) _ (keep _ (S3.trans S4))⟩
    · intro H3 S3 hall N3
      have hvv : HV ws rs := ⟨wok, by omega, fun ps hps => by
        obtain ⟨i, hi, e⟩ := List.getElem_of_mem hps
        exact hall i (by omega) ps (by rw [List.getElem?_eq_getElem hi, e])⟩
      obtain ⟨bq, ys, e, nb, hb, hbd⟩ := N3.oflst
      cases e
      have hx3 : H3 x = some (.ins C.Hoist dx (putF "body_weights" (.ref l) [])) := S3 _ _ upd_same
      refine ⟨_, rfl, x, _, dx, _, rfl, hx3, T.l_Hoist, T.n_rope_strands, (by show 1 < 1000; decide), ?_⟩
      have ni3 : NoSeq (H3 x) := by rw [hx3]; exact noSeq_ins
      have ll : upd (upd H l (.lst (ws.map V.int))) x (.ins C.Hoist dx (putF "body_weights" (.ref l) [])) l = some (.lst (ws.map V.int)) := by rw [upd_ne xl.symm, upd_same]
      refine k hvv _ (fun b o e hb => ?_) ⟨⟨x, dx, l, l2, rfl, by rw [upd_same, hflds_put], NewD.write (some_ne hx) ni3.tup (ints_new hl (S3 _ _ ll)), ?_⟩, ⟨wok, by rw [List.length_map]; omega, fun row hrow => ?_, fun row hrow y hy => ?_⟩⟩
      · rw [upd_ne hb]
        exact keep _ S3 b o e hb
      · have e : (rs.map fun ps => intsD (sums ps ws.length)) = (rs.map fun ps => sums ps ws.length).map intsD := by rw [List.map_map]; rfl
        rw [tblD, ← e]
        refine NewD.write (some_ne hx) ni3.tup (NewD.go (fun a' xs' z q => ⟨?_, q⟩) (fun _ _ q => q) _ N3)
        have z1 : a' ≠ x := fun z' => by rw [z', upd_same] at z; cases z
        rw [upd_ne z1] at z
        exact S1.free z
      · obtain ⟨ps, _, rfl⟩ := List.mem_map.mp hrow
        exact sums_len _ _
      · obtain ⟨ps, hps, rfl⟩ := List.mem_map.mp hrow
        exact (hvv.each ps hps).sum y hy


def spCell (K : PySem.W.Frag) : Sp := fun vs H Q _ => ∃ (v : V) (ns : List Int) (k : Nat), vs = [v, .int k] ∧ HasD K H v (intsD ns) ∧ Q (.int (ns.getD k 0)) H
def spWhole : Sp := fun vs H Q _ => ∃ i : Int, vs = [.int i] ∧ Q (.bl true) H
theorem sc__law_cell_at : FnScope ["script", "k"] ["script", "k"] (defScope s__law_cell_at) := ⟨rfl, rfl, rfl, by decide +kernel, rfl, by decide +kernel, by decide +kernel⟩
theorem ok__law_cell_at {P : Program} {w : World} {K : PySem.W.Frag} {mg : Str → Option Value} {base : Heap} {C : Ad} (T : Txt K mg C) (D : Def K mg "_law_cell_at" "_law_cell_at" s__law_cell_at ["script", "k"]) :
    Own P w K mg base CX0 "_law_cell_at" ["script", "k"] 1 (spCell K) := by
  refine D.own sc__law_cell_at (fun vs H Q E h => ?_) (fun f cdv A outer s H vs Q E hr h => ?_)
  · obtain ⟨a, ns, n, rfl, _⟩ := h
    rfl
  · obtain ⟨v, ns, n, rfl, hv, k⟩ := h
    refine ⟨_, (pss_cons (ps_if (pt_cmpR op_lt (pv 1) (pe_callB (call_lenK (K := K) rfl) rfl T.b_len bt_len (pa_cons (pv 0) pa_nil st_Name)) (nomark _))
        (pss_one (ps_ret (pe_ix (ix_K (K := K) rfl) (pv 0) (pv 1) (fun _ _ => rfl))))
        pss_nil)
        (pss_one (ps_ret pe_int))), ?_⟩
    refine ⟨_, rfl, _, rfl, _, _, rfl, .inl hv, _, _, rfl, rfl, _, rfl, ?_⟩
    rw [List.length_map]
    by_cases hn : n < ns.length
    · refine ifP (by simp <;> omega) ?_
      have e : (ns.map PyData.int)[n]? = some (.int (ns.getD n 0)) := by
        rw [List.getElem?_map, List.getD_eq_getElem?_getD, List.getElem?_eq_getElem hn]
        rfl
      refine ⟨_, rfl, _, rfl, _, _, _, .inl hv, rfl, atI_nat e, fun u hu => ?_⟩
      rw [hu.ofint]
      exact k
    · refine ifN (by simp <;> omega) ?_
      have e : ns.getD n 0 = 0 := by
        rw [List.getD_eq_getElem?_getD, List.getElem?_eq_none (by omega)]
        rfl
      rw [e] at k
      exact k
theorem sc__law_whole : FnScope ["found"] ["found"] (defScope s__law_whole) := ⟨rfl, rfl, rfl, by decide +kernel, rfl, by decide +kernel, by decide +kernel⟩
theorem ok__law_whole {P : Program} {w : World} {K : PySem.W.Frag} {mg : Str → Option Value} {base : Heap} {C : Ad} (T : Txt K mg C) (D : Def K mg "_law_whole" "_law_whole" s__law_whole ["found"]) :
    Own P w K mg base CX0 "_law_whole" ["found"] 1 (spWhole) := by
  refine D.own sc__law_whole (fun vs H Q E h => ?_) (fun f cdv A outer s H vs Q E hr h => ?_)
  · obtain ⟨i, rfl, _⟩ := h
    rfl
  · obtain ⟨i, rfl, k⟩ := h
    refine ⟨_, (pss_one (ps_ret (pe_and (pe_callB (call_isiD (K := K) rfl) rfl T.b_isinstance bt_isinstance (pa_cons (pv 0) (pa_cons (pe_bltn (v := .ty "int") rfl T.b_int bt_int rfl) pa_nil st_Name) st_Name)) (pe_one (pe_not (pe_callB (call_isiD (K := K) rfl) rfl T.b_isinstance bt_isinstance (pa_cons (pv 0) (pa_cons (pe_bltn (v := .ty "bool") rfl T.b_bool bt_bool rfl) pa_nil st_Name) st_Name))))))), ?_⟩
    refine ⟨_, rfl, _, _, .int i, _, rfl, .int i, kit_ii K, _, rfl, iteT ?_⟩
    exact ⟨_, rfl, _, _, .int i, _, rfl, .int i, kit_ib K, _, rfl, k⟩

/-! ### k02: the law's own helpers -/
def kindsD (l : List Bool) : PyData := .list (l.map .bool)
def noHoistL : List Bool := [true, false, false, false, false, false, true]
def spKind (K : PySem.W.Frag) (C : Ad) : Sp := fun vs H Q _ => ∃ a : Addr, vs = [.ref a] ∧ H a = some (.ext (ExcAt a C.NoHoist)) ∧ Res K H Q (kindsD noHoistL)
/-- bounds that the drawn and the spoiled keep to -/
def BdP (ps : List (Int × Int)) : Prop := ps.length ≤ 40 ∧ ∀ p ∈ ps, p.1.natAbs ≤ 1001 ∧ p.2.natAbs ≤ 1001
def BdW (ws : List Int) : Prop := ws.length ≤ 20 ∧ ∀ w ∈ ws, w.natAbs ≤ 1001
def BdR (rs : List (List (Int × Int))) : Prop := rs.length ≤ 20 ∧ ∀ ps ∈ rs, BdP ps
theorem BdP.small {ps : List (Int × Int)} (h : BdP ps) : smallPs ps := ⟨by have := h.1; omega, fun p hp => by
  have := h.2 p hp
  exact ⟨by unfold smallI; omega, by omega⟩⟩
def tabOf (ws : List Int) (rs : List (List (Int × Int))) : List (List Int) := rs.map fun ps => sums ps ws.length
def spMade (K : PySem.W.Frag) (C : Ad) : Sp := fun vs H Q _ => ∃ (vw vr : V) (ws : List Int) (rs : List (List (Int × Int))), vs = [vw, vr] ∧ HasD K H vw (intsD ws) ∧ HasD K H vr (ropesD rs) ∧ BdW ws ∧ BdR rs ∧
  (HV ws rs → ∀ p hv kl H', Same H H' → SqT K H' p [hv, .ref kl] → H kl = none → H' kl = some (.lst []) → HoistNew K C H H' hv ws (tabOf ws rs) → Q (.ref p) H') ∧ (¬ HV ws rs → Res K H Q (.tuple [.none, kindsD noHoistL]))
theorem sc__law_kind : FnScope ["e", "kinds"] ["e"] (defScope s__law_kind) := ⟨rfl, rfl, rfl, by decide +kernel, rfl, by decide +kernel, by decide +kernel⟩
theorem ok__law_kind {P : Program} {w : World} {K : PySem.W.Frag} {mg : Str → Option Value} {base : Heap} {C : Ad} (T : Txt K mg C) (D : Def K mg "_law_kind" "_law_kind" s__law_kind ["e"]) :
    OwnH P w K mg base "_law_kind" ["e"] 1 (spKind K C) := by
  refine D.ownH sc__law_kind (fun vs H Q E h => ?_) (fun f cdv A outer s H vs Q E hr h => ?_)
  · obtain ⟨a, rfl, _⟩ := h
    rfl
  · obtain ⟨a, rfl, ha, k⟩ := h
    refine ⟨_, (pss_cons (ps_set (i := 1) sc__law_kind.nd rfl (Or.inl rfl) (pe_lst (pa_cons (pe_callB (call_isiXK (K := K) rfl) rfl T.b_isinstance bt_isinstance (pa_cons (pv 0) (pa_cons (pe_glob (v := .ref C.NoHoist) rfl T.c_NoHoist rfl) pa_nil st_Name) st_Name)) (pa_cons (pe_callB (call_isiXK (K := K) rfl) rfl T.b_isinstance bt_isinstance (pa_cons (pv 0) (pa_cons (pe_glob (v := .ref C.NoRope) rfl T.c_NoRope rfl) pa_nil st_Name) st_Name)) (pa_cons (pe_callB (call_isiXK (K := K) rfl) rfl T.b_isinstance bt_isinstance (pa_cons (pv 0) (pa_cons (pe_glob (v := .ref C.NoBody) rfl T.c_NoBody rfl) pa_nil st_Name) st_Name)) (pa_cons (pe_callB (call_isiXK (K := K) rfl) rfl T.b_isinstance bt_isinstance (pa_cons (pv 0) (pa_cons (pe_glob (v := .ref C.Sinks) rfl T.c_Sinks rfl) pa_nil st_Name) st_Name)) pa_nil st_Call) st_Call) st_Call) st_Call)))
        (pss_one (ps_ret (pe_op op_cat (pv 1) (pe_lst (pa_cons (pe_callB (call_isiXK (K := K) rfl) rfl T.b_isinstance bt_isinstance (pa_cons (pv 0) (pa_cons (pe_glob (v := .ref C.TooMany) rfl T.c_TooMany rfl) pa_nil st_Name) st_Name)) (pa_cons (pe_callB (call_isiXK (K := K) rfl) rfl T.b_isinstance bt_isinstance (pa_cons (pv 0) (pa_cons (pe_glob (v := .ref C.BadText) rfl T.c_BadText rfl) pa_nil st_Name) st_Name)) (pa_cons (pe_callB (call_isiXK (K := K) rfl) rfl T.b_isinstance bt_isinstance (pa_cons (pv 0) (pa_cons (pe_bltn (v := .ty "ValueError") rfl T.b_ValueError bt_ValueError rfl) pa_nil st_Name) st_Name)) pa_nil st_Call) st_Call) st_Call)))))), ?_⟩
    refine ⟨_, rfl, a, C.NoHoist, _, _, rfl, .inr ⟨_, rfl⟩, ha, T.i_NoHoist, T.kit_NoHoist_NoHoist, _, rfl, a, C.NoHoist, _, _, rfl, .inr ⟨_, rfl⟩, ha, T.i_NoHoist, T.kit_NoHoist_NoRope, _, rfl, a, C.NoHoist, _, _, rfl, .inr ⟨_, rfl⟩, ha, T.i_NoHoist, T.kit_NoHoist_NoBody, _, rfl, a, C.NoHoist, _, _, rfl, .inr ⟨_, rfl⟩, ha, T.i_NoHoist, T.kit_NoHoist_Sinks, by show 4 ≤ sizeLine; decide, fun l1 nl1 => ?_⟩
    have ha1 := Same.upd nl1 a _ ha (o := .lst (noHoistL.take 4 |>.map V.bl))
    refine ⟨_, rfl, _, rfl, a, C.NoHoist, _, _, rfl, .inr ⟨_, rfl⟩, ha1, T.i_NoHoist, T.kit_NoHoist_TooMany, _, rfl, a, C.NoHoist, _, _, rfl, .inr ⟨_, rfl⟩, ha1, T.i_NoHoist, T.kit_NoHoist_BadText, _, rfl, a, C.NoHoist, _, _, rfl, .inl ⟨_, rfl⟩, ha1, T.i_NoHoist, T.kit_NoHoist_V, by show 3 ≤ sizeLine; decide, fun l2 nl2 => ?_⟩
    refine ⟨l1, l2, _, _, rfl, rfl, Same.upd nl2 l1 _ upd_same, upd_same, by show 4 + 3 ≤ sizeLine; decide, fun l3 nl3 => ?_⟩
    have Sx := (Same.upd nl1 (o := .lst (noHoistL.take 4 |>.map V.bl))).trans (Same.upd nl2 (o := .lst [V.bl false, V.bl false, V.bl true]))
    exact k _ _ (Sx.trans (Same.upd nl3)) (.lst (Sx.free nl3) upd_same (NewDs.flat _ (flatDs_map _ (fun _ => rfl) _) (.cons (.bl _) (.cons (.bl _) (.cons (.bl _) (.cons (.bl _) (.cons (.bl _) (.cons (.bl _) (.cons (.bl _) .nil)))))))))
theorem mk_same {H : Hp} {x dx C : Addr} (nx : H x = none) (nd : H dx = none) (ne : dx ≠ x) : Same H (upd (upd H dx (.own x)) x (.ins C dx [])) :=
  (Same.upd nd).trans (Same.upd (by rw [upd_ne ne.symm]; exact nx))
theorem sc__law_made : FnScope ["weights", "ropes", "found", "kinds", "e"] ["weights", "ropes"] (defScope s__law_made) := ⟨rfl, rfl, rfl, by decide +kernel, rfl, by decide +kernel, by decide +kernel⟩
theorem ok__law_made {P : Program} {w : World} {K : PySem.W.Frag} {mg : Str → Option Value} {base : Heap} {C : Ad} (T : Txt K mg C) (D : Def K mg "_law_made" "_law_made" s__law_made ["weights", "ropes"])
    (o_Hoist___init__ : OwnI P w K mg base (CXE P w) C.Hoist ["self", "weights", "ropes"] 3 (spHoistE K C))
    (o__law_kind : OwnH P w K mg base "_law_kind" ["e"] 1 (spKind K C)) :
    Own P w K mg base CX0 "_law_made" ["weights", "ropes"] 5 (spMade K C) := by
  refine D.own sc__law_made (fun vs H Q E h => ?_) (fun f cdv A outer s H vs Q E hr h => ?_)
  · obtain ⟨a, _, _, _, rfl, _⟩ := h
    rfl
  · obtain ⟨vw, vr, ws, rs, rfl, hw, hr', bw, br, k, ke⟩ := h
    refine ⟨_, (pss_cons (ps_set (i := 2) sc__law_made.nd rfl (Or.inl rfl) pe_non)
        (pss_cons (ps_set (i := 3) sc__law_made.nd rfl (Or.inl rfl) (pe_lst pa_nil))
        (pss_consJ (ps_try (i := 4) rfl rfl rfl sc__law_made.nd rfl rfl rfl T.c_HoistError
        (ptbs_cons (ptb_set (i := 2) sc__law_made.nd rfl (Or.inl rfl) (pex_ownI (f := 0) o_Hoist___init__ (hr.mono (by decide)) rfl T.c_Hoist (pa_cons (pv 0) (pa_cons (pv 1) pa_nil st_Name) st_Name))) ptbs_nil)
        (fun _ => (pss_one (ps_set (i := 3) sc__law_made.nd rfl (Or.inl rfl) (pe_ownH o__law_kind (Room.hand (hr.mono (by decide))) rfl (pa_cons (pv 4) pa_nil st_Name))))))
        (pss_one (ps_ret (pe_tup (pa_cons (pv 2) (pa_cons (pv 3) pa_nil st_Name) st_Name))))))), ?_⟩
    refine ⟨by show 0 ≤ sizeLine; decide, fun k0 nk0 => ?_⟩
    have S0 := Same.upd nk0 (o := .lst [])
    refine ⟨fun σ' H' => ∃ hv kv z, Same H H' ∧ σ' = [some vw, some vr, some hv, some kv, z] ∧ ((HV ws rs ∧ ∃ kl, kv = .ref kl ∧ H kl = none ∧ H' kl = some (.lst []) ∧ HoistNew K C H H' hv ws (tabOf ws rs)) ∨ (¬ HV ws rs ∧ hv = .non ∧ NewD K H H' kv (kindsD noHoistL))), ?_, ?_⟩
    · refine ⟨_, rfl, _, rfl, ?_⟩
      intro x dx nx nd ne
      have S1 := mk_same (C := C.Hoist) nx nd ne
      refine ⟨x, dx, vw, vr, ws, rs, rfl, upd_same, (hw.same S0).same S1, (hr'.same S0).same S1, fun w h => by have := bw.2 w h; unfold smallI; omega, by have := bw.1; omega, by have := br.1; omega, fun ps h => (br.2 ps h).small, fun hv H3 kp hN => ⟨rfl, ?_⟩, fun nv H3 kp => ⟨_, rfl, ?_⟩⟩
      · have S3 : Same (upd H k0 (.lst [])) H3 := fun b o e => kp b o (S1 b o e) (ne_of_none e nx)
        exact ⟨_, _, _, S0.trans S3, rfl, .inl ⟨hv, k0, rfl, nk0, S3 _ _ upd_same, hN.wider (S0.trans S1)⟩⟩
      · have S3 : Same (upd H k0 (.lst [])) H3 := fun b o e => kp b o (S1 b o e) (ne_of_none e nx)
        refine ⟨T.exm_NoHoist, fun a na => ?_⟩
        have Sa := Same.upd na (o := .ext (ExcAt a C.NoHoist))
        refine ⟨_, rfl, a, rfl, upd_same, fun r H4 S4 N4 => ?_⟩
        exact ⟨_, _, _, ((S0.trans S3).trans Sa).trans S4, rfl, .inr ⟨nv, rfl, N4.wider ((S0.trans S3).trans Sa)⟩⟩
    · rintro σ' H' ⟨hv, kv, z, S, rfl, h⟩
      refine ⟨_, rfl, _, rfl, by show 2 ≤ sizeLine; decide, fun p np => ?_⟩
      have Sp := Same.upd np (o := .tup [hv, kv])
      rcases h with ⟨hh, kl, rfl, nk, hk, hN⟩ | ⟨nv, rfl, N⟩
      · exact k hh p hv kl _ (S.trans Sp) (SqT.of upd_same) nk (Sp _ _ hk) (hN.later Sp)
      · exact ke nv _ _ (S.trans Sp) (.tup (SqT.of upd_same) (.cons .non (.cons (N.later Sp) .nil)))
def spRight (K : PySem.W.Frag) : Sp := fun vs H Q _ => ∃ (vw vt vr : V) (ws : List Int) (rs : List (List (Int × Int))), vs = [vw, vt, vr] ∧ HasD K H vw (intsD ws) ∧ HasD K H vt (tblD (tabOf ws rs)) ∧ HasD K H vr (ropesD rs) ∧ BdW ws ∧ BdR rs ∧ (HV ws rs → Q (.bl true) H) ∧ (¬ HV ws rs → Q (.bl false) H)
theorem sc__law_right : FnScope ["weights", "table", "ropes", "pairs", "body", "number", "row"] ["weights", "table", "ropes"] (defScope s__law_right) := ⟨rfl, rfl, rfl, by decide +kernel, rfl, by decide +kernel, by decide +kernel⟩
theorem ok__law_right {P : Program} {w : World} {K : PySem.W.Frag} {mg : Str → Option Value} {base : Heap} {C : Ad} (T : Txt K mg C) (D : Def K mg "_law_right" "_law_right" s__law_right ["weights", "table", "ropes"]) :
    Own P w K mg base CX0 "_law_right" ["weights", "table", "ropes"] 1 (spRight K) := by
  refine D.own sc__law_right (fun vs H Q E h => ?_) (fun f cdv A outer s H vs Q E hr h => ?_)
  · obtain ⟨a, _, _, _, _, rfl, _⟩ := h
    rfl
  · obtain ⟨vw, vt, vr, ws, rs, rfl, hw, ht, hr', bw, br, k, ke⟩ := h
    refine ⟨_, (pss_cons (ps_if (PW.pt (pw_or (pt_not (pt_chain op_le op_le pe_int (pe_callB (call_lenK (K := K) rfl) rfl T.b_len bt_len (pa_cons (pv 0) pa_nil st_Name)) pe_int)) (pw_or (pt_cmpR op_gt (pe_callB (call_lenK (K := K) rfl) rfl T.b_len bt_len (pa_cons (pv 2) pa_nil st_Name)) pe_int (nomark _)) (pw_or (pt_cmpR op_lt (pe_callB (call_minK (K := K) rfl rfl) rfl T.b_min bt_min (pa_cons (pv 0) pa_nil st_Name)) pe_int (nomark _)) (pw_or1 (pt_cmpR op_gt (pe_callB (call_maxK (K := K) rfl rfl) rfl T.b_max bt_max (pa_cons (pv 0) pa_nil st_Name)) pe_int (nomark _)))))))
        (pss_one (ps_ret pe_bl))
        pss_nil)
        (pss_cons (ps_for PassesOwn.never rfl (pi_listK (K := K) rfl (pv 2)) (pg_name (i := 3) sc__law_right.nd rfl (Or.inl rfl))
        (pss_cons (ps_if (pt_cmpR op_gt (pe_callB (call_lenK (K := K) rfl) rfl T.b_len bt_len (pa_cons (pv 3) pa_nil st_Name)) pe_int (nomark _))
        (pss_one (ps_ret pe_bl))
        pss_nil)
        (pss_one (ps_for PassesOwn.never rfl (pi_listK (K := K) rfl (pv 3)) (pg_tupK (K := K) rfl rfl (pgs_cons (pg_name (i := 4) sc__law_right.nd rfl (Or.inl rfl)) (pgs_cons (pg_name (i := 5) sc__law_right.nd rfl (Or.inl rfl)) pgs_nil)))
        (pss_one (ps_if (PW.pt (pw_or (pt_not (pt_chain op_le op_lt pe_int (pv 4) (pe_callB (call_lenK (K := K) rfl) rfl T.b_len bt_len (pa_cons (pv 0) pa_nil st_Name)))) (pw_or1 (pt_not (pt_chain op_le op_le (pe_un un_neg pe_int) (pv 5) pe_int)))))
        (pss_one (ps_ret pe_bl))
        pss_nil))))))
        (pss_cons (ps_for PassesOwn.never rfl (pi_listK (K := K) rfl (pv 1)) (pg_name (i := 6) sc__law_right.nd rfl (Or.inl rfl))
        (pss_one (ps_if (PW.pt (pw_or (pt_cmpR op_lt (pe_callB (call_minK (K := K) rfl rfl) rfl T.b_min bt_min (pa_cons (pv 6) pa_nil st_Name)) (pe_un un_neg pe_int) (nomark _)) (pw_or1 (pt_cmpR op_gt (pe_callB (call_maxK (K := K) rfl rfl) rfl T.b_max bt_max (pa_cons (pv 6) pa_nil st_Name)) pe_int (nomark _)))))
        (pss_one (ps_ret pe_bl))
        pss_nil)))
        (pss_one (ps_ret pe_bl))))), ?_⟩
    refine ⟨_, rfl, _, _, rfl, .inl hw, _, _, rfl, rfl, _, rfl, ?_⟩
    rw [List.length_map]
    by_cases h1 : 1 ≤ ws.length
    · refine ifP (by simp; omega) ⟨_, _, rfl, rfl, _, rfl, ?_⟩
      by_cases h4 : ws.length ≤ 4
      · refine ifN (by simp; omega) ?_
        refine ⟨_, rfl, _, _, rfl, .inl hr', _, _, rfl, rfl, _, rfl, ?_⟩
        rw [List.length_map]
        by_cases h5 : 5 < rs.length
        · refine ifP (by simp; omega) ?_
          exact ifP rfl (ke fun hv => absurd hv.r5 (by omega))
        refine ifN (by simp; omega) ?_
        have hne : ws ≠ [] := fun z => by rw [z] at h1; simp at h1
        refine ⟨_, rfl, _, ws, rfl, hw, hne, fun lo hlo hmin => ⟨_, _, rfl, rfl, _, rfl, ?_⟩⟩
        by_cases g0 : lo < 0
        · refine ifP (by simpa using g0) ?_
          exact ifP rfl (ke fun hv => absurd (hv.w lo hlo).1 (by omega))
        refine ifN (by simpa using g0) ?_
        refine ⟨_, rfl, _, ws, rfl, hw, hne, fun hi hhi hmax => ⟨_, _, rfl, rfl, _, rfl, ?_⟩⟩
        by_cases g1 : 1000 < hi
        · refine ifP (by simpa using g1) ?_
          exact ke fun hv => absurd (hv.w hi hhi).2 (by omega)
        refine ifN (by simpa using g1) ?_
        have wok : WOK ws := ⟨h1, h4, fun w hw' => ⟨by have := hmin w hw'; omega, by have := hmax w hw'; omega⟩⟩
        obtain ⟨ar, xr, rfl, hqr, hdr⟩ := hr'.oflst
        obtain ⟨at_, xt, rfl, hqt, hdt⟩ := ht.oflst
        have lr : xr.length = rs.length := by rw [hdr.len, List.length_map]
        have lt : xt.length = rs.length := by rw [hdt.len, List.length_map]; simp [tabOf]
        refine ⟨_, rfl, ar, rfl, ⟨_, hqr⟩, for_list (K := K) (a := ar) (xs := xr) (fun i σ H2 => H2 = H ∧ (∀ ps ∈ rs.take i, ps.length ≤ 12 ∧ ∀ p ∈ ps, 0 ≤ p.1 ∧ p.1 < ws.length ∧ p.2.natAbs ≤ 9) ∧ ∃ z1 z2 z3, σ = [some vw, some (.ref at_), some (.ref ar), z1, z2, z3, none])
          ⟨rfl, fun ps hp => (by simp at hp), _, _, _, rfl⟩ (fun i σ H2 _ ⟨e, _⟩ => by rw [e]; exact hqr) ?_ ?_⟩
        · rintro i x σ H2 hi ⟨rfl, hall, z1, z2, z3, rfl⟩
          obtain ⟨d, e1, hx⟩ := hdr.at hi
          have hi' : i < rs.length := by rw [← lr]; exact (List.getElem?_eq_some_iff.mp hi).1
          rw [List.getElem?_map, List.getElem?_eq_getElem hi'] at e1
          cases e1
          have hm := List.getElem_mem hi'
          have etk : rs.take (i + 1) = rs.take i ++ [rs[i]] := by rw [List.take_succ_eq_append_getElem]
          generalize rs[i] = ps at *
          refine ⟨_, rfl, _, _, rfl, .inl hx, _, _, rfl, rfl, _, rfl, ?_⟩
          rw [List.length_map]
          by_cases h12 : 12 < ps.length
          · refine ifP (by simp; omega) ?_
            exact ke fun hv => absurd (hv.each ps hm).len (by omega)
          refine ifN (by simp; omega) ?_
          obtain ⟨ap, xp, rfl, hqp, hdp⟩ := hx.oflst
          have lp : xp.length = ps.length := by rw [hdp.len, List.length_map]
          refine ⟨_, rfl, ap, rfl, ⟨_, hqp⟩, for_list (K := K) (a := ap) (xs := xp) (fun j σ H3 => H3 = H2 ∧ (∀ p ∈ ps.take j, 0 ≤ p.1 ∧ p.1 < ws.length ∧ p.2.natAbs ≤ 9) ∧ ∃ z2 z3, σ = [some vw, some (.ref at_), some (.ref ar), some (.ref ap), z2, z3, none])
            ⟨rfl, fun p hp => (by simp at hp), _, _, rfl⟩ (fun i σ H3 _ ⟨e, _⟩ => by rw [e]; exact hqp) ?_ ?_⟩
          · rintro j y σ H3 hj ⟨rfl, hall2, z2, z3, rfl⟩
            obtain ⟨d, e1, hy⟩ := hdp.at hj
            rw [List.getElem?_map] at e1
            cases hp : ps[j]? with
            | none => rw [hp] at e1; cases e1
            | some p =>
              rw [hp] at e1
              cases e1
              obtain ⟨t', rfl, hT⟩ := has_pair hy
              obtain ⟨p1, p2⟩ := p
              have hpm := List.mem_of_getElem? hp
              dsimp only at hT
              have bad : ¬ (0 ≤ p1 ∧ p1 < ws.length ∧ p2.natAbs ≤ 9) → Q (.bl false) H3 := fun nb => ke fun hv => nb ((hv.each ps hm).each _ hpm)
              refine ⟨t', _, rfl, hT, rfl, _, _, rfl, _, _, rfl, rfl, ?_⟩
              refine ⟨_, rfl, _, _, rfl, rfl, _, rfl, ?_⟩
              by_cases a0 : 0 ≤ p1
              · refine ifP (by simpa using a0) ⟨_, rfl, _, _, rfl, .inl hw, _, _, rfl, rfl, _, rfl, ?_⟩
                rw [List.length_map]
                by_cases a1 : p1 < ws.length
                · refine ifN (by simp; omega) ?_
                  refine ⟨_, rfl, _, rfl, _, _, rfl, rfl, _, rfl, ?_⟩
                  by_cases a2 : -9 ≤ p2
                  · refine ifP (by simp; omega) ⟨_, _, rfl, rfl, _, rfl, ?_⟩
                    by_cases a3 : p2 ≤ 9
                    · refine ifN (by simp; omega) ?_
                      refine ⟨rfl, fun q hq => ?_, _, _, rfl⟩
                      obtain ⟨hj', ej⟩ := List.getElem?_eq_some_iff.mp hp
                      rw [List.take_succ_eq_append_getElem hj', ej] at hq
                      rcases List.mem_append.mp hq with h | h
                      · exact hall2 q h
                      · rw [List.mem_singleton.mp h]
                        exact ⟨a0, a1, by show p2.natAbs ≤ 9; omega⟩
                    · refine ifP (by simp; omega) ?_
                      exact bad (by omega)
                  · refine ifN (by simp; omega) ⟨_, rfl, ifP rfl ?_⟩
                    exact bad (by omega)
                · refine ifP (by simp; omega) ?_
                  exact ifP rfl (bad (by omega))
              · refine ifN (by simpa using a0) ⟨_, rfl, ifP rfl ?_⟩
                exact ifP rfl (bad (by omega))
          · rintro σ H3 ⟨rfl, hall2, z2, z3, rfl⟩
            rw [lp, List.take_length] at hall2
            refine ⟨rfl, fun qs hq => ?_, _, _, _, rfl⟩
            rw [etk] at hq
            rcases List.mem_append.mp hq with h | h
            · exact hall qs h
            · rw [List.mem_singleton.mp h]
              exact ⟨by omega, hall2⟩
        · rintro σ H2 ⟨rfl, hall, z1, z2, z3, rfl⟩
          rw [lr, List.take_length] at hall
          refine ⟨_, rfl, at_, rfl, ⟨_, hqt⟩, for_list (K := K) (a := at_) (xs := xt) (fun i σ H3 => H3 = H2 ∧ (∀ ps ∈ rs.take i, ∀ s ∈ sums ps ws.length, s.natAbs ≤ 9) ∧ ∃ z4, σ = [some vw, some (.ref at_), some (.ref ar), z1, z2, z3, z4])
            ⟨rfl, fun ps hp => (by simp at hp), _, rfl⟩ (fun i σ H3 _ ⟨e, _⟩ => by rw [e]; exact hqt) ?_ ?_⟩
          · rintro i x σ H3 hi ⟨rfl, hal2, z4, rfl⟩
            obtain ⟨d, e1, hx⟩ := hdt.at hi
            have hi' : i < rs.length := by rw [← lt]; exact (List.getElem?_eq_some_iff.mp hi).1
            unfold tabOf at e1
            rw [List.map_map, List.getElem?_map, List.getElem?_eq_getElem hi'] at e1
            cases e1
            have hm := List.getElem_mem hi'
            have etk : rs.take (i + 1) = rs.take i ++ [rs[i]] := by rw [List.take_succ_eq_append_getElem]
            generalize rs[i] = ps at *
            have hne2 : sums ps ws.length ≠ [] := fun z => by
              have e0 : ws.length = 0 := by rw [← sums_len ps ws.length, z]; rfl
              omega
            have bad : ¬ (∀ s ∈ sums ps ws.length, s.natAbs ≤ 9) → Q (.bl false) H3 := fun nb => ke fun hv => nb (hv.each ps hm).sum
            refine ⟨_, rfl, _, sums ps ws.length, rfl, hx, hne2, fun lo hlo hmin2 => ⟨_, rfl, _, _, rfl, rfl, _, rfl, ?_⟩⟩
            by_cases b0 : lo < -9
            · refine ifP (by simp; omega) ?_
              exact ifP rfl (bad fun h => absurd (h lo hlo) (by omega))
            refine ifN (by simp; omega) ?_
            refine ⟨_, rfl, _, sums ps ws.length, rfl, hx, hne2, fun hi2 hhi2 hmax2 => ⟨_, _, rfl, rfl, _, rfl, ?_⟩⟩
            by_cases b1 : 9 < hi2
            · refine ifP (by simp; omega) ?_
              exact bad fun h => absurd (h hi2 hhi2) (by omega)
            refine ifN (by simp; omega) ?_
            refine ⟨rfl, fun qs hq s hs => ?_, _, rfl⟩
            rw [etk] at hq
            rcases List.mem_append.mp hq with h | h
            · exact hal2 qs h s hs
            · rw [List.mem_singleton.mp h] at hs
              have := hmin2 s hs
              have := hmax2 s hs
              omega
          · rintro σ H3 ⟨rfl, hal2, z4, rfl⟩
            rw [lt, List.take_length] at hal2
            exact k ⟨wok, by omega, fun ps hps => ⟨(hall ps hps).1, (hall ps hps).2, hal2 ps hps⟩⟩
      · refine ifP (by simp; omega) ?_
        exact ifP rfl (ke fun hv => h4 hv.n4)
    · refine ifN (by simp; omega) ⟨_, rfl, ifP rfl ?_⟩
      exact ifP rfl (ke fun hv => h1 hv.n1)


theorem sm9000 (x : Int) (h : x.natAbs < 1048576) : Sz 9000 x := (show Sz 20 x from h).mono (by decide)
def Bd10 (ps : List (Int × Int)) : Prop := ps.length ≤ 12 ∧ ∀ p ∈ ps, p.1.natAbs ≤ 10 ∧ p.2.natAbs ≤ 10
theorem Bd10.bd {ps : List (Int × Int)} (h : Bd10 ps) : BdP ps := ⟨by have := h.1; omega, fun p hp => by have := h.2 p hp; omega⟩
def spRopes2 (K : PySem.W.Frag) : Sp := fun vs H Q _ => ∃ (v : V) (ns : List Int) (nb nr : Nat), vs = [v, .int nb, .int nr] ∧ HasD K H v (intsD ns) ∧ 1 ≤ nb ∧ nb ≤ 4 ∧ nr ≤ 5 ∧ ∀ rs : List (List (Int × Int)), rs.length = nr → (∀ ps ∈ rs, Bd10 ps) → ∀ ra xs H', Grow K H ra H' xs (rs.map pairsD) → Q (.ref ra) H'
theorem sc__law_ropes : FnScope ["script", "bodies", "many", "ropes", "r", "pairs", "cell", "k"] ["script", "bodies", "many"] (defScope s__law_ropes) := ⟨rfl, rfl, rfl, by decide +kernel, rfl, by decide +kernel, by decide +kernel⟩
theorem ok__law_ropes {P : Program} {w : World} {K : PySem.W.Frag} {mg : Str → Option Value} {base : Heap} {C : Ad} (T : Txt K mg C) (D : Def K mg "_law_ropes" "_law_ropes" s__law_ropes ["script", "bodies", "many"])
    (o__law_cell_at : Own P w K mg base CX0 "_law_cell_at" ["script", "k"] 1 (spCell K)) :
    Own P w K mg base CX0 "_law_ropes" ["script", "bodies", "many"] 2 (spRopes2 K) := by
  refine D.own sc__law_ropes (fun vs H Q E h => ?_) (fun f cdv A outer s H vs Q E hr h => ?_)
  · obtain ⟨v, _, _, _, rfl, _⟩ := h
    rfl
  · obtain ⟨v, ns, nb, nr, rfl, hv, hb1, hb4, hr5, k⟩ := h
    have sl : (1000 : Nat) ≤ sizeLine := by decide
    refine ⟨_, (pss_cons (ps_set (i := 3) sc__law_ropes.nd rfl (Or.inl rfl) (pe_lst pa_nil))
        (pss_cons (ps_for PassesOwn.never rfl (pi_range1 rfl T.b_range (pa_cons (pv 2) pa_nil st_Name)) (pg_name (i := 4) sc__law_ropes.nd rfl (Or.inl rfl))
        (pss_cons (ps_set (i := 5) sc__law_ropes.nd rfl (Or.inl rfl) (pe_lst pa_nil))
        (pss_cons (ps_set (i := 6) sc__law_ropes.nd rfl (Or.inl rfl) (pe_own o__law_cell_at (hr.mono (by decide)) rfl pass0 (pa_cons (pv 0) (pa_cons (pe_op op_add pe_int (pv 4)) pa_nil st_BinOp) st_Name)))
        (pss_cons (ps_for PassesOwn.never rfl (pi_range1 rfl T.b_range (pa_cons (pe_op op_mod (pv 6) pe_int) pa_nil st_BinOp)) (pg_name (i := 7) sc__law_ropes.nd rfl (Or.inl rfl))
        (pss_cons (ps_set (i := 6) sc__law_ropes.nd rfl (Or.inl rfl) (pe_op op_add (pe_op op_add (pe_op op_fdivL (pv 6) pe_int) (pe_op op_mulL pe_int (pv 7))) pe_int))
        (pss_one (ps_expr (pe_bm PySem.F.plainAttrs_list PySem.F.slot_list_append PySem.F.type_list_append mt_append (pv 5) (pa_cons (pe_tup (pa_cons (pe_op op_mod (pe_op op_fdivL (pv 6) pe_int) (pe_callB (call_max2 rfl) rfl T.b_max bt_max (pa_cons pe_int (pa_cons (pv 1) pa_nil st_Name) st_Constant))) (pa_cons (pe_op op_sub (pe_op op_mod (pe_op op_fdivL (pv 6) pe_int) pe_int) pe_int) pa_nil st_BinOp) st_BinOp)) pa_nil st_Tuple))))))
        (pss_one (ps_expr (pe_bm PySem.F.plainAttrs_list PySem.F.slot_list_append PySem.F.type_list_append mt_append (pv 3) (pa_cons (pv 5) pa_nil st_Name))))))))
        (pss_one (ps_ret (pv 3))))), ?_⟩
    refine ⟨by show 0 ≤ sizeLine; decide, fun t0 n0 => ?_⟩
    refine ⟨_, rfl, _, rfl, by omega, by omega, ?_⟩
    rw [Int.toNat_natCast]
    refine for_range (fun i σ H2 => ∃ (rs : List (List (Int × Int))) (vs : List V) (z1 z2 z3 z4 : Option V), Grow K H t0 H2 vs (rs.map pairsD) ∧ rs.length = i ∧ (∀ ps ∈ rs, Bd10 ps) ∧ σ = [some v, some (.int nb), some (.int nr), some (.ref t0), z1, z2, z3, z4])
      ⟨[], [], _, _, _, _, Grow.start n0, rfl, fun _ h => (nomatch h), rfl⟩ ?_ ?_
    · rintro i σ H2 hi ⟨rs, vs, z1, z2, z3, z4, G, hl, hbd, rfl⟩
      have hvl : vs.length = i := by
        have := G.d.len
        rw [List.length_map] at this
        omega
      refine ⟨by show 0 ≤ sizeLine; decide, fun w0 nw => ?_⟩
      refine ⟨_, rfl, _, rfl, _, _, rfl, rfl, v, ns, 8 + i, by rw [Int.zero_add]; rfl, hv.same (G.S.trans (Same.upd nw)), ?_⟩
      generalize ns.getD (8 + i) 0 = c0
      have m0 := Int.emod_nonneg c0 (show (13 : Int) ≠ 0 by decide)
      have m1 := Int.emod_lt_of_pos c0 (show (0 : Int) < 13 by decide)
      refine ⟨_, rfl, _, _, rfl, rfl, (by show (0 : Int) < 13; decide), _, rfl, by omega, by omega, ?_⟩
      refine for_range (fun j σ H3 => ∃ (ps : List (Int × Int)) (us : List V) (c : Int) (z : Option V), Grow K H2 w0 H3 us (ps.map pairD) ∧ ps.length = j ∧ (∀ p ∈ ps, p.1.natAbs ≤ 10 ∧ p.2.natAbs ≤ 10) ∧ σ = [some v, some (.int nb), some (.int nr), some (.ref t0), some (.int (0 + (i : Int))), some (.ref w0), some (.int c), z])
        ⟨[], [], _, _, Grow.start nw, rfl, fun _ h => (nomatch h), rfl⟩ ?_ ?_
      · rintro j σ H3 hj ⟨ps, us, c, z, Gw, lp, hp, rfl⟩
        have hul : us.length = j := by
          have := Gw.d.len
          rw [List.length_map] at this
          omega
        have hj12 : j < 13 := by omega
        refine ⟨_, rfl, _, _, rfl, rfl, ⟨by decide, sm9000 3 (by decide)⟩, _, rfl, _, _, rfl, rfl, ⟨sm9000 7919 (by decide), sm9000 _ (by omega)⟩, _, _, rfl, rfl, _, _, rfl, rfl, ?_⟩
        refine ⟨_, rfl, .inl ⟨rfl, _, SqL.of Gw.at_⟩, _, rfl, _, _, rfl, rfl, ⟨by decide, sm9000 5 (by decide)⟩, _, rfl, _, _, rfl, _, _, rfl, rfl, ?_, _, rfl, _, _, rfl, rfl, ⟨by decide, sm9000 60 (by decide)⟩, _, _, rfl, rfl, (by show (0 : Int) < 7; decide), _, _, rfl, rfl, by show 2 ≤ sizeLine; decide, fun p np => ?_⟩
        · show (0 : Int) < if (nb : Int) > 1 then (nb : Int) else 1
          split <;> omega
        have S4 := Same.upd np (o := .tup [V.int ((c.fdiv 3 + 7919 * (0 + (j : Int)) + 5).fdiv 5 % (if (nb : Int) > 1 then (nb : Int) else 1)), V.int ((c.fdiv 3 + 7919 * (0 + (j : Int)) + 5).fdiv 60 % 7 - 3)])
        refine ⟨w0, _, _, rfl, rfl, S4 _ _ Gw.at_, by omega, ?_⟩
        have pos : (0 : Int) < if (nb : Int) > 1 then (nb : Int) else 1 := by split <;> omega
        have q0 := Int.emod_nonneg ((c.fdiv 3 + 7919 * (0 + (j : Int)) + 5).fdiv 5) (show (if (nb : Int) > 1 then (nb : Int) else 1) ≠ 0 by omega)
        have q1 := Int.emod_lt_of_pos ((c.fdiv 3 + 7919 * (0 + (j : Int)) + 5).fdiv 5) pos
        have q2 := Int.emod_nonneg ((c.fdiv 3 + 7919 * (0 + (j : Int)) + 5).fdiv 60) (show (7 : Int) ≠ 0 by decide)
        have q3 := Int.emod_lt_of_pos ((c.fdiv 3 + 7919 * (0 + (j : Int)) + 5).fdiv 60) (show (0 : Int) < 7 by decide)
        have qb : (if (nb : Int) > 1 then (nb : Int) else 1) ≤ 4 := by split <;> omega
        refine ⟨ps ++ [((c.fdiv 3 + 7919 * (0 + (j : Int)) + 5).fdiv 5 % (if (nb : Int) > 1 then (nb : Int) else 1), (c.fdiv 3 + 7919 * (0 + (j : Int)) + 5).fdiv 60 % 7 - 3)], us ++ [.ref p], _, _, ?_, by simp [lp], fun q hq => ?_, rfl⟩
        · rw [List.map_append]
          exact Gw.push S4 (pair_new (p := ((c.fdiv 3 + 7919 * (0 + (j : Int)) + 5).fdiv 5 % (if (nb : Int) > 1 then (nb : Int) else 1), (c.fdiv 3 + 7919 * (0 + (j : Int)) + 5).fdiv 60 % 7 - 3)) (SqT.of upd_same))
        · rcases List.mem_append.mp hq with h | h
          · exact hp q h
          · rw [List.mem_singleton.mp h]
            exact ⟨by show ((c.fdiv 3 + 7919 * (0 + (j : Int)) + 5).fdiv 5 % (if (nb : Int) > 1 then (nb : Int) else 1)).natAbs ≤ 10; omega, by show ((c.fdiv 3 + 7919 * (0 + (j : Int)) + 5).fdiv 60 % 7 - 3).natAbs ≤ 10; omega⟩
      · rintro σ H3 ⟨ps, us, c, z, Gw, lp, hp, rfl⟩
        refine ⟨_, rfl, .inl ⟨rfl, _, SqL.of (Gw.S _ _ G.at_)⟩, _, rfl, t0, _, _, rfl, rfl, Gw.S _ _ G.at_, by omega, ?_⟩
        have G' := G.push (K := K) Gw.S Gw.new
        refine ⟨rs ++ [ps], vs ++ [.ref w0], _, _, _, _, ?_, by simp [hl], fun qs hq => ?_, rfl⟩
        · rw [List.map_append]
          exact G'
        · rcases List.mem_append.mp hq with h | h
          · exact hbd qs h
          · rw [List.mem_singleton.mp h]
            exact ⟨by omega, hp⟩
    · rintro σ H2 ⟨rs, vs, z1, z2, z3, z4, G, hl, hbd, rfl⟩
      exact ⟨_, rfl, k rs hl hbd _ _ _ G⟩


/-- weights at wa, ropes at ra, the ropes' lists new since J; all else of J stands -/
structure StS (K : PySem.W.Frag) (J : Hp) (wa ra : Addr) (H : Hp) (ws : List Int) (rs : List (List (Int × Int))) (xs : List V) : Prop where
  ne : wa ≠ ra
  jw : J wa ≠ none
  jr : J ra ≠ none
  keep : ∀ b o, J b = some o → b ≠ wa → b ≠ ra → H b = some o
  w : H wa = some (.lst (ws.map V.int))
  r : H ra = some (.lst xs)
  d : NewDs K J H xs (rs.map pairsD)
section
variable {K : PySem.W.Frag} {J H H' : Hp} {wa ra l : Addr} {ws : List Int} {rs : List (List (Int × Int))} {xs : List V}
theorem StS.later (h : StS K J wa ra H ws rs xs) (S : Same H H') : StS K J wa ra H' ws rs xs := ⟨h.ne, h.jw, h.jr, fun b o e n m => S _ _ (h.keep b o e n m), S _ _ h.w, S _ _ h.r, h.d.later S⟩
theorem StS.free (h : StS K J wa ra H ws rs xs) (n : H l = none) : J l = none := by
  cases e : J l with
  | none => rfl
  | some o =>
    by_cases h1 : l = wa
    · rw [h1, h.w] at n
      cases n
    by_cases h2 : l = ra
    · rw [h2, h.r] at n
      cases n
    rw [h.keep l o e h1 h2] at n
    cases n
theorem StS.setW (h : StS K J wa ra H ws rs xs) (ws' : List Int) : StS K J wa ra (upd H wa (.lst (ws'.map V.int))) ws' rs xs :=
  ⟨h.ne, h.jw, h.jr, fun b o e n m => by rw [upd_ne n]; exact h.keep b o e n m, upd_same, by rw [upd_ne h.ne.symm]; exact h.r, NewDs.write h.jw (by rw [h.w]; exact noTup_lst) h.d⟩
theorem StS.setR (h : StS K J wa ra H ws rs xs) {rs' : List (List (Int × Int))} {xs' : List V} (d : NewDs K J H xs' (rs'.map pairsD)) : StS K J wa ra (upd H ra (.lst xs')) ws rs' xs' :=
  ⟨h.ne, h.jw, h.jr, fun b o e n m => by rw [upd_ne m]; exact h.keep b o e n m, by rw [upd_ne h.ne]; exact h.w, upd_same, NewDs.write h.jr (by rw [h.r]; exact noTup_lst) d⟩
theorem StS.hw (h : StS K J wa ra H ws rs xs) : HasD K H (.ref wa) (intsD ws) := ints_has (SqL.of h.w)
theorem StS.hr (h : StS K J wa ra H ws rs xs) : HasD K H (.ref ra) (ropesD rs) := .lst (SqL.of h.r) (NewDs.has _ h.d)
/-- the ropes' own lists stand apart from a fresh one -/
theorem news_apart {ds : List PyData} {o : HO} (n : H l = none) (h : NewDs K J H xs ds) : NewDs K (upd J l (.lst [])) (upd H l o) xs ds :=
  NewDs.go (fun a ys z q => by
    have ne : a ≠ l := fun e => by rw [e, n] at q; cases q
    rw [upd_ne ne, upd_ne ne]
    exact ⟨z, q⟩) (fun a ys q => (Same.upd n).tup q) ds h
/-- a fresh list that is a rope now is changed -/
theorem StS.turn (h : StS K J wa ra H ws rs xs) (nl : H l = none) {H2 : Hp} {us us' : List V} {ps' : List (Int × Int)} {at_ : Nat} (S : Same (upd (upd H l (.lst us)) ra (.lst (xs.set at_ (.ref l)))) H2)
    (d : HasDs K H2 us' (ps'.map pairD)) : StS K J wa ra (upd H2 l (.lst us')) ws (rs.set at_ ps') (xs.set at_ (.ref l)) := by
  have jl := h.free nl
  have nwl : wa ≠ l := fun e => by rw [← e, h.w] at nl; cases nl
  have nrl : ra ≠ l := fun e => by rw [← e, h.r] at nl; cases nl
  have hl2 : H2 l = some (.lst us) := S _ _ (by rw [upd_ne nrl.symm]; exact upd_same)
  have SJ : Same J (upd J l (.lst [])) := Same.upd jl
  refine ⟨h.ne, h.jw, h.jr, fun b o e n m => ?_, ?_, ?_, ?_⟩
  · have nb : b ≠ l := fun z => by rw [z, jl] at e; cases e
    rw [upd_ne nb]
    refine S _ _ ?_
    rw [upd_ne m, upd_ne nb]
    exact h.keep b o e n m
  · rw [upd_ne nwl]
    refine S _ _ ?_
    rw [upd_ne h.ne, upd_ne nwl]
    exact h.w
  · rw [upd_ne nrl]
    exact S _ _ upd_same
  · rw [List.map_set]
    refine NewDs.set at_ ?_ ?_
    · have a1 := news_apart (o := .lst us) nl h.d
      have a2 : NewDs K (upd J l (.lst [])) (upd (upd H l (.lst us)) ra (.lst (xs.set at_ (.ref l)))) xs (rs.map pairsD) := NewDs.write (by rw [upd_ne nrl]; exact h.jr) (by rw [upd_ne nrl, h.r]; exact noTup_lst) a1
      exact (NewDs.write (some_ne upd_same) (by rw [hl2]; exact noTup_lst) (a2.later S)).wider SJ
    · refine .lst jl upd_same ?_
      have f := flatDs_map pairD (fun p => by simp [pairD, flatD, flatDs]) ps'
      have a : NewDs K (fun _ => some (.lst [])) H2 us' (ps'.map pairD) := NewDs.flat _ f d
      have b := NewDs.write (l := l) (o := .lst us') (fun z => by cases z) (by rw [hl2]; exact noTup_lst) a
      exact NewDs.flat _ f (NewDs.has _ b)
/-- a rope is put in another's place -/
theorem StS.put (h : StS K J wa ra H ws rs xs) (jl : J l = none) {us : List V} {ps : List (Int × Int)} {at_ : Nat} (hl : H l = some (.lst us)) (d : HasDs K H us (ps.map pairD)) : StS K J wa ra (upd H ra (.lst (xs.set at_ (.ref l)))) ws (rs.set at_ ps) (xs.set at_ (.ref l)) := by
  refine h.setR ?_
  rw [List.map_set]
  exact NewDs.set at_ h.d (.lst jl hl (NewDs.flat _ (flatDs_map pairD (fun p => by simp [pairD, flatD, flatDs]) ps) d))
theorem StS.row (h : StS K J wa ra H ws rs xs) {i : Nat} (hi : i < rs.length) : ∃ r us, xs[i]? = some (.ref r) ∧ H r = some (.lst us) ∧ HasDs K H us ((rs[i]).map pairD) ∧ us.length = (rs[i]).length := by
  have e : (rs.map pairsD)[i]? = some (pairsD rs[i]) := by rw [List.getElem?_map, List.getElem?_eq_getElem hi]; rfl
  obtain ⟨x, ex, hx⟩ := NewDs.get h.d e
  obtain ⟨r, us, rfl, _, q, hd⟩ := hx.oflst
  exact ⟨r, us, ex, q, NewDs.has _ hd, by rw [hd.len, List.length_map]⟩
theorem StS.len (h : StS K J wa ra H ws rs xs) : xs.length = rs.length := by rw [h.d.len, List.length_map]
end
theorem bdr_set {rs : List (List (Int × Int))} {ps : List (Int × Int)} {i : Nat} (h : BdR rs) (hp : BdP ps) : BdR (rs.set i ps) := by
  refine ⟨by rw [List.length_set]; exact h.1, fun qs hq => ?_⟩
  rcases List.mem_or_eq_of_mem_set hq with z | z
  · exact h.2 qs z
  · rw [z]
    exact hp
theorem bdr_app {rs qs : List (List (Int × Int))} (h : BdR rs) (hl : rs.length + qs.length ≤ 20) (hq : ∀ ps ∈ qs, BdP ps) : BdR (rs ++ qs) := ⟨by rw [List.length_append]; exact hl, fun ps hp => (List.mem_append.mp hp).elim (h.2 ps) (hq ps)⟩
theorem bdp_nil : BdP [] := ⟨Nat.zero_le _, fun _ h => (nomatch h)⟩
def spSpoiled (K : PySem.W.Frag) : Sp := fun vs H Q _ => ∃ (J : Hp) (wa ra : Addr) (ws : List Int) (rs : List (List (Int × Int))) (xs : List V) (mode cell : Int), vs = [.ref wa, .ref ra, .int mode, .int cell] ∧ StS K J wa ra H ws rs xs ∧ 1 ≤ ws.length ∧ ws.length ≤ 4 ∧ (∀ w ∈ ws, w.natAbs ≤ 1001) ∧ rs.length ≤ 5 ∧ (∀ ps ∈ rs, Bd10 ps) ∧
  ∀ H' ws' rs' xs', StS K J wa ra H' ws' rs' xs' → BdW ws' → BdR rs' → Q .non H'
theorem two_of {a b : Int} {i : Int} (h0 : 0 ≤ i) (h1 : i < 2) : ∃ n, (n = a ∨ n = b) ∧ atI ([a, b].map PyData.int) i = some (.int n) := by
  obtain ⟨n, hn, e⟩ := atI_intsD (ns := [a, b]) h0 (by simpa using h1)
  exact ⟨n, by simpa using hn, e⟩
theorem HasDs.rep {K : PySem.W.Frag} {H : Hp} {us : List V} {ds : List PyData} (h : HasDs K H us ds) : ∀ k : Nat, HasDs K H (List.replicate k us).flatten (List.replicate k ds).flatten
  | 0 => .nil
  | k + 1 => by
    rw [List.replicate_succ, List.replicate_succ, List.flatten_cons, List.flatten_cons]
    exact HasDs.app h (HasDs.rep h k)
theorem pair_has {K : PySem.W.Frag} {H : Hp} {a : Addr} {p : Int × Int} (h : H a = some (.tup [.int p.1, .int p.2])) : HasD K H (.ref a) (pairD p) := .tup (SqT.of h) (.cons (.int _) (.cons (.int _) .nil))
theorem bdp_app {ps qs : List (Int × Int)} (hl : ps.length + qs.length ≤ 40) (h : ∀ p ∈ ps, p.1.natAbs ≤ 1001 ∧ p.2.natAbs ≤ 1001) (h' : ∀ p ∈ qs, p.1.natAbs ≤ 1001 ∧ p.2.natAbs ≤ 1001) : BdP (ps ++ qs) := ⟨by rw [List.length_append]; exact hl, fun p hp => (List.mem_append.mp hp).elim (h p) (h' p)⟩
theorem ins_has {K : PySem.W.Frag} {H : Hp} {us : List V} {ps : List (Int × Int)} {a : Addr} {q : Int × Int} (i : Nat) (h : HasDs K H us (ps.map pairD)) (ha : HasD K H (.ref a) (pairD q)) : HasDs K H (us.take i ++ .ref a :: us.drop i) ((ps.take i ++ q :: ps.drop i).map pairD) := by
  rw [List.map_append, List.map_cons, List.map_take, List.map_drop]
  exact HasDs.app (HasDs.take i h) (.cons ha (HasDs.drop i h))
theorem ins_bd {ps : List (Int × Int)} {q : Int × Int} (i : Nat) (h : ps.length < 40) (h1 : ∀ p ∈ ps, p.1.natAbs ≤ 1001 ∧ p.2.natAbs ≤ 1001) (h2 : q.1.natAbs ≤ 1001 ∧ q.2.natAbs ≤ 1001) : BdP (ps.take i ++ q :: ps.drop i) := by
  refine ⟨by rw [List.length_append, List.length_cons, List.length_take, List.length_drop]; omega, fun p hp => ?_⟩
  rcases List.mem_append.mp hp with z | z
  · exact h1 p (List.take_subset _ _ z)
  · rcases List.mem_cons.mp z with z | z
    · rw [z]
      exact h2
    · exact h1 p (List.drop_subset _ _ z)
theorem mod_nat {c n : Int} (h : 0 < n) : ∃ j : Nat, c % n = j ∧ (j : Int) < n := ⟨(c % n).toNat, by have := Int.emod_nonneg c (show n ≠ 0 by omega); omega, by have := Int.emod_nonneg c (show n ≠ 0 by omega); have := Int.emod_lt_of_pos c h; omega⟩
theorem menu_of {ns : List Int} {c n : Int} (hn : n = ns.length) (h : 0 < n) : ∃ m, m ∈ ns ∧ atI (ns.map PyData.int) (c % n) = some (.int m) := by
  have q0 := Int.emod_nonneg c (show n ≠ 0 by omega)
  have q1 := Int.emod_lt_of_pos c h
  exact atI_intsD q0 (by omega)
seal L2.PA L2.PE L2.PT L2.PS L2.PSs L2.PG L2.PI L2.PO L2.PW
theorem sc__law_spoiled : FnScope ["weights", "ropes", "mode", "cell", "at", "body", "bad", "number"] ["weights", "ropes", "mode", "cell"] (defScope s__law_spoiled) := ⟨rfl, rfl, rfl, by decide +kernel, rfl, by decide +kernel, by decide +kernel⟩
theorem ok__law_spoiled {P : Program} {w : World} {K : PySem.W.Frag} {mg : Str → Option Value} {base : Heap} {C : Ad} (T : Txt K mg C) (D : Def K mg "_law_spoiled" "_law_spoiled" s__law_spoiled ["weights", "ropes", "mode", "cell"]) :
    Own P w K mg base CX0 "_law_spoiled" ["weights", "ropes", "mode", "cell"] 1 (spSpoiled K) := by
  refine D.own sc__law_spoiled (fun vs H Q E h => ?_) (fun f cdv A outer s H vs Q E hr h => ?_)
  · obtain ⟨_, a, _, _, _, _, _, _, rfl, _⟩ := h
    rfl
  · obtain ⟨J, wa, ra, ws, rs, xs, mode, cell, rfl, st, h1, h4, bw, h5, b10, k⟩ := h
    have sl : (1000 : Nat) ≤ sizeLine := by decide
    refine ⟨_, (pss_consJ (ps_if (pt_cmpR op_eq (pv 2) pe_int (nomark _))
        (pss_one (ps_asg (pe_ix (ix_K (K := K) rfl) (pe_lst (pa_cons (pe_un un_neg pe_int) (pa_cons pe_int pa_nil st_Constant) st_UnaryOp)) (pe_op op_mod (pe_op op_fdivL (pv 3) pe_int) pe_int) (fun _ _ => rfl)) (pg_sub (pv 0) (pe_op op_mod (pv 3) (pe_callB (call_lenK (K := K) rfl) rfl T.b_len bt_len (pa_cons (pv 0) pa_nil st_Name))) set_list)))
        pss_nil)
        (pss_consJ (ps_if (pt_cmpR op_eq (pv 2) pe_int (nomark _))
        (pss_one (ps_expr (pe_bm PySem.F.plainAttrs_list PySem.F.slot_list_extend PySem.F.type_list_extend mt_extend (pv 0) (pa_cons (pe_slice (sl_listK (K := K) rfl) (pe_lst (pa_cons pe_int (pa_cons pe_int (pa_cons pe_int (pa_cons pe_int (pa_cons pe_int pa_nil st_Constant) st_Constant) st_Constant) st_Constant) st_Constant)) po_none (po_some (pe_op op_add pe_int (pe_op op_mod (pv 3) pe_int)))) pa_nil st_Subscript))))
        pss_nil)
        (pss_consJ (ps_if (pt_cmpR op_eq (pv 2) pe_int (nomark _))
        (pss_one (ps_expr (pe_bm0 PySem.F.plainAttrs_list PySem.F.slot_list_clear PySem.F.type_list_clear mt_clear (pv 0))))
        pss_nil)
        (pss_consJ (ps_if (pt_cmpR op_eq (pv 2) pe_int (nomark _))
        (pss_one (ps_expr (pe_bmL PySem.F.plainAttrs_list PySem.F.slot_list_extend PySem.F.type_list_extend mt_extend (pv 1) (pa_cons (pe_lst (pa_cons (pe_lst pa_nil) (pa_cons (pe_lst pa_nil) (pa_cons (pe_lst pa_nil) (pa_cons (pe_lst pa_nil) (pa_cons (pe_lst pa_nil) (pa_cons (pe_lst pa_nil) pa_nil st_List) st_List) st_List) st_List) st_List) st_List)) pa_nil st_List))))
        pss_nil)
        (pss_consJ (ps_if (PW.pt (pw_and (pt_cmpR op_gt (pv 2) pe_int (nomark _)) (pw_and1 (pt_cmpR (op_eqK (K := K) rfl hr) (pv 1) (pe_lst pa_nil) (nomark _)))))
        (pss_one (ps_expr (pe_bmL PySem.F.plainAttrs_list PySem.F.slot_list_append PySem.F.type_list_append mt_append (pv 1) (pa_cons (pe_lst pa_nil) pa_nil st_List))))
        pss_nil)
        (pss_consJ (ps_set (i := 4) sc__law_spoiled.nd rfl (Or.inl rfl) (pe_op op_mod (pv 3) (pe_callB (call_max2 rfl) rfl T.b_max bt_max (pa_cons pe_int (pa_cons (pe_callB (call_lenK (K := K) rfl) rfl T.b_len bt_len (pa_cons (pv 1) pa_nil st_Name)) pa_nil st_Call) st_Constant))))
        (pss_consJ (ps_set (i := 5) sc__law_spoiled.nd rfl (Or.inl rfl) (pe_op op_mod (pe_op op_fdivL (pv 3) pe_int) (pe_callB (call_max2 rfl) rfl T.b_max bt_max (pa_cons pe_int (pa_cons (pe_callB (call_lenK (K := K) rfl) rfl T.b_len bt_len (pa_cons (pv 0) pa_nil st_Name)) pa_nil st_Call) st_Constant))))
        (pss_consJ (ps_if (pt_cmpR op_eq (pv 2) pe_int (nomark _))
        (pss_one (ps_asg (pe_slice (sl_listK (K := K) rfl) (pe_op op_cat (pe_op op_cat (pe_lst (pa_cons (pe_tup (pa_cons (pv 5) (pa_cons pe_int pa_nil st_Constant) st_Name)) pa_nil st_Tuple)) (pe_ix (ix_listK (K := K) rfl) (pv 1) (pv 4) (fun _ _ => rfl))) (pe_op op_rep (pe_lst (pa_cons (pe_tup (pa_cons pe_int (pa_cons pe_int pa_nil st_Constant) st_Constant)) (pa_cons (pe_tup (pa_cons pe_int (pa_cons (pe_un un_neg pe_int) pa_nil st_UnaryOp) st_Constant)) pa_nil st_Tuple) st_Tuple)) pe_int)) po_none (po_some pe_int)) (pg_sub (pv 1) (pv 4) set_list)))
        pss_nil)
        (pss_consJ (ps_if (pt_cmpR op_eq (pv 2) pe_int (nomark _))
        (pss_cons (ps_asg (pe_slice (sl_listK (K := K) rfl) (pe_ix (ix_listK (K := K) rfl) (pv 1) (pv 4) (fun _ _ => rfl)) po_none (po_some pe_int)) (pg_sub (pv 1) (pv 4) set_list))
        (pss_cons (ps_set (i := 6) sc__law_spoiled.nd rfl (Or.inl rfl) (pe_tup (pa_cons (pe_ix (ix_K (K := K) rfl) (pe_lst (pa_cons (pe_un un_neg pe_int) (pa_cons (pe_callB (call_lenK (K := K) rfl) rfl T.b_len bt_len (pa_cons (pv 0) pa_nil st_Name)) pa_nil st_Call) st_UnaryOp)) (pe_op op_mod (pe_op op_fdivL (pv 3) pe_int) pe_int) (fun _ _ => rfl)) (pa_cons (pe_ix (ix_K (K := K) rfl) (pe_lst (pa_cons pe_int (pa_cons pe_int (pa_cons (pe_un un_neg pe_int) pa_nil st_UnaryOp) st_Constant) st_Constant)) (pe_op op_mod (pe_op op_fdivL (pv 3) pe_int) pe_int) (fun _ _ => rfl)) pa_nil st_Subscript) st_Subscript)))
        (pss_one (ps_expr (pe_bm PySem.F.plainAttrs_list PySem.F.slot_list_insert PySem.F.type_list_insert mt_insert (pe_ix (ix_listK (K := K) rfl) (pv 1) (pv 4) (fun _ _ => rfl)) (pa_cons (pe_op op_mod (pe_op op_fdivL (pv 3) pe_int) (pe_op op_add (pe_callB (call_lenK (K := K) rfl) rfl T.b_len bt_len (pa_cons (pe_ix (ix_listK (K := K) rfl) (pv 1) (pv 4) (fun _ _ => rfl)) pa_nil st_Subscript)) pe_int)) (pa_cons (pv 6) pa_nil st_Name) st_BinOp))))))
        pss_nil)
        (pss_consJ (ps_if (pt_cmpR op_eq (pv 2) pe_int (nomark _))
        (pss_cons (ps_set (i := 7) sc__law_spoiled.nd rfl (Or.inl rfl) (pe_ix (ix_K (K := K) rfl) (pe_lst (pa_cons (pe_un un_neg pe_int) (pa_cons pe_int (pa_cons pe_int (pa_cons (pe_un un_neg pe_int) (pa_cons pe_int pa_nil st_Constant) st_UnaryOp) st_Constant) st_Constant) st_UnaryOp)) (pe_op op_mod (pe_op op_fdivL (pv 3) pe_int) pe_int) (fun _ _ => rfl)))
        (pss_cons (ps_asg (pe_op op_cat (pe_slice (sl_listK (K := K) rfl) (pe_ix (ix_listK (K := K) rfl) (pv 1) (pv 4) (fun _ _ => rfl)) po_none (po_some pe_int)) (pe_lst (pa_cons (pe_tup (pa_cons (pv 5) (pa_cons (pe_callB (call_max2 rfl) rfl T.b_max bt_max (pa_cons (pe_un un_neg pe_int) (pa_cons (pe_callB (call_min2 rfl) rfl T.b_min bt_min (pa_cons pe_int (pa_cons (pe_op op_sub pe_int (pv 7)) pa_nil st_BinOp) st_Constant)) pa_nil st_Call) st_UnaryOp)) pa_nil st_Call) st_Name)) (pa_cons (pe_tup (pa_cons (pv 5) (pa_cons (pe_ix (ix_K (K := K) rfl) (pe_lst (pa_cons pe_int (pa_cons pe_int pa_nil st_Constant) st_Constant)) (pe_op op_mod (pe_op op_fdivL (pv 3) pe_int) pe_int) (fun _ _ => rfl)) pa_nil st_Subscript) st_Name)) pa_nil st_Tuple) st_Tuple))) (pg_sub (pv 1) (pv 4) set_list))
        (pss_one (ps_expr (pe_bm PySem.F.plainAttrs_list PySem.F.slot_list_insert PySem.F.type_list_insert mt_insert (pe_ix (ix_listK (K := K) rfl) (pv 1) (pv 4) (fun _ _ => rfl)) (pa_cons (pe_op op_mod (pe_op op_fdivL (pv 3) pe_int) (pe_op op_add (pe_callB (call_lenK (K := K) rfl) rfl T.b_len bt_len (pa_cons (pe_ix (ix_listK (K := K) rfl) (pv 1) (pv 4) (fun _ _ => rfl)) pa_nil st_Subscript)) pe_int)) (pa_cons (pe_tup (pa_cons (pv 5) (pa_cons (pv 7) pa_nil st_Name) st_Name)) pa_nil st_Tuple) st_BinOp))))))
        pss_nil)
        (pss_one (ps_if (pt_cmpR op_eq (pv 2) pe_int (nomark _))
        (pss_one (ps_asgL (pe_lst (pa_cons (pe_tup (pa_cons pe_int (pa_cons pe_int pa_nil st_Constant) st_Constant)) (pa_cons (pe_tup (pa_cons pe_int (pa_cons (pe_ix (ix_K (K := K) rfl) (pe_lst (pa_cons pe_int (pa_cons pe_int (pa_cons (pe_un un_neg pe_int) (pa_cons pe_int pa_nil st_Constant) st_UnaryOp) st_Constant) st_Constant)) (pe_op op_mod (pe_op op_fdivL (pv 3) pe_int) pe_int) (fun _ _ => rfl)) pa_nil st_Subscript) st_Constant)) pa_nil st_Tuple) st_Tuple)) (pg_sub (pv 1) (pe_op op_mod (pv 3) (pe_callB (call_lenK (K := K) rfl) rfl T.b_len bt_len (pa_cons (pv 1) pa_nil st_Name))) set_list)))
        pss_nil)))))))))))), ?_⟩
    have br : BdR rs := ⟨by omega, fun ps hp => (b10 ps hp).bd⟩
    -- mode 1
    refine ⟨fun σ' H' => ∃ ws', StS K J wa ra H' ws' rs xs ∧ ws'.length ≤ 4 ∧ (∀ w ∈ ws', w.natAbs ≤ 1001) ∧ σ' = [some (.ref wa), some (.ref ra), some (.int mode), some (.int cell), none, none, none, none], ?_, ?_⟩
    · refine ⟨_, rfl, rfl, _, rfl, ?_⟩
      refine ite2 (fun _ => ?_) (fun _ => ⟨ws, st, h4, bw, rfl⟩)
      refine ⟨_, rfl, by show 2 ≤ sizeLine; decide, fun l1 n1 => ?_⟩
      have m0 := Int.emod_nonneg (cell.fdiv 5) (show (2 : Int) ≠ 0 by decide)
      have m1 := Int.emod_lt_of_pos (cell.fdiv 5) (show (0 : Int) < 2 by decide)
      obtain ⟨n, hn, en⟩ := two_of (a := -1) (b := 1001) m0 m1
      refine ⟨_, rfl, _, _, rfl, rfl, ⟨by decide, sm9000 5 (by decide)⟩, _, _, rfl, rfl, (by show (0 : Int) < 2; decide), _, _, _, .inl (HasD.lst (SqL.of upd_same) (HasDs.ints (ns := [-1, 1001]) |>.mpr rfl)), rfl, en, fun u hu => ?_⟩
      rw [hu.ofint]
      have st1 := st.later (Same.upd n1 (o := .lst [V.int (-1), V.int 1001]))
      have q0 := Int.emod_nonneg cell (show (ws.length : Int) ≠ 0 by omega)
      have q1 := Int.emod_lt_of_pos cell (show (0 : Int) < ws.length by omega)
      obtain ⟨j, ej⟩ : ∃ j : Nat, cell % (ws.length : Int) = j := ⟨(cell % (ws.length : Int)).toNat, by omega⟩
      refine ⟨_, rfl, _, rfl, _, rfl, _, _, rfl, .inl st1.hw, _, _, rfl, rfl, (by rw [List.length_map]; show (0 : Int) < ws.length; omega), ?_⟩
      refine ⟨wa, _, _, j, rfl, rfl, st1.w, (by rw [List.length_map, List.length_map]; show ixN ws.length (cell % (ws.length : Int)) = some j; rw [ej]; exact ixN_nat (by omega)), ?_⟩
      refine ⟨ws.set j n, ?_, by rw [List.length_set]; exact h4, fun w hw => ?_, rfl⟩
      · rw [show (ws.map V.int).set j (V.int n) = (ws.set j n).map V.int by rw [List.map_set]]
        exact st1.setW _
      · rcases List.mem_or_eq_of_mem_set hw with z | z
        · exact bw w z
        · rw [z]
          rcases hn with rfl | rfl <;> decide
    rintro σ' H1 ⟨ws1, st1, l1, b1, rfl⟩
    -- mode 2
    refine ⟨fun σ' H' => ∃ ws', StS K J wa ra H' ws' rs xs ∧ BdW ws' ∧ σ' = [some (.ref wa), some (.ref ra), some (.int mode), some (.int cell), none, none, none, none], ?_, ?_⟩
    · refine ⟨_, rfl, rfl, _, rfl, ?_⟩
      refine ite2 (fun _ => ?_) (fun _ => ⟨ws1, st1, ⟨by omega, b1⟩, rfl⟩)
      have q0 := Int.emod_nonneg cell (show (5 : Int) ≠ 0 by decide)
      have q1 := Int.emod_lt_of_pos cell (show (0 : Int) < 5 by decide)
      obtain ⟨j, ej⟩ : ∃ j : Nat, 1 + cell % 5 = j := ⟨(1 + cell % 5).toNat, by omega⟩
      refine ⟨_, rfl, .inl ⟨rfl, _, SqL.of st1.w⟩, by show 5 ≤ sizeLine; decide, fun l2 n2 => ?_⟩
      refine ⟨_, rfl, _, _, rfl, rfl, (by show (0 : Int) < 5; decide), _, _, rfl, rfl, _, rfl, l2, _, rfl, SqL.of upd_same, fun l3 n3 => ?_⟩
      have ec : cutV [V.int 1, V.int 2, V.int 3, V.int 4, V.int 5] none (some (1 + cell % 5)) = (([1, 2, 3, 4, 5] : List Int).take j).map V.int := by
        rw [ej, cut_to (by simp; omega), List.map_take]
        rfl
      rw [ec]
      have st3 := (st1.later (Same.upd n2 (o := .lst [V.int 1, V.int 2, V.int 3, V.int 4, V.int 5]))).later (Same.upd n3 (o := .lst ((([1, 2, 3, 4, 5] : List Int).take j).map V.int)))
      have lj : ((([1, 2, 3, 4, 5] : List Int).take j)).length ≤ 5 := by
        rw [List.length_take]
        simp
        omega
      refine ⟨wa, l3, ws1.map V.int, _, rfl, rfl, st3.w, upd_same, by rw [List.length_map, List.length_map]; omega, ?_⟩
      refine ⟨ws1 ++ ([1, 2, 3, 4, 5] : List Int).take j, ?_, ⟨?_, fun w hw => ?_⟩, rfl⟩
      · rw [← List.map_append]
        exact st3.setW _
      · rw [List.length_append]
        omega
      · rcases List.mem_append.mp hw with z | z
        · exact b1 w z
        · have := List.take_subset _ _ z
          simp at this
          omega
    rintro σ' H2 ⟨ws2, st2, b2, rfl⟩
    -- mode 8
    refine ⟨fun σ' H' => ∃ ws', StS K J wa ra H' ws' rs xs ∧ BdW ws' ∧ σ' = [some (.ref wa), some (.ref ra), some (.int mode), some (.int cell), none, none, none, none], ?_, ?_⟩
    · refine ⟨_, rfl, rfl, _, rfl, ?_⟩
      refine ite2 (fun _ => ?_) (fun _ => ⟨ws2, st2, b2, rfl⟩)
      refine ⟨_, rfl, .inl ⟨rfl, _, SqL.of st2.w⟩, wa, _, rfl, rfl, st2.w, ?_⟩
      exact ⟨[], st2.setW [], ⟨Nat.zero_le _, fun _ h => (nomatch h)⟩, rfl⟩
    rintro σ' H3 ⟨ws3, st3, b3, rfl⟩
    -- mode 3
    refine ⟨fun σ' H' => ∃ rs' xs', StS K J wa ra H' ws3 rs' xs' ∧ rs'.length ≤ 11 ∧ (∀ ps ∈ rs', Bd10 ps) ∧ σ' = [some (.ref wa), some (.ref ra), some (.int mode), some (.int cell), none, none, none, none], ?_, ?_⟩
    · refine ⟨_, rfl, rfl, _, rfl, ?_⟩
      refine ite2 (fun _ => ?_) (fun _ => ⟨rs, xs, st3, by omega, b10, rfl⟩)
      refine ⟨_, rfl, .inl ⟨rfl, _, SqL.of st3.r⟩, by show 0 ≤ sizeLine; decide, fun e1 n1 => ⟨by show 0 ≤ sizeLine; decide, fun e2 n2 => ⟨by show 0 ≤ sizeLine; decide, fun e3 n3 => ⟨by show 0 ≤ sizeLine; decide, fun e4 n4 => ⟨by show 0 ≤ sizeLine; decide, fun e5 n5 => ⟨by show 0 ≤ sizeLine; decide, fun e6 n6 => ⟨by show 6 ≤ sizeLine; decide, fun l nl => ?_⟩⟩⟩⟩⟩⟩⟩
      have S1 := Same.upd n1 (o := .lst [])
      have S2 := Same.upd n2 (o := .lst [])
      have S3 := Same.upd n3 (o := .lst [])
      have S4 := Same.upd n4 (o := .lst [])
      have S5 := Same.upd n5 (o := .lst [])
      have S6 := Same.upd n6 (o := .lst [])
      have S7 := Same.upd nl (o := .lst [V.ref e1, V.ref e2, V.ref e3, V.ref e4, V.ref e5, V.ref e6])
      have st9 := st3.later ((((((S1.trans S2).trans S3).trans S4).trans S5).trans S6).trans S7)
      have nil : ∀ {e : Addr}, J e = none → (upd (upd (upd (upd (upd (upd (upd H3 e1 (.lst [])) e2 (.lst [])) e3 (.lst [])) e4 (.lst [])) e5 (.lst [])) e6 (.lst [])) l (.lst [V.ref e1, V.ref e2, V.ref e3, V.ref e4, V.ref e5, V.ref e6])) e = some (.lst []) → NewD K J (upd (upd (upd (upd (upd (upd (upd H3 e1 (.lst [])) e2 (.lst [])) e3 (.lst [])) e4 (.lst [])) e5 (.lst [])) e6 (.lst [])) l (.lst [V.ref e1, V.ref e2, V.ref e3, V.ref e4, V.ref e5, V.ref e6])) (.ref e) (pairsD []) := fun j q => .lst j q .nil
      have lx := st3.len
      refine ⟨ra, l, xs, _, rfl, rfl, st9.r, upd_same, by simp; omega, ?_⟩
      refine ⟨rs ++ List.replicate 6 [], xs ++ [V.ref e1, V.ref e2, V.ref e3, V.ref e4, V.ref e5, V.ref e6], ?_, by simp; omega, fun ps hp => ?_, rfl⟩
      · refine st9.setR ?_
        rw [List.map_append]
        refine NewDs.app st9.d (.cons (nil (st3.free n1) ?_) (.cons (nil (st3.free (S1.free n2)) ?_) (.cons (nil (st3.free ((S1.trans S2).free n3)) ?_) (.cons (nil (st3.free (((S1.trans S2).trans S3).free n4)) ?_) (.cons (nil (st3.free ((((S1.trans S2).trans S3).trans S4).free n5)) ?_) (.cons (nil (st3.free (((((S1.trans S2).trans S3).trans S4).trans S5).free n6)) ?_) .nil))))))
        · exact (((((S2.trans S3).trans S4).trans S5).trans S6).trans S7) _ _ upd_same
        · exact ((((S3.trans S4).trans S5).trans S6).trans S7) _ _ upd_same
        · exact (((S4.trans S5).trans S6).trans S7) _ _ upd_same
        · exact ((S5.trans S6).trans S7) _ _ upd_same
        · exact (S6.trans S7) _ _ upd_same
        · exact S7 _ _ upd_same
      · rcases List.mem_append.mp hp with z | z
        · exact b10 ps z
        · rw [List.eq_of_mem_replicate z]
          exact ⟨Nat.zero_le _, fun _ h => (nomatch h)⟩
    rintro σ' H4 ⟨rs4, xs4, st4, l4, b4, rfl⟩
    -- a rope there is
    refine ⟨fun σ' H' => ∃ rs' xs', StS K J wa ra H' ws3 rs' xs' ∧ rs'.length ≤ 12 ∧ (∀ ps ∈ rs', Bd10 ps) ∧ (3 < mode → 0 < rs'.length) ∧ σ' = [some (.ref wa), some (.ref ra), some (.int mode), some (.int cell), none, none, none, none], ?_, ?_⟩
    · refine ⟨_, rfl, _, _, rfl, rfl, _, rfl, ?_⟩
      by_cases hm : 3 < mode
      · refine ifP (by simpa using hm) ?_
        refine ⟨_, rfl, by show 0 ≤ sizeLine; decide, fun e0 n0 => ?_⟩
        have S0 := Same.upd n0 (o := .lst [])
        have st5 := st4.later S0
        have he0 : HasD K (upd H4 e0 (.lst [])) (.ref e0) (ropesD []) := .lst (SqL.of upd_same) .nil
        refine ⟨_, _, st5.hr, he0, (lays_ropes _).lay, (lays_ropes _).lay, Nat.le_trans (lays_ropes _).dep (by decide), _, rfl, ?_⟩
        by_cases hn : rs4 = []
        · subst hn
          refine ifP (eq_yes (eqv_self (plain_ropes _))) ?_
          have lx := st5.len
          refine ⟨_, rfl, .inl ⟨rfl, _, SqL.of st5.r⟩, by show 0 ≤ sizeLine; decide, fun e1 n1 => ?_⟩
          have S1 := Same.upd n1 (o := .lst [])
          have st6 := st5.later S1
          refine ⟨ra, _, _, rfl, rfl, st6.r, by rw [lx]; simp; omega, ?_⟩
          refine ⟨[] ++ [[]], xs4 ++ [.ref e1], ?_, by decide, fun ps hp => ?_, fun _ => by decide, rfl⟩
          · refine st6.setR ?_
            rw [List.map_append]
            exact NewDs.app st6.d (.cons (.lst (st5.free n1) upd_same .nil) .nil)
          · have e : ps = [] := by simpa using hp
            rw [e]
            exact ⟨Nat.zero_le _, fun _ h => (nomatch h)⟩
        · refine ifN (eq_no (eqv_not (plain_ropes _) (plain_ropes _) fun e => hn ?_)) ?_
          · unfold ropesD at e
            have e2 := PyData.list.inj e
            simpa using e2
          · exact ⟨rs4, xs4, st5, by omega, b4, fun _ => List.length_pos_iff.mpr hn, rfl⟩
      · refine ifN (by simpa using hm) ?_
        exact ⟨rs4, xs4, st4, by omega, b4, fun z => absurd z hm, rfl⟩
    rintro σ' H5 ⟨rs5, xs5, st5, l5, b5, hpos, rfl⟩
    have lx5 := st5.len
    -- at, body
    refine ⟨fun σ' H' => ∃ a : Nat, H' = H5 ∧ (3 < mode → a < rs5.length) ∧ σ' = [some (.ref wa), some (.ref ra), some (.int mode), some (.int cell), some (.int a), none, none, none], ?_, ?_⟩
    · have pos : (0 : Int) < if ((rs5.map pairsD).length : Int) > 1 then ((rs5.map pairsD).length : Int) else 1 := by split <;> omega
      obtain ⟨j, ej, hj⟩ := mod_nat (c := cell) pos
      refine ⟨_, rfl, _, rfl, _, _, rfl, .inl st5.hr, _, _, rfl, _, _, rfl, rfl, pos, j, rfl, fun hm => ?_, ?_⟩
      · have := hpos hm
        rw [List.length_map] at hj
        split at hj <;> omega
      · dsimp only
        rw [ej]
        rfl
    rintro σ' H5' ⟨ia, rfl, hia, rfl⟩
    refine ⟨fun σ' H' => ∃ bd : Int, H' = H5' ∧ bd.natAbs ≤ 20 ∧ σ' = [some (.ref wa), some (.ref ra), some (.int mode), some (.int cell), some (.int ia), some (.int bd), none, none], ?_, ?_⟩
    · have pos : (0 : Int) < if ((ws3.map PyData.int).length : Int) > 1 then ((ws3.map PyData.int).length : Int) else 1 := by split <;> omega
      obtain ⟨j, ej, hj⟩ := mod_nat (c := cell.fdiv 7) pos
      have l20 := b3.1
      refine ⟨_, rfl, _, _, rfl, rfl, ⟨by decide, sm9000 7 (by decide)⟩, _, rfl, _, _, rfl, .inl st5.hw, _, _, rfl, _, _, rfl, rfl, pos, j, rfl, ?_, ?_⟩
      · rw [List.length_map] at hj
        split at hj <;> omega
      · dsimp only
        rw [ej]
        rfl
    rintro σ' H6 ⟨bd, rfl, hbd, rfl⟩
    -- mode 4
    refine ⟨fun σ' H' => ∃ rs' xs', StS K J wa ra H' ws3 rs' xs' ∧ BdR rs' ∧ (3 < mode → ia < rs'.length) ∧ (4 < mode → ∀ ps ∈ rs', Bd10 ps) ∧ σ' = [some (.ref wa), some (.ref ra), some (.int mode), some (.int cell), some (.int ia), some (.int bd), none, none], ?_, ?_⟩
    · refine ⟨_, rfl, rfl, _, rfl, ?_⟩
      refine ite2 (fun hm => ?_) (fun _ => ⟨rs5, xs5, st5, ⟨by omega, fun ps hp => (b5 ps hp).bd⟩, hia, fun _ => b5, rfl⟩)
      have hm4 : mode = 4 := by simpa using hm
      have hi := hia (by omega)
      obtain ⟨r, us, er, hr2, hd, lu⟩ := st5.row hi
      have b10i := b5 _ (List.getElem_mem hi)
      generalize rs5[ia] = ps at *
      have l12 := b10i.1
      refine ⟨_, rfl, by show 2 ≤ sizeLine; decide, fun p1 n1 => ⟨by show 1 ≤ sizeLine; decide, fun l1 nl1 => ?_⟩⟩
      have S1 := Same.upd n1 (o := .tup [V.int bd, V.int 0])
      have S2 := Same.upd nl1 (o := .lst [V.ref p1])
      refine ⟨_, rfl, _, rfl, ra, xs5, _, _, rfl, rfl, SqL.of ((S1.trans S2) _ _ st5.r), atI_nat' er, l1, r, _, _, rfl, rfl, upd_same, (S1.trans S2) _ _ hr2, by simp; omega, fun l2 nl2 => ?_⟩
      have S3 := Same.upd nl2 (o := .lst ([V.ref p1] ++ us))
      refine ⟨by show 2 ≤ sizeLine; decide, fun p2 n2 => ⟨_, rfl, by show 2 ≤ sizeLine; decide, fun p3 n3 => ⟨by show 2 ≤ sizeLine; decide, fun l3 nl3 => ?_⟩⟩⟩
      have S4 := Same.upd n2 (o := .tup [V.int 0, V.int 1])
      have S5 := Same.upd n3 (o := .tup [V.int 0, V.int (-1)])
      have S6 := Same.upd nl3 (o := .lst [V.ref p2, V.ref p3])
      refine ⟨l3, 7, _, rfl, rfl, upd_same, by decide, by decide, by show 2 * 7 ≤ sizeLine; decide, fun l4 nl4 => ?_⟩
      have S7 := Same.upd nl4 (o := .lst (List.replicate (7 : Int).toNat [V.ref p2, V.ref p3]).flatten)
      refine ⟨l2, l4, _, _, rfl, rfl, (((S4.trans S5).trans S6).trans S7) _ _ upd_same, upd_same, ?_, fun l5 nl5 => ?_⟩
      · rw [List.length_append]
        show 1 + us.length + 14 ≤ sizeLine
        omega
      have S8 := Same.upd nl5 (o := .lst ([V.ref p1] ++ us ++ (List.replicate (7 : Int).toNat [V.ref p2, V.ref p3]).flatten))
      refine ⟨_, rfl, l5, _, rfl, SqL.of upd_same, fun l6 nl6 => ?_⟩
      have ec : cutV ([V.ref p1] ++ us ++ (List.replicate (7 : Int).toNat [V.ref p2, V.ref p3]).flatten) none (some 13) = ([V.ref p1] ++ us ++ (List.replicate 7 [V.ref p2, V.ref p3]).flatten).take 13 := cut_to (r := 13) (by rw [List.length_append, List.length_append]; show 13 ≤ 1 + us.length + 14; omega)
      rw [ec]
      have S9 := Same.upd nl6 (o := .lst (([V.ref p1] ++ us ++ (List.replicate 7 [V.ref p2, V.ref p3]).flatten).take 13))
      have Sall := (((((((S1.trans S2).trans S3).trans S4).trans S5).trans S6).trans S7).trans S8)
      have st9 := st5.later (Sall.trans S9)
      refine ⟨_, rfl, _, rfl, ra, _, _, ia, rfl, rfl, st9.r, ixN_nat (by omega), ?_⟩
      refine ⟨_, _, st9.put (at_ := ia) (ps := (([(bd, 0)] ++ ps) ++ (List.replicate 7 [((0 : Int), (1 : Int)), (0, -1)]).flatten).take 13) (st5.free (Sall.free nl6)) upd_same ?_, bdr_set ⟨by omega, fun ps hp => (b5 ps hp).bd⟩ ?_, fun z => by rw [List.length_set]; exact hia z, fun z => by omega, rfl⟩
      · rw [List.map_take, List.map_append, List.map_append]
        refine HasDs.take 13 (HasDs.app (HasDs.app (.cons (pair_has (p := (bd, 0)) ?_) .nil) (hd.same (Sall.trans S9))) ?_)
        · exact ((((((((S2.trans S3).trans S4).trans S5).trans S6).trans S7).trans S8).trans S9)) _ _ upd_same
        · rw [List.map_flatten, List.map_replicate]
          refine HasDs.rep (.cons (pair_has (p := (0, 1)) ?_) (.cons (pair_has (p := (0, -1)) ?_) .nil)) 7
          · exact ((((S5.trans S6).trans S7).trans S8).trans S9) _ _ upd_same
          · exact (((S6.trans S7).trans S8).trans S9) _ _ upd_same
      · refine ⟨by rw [List.length_take]; omega, fun p hp => ?_⟩
        have hp' := List.take_subset _ _ hp
        rcases List.mem_append.mp hp' with z | z
        · rcases List.mem_append.mp z with z | z
          · rw [List.mem_singleton.mp z]
            exact ⟨by show bd.natAbs ≤ 1001; omega, by show (0 : Int).natAbs ≤ 1001; decide⟩
          · have := b10i.2 p z
            omega
        · have : ∀ q ∈ (List.replicate 7 [((0 : Int), (1 : Int)), (0, -1)]).flatten, q.1.natAbs ≤ 1001 ∧ q.2.natAbs ≤ 1001 := by decide
          exact this p z
    rintro σ' H7 ⟨rs7, xs7, st7, b7, hia7, b107, rfl⟩
    have lx7 := st7.len
    -- mode 5
    refine ⟨fun σ' H' => ∃ rs' xs' z, StS K J wa ra H' ws3 rs' xs' ∧ BdR rs' ∧ (3 < mode → ia < rs'.length) ∧ (5 < mode → ∀ ps ∈ rs', Bd10 ps) ∧ σ' = [some (.ref wa), some (.ref ra), some (.int mode), some (.int cell), some (.int ia), some (.int bd), z, none], ?_, ?_⟩
    · refine ⟨_, rfl, rfl, _, rfl, ?_⟩
      refine ite2 (fun hm => ?_) (fun _ => ⟨rs7, xs7, _, st7, b7, hia7, fun z => b107 (by omega), rfl⟩)
      have hm5 : mode = 5 := by simpa using hm
      have hi := hia7 (by omega)
      obtain ⟨r, us, er, hr2, hd, lu⟩ := st7.row hi
      have b10i := b107 (by omega) _ (List.getElem_mem hi)
      generalize rs7[ia] = ps at *
      have l12 := b10i.1
      refine ⟨_, rfl, _, rfl, ra, xs7, _, _, rfl, rfl, SqL.of st7.r, atI_nat' er, _, rfl, r, us, rfl, SqL.of hr2, fun l1 nl1 => ?_⟩
      have ec : ∃ n, n ≤ 11 ∧ n ≤ us.length ∧ cutV us none (some 11) = us.take n := by
        refine ⟨min 11 us.length, by omega, by omega, ?_⟩
        unfold cutV
        rw [show HT.sIx us.length 0 none = 0 from rfl, show (some (11 : Int)) = some ((11 : Nat) : Int) from rfl, HT.sIx_nat]
        simp
      obtain ⟨n, hn, hn', ec⟩ := ec
      rw [ec]
      have S1 := Same.upd nl1 (o := .lst (us.take n))
      refine ⟨_, rfl, _, rfl, ra, _, _, ia, rfl, rfl, S1 _ _ st7.r, ixN_nat (by omega), ?_⟩
      generalize hH8 : upd (upd H7 l1 (.lst (us.take n))) ra (.lst (xs7.set ia (.ref l1))) = H8
      have stp := (st7.later S1).put (at_ := ia) (ps := ps.take n) (st7.free nl1) upd_same (by rw [List.map_take]; exact HasDs.take n (hd.same S1))
      rw [hH8] at stp
      -- bad
      refine ⟨_, rfl, _, rfl, _, _, rfl, .inl stp.hw, by show 2 ≤ sizeLine; decide, fun l2 nl2 => ?_⟩
      obtain ⟨m1, hm1, em1⟩ := menu_of (ns := [-1, (ws3.length : Int)]) (c := cell.fdiv 7) (n := 2) rfl (by decide)
      have S2 := Same.upd nl2 (o := .lst [V.int (-1), V.int ((ws3.map PyData.int).length : Int)])
      refine ⟨_, rfl, _, _, rfl, rfl, ⟨by decide, sm9000 7 (by decide)⟩, _, _, rfl, rfl, (by show (0 : Int) < 2; decide), _, _, _, .inl (HasD.lst (SqL.of upd_same) (HasDs.ints (ns := [-1, (ws3.length : Int)]) |>.mpr (by rw [List.length_map]; rfl))), rfl, em1, fun u1 hu1 => ?_⟩
      rw [hu1.ofint]
      refine ⟨_, rfl, by show 3 ≤ sizeLine; decide, fun l3 nl3 => ?_⟩
      obtain ⟨m2, hm2, em2⟩ := menu_of (ns := [0, 1, -1]) (c := cell.fdiv 14) (n := 3) rfl (by decide)
      have S3 := Same.upd nl3 (o := .lst [V.int 0, V.int 1, V.int (-1)])
      refine ⟨_, rfl, _, _, rfl, rfl, ⟨by decide, sm9000 14 (by decide)⟩, _, _, rfl, rfl, (by show (0 : Int) < 3; decide), _, _, _, .inl (HasD.lst (SqL.of upd_same) (HasDs.ints (ns := [0, 1, -1]) |>.mpr rfl)), rfl, em2, fun u2 hu2 => ?_⟩
      rw [hu2.ofint]
      refine ⟨by show 2 ≤ sizeLine; decide, fun p1 n1 => ?_⟩
      have S4 := Same.upd n1 (o := .tup [V.int m1, V.int m2])
      have S24 := (S2.trans S3).trans S4
      have st9 := stp.later S24
      obtain ⟨r9, us9, er9, hr9, hd9, lu9⟩ := st9.row (i := ia) (by rw [List.length_set]; exact hi)
      rw [List.getElem_set_self] at hd9 lu9
      have exs : (xs7.set ia (V.ref l1))[ia]? = some (.ref l1) := List.getElem?_set_self (by omega)
      rw [exs] at er9
      cases er9
      have hl9 := HasD.lst (SqL.of hr9) hd9
      rw [List.length_take] at lu9
      have pos : (0 : Int) < (((ps.take n).map pairD).length : Int) + 1 := by omega
      have q0 := Int.emod_nonneg (cell.fdiv 42) (show (((ps.take n).map pairD).length : Int) + 1 ≠ 0 by omega)
      have q1 := Int.emod_lt_of_pos (cell.fdiv 42) pos
      rw [List.length_map, List.length_take] at q1
      refine ⟨_, rfl, _, rfl, ra, _, _, _, rfl, rfl, SqL.of st9.r, atI_nat' exs, .inl ⟨rfl, _, SqL.of hr9⟩, _, rfl, _, _, rfl, rfl, ⟨by decide, sm9000 42 (by decide)⟩, _, rfl, _, rfl, ra, _, _, _, rfl, rfl, SqL.of st9.r, atI_nat' exs, _, _, rfl, .inl hl9, _, _, rfl, rfl, _, _, rfl, rfl, pos, _, rfl, l1, us9, _, _, rfl, rfl, hr9, q0, ?_, by omega, ?_⟩
      · rw [List.length_map, List.length_take]
        show cell.fdiv 42 % _ ≤ _
        omega
      · generalize (cell.fdiv 42 % ((((ps.take n).map pairD).length : Int) + 1)).toNat = i
        have hp1 : HasD K (upd (upd (upd H8 l2 (.lst [V.int (-1), V.int ((ws3.map PyData.int).length : Int)])) l3 (.lst [V.int 0, V.int 1, V.int (-1)])) p1 (.tup [V.int m1, V.int m2])) (.ref p1) (pairD (m1, m2)) := pair_has (p := (m1, m2)) upd_same
        have SS : Same (upd (upd H7 l1 (.lst (us.take n))) ra (.lst (xs7.set ia (.ref l1)))) (upd (upd (upd H8 l2 (.lst [V.int (-1), V.int ((ws3.map PyData.int).length : Int)])) l3 (.lst [V.int 0, V.int 1, V.int (-1)])) p1 (.tup [V.int m1, V.int m2])) := by
          rw [hH8]
          exact S24
        have l20 := b3.1
        refine ⟨_, _, _, st7.turn nl1 SS (ins_has (q := (m1, m2)) i hd9 hp1), bdr_set b7 (ins_bd i ?_ (fun p hp => ?_) ?_), fun z => by rw [List.length_set]; exact hia7 z, fun z => by omega, rfl⟩
        · rw [List.length_take]
          omega
        · have := b10i.2 p (List.take_subset _ _ hp)
          omega
        · simp at hm1 hm2
          exact ⟨by show m1.natAbs ≤ 1001; omega, by show m2.natAbs ≤ 1001; omega⟩
    rintro σ' H8 ⟨rs8, xs8, z8, st8, b8, hia8, b108, rfl⟩
    have lx8 := st8.len
    -- mode 6
    refine ⟨fun σ' H' => ∃ rs' xs' z z', StS K J wa ra H' ws3 rs' xs' ∧ BdR rs' ∧ (3 < mode → ia < rs'.length) ∧ σ' = [some (.ref wa), some (.ref ra), some (.int mode), some (.int cell), some (.int ia), some (.int bd), z, z'], ?_, ?_⟩
    · refine ⟨_, rfl, rfl, _, rfl, ?_⟩
      refine ite2 (fun hm => ?_) (fun _ => ⟨rs8, xs8, _, _, st8, b8, hia8, rfl⟩)
      have hm6 : mode = 6 := by simpa using hm
      have hi := hia8 (by omega)
      refine ⟨_, rfl, _, rfl, by show 5 ≤ sizeLine; decide, fun l0 nl0 => ?_⟩
      have S0 := Same.upd nl0 (o := .lst [V.int (-10), V.int 10, V.int 12, V.int (-15), V.int 1000])
      obtain ⟨nu, hnu, enu⟩ := menu_of (ns := [-10, 10, 12, -15, 1000]) (c := cell.fdiv 28) (n := 5) rfl (by decide)
      refine ⟨_, rfl, _, _, rfl, rfl, ⟨by decide, sm9000 28 (by decide)⟩, _, _, rfl, rfl, (by show (0 : Int) < 5; decide), _, _, _, .inl (HasD.lst (SqL.of upd_same) (HasDs.ints (ns := [-10, 10, 12, -15, 1000]) |>.mpr rfl)), rfl, enu, fun u0 hu0 => ?_⟩
      rw [hu0.ofint]
      have bnu : nu.natAbs ≤ 1000 := by
        simp at hnu
        omega
      have st0 := st8.later S0
      generalize upd H8 l0 _ = H9 at *
      obtain ⟨r, us, er, hr2, hd, lu⟩ := st0.row hi
      have b10i := b108 (by omega) _ (List.getElem_mem hi)
      generalize rs8[ia] = ps at *
      have l12 := b10i.1
      refine ⟨_, rfl, _, rfl, ra, xs8, _, _, rfl, rfl, SqL.of st0.r, atI_nat' er, _, rfl, r, us, rfl, SqL.of hr2, fun l1 nl1 => ?_⟩
      have ec : ∃ n, n ≤ 8 ∧ n ≤ us.length ∧ cutV us none (some 8) = us.take n := by
        refine ⟨min 8 us.length, by omega, by omega, ?_⟩
        unfold cutV
        rw [show HT.sIx us.length 0 none = 0 from rfl, show (some (8 : Int)) = some ((8 : Nat) : Int) from rfl, HT.sIx_nat]
        simp
      obtain ⟨n, hn, hn', ec⟩ := ec
      rw [ec]
      have S1 := Same.upd nl1 (o := .lst (us.take n))
      refine ⟨_, rfl, _, rfl, _, rfl, _, _, rfl, rfl, _, _, rfl, _, _, rfl, by show 2 ≤ sizeLine; decide, fun p1 n1 => ?_⟩
      generalize hmx : (if (if 0 - nu < 9 then 0 - nu else 9) > -9 then (if 0 - nu < 9 then 0 - nu else 9) else -9) = mx
      have bmx : mx.natAbs ≤ 9 := by
        rw [← hmx]
        split <;> split <;> omega
      have S2 := Same.upd n1 (o := .tup [V.int bd, V.int mx])
      refine ⟨_, rfl, by show 2 ≤ sizeLine; decide, fun l2 nl2 => ?_⟩
      have S3 := Same.upd nl2 (o := .lst [V.int 0, V.int 3])
      obtain ⟨m2, hm2, em2⟩ := menu_of (ns := [0, 3]) (c := cell.fdiv 140) (n := 2) rfl (by decide)
      refine ⟨_, rfl, _, _, rfl, rfl, ⟨by decide, sm9000 140 (by decide)⟩, _, _, rfl, rfl, (by show (0 : Int) < 2; decide), _, _, _, .inl (HasD.lst (SqL.of upd_same) (HasDs.ints (ns := [0, 3]) |>.mpr rfl)), rfl, em2, fun u2 hu2 => ?_⟩
      rw [hu2.ofint]
      refine ⟨by show 2 ≤ sizeLine; decide, fun p2 n2 => ⟨by show 2 ≤ sizeLine; decide, fun l3 nl3 => ?_⟩⟩
      have S4 := Same.upd n2 (o := .tup [V.int bd, V.int m2])
      have S5 := Same.upd nl3 (o := .lst [V.ref p1, V.ref p2])
      have S15 := (((S1.trans S2).trans S3).trans S4).trans S5
      refine ⟨l1, l3, _, _, rfl, rfl, (((S2.trans S3).trans S4).trans S5) _ _ upd_same, upd_same, by rw [List.length_take]; show min n us.length + 2 ≤ sizeLine; omega, fun l4 nl4 => ?_⟩
      have hp1 := (((S3.trans S4).trans S5)) p1 _ upd_same
      have hp2 := S5 p2 _ upd_same
      have hd15 := hd.same S15
      have st15 := st0.later S15
      generalize upd _ l3 _ = H10 at *
      have S6 := Same.upd nl4 (o := .lst (us.take n ++ [V.ref p1, V.ref p2]))
      refine ⟨_, rfl, _, rfl, ra, _, _, ia, rfl, rfl, S6 _ _ st15.r, ixN_nat (by omega), ?_⟩
      generalize hH11 : upd (upd H10 l4 (.lst (us.take n ++ [V.ref p1, V.ref p2]))) ra (.lst (xs8.set ia (.ref l4))) = H11
      have hdn : HasDs K H10 (us.take n ++ [V.ref p1, V.ref p2]) ((ps.take n ++ [(bd, mx), (bd, m2)]).map pairD) := by
        rw [List.map_append, List.map_take]
        exact HasDs.app (HasDs.take n hd15) (.cons (pair_has (p := (bd, mx)) hp1) (.cons (pair_has (p := (bd, m2)) hp2) .nil))
      have stp := (st15.later S6).put (at_ := ia) (ps := ps.take n ++ [(bd, mx), (bd, m2)]) (st15.free nl4) upd_same (hdn.same S6)
      rw [hH11] at stp
      have exs : (xs8.set ia (V.ref l4))[ia]? = some (.ref l4) := List.getElem?_set_self (by omega)
      obtain ⟨r9, us9, er9, hr9, hd9, lu9⟩ := stp.row (i := ia) (by rw [List.length_set]; exact hi)
      rw [List.getElem_set_self] at hd9 lu9
      rw [exs] at er9
      cases er9
      have hl9 := HasD.lst (SqL.of hr9) hd9
      have lps : (ps.take n ++ [(bd, mx), (bd, m2)]).length ≤ 10 := by
        rw [List.length_append, List.length_take]
        show min n ps.length + 2 ≤ 10
        omega
      generalize hqs : ps.take n ++ [(bd, mx), (bd, m2)] = qs at *
      have pos : (0 : Int) < ((qs.map pairD).length : Int) + 1 := by omega
      have q0 := Int.emod_nonneg (cell.fdiv 280) (show ((qs.map pairD).length : Int) + 1 ≠ 0 by omega)
      have q1 := Int.emod_lt_of_pos (cell.fdiv 280) pos
      rw [List.length_map] at q1
      refine ⟨_, rfl, _, rfl, ra, _, _, _, rfl, rfl, SqL.of stp.r, atI_nat' exs, .inl ⟨rfl, _, SqL.of hr9⟩, _, rfl, _, _, rfl, rfl, ⟨by decide, sm9000 280 (by decide)⟩, _, rfl, _, rfl, ra, _, _, _, rfl, rfl, SqL.of stp.r, atI_nat' exs, _, _, rfl, .inl hl9, _, _, rfl, rfl, _, _, rfl, rfl, pos, _, rfl, _, rfl, by show 2 ≤ sizeLine; decide, fun p3 n3 => ?_⟩
      have S7 := Same.upd n3 (o := .tup [V.int bd, V.int nu])
      refine ⟨l4, us9, _, _, rfl, rfl, S7 _ _ hr9, q0, ?_, by omega, ?_⟩
      · rw [List.length_map]
        show cell.fdiv 280 % _ ≤ _
        omega
      · generalize (cell.fdiv 280 % (((qs.map pairD).length : Int) + 1)).toNat = i
        have SS : Same (upd (upd H10 l4 (.lst (us.take n ++ [V.ref p1, V.ref p2]))) ra (.lst (xs8.set ia (.ref l4)))) (upd H11 p3 (.tup [V.int bd, V.int nu])) := by
          rw [hH11]
          exact S7
        refine ⟨_, _, _, _, st15.turn nl4 SS (ins_has (q := (bd, nu)) i (hd9.same S7) (pair_has (p := (bd, nu)) upd_same)), bdr_set b8 (ins_bd i (by omega) (fun p hp => ?_) ⟨by show bd.natAbs ≤ 1001; omega, by show nu.natAbs ≤ 1001; omega⟩), fun z => by rw [List.length_set]; exact hia8 z, rfl⟩
        rw [← hqs] at hp
        rcases List.mem_append.mp hp with z | z
        · have := b10i.2 p (List.take_subset _ _ z)
          omega
        · simp at hm2 z
          rcases z with rfl | rfl
          · exact ⟨by show bd.natAbs ≤ 1001; omega, by show mx.natAbs ≤ 1001; omega⟩
          · exact ⟨by show bd.natAbs ≤ 1001; omega, by show m2.natAbs ≤ 1001; omega⟩
    rintro σ' H9 ⟨rs9, xs9, z9, z9', st9, b9, hia9, rfl⟩
    have lx9 := st9.len
    -- mode 7
    refine ⟨_, rfl, rfl, _, rfl, ?_⟩
    refine ite2 (fun hm => ?_) (fun _ => k _ _ _ _ st9 b3 b9)
    have hm7 : mode = 7 := by simpa using hm
    have hi := hia9 (by omega)
    refine ⟨by show 2 ≤ sizeLine; decide, fun p1 n1 => ⟨_, rfl, by show 4 ≤ sizeLine; decide, fun l1 nl1 => ?_⟩⟩
    have S1 := Same.upd n1 (o := .tup [V.int 0, V.int 9])
    have S2 := Same.upd nl1 (o := .lst [V.int 1, V.int 9, V.int (-9), V.int 0])
    obtain ⟨m2, hm2, em2⟩ := menu_of (ns := [1, 9, -9, 0]) (c := cell.fdiv 7) (n := 4) rfl (by decide)
    refine ⟨_, rfl, _, _, rfl, rfl, ⟨by decide, sm9000 7 (by decide)⟩, _, _, rfl, rfl, (by show (0 : Int) < 4; decide), _, _, _, .inl (HasD.lst (SqL.of upd_same) (HasDs.ints (ns := [1, 9, -9, 0]) |>.mpr rfl)), rfl, em2, fun u2 hu2 => ?_⟩
    rw [hu2.ofint]
    refine ⟨by show 2 ≤ sizeLine; decide, fun p2 n2 => ⟨by show 2 ≤ sizeLine; decide, fun l2 nl2 => ?_⟩⟩
    have S3 := Same.upd n2 (o := .tup [V.int 0, V.int m2])
    have S4 := Same.upd nl2 (o := .lst [V.ref p1, V.ref p2])
    have S13 := (S1.trans S2).trans S3
    have st10 := st9.later (S13.trans S4)
    have pos : (0 : Int) < ((rs9.map pairsD).length : Int) := by rw [List.length_map]; omega
    obtain ⟨j, ej, hj⟩ := mod_nat (c := cell) pos
    rw [List.length_map] at hj
    refine ⟨_, rfl, _, rfl, _, rfl, _, _, rfl, .inl st10.hr, _, _, rfl, rfl, pos, ra, _, _, j, rfl, rfl, st10.r, ?_, ?_⟩
    · show ixN xs9.length (cell % ((rs9.map pairsD).length : Int)) = some j
      rw [ej]
      exact ixN_nat (by omega)
    · refine k _ _ _ _ (st10.put (at_ := j) (ps := [(0, 9), (0, m2)]) (st9.free (S13.free nl2)) upd_same (.cons (pair_has (p := (0, 9)) (((S2.trans S3).trans S4) _ _ upd_same)) (.cons (pair_has (p := (0, m2)) (S4 _ _ upd_same)) .nil))) b3 (bdr_set b9 ⟨by show 2 ≤ 40; decide, fun p hp => ?_⟩)
      simp at hm2 hp
      rcases hp with rfl | rfl
      · decide
      · exact ⟨by show (0 : Int).natAbs ≤ 1001; decide, by show m2.natAbs ≤ 1001; omega⟩
unseal L2.PA L2.PE L2.PT L2.PS L2.PSs L2.PG L2.PI L2.PO L2.PW


section
variable {K : PySem.W.Frag} {te : TE} {σ0 : St} {Q : VK} {H H' H0 H1 J : Hp} {l b p : Addr} {v : V} {d : PyData} {vs : List V} {ds : List PyData}
theorem comp_listG {a : Addr} {xs : List V} {ds : List PyData} (hq : SqL K H1 a xs) (hn : ds.length = xs.length) (hl : H1 l = none) (hz : xs.length ≤ sizeLine)
    (ht : ∀ (i : Nat) x H d (R : VK), xs[i]? = some x → ds[i]? = some d → Same H1 H → (∀ v H4, Same H H4 → NewD K H H4 v d → R v H4) → te (σ0.set 0 (some x)) H R)
    (he : ∀ H vs, Grow K H1 l H vs ds → Q (.ref l) H) :
    CompRun (Itl K a) (gName 0) tYes te σ0 Q H1 l := by
  refine ⟨fun i m vs H => m = xs.length - i ∧ i ≤ xs.length ∧ Grow K H1 l H vs (ds.take i), ⟨xs.length, by simp, Nat.zero_le _, by rw [List.take_zero]; exact Grow.start hl⟩, ?_⟩
  rintro i m vs H ⟨rfl, hi, g⟩
  refine ⟨g.at_, ?_⟩
  by_cases hlt : i < xs.length
  · have hd : ds[i]? = some ds[i] := List.getElem?_eq_getElem (by omega)
    refine .inr ⟨⟨xs, xs[i], g.S.seq hq, by simp [hlt]⟩, ?_, fun vs' H' => Grow K H1 l H' vs' (ds.take (i + 1)), fun vs' H' g' => ⟨xs.length - (i + 1), by omega, rfl, hlt, g'⟩, fun x H' y => ?_⟩
    · rw [g.d.len, List.length_take]
      omega
    · obtain ⟨rfl, y⟩ := y
      refine ht i x _ _ _ (y xs (g.S.seq hq)) hd g.S fun v H4 S4 N4 => ?_
      refine ⟨S4 _ _ g.at_, ?_⟩
      rw [show ds.take (i + 1) = ds.take i ++ [ds[i]] by rw [List.take_succ_eq_append_getElem]]
      exact g.push S4 N4
  · have e : i = xs.length := by omega
    subst e
    refine .inl ⟨⟨xs, g.S.seq hq, Nat.le_refl _⟩, he H vs ?_⟩
    rw [List.take_of_length_le (by omega)] at g
    exact g
end
theorem small_nat {n : Nat} (h : n ≤ 100) : smallI (n : Int) := by
  unfold smallI
  omega
theorem HoistAt.meth {K : PySem.W.Frag} {C : Ad} {H : Hp} {v : V} {ws : List Int} {tb : List (List Int)} (h : HoistAt K C H v ws tb) {m : Str} (h1 : ¬ m = "rope_strands") (h2 : ¬ m = "body_weights") : ∃ p dx fs, v = .ref p ∧ H p = some (.ins C.Hoist dx fs) ∧ fs.lookup m = none := by
  obtain ⟨⟨p, dx, a, b, rfl, q, _⟩, _⟩ := h
  exact ⟨p, dx, _, rfl, q, hflds_no a b h1 h2⟩
theorem rng_get {α : Type} {f : Nat → α} {g : α → PyData} {n i : Nat} {d : PyData} (h : (((List.range n).map f).map g)[i]? = some d) : i < n ∧ g (f i) = d := by
  rw [List.map_map, List.getElem?_map] at h
  by_cases hi : i < n
  · rw [List.getElem?_range hi] at h
    exact ⟨hi, Option.some.inj h⟩
  · rw [List.getElem?_eq_none (by simp; omega)] at h
    cases h
def cellW (ns : List Int) (n : Nat) : List Int := (List.range n).map fun k => ns.getD (1 + k) 0 % 1001
def bothD (ws : List Int) (rs : List (List (Int × Int))) : PyData := .list [intsD ws, ropesD rs]
theorem lays_both (ws : List Int) (rs : List (List (Int × Int))) : Lays 10 (bothD ws rs) := by
  have a := lays_ints ws
  have b := lays_ropes rs
  refine ⟨?_, ?_⟩
  · simp [bothD, PyData.canLay0, PyData.canLayAll0, a.lay, b.lay]
  · have := a.dep
    have := b.dep
    simp only [bothD, PyData.depth, PyData.depthAll]
    omega
theorem plain_both (ws : List Int) (rs : List (List (Int × Int))) : plainD (bothD ws rs) = true := by simp [bothD, plainD, plainDs, plain_ints, plain_ropes]
theorem kinds_lay (l : List Bool) : Lays 2 (kindsD l) := lays_list (fun b => ⟨rfl, by simp [PyData.depth]⟩) l
theorem kinds_eqv : ∀ (l m : List Bool), PyData.eqv (kindsD l) (kindsD m) = decide (l = m)
  | [], [] => rfl
  | [], _ :: _ => rfl
  | _ :: _, [] => rfl
  | a :: l, b :: m => by
    have h := kinds_eqv l m
    unfold kindsD at *
    rw [PyData.eqv] at *
    rw [List.map_cons, List.map_cons, PyData.eqvAll, h, PyData.eqv]
    rw [Bool.eq_iff_iff]
    simp
def noD : PyData := .tuple [.none, kindsD noHoistL]
theorem noD_lay : Lays 10 noD := ⟨by decide, by decide⟩
theorem noD_eqv : PyData.eqv noD noD = true := by decide
def spLaw (K : PySem.W.Frag) : Sp := fun vs H Q _ => ∃ (a : Addr) (ns : List Int), vs = [.ref a] ∧ SqL K H a (ns.map V.int) ∧ ns.length ≤ 63 ∧ ∀ H', Q (.bl true) H'
seal L2.PA L2.PE L2.PT L2.PS L2.PSs L2.PG L2.PI L2.PO L2.PW
theorem sc_law : FnScope ["script", "bodies", "weights", "ropes", "table", "pairs", "handed", "made", "hoist", "found", "r", "body", "strands"] ["script"] (defScope s_law) := ⟨rfl, rfl, rfl, by decide +kernel, rfl, by decide +kernel, by decide +kernel⟩
theorem ok_law_f {P : Program} {w : World} {K : PySem.W.Frag} {mg : Str → Option Value} {base : Heap} {C : Ad} {f : Addr} {fd : FuncData} (T : Txt K mg C) (F : Fun K "law" "law" s_law f fd)
    (o_Hoist_many_ropes : OwnM P w K mg base CX0 C.Hoist "many_ropes" ["self"] 1 (spManyRopes K C))
    (o_Hoist_strands : OwnM P w K mg base (CXE P w) C.Hoist "strands" ["self", "rope", "body"] 3 (spStrands K C))
    (o_Hoist_weights : OwnM P w K mg base CX0 C.Hoist "weights" ["self"] 1 (spWeights K C))
    (o__law_cell_at : Own P w K mg base CX0 "_law_cell_at" ["script", "k"] 1 (spCell K))
    (o__law_made : Own P w K mg base CX0 "_law_made" ["weights", "ropes"] 5 (spMade K C))
    (o__law_right : Own P w K mg base CX0 "_law_right" ["weights", "table", "ropes"] 1 (spRight K))
    (o__law_ropes : Own P w K mg base CX0 "_law_ropes" ["script", "bodies", "many"] 2 (spRopes2 K))
    (o__law_spoiled : Own P w K mg base CX0 "_law_spoiled" ["weights", "ropes", "mode", "cell"] 1 (spSpoiled K))
    (o__law_whole : Own P w K mg base CX0 "_law_whole" ["found"] 1 (spWhole)) :
    FnOk P w K mg base CX0 6 f fd ["script"] (spLaw K) := by
  refine F.ok sc_law (fun vs H Q E h => ?_) (fun cdv A outer s H vs Q E hr h => ?_)
  · obtain ⟨a, ns, rfl, _⟩ := h
    rfl
  · obtain ⟨a, ns, rfl, hS, hlen, k⟩ := h
    have hv : HasD K H (.ref a) (intsD ns) := ints_has hS
    have sl : (1000 : Nat) ≤ sizeLine := by decide
    refine ⟨_, (pss_consJ (ps_set (i := 1) sc_law.nd rfl (Or.inl rfl) (pe_op op_add pe_int (pe_op op_mod (pe_own o__law_cell_at (hr.mono (by decide)) rfl pass0 (pa_cons (pv 0) (pa_cons pe_int pa_nil st_Constant) st_Name)) pe_int)))
        (pss_cons (ps_setComp (i := 2) sc_law.nd rfl (Or.inl rfl) (tg := ["k"]) (cap := ["script"]) (caps := [0]) (CompSc.of_ok (by kernel_rfl)) rfl (gk_name (by decide)) (pi_range1 rfl T.b_range (pa_cons (pv 1) pa_nil st_Name)) (fun _ _ _ _ _ => (pg_name (i := 0) (show ((["k"] : List Str) ++ (["script"] : List Str)).Nodup by decide +kernel) rfl (Or.inl rfl))) (fun _ _ _ _ _ => pts_nil) (fun _ _ _ _ _ => (pe_op op_mod (pe_own o__law_cell_at (hr.mono (by decide)) rfl pass0 (pa_cons (pv 1) (pa_cons (pe_op op_add pe_int (pv 0)) pa_nil st_BinOp) st_Name)) pe_int)))
        (pss_cons (ps_set (i := 3) sc_law.nd rfl (Or.inl rfl) (pe_own o__law_ropes (hr.mono (by decide)) rfl pass0 (pa_cons (pv 0) (pa_cons (pv 1) (pa_cons (pe_op op_mod (pe_op op_fdivL (pe_own o__law_cell_at (hr.mono (by decide)) rfl pass0 (pa_cons (pv 0) (pa_cons pe_int pa_nil st_Constant) st_Name)) pe_int) pe_int) pa_nil st_BinOp) st_Name) st_Name)))
        (pss_consJ (ps_expr (pe_own o__law_spoiled (hr.mono (by decide)) rfl pass0 (pa_cons (pv 2) (pa_cons (pv 3) (pa_cons (pe_op op_mod (pe_own o__law_cell_at (hr.mono (by decide)) rfl pass0 (pa_cons (pv 0) (pa_cons pe_int pa_nil st_Constant) st_Name)) pe_int) (pa_cons (pe_own o__law_cell_at (hr.mono (by decide)) rfl pass0 (pa_cons (pv 0) (pa_cons pe_int pa_nil st_Constant) st_Name)) pa_nil st_Call) st_BinOp) st_Name) st_Name)))
        (pss_cons (ps_set (i := 4) sc_law.nd rfl (Or.inl rfl) (pe_lst pa_nil))
        (pss_cons (ps_for PassesOwn.never rfl (pi_listK (K := K) rfl (pv 3)) (pg_name (i := 5) sc_law.nd rfl (Or.inr rfl))
        (pss_one (ps_expr (pe_bm PySem.F.plainAttrs_list PySem.F.slot_list_append PySem.F.type_list_append mt_append (pv 4) (pa_cons (pe_comp (tg := ["body"]) (cap := ["pairs"]) (caps := [5]) (CompSc.of_ok (by kernel_rfl)) rfl (gk_name (by decide)) (pi_range1 rfl T.b_range (pa_cons (pe_callB (call_lenK (K := K) rfl) rfl T.b_len bt_len (pa_cons (pv 2) pa_nil st_Name)) pa_nil st_Call)) (fun _ _ _ _ _ => (pg_name (i := 0) (show ((["body"] : List Str) ++ (["pairs"] : List Str)).Nodup by decide +kernel) rfl (Or.inr rfl))) (fun _ _ _ _ _ => pts_nil) (fun _ _ _ _ _ => (pe_callB (call_sumK (K := K) rfl rfl) rfl T.b_sum bt_sum (pa_cons (pe_comp (tg := ["pair"]) (cap := ["body"]) (caps := [0]) (CompSc.of_ok (by kernel_rfl)) rfl (gk_name (by decide)) (pi_listK (K := K) rfl (pv 1)) (fun _ _ _ _ _ => (pg_name (i := 0) (show ((["pair"] : List Str) ++ (["body"] : List Str)).Nodup by decide +kernel) rfl (Or.inl rfl))) (fun _ _ _ _ _ => (pts_one (pt_cmpR op_eq (pe_ix (ix_K (K := K) rfl) (pv 0) pe_int (fun _ _ => rfl)) (pv 1) (nomark _)))) (fun _ _ _ _ _ => (pe_ix (ix_K (K := K) rfl) (pv 0) pe_int (fun _ _ => rfl)))) pa_nil st_ListComp)))) pa_nil st_ListComp)))))
        (pss_cons (ps_set (i := 6) sc_law.nd rfl (Or.inl rfl) (pe_lst (pa_cons (pe_callTy (call_listK (K := K) rfl) rfl T.b_list bt_list (pa_cons (pv 2) pa_nil st_Name)) (pa_cons (pe_comp (tg := ["pairs"]) (cap := []) (caps := []) (CompSc.of_ok (by kernel_rfl)) rfl (gk_name (by decide)) (pi_listK (K := K) rfl (pv 3)) (fun _ _ _ _ _ => (pg_name (i := 0) (show ((["pairs"] : List Str) ++ ([] : List Str)).Nodup by decide +kernel) rfl (Or.inl rfl))) (fun _ _ _ _ _ => pts_nil) (fun _ _ _ _ _ => (pe_callTy (call_listK (K := K) rfl) rfl T.b_list bt_list (pa_cons (pv 0) pa_nil st_Name)))) pa_nil st_ListComp) st_Call)))
        (pss_cons (ps_set (i := 7) sc_law.nd rfl (Or.inl rfl) (pe_own o__law_made (hr.mono (by decide)) rfl pass0 (pa_cons (pe_ix (ix_listK (K := K) rfl) (pv 6) pe_int (fun _ _ => rfl)) (pa_cons (pe_ix (ix_listK (K := K) rfl) (pv 6) pe_int (fun _ _ => rfl)) pa_nil st_Subscript) st_Subscript)))
        (pss_cons (ps_if (pt_cmpR (op_neK (K := K) rfl hr) (pv 6) (pe_lst (pa_cons (pv 2) (pa_cons (pv 3) pa_nil st_Name) st_Name)) (nomark _))
        (pss_one (ps_ret pe_bl))
        pss_nil)
        (pss_cons (ps_if (pt_not (pt_truth (pe_own o__law_right (hr.mono (by decide)) rfl pass0 (pa_cons (pv 2) (pa_cons (pv 4) (pa_cons (pv 3) pa_nil st_Name) st_Name) st_Name)) (fun _ => rfl)))
        (pss_one (ps_ret (pe_cmpR (op_eqK (K := K) rfl hr) (pv 7) (pe_tup (pa_cons pe_non (pa_cons (pe_lst (pa_cons pe_bl (pa_cons pe_bl (pa_cons pe_bl (pa_cons pe_bl (pa_cons pe_bl (pa_cons pe_bl (pa_cons pe_bl pa_nil st_Constant) st_Constant) st_Constant) st_Constant) st_Constant) st_Constant) st_Constant)) pa_nil st_List) st_Constant)) (nomark _))))
        pss_nil)
        (pss_cons (ps_set (i := 8) sc_law.nd rfl (Or.inl rfl) (pe_ix (ix_tupK (K := K) rfl) (pv 7) pe_int (fun _ _ => rfl)))
        (pss_cons (ps_for PassesOwn.never rfl (pi_listK (K := K) rfl (pe_ix (ix_listK (K := K) rfl) (pv 6) pe_int (fun _ _ => rfl))) (pg_name (i := 5) sc_law.nd rfl (Or.inr rfl))
        (pss_one (ps_expr (pe_bm PySem.F.plainAttrs_list PySem.F.slot_list_append PySem.F.type_list_append mt_append (pv 5) (pa_cons (pe_tup (pa_cons pe_int (pa_cons pe_int pa_nil st_Constant) st_Constant)) pa_nil st_Tuple)))))
        (pss_cons (ps_expr (pe_bm PySem.F.plainAttrs_list PySem.F.slot_list_append PySem.F.type_list_append mt_append (pe_ix (ix_listK (K := K) rfl) (pv 6) pe_int (fun _ _ => rfl)) (pa_cons pe_int pa_nil st_Constant)))
        (pss_cons (ps_expr (pe_bmL PySem.F.plainAttrs_list PySem.F.slot_list_append PySem.F.type_list_append mt_append (pe_ix (ix_listK (K := K) rfl) (pv 6) pe_int (fun _ _ => rfl)) (pa_cons (pe_lst (pa_cons (pe_tup (pa_cons pe_int (pa_cons pe_int pa_nil st_Constant) st_Constant)) pa_nil st_Tuple)) pa_nil st_List)))
        (pss_cons (ps_set (i := 9) sc_law.nd rfl (Or.inl rfl) (pe_ownM0 o_Hoist_weights T.l_Hoist (hr.mono (by decide)) pass0 (pv 8)))
        (pss_cons (ps_if (PW.pt (pw_or (pt_cmpR (op_neK (K := K) rfl hr) (pe_ix (ix_tupK (K := K) rfl) (pv 7) pe_int (fun _ _ => rfl)) (pe_lst pa_nil) (nomark _)) (pw_or (pt_not (pt_truth (pe_callB (call_isiD (K := K) rfl) rfl T.b_isinstance bt_isinstance (pa_cons (pv 9) (pa_cons (pe_bltn (v := .ty "list") rfl T.b_list bt_list rfl) pa_nil st_Name) st_Name)) (fun _ => rfl))) (pw_or (pt_cmpR (op_neK (K := K) rfl hr) (pv 9) (pv 2) (nomark _)) (pw_or1 (pt_cmpR op_ne (pe_ownM0 o_Hoist_many_ropes T.l_Hoist (hr.mono (by decide)) pass0 (pv 8)) (pe_callB (call_lenK (K := K) rfl) rfl T.b_len bt_len (pa_cons (pv 3) pa_nil st_Name)) (nomark _)))))))
        (pss_one (ps_ret pe_bl))
        pss_nil)
        (pss_cons (ps_expr (pe_bm PySem.F.plainAttrs_list PySem.F.slot_list_append PySem.F.type_list_append mt_append (pv 9) (pa_cons pe_int pa_nil st_Constant)))
        (pss_cons (ps_for PassesOwn.never rfl (pi_range1 rfl T.b_range (pa_cons (pe_callB (call_lenK (K := K) rfl) rfl T.b_len bt_len (pa_cons (pv 3) pa_nil st_Name)) pa_nil st_Call)) (pg_name (i := 10) sc_law.nd rfl (Or.inl rfl))
        (pss_one (ps_for PassesOwn.never rfl (pi_range1 rfl T.b_range (pa_cons (pe_callB (call_lenK (K := K) rfl) rfl T.b_len bt_len (pa_cons (pv 2) pa_nil st_Name)) pa_nil st_Call)) (pg_name (i := 11) sc_law.nd rfl (Or.inl rfl))
        (pss_cons (ps_set (i := 12) sc_law.nd rfl (Or.inl rfl) (pe_ownM o_Hoist_strands T.l_Hoist (hr.mono (by decide)) passN (pv 8) (pa_cons (pv 10) (pa_cons (pv 11) pa_nil st_Name) st_Name)))
        (pss_one (ps_if (PW.pt (pw_or (pt_not (pt_truth (pe_own o__law_whole (hr.mono (by decide)) rfl pass0 (pa_cons (pv 12) pa_nil st_Name)) (fun _ => rfl))) (pw_or1 (pt_cmpR op_ne (pv 12) (pe_ix (ix_K (K := K) rfl) (pe_ix (ix_K (K := K) rfl) (pv 4) (pv 10) (fun _ _ => rfl)) (pv 11) (fun _ _ => rfl)) (nomark _)))))
        (pss_one (ps_ret pe_bl))
        pss_nil))))))
        (pss_one (ps_ret (pe_and (pe_cmpR (op_eqK (K := K) rfl hr) (pe_ownM0 o_Hoist_weights T.l_Hoist (hr.mono (by decide)) pass0 (pv 8)) (pv 2) (nomark _)) (pe_one (pe_own o__law_whole (hr.mono (by decide)) rfl pass0 (pa_cons (pe_ownM0 o_Hoist_many_ropes T.l_Hoist (hr.mono (by decide)) pass0 (pv 8)) pa_nil st_Call)))))))))))))))))))))))), ?_⟩
    refine ⟨fun σ' H' => ∃ nb : Nat, H' = H ∧ 1 ≤ nb ∧ nb ≤ 4 ∧ σ' = [some (.ref a), some (.int nb), none, none, none, none, none, none, none, none, none, none, none], ?_, ?_⟩
    · obtain ⟨j, ej, hj⟩ := mod_nat (c := ns.getD 0 0) (n := 4) (by decide)
      refine ⟨_, rfl, _, ns, 0, rfl, hv, _, _, rfl, rfl, (by show (0 : Int) < 4; decide), _, _, rfl, rfl, 1 + j, rfl, by omega, by omega, ?_⟩
      dsimp only
      rw [ej]
      rfl
    rintro σ' H' ⟨nb, rfl, hb1, hb4, rfl⟩
    -- weights
    refine ⟨_, rfl, _, rfl, by omega, by omega, fun wa nwa => ?_⟩
    rw [Int.toNat_natCast]
    refine comp_rangeD (K := K) (ds := (cellW ns nb).map PyData.int) (by simp [cellW]) nwa (by omega) ?_ ?_
    · intro r H5 d R ed S5 kk
      obtain ⟨hr', rfl⟩ := rng_get ed
      refine ⟨_, rfl, _, rfl, _, _, rfl, rfl, _, ns, 1 + r, by rw [Int.zero_add]; rfl, hv.same S5, _, _, rfl, rfl, (by show (0 : Int) < 1001; decide), ?_⟩
      exact kk _ _ (Same.refl _) (.int _)
    intro H1 S1 N1
    obtain ⟨wa', ew, _, hw⟩ := new_ints N1
    cases ew
    have lw : (cellW ns nb).length = nb := by simp [cellW]
    have bw0 : ∀ w ∈ cellW ns nb, w.natAbs ≤ 1001 := fun w hw => by
      obtain ⟨b, _, rfl⟩ := List.mem_map.mp hw
      have q0 := Int.emod_nonneg (ns.getD (1 + b) 0) (show (1001 : Int) ≠ 0 by decide)
      have q1 := Int.emod_lt_of_pos (ns.getD (1 + b) 0) (show (0 : Int) < 1001 by decide)
      omega
    generalize cellW ns nb = ws0 at *
    -- ropes
    obtain ⟨nr, er, hr6⟩ := mod_nat (c := (ns.getD 0 0).fdiv 4) (n := 6) (by decide)
    refine ⟨_, rfl, _, rfl, _, rfl, _, ns, 0, rfl, hv.same S1, _, _, rfl, rfl, ⟨by decide, sm9000 4 (by decide)⟩, _, _, rfl, rfl, (by show (0 : Int) < 6; decide), _, ns, nb, nr, by dsimp only; rw [er]; rfl, hv.same S1, hb1, hb4, by omega, fun rs0 lr0 br0 ra xs0 H2 G => ?_⟩
    -- spoiled
    have hv2 := (hv.same S1).same G.S
    have st0 : StS K (upd H1 ra (.lst [])) wa ra H2 ws0 rs0 xs0 := by
      have ne : wa ≠ ra := ne_of_none hw G.n
      exact ⟨ne, by rw [upd_ne ne]; exact some_ne hw, some_ne upd_same, fun b o e n m => G.S _ _ (by rw [upd_ne m] at e; exact e), G.S _ _ hw, G.at_, G.d⟩
    refine ⟨fun σ' H' => ∃ ws rs, HasD K H' (.ref wa) (intsD ws) ∧ HasD K H' (.ref ra) (ropesD rs) ∧ BdW ws ∧ BdR rs ∧ σ' = [some (.ref a), some (.int nb), some (.ref wa), some (.ref ra), none, none, none, none, none, none, none, none, none], ?_, ?_⟩
    · refine ⟨_, rfl, _, rfl, _, rfl, _, ns, 5, rfl, hv2, _, _, rfl, rfl, (by show (0 : Int) < 16; decide), _, rfl, _, ns, 6, rfl, hv2, _, wa, ra, ws0, rs0, xs0, _, _, rfl, st0, by omega, by omega, bw0, by omega, br0, fun H3 ws rs xs st bw br => ?_⟩
      exact ⟨ws, rs, st.hw, st.hr, bw, br, rfl⟩
    clear st0 G hv2
    rintro σ' H3 ⟨ws, rs, hW, hR, bw, br, rfl⟩
    have w20 := bw.1
    have r20 := br.1
    -- table
    refine ⟨by show 0 ≤ sizeLine; decide, fun t0 n0 => ?_⟩
    obtain ⟨_, xr, er', hqr, hdr⟩ := hR.oflst
    cases er'
    have lr : xr.length = rs.length := by rw [hdr.len, List.length_map]
    refine ⟨_, rfl, ra, rfl, ⟨_, (Same.upd n0).seq hqr⟩, for_list (K := K) (a := ra) (xs := xr) (fun i σ H4 => ∃ vs z, Grow K H3 t0 H4 vs ((tabOf ws (rs.take i)).map intsD) ∧ σ = [some (.ref a), some (.int nb), some (.ref wa), some (.ref ra), some (.ref t0), z, none, none, none, none, none, none, none])
      ⟨[], _, Grow.start n0, rfl⟩ (fun i σ H4 _ ⟨_, _, G, _⟩ => G.S.seq hqr) ?_ ?_⟩
    · rintro i x σ H4 hi ⟨vs, z, G, rfl⟩
      obtain ⟨d, e1, hx⟩ := hdr.at hi
      have hi' : i < rs.length := by rw [← lr]; exact (List.getElem?_eq_some_iff.mp hi).1
      rw [List.getElem?_map, List.getElem?_eq_getElem hi'] at e1
      cases e1
      have hvl : vs.length = i := by
        have := G.d.len
        rw [List.length_map] at this
        simp [tabOf] at this
        omega
      have etk : rs.take (i + 1) = rs.take i ++ [rs[i]] := by rw [List.take_succ_eq_append_getElem]
      have bp := br.2 _ (List.getElem_mem hi')
      generalize rs[i] = ps at *
      have p40 := bp.1
      obtain ⟨ap, xp, rfl, hqp, hdp⟩ := hx.oflst
      have lp : xp.length = ps.length := by rw [hdp.len, List.length_map]
      refine ⟨_, rfl, .inl ⟨rfl, _, SqL.of G.at_⟩, _, rfl, _, _, rfl, .inl (hW.same G.S), _, rfl, by omega, by rw [List.length_map]; omega, fun l hl => ?_⟩
      rw [Int.toNat_natCast, List.length_map]
      refine comp_rangeD (K := K) (ds := (sums ps ws.length).map PyData.int) (by rw [List.length_map, sums_len]) hl (by omega) ?_ ?_
      · intro b H5 d R ed S5 kk
        unfold sums at ed
        obtain ⟨hb, rfl⟩ := rng_get ed
        have S35 := G.S.trans S5
        refine ⟨_, rfl, ap, rfl, ⟨_, S35.seq hqp⟩, fun l2 nl2 => ?_⟩
        refine comp_list (K := K) (a := ap) (xs := xp) (fun j vs2 H6 => Same H5 H6 ∧ H6 l2 = some (.lst vs2) ∧ vs2 = (((ps.take j).filter fun p => p.1 == (b : Int)).map fun p => V.int p.2)) ⟨Same.upd nl2, upd_same, by simp⟩ (fun j vs2 H6 hj ⟨S6, at6, e6⟩ => ⟨S6.seq (S35.seq hqp), at6, ?_⟩) (by omega) ?_ ?_
        · rw [e6, List.length_map]
          refine Nat.le_trans (List.length_filter_le _ _) ?_
          rw [List.length_take]
          omega
        · rintro j y vs2 H6 ey ⟨S6, at6, e6⟩
          obtain ⟨d, e1, hy⟩ := hdp.at ey
          rw [List.getElem?_map] at e1
          cases hp : ps[j]? with
          | none => rw [hp] at e1; cases e1
          | some q =>
            rw [hp] at e1
            cases e1
            have hy6 := hy.same (S35.trans S6)
            obtain ⟨hj', ej⟩ := List.getElem?_eq_some_iff.mp hp
            refine ⟨_, rfl, _, _, _, .inr hy6, rfl, rfl, fun u hu => ?_⟩
            rw [hu.ofint]
            refine ⟨_, rfl, rfl, _, rfl, ?_⟩
            by_cases hq : q.1 = (b : Int)
            · refine ifP (by rw [hq]; simp) ?_
              refine ⟨_, rfl, _, _, _, .inr hy6, rfl, rfl, fun u hu => ?_⟩
              rw [hu.ofint]
              refine ⟨at6, same_write S6 nl2, upd_same, ?_⟩
              rw [List.take_succ_eq_append_getElem hj', ej, List.filter_append, List.map_append, ← e6]
              simp [hq]
            · refine ifN (by simp; omega) ?_
              refine ⟨S6, at6, ?_⟩
              rw [List.take_succ_eq_append_getElem hj', ej, List.filter_append, List.map_append, ← e6]
              simp [hq]
        · rintro vs2 H6 ⟨S6, at6, e6⟩
          rw [lp, List.take_length] at e6
          refine ⟨_, ((ps.filter fun p => p.1 == (b : Int)).map fun p => p.2), rfl, .lst (SqL.of at6) ?_, ?_⟩
          · rw [e6]
            refine HasDs.ints.mpr ?_
            rw [List.map_map]
            rfl
          · exact kk _ _ S6 (.int _)
      · intro H5 S5 N5
        refine ⟨t0, _, _, rfl, rfl, S5 _ _ G.at_, by omega, ?_⟩
        have G' := G.push (K := K) S5 N5
        refine ⟨vs ++ [.ref l], _, ?_, rfl⟩
        rw [etk, show tabOf ws (rs.take i ++ [ps]) = tabOf ws (rs.take i) ++ [sums ps ws.length] by simp [tabOf], List.map_append]
        exact G'
    rintro σ H4 ⟨vt, z5, GT, rfl⟩
    rw [lr, List.take_length] at GT
    have hW4 := hW.same GT.S
    have hR4 := hR.same GT.S
    have hT4 : HasD K H4 (.ref t0) (tblD (tabOf ws rs)) := NewD.has _ GT.new
    clear hW hR hv hS
    obtain ⟨aw, ew, hqw⟩ := has_ints hW4
    cases ew
    have hqr4 := GT.S.seq hqr
    have hdr4 := hdr.same GT.S
    clear GT hqr hdr
    -- handed
    refine ⟨_, rfl, wa, _, rfl, .inl hqw, fun h0 nh0 => ?_⟩
    have S5 := Same.upd nh0 (o := .lst (ws.map V.int))
    refine ⟨_, rfl, ra, rfl, ⟨_, S5.seq hqr4⟩, fun h1 nh1 => comp_listG (K := K) (ds := rs.map pairsD) (S5.seq hqr4) (by rw [List.length_map, lr]) nh1 (by omega) ?_ ?_⟩
    · intro i x H6 d R ex ed S6 kk
      obtain ⟨d', e1, hx⟩ := hdr4.at ex
      rw [ed] at e1
      cases e1
      rw [List.getElem?_map] at ed
      cases hp : rs[i]? with
      | none => rw [hp] at ed; cases ed
      | some ps =>
        rw [hp] at ed
        cases ed
        obtain ⟨ap, xp, rfl, hqp, hdp⟩ := (hx.same (S5.trans S6)).oflst
        refine ⟨_, rfl, ap, xp, rfl, .inl hqp, fun l nl => ?_⟩
        exact kk _ _ (Same.upd nl) (.lst nl upd_same (NewDs.flat _ (flatDs_map pairD (fun p => by simp [pairD, flatD, flatDs]) ps) (hdp.same (Same.upd nl))))
    intro H6 ys GY
    refine ⟨by show 2 ≤ sizeLine; decide, fun hd nhd => ?_⟩
    have S7 := Same.upd nhd (o := .lst [V.ref h0, V.ref h1])
    have h16 : H6 h1 = some (.lst ys) := GY.at_
    have h06 : H6 h0 = some (.lst (ws.map V.int)) := GY.S _ _ upd_same
    have n01 : h0 ≠ h1 := fun z => by rw [← z, upd_same] at nh1; cases nh1
    have nd0 : h0 ≠ hd := fun z => by rw [← z, h06] at nhd; cases nhd
    have nd1 : h1 ≠ hd := fun z => by rw [← z, h16] at nhd; cases nhd
    have S46 : Same H4 H6 := S5.trans GY.S
    have S47 := S46.trans S7
    have n1H4 : H4 h1 = none := S5.free nh1
    have ndH4 : H4 hd = none := S46.free nhd
    have rows7 : ∀ y ∈ ys, ∃ r zs, y = .ref r ∧ upd H6 hd (.lst [V.ref h0, V.ref h1]) r = some (.lst zs) ∧ zs.length ≤ 40 ∧ r ≠ hd ∧ r ≠ h1 ∧ r ≠ h0 ∧ H4 r = none := fun y hy => by
      obtain ⟨i, hi, e⟩ := List.getElem_of_mem hy
      obtain ⟨d, e1, hn⟩ := NewDs.at GY.d (List.getElem?_eq_getElem hi)
      rw [e] at hn
      rw [List.getElem?_map] at e1
      cases hp : rs[i]? with
      | none => rw [hp] at e1; cases e1
      | some ps =>
        rw [hp] at e1
        cases e1
        obtain ⟨r, zs, rfl, nr', q, hz⟩ := hn.oflst
        have b1 : r ≠ h1 := fun z => by rw [z, upd_same] at nr'; cases nr'
        rw [upd_ne b1] at nr'
        have b0 : r ≠ h0 := fun z => by rw [z, upd_same] at nr'; cases nr'
        rw [upd_ne b0] at nr'
        have bd : r ≠ hd := fun z => by rw [z, nhd] at q; cases q
        refine ⟨r, zs, rfl, by rw [upd_ne bd]; exact q, ?_, bd, b1, b0, nr'⟩
        rw [hz.len, List.length_map]
        exact (br.2 ps (List.mem_of_getElem? hp)).1
    have hH7 : HasD K (upd H6 hd (.lst [V.ref h0, V.ref h1])) (.ref hd) (bothD ws rs) := .lst (SqL.of upd_same) (.cons (ints_has (SqL.of (S7 _ _ h06))) (.cons ((NewD.has _ GY.new).same S7) .nil))
    have hh0 : HasD K (upd H6 hd (.lst [V.ref h0, V.ref h1])) (.ref h0) (intsD ws) := ints_has (SqL.of (S7 _ _ h06))
    have hh1 : HasD K (upd H6 hd (.lst [V.ref h0, V.ref h1])) (.ref h1) (ropesD rs) := (NewD.has _ GY.new).same S7
    have at7d : upd H6 hd (.lst [V.ref h0, V.ref h1]) hd = some (.lst [V.ref h0, V.ref h1]) := upd_same
    have at71 : upd H6 hd (.lst [V.ref h0, V.ref h1]) h1 = some (.lst ys) := S7 _ _ h16
    have at70 : upd H6 hd (.lst [V.ref h0, V.ref h1]) h0 = some (.lst (ws.map V.int)) := S7 _ _ h06
    have ly : ys.length ≤ 20 := by
      rw [GY.d.len, List.length_map]
      exact br.1
    clear GY S7 h16 h06
    generalize upd H6 hd (.lst [V.ref h0, V.ref h1]) = H7 at *
    -- made
    refine ⟨_, rfl, hd, _, _, _, rfl, rfl, SqL.of at7d, atI_nat' (i := 0) rfl, _, rfl, hd, _, _, _, rfl, rfl, SqL.of at7d, atI_nat' (i := 1) rfl, .ref h0, .ref h1, ws, rs, rfl, hh0, hh1, bw, br, fun hvv p hv kl H8 S8 hp8 nk8 hk8 hN => ?_, fun nv r8 H8 S8 N8 => ?_⟩
    · -- a hoist
      have S48 := S47.trans S8
      refine ⟨_, rfl, _, rfl, _, rfl, by show 2 ≤ sizeLine; decide, fun l9 n9 => ?_⟩
      have S9 := Same.upd n9 (o := .lst [V.ref wa, V.ref ra])
      have S49 := S48.trans S9
      refine ⟨_, _, hH7.same (S8.trans S9), .lst (SqL.of upd_same) (.cons (hW4.same S49) (.cons (hR4.same S49) .nil)), (lays_both ws rs).lay, (lays_both ws rs).lay, Nat.le_trans (lays_both ws rs).dep (by decide), _, rfl, ?_⟩
      refine ifN (ne_no (eqv_self (plain_both ws rs))) ?_
      have hN9 := hN.later S9
      have hp9 := S9.tup hp8
      have hk9 := S9 _ _ hk8
      have at9d := (S8.trans S9) _ _ at7d
      have at91 := (S8.trans S9) _ _ at71
      have at90 := (S8.trans S9) _ _ at70
      have rows9 : ∀ y ∈ ys, ∃ r zs, y = .ref r ∧ upd H8 l9 (.lst [V.ref wa, V.ref ra]) r = some (.lst zs) ∧ zs.length ≤ 40 ∧ r ≠ hd ∧ r ≠ h1 ∧ r ≠ h0 ∧ H4 r = none ∧ H7 r ≠ none := fun y hy => by
        obtain ⟨r, zs, e, q, a1, a2, a3, a4, a5⟩ := rows7 y hy
        exact ⟨r, zs, e, (S8.trans S9) _ _ q, a1, a2, a3, a4, a5, some_ne q⟩
      generalize upd H8 l9 (.lst [V.ref wa, V.ref ra]) = H9 at *
      refine ⟨_, rfl, _, rfl, _, rfl, _, _, _, ws, rs, rfl, hW4.same S49, hT4.same S49, hR4.same S49, bw, br, fun _ => ?_, fun nv => absurd hvv nv⟩
      refine ⟨true, rfl, ifN (by decide) ?_⟩
      refine ⟨_, rfl, p, _, _, _, rfl, rfl, hp9, atI_nat' (i := 0) rfl, ?_⟩
      -- each of the handed ropes is changed
      refine ⟨_, rfl, hd, _, _, _, rfl, rfl, SqL.of at9d, atI_nat' (i := 1) rfl, h1, rfl, ⟨_, SqL.of at91⟩, for_list (K := K) (a := h1) (xs := ys) (fun i σ HH => Same H4 HH ∧ HoistNew K C H7 HH hv ws (tabOf ws rs) ∧ SqT K HH p [hv, .ref kl] ∧ HH kl = some (.lst []) ∧ HH hd = some (.lst [V.ref h0, V.ref h1]) ∧ HH h1 = some (.lst ys) ∧ HH h0 = some (.lst (ws.map V.int)) ∧
          (∀ y ∈ ys, ∃ r zs, y = .ref r ∧ HH r = some (.lst zs) ∧ zs.length ≤ 40 + i ∧ r ≠ hd ∧ r ≠ h1 ∧ r ≠ h0 ∧ H4 r = none ∧ H7 r ≠ none) ∧ ∃ z, σ = [some (.ref a), some (.int nb), some (.ref wa), some (.ref ra), some (.ref t0), z, some (.ref hd), some (.ref p), some hv, none, none, none, none])
        ⟨S49, hN9, hp9, hk9, at9d, at91, at90, rows9, _, rfl⟩ (fun i σ HH _ h => SqL.of h.2.2.2.2.2.1) ?_ ?_⟩
      · rintro i x σ HH hi ⟨c1, c2, c3, c4, c5, c6, c7, c8, z, rfl⟩
        obtain ⟨r, zs, rfl, q, a1, a2, a3, a4, a5, a6⟩ := c8 _ (List.mem_of_getElem? hi)
        have hi' := (List.getElem?_eq_some_iff.mp hi).1
        refine ⟨_, rfl, .inl ⟨rfl, _, SqL.of q⟩, by show 2 ≤ sizeLine; decide, fun tp ntp => ?_⟩
        have St := Same.upd ntp (o := .tup [V.int 0, V.int 1])
        have nkr : kl ≠ r := fun z => by rw [z] at nk8; exact a6 nk8
        have ntr : NoTup (upd HH tp (.tup [V.int 0, V.int 1]) r) := by rw [St _ _ q]; exact noTup_lst
        refine ⟨r, zs, _, rfl, rfl, St _ _ q, by omega, ?_⟩
        refine ⟨same_write (c1.trans St) a5, HoistNew.write a6 (St _ _ q) (c2.later St), (St.tup c3).write ntr, by rw [upd_ne nkr]; exact St _ _ c4, by rw [upd_ne a2.symm]; exact St _ _ c5, by rw [upd_ne a3.symm]; exact St _ _ c6, by rw [upd_ne a4.symm]; exact St _ _ c7, fun y hy => ?_, _, rfl⟩
        obtain ⟨r', zs', e', q', d1, d2, d3, d4, d5, d6⟩ := c8 y hy
        by_cases hrr : r' = r
        · subst hrr
          rw [q] at q'
          cases q'
          exact ⟨r', _, e', upd_same, by rw [List.length_append]; simp; omega, d2, d3, d4, d5, d6⟩
        · exact ⟨r', zs', e', by rw [upd_ne hrr]; exact St _ _ q', by omega, d2, d3, d4, d5, d6⟩
      rintro σ HH ⟨c1, c2, c3, c4, c5, c6, c7, c8, z10, rfl⟩
      have nk0 : kl ≠ h0 := fun z => by rw [z, at70] at nk8; cases nk8
      have nk1 : kl ≠ h1 := fun z => by rw [z, at71] at nk8; cases nk8
      -- handed[0].append(3)
      refine ⟨_, rfl, hd, _, _, _, rfl, rfl, SqL.of c5, atI_nat' (i := 0) rfl, .inl ⟨rfl, _, SqL.of c7⟩, h0, _, _, rfl, rfl, c7, by rw [List.length_map]; omega, ?_⟩
      have e1 := same_write (o := .lst (ws.map V.int ++ [V.int 3])) c1 nh0
      have e2 := HoistNew.write (ys := ws.map V.int ++ [V.int 3]) (some_ne at70) c7 c2
      have e3 : SqT K (upd HH h0 (.lst (ws.map V.int ++ [V.int 3]))) p [hv, .ref kl] := c3.write (by rw [c7]; exact noTup_lst)
      have e4 : upd HH h0 (.lst (ws.map V.int ++ [V.int 3])) kl = some (.lst []) := by rw [upd_ne nk0]; exact c4
      have e5 : upd HH h0 (.lst (ws.map V.int ++ [V.int 3])) hd = some (.lst [V.ref h0, V.ref h1]) := by rw [upd_ne nd0.symm]; exact c5
      have e6 : upd HH h0 (.lst (ws.map V.int ++ [V.int 3])) h1 = some (.lst ys) := by rw [upd_ne n01.symm]; exact c6
      generalize upd HH h0 (.lst (ws.map V.int ++ [V.int 3])) = HA at *
      -- handed[1].append([(0, 2)])
      refine ⟨_, rfl, hd, _, _, _, rfl, rfl, SqL.of e5, atI_nat' (i := 1) rfl, .inl ⟨rfl, _, SqL.of e6⟩, by show 2 ≤ sizeLine; decide, fun tp ntp => ⟨by show 1 ≤ sizeLine; decide, fun lp nlp => ?_⟩⟩
      have Sx := (Same.upd ntp (o := .tup [V.int 0, V.int 2])).trans (Same.upd nlp (o := .lst [V.ref tp]))
      refine ⟨h1, _, _, rfl, rfl, Sx _ _ e6, by omega, ?_⟩
      have f1 := same_write (o := .lst (ys ++ [V.ref lp])) (e1.trans Sx) n1H4
      have f2 := HoistNew.write (ys := ys ++ [V.ref lp]) (some_ne at71) (Sx _ _ e6) (e2.later Sx)
      have f3 := (Sx.tup e3).write (l := h1) (o := .lst (ys ++ [V.ref lp])) (by rw [Sx _ _ e6]; exact noTup_lst)
      have f4 := (show upd (upd (upd HA tp (.tup [V.int 0, V.int 2])) lp (.lst [V.ref tp])) h1 (.lst (ys ++ [V.ref lp])) kl = some (.lst []) by rw [upd_ne nk1]; exact Sx _ _ e4)
      generalize upd (upd (upd HA tp (.tup [V.int 0, V.int 2])) lp (.lst [V.ref tp])) h1 (.lst (ys ++ [V.ref lp])) = HB at *
      have hA := f2.at
      -- found
      obtain ⟨ph, dx, fs, e, hp', hm⟩ := hA.meth (m := "weights") (by decide +kernel) (by decide +kernel)
      refine ⟨_, rfl, ph, dx, fs, e, hp', hm, hv, ws, tabOf ws rs, rfl, hA, fun fv HC SC NC => ?_⟩
      obtain ⟨fa, rfl, nfa, hfa⟩ := new_ints NC
      have hfv := NewD.has _ NC
      have hAC := hA.same SC
      have tlen : (tabOf ws rs).length = rs.length := by simp [tabOf]
      refine ⟨_, rfl, p, _, _, _, rfl, rfl, SC.tup f3, atI_nat' (i := 1) rfl, by show 0 ≤ sizeLine; decide, fun le nle => ?_⟩
      have Se := Same.upd nle (o := .lst [])
      have hAe := hAC.same Se
      refine ⟨_, _, .lst (ds := []) (SqL.of ((SC.trans Se) _ _ f4)) .nil, .lst (ds := []) (SqL.of upd_same) .nil, (kinds_lay []).lay, (kinds_lay []).lay, Nat.le_trans (kinds_lay []).dep (by decide), _, rfl, ?_⟩
      refine ifN (ne_no (by rfl)) ?_
      refine ⟨_, rfl, _, _, _, _, rfl, hfv.same Se, kit_ll K, _, rfl, iteF ?_⟩
      have S4e := (f1.trans SC).trans Se
      refine ⟨_, rfl, _, rfl, _, _, hfv.same Se, hW4.same S4e, (lays_ints ws).lay, (lays_ints ws).lay, Nat.le_trans (lays_ints ws).dep (by decide), _, rfl, ?_⟩
      refine ifN (ne_no (eqv_self (plain_ints ws))) ?_
      obtain ⟨ph2, dx2, fs2, e', hp2, hm2⟩ := hAe.meth (m := "many_ropes") (by decide +kernel) (by decide +kernel)
      refine ⟨_, rfl, ph2, dx2, fs2, e', hp2, hm2, hv, ws, tabOf ws rs, rfl, hAe, _, rfl, _, _, rfl, .inl (hR4.same S4e), rfl, _, rfl, ?_⟩
      refine ifN (by rw [tlen, List.length_map]; simp) ?_
      -- found.append(1)
      have hfe := Se _ _ hfa
      refine ⟨_, rfl, .inl ⟨rfl, _, SqL.of hfe⟩, fa, _, _, rfl, rfl, hfe, by rw [List.length_map]; omega, ?_⟩
      have Sf : Same HB (upd (upd HC le (.lst [])) fa (.lst (ws.map V.int ++ [V.int 1]))) := same_write (SC.trans Se) nfa
      have hAf := hA.same Sf
      have S4f := f1.trans Sf
      generalize upd (upd HC le (.lst [])) fa (.lst (ws.map V.int ++ [V.int 1])) = HD at *
      have hTf := hT4.same S4f
      refine ⟨_, rfl, _, _, rfl, .inl (hR4.same S4f), _, rfl, by omega, by rw [List.length_map]; omega, ?_⟩
      rw [Int.toNat_natCast, List.length_map]
      refine for_range (fun i σ HE => HE = HD ∧ ∃ z1 z2 z3, σ = [some (.ref a), some (.int nb), some (.ref wa), some (.ref ra), some (.ref t0), z10, some (.ref hd), some (.ref p), some hv, some (.ref fa), z1, z2, z3]) ⟨rfl, _, _, _, rfl⟩ ?_ ?_
      · rintro i σ HE hi ⟨rfl, z1, z2, z3, rfl⟩
        refine ⟨_, rfl, _, _, rfl, .inl (hW4.same S4f), _, rfl, by omega, by rw [List.length_map]; omega, ?_⟩
        rw [Int.toNat_natCast, List.length_map]
        refine for_range (fun j σ HG => HG = HE ∧ ∃ z2 z3, σ = [some (.ref a), some (.int nb), some (.ref wa), some (.ref ra), some (.ref t0), z10, some (.ref hd), some (.ref p), some hv, some (.ref fa), some (.int (0 + (i : Int))), z2, z3]) ⟨rfl, _, _, rfl⟩ ?_ ?_
        · rintro j σ HG hj ⟨rfl, z2, z3, rfl⟩
          obtain ⟨ph3, dx3, fs3, e3', hp3, hm3⟩ := hAf.meth (m := "strands") (by decide +kernel) (by decide +kernel)
          refine ⟨_, rfl, ph3, dx3, fs3, e3', hp3, hm3, _, rfl, _, rfl, hv, ws, tabOf ws rs, (i : Int), (j : Int), by rw [Int.zero_add, Int.zero_add]; rfl, hAf, small_nat (by omega), small_nat (by omega), fun _ _ => ?_, fun z => absurd ⟨by omega, by omega⟩ z, fun _ z => absurd ⟨by omega, by omega⟩ z⟩
          rw [Int.toNat_natCast, Int.toNat_natCast]
          obtain ⟨row, g1, g2⟩ := cellT_get hAf.ok (r := i) (b := j) (by omega) hj
          refine ⟨_, rfl, _, rfl, true, rfl, iteF ?_⟩
          refine ⟨_, rfl, _, rfl, _, rfl, _, _, _, .inl hTf, rfl, by rw [Int.zero_add]; exact atI_nat' (show ((tabOf ws rs).map intsD)[i]? = some (intsD row) by rw [List.getElem?_map, g1]; rfl), fun u1 k1 => ?_⟩
          refine ⟨_, rfl, _, _, _, .inl k1, rfl, by rw [Int.zero_add]; exact atI_nat' (show (row.map PyData.int)[j]? = some (.int (cellT (tabOf ws rs) i j)) by rw [List.getElem?_map, g2]; rfl), fun u2 k2 => ?_⟩
          rw [k2.ofint]
          refine ⟨rfl, _, rfl, ?_⟩
          refine ifN (by simp) ?_
          exact ⟨rfl, _, _, rfl⟩
        · rintro σ HG ⟨rfl, z2, z3, rfl⟩
          exact ⟨rfl, _, _, _, rfl⟩
      · rintro σ HE ⟨rfl, z1, z2, z3, rfl⟩
        obtain ⟨ph4, dx4, fs4, e4', hp4, hm4⟩ := hAf.meth (m := "weights") (by decide +kernel) (by decide +kernel)
        refine ⟨_, rfl, ph4, dx4, fs4, e4', hp4, hm4, hv, ws, tabOf ws rs, rfl, hAf, fun fv2 HF SF NF => ?_⟩
        refine ⟨_, rfl, _, _, NewD.has _ NF, hW4.same (S4f.trans SF), (lays_ints ws).lay, (lays_ints ws).lay, Nat.le_trans (lays_ints ws).dep (by decide), _, rfl, ?_⟩
        refine ifP (eq_yes (eqv_self (plain_ints ws))) ?_
        have hAg := hAf.same SF
        obtain ⟨ph5, dx5, fs5, e5', hp5, hm5⟩ := hAg.meth (m := "many_ropes") (by decide +kernel) (by decide +kernel)
        exact ⟨_, rfl, ph5, dx5, fs5, e5', hp5, hm5, hv, ws, tabOf ws rs, rfl, hAg, _, rfl, k _⟩
    · -- no hoist
      have S48 := S47.trans S8
      refine ⟨_, rfl, _, rfl, _, rfl, by show 2 ≤ sizeLine; decide, fun l9 n9 => ?_⟩
      have S9 := Same.upd n9 (o := .lst [V.ref wa, V.ref ra])
      have S49 := S48.trans S9
      refine ⟨_, _, hH7.same (S8.trans S9), .lst (SqL.of upd_same) (.cons (hW4.same S49) (.cons (hR4.same S49) .nil)), (lays_both ws rs).lay, (lays_both ws rs).lay, Nat.le_trans (lays_both ws rs).dep (by decide), _, rfl, ?_⟩
      refine ifN (ne_no (eqv_self (plain_both ws rs))) ?_
      refine ⟨_, rfl, _, rfl, _, rfl, _, _, _, ws, rs, rfl, hW4.same S49, hT4.same S49, hR4.same S49, bw, br, fun hv => absurd hv nv, fun _ => ?_⟩
      refine ⟨false, rfl, ifP (by decide) ?_⟩
      refine ⟨_, rfl, by show 7 ≤ sizeLine; decide, fun lk nlk => ⟨by show 2 ≤ sizeLine; decide, fun tp ntp => ?_⟩⟩
      have Sk := Same.upd nlk (o := .lst (noHoistL.map V.bl))
      have St := Same.upd ntp (o := .tup [V.non, V.ref lk])
      refine ⟨noD, noD, (NewD.has _ N8).same ((S9.trans Sk).trans St), .tup (SqT.of upd_same) (.cons .non (.cons (.lst (SqL.of (St _ _ upd_same)) (.cons (.bl _) (.cons (.bl _) (.cons (.bl _) (.cons (.bl _) (.cons (.bl _) (.cons (.bl _) (.cons (.bl _) .nil)))))))) .nil)), noD_lay.lay, noD_lay.lay, Nat.le_trans noD_lay.dep (by decide), ?_⟩
      show Q (V.bl (PyData.eqv noD noD)) _
      rw [noD_eqv]
      exact k _
unseal L2.PA L2.PE L2.PT L2.PS L2.PSs L2.PG L2.PI L2.PO L2.PW


/-! ### the whole -/
theorem all_mk {l : PySem.W.OpenLaw} {w : World} {K : PySem.W.Frag} {h : Heap} {mg : Str → Option Value} {fa : Addr} (X : K.In h) (G : h.Ns mainGlobals mg) (hfa : mg "law" = some (.ref fa))
    {c_Hoist c_HoistError c_NoHoist c_NoRope c_NoBody c_Sinks c_TooMany c_BadText : Addr}
    {t_MOST_BODIES : Tok}
    {t_MOST_ROPES : Tok}
    {t_MOST_WEIGHT : Tok}
    {t_MOST_PAIRS : Tok}
    {t_MOST_STRANDS : Tok}
    {f0 : Addr} {od0 an0 : Option Addr} {sl0 : Array (Option Value)} {oc0 kV0 dc0 pm0 cd0 ct0 : Value}
    {f1 : Addr} {od1 an1 : Option Addr} {sl1 : Array (Option Value)} {oc1 kV1 dc1 pm1 cd1 ct1 : Value}
    {f2 : Addr} {od2 an2 : Option Addr} {sl2 : Array (Option Value)} {oc2 kV2 dc2 pm2 cd2 ct2 : Value}
    {f3 : Addr} {od3 an3 : Option Addr} {sl3 : Array (Option Value)} {oc3 kV3 dc3 pm3 cd3 ct3 : Value}
    {f4 : Addr} {od4 an4 : Option Addr} {sl4 : Array (Option Value)} {oc4 kV4 dc4 pm4 cd4 ct4 : Value}
    {f5 : Addr} {od5 an5 : Option Addr} {sl5 : Array (Option Value)} {oc5 kV5 dc5 pm5 cd5 ct5 : Value}
    {f6 : Addr} {od6 an6 : Option Addr} {sl6 : Array (Option Value)} {oc6 kV6 dc6 pm6 cd6 ct6 : Value}
    {f7 : Addr} {od7 an7 : Option Addr} {sl7 : Array (Option Value)} {oc7 kV7 dc7 pm7 cd7 ct7 : Value}
    {f8 : Addr} {od8 an8 : Option Addr} {sl8 : Array (Option Value)} {oc8 kV8 dc8 pm8 cd8 ct8 : Value}
    {f9 : Addr} {od9 an9 : Option Addr} {sl9 : Array (Option Value)} {oc9 kV9 dc9 pm9 cd9 ct9 : Value}
    {f10 : Addr} {od10 an10 : Option Addr} {sl10 : Array (Option Value)} {oc10 kV10 dc10 pm10 cd10 ct10 : Value}
    {f11 : Addr} {od11 an11 : Option Addr} {sl11 : Array (Option Value)} {oc11 kV11 dc11 pm11 cd11 ct11 : Value}
    {f12 : Addr} {od12 an12 : Option Addr} {sl12 : Array (Option Value)} {oc12 kV12 dc12 pm12 cd12 ct12 : Value}
    {f13 : Addr} {od13 an13 : Option Addr} {sl13 : Array (Option Value)} {oc13 kV13 dc13 pm13 cd13 ct13 : Value}
    {f14 : Addr} {od14 an14 : Option Addr} {sl14 : Array (Option Value)} {oc14 kV14 dc14 pm14 cd14 ct14 : Value}
    {f15 : Addr} {od15 an15 : Option Addr} {sl15 : Array (Option Value)} {oc15 kV15 dc15 pm15 cd15 ct15 : Value}
    (z_len : PySem.W.nsIn K mainGlobals "len" = some none)
    (z_abs : PySem.W.nsIn K mainGlobals "abs" = some none)
    (z_min : PySem.W.nsIn K mainGlobals "min" = some none)
    (z_max : PySem.W.nsIn K mainGlobals "max" = some none)
    (z_isinstance : PySem.W.nsIn K mainGlobals "isinstance" = some none)
    (z_sum : PySem.W.nsIn K mainGlobals "sum" = some none)
    (z_int : PySem.W.nsIn K mainGlobals "int" = some none)
    (z_list : PySem.W.nsIn K mainGlobals "list" = some none)
    (z_bool : PySem.W.nsIn K mainGlobals "bool" = some none)
    (z_range : PySem.W.nsIn K mainGlobals "range" = some none)
    (z_ValueError : PySem.W.nsIn K mainGlobals "ValueError" = some none)
    (g_MOST_BODIES : PySem.W.nsIn K mainGlobals "MOST_BODIES" = some (some (.int 4 t_MOST_BODIES)))
    (g_MOST_ROPES : PySem.W.nsIn K mainGlobals "MOST_ROPES" = some (some (.int 5 t_MOST_ROPES)))
    (g_MOST_WEIGHT : PySem.W.nsIn K mainGlobals "MOST_WEIGHT" = some (some (.int 1000 t_MOST_WEIGHT)))
    (g_MOST_PAIRS : PySem.W.nsIn K mainGlobals "MOST_PAIRS" = some (some (.int 12 t_MOST_PAIRS)))
    (g_MOST_STRANDS : PySem.W.nsIn K mainGlobals "MOST_STRANDS" = some (some (.int 9 t_MOST_STRANDS)))
    (c_Hoist_ : PySem.W.nsIn K mainGlobals "Hoist" = some (some (.ref c_Hoist)))
    (pg_Hoist : PySem.W.plainGet K c_Hoist Str.empty = true)
    (hd_Hoist : PySem.W.hasDictIn K c_Hoist = true)
    (po_Hoist : PySem.W.plainOver K c_Hoist = true)
    (sa_Hoist : PySem.W.findIn K (.ref c_Hoist) "__setattr__" = some (some (.builtin "object.__setattr__")))
    (n_body_weights : PySem.W.findIn K (.ref c_Hoist) "body_weights" = some none)
    (n_rope_strands : PySem.W.findIn K (.ref c_Hoist) "rope_strands" = some none)
    (c_HoistError_ : PySem.W.nsIn K mainGlobals "HoistError" = some (some (.ref c_HoistError)))
    (c_NoHoist_ : PySem.W.nsIn K mainGlobals "NoHoist" = some (some (.ref c_NoHoist)))
    (c_NoRope_ : PySem.W.nsIn K mainGlobals "NoRope" = some (some (.ref c_NoRope)))
    (c_NoBody_ : PySem.W.nsIn K mainGlobals "NoBody" = some (some (.ref c_NoBody)))
    (c_Sinks_ : PySem.W.nsIn K mainGlobals "Sinks" = some (some (.ref c_Sinks)))
    (c_TooMany_ : PySem.W.nsIn K mainGlobals "TooMany" = some (some (.ref c_TooMany)))
    (c_BadText_ : PySem.W.nsIn K mainGlobals "BadText" = some (some (.ref c_BadText)))
    (e_NoBody : PySem.W.excIn K c_NoBody bmV "ValueError.__new__" = true)
    (e_NoHoist : PySem.W.excIn K c_NoHoist bmV "ValueError.__new__" = true)
    (e_NoRope : PySem.W.excIn K c_NoRope bmV "ValueError.__new__" = true)
    (ig_NoHoist : PySem.W.findIn K (.ref c_NoHoist) "__getattribute__" = some (some (.builtin "BaseException.__getattribute__")))
    (in_NoHoist : PySem.W.findIn K (.ref c_NoHoist) "__getattr__" = some none)
    (ib_NoHoist : PySem.W.mroIn K c_NoHoist (.type "BaseException") = some true)
    (ic_NoHoist : (PySem.W.clsIn K c_NoHoist).isSome = true)
    (ia_NoHoist : PySem.W.findIn K (.ref c_NoHoist) "__class__" = some (some (.builtin "object.__class__")))
    (im_NoHoist : PySem.W.mroIn K c_NoHoist (.type "object") = some true)
    (kit_NoHoist_HoistError : PySem.W.kitOne K (.ref c_NoHoist) (.ref c_HoistError) = some true)
    (kit_NoHoist_NoHoist : PySem.W.kitOne K (.ref c_NoHoist) (.ref c_NoHoist) = some true)
    (kit_NoHoist_NoRope : PySem.W.kitOne K (.ref c_NoHoist) (.ref c_NoRope) = some false)
    (kit_NoHoist_NoBody : PySem.W.kitOne K (.ref c_NoHoist) (.ref c_NoBody) = some false)
    (kit_NoHoist_Sinks : PySem.W.kitOne K (.ref c_NoHoist) (.ref c_Sinks) = some false)
    (kit_NoHoist_TooMany : PySem.W.kitOne K (.ref c_NoHoist) (.ref c_TooMany) = some false)
    (kit_NoHoist_BadText : PySem.W.kitOne K (.ref c_NoHoist) (.ref c_BadText) = some false)
    (kit_NoHoist_V : PySem.W.kitOne K (.ref c_NoHoist) (.type "ValueError") = some true)
    (exm_NoHoist : PySem.W.exmOne K (.ref c_NoHoist) (.ref c_HoistError) = some true)
    (i_hn : PySem.W.specialIn K (.builtin "object.__class__") "__get__" = some (some (.builtin "getset_descriptor.__get__")))
    (i_ht : PySem.W.takesIn K (.builtin "object.__class__") = some true)
    (a0 : PySem.W.findIn K (.ref c_Hoist) "weights" = some (some (.ref f0)))
    (l0 : K.lookup f0 = some ⟨oc0, od0, .func (PySem.W.fnOf "weights" "Hoist.weights" (defArgs s_Hoist_weights) (defBody s_Hoist_weights) (defScope s_Hoist_weights) .none kV0 dc0 pm0 an0 cd0 ct0), sl0⟩)
    (cc0 : PySem.W.codeIn K cd0 "Hoist.weights" = true)
    (k0 : PySem.W.keepIn K (.ref f0) = true)
    (i0 : PySem.W.isFn K (.ref f0) = true)
    (a1 : PySem.W.findIn K (.ref c_Hoist) "many_ropes" = some (some (.ref f1)))
    (l1 : K.lookup f1 = some ⟨oc1, od1, .func (PySem.W.fnOf "many_ropes" "Hoist.many_ropes" (defArgs s_Hoist_many_ropes) (defBody s_Hoist_many_ropes) (defScope s_Hoist_many_ropes) .none kV1 dc1 pm1 an1 cd1 ct1), sl1⟩)
    (cc1 : PySem.W.codeIn K cd1 "Hoist.many_ropes" = true)
    (k1 : PySem.W.keepIn K (.ref f1) = true)
    (i1 : PySem.W.isFn K (.ref f1) = true)
    (a2 : PySem.W.nsIn K mainGlobals "check_number" = some (some (.ref f2)))
    (l2 : K.lookup f2 = some ⟨oc2, od2, .func (PySem.W.fnOf "check_number" "check_number" (defArgs s_check_number) (defBody s_check_number) (defScope s_check_number) .none kV2 dc2 pm2 an2 cd2 ct2), sl2⟩)
    (cc2 : PySem.W.codeIn K cd2 "check_number" = true)
    (k2 : PySem.W.keepIn K (.ref f2) = true)
    (a3 : PySem.W.nsIn K mainGlobals "check_weights" = some (some (.ref f3)))
    (l3 : K.lookup f3 = some ⟨oc3, od3, .func (PySem.W.fnOf "check_weights" "check_weights" (defArgs s_check_weights) (defBody s_check_weights) (defScope s_check_weights) .none kV3 dc3 pm3 an3 cd3 ct3), sl3⟩)
    (cc3 : PySem.W.codeIn K cd3 "check_weights" = true)
    (k3 : PySem.W.keepIn K (.ref f3) = true)
    (a4 : PySem.W.nsIn K mainGlobals "_law_cell_at" = some (some (.ref f4)))
    (l4 : K.lookup f4 = some ⟨oc4, od4, .func (PySem.W.fnOf "_law_cell_at" "_law_cell_at" (defArgs s__law_cell_at) (defBody s__law_cell_at) (defScope s__law_cell_at) .none kV4 dc4 pm4 an4 cd4 ct4), sl4⟩)
    (cc4 : PySem.W.codeIn K cd4 "_law_cell_at" = true)
    (k4 : PySem.W.keepIn K (.ref f4) = true)
    (a5 : PySem.W.nsIn K mainGlobals "_law_whole" = some (some (.ref f5)))
    (l5 : K.lookup f5 = some ⟨oc5, od5, .func (PySem.W.fnOf "_law_whole" "_law_whole" (defArgs s__law_whole) (defBody s__law_whole) (defScope s__law_whole) .none kV5 dc5 pm5 an5 cd5 ct5), sl5⟩)
    (cc5 : PySem.W.codeIn K cd5 "_law_whole" = true)
    (k5 : PySem.W.keepIn K (.ref f5) = true)
    (a6 : PySem.W.nsIn K mainGlobals "_law_kind" = some (some (.ref f6)))
    (l6 : K.lookup f6 = some ⟨oc6, od6, .func (PySem.W.fnOf "_law_kind" "_law_kind" (defArgs s__law_kind) (defBody s__law_kind) (defScope s__law_kind) .none kV6 dc6 pm6 an6 cd6 ct6), sl6⟩)
    (cc6 : PySem.W.codeIn K cd6 "_law_kind" = true)
    (k6 : PySem.W.keepIn K (.ref f6) = true)
    (a7 : PySem.W.nsIn K mainGlobals "_law_right" = some (some (.ref f7)))
    (l7 : K.lookup f7 = some ⟨oc7, od7, .func (PySem.W.fnOf "_law_right" "_law_right" (defArgs s__law_right) (defBody s__law_right) (defScope s__law_right) .none kV7 dc7 pm7 an7 cd7 ct7), sl7⟩)
    (cc7 : PySem.W.codeIn K cd7 "_law_right" = true)
    (k7 : PySem.W.keepIn K (.ref f7) = true)
    (a8 : PySem.W.nsIn K mainGlobals "_law_spoiled" = some (some (.ref f8)))
    (l8 : K.lookup f8 = some ⟨oc8, od8, .func (PySem.W.fnOf "_law_spoiled" "_law_spoiled" (defArgs s__law_spoiled) (defBody s__law_spoiled) (defScope s__law_spoiled) .none kV8 dc8 pm8 an8 cd8 ct8), sl8⟩)
    (cc8 : PySem.W.codeIn K cd8 "_law_spoiled" = true)
    (k8 : PySem.W.keepIn K (.ref f8) = true)
    (a9 : PySem.W.nsIn K mainGlobals "check_rope" = some (some (.ref f9)))
    (l9 : K.lookup f9 = some ⟨oc9, od9, .func (PySem.W.fnOf "check_rope" "check_rope" (defArgs s_check_rope) (defBody s_check_rope) (defScope s_check_rope) .none kV9 dc9 pm9 an9 cd9 ct9), sl9⟩)
    (cc9 : PySem.W.codeIn K cd9 "check_rope" = true)
    (k9 : PySem.W.keepIn K (.ref f9) = true)
    (a10 : PySem.W.nsIn K mainGlobals "added_strands" = some (some (.ref f10)))
    (l10 : K.lookup f10 = some ⟨oc10, od10, .func (PySem.W.fnOf "added_strands" "added_strands" (defArgs s_added_strands) (defBody s_added_strands) (defScope s_added_strands) .none kV10 dc10 pm10 an10 cd10 ct10), sl10⟩)
    (cc10 : PySem.W.codeIn K cd10 "added_strands" = true)
    (k10 : PySem.W.keepIn K (.ref f10) = true)
    (a11 : PySem.W.nsIn K mainGlobals "_law_ropes" = some (some (.ref f11)))
    (l11 : K.lookup f11 = some ⟨oc11, od11, .func (PySem.W.fnOf "_law_ropes" "_law_ropes" (defArgs s__law_ropes) (defBody s__law_ropes) (defScope s__law_ropes) .none kV11 dc11 pm11 an11 cd11 ct11), sl11⟩)
    (cc11 : PySem.W.codeIn K cd11 "_law_ropes" = true)
    (k11 : PySem.W.keepIn K (.ref f11) = true)
    (a12 : PySem.W.findIn K (.ref c_Hoist) "strands" = some (some (.ref f12)))
    (l12 : K.lookup f12 = some ⟨oc12, od12, .func (PySem.W.fnOf "strands" "Hoist.strands" (defArgs s_Hoist_strands) (defBody s_Hoist_strands) (defScope s_Hoist_strands) .none kV12 dc12 pm12 an12 cd12 ct12), sl12⟩)
    (cc12 : PySem.W.codeIn K cd12 "Hoist.strands" = true)
    (k12 : PySem.W.keepIn K (.ref f12) = true)
    (i12 : PySem.W.isFn K (.ref f12) = true)
    (a13 : PySem.W.findIn K (.ref c_Hoist) "__init__" = some (some (.ref f13)))
    (l13 : K.lookup f13 = some ⟨oc13, od13, .func (PySem.W.fnOf "__init__" "Hoist.__init__" (defArgs s_Hoist___init__) (defBody s_Hoist___init__) (defScope s_Hoist___init__) .none kV13 dc13 pm13 an13 cd13 ct13), sl13⟩)
    (cc13 : PySem.W.codeIn K cd13 "Hoist.__init__" = true)
    (k13 : PySem.W.keepIn K (.ref f13) = true)
    (i13 : PySem.W.isFn K (.ref f13) = true)
    (m13 : PySem.W.makesIn K c_Hoist = true)
    (kc13 : PySem.W.keepIn K (.ref c_Hoist) = true)
    (a14 : PySem.W.nsIn K mainGlobals "_law_made" = some (some (.ref f14)))
    (l14 : K.lookup f14 = some ⟨oc14, od14, .func (PySem.W.fnOf "_law_made" "_law_made" (defArgs s__law_made) (defBody s__law_made) (defScope s__law_made) .none kV14 dc14 pm14 an14 cd14 ct14), sl14⟩)
    (cc14 : PySem.W.codeIn K cd14 "_law_made" = true)
    (k14 : PySem.W.keepIn K (.ref f14) = true)
    (a15 : PySem.W.nsIn K mainGlobals "law" = some (some (.ref f15)))
    (l15 : K.lookup f15 = some ⟨oc15, od15, .func (PySem.W.fnOf "law" "law" (defArgs s_law) (defBody s_law) (defScope s_law) .none kV15 dc15 pm15 an15 cd15 ct15), sl15⟩)
    (cc15 : PySem.W.codeIn K cd15 "law" = true)
    (k15 : PySem.W.keepIn K (.ref f15) = true) :
    ∃ fd : FuncData, (∀ (s : Shared) (v : Value), BindsTo s fd ⟨[v], []⟩ [("script", v)]) ∧ ∀ base : Heap, K.In base → base.Ns mainGlobals mg → FnOk l.prog w K mg base CX0 6 fa fd ["script"] (spLaw K) := by
  let AD : Ad := ⟨c_Hoist, c_HoistError, c_NoHoist, c_NoRope, c_NoBody, c_Sinks, c_TooMany, c_BadText⟩
  have D0 : DefM K AD.Hoist "weights" "Hoist.weights" s_Hoist_weights ["self"] := ⟨f0, _, fun_mk (st := s_Hoist_weights) l0 cc0 k0, (fun_mk (st := s_Hoist_weights) l0 cc0 k0).binds (ps := ["self"]) (fun _ _ _ _ _ _ us hl => match us, hl with | [_], _ => rfl), ⟨a0, i0, k0⟩⟩
  have D1 : DefM K AD.Hoist "many_ropes" "Hoist.many_ropes" s_Hoist_many_ropes ["self"] := ⟨f1, _, fun_mk (st := s_Hoist_many_ropes) l1 cc1 k1, (fun_mk (st := s_Hoist_many_ropes) l1 cc1 k1).binds (ps := ["self"]) (fun _ _ _ _ _ _ us hl => match us, hl with | [_], _ => rfl), ⟨a1, i1, k1⟩⟩
  have D2 : Def K mg "check_number" "check_number" s_check_number ["number"] := ⟨f2, _, fun_mk (st := s_check_number) l2 cc2 k2, (fun_mk (st := s_check_number) l2 cc2 k2).binds (ps := ["number"]) (fun _ _ _ _ _ _ us hl => match us, hl with | [_], _ => rfl), PySem.W.mg_of X G a2⟩
  have D3 : Def K mg "check_weights" "check_weights" s_check_weights ["weights"] := ⟨f3, _, fun_mk (st := s_check_weights) l3 cc3 k3, (fun_mk (st := s_check_weights) l3 cc3 k3).binds (ps := ["weights"]) (fun _ _ _ _ _ _ us hl => match us, hl with | [_], _ => rfl), PySem.W.mg_of X G a3⟩
  have D4 : Def K mg "_law_cell_at" "_law_cell_at" s__law_cell_at ["script", "k"] := ⟨f4, _, fun_mk (st := s__law_cell_at) l4 cc4 k4, (fun_mk (st := s__law_cell_at) l4 cc4 k4).binds (ps := ["script", "k"]) (fun _ _ _ _ _ _ us hl => match us, hl with | [_, _], _ => rfl), PySem.W.mg_of X G a4⟩
  have D5 : Def K mg "_law_whole" "_law_whole" s__law_whole ["found"] := ⟨f5, _, fun_mk (st := s__law_whole) l5 cc5 k5, (fun_mk (st := s__law_whole) l5 cc5 k5).binds (ps := ["found"]) (fun _ _ _ _ _ _ us hl => match us, hl with | [_], _ => rfl), PySem.W.mg_of X G a5⟩
  have D6 : Def K mg "_law_kind" "_law_kind" s__law_kind ["e"] := ⟨f6, _, fun_mk (st := s__law_kind) l6 cc6 k6, (fun_mk (st := s__law_kind) l6 cc6 k6).binds (ps := ["e"]) (fun _ _ _ _ _ _ us hl => match us, hl with | [_], _ => rfl), PySem.W.mg_of X G a6⟩
  have D7 : Def K mg "_law_right" "_law_right" s__law_right ["weights", "table", "ropes"] := ⟨f7, _, fun_mk (st := s__law_right) l7 cc7 k7, (fun_mk (st := s__law_right) l7 cc7 k7).binds (ps := ["weights", "table", "ropes"]) (fun _ _ _ _ _ _ us hl => match us, hl with | [_, _, _], _ => rfl), PySem.W.mg_of X G a7⟩
  have D8 : Def K mg "_law_spoiled" "_law_spoiled" s__law_spoiled ["weights", "ropes", "mode", "cell"] := ⟨f8, _, fun_mk (st := s__law_spoiled) l8 cc8 k8, (fun_mk (st := s__law_spoiled) l8 cc8 k8).binds (ps := ["weights", "ropes", "mode", "cell"]) (fun _ _ _ _ _ _ us hl => match us, hl with | [_, _, _, _], _ => rfl), PySem.W.mg_of X G a8⟩
  have D9 : Def K mg "check_rope" "check_rope" s_check_rope ["hoist", "rope"] := ⟨f9, _, fun_mk (st := s_check_rope) l9 cc9 k9, (fun_mk (st := s_check_rope) l9 cc9 k9).binds (ps := ["hoist", "rope"]) (fun _ _ _ _ _ _ us hl => match us, hl with | [_, _], _ => rfl), PySem.W.mg_of X G a9⟩
  have D10 : Def K mg "added_strands" "added_strands" s_added_strands ["rope", "many_bodies"] := ⟨f10, _, fun_mk (st := s_added_strands) l10 cc10 k10, (fun_mk (st := s_added_strands) l10 cc10 k10).binds (ps := ["rope", "many_bodies"]) (fun _ _ _ _ _ _ us hl => match us, hl with | [_, _], _ => rfl), PySem.W.mg_of X G a10⟩
  have D11 : Def K mg "_law_ropes" "_law_ropes" s__law_ropes ["script", "bodies", "many"] := ⟨f11, _, fun_mk (st := s__law_ropes) l11 cc11 k11, (fun_mk (st := s__law_ropes) l11 cc11 k11).binds (ps := ["script", "bodies", "many"]) (fun _ _ _ _ _ _ us hl => match us, hl with | [_, _, _], _ => rfl), PySem.W.mg_of X G a11⟩
  have D12 : DefM K AD.Hoist "strands" "Hoist.strands" s_Hoist_strands ["self", "rope", "body"] := ⟨f12, _, fun_mk (st := s_Hoist_strands) l12 cc12 k12, (fun_mk (st := s_Hoist_strands) l12 cc12 k12).binds (ps := ["self", "rope", "body"]) (fun _ _ _ _ _ _ us hl => match us, hl with | [_, _, _], _ => rfl), ⟨a12, i12, k12⟩⟩
  have D13 : DefI K AD.Hoist "Hoist.__init__" s_Hoist___init__ ["self", "weights", "ropes"] := ⟨f13, _, fun_mk (st := s_Hoist___init__) l13 cc13 k13, (fun_mk (st := s_Hoist___init__) l13 cc13 k13).binds (ps := ["self", "weights", "ropes"]) (fun _ _ _ _ _ _ us hl => match us, hl with | [_, _, _], _ => rfl), ⟨m13, a13, i13, kc13⟩⟩
  have D14 : Def K mg "_law_made" "_law_made" s__law_made ["weights", "ropes"] := ⟨f14, _, fun_mk (st := s__law_made) l14 cc14 k14, (fun_mk (st := s__law_made) l14 cc14 k14).binds (ps := ["weights", "ropes"]) (fun _ _ _ _ _ _ us hl => match us, hl with | [_, _], _ => rfl), PySem.W.mg_of X G a14⟩
  have D15 : Def K mg "law" "law" s_law ["script"] := ⟨f15, _, fun_mk (st := s_law) l15 cc15 k15, (fun_mk (st := s_law) l15 cc15 k15).binds (ps := ["script"]) (fun _ _ _ _ _ _ us hl => match us, hl with | [_], _ => rfl), PySem.W.mg_of X G a15⟩
  have T : Txt K mg AD := ⟨PySem.W.mg_none_of X G z_len,
    PySem.W.mg_none_of X G z_abs,
    PySem.W.mg_none_of X G z_min,
    PySem.W.mg_none_of X G z_max,
    PySem.W.mg_none_of X G z_isinstance,
    PySem.W.mg_none_of X G z_sum,
    PySem.W.mg_none_of X G z_int,
    PySem.W.mg_none_of X G z_list,
    PySem.W.mg_none_of X G z_bool,
    PySem.W.mg_none_of X G z_range,
    PySem.W.mg_none_of X G z_ValueError,
    ⟨_, PySem.W.mg_of X G g_MOST_BODIES⟩,
    ⟨_, PySem.W.mg_of X G g_MOST_ROPES⟩,
    ⟨_, PySem.W.mg_of X G g_MOST_WEIGHT⟩,
    ⟨_, PySem.W.mg_of X G g_MOST_PAIRS⟩,
    ⟨_, PySem.W.mg_of X G g_MOST_STRANDS⟩,
    PySem.W.mg_of X G c_Hoist_,
    ⟨pg_Hoist, hd_Hoist, po_Hoist, sa_Hoist⟩,
    n_body_weights,
    n_rope_strands,
    PySem.W.mg_of X G c_HoistError_,
    PySem.W.mg_of X G c_NoHoist_,
    PySem.W.mg_of X G c_NoRope_,
    PySem.W.mg_of X G c_NoBody_,
    PySem.W.mg_of X G c_Sinks_,
    PySem.W.mg_of X G c_TooMany_,
    PySem.W.mg_of X G c_BadText_,
    ⟨e_NoBody⟩,
    ⟨e_NoHoist⟩,
    ⟨e_NoRope⟩,
    ⟨ig_NoHoist, in_NoHoist, ib_NoHoist, ic_NoHoist, ia_NoHoist, i_hn, i_ht, im_NoHoist⟩,
    kit_NoHoist_HoistError,
    kit_NoHoist_NoHoist,
    kit_NoHoist_NoRope,
    kit_NoHoist_NoBody,
    kit_NoHoist_Sinks,
    kit_NoHoist_TooMany,
    kit_NoHoist_BadText,
    kit_NoHoist_V,
    exm_NoHoist⟩
  have e := hfa.symm.trans (PySem.W.mg_of X G a15)
  cases e
  refine ⟨PySem.W.fnOf "law" "law" (defArgs s_law) (defBody s_law) (defScope s_law) .none kV15 dc15 pm15 an15 cd15 ct15, fun s v => .of_eq rfl, fun base _ _ => ?_⟩
  have O_Hoist_weights : OwnM l.prog w K mg base CX0 AD.Hoist "weights" ["self"] 1 (spWeights K AD) := ok_Hoist_weights T D0
  have O_Hoist_many_ropes : OwnM l.prog w K mg base CX0 AD.Hoist "many_ropes" ["self"] 1 (spManyRopes K AD) := ok_Hoist_many_ropes T D1
  have O_check_number : Own l.prog w K mg base (CXE l.prog w) "check_number" ["number"] 1 (spCheckNumberE AD) := ok_check_number T D2
  have O_check_weights : Own l.prog w K mg base (CXE l.prog w) "check_weights" ["weights"] 1 (spCheckWeightsE K AD) := ok_check_weights T D3
  have O__law_cell_at : Own l.prog w K mg base CX0 "_law_cell_at" ["script", "k"] 1 (spCell K) := ok__law_cell_at T D4
  have O__law_whole : Own l.prog w K mg base CX0 "_law_whole" ["found"] 1 (spWhole) := ok__law_whole T D5
  have O__law_kind : OwnH l.prog w K mg base "_law_kind" ["e"] 1 (spKind K AD) := ok__law_kind T D6
  have O__law_right : Own l.prog w K mg base CX0 "_law_right" ["weights", "table", "ropes"] 1 (spRight K) := ok__law_right T D7
  have O__law_spoiled : Own l.prog w K mg base CX0 "_law_spoiled" ["weights", "ropes", "mode", "cell"] 1 (spSpoiled K) := ok__law_spoiled T D8
  have O_check_rope : Own l.prog w K mg base (CXE l.prog w) "check_rope" ["hoist", "rope"] 2 (spCheckRope K AD) := ok_check_rope T D9 O_Hoist_many_ropes
  have O_added_strands : Own l.prog w K mg base (CXE l.prog w) "added_strands" ["rope", "many_bodies"] 2 (spAddedStrandsE K AD) := ok_added_strands T D10 O_check_number
  have O__law_ropes : Own l.prog w K mg base CX0 "_law_ropes" ["script", "bodies", "many"] 2 (spRopes2 K) := ok__law_ropes T D11 O__law_cell_at
  have O_Hoist_strands : OwnM l.prog w K mg base (CXE l.prog w) AD.Hoist "strands" ["self", "rope", "body"] 3 (spStrands K AD) := ok_Hoist_strands T D12 O_check_rope
  have O_Hoist___init__ : OwnI l.prog w K mg base (CXE l.prog w) AD.Hoist ["self", "weights", "ropes"] 3 (spHoistE K AD) := ok_Hoist___init__ T D13 O_added_strands O_check_weights
  have O__law_made : Own l.prog w K mg base CX0 "_law_made" ["weights", "ropes"] 5 (spMade K AD) := ok__law_made T D14 O_Hoist___init__ O__law_kind
  exact ok_law_f T (fun_mk (st := s_law) l15 cc15 k15) O_Hoist_many_ropes O_Hoist_strands O_Hoist_weights O__law_cell_at O__law_made O__law_right O__law_ropes O__law_spoiled O__law_whole

theorem walk {l : PySem.W.OpenLaw} {q : Program} {loose : List Str} {XP : (Str → Option Value) → Heap → Prop} {YP : World → Heap → Prop} {d : DefRec} {K : Params → PySem.W.Frag} (hn : l.most = some 63) (hdf : d.params.defaults = [])
    (hY : ∀ (w : World) (h : Heap), YP w h → (K w.params).In h)
    (F : ∀ (w : World) (mg : Str → Option Value) (fa : Addr) (h : Heap), (K w.params).In h → h.Ns mainGlobals mg → mg d.name = some (.ref fa) →
      ∃ fd : FuncData, (∀ (s : Shared) (u : Value), BindsTo s fd ⟨[u], []⟩ [("script", u)]) ∧ ∀ base : Heap, (K w.params).In base → base.Ns mainGlobals mg → FnOk l.prog w (K w.params) mg base CX0 6 fa fd ["script"] (spLaw (K w.params))) :
    PySem.W.WalkO q loose XP YP l.row.toRowW d [] (fun f vs => PySem.call f vs) :=
  L2.walk_of (n := 63) (k := 6) (x := "script") (CX := fun _ => CX0) (sp := fun w => spLaw (K w.params)) hn (by decide) hdf ⟨rfl, by decide, by decide⟩ hY F (fun _ _ a ns hl _ hS => ⟨a, ns, rfl, hS, hl, fun _ => rfl⟩) fun _ _ _ _ _ z => z


end Hw
open PySem PySem.W PyProof.Rows
set_option maxRecDepth 100000 in
set_option maxHeartbeats 0 in
theorem PySem.Challenge.cw_hoistworks_k02_hoists_holds : PySem.Challenge.rw_hoistworks_k02_hoists.Holds := by
  w_on; o_law; k_head; (case hw => w_witness2)
  k_fill
  refine Hw.walk (l := PySem.Challenge.rw_hoistworks_k02_hoists) rfl rfl (fun w h Y => PySem.W.kIn_of Y) ?F
  case F =>
    intro w mg fa h KX G hmg
    refine' Hw.all_mk KX G hmg ?z_len ?z_abs ?z_min ?z_max ?z_isinstance ?z_sum ?z_int ?z_list ?z_bool ?z_range ?z_ValueError ?g_MOST_BODIES ?g_MOST_ROPES ?g_MOST_WEIGHT ?g_MOST_PAIRS ?g_MOST_STRANDS ?c_Hoist_ ?pg_Hoist ?hd_Hoist ?po_Hoist ?sa_Hoist ?n_body_weights ?n_rope_strands ?c_HoistError_ ?c_NoHoist_ ?c_NoRope_ ?c_NoBody_ ?c_Sinks_ ?c_TooMany_ ?c_BadText_ ?e_NoBody ?e_NoHoist ?e_NoRope ?ig_NoHoist ?in_NoHoist ?ib_NoHoist ?ic_NoHoist ?ia_NoHoist ?im_NoHoist ?kit_NoHoist_HoistError ?kit_NoHoist_NoHoist ?kit_NoHoist_NoRope ?kit_NoHoist_NoBody ?kit_NoHoist_Sinks ?kit_NoHoist_TooMany ?kit_NoHoist_BadText ?kit_NoHoist_V ?exm_NoHoist ?i_hn ?i_ht ?a0 ?l0 ?cc0 ?k0 ?i0 ?a1 ?l1 ?cc1 ?k1 ?i1 ?a2 ?l2 ?cc2 ?k2 ?a3 ?l3 ?cc3 ?k3 ?a4 ?l4 ?cc4 ?k4 ?a5 ?l5 ?cc5 ?k5 ?a6 ?l6 ?cc6 ?k6 ?a7 ?l7 ?cc7 ?k7 ?a8 ?l8 ?cc8 ?k8 ?a9 ?l9 ?cc9 ?k9 ?a10 ?l10 ?cc10 ?k10 ?a11 ?l11 ?cc11 ?k11 ?a12 ?l12 ?cc12 ?k12 ?i12 ?a13 ?l13 ?cc13 ?k13 ?i13 ?m13 ?kc13 ?a14 ?l14 ?cc14 ?k14 ?a15 ?l15 ?cc15 ?k15
    (case z_len => k_is)
    (case z_abs => k_is)
    (case z_min => k_is)
    (case z_max => k_is)
    (case z_isinstance => k_is)
    (case z_sum => k_is)
    (case z_int => k_is)
    (case z_list => k_is)
    (case z_bool => k_is)
    (case z_range => k_is)
    (case z_ValueError => k_is)
    (case g_MOST_BODIES => k_is)
    (case g_MOST_ROPES => k_is)
    (case g_MOST_WEIGHT => k_is)
    (case g_MOST_PAIRS => k_is)
    (case g_MOST_STRANDS => k_is)
    (case c_Hoist_ => k_is)
    (case pg_Hoist => k_is)
    (case hd_Hoist => k_is)
    (case po_Hoist => k_is)
    (case sa_Hoist => k_is)
    (case n_body_weights => k_is)
    (case n_rope_strands => k_is)
    (case c_HoistError_ => k_is)
    (case c_NoHoist_ => k_is)
    (case c_NoRope_ => k_is)
    (case c_NoBody_ => k_is)
    (case c_Sinks_ => k_is)
    (case c_TooMany_ => k_is)
    (case c_BadText_ => k_is)
    (case e_NoBody => kernel_rfl)
    (case e_NoHoist => kernel_rfl)
    (case e_NoRope => kernel_rfl)
    (case ig_NoHoist => k_is)
    (case in_NoHoist => k_is)
    (case ib_NoHoist => k_is)
    (case ic_NoHoist => kernel_rfl)
    (case ia_NoHoist => k_is)
    (case im_NoHoist => k_is)
    (case kit_NoHoist_HoistError => kernel_rfl)
    (case kit_NoHoist_NoHoist => kernel_rfl)
    (case kit_NoHoist_NoRope => kernel_rfl)
    (case kit_NoHoist_NoBody => kernel_rfl)
    (case kit_NoHoist_Sinks => kernel_rfl)
    (case kit_NoHoist_TooMany => kernel_rfl)
    (case kit_NoHoist_BadText => kernel_rfl)
    (case kit_NoHoist_V => kernel_rfl)
    (case exm_NoHoist => kernel_rfl)
    (case i_hn => k_is)
    (case i_ht => k_is)
    (case a0 => k_is)
    (case l0 => k_is)
    (case cc0 => k_is)
    (case k0 => k_is)
    (case i0 => k_is)
    (case a1 => k_is)
    (case l1 => k_is)
    (case cc1 => k_is)
    (case k1 => k_is)
    (case i1 => k_is)
    (case a2 => k_is)
    (case l2 => k_is)
    (case cc2 => k_is)
    (case k2 => k_is)
    (case a3 => k_is)
    (case l3 => k_is)
    (case cc3 => k_is)
    (case k3 => k_is)
    (case a4 => k_is)
    (case l4 => k_is)
    (case cc4 => k_is)
    (case k4 => k_is)
    (case a5 => k_is)
    (case l5 => k_is)
    (case cc5 => k_is)
    (case k5 => k_is)
    (case a6 => k_is)
    (case l6 => k_is)
    (case cc6 => k_is)
    (case k6 => k_is)
    (case a7 => k_is)
    (case l7 => k_is)
    (case cc7 => k_is)
    (case k7 => k_is)
    (case a8 => k_is)
    (case l8 => k_is)
    (case cc8 => k_is)
    (case k8 => k_is)
    (case a9 => k_is)
    (case l9 => k_is)
    (case cc9 => k_is)
    (case k9 => k_is)
    (case a10 => k_is)
    (case l10 => k_is)
    (case cc10 => k_is)
    (case k10 => k_is)
    (case a11 => k_is)
    (case l11 => k_is)
    (case cc11 => k_is)
    (case k11 => k_is)
    (case a12 => k_is)
    (case l12 => k_is)
    (case cc12 => k_is)
    (case k12 => k_is)
    (case i12 => k_is)
    (case a13 => k_is)
    (case l13 => k_is)
    (case cc13 => k_is)
    (case k13 => k_is)
    (case i13 => k_is)
    (case m13 => k_is)
    (case kc13 => k_is)
    (case a14 => k_is)
    (case l14 => k_is)
    (case cc14 => k_is)
    (case k14 => k_is)
    (case a15 => k_is)
    (case l15 => k_is)
    (case cc15 => k_is)
    (case k15 => k_is)


