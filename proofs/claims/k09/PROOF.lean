import PyProof.Rows.All
import Wide.All
import OpenK.AllK
import Wide.FinOn
import Lean
import PyProof.EqAt
import PyProof.EqKinds
import PyProof.TupleCall
import PySem.Challenge.RW_hoistworks_k09_whole_ropes_that_can_be_s
set_option Elab.async false
set_option linter.all false
set_option maxRecDepth 100000
set_option maxHeartbeats 4000000
namespace L2
open PySem PySem.Spec PyProof.Rows
abbrev Key := Sum Int Str
def keyIs : Key → Value → Bool
  | .inl k, v => Value.isInt k v
  | .inr x, v => Value.isStrOf x v
def keyH (w : World) : Key → Int
  | .inl k => hashInt k
  | .inr x => hashStr w x
theorem keyIs_shape : ∀ {k : Key} {v : Value}, keyIs k v = true → (∃ i t, k = Sum.inl i ∧ v = Value.int i t) ∨ (∃ x t, k = Sum.inr x ∧ v = Value.str x t)
  | .inl i, v, h => by
    obtain ⟨t, e⟩ := Value.isInt_shape (k := i) (v := v) h
    exact .inl ⟨i, t, rfl, e⟩
  | .inr x, v, h => by
    obtain ⟨t, e⟩ := Value.isStrOf_shape (x := x) (v := v) h
    exact .inr ⟨x, t, rfl, e⟩
theorem key_ll (a b : Int) : decide ((Sum.inl a : Key) = Sum.inl b) = (a == b) := by
  by_cases e : a = b
  · subst e; simp
  · have h : ¬ (Sum.inl a : Key) = Sum.inl b := fun q => e (Sum.inl.inj q)
    rw [decide_eq_false h]
    exact (beq_eq_false_iff_ne.mpr e).symm
theorem key_rr (a b : Str) : decide ((Sum.inr a : Key) = Sum.inr b) = decide (a = b) := by
  by_cases e : a = b
  · subst e; simp
  · have h : ¬ (Sum.inr a : Key) = Sum.inr b := fun q => e (Sum.inr.inj q)
    rw [decide_eq_false h, decide_eq_false e]
theorem key_lr (a : Int) (b : Str) : decide ((Sum.inl a : Key) = Sum.inr b) = false := decide_eq_false (fun q => nomatch q)
theorem key_rl (a : Str) (b : Int) : decide ((Sum.inr a : Key) = Sum.inl b) = false := decide_eq_false (fun q => nomatch q)
def mixKind (prog : Program) (w : World) : PySem.KeyKind prog w Key where
  is := keyIs
  hash := keyH w
  inj := fun v a b ha hb => by
    rcases keyIs_shape ha with ⟨i, t, rfl, rfl⟩ | ⟨x, t, rfl, rfl⟩
    · rcases keyIs_shape hb with ⟨j, u, rfl, e⟩ | ⟨y, u, rfl, e⟩
      · injection e with e1 _; rw [e1]
      · exact nomatch e
    · rcases keyIs_shape hb with ⟨j, u, rfl, e⟩ | ⟨y, u, rfl, e⟩
      · exact nomatch e
      · injection e with e1 _; rw [e1]
  byValue := fun k v h => by
    rcases keyIs_shape h with ⟨i, t, rfl, rfl⟩ | ⟨x, t, rfl, rfl⟩ <;> rfl
  pyHash := fun hv h => by
    rcases keyIs_shape hv with ⟨i, t, rfl, rfl⟩ | ⟨x, t, rfl, rfl⟩
    · exact wpAny_pyHash_int h
    · exact wpAny_pyHash_str h
  eqBool := fun hu hv h => by
    rcases keyIs_shape hu with ⟨i, t, rfl, rfl⟩ | ⟨x, t, rfl, rfl⟩
    · rcases keyIs_shape hv with ⟨j, u, rfl, rfl⟩ | ⟨y, u, rfl, rfl⟩
      · rw [key_ll] at h; exact wpAny_eqBool_int h
      · rw [key_lr] at h; exact SeqAt.EqAt.int_str i t y u _ _ _ _ h
    · rcases keyIs_shape hv with ⟨j, u, rfl, rfl⟩ | ⟨y, u, rfl, rfl⟩
      · rw [key_rl] at h; exact SeqAt.EqAt.str_int x t j u _ _ _ _ h
      · rw [key_rr] at h; exact wpAny_eqBool_str h
  «strs» := fun k x t v h => by
    rcases keyIs_shape h with ⟨i, u, rfl, e⟩ | ⟨y, u, rfl, e⟩
    · exact nomatch e
    · injection e with e1 _
      subst e1
      cases v <;> rfl
end L2
namespace L2
open PySem PySem.Spec PyProof.Rows
inductive V where
  | non | bl (b : Bool) | int (i : Int) | str (x : Str) | byt (b : Array UInt8) | flt (b : UInt64) | ref (a : Addr) | ty (n : String)
  deriving DecidableEq
def RelV : V → Value → Prop
  | .non, u => u = Value.none
  | .bl b, u => u = Value.bool b
  | .int i, u => ∃ t, u = Value.int i t
  | .str x, u => ∃ t, u = Value.str x t
  | .byt b, u => ∃ t, u = Value.bytes b t
  | .flt b, u => ∃ t, u = Value.float b t
  | .ref a, u => u = Value.ref a
  | .ty n, u => u = Value.type n
abbrev Vals : List V → List Value → Prop := Paired RelV
theorem Vals.length {xs : List V} {us : List Value} (r : Vals xs us) : xs.length = us.length := Paired.length r
theorem Vals.get : ∀ {xs : List V} {us : List Value} {i : Nat} {x : V}, Vals xs us → xs[i]? = some x → ∃ u, us[i]? = some u ∧ RelV x u
  | _, _, _, _, .nil, e => by simp at e
  | _, _, 0, _, .cons r _, e => by simp at e; subst e; exact ⟨_, rfl, r⟩
  | _, _, i + 1, x, .cons _ t, e => by
    obtain ⟨u, h1, h2⟩ := Vals.get (i := i) (x := x) t (by simpa using e)
    exact ⟨u, by simpa using h1, h2⟩
theorem Vals.set {x : V} {u : Value} (r : RelV x u) : ∀ {xs : List V} {us : List Value} (i : Nat), Vals xs us → Vals (xs.set i x) (us.set i u)
  | _, _, _, .nil => .nil
  | _, _, 0, .cons _ t => .cons r t
  | _, _, i + 1, .cons q t => .cons q (Vals.set r i t)
theorem Vals.append : ∀ {xs ys : List V} {us ws : List Value}, Vals xs us → Vals ys ws → Vals (xs ++ ys) (us ++ ws)
  | _, _, _, _, .nil, s => s
  | _, _, _, _, .cons r t, s => .cons r (Vals.append t s)
theorem Vals.take : ∀ {xs : List V} {us : List Value} (n : Nat), Vals xs us → Vals (xs.take n) (us.take n)
  | _, _, 0, _ => .nil
  | _, _, _ + 1, .nil => .nil
  | _, _, n + 1, .cons r t => .cons r (Vals.take n t)
theorem Vals.drop : ∀ {xs : List V} {us : List Value} (n : Nat), Vals xs us → Vals (xs.drop n) (us.drop n)
  | _, _, 0, r => r
  | _, _, _ + 1, .nil => .nil
  | _, _, n + 1, .cons _ t => Vals.drop n t
theorem Vals.none_of : ∀ {xs : List V} {us : List Value} {i : Nat}, Vals xs us → xs[i]? = none → us[i]? = none := fun {xs us i} r e => by
  have h1 := r.length
  have h2 : xs.length ≤ i := List.getElem?_eq_none_iff.mp e
  exact List.getElem?_eq_none_iff.mpr (by omega)
def RelO : Option V → Option Value → Prop
  | some v, some u => RelV v u
  | none, none => True
  | _, _ => False
def KV {κ : Type} : List (κ × V) → List (κ × Value) → Prop := Paired fun (p : κ × V) (q : κ × Value) => p.1 = q.1 ∧ RelV p.2 q.2
def kV : Key → V
  | .inl i => .int i
  | .inr x => .str x
inductive HO where
  | lst (xs : List V)
  | tup (xs : List V)
  | dK (kvs : List (Key × V)) | dT (kvs : List (List Key × V))
  | set (S : Int → Bool) (n : Nat)
  | ins (C dx : Addr) (fs : List (Str × V))
  | own (x : Addr)
  | xd (fs : List (Str × V))
  | met (f x : Addr)
  | rng (lo hi : Int)
  | frz (o : Obj) (u : HO)
  | tbl (ps : Array Value)
  | ext (φ : Heap → Prop)
abbrev Hp := Addr → Option HO
def upd (H : Hp) (a : Addr) (o : HO) : Hp := fun b => if b = a then some o else H b
theorem upd_same {H : Hp} {a : Addr} {o : HO} : upd H a o a = some o := by unfold upd; rw [if_pos rfl]
theorem upd_ne {H : Hp} {a b : Addr} {o : HO} (h : b ≠ a) : upd H a o b = H b := by unfold upd; rw [if_neg h]
theorem ne_of_none {H : Hp} {a b : Addr} {o : HO} (h : H a = some o) (h' : H b = none) : a ≠ b := by
  intro e; subst e; rw [h] at h'; cases h'
section
variable (P : Program) (w : World)
def ObjOk (H : Hp) (h : Heap) (a : Addr) : HO → Prop
  | .lst xs => xs.length ≤ sizeLine ∧ ∃ (its : List Value) (n : Nat), Vals xs its ∧ h.get? a = some { cls := .type "list", data := .seq its.toArray n }
  | .tup xs => xs.length ≤ sizeLine ∧ ∃ its : List Value, Vals xs its ∧ IsTup h a its.toArray
  | .dK kvs => kvs.length ≤ sizeLine ∧ (a == sysModules) = false ∧ ∃ vs, KV kvs vs ∧ h.DictOf (mixKind P w) a vs
  | .dT kvs => kvs.length ≤ sizeLine ∧ (a == sysModules) = false ∧ ∃ xs : List (List Key × Addr × Value),
      Paired (fun (p : List Key × V) (q : List Key × Addr × Value) => p.1 = q.1 ∧ H q.2.1 = some (.tup (p.1.map kV)) ∧ RelV p.2 q.2.2) kvs xs ∧
      ∃ o es ep, h.get? a = some o ∧ o.ExactDict ∧ o.data = .dict es ep ∧ es.toList = xs.map (entryOfKey (tupleKind (mixKind P w))) ∧ (xs.map (·.1)).Nodup
  | .set S n => h.SetOf (intKind P w) a S n
  | .ins C dx fs => H dx = some (.own a) ∧ fs.length ≤ 1000 ∧ dx ≠ a ∧ h.get? a = some (PySem.W.instObj C dx) ∧
      ∃ mA, h.Ns1 dx mA ∧ (∀ f, RelO (fs.lookup f) (mA f)) ∧ PySem.Within mA (fs.map (·.1))
  | .own _ => ∃ o, h.get? a = some o
  | .xd fs => ∃ mA, h.Ns1 a mA ∧ ∀ f, RelO (fs.lookup f) (mA f)
  | .rng lo hi => ∃ t u v, h.get? a = some { cls := .type "range", data := .fields #[.int lo t, .int hi u, .int 1 v] }
  | .frz o u => h.get? a = some o ∧ ObjOk H h a u
  | .tbl ps => h.get? a = some { cls := .none, data := .fields ps }
  | .met f x => h.get? a = some (PySem.W.methodObj (.ref f) (.ref x))
  | .ext φ => φ h ∧ (∃ o, h.get? a = some o) ∧ ∀ h1 h2 : Heap, φ h1 → (∀ o, h1.get? a = some o → h2.get? a = some o) → φ h2
def HOk (H : Hp) (h : Heap) : Prop := ∀ a o, H a = some o → ObjOk P w H h a o
end
section
variable {P : Program} {w : World} {H H' : Hp} {h h' : Heap} {a : Addr} {o : HO}
theorem ObjOk.lt (x : ObjOk P w H h a o) : a < h.objs.size := by
  cases o with
  | lst xs => obtain ⟨_, _, _, _, e⟩ := x; exact Heap.lt_size e
  | tup xs => obtain ⟨_, _, _, p⟩ := x; exact p.lt
  | dK kvs => obtain ⟨_, _, _, _, o, _, _, e, _⟩ := x; exact Heap.lt_size e
  | dT kvs => obtain ⟨_, _, _, _, o, _, _, e, _⟩ := x; exact Heap.lt_size e
  | set S n => obtain ⟨o, _, _, _, e, _⟩ := x; exact Heap.lt_size e
  | ins C dx fs => obtain ⟨_, _, _, e, _⟩ := x; exact Heap.lt_size e
  | own y => obtain ⟨_, e⟩ := x; exact Heap.lt_size e
  | xd fs => obtain ⟨_, ⟨_, _, _, e, _⟩, _⟩ := x; exact Heap.lt_size e
  | rng lo hi => obtain ⟨_, _, _, e⟩ := x; exact Heap.lt_size e
  | frz ob u => obtain ⟨e, _⟩ := x; exact Heap.lt_size e
  | tbl ps => exact Heap.lt_size (show h.get? a = some _ from x)
  | met f y => exact Heap.lt_size (show h.get? a = some _ from x)
  | ext φ => obtain ⟨_, ⟨_, e⟩, _⟩ := x; exact Heap.lt_size e
theorem Paired.mapP {α β : Type} {F G : α → β → Prop} : ∀ {l₁ : List α} {l₂ : List β}, Paired F l₁ l₂ → (∀ a b, F a b → G a b) → Paired G l₁ l₂
  | _, _, .nil, _ => .nil
  | _, _, .cons r t, f => .cons (f _ _ r) (Paired.mapP t f)
theorem ObjOk.stay (x : ObjOk P w H h a o) (k : ∀ b u, (b = a ∨ H b = some (.own a)) → h.get? b = some u → h'.get? b = some u)
    (ho : ∀ b, H b = some (.own a) → H' b = some (.own a)) (ht : ∀ b xs, H b = some (.tup xs) → H' b = some (.tup xs)) : ObjOk P w H' h' a o := by
  induction o with
  | lst xs => obtain ⟨z, its, n, r, e⟩ := x; exact ⟨z, its, n, r, k _ _ (.inl rfl) e⟩
  | tup xs => obtain ⟨z, its, r, ob, e, c⟩ := x; exact ⟨z, its, r, ob, k _ _ (.inl rfl) e, c⟩
  | dK kvs => obtain ⟨z, y, vs, r, ob, es, ep, e, c⟩ := x; exact ⟨z, y, vs, r, ob, es, ep, k _ _ (.inl rfl) e, c⟩
  | dT kvs =>
    obtain ⟨z, y, xs, r, ob, es, ep, e, c⟩ := x
    exact ⟨z, y, xs, Paired.mapP r fun p q z => ⟨z.1, ht _ _ z.2.1, z.2.2⟩, ob, es, ep, k _ _ (.inl rfl) e, c⟩
  | set S n => obtain ⟨ob, es, ep, t, e, c⟩ := x; exact ⟨ob, es, ep, t, k _ _ (.inl rfl) e, c⟩
  | ins C dx fs =>
    obtain ⟨d, z, ne, e, mA, ⟨od, es, ep, e2, c⟩, r⟩ := x
    exact ⟨ho _ d, z, ne, k _ _ (.inl rfl) e, mA, ⟨od, es, ep, k _ _ (.inr d) e2, c⟩, r⟩
  | own y => obtain ⟨ob, e⟩ := x; exact ⟨ob, k _ _ (.inl rfl) e⟩
  | xd fs => obtain ⟨mA, ⟨od, es, ep, e, c⟩, r⟩ := x; exact ⟨mA, ⟨od, es, ep, k _ _ (.inl rfl) e, c⟩, r⟩
  | rng lo hi => obtain ⟨t, u, v, e⟩ := x; exact ⟨t, u, v, k _ _ (.inl rfl) e⟩
  | frz ob u ih => obtain ⟨e, q⟩ := x; exact ⟨k _ _ (.inl rfl) e, ih q⟩
  | tbl ps =>
    have e : h.get? a = some { cls := .none, data := .fields ps } := x
    show h'.get? a = some { cls := .none, data := .fields ps }
    exact k a _ (.inl rfl) e
  | met f y =>
    have e : h.get? a = some (PySem.W.methodObj (.ref f) (.ref y)) := x
    show h'.get? a = some (PySem.W.methodObj (.ref f) (.ref y))
    exact k a _ (.inl rfl) e
  | ext φ => obtain ⟨p, ⟨o, e⟩, st⟩ := x; exact ⟨st _ _ p fun o q => k _ _ (.inl rfl) q, ⟨o, k _ _ (.inl rfl) e⟩, st⟩
theorem HOk.lt (x : HOk P w H h) (e : H a = some o) : a < h.objs.size := (x a o e).lt
theorem HOk.fresh (x : HOk P w H h) (e : h.objs.size ≤ a) : H a = none := by
  cases q : H a with
  | none => rfl
  | some u => exact absurd (Nat.lt_of_lt_of_le (x.lt q) e) (Nat.lt_irrefl _)
theorem HOk.kept (x : HOk P w H h) (k : ∀ b u, h.get? b = some u → h'.get? b = some u) : HOk P w H h' := fun a o e =>
  (x a o e).stay (fun b u _ q => k b u q) (fun _ q => q) fun _ _ q => q
theorem HOk.laid (x : HOk P w H h) (k : ∀ b u, h.get? b = some u → h'.get? b = some u) (hp : h.objs.size ≤ a) (new : ObjOk P w (upd H a o) h' a o) : HOk P w (upd H a o) h' := fun b u e => by
  have hn := x.fresh hp
  by_cases hb : b = a
  · subst hb; rw [upd_same] at e; cases e; exact new
  · rw [upd_ne hb] at e
    exact (x b u e).stay (fun c v _ q => k c v q) (fun c q => by rw [upd_ne (ne_of_none q hn)]; exact q) fun c xs q => by rw [upd_ne (ne_of_none q hn)]; exact q
end
def Rd (H : Hp) (a : Addr) (u : HO) : Prop := H a = some u ∨ ∃ o, H a = some (.frz o u)
theorem Rd.of {H : Hp} {a : Addr} {u : HO} (h : H a = some u) : Rd H a u := .inl h
theorem Rd.ok {P : Program} {w : World} {H : Hp} {h : Heap} {a : Addr} {u : HO} (r : Rd H a u) (x : HOk P w H h) : ObjOk P w H h a u := by
  rcases r with r | ⟨o, r⟩
  · exact x a u r
  · obtain ⟨_, q⟩ := x a _ r
    exact q
def Mut : Option HO → Prop
  | some (.lst _) => True
  | some (.dK _) => True
  | some (.dT _) => True
  | some (.set _ _) => True
  | some (.ins _ _ _) => True
  | some (.ext _) => True
  | _ => False
section
variable {P : Program} {w : World} {H : Hp} {h h' : Heap} {x e : Addr} {o' : HO}
theorem HOk.write (ok : HOk P w H h) (mu : Mut (H x)) (he : e = x ∨ H e = some (.own x)) (k : ∀ b u, b ≠ e → h.get? b = some u → h'.get? b = some u) (heo : ∃ u, h'.get? e = some u)
    (new : ObjOk P w (upd H x o') h' x o') : HOk P w (upd H x o') h' := fun b u q => by
  have nown : ∀ c y, H c = some (.own y) → c ≠ x := fun c y r z => by subst z; rw [r] at mu; exact mu
  have ntup : ∀ c xs, H c = some (.tup xs) → c ≠ x := fun c xs r z => by subst z; rw [r] at mu; exact mu
  by_cases hb : b = x
  · subst hb; rw [upd_same] at q; cases q; exact new
  · rw [upd_ne hb] at q
    by_cases hbe : b = e
    · have q' : H b = some (.own x) := by
        rcases he with z | z
        · exact absurd (hbe.trans z) hb
        · rw [hbe]; exact z
      rw [q] at q'; cases q'
      obtain ⟨v, hv⟩ := heo
      exact ⟨v, by rw [hbe]; exact hv⟩
    · refine (ok b u q).stay (fun c v hc r => k c v ?_ r) (fun c r => by rw [upd_ne (nown c b r)]; exact r) fun c xs r => by rw [upd_ne (ntup c xs r)]; exact r
      rcases hc with rfl | hc
      · exact hbe
      · rintro rfl
        rcases he with z | z
        · exact nown c b hc z
        · rw [hc] at z; cases z; exact hb rfl
end
structure Un (fs ex : List Addr) (H H' : Hp) (h h' : Heap) : Prop where
  keep : ∀ b o, h.get? b = some o → H b = none → b ∉ fs → b ∉ ex → h'.get? b = some o
  slot : ∀ b o, h.get? b = some o → H b = none → b ∈ fs → b ∉ ex → ∃ sl, h'.get? b = some { o with slots := sl }
  free : ∀ b o, h.get? b = some o → H b = none → b ∉ ex → H' b = none
  there : ∀ b o, h.get? b = some o → b ∉ ex → ∃ o', h'.get? b = some o'
  tups : ∀ b xs, H b = some (.tup xs) → H' b = some (.tup xs)
  frzs : ∀ b o u, H b = some (.frz o u) → H' b = some (.frz o u)
  tbls : ∀ b ps, H b = some (.tbl ps) → ∃ more, H' b = some (.tbl (ps ++ more))
section
variable {fs fs' ex ex' : List Addr} {H H1 H2 : Hp} {h h1 h2 h' : Heap} {a x e : Addr} {o : HO}
theorem Un.any (u : Un fs ex H H1 h h1) {b : Addr} {ob : Obj} (q : h.get? b = some ob) (n : H b = none) (hx : b ∉ ex) : ∃ sl, h1.get? b = some { ob with slots := sl } := by
  by_cases hb : b ∈ fs
  · exact u.slot b ob q n hb hx
  · exact ⟨ob.slots, u.keep b ob q n hb hx⟩
theorem Un.trans (a : Un fs ex H H1 h h1) (b : Un fs ex H1 H2 h1 h2) : Un fs ex H H2 h h2 where
  keep := fun c ob q n hc hx => b.keep c ob (a.keep c ob q n hc hx) (a.free c ob q n hx) hc hx
  slot := fun c ob q n hc hx => by
    obtain ⟨sl, e1⟩ := a.slot c ob q n hc hx
    obtain ⟨sl', e2⟩ := b.slot c _ e1 (a.free c ob q n hx) hc hx
    exact ⟨sl', e2⟩
  free := fun c ob q n hx => by
    obtain ⟨o', e1⟩ := a.there c ob q hx
    exact b.free c o' e1 (a.free c ob q n hx) hx
  there := fun c ob q hx => by
    obtain ⟨o', e1⟩ := a.there c ob q hx
    exact b.there c o' e1 hx
  tups := fun c xs q => b.tups c xs (a.tups c xs q)
  frzs := fun c ob xs q => b.frzs c ob xs (a.frzs c ob xs q)
  tbls := fun c ps q => by
    obtain ⟨m1, e1⟩ := a.tbls c ps q
    obtain ⟨m2, e2⟩ := b.tbls c _ e1
    exact ⟨m1 ++ m2, by rw [e2, Array.append_assoc]⟩
theorem Un.kept (k : ∀ b u, h.get? b = some u → h'.get? b = some u) : Un fs ex H H h h' :=
  ⟨fun b ob q _ _ _ => k b ob q, fun b ob q _ _ _ => ⟨ob.slots, k b ob q⟩, fun _ _ _ n _ => n, fun b ob q _ => ⟨ob, k b ob q⟩, fun _ _ q => q, fun _ _ _ q => q, fun _ ps q => ⟨#[], by rw [q]; simp⟩⟩
theorem Un.refl : Un fs ex H H h h := Un.kept fun _ _ q => q
theorem Un.laid (k : ∀ b u, h.get? b = some u → h'.get? b = some u) (hp : h.objs.size ≤ a) (hn : H a = none) : Un fs ex H (upd H a o) h h' where
  keep := fun b u q _ _ _ => k b u q
  slot := fun b u q _ _ _ => ⟨u.slots, k b u q⟩
  free := fun b u q n _ => by rw [upd_ne (Nat.ne_of_lt (Nat.lt_of_lt_of_le (Heap.lt_size q) hp))]; exact n
  there := fun b u q _ => ⟨u, k b u q⟩
  tups := fun b xs q => by rw [upd_ne (ne_of_none q hn)]; exact q
  frzs := fun b u xs q => by rw [upd_ne (ne_of_none q hn)]; exact q
  tbls := fun b ps q => ⟨#[], by rw [upd_ne (ne_of_none q hn), q]; simp⟩
theorem Un.write (mu : Mut (H x)) (he : e = x ∨ H e = some (.own x)) (k : ∀ b u, b ≠ e → h.get? b = some u → h'.get? b = some u) (heo : ∃ u, h'.get? e = some u) : Un fs ex H (upd H x o) h h' := by
  have hx : ∀ b, H b = none → b ≠ x := fun b n z => by subst z; rw [n] at mu; exact mu
  have hb : ∀ b, H b = none → b ≠ e := fun b n z => by
    subst z
    rcases he with r | r
    · exact hx b n r
    · rw [n] at r; cases r
  have hm : ∀ b u, H b = some u → ¬ Mut (some u) → b ≠ x := fun b u q nm z => by subst z; rw [q] at mu; exact nm mu
  refine ⟨fun b u q n _ _ => k b u (hb b n) q, fun b u q n _ _ => ⟨u.slots, k b u (hb b n) q⟩, fun b u q n _ => by rw [upd_ne (hx b n)]; exact n, fun b u q _ => ?_,
    fun b xs q => by rw [upd_ne (hm b _ q fun z => z)]; exact q, fun b u xs q => by rw [upd_ne (hm b _ q fun z => z)]; exact q, fun b ps q => ⟨#[], by rw [upd_ne (hm b _ q fun z => z), q]; simp⟩⟩
  by_cases hbe : b = e
  · subst hbe; exact heo
  · exact ⟨u, k b u hbe q⟩
theorem Un.mono (u : Un fs ex H H1 h h1) (hs : ∀ b ∈ fs, b ∈ fs') (hx : ∀ b ∈ ex, b ∈ ex') : Un fs' ex' H H1 h h1 :=
  ⟨fun b ob q n hb he => u.keep b ob q n (fun z => hb (hs b z)) fun z => he (hx b z), fun _ _ q n _ he => u.any q n fun z => he (hx _ z), fun b ob q n he => u.free b ob q n fun z => he (hx b z), fun b ob q he => u.there b ob q fun z => he (hx b z), u.tups, u.frzs, u.tbls⟩
end
def trk (h : Heap) (H : Hp) : List Addr := (List.range h.objs.size).filter fun a => (H a).isSome
def hidT (h : Heap) (H : Hp) : Heap := PySem.W.hideAll h (trk h H)
theorem hidT_size (h : Heap) (H : Hp) : (hidT h H).objs.size = h.objs.size := PySem.W.hideAll_size _ _
theorem hidT_get {h : Heap} {H : Hp} {b : Addr} {o : Obj} (e : h.get? b = some o) (n : H b = none) : (hidT h H).get? b = some o :=
  PySem.W.hideAll_get _ e fun hm => by
    have q : (H b).isSome = true := (List.mem_filter.mp hm).2
    rw [n] at q; simp at q
theorem of_hidT {h : Heap} {H : Hp} {b : Addr} {o : Obj} (e : (hidT h H).get? b = some o) : h.get? b = some o ∧ H b = none := by
  have e' : h.get? b = some o := PySem.W.of_hideAll (trk h H) e
  refine ⟨e', ?_⟩
  cases q : H b with
  | none => rfl
  | some x =>
    have hm : b ∈ trk h H := List.mem_filter.mpr ⟨List.mem_range.mpr (Heap.lt_size e'), by simp [q]⟩
    have z : (hidT h H).get? b = none := PySem.W.hideAll_none (trk h H) hm
    rw [z] at e; cases e
def allNews (g h : Heap) (L : Addr) : List (Addr × Obj) := (List.range h.objs.size).filterMap fun a => if a = L ∨ (g.get? a).isSome = true then none else (h.get? a).map fun o => (a, o)
def rest (g h : Heap) (L d : Addr) : List (Addr × Obj) := (allNews g h L).filter fun p => decide (p.1 ≠ d)
end L2
namespace L2
open PySem PySem.Spec PyProof.Rows
structure Mod (K : PySem.W.Frag) (mg : Str → Option Value) (base : Heap) : Prop where
  kin : K.In base
  glob : base.Ns mainGlobals mg
  blt : ∃ mb, base.Ns builtinsNs mb ∧ ∀ x : Str, x ≠ "__name__" → mb x = bootBuiltins x
  nolimit : base.NoLimit
structure Cx where
  prog : Program
  w : World
  K : PySem.W.Frag
  mg : Str → Option Value
  base : Heap
  A : Around
  N : List Str
  s₀ : Shared
  H₀ : Hp
  env : Env
  outer : List Env
  stack : List Env
  ex : List Addr
  fn : Str → Bool
  calm : Bool
  pn : List (Addr × Obj)
  xe : Value → Shared → Prop
def frs (l : List Env) : List Addr := l.filterMap (·.frame)
abbrev Cx.fs (X : Cx) : List Addr := frs X.outer
def Vis (sc : Scope) (x : Str) : Prop := sc.names.lookup x = some .local ∨ sc.names.lookup x = some .cell ∨ sc.names.lookup x = some .free
def Loc (sc : Scope) (x : Str) : Prop := sc.names.lookup x = some .local ∨ sc.names.lookup x = some .cell
def Look (env : Env) (h : Heap) (m : Str → Option Value) (x : Str) (u : Value) : Prop :=
  (env.kindOf x = some .local ∧ m x = some u) ∨ ((env.kindOf x = some .cell ∨ env.kindOf x = some .free) ∧ ∃ c, env.cells.lookup x = some c ∧ h.IsCell c (some u))
structure Cx.Ok (X : Cx) : Prop where
  mod : Mod X.K X.mg X.base
  kind : X.env.scope.kind = .function
  glob : X.env.globals = mainGlobals
  blt : X.env.builtins = builtinsNs
  above : X.s₀.heap.objs.size ≤ X.env.locals
  inj : ∀ x y c, X.env.cells.lookup x = some c → X.env.cells.lookup y = some c → x = y
  has : ∀ x, (X.env.kindOf x = some .cell ∨ X.env.kindOf x = some .free) → ∃ c, X.env.cells.lookup x = some c
  cab : ∀ x c, X.fn x = true → X.env.cells.lookup x = some c → X.s₀.heap.objs.size ≤ c
  hd : X.calm = true → X.A.handled = none
  frames : X.A.frames = some X.stack
  stk : X.stack = X.outer ∨ (X.stack = X.env :: X.outer ∧ X.env.frame = some X.env.locals)
  exf : ∀ b ∈ X.ex, b ≠ X.env.locals ∧ ∀ x c, X.env.cells.lookup x = some c → c ≠ b
  bs : ∀ b o, X.base.get? b = some o → X.s₀.heap.get? b = some o ∧ X.H₀ b = none
  bsz : X.base.objs.size ≤ X.s₀.heap.objs.size
  noex : ∀ b o, X.base.get? b = some o → b ∉ X.ex
  exfs : ∀ b ∈ X.ex, b ∉ X.fs
  funs : X.s₀.heap.FunFrames X.base X.outer
  frf : ∀ b ∈ X.fs, X.H₀ b = none
structure Inv (X : Cx) (pins : List (Addr × Obj)) (σ : List (Option V)) (H : Hp) (s : Shared) : Prop where
  ok : X.Ok
  os : s.os = X.s₀.os
  bare : AllBare s.gens
  base : Un X.fs X.ex X.H₀ H X.s₀.heap s.heap
  loc : ∃ m, s.heap.Ns X.env.locals m ∧ ∀ (i : Nat) (x : Str) (v : V), X.N[i]? = some x → σ[i]? = some (some v) → Vis X.env.scope x → ∃ u, RelV v u ∧ Look X.env s.heap m x u
  cell : ∀ x c, X.env.cells.lookup x = some c → ∃ v, s.heap.IsCell c v
  free : H X.env.locals = none
  freeC : ∀ x c, X.env.cells.lookup x = some c → H c = none
  pin : ∀ p ∈ X.pn ++ pins, s.heap.get? p.1 = some p.2 ∧ H p.1 = none ∧ p.1 ≠ X.env.locals ∧ p.1 ∉ X.fs ∧ ∀ v, p.2.data ≠ .cell v
  hok : HOk X.prog X.w H s.heap
  len : σ.length = X.N.length
section
variable {X : Cx} {pins : List (Addr × Obj)} {σ : List (Option V)} {H H' : Hp} {s : Shared} {h' : Heap}
theorem Cx.Ok.nofr (ok : X.Ok) {b : Addr} {o : Obj} (e : X.base.get? b = some o) : b ∉ X.fs := fun hb => by
  have := (ok.funs.mem hb).1
  rw [e] at this; cases this
theorem Inv.bs (I : Inv X pins σ H s) : ∀ b o, X.base.get? b = some o → s.heap.get? b = some o ∧ H b = none := fun b o e =>
  ⟨I.base.keep b o (I.ok.bs b o e).1 (I.ok.bs b o e).2 (I.ok.nofr e) (I.ok.noex b o e), I.base.free b o (I.ok.bs b o e).1 (I.ok.bs b o e).2 (I.ok.noex b o e)⟩
theorem Inv.bk (I : Inv X pins σ H s) : ∀ b o, X.base.get? b = some o → s.heap.get? b = some o := fun b o e => (I.bs b o e).1
theorem Inv.mod (I : Inv X pins σ H s) : Mod X.K X.mg X.base := I.ok.mod
theorem Inv.kIn (I : Inv X pins σ H s) : X.K.In s.heap := I.ok.mod.kin.keeps I.bk
theorem Inv.nolimit (I : Inv X pins σ H s) : s.heap.NoLimit := I.ok.mod.nolimit.keeps I.bk
theorem Inv.fr (I : Inv X pins σ H s) : ∃ m, Fr X.base X.env.locals s.heap m :=
  let ⟨m, hn, _⟩ := I.loc
  ⟨m, hn, I.bk, Nat.le_trans I.ok.bsz I.ok.above⟩
theorem Inv.lt (I : Inv X pins σ H s) : X.env.locals < s.heap.objs.size := let ⟨_, hn, _⟩ := I.loc; hn.lt
theorem Inv.sz (I : Inv X pins σ H s) : X.s₀.heap.objs.size ≤ s.heap.objs.size := Nat.le_trans I.ok.above (Nat.le_of_lt I.lt)
theorem Inv.nofs (I : Inv X pins σ H s) {a : Addr} (h : s.heap.objs.size ≤ a) : a ∉ X.fs := fun hb => by
  obtain ⟨_, o, ho, _⟩ := I.ok.funs.mem hb
  exact absurd (Nat.lt_of_lt_of_le (Heap.lt_size ho) (Nat.le_trans I.sz h)) (Nat.lt_irrefl _)
theorem Inv.cne (I : Inv X pins σ H s) : ∀ x c, X.env.cells.lookup x = some c → c ≠ X.env.locals := fun x c e z => by
  obtain ⟨v, o, ho, hd⟩ := I.cell x c e
  obtain ⟨m, ⟨o', es, ep, ho', hd', _⟩, _⟩ := I.loc
  rw [z, ho'] at ho; cases ho; rw [hd'] at hd; cases hd
theorem Inv.funs (I : Inv X pins σ H s) : s.heap.FunFrames X.base X.outer := by
  have all : ∀ (l : List Env), (∀ b ∈ frs l, b ∈ X.fs) → X.s₀.heap.FunFrames X.base l → s.heap.FunFrames X.base l := by
    intro l
    induction l with
    | nil => intro _ _; trivial
    | cons env r ih =>
      intro hs hl
      obtain ⟨hk, ⟨L, o, hf, hn, ho, hd⟩, hr⟩ := hl
      have hL : L ∈ X.fs := hs L (by unfold frs; rw [List.filterMap_cons, hf]; exact List.mem_cons_self)
      obtain ⟨sl, e⟩ := I.base.slot L o ho (I.ok.frf L hL) hL fun z => I.ok.exfs L z hL
      exact ⟨hk, ⟨L, _, hf, hn, e, hd⟩, ih (fun b hb => hs b (by unfold frs; rw [List.filterMap_cons, hf]; exact List.mem_cons_of_mem _ hb)) hr⟩
  exact all X.outer (fun _ hb => hb) I.ok.funs
theorem Inv.stack (I : Inv X pins σ H s) : s.heap.FunFrames X.base X.stack := by
  rcases I.ok.stk with e | ⟨e, hf⟩
  · rw [e]; exact I.funs
  · rw [e]
    obtain ⟨m, hn, _⟩ := I.loc
    refine .cons (by rw [I.ok.kind]; decide) hf hn ?_ I.funs
    exact Heap.get?_none_of_le (Nat.le_trans I.ok.bsz I.ok.above)
theorem Inv.stkSub (I : Inv X pins σ H s) : ∀ b ∈ frs X.stack, b ∈ X.env.locals :: X.fs := fun b hb => by
  rcases I.ok.stk with e | ⟨e, hf⟩
  · rw [e] at hb; exact List.mem_cons_of_mem _ hb
  · rw [e] at hb
    unfold frs at hb
    rw [List.filterMap_cons, hf] at hb
    exact hb
theorem Inv.stkFree (I : Inv X pins σ H s) : ∀ b ∈ frs X.stack, H b = none := fun b hb => by
  rcases List.mem_cons.mp (I.stkSub b hb) with e | hb
  · rw [e]; exact I.free
  · obtain ⟨_, o, ho, _⟩ := I.ok.funs.mem hb
    exact I.base.free b o ho (I.ok.frf b hb) fun z => I.ok.exfs b z hb
theorem Inv.step {g' : Array GenState} {t' : Nat} {d' : Drawn} {ch : List Addr} (I : Inv X pins σ H s)
    (hch : ∀ b ∈ ch, (b ∈ X.ex ∨ X.s₀.heap.objs.size ≤ b) ∧ b ≠ X.env.locals ∧ (∀ x c, X.env.cells.lookup x = some c → c ≠ b) ∧ ∀ p ∈ X.pn ++ pins, p.1 ≠ b)
    (keep : ∀ b o, b ≠ X.env.locals → b ∉ X.fs → b ∉ ch → s.heap.get? b = some o → H b = none → h'.get? b = some o)
    (slot : ∀ b o, b ≠ X.env.locals → b ∈ X.fs → b ∉ ch → s.heap.get? b = some o → H b = none → ∃ sl, h'.get? b = some { o with slots := sl }) (free : ∀ b o, b ∉ ch → s.heap.get? b = some o → H b = none → H' b = none)
    (there : ∀ b o, b ∉ ch → s.heap.get? b = some o → ∃ o', h'.get? b = some o')
    (tups : ∀ b xs, H b = some (.tup xs) → H' b = some (.tup xs)) (frzs : ∀ b o u, H b = some (.frz o u) → H' b = some (.frz o u)) (tbls : ∀ b ps, H b = some (.tbl ps) → ∃ more, H' b = some (.tbl (ps ++ more)))
    (ns : ∀ m, s.heap.Ns X.env.locals m → h'.Ns X.env.locals m) (hok : HOk X.prog X.w H' h') (hg : AllBare g') :
    Inv X pins σ H' { s with heap := h', gens := g', drawn := d', toks := t' } := by
  have neL : ∀ b o, X.s₀.heap.get? b = some o → b ≠ X.env.locals := fun b o e => Nat.ne_of_lt (Nat.lt_of_lt_of_le (Heap.lt_size e) I.ok.above)
  have neC : ∀ b o, X.s₀.heap.get? b = some o → b ∉ X.ex → b ∉ ch := fun b o e hx hb => by
    rcases (hch b hb).1 with z | z
    · exact hx z
    · exact absurd (Nat.lt_of_lt_of_le (Heap.lt_size e) z) (Nat.lt_irrefl _)
  have cellK : ∀ x c, X.env.cells.lookup x = some c → ∀ v, s.heap.IsCell c v → h'.IsCell c v := fun x c e v ⟨o, ho, hd⟩ => by
    have nch : c ∉ ch := fun z => (hch c z).2.2.1 x c e rfl
    by_cases hc : c ∈ X.fs
    · obtain ⟨sl, q⟩ := slot c o (I.cne x c e) hc nch ho (I.freeC x c e)
      exact ⟨_, q, hd⟩
    · exact ⟨o, keep c o (I.cne x c e) hc nch ho (I.freeC x c e), hd⟩
  refine ⟨I.ok, I.os, hg, ⟨fun b o e n hb hx => ?_, fun b o e n hb hx => ?_, fun b o e n hx => ?_, fun b o e hx => ?_, fun b xs e => tups b xs (I.base.tups b xs e), fun b o xs e => frzs b o xs (I.base.frzs b o xs e), fun b ps e => ?_⟩, ?_, fun x c e => ?_, ?_, fun x c e => ?_, fun p hp => ?_, hok, I.len⟩
  · exact keep b o (neL b o e) hb (neC b o e hx) (I.base.keep b o e n hb hx) (I.base.free b o e n hx)
  · obtain ⟨sl, e1⟩ := I.base.slot b o e n hb hx
    obtain ⟨sl', e2⟩ := slot b _ (neL b o e) hb (neC b o e hx) e1 (I.base.free b o e n hx)
    exact ⟨sl', e2⟩
  · obtain ⟨o', e1⟩ := I.base.there b o e hx
    exact free b o' (neC b o e hx) e1 (I.base.free b o e n hx)
  · obtain ⟨o', e1⟩ := I.base.there b o e hx
    exact there b o' (neC b o e hx) e1
  · obtain ⟨m1, e1⟩ := I.base.tbls b ps e
    obtain ⟨m2, e2⟩ := tbls b _ e1
    exact ⟨m1 ++ m2, by rw [e2, Array.append_assoc]⟩
  · obtain ⟨m, hn, hl⟩ := I.loc
    refine ⟨m, ns m hn, fun i x v e1 e2 e3 => ?_⟩
    obtain ⟨u, r, l⟩ := hl i x v e1 e2 e3
    refine ⟨u, r, ?_⟩
    rcases l with l | ⟨k, c, e, z⟩
    · exact .inl l
    · exact .inr ⟨k, c, e, cellK x c e _ z⟩
  · obtain ⟨v, z⟩ := I.cell x c e
    exact ⟨v, cellK x c e v z⟩
  · obtain ⟨m, ⟨o, _, _, ho, _⟩, _⟩ := I.loc
    exact free _ o (fun z => (hch _ z).2.1 rfl) ho I.free
  · obtain ⟨v, o, ho, hd⟩ := I.cell x c e
    exact free c o (fun z => (hch c z).2.2.1 x c e rfl) ho (I.freeC x c e)
  · obtain ⟨e, n, ne, nf, d⟩ := I.pin p hp
    have nch : p.1 ∉ ch := fun z => (hch p.1 z).2.2.2 p hp rfl
    exact ⟨keep p.1 p.2 ne nf nch e n, free p.1 p.2 nch e n, ne, nf, d⟩
theorem Inv.un {t' : Nat} (I : Inv X pins σ H s) (u : Un X.fs [] H H' s.heap h') (hok : HOk X.prog X.w H' h') : Inv X pins σ H' { s with heap := h', toks := t' } := by
  obtain ⟨m, ⟨o, es, ep, ho, r⟩, _⟩ := id I.loc
  obtain ⟨sl, hL⟩ := u.any ho I.free (by simp)
  exact I.step (g' := s.gens) (d' := s.drawn) (ch := []) (fun _ z => nomatch z) (fun b o _ hb _ e n => u.keep b o e n hb (by simp)) (fun b o _ hb _ e n => u.slot b o e n hb (by simp)) (fun b o _ e n => u.free b o e n (by simp)) (fun b o _ e => u.there b o e (by simp)) u.tups u.frzs u.tbls (fun m' hm => by
    obtain ⟨o', es', ep', ho', r'⟩ := hm
    rw [ho] at ho'; cases ho'
    exact ⟨_, es', ep', hL, r'⟩) hok I.bare
theorem Inv.call {g' : Array GenState} {t' : Nat} {d' : Drawn} {ch : List Addr} (I : Inv X pins σ H s) (u : Un (frs X.stack) ch H H' s.heap h') (hok : HOk X.prog X.w H' h') (hg : AllBare g')
    (hch : ∀ b ∈ ch, (b ∈ X.ex ∨ X.s₀.heap.objs.size ≤ b) ∧ b ≠ X.env.locals ∧ (∀ x c, X.env.cells.lookup x = some c → c ≠ b) ∧ ∀ p ∈ X.pn ++ pins, p.1 ≠ b) :
    Inv X pins σ H' { s with heap := h', gens := g', drawn := d', toks := t' } := by
  obtain ⟨m, ⟨o, es, ep, ho, r⟩, _⟩ := id I.loc
  obtain ⟨sl, hL⟩ := u.any ho I.free fun z => (hch _ z).2.1 rfl
  exact I.step (ch := ch) hch (fun b o hL hb hc e n => u.keep b o e n (fun z => (List.mem_cons.mp (I.stkSub b z)).elim hL hb) hc) (fun b o _ _ hc e n => u.any e n hc) (fun b o hc e n => u.free b o e n hc) (fun b o hc e => u.there b o e hc) u.tups u.frzs u.tbls (fun m' hm => by
    obtain ⟨o', es', ep', ho', r'⟩ := hm
    rw [ho] at ho'; cases ho'
    exact ⟨_, es', ep', hL, r'⟩) hok hg
theorem Inv.turned {t' : Nat} {it : Addr} (I : Inv X pins σ H s) (k : ∀ b o, b ≠ it → s.heap.get? b = some o → h'.get? b = some o) (hn : H it = none) (hL : it ≠ X.env.locals)
    (h1 : it ∈ X.ex ∨ X.s₀.heap.objs.size ≤ it) (h2 : ∀ x c, X.env.cells.lookup x = some c → c ≠ it) (h3 : ∀ p ∈ X.pn ++ pins, p.1 ≠ it) : Inv X pins σ H { s with heap := h', toks := t' } := by
  have nit : ∀ b u, H b = some u → b ≠ it := fun b u e z => by rw [z, hn] at e; cases e
  refine I.step (g' := s.gens) (d' := s.drawn) (ch := [it]) (fun b hb => ?_) (fun b o _ _ hc e _ => k b o (fun z => hc (by simp [z])) e) (fun b o _ _ hc e _ => ⟨o.slots, k b o (fun z => hc (by simp [z])) e⟩) (fun _ _ _ _ n => n)
    (fun b o hc e => ⟨o, k b o (fun z => hc (by simp [z])) e⟩) (fun _ _ e => e) (fun _ _ _ e => e) (fun b ps e => ⟨#[], by rw [e]; simp⟩) (fun m hm => ?_) (fun b u e => ?_) I.bare
  · have e : b = it := by simpa using hb
    subst e
    exact ⟨h1, hL, h2, h3⟩
  · obtain ⟨o, es, ep, ho, r⟩ := hm
    exact ⟨o, es, ep, k _ o (Ne.symm hL) ho, r⟩
  · refine (I.hok b u e).stay (fun c v hc q => k c v ?_ q) (fun _ q => q) fun _ _ q => q
    rcases hc with z | z
    · rw [z]; exact nit b u e
    · exact nit c _ z
theorem Inv.tok (I : Inv X pins σ H s) (t : Nat) : Inv X pins σ H { s with toks := t } := I.un (h' := s.heap) (t' := t) Un.refl I.hok
theorem Inv.kept {t' : Nat} (I : Inv X pins σ H s) (k : ∀ b u, s.heap.get? b = some u → h'.get? b = some u) : Inv X pins σ H { s with heap := h', toks := t' } := I.un (Un.kept k) (I.hok.kept k)
theorem Inv.laid {a : Addr} {o : HO} {t' : Nat} (I : Inv X pins σ H s) (k : ∀ b u, s.heap.get? b = some u → h'.get? b = some u) (hp : s.heap.objs.size ≤ a) (new : ObjOk X.prog X.w (upd H a o) h' a o) :
    Inv X pins σ (upd H a o) { s with heap := h', toks := t' } := I.un (Un.laid k hp (I.hok.fresh hp)) (I.hok.laid k hp new)
theorem Inv.write {x e : Addr} {o : HO} {t' : Nat} (I : Inv X pins σ H s) (mu : Mut (H x)) (he : e = x ∨ H e = some (.own x)) (k : ∀ b u, b ≠ e → s.heap.get? b = some u → h'.get? b = some u) (heo : ∃ u, h'.get? e = some u)
    (new : ObjOk X.prog X.w (upd H x o) h' x o) : Inv X pins σ (upd H x o) { s with heap := h', toks := t' } := I.un (Un.write mu he k heo) (I.hok.write mu he k heo new)
theorem Inv.weak {σ' : List (Option V)} (I : Inv X pins σ H s) (hl : σ'.length = σ.length) (w : ∀ (i : Nat) v, σ'[i]? = some (some v) → σ[i]? = some (some v)) : Inv X pins σ' H s :=
  ⟨I.ok, I.os, I.bare, I.base, let ⟨m, hn, hl'⟩ := I.loc; ⟨m, hn, fun i x v e1 e2 e3 => hl' i x v e1 (w i v e2) e3⟩, I.cell, I.free, I.freeC, I.pin, I.hok, hl.trans I.len⟩
theorem Inv.pins_of {pins' : List (Addr × Obj)} (I : Inv X pins σ H s) (h : ∀ p ∈ pins', s.heap.get? p.1 = some p.2 ∧ H p.1 = none ∧ p.1 ≠ X.env.locals ∧ p.1 ∉ X.fs ∧ ∀ v, p.2.data ≠ .cell v) : Inv X pins' σ H s :=
  ⟨I.ok, I.os, I.bare, I.base, I.loc, I.cell, I.free, I.freeC, fun p hp => (List.mem_append.mp hp).elim (fun z => I.pin p (List.mem_append_left _ z)) (h p), I.hok, I.len⟩
theorem nodup_ix {N : List Str} (hN : N.Nodup) {i j : Nat} {x : Str} (a : N[i]? = some x) (b : N[j]? = some x) : i = j := by
  obtain ⟨h1, e1⟩ := List.getElem?_eq_some_iff.mp a
  obtain ⟨h2, e2⟩ := List.getElem?_eq_some_iff.mp b
  exact (List.getElem_inj hN).mp (e1.trans e2.symm)
theorem store_ok2 {M : Model} {A : Around} {E : Value → Shared → Prop} {i : Nat} {x : Str} {v : V} {u : Value} {Q : Unit → Shared → Prop} (I : Inv X pins σ H s) (hN : X.N.Nodup) (hi : X.N[i]? = some x) (hx : Loc X.env.scope x) (r : RelV v u)
    (h : ∀ s', Inv X pins (σ.set i (some v)) H s' → (∃ a, Heap.SameBut a s.heap s'.heap ∧ (a = X.env.locals ∨ X.env.cells.lookup x = some a)) → Q () s') (hf : X.fn x = true ∨ X.env.scope.names.lookup x = some .local := by first | exact .inl rfl | exact .inr rfl | assumption) : wpAny M A (storeName X.env x u) Q E s := by
  obtain ⟨m, hn, hl⟩ := id I.loc
  have hcls : (X.env.scope.kind == .class || (X.env.scope.kind == .module && X.env.locals != X.env.globals)) = false := by rw [I.ok.kind]; rfl
  have hiσ : i < σ.length := by rw [I.len]; exact (List.getElem?_eq_some_iff.mp hi).1
  have cne := I.cne
  have tracked : ∀ {a : Addr} {h' : Heap}, (∃ o, s.heap.get? a = some o ∧ H a = none) → Heap.SameBut a s.heap h' → HOk X.prog X.w H h' := fun {a h'} ha hs b ob e => by
    obtain ⟨_, _, hfree⟩ := ha
    refine (I.hok b ob e).stay (fun c w' hc q => (hs.2 c ?_).trans q) (fun _ q => q) fun _ _ q => q
    rintro rfl
    rcases hc with rfl | hc
    · rw [hfree] at e; cases e
    · rw [hfree] at hc; cases hc
  rcases hx with hk | hk
  · refine wpAny_storeName_local hk hn (fun h' hn' hs => ?_) hcls
    obtain ⟨oL, _, _, hoL, _⟩ := id hn
    refine h _ ⟨I.ok, I.os, I.bare, ⟨fun b o e n hb hx => ?_, fun b o e n hb hx => ?_, I.base.free, fun b o e hx => ?_, I.base.tups, I.base.frzs, I.base.tbls⟩, ⟨_, hn', fun j y v' e1 e2 e3 => ?_⟩, fun y c e => ?_, I.free, I.freeC, fun p hp => ?_, tracked ⟨oL, hoL, I.free⟩ hs, by simpa using I.len⟩ ⟨_, hs, .inl rfl⟩
    · exact (hs.2 b (Nat.ne_of_lt (Nat.lt_of_lt_of_le (Heap.lt_size e) I.ok.above))).trans (I.base.keep b o e n hb hx)
    · obtain ⟨sl, e1⟩ := I.base.slot b o e n hb hx
      exact ⟨sl, (hs.2 b (Nat.ne_of_lt (Nat.lt_of_lt_of_le (Heap.lt_size e) I.ok.above))).trans e1⟩
    · obtain ⟨o', e1⟩ := I.base.there b o e hx
      exact ⟨o', (hs.2 b (Nat.ne_of_lt (Nat.lt_of_lt_of_le (Heap.lt_size e) I.ok.above))).trans e1⟩
    · by_cases hj : j = i
      · subst hj
        rw [hi] at e1; cases e1
        rw [List.getElem?_set_self hiσ] at e2
        cases e2
        exact ⟨u, r, .inl ⟨hk, by simp⟩⟩
      · rw [List.getElem?_set_ne (Ne.symm hj)] at e2
        obtain ⟨u', r', q⟩ := hl j y v' e1 e2 e3
        refine ⟨u', r', ?_⟩
        rcases q with ⟨k, e⟩ | ⟨k, c, e, z⟩
        · refine .inl ⟨k, ?_⟩
          have : y ≠ x := fun e => hj (nodup_ix hN e1 (e ▸ hi))
          simp [this, e]
        · exact .inr ⟨k, c, e, z.sameBut hs (cne y c e)⟩
    · obtain ⟨w', z⟩ := I.cell y c e
      exact ⟨w', z.sameBut hs (cne y c e)⟩
    · obtain ⟨e, n, ne, nf, d⟩ := I.pin p hp
      exact ⟨(hs.2 p.1 ne).trans e, n, ne, nf, d⟩
  · have hfn : X.fn x = true := by
      rcases hf with z | z
      · exact z
      · rw [z] at hk; cases hk
    obtain ⟨c, hc⟩ := I.ok.has x (.inl hk)
    obtain ⟨w', z⟩ := I.cell x c hc
    refine wpAny_storeName_cell I.ok.kind hk hc z (fun h' hc' hs => ?_)
    obtain ⟨oc, hoc, hocd⟩ := id z
    refine h { s with heap := h' } ⟨I.ok, I.os, I.bare, ⟨fun b o e n hb hx => ?_, fun b o e n hb hx => ?_, I.base.free, fun b o e hx => ?_, I.base.tups, I.base.frzs, I.base.tbls⟩, ⟨m, hn.sameBut hs (Ne.symm (cne x c hc)), fun j y v' e1 e2 e3 => ?_⟩, fun y c' e => ?_, I.free, I.freeC, fun p hp => ?_, tracked ⟨oc, hoc, I.freeC x c hc⟩ hs, by simpa using I.len⟩ ⟨c, hs, .inr hc⟩
    · exact (hs.2 b (Nat.ne_of_lt (Nat.lt_of_lt_of_le (Heap.lt_size e) (I.ok.cab x c hfn hc)))).trans (I.base.keep b o e n hb hx)
    · obtain ⟨sl, e1⟩ := I.base.slot b o e n hb hx
      exact ⟨sl, (hs.2 b (Nat.ne_of_lt (Nat.lt_of_lt_of_le (Heap.lt_size e) (I.ok.cab x c hfn hc)))).trans e1⟩
    · obtain ⟨o', e1⟩ := I.base.there b o e hx
      exact ⟨o', (hs.2 b (Nat.ne_of_lt (Nat.lt_of_lt_of_le (Heap.lt_size e) (I.ok.cab x c hfn hc)))).trans e1⟩
    · by_cases hj : j = i
      · subst hj
        rw [hi] at e1; cases e1
        rw [List.getElem?_set_self hiσ] at e2
        cases e2
        exact ⟨u, r, .inr ⟨.inl hk, c, hc, hc'⟩⟩
      · rw [List.getElem?_set_ne (Ne.symm hj)] at e2
        obtain ⟨u', r', q⟩ := hl j y v' e1 e2 e3
        refine ⟨u', r', ?_⟩
        rcases q with q | ⟨k, c', e, z'⟩
        · exact .inl q
        · refine .inr ⟨k, c', e, z'.sameBut hs ?_⟩
          rintro rfl
          exact hj (nodup_ix hN e1 (I.ok.inj _ _ _ e hc ▸ hi))
    · by_cases hcc : c' = c
      · subst hcc; exact ⟨_, hc'⟩
      · obtain ⟨w2, z2⟩ := I.cell y c' e
        exact ⟨w2, z2.sameBut hs hcc⟩
    · obtain ⟨e, n, ne, nf, d⟩ := I.pin p hp
      refine ⟨(hs.2 p.1 ?_).trans e, n, ne, nf, d⟩
      intro q
      rw [q, hoc] at e
      have q' : oc = p.2 := Option.some.inj e
      exact d w' (by rw [← q']; exact hocd)
theorem store_ok {M : Model} {A : Around} {E : Value → Shared → Prop} {i : Nat} {x : Str} {v : V} {u : Value} {Q : Unit → Shared → Prop} (I : Inv X pins σ H s) (hN : X.N.Nodup) (hi : X.N[i]? = some x) (hx : Loc X.env.scope x) (r : RelV v u)
    (h : ∀ s', Inv X pins (σ.set i (some v)) H s' → Q () s') (hf : X.fn x = true ∨ X.env.scope.names.lookup x = some .local := by first | exact .inl rfl | exact .inr rfl | assumption) : wpAny M A (storeName X.env x u) Q E s :=
  store_ok2 I hN hi hx r (fun s' I' _ => h s' I') hf
theorem Inv.call' {s' : Shared} {ch : List Addr} (I : Inv X pins σ H s) (ho : s'.os = s.os) (u : Un (frs X.stack) ch H H' s.heap s'.heap) (hok : HOk X.prog X.w H' s'.heap) (hg : AllBare s'.gens)
    (hch : ∀ b ∈ ch, (b ∈ X.ex ∨ X.s₀.heap.objs.size ≤ b) ∧ b ≠ X.env.locals ∧ (∀ x c, X.env.cells.lookup x = some c → c ≠ b) ∧ ∀ p ∈ X.pn ++ pins, p.1 ≠ b) : Inv X pins σ H' s' := by
  obtain ⟨h', g', d', t', o'⟩ := s'
  have e : o' = s.os := ho
  subst e
  exact I.call (g' := g') (t' := t') (d' := d') u hok hg hch
end
abbrev XK := Value → Option Addr → Hp → Prop
abbrev St := List (Option V)
abbrev VK := V → Hp → Prop
abbrev TE := St → Hp → VK → Prop
abbrev TT := St → Hp → (Bool → Hp → Prop) → Prop
abbrev TA := St → Hp → (List V → Hp → Prop) → Prop
structure Ends where
  nx : St → Hp → Prop
  rt : VK
  bk : St → Hp → Prop := fun _ _ => False
  ct : St → Hp → Prop := fun _ _ => False
abbrev TS := Ends → St → Hp → Prop
def EP (X : Cx) (pins : List (Addr × Obj)) (σ : St) (Q : VK) (u : Value) (s' : Shared) : Prop := ∃ v H', Inv X pins σ H' s' ∧ RelV v u ∧ Q v H'
def TP (X : Cx) (pins : List (Addr × Obj)) (σ : St) (Q : Bool → Hp → Prop) (b : Bool) (s' : Shared) : Prop := ∃ H', Inv X pins σ H' s' ∧ Q b H'
def AP (X : Cx) (pins : List (Addr × Obj)) (σ : St) (Q : List V → Hp → Prop) (us : List Value) (s' : Shared) : Prop := ∃ vs H', Inv X pins σ H' s' ∧ Vals vs us ∧ Q vs H'
def SP (X : Cx) (pins : List (Addr × Obj)) (D : Ends) (f : Flow) (s' : Shared) : Prop :=
  match f with
  | .next => ∃ σ' H', Inv X pins σ' H' s' ∧ D.nx σ' H'
  | .brk => ∃ σ' H', Inv X pins σ' H' s' ∧ D.bk σ' H'
  | .cont => ∃ σ' H', Inv X pins σ' H' s' ∧ D.ct σ' H'
  | .ret u => ∃ v σ' H', Inv X pins σ' H' s' ∧ RelV v u ∧ D.rt v H'
def PE (X : Cx) (e : Expr) (t : TE) : Prop :=
  ∀ (pins : List (Addr × Obj)) (s : Shared) (σ : St) (H : Hp) (Q : VK), Inv X pins σ H s → t σ H Q → wpAny (model X.prog X.w) X.A (eval e X.env) (EP X pins σ Q) X.xe s
def PT (X : Cx) (e : Expr) (t : TT) : Prop :=
  ∀ (pins : List (Addr × Obj)) (s : Shared) (σ : St) (H : Hp) (Q : Bool → Hp → Prop), Inv X pins σ H s → t σ H Q → wpAny (model X.prog X.w) X.A (isTrue e X.env (eval e X.env)) (TP X pins σ Q) X.xe s
def PW (X : Cx) (e : Expr) (t : TT) : Prop :=
  ∀ (whole : Sem Value) (pins : List (Addr × Obj)) (s : Shared) (σ : St) (H : Hp) (Q : Bool → Hp → Prop), Inv X pins σ H s → t σ H Q → wpAny (model X.prog X.w) X.A (isTrue e X.env whole) (TP X pins σ Q) X.xe s
theorem PW.pt {X : Cx} {e : Expr} {t : TT} (h : PW X e t) : PT X e t := h _
def PA (X : Cx) (es : List Expr) (t : TA) : Prop :=
  ∀ (pos : Pos) (pins : List (Addr × Obj)) (s : Shared) (σ : St) (H : Hp) (Q : List V → Hp → Prop), Inv X pins σ H s → t σ H Q → wpAny (model X.prog X.w) X.A (spliced (backTo pos (starEach es X.env))) (AP X pins σ Q) X.xe s
def PS (X : Cx) (st : Stmt) (t : TS) : Prop :=
  ∀ (pins : List (Addr × Obj)) (s : Shared) (σ : St) (H : Hp) (D : Ends), Inv X pins σ H s → t D σ H → wpAny (model X.prog X.w) X.A (exec st X.env) (SP X pins D) X.xe s
def PSs (X : Cx) (st : List Stmt) (t : TS) : Prop :=
  ∀ (pins : List (Addr × Obj)) (s : Shared) (σ : St) (H : Hp) (D : Ends), Inv X pins σ H s → t D σ H → wpAny (model X.prog X.w) X.A (execs st X.env) (SP X pins D) X.xe s
theorem thn {α : Type} {t : Sem α} {Q Q' : α → Shared → Prop} {M : Model} {A : Around} {E : Value → Shared → Prop} {s : Shared} (h : wpAny M A t Q E s) (hQ : ∀ a s, Q a s → Q' a s) : wpAny M A t Q' E s := wpAny_mono h hQ fun _ _ x => x
end L2
namespace L2
open PySem PySem.Spec PyProof.Rows
section
variable {X : Cx}
def tVar (i : Nat) : TE := fun σ H Q => ∃ v, σ[i]? = some (some v) ∧ Q v H
def tC (v : V) : TE := fun _ H Q => Q v H
theorem pe_var {i : Nat} {x : Str} {pos : Pos} (hN : X.N[i]? = some x) (hv : Vis X.env.scope x) (hd : (x == ("__debug__" : Str)) = false := by decide) (hcd : (x == ("__classdict__" : Str)) = false := by decide) : PE X (.Name x pos) (tVar i) := by
  intro pins s σ H Q I h
  obtain ⟨v, e, h⟩ := h
  obtain ⟨m, hn, hl⟩ := I.loc
  obtain ⟨u, r, l⟩ := hl i x v hN e hv
  have fin : EP X pins σ Q u s := ⟨v, H, I, r, h⟩
  rcases l with ⟨hk, hm⟩ | ⟨hk, c, hc, hcell⟩
  · exact wpAny_Name (wpAny_loadName_local I.ok.kind hk hn hm fin) hd
  · rcases hk with hk | hk
    · exact wpAny_Name (wpAny_loadName_cell I.ok.kind hk hc hcell fin) hd
    · exact wpAny_Name (wpAny_loadName_free I.ok.kind hk hc hcell fin hcd) hd
theorem pe_int {i j pos} : PE X (.Constant (.int i) j pos) (tC (.int i)) := fun _ _ _ H _ I h => wpAny_Constant_int ⟨.int i, H, I.tok _, ⟨_, rfl⟩, h⟩
theorem pe_bl {b j pos} : PE X (.Constant (.bool b) j pos) (tC (.bl b)) := fun _ _ _ H _ I h => Constant_bool ⟨.bl b, H, I, rfl, h⟩
theorem pe_non {j pos} : PE X (.Constant .none j pos) (tC .non) := fun _ _ _ H _ I h => Constant_none ⟨.non, H, I, rfl, h⟩
theorem pe_str {x j pos} : PE X (.Constant (.str x) j pos) (tC (.str x)) := fun _ _ _ H _ I h => Calls.Constant_str ⟨.str x, H, I.tok _, ⟨_, rfl⟩, h⟩
def Gl (X : Cx) (x : Str) : Prop := X.env.kindOf x = some .globalImplicit
theorem ld_glob {E : Value → Shared → Prop} {pins : List (Addr × Obj)} {s : Shared} {σ : St} {H : Hp} {x : Str} {u : Value} {pos : Pos} {Q : Value → Shared → Prop} (I : Inv X pins σ H s) (hg : Gl X x) (hm : X.mg x = some u) (h : Q u s)
    (hd : (x == ("__debug__" : Str)) = false := by decide) : wpAny (model X.prog X.w) X.A (eval (.Name x pos) X.env) Q E s :=
  Calls.Name_function_global I.ok.kind hg (Calls.loadGlobal_global (by rw [I.ok.glob]; exact I.mod.glob.keeps I.bk) hm h) hd
theorem ld_blt {E : Value → Shared → Prop} {pins : List (Addr × Obj)} {s : Shared} {σ : St} {H : Hp} {x : Str} {u : Value} {pos : Pos} {Q : Value → Shared → Prop} (I : Inv X pins σ H s) (hg : Gl X x) (hm : X.mg x = none) (hv : bootBuiltins x = some u) (h : Q u s)
    (hn : x ≠ "__name__" := by decide) (hd : (x == ("__debug__" : Str)) = false := by decide) : wpAny (model X.prog X.w) X.A (eval (.Name x pos) X.env) Q E s := by
  obtain ⟨mb, h1, h2⟩ := I.mod.blt
  exact Calls.Name_function_global I.ok.kind hg (Calls.loadGlobal_builtin (by rw [I.ok.glob]; exact I.mod.glob.keeps I.bk) hm (by rw [I.ok.blt]; exact h1.keeps I.bk) ((h2 x hn).trans hv) h) hd
theorem pe_glob {x : Str} {v : V} {u : Value} {pos : Pos} (hg : Gl X x) (hm : X.mg x = some u) (r : RelV v u) (hd : (x == ("__debug__" : Str)) = false := by decide) : PE X (.Name x pos) (tC v) :=
  fun _ _ _ H _ I h => ld_glob I hg hm ⟨v, H, I, r, h⟩ hd
theorem pe_bltn {x : Str} {v : V} {u : Value} {pos : Pos} (hg : Gl X x) (hm : X.mg x = none) (hv : bootBuiltins x = some u) (r : RelV v u) (hn : x ≠ "__name__" := by decide) (hd : (x == ("__debug__" : Str)) = false := by decide) : PE X (.Name x pos) (tC v) :=
  fun _ _ _ H _ I h => ld_blt I hg hm hv ⟨v, H, I, r, h⟩ hn hd
variable {a b : Expr} {ta tb : TE} {pos : Pos}
variable {tA tB' : TT} {rest : List Expr}
def tAnd (t u : TT) : TT := fun σ H Q => t σ H fun c H1 => if c = true then u σ H1 Q else Q false H1
def tOr (t u : TT) : TT := fun σ H Q => t σ H fun c H1 => if c = true then Q true H1 else u σ H1 Q
def tNot (t : TT) : TT := fun σ H Q => t σ H fun c H1 => Q (!c) H1
theorem pw_and1 (ha : PT X a tA) : PW X (.BoolOp .And [a] pos) tA := by
  intro wh pins s σ H Q I h
  refine isTrue_and (thn (ha pins s σ H Q I h) fun c s1 e => ?_)
  cases c with
  | true => exact isTrue_and_nil e
  | false => exact e
theorem pw_or1 (ha : PT X a tA) : PW X (.BoolOp .Or [a] pos) tA := by
  intro wh pins s σ H Q I h
  refine isTrue_or (thn (ha pins s σ H Q I h) fun c s1 e => ?_)
  cases c with
  | false => exact isTrue_or_nil e
  | true => exact e
theorem pw_and (ha : PT X a tA) (hb : PW X (.BoolOp .And (b :: rest) pos) tB') : PW X (.BoolOp .And (a :: b :: rest) pos) (tAnd tA tB') := by
  intro wh pins s σ H Q I h
  refine isTrue_and (thn (ha pins s σ H _ I h) fun c s1 ⟨H1, I1, q1⟩ => ?_)
  cases c with
  | true => exact hb wh pins s1 σ H1 Q I1 q1
  | false => exact ⟨H1, I1, q1⟩
theorem pw_or (ha : PT X a tA) (hb : PW X (.BoolOp .Or (b :: rest) pos) tB') : PW X (.BoolOp .Or (a :: b :: rest) pos) (tOr tA tB') := by
  intro wh pins s σ H Q I h
  refine isTrue_or (thn (ha pins s σ H _ I h) fun c s1 ⟨H1, I1, q1⟩ => ?_)
  cases c with
  | true => exact ⟨H1, I1, q1⟩
  | false => exact hb wh pins s1 σ H1 Q I1 q1
theorem pt_not (ha : PT X a tA) : PT X (.UnaryOp .Not a pos) (tNot tA) := by
  intro pins s σ H Q I h
  exact isTrue_not (ha pins s σ H (fun c H1 => Q (!c) H1) I h)
def tAndV (ta tb : TE) : TE := fun σ H Q => ta σ H fun x H1 => ∃ c, x = .bl c ∧ if c = true then tb σ H1 Q else Q (.bl false) H1
def tOrV (ta tb : TE) : TE := fun σ H Q => ta σ H fun x H1 => ∃ c, x = .bl c ∧ if c = true then Q (.bl true) H1 else tb σ H1 Q
def tNotV (ta : TE) : TE := fun σ H Q => ta σ H fun x H1 => ∃ c, x = .bl c ∧ Q (.bl (!c)) H1
theorem pe_one {op} {t : TE} (h : PE X a t) : PE X (.BoolOp op [a] pos) t := fun pins s σ H Q I hw => BoolOp_one (h pins s σ H Q I hw)
theorem pe_and (ha : PE X a ta) (hb : PE X (.BoolOp .And (b :: rest) pos) tb) : PE X (.BoolOp .And (a :: b :: rest) pos) (tAndV ta tb) := by
  intro pins s σ H Q I h
  refine BoolOp_and (thn (ha pins s σ H _ I h) fun v s1 ⟨x, H1, I1, r1, q1⟩ => ?_)
  obtain ⟨c, rfl, q1⟩ := q1
  cases r1
  refine wpAny_truthy_bool ?_
  cases c with
  | true => exact hb pins s1 σ H1 Q I1 q1
  | false => exact ⟨.bl false, H1, I1, rfl, q1⟩
theorem pe_or (ha : PE X a ta) (hb : PE X (.BoolOp .Or (b :: rest) pos) tb) : PE X (.BoolOp .Or (a :: b :: rest) pos) (tOrV ta tb) := by
  intro pins s σ H Q I h
  refine BoolOp_or (thn (ha pins s σ H _ I h) fun v s1 ⟨x, H1, I1, r1, q1⟩ => ?_)
  obtain ⟨c, rfl, q1⟩ := q1
  cases r1
  refine wpAny_truthy_bool ?_
  cases c with
  | false => exact hb pins s1 σ H1 Q I1 q1
  | true => exact ⟨.bl true, H1, I1, rfl, q1⟩
theorem pe_not (ha : PE X a ta) : PE X (.UnaryOp .Not a pos) (tNotV ta) := by
  intro pins s σ H Q I h
  refine UnaryOp_ (thn (ha pins s σ H _ I h) fun v s1 ⟨x, H1, I1, r1, q1⟩ => ?_)
  obtain ⟨c, rfl, q1⟩ := q1
  cases r1
  exact not_of (wpAny_truthy_bool ⟨.bl (!c), H1, I1, rfl, q1⟩)
end
end L2
namespace L2
open PySem PySem.Spec PyProof.Rows
def SqL (K : PySem.W.Frag) (H : Hp) (a : Addr) (xs : List V) : Prop :=
  Rd H a (.lst xs) ∨
    ∃ (o : Obj) (its : Array Value) (n : Nat), K.lookup a = some o ∧ o.cls = .type "list" ∧ o.dict = none ∧ o.data = .seq its n ∧ its.size ≤ sizeLine ∧ Vals xs its.toList
def SqT (K : PySem.W.Frag) (H : Hp) (a : Addr) (xs : List V) : Prop :=
  Rd H a (.tup xs) ∨
    ∃ (o : Obj) (its : Array Value) (n : Nat), K.lookup a = some o ∧ o.cls = .type "tuple" ∧ o.data = .seq its n ∧ its.size ≤ sizeLine ∧ Vals xs its.toList
def absV : Value → Option V
  | .none => some .non
  | .bool b => some (.bl b)
  | .int i _ => some (.int i)
  | .str x _ => some (.str x)
  | .bytes b _ => some (.byt b)
  | .float b _ => some (.flt b)
  | .ref a => some (.ref a)
  | .type n => some (.ty n)
  | _ => none
theorem RelV.abs {x : V} {u : Value} (r : RelV x u) : absV u = some x := by
  cases x with
  | non => cases r; rfl
  | bl _ => cases r; rfl
  | int _ => obtain ⟨t, rfl⟩ := r; rfl
  | str _ => obtain ⟨t, rfl⟩ := r; rfl
  | byt _ => obtain ⟨t, rfl⟩ := r; rfl
  | flt _ => obtain ⟨t, rfl⟩ := r; rfl
  | ref _ => cases r; rfl
  | ty _ => cases r; rfl
theorem RelV.inj {x y : V} {u : Value} (r : RelV x u) (q : RelV y u) : x = y := Option.some.inj (r.abs.symm.trans q.abs)
theorem Vals.inj : ∀ {xs ys : List V} {us : List Value}, Vals xs us → Vals ys us → xs = ys
  | _, _, _, .nil, .nil => rfl
  | _, _, _, .cons r t, .cons r' t' => by rw [r.inj r', Vals.inj t t']
section
variable {X : Cx} {pins : List (Addr × Obj)} {σ : St} {H : Hp} {s : Shared} {a : Addr} {xs ys : List V}
theorem SqL.of {K : PySem.W.Frag} (h : H a = some (.lst xs)) : SqL K H a xs := .inl (.inl h)
theorem SqT.of {K : PySem.W.Frag} (h : H a = some (.tup xs)) : SqT K H a xs := .inl (.inl h)
theorem Inv.list (I : Inv X pins σ H s) (h : SqL X.K H a xs) : ∃ its : List Value, Vals xs its ∧ PlainL s.heap a its.toArray ∧ xs.length ≤ sizeLine := by
  rcases h with h | ⟨o, its, n, hk, hc, hd, hs, hz, r⟩
  · obtain ⟨z, its, n, r, e⟩ := h.ok I.hok
    exact ⟨its, r, ⟨_, n, e, rfl, rfl, rfl⟩, z⟩
  · refine ⟨its.toList, r, ⟨o, n, I.kIn a o hk, hc, hd, by simpa using hs⟩, ?_⟩
    have e := r.length
    simp only [Array.length_toList] at e
    omega
theorem Inv.tuple (I : Inv X pins σ H s) (h : SqT X.K H a xs) : ∃ its : List Value, Vals xs its ∧ IsTup s.heap a its.toArray ∧ xs.length ≤ sizeLine := by
  rcases h with h | ⟨o, its, n, hk, hc, hs, hz, r⟩
  · obtain ⟨z, its, r, p⟩ := h.ok I.hok
    exact ⟨its, r, p, z⟩
  · refine ⟨its.toList, r, ⟨o, I.kIn a o hk, hc, n, by simpa using hs⟩, ?_⟩
    have e := r.length
    simp only [Array.length_toList] at e
    omega
theorem Inv.list_inj (I : Inv X pins σ H s) (h : SqL X.K H a xs) (h' : SqL X.K H a ys) : xs = ys := by
  obtain ⟨its, r, ⟨o, n, e, _, _, d⟩, _⟩ := I.list h
  obtain ⟨its', r', ⟨o', n', e', _, _, d'⟩, _⟩ := I.list h'
  rw [e] at e'; cases e'
  rw [d] at d'
  injection d' with d1 _
  have : its = its' := by simpa using congrArg Array.toList d1
  subst this
  exact r.inj r'
end
abbrev Cx.wish (X : Cx) (E : Value → Shared → Prop) : Cx := { X with xe := E }
abbrev Cx.nox (X : Cx) : Cx := X.wish fun _ _ => False
theorem Cx.Ok.wish {X : Cx} (ok : X.Ok) (E : Value → Shared → Prop) : (X.wish E).Ok :=
  ⟨ok.mod, ok.kind, ok.glob, ok.blt, ok.above, ok.inj, ok.has, ok.cab, ok.hd, ok.frames, ok.stk, ok.exf, ok.bs, ok.bsz, ok.noex, ok.exfs, ok.funs, ok.frf⟩
theorem Cx.Ok.unwish {X : Cx} {E : Value → Shared → Prop} (ok : (X.wish E).Ok) : X.Ok :=
  ⟨ok.mod, ok.kind, ok.glob, ok.blt, ok.above, ok.inj, ok.has, ok.cab, ok.hd, ok.frames, ok.stk, ok.exf, ok.bs, ok.bsz, ok.noex, ok.exfs, ok.funs, ok.frf⟩
section
variable {X : Cx} {pins : List (Addr × Obj)} {σ : St} {H : Hp} {s : Shared} {E : Value → Shared → Prop}
theorem Inv.wish (I : Inv X pins σ H s) (E : Value → Shared → Prop) : Inv (X.wish E) pins σ H s := ⟨I.ok.wish E, I.os, I.bare, I.base, I.loc, I.cell, I.free, I.freeC, I.pin, I.hok, I.len⟩
theorem Inv.unwish (I : Inv (X.wish E) pins σ H s) : Inv X pins σ H s := ⟨I.ok.unwish, I.os, I.bare, I.base, I.loc, I.cell, I.free, I.freeC, I.pin, I.hok, I.len⟩
theorem SP.unwish {D : Ends} {f : Flow} {s' : Shared} (h : SP (X.wish E) pins D f s') : SP X pins D f s' := by
  cases f with
  | next => obtain ⟨σ', H', I, q⟩ := h; exact ⟨σ', H', I.unwish, q⟩
  | brk => obtain ⟨σ', H', I, q⟩ := h; exact ⟨σ', H', I.unwish, q⟩
  | cont => obtain ⟨σ', H', I, q⟩ := h; exact ⟨σ', H', I.unwish, q⟩
  | ret u => obtain ⟨v, σ', H', I, r, q⟩ := h; exact ⟨v, σ', H', I.unwish, r, q⟩
theorem PE.nox {e : Expr} {t : TE} (h : PE X.nox e t) : PE X e t := fun pins s σ H Q I hw =>
  wpAny_mono (h pins s σ H Q (I.wish _) hw) (fun _ _ ⟨v, H', I', r, q⟩ => ⟨v, H', I'.unwish, r, q⟩) fun _ _ z => False.elim z
theorem PT.nox {e : Expr} {t : TT} (h : PT X.nox e t) : PT X e t := fun pins s σ H Q I hw =>
  wpAny_mono (h pins s σ H Q (I.wish _) hw) (fun _ _ ⟨H', I', q⟩ => ⟨H', I'.unwish, q⟩) fun _ _ z => False.elim z
theorem PSs.nox {st : List Stmt} {t : TS} (h : PSs X.nox st t) : PSs X st t := fun pins s σ H D I hw =>
  wpAny_mono (h pins s σ H D (I.wish _) hw) (fun _ _ q => q.unwish) fun _ _ z => False.elim z
end
section
variable {X : Cx} {st : Stmt} {rest : List Stmt} {t u : TS} {e : Expr} {te : TE} {pos : Pos}
def tNext : TS := fun D σ H => D.nx σ H
def tSeq (t u : TS) : TS := fun D σ H => t { D with nx := u D } σ H
theorem pss_nil : PSs X [] tNext := fun _ _ σ H _ I h => wpAny_execs_nil ⟨σ, H, I, h⟩
theorem pss_cons (h1 : PS X st t) (h2 : PSs X rest u) : PSs X (st :: rest) (tSeq t u) := by
  intro pins s σ H D I h
  refine wpAny_execs_cons (thn (h1 pins s σ H { D with nx := u D } I h) fun f s1 q => ?_)
  cases f with
  | next =>
    obtain ⟨σ', H', I', q⟩ := q
    exact h2 pins s1 σ' H' D I' q
  | ret v => exact q
  | brk => exact q
  | cont => exact q
theorem pss_one (h1 : PS X st t) : PSs X [st] t := by
  intro pins s σ H D I h
  refine wpAny_execs_cons (thn (h1 pins s σ H D I h) fun f s1 q => ?_)
  cases f with
  | next => exact wpAny_execs_nil q
  | ret v => exact q
  | brk => exact q
  | cont => exact q
theorem Inv.quiet {pins : List (Addr × Obj)} {σ : St} {H : Hp} {s : Shared} (I : Inv X pins σ H s) : interactive X.env = false := by simp [interactive, I.ok.kind]
def tDrop (te : TE) : TS := fun D σ H => te σ H fun _ H1 => D.nx σ H1
theorem ps_expr (he : PE X e te) (hs : swapsWith e none pos.line X.env = pure false := by rfl) : PS X (.Expr e pos) (tDrop te) := by
  intro pins s σ H D I h
  exact wpAny_Expr_any (thn (he pins s σ H _ I h) fun v s1 ⟨x, H1, I1, r1, q1⟩ => ⟨σ, H1, I1, q1⟩) I.quiet hs
def tRet (te : TE) : TS := fun D σ H => te σ H D.rt
theorem ps_ret (he : PE X e te) : PS X (.Return (some e) pos) (tRet te) := by
  intro pins s σ H D I h
  exact wpAny_Return_some (thn (he pins s σ H _ I h) fun v s1 ⟨x, H1, I1, r1, q1⟩ => ⟨x, σ, H1, I1, r1, q1⟩)
def tIfS (c : TT) (t u : TS) : TS := fun D σ H => c σ H fun b H1 => if b = true then t D σ H1 else u D σ H1
theorem ps_if {c : Expr} {a b : List Stmt} {tc : TT} (hc : PT X c tc) (ha : PSs X a t) (hb : PSs X b u) : PS X (.If c a b pos) (tIfS tc t u) := by
  intro pins s σ H D I h
  refine wpAny_If (thn (hc pins s σ H _ I h) fun d s1 ⟨H1, I1, q1⟩ => ?_)
  cases d with
  | true => exact ha pins s1 σ H1 D I1 q1
  | false => exact hb pins s1 σ H1 D I1 q1
def tNever : TS := fun _ _ _ => False
theorem ps_never : PS X st tNever := fun _ _ _ _ _ _ h => h.elim
end
abbrev TG := V → St → Hp → (St → Hp → Prop) → Prop
abbrev TGs := List V → St → Hp → (St → Hp → Prop) → Prop
def PG (X : Cx) (target : Expr) (t : TG) : Prop :=
  ∀ (pins : List (Addr × Obj)) (s : Shared) (σ : St) (H : Hp) (v : V) (u : Value) (Q : St → Hp → Prop), Inv X pins σ H s → RelV v u → t v σ H Q →
    wpAny (model X.prog X.w) X.A (assign target X.env u) (fun _ s' => ∃ σ' H', Inv X pins σ' H' s' ∧ Q σ' H') X.xe s
def PGs (X : Cx) (ts : List Expr) (t : TGs) : Prop :=
  ∀ (pins : List (Addr × Obj)) (s : Shared) (σ : St) (H : Hp) (vs : List V) (us : List Value) (Q : St → Hp → Prop), Inv X pins σ H s → Vals vs us → t vs σ H Q →
    wpAny (model X.prog X.w) X.A (assignInOrder ((assignEach ts X.env).map (·.2)) us) (fun _ s' => ∃ σ' H', Inv X pins σ' H' s' ∧ Q σ' H') X.xe s
abbrev TSet := V → V → V → Hp → (Hp → Prop) → Prop
def PSet (X : Cx) (t : TSet) : Prop :=
  ∀ (pins : List (Addr × Obj)) (s : Shared) (σ : St) (H : Hp) (o i v : V) (ov iv u : Value) (Q : Hp → Prop), Inv X pins σ H s → RelV o ov → RelV i iv → RelV v u → t o i v H Q →
    wpAny (model X.prog X.w) X.A (setItem ov iv u) (fun _ s' => ∃ H', Inv X pins σ H' s' ∧ Q H') X.xe s
abbrev TIp := V → V → Hp → VK → Prop
def PIp (X : Cx) (op : Operator) (t : TIp) : Prop :=
  ∀ (pins : List (Addr × Obj)) (s : Shared) (σ : St) (H : Hp) (x y : V) (v u : Value) (Q : VK), Inv X pins σ H s → RelV x v → RelV y u → t x y H Q →
    wpAny (model X.prog X.w) X.A (inplaceOp op v u) (EP X pins σ Q) X.xe s
section
variable {X : Cx} {pos : Pos}
def gName (i : Nat) : TG := fun v σ H Q => Q (σ.set i (some v)) H
theorem pg_name {i : Nat} {x : Str} (hN : X.N.Nodup) (hi : X.N[i]? = some x) (hx : Loc X.env.scope x) (hf : X.fn x = true ∨ X.env.scope.names.lookup x = some .local := by first | exact .inl rfl | exact .inr rfl | assumption) : PG X (.Name x pos) (gName i) := by
  intro pins s σ H v u Q I r h
  exact wpAny_assign_Name (store_ok I hN hi hx r (fun s' I' => ⟨_, H, I', h⟩) hf)
def gNil : TGs := fun vs σ H Q => vs = [] ∧ Q σ H
def gCons (t : TG) (u : TGs) : TGs := fun vs σ H Q => ∃ v r, vs = v :: r ∧ t v σ H fun σ' H' => u r σ' H' Q
theorem pgs_nil : PGs X [] gNil := by
  intro pins s σ H vs us Q I r h
  obtain ⟨e, h⟩ := h
  subst e
  cases r
  exact assignInOrder_nil ⟨σ, H, I, h⟩
theorem pgs_cons {e : Expr} {es : List Expr} {t : TG} {u : TGs} (h1 : PG X e t) (h2 : PGs X es u)
    (hs : (assignEach (e :: es) X.env).map (·.2) = assign e X.env :: (assignEach es X.env).map (·.2) := by rfl) : PGs X (e :: es) (gCons t u) := by
  intro pins s σ H vs us Q I r h
  obtain ⟨v, vr, e1, h⟩ := h
  subst e1
  cases r with
  | cons r rr =>
    rw [hs]
    refine assignInOrder_cons (thn (h1 pins s σ H _ _ _ I r h) fun _ s1 ⟨σ1, H1, I1, q1⟩ => ?_)
    exact h2 pins s1 σ1 H1 _ _ Q I1 rr q1
def gTup (K : PySem.W.Frag) (n : Nat) (t : TGs) : TG := fun v σ H Q => ∃ a xs, v = .ref a ∧ SqT K H a xs ∧ xs.length = n ∧ t xs σ H Q
theorem pg_tup {es : List Expr} {k : Nat} {t : TGs} {n : Nat} (hc : X.calm = true) (h : PGs X es t)
    (hn : (assignEach es X.env).length = n := by rfl) (hst : (assignEach es X.env).findIdx? (·.1) = none := by rfl) : PG X (.Tuple es k pos) (gTup X.K n t) := by
  intro pins s σ H v u Q I r hw
  obtain ⟨a, xs, e1, hq, hl, hw⟩ := hw
  subst e1
  cases r
  obtain ⟨its, rv, ht, hz⟩ := I.tuple hq
  refine assign_Tuple_tuple (I.ok.hd hc) ht (by simp [hn, ← hl, rv.length]) hst fun h' hx => ?_
  have I1 : Inv X pins σ H { s with heap := h' } := I.kept (t' := s.toks) fun b o e => hx b o (Nat.ne_of_lt (Heap.lt_size e)) e
  exact h pins _ σ H xs _ Q I1 (by simpa using rv) hw
def gSub (to ti : TE) (t : TSet) : TG := fun v σ H Q => to σ H fun o H1 => ti σ H1 fun i H2 => t o i v H2 fun H3 => Q σ H3
theorem pg_sub {o i : Expr} {to ti : TE} {t : TSet} (ho : PE X o to) (hi : PE X i ti) (hs : PSet X t)
    (ha : ∀ v, assign (.Subscript o i pos) X.env v = (do
      let ov ← holding [v] (eval o X.env)
      let iv ← holding [v, ov] (eval i X.env)
      standAt pos
      holding [v, ov, iv] (setItem ov iv v)
      release [v, ov, iv] []) := by intro _; rfl) : PG X (.Subscript o i pos) (gSub to ti t) := by
  intro pins s σ H v u Q I r h
  rw [ha]
  refine wpAny_bind (wpAny_holding (thn (ho pins s σ H _ I h) fun ov s1 ⟨x, H1, I1, r1, q1⟩ => ?_))
  refine wpAny_bind (wpAny_holding (thn (hi pins s1 σ H1 _ I1 q1) fun iv s2 ⟨y, H2, I2, r2, q2⟩ => ?_))
  refine wpAny_bind (wpAny_standAt (wpAny_bind (wpAny_holding (thn (hs pins s2 σ H2 x y v ov iv u _ I2 r1 r2 r q2) fun _ s3 ⟨H3, I3, q3⟩ => ?_))))
  exact wpAny_release ⟨σ, H3, I3, q3⟩
def tAsg (te : TE) (g : TG) : TS := fun D σ H => te σ H fun x H1 => g x σ H1 D.nx
theorem ps_asg {tg e : Expr} {te : TE} {g : TG} (he : PE X e te) (hg : PG X tg g) (hs : swapsWithSole [tg] e pos.line X.env = pure false := by rfl) (hw : swappedStores [tg] e X.env = pure none := by rfl)
    (h1 : (assignEach [tg] X.env).map (·.2) = [assign tg X.env] := by rfl) : PS X (.Assign [tg] e pos) (tAsg te g) := by
  intro pins s σ H D I h
  refine wpAny_Assign_stores (thn (he pins s σ H _ I h) fun v s1 ⟨x, H1, I1, r1, q1⟩ => ?_) hs hw
  rw [h1]
  exact thn (hg pins s1 σ H1 x v _ I1 r1 q1) fun _ s2 q => q
theorem ps_set {i : Nat} {x : Str} {e : Expr} {te : TE} {pos' : Pos} (hN : X.N.Nodup) (hi : X.N[i]? = some x) (hx : Loc X.env.scope x) (he : PE X e te) (hs : swapsWith e (some (.Name x pos')) pos.line X.env = pure false := by rfl) (hf : X.fn x = true ∨ X.env.scope.names.lookup x = some .local := by first | exact .inl rfl | exact .inr rfl | assumption) :
    PS X (.Assign [.Name x pos'] e pos) (tAsg te (gName i)) := by
  intro pins s σ H D I h
  refine wpAny_Assign_Name (thn (he pins s σ H _ I h) fun v s1 ⟨y, H1, I1, r1, q1⟩ => ?_) hs
  exact store_ok I1 hN hi hx r1 (fun s2 I2 => ⟨_, H1, I2, q1⟩) hf
def tAugS (to ti te : TE) (tget : V → V → Hp → VK → Prop) (tip : TIp) (tset : TSet) : TS := fun D σ H => to σ H fun o H1 => ti σ H1 fun i H2 => tget o i H2 fun x H3 => te σ H3 fun y H4 => tip x y H4 fun z H5 => tset o i z H5 fun H6 => D.nx σ H6
def PGet (X : Cx) (t : V → V → Hp → VK → Prop) : Prop :=
  ∀ (pins : List (Addr × Obj)) (s : Shared) (σ : St) (H : Hp) (o i : V) (ov iv : Value) (Q : VK), Inv X pins σ H s → RelV o ov → RelV i iv → t o i H Q →
    wpAny (model X.prog X.w) X.A (getItem ov iv) (EP X pins σ Q) X.xe s
theorem ps_augS {o i e : Expr} {to ti te : TE} {tget : V → V → Hp → VK → Prop} {tip : TIp} {tset : TSet} {op : Operator} {tpos : Pos} (ho : PE X o to) (hi : PE X i ti) (hg : PGet X tget) (he : PE X e te) (hp : PIp X op tip) (hs : PSet X tset)
    (ha : ∀ ov iv new, augStore i ov iv new = (do holding [new, ov, iv] (setItem ov iv new); release [new, ov, iv] []; pure .next) := by intros; rfl) : PS X (.AugAssign (.Subscript o i tpos) op e pos) (tAugS to ti te tget tip tset) := by
  intro pins s σ H D I h
  refine wpAny_AugAssign_SubscriptAny (thn (ho pins s σ H _ I h) fun ov s1 ⟨x1, H1, I1, r1, q1⟩ => ?_) ha
  refine thn (hi pins s1 σ H1 _ I1 q1) fun iv s2 ⟨x2, H2, I2, r2, q2⟩ => ?_
  refine thn (hg pins s2 σ H2 x1 x2 ov iv _ I2 r1 r2 q2) fun old s3 ⟨x3, H3, I3, r3, q3⟩ => ?_
  refine thn (he pins s3 σ H3 _ I3 q3) fun v s4 ⟨x4, H4, I4, r4, q4⟩ => ?_
  refine thn (hp pins s4 σ H4 x3 x4 old v _ I4 r3 r4 q4) fun new s5 ⟨x5, H5, I5, r5, q5⟩ => ?_
  exact thn (hs pins s5 σ H5 x1 x2 x5 ov iv new _ I5 r1 r2 r5 q5) fun _ s6 ⟨H6, I6, q6⟩ => ⟨σ, H6, I6, q6⟩
def ipI (f : Int → Int → Int) : TIp := fun x y H Q => ∃ i j, x = .int i ∧ y = .int j ∧ Q (.int (f i j)) H
theorem ip_add : PIp X .Add (ipI fun i j => i + j) := by
  intro pins s σ H x y v u Q I r1 r2 h
  obtain ⟨i, j, e1, e2, q⟩ := h
  subst e1; subst e2
  obtain ⟨t, rfl⟩ := r1
  obtain ⟨t', rfl⟩ := r2
  exact iadd_int ⟨.int _, H, I.tok _, ⟨_, rfl⟩, q⟩
end
section
variable {X : Cx} {pos : Pos}
def tWhile (c : TT) (tb : TS) : TS := fun D σ H => ∃ W : Nat → St → Hp → Prop, (∃ m, W m σ H) ∧ ∀ m σ H, W m σ H →
  c σ H fun b H1 => if b = true then ∃ N : St → Hp → Prop, (∀ σ' H', N σ' H' → ∃ m', m' < m ∧ W m' σ' H') ∧ tb { D with nx := N, ct := N, bk := D.nx } σ H1 else D.nx σ H1
theorem ps_while {c : Expr} {body : List Stmt} {tc : TT} {tb : TS} (hp : PassesOwn (model X.prog X.w) X.A X.env X.xe) (hc : PT X c tc) (hb : PSs X body tb) : PS X (.While c body [] pos) (tWhile tc tb) := by
  intro pins s σ H D I h
  obtain ⟨W, ⟨m0, w0⟩, turn⟩ := h
  refine wpAny_While (codeAny_whileLoop (fun n s' => ∃ σ' H', Inv X pins σ' H' s' ∧ W n σ' H') ?_ m0 ⟨σ, H, I, w0⟩)
  rintro n s1 ⟨σ1, H1, I1, w1⟩
  refine wpAny_passesOwn hp (thn (hc pins s1 σ1 H1 _ I1 (turn n σ1 H1 w1)) fun b s2 ⟨H2, I2, q2⟩ => ?_)
  cases b with
  | true =>
    obtain ⟨N, hN, q2⟩ := q2
    rw [if_pos rfl]
    refine wpAny_passesOwn hp (thn (hb pins s2 σ1 H2 _ I2 q2) fun f s3 q3 => ?_)
    cases f with
    | next =>
      obtain ⟨σ3, H3, I3, n3⟩ := q3
      obtain ⟨m', hm, w3⟩ := hN σ3 H3 n3
      exact ⟨m', hm, σ3, H3, I3, w3⟩
    | cont =>
      obtain ⟨σ3, H3, I3, n3⟩ := q3
      obtain ⟨m', hm, w3⟩ := hN σ3 H3 n3
      exact ⟨m', hm, σ3, H3, I3, w3⟩
    | brk => exact q3
    | ret v => exact q3
  | false =>
    rw [if_neg Bool.false_ne_true]
    exact wpAny_execs_nil ⟨σ1, H2, I2, q2⟩
end
structure It where
  go : Nat → Hp → Prop
  yld : Nat → Hp → V → Hp → Prop
  stop : Nat → Hp → Prop
def FpOk (X : Cx) (pins : List (Addr × Obj)) (H : Hp) (b : Addr) : Prop :=
  H b = none ∧ b ≠ X.env.locals ∧ b ∉ X.fs ∧ (b ∈ X.ex ∨ X.s₀.heap.objs.size ≤ b) ∧ (∀ x c, X.env.cells.lookup x = some c → c ≠ b) ∧ ∀ p ∈ X.pn ++ pins, p.1 ≠ b
theorem Inv.fpOk {X : Cx} {pins : List (Addr × Obj)} {σ : St} {H H' : Hp} {s : Shared} {b : Addr} (I : Inv X pins σ H s) (hb : s.heap.objs.size ≤ b) (hn : H' b = none) : FpOk X pins H' b := by
  refine ⟨hn, Nat.ne_of_gt (Nat.lt_of_lt_of_le I.lt hb), I.nofs hb, .inr (Nat.le_trans I.sz hb), fun x c e z => ?_, fun p hp z => ?_⟩
  · obtain ⟨v, q⟩ := I.cell x c e
    exact absurd (Nat.lt_of_lt_of_le q.lt (by rw [z]; exact hb)) (Nat.lt_irrefl _)
  · exact absurd (Nat.lt_of_lt_of_le (Heap.lt_size (I.pin p hp).1) (by rw [z]; exact hb)) (Nat.lt_irrefl _)
structure Turn (P : Program) (w : World) (K : PySem.W.Frag) (tg : Expr) (J : It) (fp : List Addr) (it : Addr) (tn : Nat → Heap → Prop) : Prop where
  mem : it ∈ fp
  obj : ∀ i h, tn i h → ∀ b ∈ fp, ∃ o, h.get? b = some o ∧ ∀ v, o.data ≠ .cell v
  keep : ∀ i h h', tn i h → (∀ b ∈ fp, ∀ o, h.get? b = some o → h'.get? b = some o) → tn i h'
  item : ∀ (X : Cx), X.prog = P → X.w = w → X.K = K → X.calm = true → ∀ (i : Nat) (pins : List (Addr × Obj)) (s : Shared) (σ : St) (H : Hp) (E : Value → Shared → Prop), Inv X pins σ H s → (∀ b ∈ fp, FpOk X pins H b) → tn i s.heap → J.go i H →
    wpAny (model P w) X.A (pyNext (.ref it)) (fun r s1 => ∃ u, r = some u ∧
      wpAny (model P w) X.A (letOwnedTupleGo tg (.ref it) u) (fun _ s2 => ∃ x H', Inv X pins σ H' s2 ∧ RelV x u ∧ J.yld i H x H' ∧ tn (i + 1) s2.heap ∧ ∀ b ∈ fp, H' b = none) E s1) E s
  done : ∀ (X : Cx), X.prog = P → X.w = w → X.K = K → X.calm = true → ∀ (i : Nat) (pins : List (Addr × Obj)) (s : Shared) (σ : St) (H : Hp) (E : Value → Shared → Prop), Inv X pins σ H s → (∀ b ∈ fp, FpOk X pins H b) → tn i s.heap → J.stop i H →
    wpAny (model P w) X.A (pyNext (.ref it)) (fun r s1 => r = none ∧ Inv X pins σ H s1) E s
  self : ∀ (A : Around) (i : Nat) (s : Shared) (Q : Value → Shared → Prop) (E : Value → Shared → Prop), tn i s.heap → Q (.ref it) s → wpAny (model P w) A (pyIter (.ref it)) Q E s
abbrev TI := St → Hp → (It → Hp → Prop) → Prop
def PIE (X : Cx) (pins : List (Addr × Obj)) (σ : St) (tg : Expr) (R : It → Hp → Prop) (itv : Value) (s2 : Shared) : Prop :=
  ∃ (it : Addr) (fp : List Addr) (tn : Nat → Heap → Prop) (J : It) (H' : Hp), itv = .ref it ∧ Inv X pins σ H' s2 ∧ Turn X.prog X.w X.K tg J fp it tn ∧ tn 0 s2.heap ∧ (∀ b ∈ fp, FpOk X pins H' b) ∧ R J H'
def PI (X : Cx) (tg iter : Expr) (wi : TI) : Prop :=
  ∀ (pins : List (Addr × Obj)) (s : Shared) (σ : St) (H : Hp) (R : It → Hp → Prop), Inv X pins σ H s → wi σ H R →
    wpAny (model X.prog X.w) X.A (eval iter X.env) (fun v s1 => wpAny (model X.prog X.w) X.A (pyIter v) (PIE X pins σ tg R) X.xe s1) X.xe s
theorem go_of {M : Model} {A : Around} {E : Value → Shared → Prop} {s : Shared} {tg : Expr} {it : Addr} {u : Value} {o : Obj} {n : String} {vs : Array Value} {Q : Unit → Shared → Prop} (ho : s.heap.get? it = some o) (hc : o.cls = .type n) (hd : o.data = .fields vs)
    (hn : ["enumerate", "zip", "dict_itemiterator", "dict_reverseitemiterator", "odict_iterator", "itertools.zip_longest", "itertools.pairwise"].contains n = false) (hQ : Q () s) : wpAny M A (letOwnedTupleGo tg (.ref it) u) Q E s := by
  unfold letOwnedTupleGo
  cases tg <;> first
    | exact wpAny_pure hQ
    | (cases u <;> first
        | exact wpAny_pure hQ
        | (refine wpAny_bind (wpAny_load ho ?_)
           rw [hc, hd]
           show wpAny M A (if (["enumerate", "zip", "dict_itemiterator", "dict_reverseitemiterator", "odict_iterator", "itertools.zip_longest", "itertools.pairwise"].contains n && vs[0]? == some (rawInt _)) = true then _ else _) Q E s
           rw [if_neg (by intro h; rw [hn, Bool.false_and] at h; cases h)]
           exact wpAny_pure hQ))
def Itl (K : PySem.W.Frag) (a : Addr) : It :=
  ⟨fun i H => ∃ xs x, SqL K H a xs ∧ xs[i]? = some x, fun i H x H' => H' = H ∧ ∀ xs, SqL K H a xs → xs[i]? = some x, fun i H => ∃ xs, SqL K H a xs ∧ xs.length ≤ i⟩
def Itr (lo : Int) (n : Nat) : It := ⟨fun i _ => i < n, fun i H x H' => H' = H ∧ x = .int (lo + i), fun i _ => n ≤ i⟩
theorem turn_list {P : Program} {w : World} {K : PySem.W.Frag} {tg : Expr} (a it : Addr) : Turn P w K tg (Itl K a) [it] it (fun i h => h.IsListIter it a i) where
  mem := by simp
  obj := fun i h st b hb => by
    have e : b = it := by simpa using hb
    subst e
    obtain ⟨o, e, c, d⟩ := st
    exact ⟨o, e, fun v z => by rw [d] at z; cases z⟩
  keep := fun i h h' st k => st.at fun o e => k it (by simp) o e
  item := by
    intro X hP hw hK hc i pins s σ H E I hf st hg
    subst hP hw hK
    obtain ⟨xs, x, hq, hx⟩ := hg
    obtain ⟨its, rv, p, hz⟩ := I.list hq
    obtain ⟨u, hu, ru⟩ := rv.get hx
    obtain ⟨f0, f1, f2, f3, f4, f5⟩ := hf it (by simp)
    refine wpAny_pyNext_list_item st p.isList (x := u) (by simpa using hu) fun h' st' sb => ?_
    have I1 : Inv X pins σ H { s with heap := h' } := I.turned (t' := s.toks) (fun b o hb e => (sb.2 b hb).trans e) f0 f1 f3 f4 f5
    obtain ⟨o, e, c, d⟩ := id st'
    exact ⟨u, rfl, go_of (s := { s with heap := h' }) e c d (by decide) ⟨x, H, I1, ru, ⟨rfl, fun ys hy => by rw [I.list_inj hy hq]; exact hx⟩, st', fun b hb => (hf b hb).1⟩⟩
  done := by
    intro X hP hw hK hc i pins s σ H E I hf st hg
    subst hP hw hK
    obtain ⟨xs, hq, hx⟩ := hg
    obtain ⟨its, rv, p, hz⟩ := I.list hq
    obtain ⟨f0, f1, f2, f3, f4, f5⟩ := hf it (by simp)
    have hl := rv.length
    exact wpAny_pyNext_list_end (I.ok.hd hc) st p.isList (by simp; omega) fun h' eb => ⟨rfl, I.turned (t' := s.toks) (fun b o hb e => eb b o hb e) f0 f1 f3 f4 f5⟩
  self := fun _ _ _ _ _ st h => wpAny_pyIter_listiter st h
theorem turn_range {P : Program} {w : World} {K : PySem.W.Frag} {tg : Expr} (it : Addr) (lo : Int) (n : Nat) : Turn P w K tg (Itr lo n) [it] it (fun i h => IsRangeIter h it (lo + (i : Nat) * 1) ((n : Int) - (i : Nat)) 1) where
  mem := by simp
  obj := fun i h st b hb => by
    have e : b = it := by simpa using hb
    subst e
    exact ⟨_, st, fun v z => by
      have z' : Data.fields _ = Data.cell v := z
      cases z'⟩
  keep := fun i h h' st k => k it (by simp) _ st
  item := by
    intro X hP hw hK hc i pins s σ H E I hf st hg
    subst hP hw hK
    obtain ⟨f0, f1, f2, f3, f4, f5⟩ := hf it (by simp)
    have W := Walks.range (prog := X.prog) (w := X.w) (I.ok.hd hc) it lo 1 n
    refine W.item i s _ _ hg st fun v h' tk hv st' kk => ?_
    obtain ⟨t, rfl⟩ := hv
    have I1 : Inv X pins σ H { s with heap := h', toks := tk } := I.turned (fun b o hb e => kk b o (by simpa using hb) e) f0 f1 f3 f4 f5
    refine ⟨_, rfl, go_of (s := { s with heap := h', toks := tk }) (n := "range_iterator") st' rfl rfl (by decide) ⟨.int (lo + i), H, I1, ⟨t, ?_⟩, ⟨rfl, rfl⟩, st', fun b hb => (hf b hb).1⟩⟩
    rw [Int.mul_one]
  done := by
    intro X hP hw hK hc i pins s σ H E I hf st hg
    subst hP hw hK
    obtain ⟨f0, f1, f2, f3, f4, f5⟩ := hf it (by simp)
    exact wpAny_pyNext_range_end (I.ok.hd hc) st (by have : n ≤ i := hg; omega) fun h' eb => ⟨rfl, I.turned (t' := s.toks) (fun b o hb e => eb b o hb e) f0 f1 f3 f4 f5⟩
  self := fun _ _ _ _ _ st h => wpAny_pyIter_rangeiter st h
end L2
namespace L2
open PySem PySem.Spec PyProof.Rows
section
variable {X : Cx} {tg : Expr}
def iList (K : PySem.W.Frag) (tl : TE) : TI := fun σ H R => tl σ H fun x H1 => ∃ a, x = .ref a ∧ (∃ xs, SqL K H1 a xs) ∧ R (Itl K a) H1
theorem pi_list {l : Expr} {tl : TE} (hl : PE X l tl) : PI X tg l (iList X.K tl) := by
  intro pins s σ H R I h
  refine thn (hl pins s σ H _ I h) fun v s1 ⟨x, H1, I1, r1, q1⟩ => ?_
  obtain ⟨a, e, ⟨xs, hq⟩, q⟩ := q1
  subst e
  cases r1
  obtain ⟨its, rv, p, hz⟩ := I1.list hq
  refine wpAny_pyIter_list p.isList ?_
  refine ⟨s1.heap.objs.size, [s1.heap.objs.size], _, _, H1, rfl, I1.kept (t' := s1.toks) fun b o e => Heap.get?_push_of_some _ e, turn_list a _, ⟨_, Heap.get?_push_size _ rfl, rfl, rfl⟩, fun b hb => ?_, q⟩
  have e : b = s1.heap.objs.size := by simpa using hb
  subst e
  exact I1.fpOk (Nat.le_refl _) (I1.hok.fresh (Nat.le_refl _))
theorem range_it {pins : List (Addr × Obj)} {σ : St} {H : Hp} {s : Shared} {R : It → Hp → Prop} {E : Value → Shared → Prop} {lo hi : Int} {t u v : Tok} {tk : Nat} (I : Inv X pins σ H s) (h1 : -(2 ^ 62) ≤ lo) (h2 : lo < 2 ^ 62) (h3 : -(2 ^ 62) ≤ hi) (h4 : hi < 2 ^ 62)
    (q : R (Itr lo (hi - lo).toNat) H) : wpAny (model X.prog X.w) X.A (pyIter (.ref s.heap.objs.size)) (PIE X pins σ tg R) E { s with heap := s.heap.push { cls := .type "range", data := .fields #[.int lo t, .int hi u, .int 1 v] }, toks := tk } := by
  refine wpAny_pyIter_range (IsRange.new ..) (small_one h1 h2 h3 h4) ?_
  have I1 : Inv X pins σ H { s with heap := s.heap.push { cls := .type "range", data := .fields #[.int lo t, .int hi u, .int 1 v] }, toks := tk } := I.kept fun b o e => Heap.get?_push_of_some _ e
  refine ⟨(s.heap.push { cls := .type "range", data := .fields #[.int lo t, .int hi u, .int 1 v] }).objs.size, [(s.heap.push { cls := .type "range", data := .fields #[.int lo t, .int hi u, .int 1 v] }).objs.size], _, _, H, rfl,
    I1.kept (t' := tk) fun b o e => Heap.get?_push_of_some _ e, turn_range _ lo (hi - lo).toNat, ?_, fun b hb => ?_, q⟩
  · have e1 : lo + ((0 : Nat) : Int) * 1 = lo := by simp
    have e2 : (((hi - lo).toNat : Nat) : Int) - ((0 : Nat) : Int) = Builtin.Range.rangeSize lo hi 1 := by rw [rangeSize_one]; split <;> omega
    show IsRangeIter _ _ (lo + ((0 : Nat) : Int) * 1) ((((hi - lo).toNat : Nat) : Int) - ((0 : Nat) : Int)) 1
    rw [e1, e2]
    exact Heap.get?_push_size _ rfl
  · have e : b = (s.heap.push { cls := .type "range", data := .fields #[.int lo t, .int hi u, .int 1 v] }).objs.size := by simpa using hb
    subst e
    exact I1.fpOk (Nat.le_refl _) (I1.hok.fresh (Nat.le_refl _))
def iRng1 (ta : TA) : TI := fun σ H R => ta σ H fun vs H1 => ∃ j : Int, vs = [.int j] ∧ -(2 ^ 62) ≤ j ∧ j < 2 ^ 62 ∧ R (Itr 0 j.toNat) H1
theorem pi_range1 {a : Expr} {ta : TA} {p pos : Pos} (hg : Gl X "range") (hm : X.mg "range" = none) (ha : PA X [a] ta) (hs : starEach [a] X.env = [(false, eval a X.env)] := by rfl) : PI X tg (.Call (.Name "range" p) [a] [] pos) (iRng1 ta) := by
  intro pins s σ H R I h
  refine Call_ (ld_blt I hg hm boot_range (PyProof.Rows.callWith_type1 (thn (ha pos pins s σ H _ I h) fun us s1 ⟨vs, H1, I1, r1, q1⟩ => ?_) hs rfl))
  obtain ⟨j, e, q1, q2, q⟩ := q1
  subst e
  cases r1 with
  | cons r rr =>
    cases rr
    obtain ⟨t, rfl⟩ := r
    exact call_range_1 (range_it I1 (by omega) (by omega) q1 q2 (by simpa using q))
def tFor (wi : TI) (g : TG) (tb : TS) : TS := fun D σ H => wi σ H fun J H1 => ∃ W : Nat → Nat → St → Hp → Prop, (∃ m, W 0 m σ H1) ∧ ∀ i m σ H, W i m σ H →
  (J.stop i H ∧ D.nx σ H) ∨ (J.go i H ∧ ∃ N : St → Hp → Prop, (∀ σ' H', N σ' H' → ∃ m', m' < m ∧ W (i + 1) m' σ' H') ∧ ∀ x H', J.yld i H x H' → g x σ H' fun σ2 H2 => tb { D with nx := N, ct := N, bk := D.nx } σ2 H2)
def pinsAt (fp : List Addr) (h : Heap) : List (Addr × Obj) := fp.filterMap fun b => (h.get? b).map fun o => (b, o)
theorem mem_pinsAt {fp : List Addr} {h : Heap} {b : Addr} {o : Obj} (hb : b ∈ fp) (e : h.get? b = some o) : (b, o) ∈ pinsAt fp h := List.mem_filterMap.mpr ⟨b, hb, by rw [e]; rfl⟩
theorem of_pinsAt {fp : List Addr} {h : Heap} {p : Addr × Obj} (hp : p ∈ pinsAt fp h) : p.1 ∈ fp ∧ h.get? p.1 = some p.2 := by
  obtain ⟨b, hb, e⟩ := List.mem_filterMap.mp hp
  cases q : h.get? b with
  | none => rw [q] at e; cases e
  | some o =>
    rw [q] at e
    have e' : (b, o) = p := Option.some.inj e
    subst e'
    exact ⟨hb, q⟩
theorem Inv.pinned {pins : List (Addr × Obj)} {σ : St} {H : Hp} {s : Shared} {fp : List Addr} (I : Inv X pins σ H s) (hf : ∀ b ∈ fp, FpOk X pins H b) (ho : ∀ b ∈ fp, ∃ o, s.heap.get? b = some o ∧ ∀ v, o.data ≠ .cell v) : Inv X (pins ++ pinsAt fp s.heap) σ H s :=
  I.pins_of fun p hp => (List.mem_append.mp hp).elim (fun z => I.pin p (List.mem_append_right _ z)) fun z => by
    obtain ⟨hb, e⟩ := of_pinsAt z
    obtain ⟨f0, f1, f2, _⟩ := hf p.1 hb
    obtain ⟨o, e', d⟩ := ho p.1 hb
    rw [e] at e'; cases e'
    exact ⟨e, f0, f1, f2, d⟩
theorem Inv.unpinned {pins pl : List (Addr × Obj)} {σ : St} {H : Hp} {s : Shared} (I : Inv X (pins ++ pl) σ H s) : Inv X pins σ H s := I.pins_of fun p hp => I.pin p (List.mem_append_right _ (List.mem_append_left _ hp))
theorem ps_for {iter : Expr} {body : List Stmt} {wi : TI} {g : TG} {tb : TS} {pos : Pos} (hp : PassesOwn (model X.prog X.w) X.A X.env X.xe) (hc : X.calm = true) (hi : PI X tg iter wi) (hg : PG X tg g) (hb : PSs X body tb)
    (hs : ∀ x, foldedSetIterable iter X.env x = pure x := by intro _; rfl) : PS X (.For tg iter body [] pos) (tFor wi g tb) := by
  intro pins s σ H D I h
  refine wpAny_For (thn (hi pins s σ H _ I h) fun v s1 h1 => thn h1 fun itv s2 h2 => ?_) hs
  obtain ⟨it, fp, tn, J, H2, e, I2, T, st2, f2, W, ⟨m0, w0⟩, turn⟩ := h2
  subst e
  have stat : ∀ {H' : Hp}, (∀ b ∈ fp, H' b = none) → ∀ b ∈ fp, FpOk X pins H' b := fun hn b hb => ⟨hn b hb, (f2 b hb).2⟩
  refine codeAny_forLoop_any (fun n s' => ∃ i σ' H', Inv X pins σ' H' s' ∧ tn i s'.heap ∧ (∀ b ∈ fp, H' b = none) ∧ W i n σ' H') ?_ m0 ⟨0, σ, H2, I2, st2, fun b hb => (f2 b hb).1, w0⟩
  rintro n s3 ⟨i, σ3, H3, I3, st3, fr3, w3⟩
  rcases turn i n σ3 H3 w3 with ⟨stop, qn⟩ | ⟨go, N, hN, step⟩
  · refine wpAny_passesOwn hp (thn (T.done X rfl rfl rfl hc i pins s3 σ3 H3 X.xe I3 (stat fr3) st3 stop) fun r s4 ⟨hr, I4⟩ => ?_)
    subst hr
    exact wpAny_execs_nil ⟨σ3, H3, I4, qn⟩
  · refine wpAny_passesOwn hp (thn (T.item X rfl rfl rfl hc i pins s3 σ3 H3 X.xe I3 (stat fr3) st3 go) fun r s4 ⟨u, hr, h4⟩ => ?_)
    subst hr
    refine wpAny_passesOwn hp (thn h4 fun _ s5 ⟨x, H5, I5, r5, y5, st5, fr5⟩ => ?_)
    have I5' := I5.pinned (stat fr5) (T.obj _ _ st5)
    refine wpAny_passesOwn hp (thn (hg _ s5 σ3 H5 x u _ I5' r5 (step x H5 y5)) fun _ s6 ⟨σ6, H6, I6, q6⟩ => ?_)
    refine wpAny_passesOwn hp (thn (hb _ s6 σ6 H6 _ I6 q6) fun f s7 q7 => ?_)
    have again : ∀ {σ7 : St} {H7 : Hp}, Inv X (pins ++ pinsAt fp s5.heap) σ7 H7 s7 → N σ7 H7 → ∃ m, m < n ∧ ∃ i σ' H', Inv X pins σ' H' s7 ∧ tn i s7.heap ∧ (∀ b ∈ fp, H' b = none) ∧ W i m σ' H' := fun {σ7 H7} I7 n7 => by
      obtain ⟨m', hm, w7⟩ := hN σ7 H7 n7
      refine ⟨m', hm, i + 1, σ7, H7, I7.unpinned, T.keep _ _ _ st5 fun b hb o e => (I7.pin (b, o) (List.mem_append_right _ (List.mem_append_right _ (mem_pinsAt hb e)))).1, fun b hb => ?_, w7⟩
      obtain ⟨o, e, d⟩ := T.obj _ _ st5 b hb
      exact (I7.pin (b, o) (List.mem_append_right _ (List.mem_append_right _ (mem_pinsAt hb e)))).2.1
    cases f with
    | next => obtain ⟨σ7, H7, I7, n7⟩ := q7; exact again I7 n7
    | cont => obtain ⟨σ7, H7, I7, n7⟩ := q7; exact again I7 n7
    | brk => obtain ⟨σ7, H7, I7, q7⟩ := q7; exact ⟨σ7, H7, I7.unpinned, q7⟩
    | ret v => obtain ⟨x7, σ7, H7, I7, r7, q7⟩ := q7; exact ⟨x7, σ7, H7, I7.unpinned, r7, q7⟩
end
theorem for_list {K : PySem.W.Frag} {a : Addr} {xs : List V} {g : TG} {tb : TS} {D : Ends} {σ : St} {H : Hp} (Pv : Nat → St → Hp → Prop) (h0 : Pv 0 σ H) (hl : ∀ i σ H, i ≤ xs.length → Pv i σ H → SqL K H a xs)
    (hs : ∀ i x σ H, xs[i]? = some x → Pv i σ H → g x σ H fun σ2 H2 => tb { D with nx := Pv (i + 1), ct := Pv (i + 1), bk := D.nx } σ2 H2) (hd : ∀ σ H, Pv xs.length σ H → D.nx σ H) :
    ∃ W : Nat → Nat → St → Hp → Prop, (∃ m, W 0 m σ H) ∧ ∀ i m σ H, W i m σ H →
      ((Itl K a).stop i H ∧ D.nx σ H) ∨ ((Itl K a).go i H ∧ ∃ N : St → Hp → Prop, (∀ σ' H', N σ' H' → ∃ m', m' < m ∧ W (i + 1) m' σ' H') ∧ ∀ x H', (Itl K a).yld i H x H' → g x σ H' fun σ2 H2 => tb { D with nx := N, ct := N, bk := D.nx } σ2 H2) := by
  refine ⟨fun i m σ H => m = xs.length - i ∧ i ≤ xs.length ∧ Pv i σ H, ⟨xs.length, by simp, Nat.zero_le _, h0⟩, ?_⟩
  rintro i m σ H ⟨rfl, hi, p⟩
  have q := hl i σ H hi p
  by_cases hlt : i < xs.length
  · refine .inr ⟨⟨xs, xs[i], q, by simp [hlt]⟩, Pv (i + 1), fun σ' H' p' => ⟨xs.length - (i + 1), by omega, rfl, hlt, p'⟩, fun x H' y => ?_⟩
    obtain ⟨e, y⟩ := y
    subst e
    exact hs i x σ _ (y xs q) p
  · have e : i = xs.length := by omega
    subst e
    exact .inl ⟨⟨xs, q, Nat.le_refl _⟩, hd σ H p⟩
theorem for_range {lo : Int} {n : Nat} {g : TG} {tb : TS} {D : Ends} {σ : St} {H : Hp} (Pv : Nat → St → Hp → Prop) (h0 : Pv 0 σ H)
    (hs : ∀ i σ H, i < n → Pv i σ H → g (.int (lo + i)) σ H fun σ2 H2 => tb { D with nx := Pv (i + 1), ct := Pv (i + 1), bk := D.nx } σ2 H2) (hd : ∀ σ H, Pv n σ H → D.nx σ H) :
    ∃ W : Nat → Nat → St → Hp → Prop, (∃ m, W 0 m σ H) ∧ ∀ i m σ H, W i m σ H →
      ((Itr lo n).stop i H ∧ D.nx σ H) ∨ ((Itr lo n).go i H ∧ ∃ N : St → Hp → Prop, (∀ σ' H', N σ' H' → ∃ m', m' < m ∧ W (i + 1) m' σ' H') ∧ ∀ x H', (Itr lo n).yld i H x H' → g x σ H' fun σ2 H2 => tb { D with nx := N, ct := N, bk := D.nx } σ2 H2) := by
  refine ⟨fun i m σ H => m = n - i ∧ i ≤ n ∧ Pv i σ H, ⟨n, by simp, Nat.zero_le _, h0⟩, ?_⟩
  rintro i m σ H ⟨rfl, hi, p⟩
  by_cases hlt : i < n
  · refine .inr ⟨hlt, Pv (i + 1), fun σ' H' p' => ⟨n - (i + 1), by omega, rfl, hlt, p'⟩, fun x H' y => ?_⟩
    obtain ⟨e, y⟩ := y
    subst e y
    exact hs i σ _ hlt p
  · have e : i = n := by omega
    subst e
    exact .inl ⟨Nat.le_refl _, hd σ H p⟩
theorem while_by {c : TT} {tb : TS} {D : Ends} {σ : St} {H : Hp} (Pv : St → Hp → Prop) (μ : St → Hp → Nat) (h0 : Pv σ H)
    (hs : ∀ σ H, Pv σ H → c σ H fun b H1 => if b = true then tb { D with nx := fun σ' H' => Pv σ' H' ∧ μ σ' H' < μ σ H, ct := fun σ' H' => Pv σ' H' ∧ μ σ' H' < μ σ H, bk := D.nx } σ H1 else D.nx σ H1)
    (mono : ∀ σ H Q Q', (∀ b H1, Q b H1 → Q' b H1) → c σ H Q → c σ H Q') : tWhile c tb D σ H := by
  refine ⟨fun m σ H => m = μ σ H ∧ Pv σ H, ⟨_, rfl, h0⟩, ?_⟩
  rintro m σ H ⟨rfl, p⟩
  refine mono σ H _ _ (fun b H1 q => ?_) (hs σ H p)
  cases b with
  | true => exact ⟨_, fun σ' H' ⟨p', l⟩ => ⟨_, l, rfl, p'⟩, q⟩
  | false => exact q
end L2
namespace L2
open PySem PySem.Spec PyProof.Rows
abbrev R2 := V → V → Hp → VK → Prop
def OpR (X : Cx) (f : Value → Value → Sem Value) (r : R2) : Prop :=
  ∀ (pins : List (Addr × Obj)) (s : Shared) (σ : St) (H : Hp) (x y : V) (v u : Value) (Q : VK), Inv X pins σ H s → RelV x v → RelV y u → r x y H Q →
    wpAny (model X.prog X.w) X.A (f v u) (EP X pins σ Q) X.xe s
def UnR (X : Cx) (f : Value → Sem Value) (r : V → Hp → VK → Prop) : Prop :=
  ∀ (pins : List (Addr × Obj)) (s : Shared) (σ : St) (H : Hp) (x : V) (v : Value) (Q : VK), Inv X pins σ H s → RelV x v → r x H Q →
    wpAny (model X.prog X.w) X.A (f v) (EP X pins σ Q) X.xe s
def CallR (X : Cx) (f : Value) (r : List V → Hp → VK → Prop) : Prop :=
  ∀ (pins : List (Addr × Obj)) (s : Shared) (σ : St) (H : Hp) (xs : List V) (us : List Value) (Q : VK), Inv X pins σ H s → Vals xs us → r xs H Q →
    wpAny (model X.prog X.w) X.A (call f us) (EP X pins σ Q) X.xe s
def TruR (X : Cx) (r : V → Hp → (Bool → Hp → Prop) → Prop) : Prop :=
  ∀ (pins : List (Addr × Obj)) (s : Shared) (σ : St) (H : Hp) (x : V) (v : Value) (Q : Bool → Hp → Prop), Inv X pins σ H s → RelV x v → r x H Q →
    wpAny (model X.prog X.w) X.A (truthy v) (TP X pins σ Q) X.xe s
def tOp (r : R2) (ta tb : TE) : TE := fun σ H Q => ta σ H fun x H1 => tb σ H1 fun y H2 => r x y H2 Q
def tUn (r : V → Hp → VK → Prop) (ta : TE) : TE := fun σ H Q => ta σ H fun x H1 => r x H1 Q
def rI (C : Int → Int → Prop) (g : Int → Int → V) : R2 := fun x y H Q => ∃ i j, x = .int i ∧ y = .int j ∧ C i j ∧ Q (g i j) H
def rI0 (g : Int → Int → V) : R2 := fun x y H Q => ∃ i j, x = .int i ∧ y = .int j ∧ Q (g i j) H
def rU (g : Int → V) : V → Hp → VK → Prop := fun x H Q => ∃ i, x = .int i ∧ Q (g i) H
section
variable {X : Cx} {a b c : Expr} {ta tb tc : TE} {pos : Pos}
theorem binT (ha : PE X a ta) (hb : PE X b tb) {pins : List (Addr × Obj)} {s : Shared} {σ : St} {H : Hp} {R : V → V → Hp → Prop} (I : Inv X pins σ H s)
    (h : ta σ H fun x H1 => tb σ H1 fun y H2 => R x y H2) {Q : Value → Shared → Prop} {f : Value → Value → Sem Value}
    (hf : ∀ v u s2 x y H2, Inv X pins σ H2 s2 → RelV x v → RelV y u → R x y H2 → wpAny (model X.prog X.w) X.A (f v u) Q X.xe s2) :
    wpAny (model X.prog X.w) X.A (eval a X.env) (fun v s₁ => wpAny (model X.prog X.w) X.A (eval b X.env) (fun u s₂ => wpAny (model X.prog X.w) X.A (f v u) Q X.xe s₂) X.xe s₁) X.xe s := by
  refine thn (ha pins s σ H _ I h) fun v s1 ⟨x, H1, I1, r1, q1⟩ => ?_
  refine thn (hb pins s1 σ H1 _ I1 q1) fun u s2 ⟨y, H2, I2, r2, q2⟩ => ?_
  exact hf v u s2 x y H2 I2 r1 r2 q2
theorem pe_op {op : Operator} {r : R2} (ho : OpR X (binaryOp op) r) (ha : PE X a ta) (hb : PE X b tb) : PE X (.BinOp a op b pos) (tOp r ta tb) := by
  intro pins s σ H Q I h
  exact wpAny_BinOp (binT ha hb I h fun v u s2 x y H2 I2 rx ry q => ho pins s2 σ H2 x y v u Q I2 rx ry q)
theorem pe_un {op : UnaryOp} {r : V → Hp → VK → Prop} (ho : UnR X (unaryOp op) r) (ha : PE X a ta) : PE X (.UnaryOp op a pos) (tUn r ta) := by
  intro pins s σ H Q I h
  exact UnaryOp_ (thn (ha pins s σ H _ I h) fun v s1 ⟨x, H1, I1, r1, q1⟩ => ho pins s1 σ H1 x v Q I1 r1 q1)
theorem opI {f : Value → Value → Sem Value} {C : Int → Int → Prop} {g : Int → Int → Int}
    (rule : ∀ (i j : Int) (t u : Tok) (s : Shared) (Q : Value → Shared → Prop) (E : Value → Shared → Prop), C i j → Q (.int (g i j) s.toks) { s with toks := s.toks + 1 } → wpAny (model X.prog X.w) X.A (f (.int i t) (.int j u)) Q E s) :
    OpR X f (rI C fun i j => .int (g i j)) := by
  intro pins s σ H x y v u Q I rx ry h
  obtain ⟨i, j, rfl, rfl, hc, q⟩ := h
  obtain ⟨t, rfl⟩ := rx
  obtain ⟨t', rfl⟩ := ry
  exact rule i j t t' s _ _ hc ⟨.int (g i j), H, I.tok _, ⟨_, rfl⟩, q⟩
theorem opI0 {f : Value → Value → Sem Value} {g : Int → Int → Int}
    (rule : ∀ (i j : Int) (t u : Tok) (s : Shared) (Q : Value → Shared → Prop) (E : Value → Shared → Prop), Q (.int (g i j) s.toks) { s with toks := s.toks + 1 } → wpAny (model X.prog X.w) X.A (f (.int i t) (.int j u)) Q E s) :
    OpR X f (rI0 fun i j => .int (g i j)) := by
  intro pins s σ H x y v u Q I rx ry h
  obtain ⟨i, j, rfl, rfl, q⟩ := h
  obtain ⟨t, rfl⟩ := rx
  obtain ⟨t', rfl⟩ := ry
  exact rule i j t t' s _ _ ⟨.int (g i j), H, I.tok _, ⟨_, rfl⟩, q⟩
theorem opB0 {f : Value → Value → Sem Value} {g : Int → Int → Bool}
    (rule : ∀ (i j : Int) (t u : Tok) (s : Shared) (Q : Value → Shared → Prop) (E : Value → Shared → Prop), Q (.bool (g i j)) s → wpAny (model X.prog X.w) X.A (f (.int i t) (.int j u)) Q E s) :
    OpR X f (rI0 fun i j => .bl (g i j)) := by
  intro pins s σ H x y v u Q I rx ry h
  obtain ⟨i, j, rfl, rfl, q⟩ := h
  obtain ⟨t, rfl⟩ := rx
  obtain ⟨t', rfl⟩ := ry
  exact rule i j t t' s _ _ ⟨.bl (g i j), H, I, rfl, q⟩
def CMul (i j : Int) : Prop := (-(2 ^ 64) < i ∧ i < 2 ^ 64) ∨ (-(2 ^ 64) < j ∧ j < 2 ^ 64)
theorem CMul.ok {i j : Int} (h : CMul i j) : IntMulOk i j := by
  rcases h with ⟨h1, h2⟩ | ⟨h1, h2⟩
  · exact .of_left (intBits_le_64 h1 h2)
  · exact .of_right (intBits_le_64 h1 h2)
theorem op_add : OpR X (binaryOp .Add) (rI0 fun i j => .int (i + j)) := opI0 fun _ _ _ _ _ _ _ q => add_int q
theorem op_sub : OpR X (binaryOp .Sub) (rI0 fun i j => .int (i - j)) := opI0 fun _ _ _ _ _ _ _ q => sub_int q
theorem op_mod : OpR X (binaryOp .Mod) (rI (fun _ j => 0 < j) fun i j => .int (i % j)) := opI fun i j _ _ _ _ _ hc q => by
  have h1 : (0 : Int) < j := hc
  exact mod_int' (by omega) (by rw [Int.fmod_eq_emod_of_nonneg i (by omega)]; exact q)
theorem unI {f : Value → Sem Value} {g : Int → Int}
    (rule : ∀ (i : Int) (t : Tok) (s : Shared) (Q : Value → Shared → Prop) (E : Value → Shared → Prop), Q (.int (g i) s.toks) { s with toks := s.toks + 1 } → wpAny (model X.prog X.w) X.A (f (.int i t)) Q E s) :
    UnR X f (rU fun i => .int (g i)) := by
  intro pins s σ H x v Q I rx h
  obtain ⟨i, rfl, q⟩ := h
  obtain ⟨t, rfl⟩ := rx
  exact rule i t s _ _ ⟨.int (g i), H, I.tok _, ⟨_, rfl⟩, q⟩
theorem un_neg : UnR X (unaryOp .USub) (rU fun i => .int (-i)) := unI fun _ _ _ _ _ q => neg_int q
end
def scal : V → V → Bool
  | .non, .non => true | .non, .int _ => true | .int _, .non => true | .non, .bl _ => true | .bl _, .non => true | .non, .str _ => true | .str _, .non => true
  | .int _, .int _ => true | .bl _, .bl _ => true | .str _, .str _ => true | .byt _, .byt _ => true
  | .int _, .str _ => true | .str _, .int _ => true | .bl _, .str _ => true | .str _, .bl _ => true
  | _, _ => false
def rEq : R2 := fun x y H Q => scal x y = true ∧ Q (.bl (decide (x = y))) H
def rNe : R2 := fun x y H Q => scal x y = true ∧ Q (.bl (!decide (x = y))) H
theorem dec_int {i j : Int} : decide (V.int i = V.int j) = (i == j) := by
  rw [Bool.eq_iff_iff]
  simp
theorem dec_bl {i j : Bool} : decide (V.bl i = V.bl j) = (i == j) := by
  rw [Bool.eq_iff_iff]
  simp
theorem dec_str {i j : Str} : decide (V.str i = V.str j) = (i == j) := by
  rw [Bool.eq_iff_iff]
  simp
theorem dec_byt {i j : Array UInt8} : decide (V.byt i = V.byt j) = (i.toList == j.toList) := by
  rw [Bool.eq_iff_iff]
  cases i
  cases j
  simp
section
variable {X : Cx} {a b c : Expr} {ta tb tc : TE} {pos : Pos}
theorem fin_bl {pins : List (Addr × Obj)} {σ : St} {H : Hp} {s : Shared} {Q : VK} {k k' : Bool} (I : Inv X pins σ H s) (q : Q (.bl k) H) (e : k = k') : EP X pins σ Q (.bool k') s := by
  subst e
  exact ⟨.bl k, H, I, rfl, q⟩
theorem op_eq : OpR X (compareOp .Eq) rEq := by
  intro pins s σ H x y v u Q I rx ry h
  obtain ⟨hs, q⟩ := h
  cases x with
  | non =>
    cases rx
    cases y with
    | non => cases ry; exact PySem.EqNone.eq_none_none (fin_bl I q (by simp))
    | bl j => cases ry; exact PySem.EqNone.eq_none_bool (fin_bl I q (by simp))
    | int j => obtain ⟨t', rfl⟩ := ry; exact PySem.EqNone.eq_none_int (fin_bl I q (by simp))
    | str j => obtain ⟨t', rfl⟩ := ry; exact PySem.EqNone.eq_none_str (fin_bl I q (by simp))
    | _ => exact absurd (show false = true from hs) Bool.false_ne_true
  | bl i =>
    cases rx
    cases y with
    | non => cases ry; exact PySem.EqNone.eq_bool_none (fin_bl I q (by simp))
    | bl j => cases ry; exact eq_bool (fin_bl I q dec_bl)
    | str j => obtain ⟨t', rfl⟩ := ry; exact PySem.EqMixed.eq_bool_str (fin_bl I q (by simp))
    | _ => exact absurd (show false = true from hs) Bool.false_ne_true
  | int i =>
    obtain ⟨t, rfl⟩ := rx
    cases y with
    | non => cases ry; exact PySem.EqNone.eq_int_none (fin_bl I q (by simp))
    | int j => obtain ⟨t', rfl⟩ := ry; exact eq_int (fin_bl I q dec_int)
    | str j => obtain ⟨t', rfl⟩ := ry; exact PySem.EqMixed.eq_int_str (fin_bl I q (by simp))
    | _ => exact absurd (show false = true from hs) Bool.false_ne_true
  | str i =>
    obtain ⟨t, rfl⟩ := rx
    cases y with
    | non => cases ry; exact PySem.EqNone.eq_str_none (fin_bl I q (by simp))
    | bl j => cases ry; exact PySem.EqMixed.eq_str_bool (fin_bl I q (by simp))
    | int j => obtain ⟨t', rfl⟩ := ry; exact PySem.EqMixed.eq_str_int (fin_bl I q (by simp))
    | str j => obtain ⟨t', rfl⟩ := ry; exact eq_str (fin_bl I q dec_str)
    | _ => exact absurd (show false = true from hs) Bool.false_ne_true
  | byt i =>
    obtain ⟨t, rfl⟩ := rx
    cases y with
    | byt j => obtain ⟨t', rfl⟩ := ry; exact PySem.W.eq_bytes (fin_bl I q dec_byt)
    | _ => exact absurd (show false = true from hs) Bool.false_ne_true
  | _ => cases y <;> exact absurd (show false = true from hs) Bool.false_ne_true
theorem op_ne : OpR X (compareOp .NotEq) rNe := by
  intro pins s σ H x y v u Q I rx ry h
  obtain ⟨hs, q⟩ := h
  cases x with
  | non =>
    cases rx
    cases y with
    | non => cases ry; exact PySem.EqNone.ne_none_none (fin_bl I q (by simp))
    | bl j => cases ry; exact PySem.EqNone.ne_none_bool (fin_bl I q (by simp))
    | int j => obtain ⟨t', rfl⟩ := ry; exact PySem.EqNone.ne_none_int (fin_bl I q (by simp))
    | str j => obtain ⟨t', rfl⟩ := ry; exact PySem.EqNone.ne_none_str (fin_bl I q (by simp))
    | _ => exact absurd (show false = true from hs) Bool.false_ne_true
  | bl i =>
    cases rx
    cases y with
    | non => cases ry; exact PySem.EqNone.ne_bool_none (fin_bl I q (by simp))
    | bl j => cases ry; exact ne_bool (fin_bl I q (congrArg not dec_bl))
    | str j => obtain ⟨t', rfl⟩ := ry; exact PySem.EqMixed.ne_bool_str (fin_bl I q (by simp))
    | _ => exact absurd (show false = true from hs) Bool.false_ne_true
  | int i =>
    obtain ⟨t, rfl⟩ := rx
    cases y with
    | non => cases ry; exact PySem.EqNone.ne_int_none (fin_bl I q (by simp))
    | int j => obtain ⟨t', rfl⟩ := ry; exact ne_int (fin_bl I q (congrArg not dec_int))
    | str j => obtain ⟨t', rfl⟩ := ry; exact PySem.EqMixed.ne_int_str (fin_bl I q (by simp))
    | _ => exact absurd (show false = true from hs) Bool.false_ne_true
  | str i =>
    obtain ⟨t, rfl⟩ := rx
    cases y with
    | non => cases ry; exact PySem.EqNone.ne_str_none (fin_bl I q (by simp))
    | bl j => cases ry; exact PySem.EqMixed.ne_str_bool (fin_bl I q (by simp))
    | int j => obtain ⟨t', rfl⟩ := ry; exact PySem.EqMixed.ne_str_int (fin_bl I q (by simp))
    | str j => obtain ⟨t', rfl⟩ := ry; exact ne_str (fin_bl I q (congrArg not dec_str))
    | _ => exact absurd (show false = true from hs) Bool.false_ne_true
  | byt i =>
    obtain ⟨t, rfl⟩ := rx
    cases y with
    | byt j => obtain ⟨t', rfl⟩ := ry; exact PySem.W.ne_bytes (fin_bl I q (congrArg not dec_byt))
    | _ => exact absurd (show false = true from hs) Bool.false_ne_true
  | _ => cases y <;> exact absurd (show false = true from hs) Bool.false_ne_true
theorem op_lt : OpR X (compareOp .Lt) (rI0 fun i j => .bl (decide (i < j))) := opB0 fun _ _ _ _ _ _ _ q => lt_int q
theorem op_le : OpR X (compareOp .LtE) (rI0 fun i j => .bl (decide (i ≤ j))) := opB0 fun _ _ _ _ _ _ _ q => le_int q
theorem op_gt : OpR X (compareOp .Gt) (rI0 fun i j => .bl (decide (j < i))) := opB0 fun _ _ _ _ _ _ _ q => gt_int q
theorem op_ge : OpR X (compareOp .GtE) (rI0 fun i j => .bl (decide (j ≤ i))) := opB0 fun _ _ _ _ _ _ _ q => ge_int q
theorem op_isN : OpR X (compareOp .Is) (fun x y H Q => y = .non ∧ Q (.bl (decide (x = .non))) H) := by
  intro pins s σ H x y v u Q I rx ry h
  obtain ⟨rfl, q⟩ := h
  cases ry
  refine is_none_gen (fin_bl I q ?_)
  cases x <;> first
    | (cases rx; rfl)
    | (obtain ⟨t, rfl⟩ := rx; rfl)
theorem op_notN : OpR X (compareOp .IsNot) (fun x y H Q => y = .non ∧ Q (.bl (!decide (x = .non))) H) := by
  intro pins s σ H x y v u Q I rx ry h
  obtain ⟨rfl, q⟩ := h
  cases ry
  refine isnot_none_gen (fin_bl I q ?_)
  cases x <;> first
    | (cases rx; rfl)
    | (obtain ⟨t, rfl⟩ := rx; rfl)
theorem OpR.or {f : Value → Value → Sem Value} {r r' : R2} (h : OpR X f r) (h' : OpR X f r') : OpR X f (fun x y H Q => r x y H Q ∨ r' x y H Q) := by
  intro pins s σ H x y v u Q I rx ry q
  rcases q with q | q
  · exact h pins s σ H x y v u Q I rx ry q
  · exact h' pins s σ H x y v u Q I rx ry q
theorem nomark (b : Expr) {op : CmpOp} (h : op ≠ .In := by decide) (h2 : op ≠ .NotIn := by decide) : behindInMarks op b = false := by
  have e1 : (op == CmpOp.In) = false := by cases op <;> first | rfl | exact absurd rfl h
  have e2 : (op == CmpOp.NotIn) = false := by cases op <;> first | rfl | exact absurd rfl h2
  cases b <;> simp [behindInMarks, e1, e2]
theorem pe_cmpR {op : CmpOp} {r : R2} (ho : OpR X (compareOp op) r) (ha : PE X a ta) (hb : PE X b tb) (hm : behindInMarks op b = false) : PE X (.Compare a [op] [b] pos) (tOp r ta tb) := by
  intro pins s σ H Q I h
  exact wpAny_Compare1 (binT ha hb I h fun v u s2 x y H2 I2 rx ry q => ho pins s2 σ H2 x y v u Q I2 rx ry q) hm
def tTest (t : TE) : TT := fun σ H Q => t σ H fun x H' => ∃ k, x = .bl k ∧ Q k H'
theorem pt_cmpR {op : CmpOp} {r : R2} (ho : OpR X (compareOp op) r) (ha : PE X a ta) (hb : PE X b tb) (hm : behindInMarks op b = false) : PT X (.Compare a [op] [b] pos) (tTest (tOp r ta tb)) := by
  intro pins s σ H Q I h
  refine wpAny_isTrue_Compare1 (thn (ha pins s σ H _ I h) fun v s1 ⟨x, H1, I1, r1, q1⟩ => thn (hb pins s1 σ H1 _ I1 q1) fun u s2 ⟨y, H2, I2, r2, q2⟩ =>
    thn (ho pins s2 σ H2 x y v u _ I2 r1 r2 q2) fun c s3 ⟨z, H3, I3, r3, k, e, q3⟩ => ?_) hm
  subst e
  cases r3
  exact wpAny_truthy_bool ⟨H3, I3, q3⟩
def tChain (r r' : R2) (ta tb tc : TE) : TE := fun σ H Q => ta σ H fun x H1 => tb σ H1 fun y H2 => r x y H2 fun z H3 => ∃ k, z = .bl k ∧
  (if k = true then tc σ H3 fun w' H4 => r' y w' H4 Q else Q (.bl false) H3)
theorem pt_chain {op op' : CmpOp} {r r' : R2} (ho : OpR X (compareOp op) r) (ho' : OpR X (compareOp op') r') (ha : PE X a ta) (hb : PE X b tb) (hc : PE X c tc)
    (hm : lastMarks [op, op'] [b, c] = false := by with_unfolding_all rfl) : PT X (.Compare a [op, op'] [b, c] pos) (tTest (tChain r r' ta tb tc)) := by
  intro pins s σ H Q I h
  refine isTrue_chain (thn (ha pins s σ H _ I h) fun v s1 ⟨x, H1, I1, r1, q1⟩ => test_link (thn (hb pins s1 σ H1 _ I1 q1) fun u s2 ⟨y, H2, I2, r2, q2⟩ =>
    thn (ho pins s2 σ H2 x y v u _ I2 r1 r2 q2) fun d s3 ⟨z, H3, I3, r3, k, e, q3⟩ => ?_)) hm
  subst e
  cases r3
  refine wpAny_truthy_bool ?_
  cases k with
  | false =>
    obtain ⟨k', e', q'⟩ := q3
    cases e'
    exact ite_ff ⟨H3, I3, q'⟩
  | true =>
    refine ite_tt (test_last (thn (hc pins s3 σ H3 _ I3 q3) fun w' s4 ⟨z', H4, I4, r4, q4⟩ => thn (ho' pins s4 σ H4 y z' u w' _ I4 r2 r4 q4) fun d' s5 ⟨z2, H5, I5, r5, k2, e2, q5⟩ => ?_))
    subst e2
    cases r5
    exact wpAny_truthy_bool ⟨H5, I5, q5⟩
def TruV (K : PySem.W.Frag) (x : V) (H : Hp) (k : Bool) : Prop :=
  match x with
  | .non => k = false
  | .bl b => k = b
  | .int i => k = (i != 0)
  | .str y => y.length ≤ sizeLine ∧ k = ((y.length : Int) != 0)
  | .byt y => y.size ≤ sizeLine ∧ k = ((y.size : Int) != 0)
  | .ref p => (∃ xs, SqL K H p xs ∧ k = !xs.isEmpty) ∨ (∃ xs, SqT K H p xs ∧ k = !xs.isEmpty) ∨ ∃ kvs, H p = some (.dK kvs) ∧ k = !kvs.isEmpty
  | _ => False
theorem isEmpty_kv {κ : Type} {kvs : List (κ × V)} {vs : List (κ × Value)} (r : KV kvs vs) : (!vs.isEmpty) = !kvs.isEmpty := by
  cases r <;> rfl
theorem isEmpty_of {xs : List V} {its : List Value} (r : Vals xs its) : (!its.toArray.isEmpty) = !xs.isEmpty := by
  cases r <;> simp
theorem line63 : (sizeLine : Nat) < 2 ^ 63 := by rw [sizeLine_eq]; decide
theorem tru_ok : TruR X (fun x H Q => ∃ k, TruV X.K x H k ∧ Q k H) := by
  intro pins s σ H x v Q I rx h
  obtain ⟨k, e, q⟩ := h
  have hl := line63
  have hs : sizeLine = 16777216 := sizeLine_eq
  cases x with
  | non =>
    cases rx
    have e' : k = false := e
    subst e'
    exact truthy_none ⟨H, I, q⟩
  | bl b =>
    cases rx
    have e' : k = b := e
    subst e'
    exact wpAny_truthy_bool ⟨H, I, q⟩
  | int i =>
    obtain ⟨t, rfl⟩ := rx
    have e' : k = (i != 0) := e
    subst e'
    exact PySem.P.truthy_int ⟨H, I, q⟩
  | str y =>
    obtain ⟨t, rfl⟩ := rx
    obtain ⟨hy, e'⟩ : y.length ≤ sizeLine ∧ k = ((y.length : Int) != 0) := e
    subst e'
    exact PySem.P.truthy_str (by omega) ⟨H, I.tok _, q⟩
  | byt y =>
    obtain ⟨t, rfl⟩ := rx
    obtain ⟨hy, e'⟩ : y.size ≤ sizeLine ∧ k = ((y.size : Int) != 0) := e
    subst e'
    exact PySem.W.truthy_bytes (by omega) ⟨H, I.tok _, q⟩
  | ref p =>
    cases rx
    have e' : (∃ xs, SqL X.K H p xs ∧ k = !xs.isEmpty) ∨ (∃ xs, SqT X.K H p xs ∧ k = !xs.isEmpty) ∨ ∃ kvs, H p = some (.dK kvs) ∧ k = !kvs.isEmpty := e
    rcases e' with ⟨xs, hx, e'⟩ | ⟨xs, hx, e'⟩ | ⟨kvs, hx, e'⟩
    · subst e'
      obtain ⟨its, r, pl, hz⟩ := I.list hx
      have hlen := r.length
      exact wpAny_truthy_list pl.isList (by simp only [List.size_toArray]; omega) ⟨H, I.tok _, by rw [isEmpty_of r]; exact q⟩
    · subst e'
      obtain ⟨its, r, pl, hz⟩ := I.tuple hx
      have hlen := r.length
      exact truthy_tuple pl (by simp only [List.size_toArray]; omega) ⟨H, I.tok _, by rw [isEmpty_of r]; exact q⟩
    · subst e'
      obtain ⟨hz, hS, vs, r, m⟩ : kvs.length ≤ sizeLine ∧ (p == sysModules) = false ∧ ∃ vs, KV kvs vs ∧ s.heap.DictOf (mixKind X.prog X.w) p vs := I.hok p _ hx
      have hlen : kvs.length = vs.length := Paired.length r
      exact wpAny_truthy_dict hS m (by omega) ⟨H, I.tok _, by rw [isEmpty_kv r]; exact q⟩
  | _ => exact (show False from e).elim
theorem pt_truth (ha : PE X a ta) (he : ∀ whole, isTrue a X.env whole = (do let v ← whole; standAt a.pos; holding [v] (truthy v))) :
    PT X a (fun σ H Q => ta σ H fun x H' => ∃ k, TruV X.K x H' k ∧ Q k H') := by
  intro pins s σ H Q I h
  exact isTrue_plain (thn (ha pins s σ H _ I h) fun v s1 ⟨x, H1, I1, r1, q1⟩ => tru_ok pins s1 σ H1 x v Q I1 r1 q1) (he _)
theorem vals1 {x : V} {us : List Value} (r : Vals [x] us) : ∃ u, us = [u] ∧ RelV x u := by
  cases r with
  | cons r1 r2 => cases r2; exact ⟨_, rfl, r1⟩
theorem vals2 {x y : V} {us : List Value} (r : Vals [x, y] us) : ∃ u w', us = [u, w'] ∧ RelV x u ∧ RelV y w' := by
  cases r with
  | cons r1 r2 =>
    cases r2 with
    | cons r3 r4 => cases r4; exact ⟨_, _, rfl, r1, r3⟩
theorem call_abs : CallR X (.builtin "abs") (fun xs H Q => ∃ i, xs = [.int i] ∧ Q (.int (if i < 0 then -i else i)) H) := by
  intro pins s σ H xs us Q I r h
  obtain ⟨i, rfl, q⟩ := h
  obtain ⟨u, rfl, t, rfl⟩ := vals1 r
  exact call_abs_int fun u tk => ⟨.int (if i < 0 then -i else i), H, I.tok _, ⟨_, rfl⟩, q⟩
end
end L2
namespace L2
open PySem PySem.Spec PyProof.Rows
structure ObjM (h : Heap) (x dx C : Addr) (mA : Str → Option Value) : Prop where
  obj : h.get? x = some (PySem.W.instObj C dx)
  ns : h.Ns1 dx mA
  ne : dx ≠ x
theorem lookIn_ns {h : Heap} {dx : Addr} {mA : Str → Option Value} (n : h.Ns1 dx mA) : ∃ od, h.get? dx = some od ∧ ∀ name, PySem.W.lookIn name od = some (mA name) := by
  obtain ⟨o, es, ep, ho, hd, hk, _, hm⟩ := n
  refine ⟨o, ho, fun name => ?_⟩
  have e := hm name
  unfold nsFind findBy at e
  rw [← Array.find?_toList] at e
  unfold PySem.W.lookIn
  rw [hd]
  dsimp only
  split
  · rename_i y q
    rw [q] at e
    exact congrArg some e
  · rename_i q
    rw [q] at e
    have a : es.toList.any (·.refKey) = false := by
      rw [List.any_eq_false]
      intro y hy
      obtain ⟨z, t, hkey⟩ := hk y (Array.mem_toList_iff.mp hy)
      simp [DictEntry.refKey, hkey]
    have a' : ¬ es.toList.any (·.refKey) = true := by rw [a]; exact Bool.false_ne_true
    rw [if_neg a']
    exact congrArg some e
theorem ObjM.look {h : Heap} {x dx C : Addr} {mA : Str → Option Value} (I : ObjM h x dx C mA) : ∃ od, PySem.W.InstAt h x (PySem.W.instObj C dx) C (some od) ∧ ∀ name, PySem.W.lookIn name od = some (mA name) :=
  let ⟨od, ho, hl⟩ := lookIn_ns I.ns
  ⟨od, ⟨I.obj, rfl, rfl, ho⟩, hl⟩
section
variable {prog : Program} {w : World} {A : Around} {E : Value → Shared → Prop} {s : Shared} {K : PySem.W.Frag} {x dx C f : Addr} {mA : Str → Option Value} {name : Str} {v : Value}
theorem get_map {expr : Bool} {Q : Value → Shared → Prop} (X : K.In s.heap) (I : ObjM s.heap x dx C mA) (hg : PySem.W.plainGet K C name = true) (hh : PySem.W.hasDictIn K C = true)
    (ha : PySem.W.findIn K (.ref C) name = some none) (hv : mA name = some v) (hv' : PySem.W.handedIn v = true) (h : Q v { s with toks := s.toks + 1 }) :
    wpAny (model prog w) A (getAttr (.ref x) name expr) Q E s := by
  obtain ⟨od, J, hl⟩ := I.look
  exact PySem.W.get_value X J (PySem.W.plainGet_of hg).1 (PySem.W.findObj_own hh ha rfl (by rw [hl, hv])) hv' h
theorem get_meth {pl : Sem Bool} {Q : Value × List Value → Shared → Prop} (X : K.In s.heap) (I : ObjM s.heap x dx C mA) (hg : PySem.W.plainGet K C name = true)
    (hf : PySem.W.findIn K (.ref C) name = some (some (.ref f))) (ht : PySem.W.isFn K (.ref f) = true) (hv : mA name = none) (h : Q (.ref f, [.ref x]) s) :
    wpAny (model prog w) A (getMethod (.ref x) name pl) Q E s := by
  obtain ⟨od, J, hl⟩ := I.look
  exact PySem.W.method_fn X J (PySem.W.plainGet_of hg).1 (PySem.W.plainGet_of hg).2 hf (beq_iff_eq.mp ht) (by show (PySem.W.lookIn name od).map (·.isSome) = some false; rw [hl, hv]; rfl) h
theorem set_map {ns : List Str} {Q : Unit → Shared → Prop} (X : K.In s.heap) (I : ObjM s.heap x dx C mA)
    (hs : PySem.W.findIn K (.ref C) "__setattr__" = some (some (.builtin "object.__setattr__"))) (hp : PySem.W.plainOver K C = true) (ht : PySem.W.takerIn K C name = some none) (hh : PySem.W.hasDictIn K C = true)
    (hw : PySem.Within mA ns) (hsz : ns.length ≤ sizeLine)
    (h : ∀ h', ObjM h' x dx C (fun y => if y = name then some v else mA y) → Heap.SameBut dx s.heap h' → Q () { s with heap := h', toks := s.toks + 2 }) :
    wpAny (model prog w) A (setAttr (.ref x) name v) Q E s := by
  obtain ⟨od, J, hl⟩ := I.look
  refine PySem.W.set_plain X J hs (PySem.W.osa_open (s := { s with toks := s.toks + 1 }) (r := none) X J hp ht fun b => ?_)
  obtain ⟨cd, hc, hd'⟩ := PySem.W.any_some hh
  have hx : s.heap.get? x = some ⟨.ref C, some dx, .plain, #[]⟩ := I.obj
  refine wpAny_bind (wpAny_pure (wpAny_bind (wpAny_bind (wpAny_loadPart hx (wpAny_bind (PySem.W.Looks.here (s := { s with toks := s.toks + 1 }) (PySem.W.looks_clsIn X hc) ?_))))))
  rw [hd']
  refine wpAny_pure (a := some dx) (wpAny_bind (wpAny_pure (wpAny_bind ?_)))
  refine wpAny_nsSet1 (s := { s with toks := s.toks + 1 }) I.ns fun h' hn2 hs2 => ?_
  obtain ⟨oD, esD, epD, hoD, hdD, hcD⟩ := hn2.count (PySem.Within.cons name v hw)
  refine wpAny_bind (wpAny_lookBehind hoD (by rw [hdD]; exact pastItsLine_dict (Nat.le_trans hcD (by rw [List.length_cons]; omega))) ?_)
  exact wpAny_pure (h _ ⟨(hs2.2 _ (Ne.symm I.ne)).trans I.obj, hn2, I.ne⟩ hs2)
theorem make_map {R : Result → Shared → Prop} {vs : List Value} {kw : List (Str × Value)} (X : K.In s.heap) (hm : PySem.W.makesIn K C = true)
    (hi : PySem.W.findIn K (.ref C) "__init__" = some (some (.ref f))) (hf : PySem.W.typeIn K (.ref f) = some (.type "function"))
    (h : codeAny (model prog w) (A.under (.builtin "type.__call__" ⟨.ref C :: vs, kw⟩)) (.call (.ref f) ⟨.ref (s.heap.objs.size + 1) :: vs, kw⟩) (PySem.W.InitBack (s.heap.objs.size + 1) R)
      { s with heap := (s.heap.push PySem.W.emptyDict).push (PySem.W.instObj C s.heap.objs.size) }) :
    codeAny (model prog w) A (.call (.ref C) ⟨vs, kw⟩) R s := by
  obtain ⟨hh, g, d, t, os⟩ := s
  exact PySem.W.make_core (PySem.W.makes_of X hm) (PySem.W.looks_findIn X hi) (fun self => PySem.W.bind_fn X self hf) (.inl rfl) h
end
def putF (f : Str) (v : V) : List (Str × V) → List (Str × V)
  | [] => [(f, v)]
  | (g, x) :: r => if g = f then (g, v) :: r else (g, x) :: putF f v r
theorem lookup_putF (f g : Str) (v : V) : ∀ fs : List (Str × V), (putF f v fs).lookup g = if g = f then some v else fs.lookup g
  | [] => by
    show List.lookup g [(f, v)] = _
    by_cases h : g = f
    · have hb : (g == f) = true := beq_iff_eq.mpr h
      simp only [List.lookup, hb, if_pos h]
    · have hb : (g == f) = false := beq_eq_false_iff_ne.mpr h
      simp only [List.lookup, hb, if_neg h]
  | (k, x) :: r => by
    have ih := lookup_putF f g v r
    rw [show putF f v ((k, x) :: r) = (if k = f then (k, v) :: r else (k, x) :: putF f v r) from rfl]
    by_cases hk : k = f
    · rw [if_pos hk]
      by_cases h : g = k
      · have hb : (g == k) = true := beq_iff_eq.mpr h
        simp only [List.lookup, hb, if_pos (h.trans hk)]
      · have hb : (g == k) = false := beq_eq_false_iff_ne.mpr h
        simp only [List.lookup, hb, if_neg (fun e : g = f => h (e.trans hk.symm))]
    · rw [if_neg hk]
      by_cases h : g = k
      · have hb : (g == k) = true := beq_iff_eq.mpr h
        simp only [List.lookup, hb, if_neg (fun e : g = f => hk (h.symm.trans e))]
      · have hb : (g == k) = false := beq_eq_false_iff_ne.mpr h
        simp only [List.lookup, hb]
        exact ih
theorem keys_putF (f : Str) (v : V) : ∀ fs : List (Str × V), f ∈ (putF f v fs).map (·.1) ∧ ∀ g, g ∈ fs.map (·.1) → g ∈ (putF f v fs).map (·.1)
  | [] => ⟨by simp [putF], fun g h => by simp at h⟩
  | (k, x) :: r => by
    obtain ⟨i1, i2⟩ := keys_putF f v r
    rw [show putF f v ((k, x) :: r) = (if k = f then (k, v) :: r else (k, x) :: putF f v r) from rfl]
    by_cases hk : k = f
    · rw [if_pos hk]
      subst hk
      exact ⟨by simp, fun g h => by simpa using h⟩
    · rw [if_neg hk]
      refine ⟨?_, fun g h => ?_⟩
      · rw [List.map_cons]
        exact List.mem_cons_of_mem _ i1
      · rw [List.map_cons] at h ⊢
        rcases List.mem_cons.mp h with e | e
        · exact List.mem_cons.mpr (.inl e)
        · exact List.mem_cons_of_mem _ (i2 g e)
theorem length_putF (f : Str) (v : V) : ∀ fs : List (Str × V), (putF f v fs).length ≤ fs.length + 1
  | [] => by simp [putF]
  | (k, x) :: r => by
    have ih := length_putF f v r
    rw [show putF f v ((k, x) :: r) = (if k = f then (k, v) :: r else (k, x) :: putF f v r) from rfl]
    by_cases hk : k = f
    · rw [if_pos hk, List.length_cons, List.length_cons]; omega
    · rw [if_neg hk, List.length_cons, List.length_cons]; omega
theorem RelO.some_of {v : V} {o : Option Value} (r : RelO (some v) o) : ∃ u, o = some u ∧ RelV v u := by
  cases o with
  | none => exact (show False from r).elim
  | some u => exact ⟨u, rfl, r⟩
theorem RelO.none_of {o : Option Value} (r : RelO none o) : o = none := by
  cases o with
  | none => rfl
  | some u => exact (show False from r).elim
theorem handed_of {v : V} {u : Value} (r : RelV v u) : PySem.W.handedIn u = true := by
  cases v with
  | non => cases (show u = Value.none from r); rfl
  | bl b => cases (show u = Value.bool b from r); rfl
  | int i => obtain ⟨t, e⟩ := (show ∃ t, u = Value.int i t from r); cases e; rfl
  | str x => obtain ⟨t, e⟩ := (show ∃ t, u = Value.str x t from r); cases e; rfl
  | byt b => obtain ⟨t, e⟩ := (show ∃ t, u = Value.bytes b t from r); cases e; rfl
  | flt b => obtain ⟨t, e⟩ := (show ∃ t, u = Value.float b t from r); cases e; rfl
  | ref a => cases (show u = Value.ref a from r); rfl
  | ty n => cases (show u = Value.type n from r); rfl
section
variable {P : Program} {w : World} {H H' : Hp} {h h' : Heap} {a C dx : Addr} {fs fs' : List (Str × V)}
theorem ins_get (hok : HOk P w H h) (e : H a = some (.ins C dx fs)) : ∃ mA, ObjM h a dx C mA ∧ (∀ f, RelO (fs.lookup f) (mA f)) ∧ PySem.Within mA (fs.map (·.1)) ∧ fs.length ≤ 1000 ∧ H dx = some (.own a) := by
  obtain ⟨d, z, ne, ob, mA, n, r, q⟩ := (show ObjOk P w H h a (.ins C dx fs) from hok a _ e)
  exact ⟨mA, ⟨ob, n, ne⟩, r, q, z, d⟩
end
structure Cls (K : PySem.W.Frag) (C : Addr) : Prop where
  pg : PySem.W.plainGet K C Str.empty = true
  hd : PySem.W.hasDictIn K C = true
  po : PySem.W.plainOver K C = true
  sa : PySem.W.findIn K (.ref C) "__setattr__" = some (some (.builtin "object.__setattr__"))
theorem Cls.get {K : PySem.W.Frag} {C : Addr} (c : Cls K C) (f : Str) : PySem.W.plainGet K C f = true := c.pg
def NoAttr (K : PySem.W.Frag) (C : Addr) (f : Str) : Prop := PySem.W.findIn K (.ref C) f = some none
theorem NoAttr.taker {K : PySem.W.Frag} {C : Addr} {f : Str} (n : NoAttr K C f) : PySem.W.takerIn K C f = some none := by
  unfold PySem.W.takerIn
  rw [show PySem.W.findIn K (.ref C) f = some none from n]
  rfl
structure Con (K : PySem.W.Frag) (C : Addr) (f : Str) (v : V) (u : Value) : Prop where
  at_ : PySem.W.findIn K (.ref C) f = some (some u)
  rel : RelV v u
  get : PySem.W.specialIn K u "__get__" = some none
  cp : PySem.W.copiedNames.contains f = false
structure Meth (K : PySem.W.Frag) (C : Addr) (m : Str) (f : Addr) : Prop where
  at_ : PySem.W.findIn K (.ref C) m = some (some (.ref f))
  fn : PySem.W.isFn K (.ref f) = true
  kp : PySem.W.keepIn K (.ref f) = true
section
variable {X : Cx} {pins : List (Addr × Obj)} {σ : St} {H : Hp} {s : Shared} {a C dx : Addr} {fs : List (Str × V)} {f : Str} {v : V} {A : Around} {E : Value → Shared → Prop}
theorem getattr_ok {b : Bool} {Q : Value → Shared → Prop} (I : Inv X pins σ H s) (e : H a = some (.ins C dx fs)) (c : Cls X.K C) (n : NoAttr X.K C f) (l : fs.lookup f = some v)
    (h : ∀ u s', Inv X pins σ H s' → RelV v u → Q u s') : wpAny (model X.prog X.w) A (getAttr (.ref a) f b) Q E s := by
  obtain ⟨mA, O, r, _, _, _⟩ := ins_get I.hok e
  obtain ⟨u, hu, ru⟩ := RelO.some_of (v := v) (o := mA f) (by rw [← l]; exact r f)
  exact get_map I.kIn O (c.get f) c.hd n hu (handed_of ru) (h u _ (I.tok _) ru)
theorem getmeth_ok {m : Str} {g : Addr} {pl : Sem Bool} {Q : Value × List Value → Shared → Prop} (I : Inv X pins σ H s) (e : H a = some (.ins C dx fs)) (c : Cls X.K C) (k : Meth X.K C m g) (l : fs.lookup m = none)
    (h : Q (.ref g, [.ref a]) s) : wpAny (model X.prog X.w) A (getMethod (.ref a) m pl) Q E s := by
  obtain ⟨mA, O, r, _, _, _⟩ := ins_get I.hok e
  have hn : mA m = none := RelO.none_of (by rw [← l]; exact r m)
  exact get_meth I.kIn O (c.get m) k.at_ k.fn hn h
theorem setattr_ok {y : V} {u : Value} {Q : Unit → Shared → Prop} (I : Inv X pins σ H s) (e : H a = some (.ins C dx fs)) (c : Cls X.K C) (n : NoAttr X.K C f) (hl : fs.length < 1000) (ry : RelV y u)
    (h : ∀ s', Inv X pins σ (upd H a (.ins C dx (putF f y fs))) s' → Q () s') : wpAny (model X.prog X.w) A (setAttr (.ref a) f u) Q E s := by
  obtain ⟨mA, O, r, wi, _, ho⟩ := ins_get I.hok e
  have hz : (fs.map (·.1)).length ≤ sizeLine := by rw [List.length_map, sizeLine_eq]; omega
  refine set_map I.kIn O c.sa c.po n.taker c.hd wi hz fun h' O' sb => h _ ?_
  have hd : ∃ o, h'.get? dx = some o := let ⟨o, _, _, e', _⟩ := O'.ns; ⟨o, e'⟩
  refine I.write (x := a) (e := dx) (by rw [e]; exact True.intro) (.inr ho) (fun b q hb z => (sb.2 b hb).trans z) hd ?_
  refine ⟨by rw [upd_ne O.ne]; exact ho, ?_, O.ne, O'.obj, _, O'.ns, fun g => ?_, fun g hg => ?_⟩
  · have := length_putF f y fs; omega
  · show RelO ((putF f y fs).lookup g) (if g = f then some u else mA g)
    rw [lookup_putF]
    by_cases q : g = f
    · rw [if_pos q, if_pos q]; exact ry
    · rw [if_neg q, if_neg q]; exact r g
  · by_cases q : g = f
    · rw [q]; exact (keys_putF f y fs).1
    · refine (keys_putF f y fs).2 g (wi g fun z => hg ?_)
      show (if g = f then some u else mA g) = none
      rw [if_neg q]; exact z
theorem Inv.made (I : Inv X pins σ H s) : Inv X pins σ (upd (upd H s.heap.objs.size (.own (s.heap.objs.size + 1))) (s.heap.objs.size + 1) (.ins C s.heap.objs.size []))
    { s with heap := (s.heap.push PySem.W.emptyDict).push (PySem.W.instObj C s.heap.objs.size) } := by
  have e1 : (s.heap.push PySem.W.emptyDict).get? s.heap.objs.size = some PySem.W.emptyDict := Heap.get?_push_size s.heap rfl
  have e2 : ((s.heap.push PySem.W.emptyDict).push (PySem.W.instObj C s.heap.objs.size)).get? (s.heap.objs.size + 1) = some (PySem.W.instObj C s.heap.objs.size) := by
    have := Heap.get?_push_size (s.heap.push PySem.W.emptyDict) (o := PySem.W.instObj C s.heap.objs.size) rfl
    rwa [Heap.size_push] at this
  have e3 : (s.heap.push PySem.W.emptyDict).Ns s.heap.objs.size (fun _ => none) := ⟨PySem.W.emptyDict, #[], _, e1, rfl, (fun e he => absurd he (by simp)), fun _ => rfl⟩
  have I1 := I.laid (a := s.heap.objs.size) (o := .own (s.heap.objs.size + 1)) (h' := s.heap.push PySem.W.emptyDict) (t' := s.toks) (fun b u q => Heap.get?_push_of_some _ q) (Nat.le_refl _) ⟨_, e1⟩
  refine I1.laid (a := s.heap.objs.size + 1) (o := .ins C s.heap.objs.size []) (t' := s.toks) (fun b u q => Heap.get?_push_of_some _ q) (Nat.le_of_eq (Heap.size_push _ _)) ?_
  have ne : s.heap.objs.size ≠ s.heap.objs.size + 1 := Nat.ne_of_lt (Nat.lt_succ_self _)
  refine ⟨by rw [upd_ne ne, upd_same], Nat.zero_le _, ne, e2, fun _ => none, (Heap.Ns1.of_empty e3).at fun o q => Heap.get?_push_of_some _ q, fun _ => True.intro, fun y hy => absurd rfl hy⟩
theorem attr_of {prog : Program} {w : World} {env : Env} {e : Expr} {f : Str} {pos : Pos} {s : Shared} {Q : Value → Shared → Prop} (hb : attributeBase e f env (eval e env) = eval e env)
    (h : wpAny (model prog w) A (eval e env) (fun o s₁ => wpAny (model prog w) A (getAttr o f true) Q E s₁) E s) : wpAny (model prog w) A (eval (.Attribute e f pos) env) Q E s :=
  Attribute_any_ h (by rw [arm_eval_Attribute, hb])
end
def tFld (K : PySem.W.Frag) (ta : TE) (f : Str) : TE := fun σ H Q => ta σ H fun x H1 => ∃ a C dx fs v, x = .ref a ∧ H1 a = some (.ins C dx fs) ∧ Cls K C ∧ NoAttr K C f ∧ fs.lookup f = some v ∧ Q v H1
def sFld (K : PySem.W.Frag) (ta tv : TE) (f : Str) : TS := fun D σ H => tv σ H fun y H1 => ta σ H1 fun x H2 => ∃ a C dx fs, x = .ref a ∧ H2 a = some (.ins C dx fs) ∧ Cls K C ∧ NoAttr K C f ∧ fs.length < 1000 ∧
  D.nx σ (upd H2 a (.ins C dx (putF f y fs)))
section
variable {X : Cx} {o e value : Expr} {f : Str} {pos pos' tpos : Pos} {ta tv : TE}
theorem pe_fld (he : PE X e ta) (hb : attributeBase e f X.env (eval e X.env) = eval e X.env) : PE X (.Attribute e f pos) (tFld X.K ta f) := by
  intro pins s σ H Q I h
  refine attr_of hb (thn (he pins s σ H _ I h) fun u s1 ⟨x, H1, I1, rx, a, C, dx, fs, v, ex, ea, c, n, l, q⟩ => ?_)
  subst ex
  obtain rfl : u = Value.ref a := rx
  exact getattr_ok I1 ea c n l fun u' s2 I2 ru => ⟨v, H1, I2, ru, q⟩
theorem ps_fld (ha : PE X o ta) (hv : PE X value tv) (hs : swapsWith value (some (.Attribute o f pos')) pos.line X.env = pure false) : PS X (.Assign [.Attribute o f pos'] value pos) (sFld X.K ta tv f) := by
  intro pins s σ H D I h
  refine plainObj_wpAny_Assign_Attribute (thn (hv pins s σ H _ I h) fun u s1 ⟨y, H1, I1, ry, q⟩ => thn (ha pins s1 σ H1 _ I1 q) fun ov s2 ⟨x, H2, I2, rx, a, C, dx, fs, ex, ea, c, n, l, q2⟩ => ?_) hs
  subst ex
  obtain rfl : ov = Value.ref a := rx
  exact setattr_ok I2 ea c n l ry fun s3 I3 => ⟨σ, _, I3, q2⟩
end
section
variable {X : Cx} {pins : List (Addr × Obj)} {σ : St} {H : Hp} {s : Shared} {A : Around} {E : Value → Shared → Prop} {Q : Value → Shared → Prop} {c : Value} {b : Bool}
inductive TyOf (K : PySem.W.Frag) (H : Hp) : V → Value → Prop where
  | non : TyOf K H .non (.type "NoneType")
  | bl (x : Bool) : TyOf K H (.bl x) (.type "bool")
  | int (i : Int) : TyOf K H (.int i) (.type "int")
  | str (x : Str) : TyOf K H (.str x) (.type "str")
  | flt (x : UInt64) : TyOf K H (.flt x) (.type "float")
  | lst {a : Addr} {xs : List V} (e : H a = some (.lst xs)) : TyOf K H (.ref a) (.type "list")
  | frz {a : Addr} {o : Obj} {xs : List V} (e : H a = some (.frz o (.lst xs))) : TyOf K H (.ref a) (.type "list")
  | tup {a : Addr} {xs : List V} (e : H a = some (.tup xs)) : TyOf K H (.ref a) (.type "tuple")
  | dK {a : Addr} {kvs : List (Key × V)} (e : H a = some (.dK kvs)) : TyOf K H (.ref a) (.type "dict")
  | dT {a : Addr} {kvs : List (List Key × V)} (e : H a = some (.dT kvs)) : TyOf K H (.ref a) (.type "dict")
  | ins {a C dx : Addr} {fs : List (Str × V)} (e : H a = some (.ins C dx fs)) (cl : Cls K C) (ha : PySem.W.findIn K (.ref C) "__class__" = some (some (.builtin "object.__class__")))
      (hn : PySem.W.specialIn K (.builtin "object.__class__") "__get__" = some (some (.builtin "getset_descriptor.__get__"))) (htk : PySem.W.takesIn K (.builtin "object.__class__") = some true)
      (hm : PySem.W.mroIn K C (.type "object") = some true) : TyOf K H (.ref a) (.ref C)
theorem isinst_ok {x : V} {u t : Value} (I : Inv X pins σ H s) (rx : RelV x u) (ty : TyOf X.K H x t) (e : PySem.W.kitOne X.K t c = some b) (h : ∀ tk, Q (.bool b) { s with toks := tk }) :
    wpAny (model X.prog X.w) A (call (.builtin "isinstance") [u, c]) Q E s := by
  cases ty with
  | non => cases (show u = Value.none from rx); exact PySem.W.kia_one PySem.W.kitx_none I.kIn True.intro e (fun z => nomatch z) h
  | bl y => cases (show u = Value.bool y from rx); exact PySem.W.kia_one PySem.W.kitx_bool I.kIn True.intro e (fun z => nomatch z) h
  | int i => obtain ⟨t, q⟩ := (show ∃ t, u = Value.int i t from rx); cases q; exact PySem.W.kia_one PySem.W.kitx_int I.kIn True.intro e (fun z => nomatch z) h
  | str y => obtain ⟨t, q⟩ := (show ∃ t, u = Value.str y t from rx); cases q; exact PySem.W.kia_one PySem.W.kitx_str I.kIn True.intro e (fun z => nomatch z) h
  | flt y => obtain ⟨t, q⟩ := (show ∃ t, u = Value.float y t from rx); cases q; exact PySem.W.kia_one PySem.W.kitx_float I.kIn True.intro e (fun z => nomatch z) h
  | @lst a xs ea =>
    cases (show u = Value.ref a from rx)
    obtain ⟨_, _, n, _, h1⟩ := (show ObjOk X.prog X.w H s.heap a (.lst xs) from I.hok a _ ea)
    exact PySem.W.kia_one PySem.W.kitx_list I.kIn ⟨_, h1, rfl⟩ e (fun z => nomatch z) h
  | @frz a ob xs ea =>
    cases (show u = Value.ref a from rx)
    obtain ⟨_, _, _, n, _, h1⟩ := (show ObjOk X.prog X.w H s.heap a (.frz ob (.lst xs)) from I.hok a _ ea)
    exact PySem.W.kia_one PySem.W.kitx_list I.kIn ⟨_, h1, rfl⟩ e (fun z => nomatch z) h
  | @tup a xs ea =>
    cases (show u = Value.ref a from rx)
    obtain ⟨_, _, _, p⟩ := (show ObjOk X.prog X.w H s.heap a (.tup xs) from I.hok a _ ea)
    obtain ⟨o, h1, h2, _⟩ := p
    exact PySem.W.kia_one PySem.W.kitx_tuple I.kIn ⟨o, h1, h2⟩ e (fun z => nomatch z) h
  | @dK a kvs ea =>
    cases (show u = Value.ref a from rx)
    obtain ⟨_, _, vs, _, p⟩ := (show ObjOk X.prog X.w H s.heap a (.dK kvs) from I.hok a _ ea)
    obtain ⟨o, es, ep, h1, h2, _⟩ := p
    exact PySem.W.kia_one PySem.W.kitx_dict I.kIn ⟨o, h1, h2.1⟩ e (fun z => nomatch z) h
  | @dT a kvs ea =>
    cases (show u = Value.ref a from rx)
    obtain ⟨_, _, xs, _, o, es, ep, h1, h2, _⟩ := (show ObjOk X.prog X.w H s.heap a (.dT kvs) from I.hok a _ ea)
    exact PySem.W.kia_one PySem.W.kitx_dict I.kIn ⟨o, h1, h2.1⟩ e (fun z => nomatch z) h
  | @ins a C dx fs ea cl ha hn htk hm =>
    cases (show u = Value.ref a from rx)
    obtain ⟨mA, O, _⟩ := ins_get I.hok ea
    obtain ⟨od, J, _⟩ := O.look
    exact PySem.W.kia_one (PySem.W.kitx_own (cl.get _) cl.hd ha hn htk hm) I.kIn J e (fun z => nomatch z) h
end
end L2
namespace L2
open PySem PySem.Spec PyProof.Rows
structure Room (k : Nat) (A : Around) : Prop where
  hd : A.handled = none
  dp : A.depth + 3 * k + 5 < recursionLimit
  un : A.units + 16 * k + 200 < cLine
theorem Room.mono {j k : Nat} {A : Around} (r : Room k A) (h : j ≤ k) : Room j A := ⟨r.hd, by have := r.dp; omega, by have := r.un; omega⟩
theorem Room.deeper {k : Nat} {A : Around} (r : Room (k + 1) A) (env : Env) : Room k (A.deeper env) :=
  ⟨r.hd, by have := r.dp; show A.depth + 1 + 3 * k + 5 < _; omega, by have := r.un; show A.units + 3 + 16 * k + 200 < _; omega⟩
theorem Room.in1 {k : Nat} {A : Around} (r : Room (k + 1) A) : Room k A.in1 :=
  ⟨r.hd, by have := r.dp; show A.depth + 3 * k + 5 < _; omega, by have := r.un; show A.units + 1 + 16 * k + 200 < _; omega⟩
theorem make_depth {A : Around} {C : Addr} {us : List Value} {kw : List (Str × Value)} : (A.under (.builtin "type.__call__" ⟨.ref C :: us, kw⟩)).depth = A.depth + 1 := by
  first | rfl | simp [Around.under, Code.weight, Code.isCreation, Code.isGuard, Code.isCaller, Code.frames, Code.isFrame, guardIds]
theorem make_units {A : Around} {C : Addr} {us : List Value} {kw : List (Str × Value)} : (A.under (.builtin "type.__call__" ⟨.ref C :: us, kw⟩)).units = A.units + 1 := by
  first | rfl | simp [Around.under, Code.cUnits, Code.frames, Code.isFrame]
theorem Room.make {k : Nat} {A : Around} (r : Room (k + 1) A) (C : Addr) (us : List Value) (kw : List (Str × Value)) : Room k (A.under (.builtin "type.__call__" ⟨.ref C :: us, kw⟩)) :=
  ⟨r.hd, by have := r.dp; rw [make_depth]; omega, by have := r.un; rw [make_units]; omega⟩
theorem Room.depth {k : Nat} {A : Around} (r : Room k A) : A.depth < recursionLimit := by have := r.dp; omega
theorem Room.units {k : Nat} {A : Around} (r : Room k A) : A.units + 64 < cLine := by have := r.un; omega
def tNil : TA := fun _ H Q => Q [] H
def tCons (ta : TE) (tr : TA) : TA := fun σ H Q => ta σ H fun x H1 => tr σ H1 fun xs H2 => Q (x :: xs) H2
section
variable {X : Cx} {e : Expr} {es : List Expr} {te : TE} {t : TA} {pos : Pos}
theorem pa_nil : PA X [] tNil := fun _ _ _ _ H Q I h => Calls.spliced_nil ⟨[], H, I, .nil, h⟩
theorem pa_cons (ha : PE X e te) (hr : PA X es t) (hs : starEach (e :: es) X.env = (false, eval e X.env) :: starEach es X.env := by rfl) : PA X (e :: es) (tCons te t) := by
  intro pos pins s σ H Q I h
  rw [hs]
  show wpAny _ _ (spliced ((false, eval e X.env) :: backTo pos (starEach es X.env))) _ _ s
  refine Calls.spliced_cons (thn (ha pins s σ H _ I h) fun u s1 ⟨x, H1, I1, r1, q1⟩ => ?_)
  exact thn (hr pos pins s1 σ H1 _ I1 q1) fun us s2 ⟨xs, H2, I2, r2, q2⟩ => ⟨x :: xs, H2, I2, .cons r1 r2, q2⟩
def tTup (t : TA) : TE := fun σ H Q => t σ H fun xs H1 => xs.length ≤ sizeLine ∧ ∀ p, H1 p = none → Q (.ref p) (upd H1 p (.tup xs))
def tLst (t : TA) : TE := fun σ H Q => t σ H fun xs H1 => xs.length ≤ sizeLine ∧ ∀ p, H1 p = none → Q (.ref p) (upd H1 p (.lst xs))
theorem pe_tup {x1} (h : PA X es t) : PE X (.Tuple es x1 pos) (tTup t) := by
  intro pins s σ H Q I hq
  refine wpAny_Tuple_spliced (thn (h pos pins s σ H _ I hq) fun us s1 ⟨xs, H1, I1, r, z, q⟩ => ⟨by rw [← r.length]; exact z, ?_⟩)
  have hf : H1 s1.heap.objs.size = none := I1.hok.fresh (Nat.le_refl _)
  refine ⟨.ref s1.heap.objs.size, upd H1 s1.heap.objs.size (.tup xs), I1.laid (t' := s1.toks) (fun b u e => Heap.get?_push_of_some _ e) (Nat.le_refl _) ?_, rfl, q _ hf⟩
  exact ⟨z, us, r, ⟨_, Heap.get?_push_size _ rfl, rfl, _, rfl⟩⟩
theorem pe_lst (h : PA X es t) : PE X (.List es pos) (tLst t) := by
  intro pins s σ H Q I hq
  refine wpAny_List_spliced (thn (h pos pins s σ H _ I hq) fun us s1 ⟨xs, H1, I1, r, z, q⟩ => ⟨by rw [← r.length]; exact z, ?_⟩)
  have hf : H1 s1.heap.objs.size = none := I1.hok.fresh (Nat.le_refl _)
  refine ⟨.ref s1.heap.objs.size, upd H1 s1.heap.objs.size (.lst xs), I1.laid (t' := s1.toks) (fun b u e => Heap.get?_push_of_some _ e) (Nat.le_refl _) ?_, rfl, q _ hf⟩
  exact ⟨z, us, 0, r, Heap.get?_push_size _ rfl⟩
end
abbrev Sp := List V → Hp → VK → XK → Prop
abbrev CXT := List Env → Hp → Shared → XK → Value → Shared → Prop
structure Env0 (P : Program) (w : World) (K : PySem.W.Frag) (mg : Str → Option Value) (base : Heap) (A : Around) (outer : List Env) (s : Shared) (H : Hp) : Prop where
  frames : A.frames = some outer
  mod : Mod K mg base
  bs : ∀ b o, base.get? b = some o → s.heap.get? b = some o ∧ H b = none
  bsz : base.objs.size ≤ s.heap.objs.size
  funs : s.heap.FunFrames base outer
  frf : ∀ b ∈ frs outer, H b = none
  hok : HOk P w H s.heap
  bare : AllBare s.gens
def CE (outer : List Env) (P : Program) (w : World) (H : Hp) (s : Shared) (Q : VK) (u : Value) (s' : Shared) : Prop :=
  ∃ v H', s'.os = s.os ∧ AllBare s'.gens ∧ Un (frs outer) [] H H' s.heap s'.heap ∧ HOk P w H' s'.heap ∧ RelV v u ∧ Q v H'
def CR (CX : CXT) (outer : List Env) (P : Program) (w : World) (H : Hp) (s : Shared) (Q : VK) (E : XK) (r : Result) (s' : Shared) : Prop :=
  match r with
  | .ok (.ret u) => CE outer P w H s Q u s'
  | .ok _ => False
  | .error e => CX outer H s E e s'
structure FnOk (P : Program) (w : World) (K : PySem.W.Frag) (mg : Str → Option Value) (base : Heap) (CX : CXT) (k : Nat) (f : Addr) (fd : FuncData) (ps : List Str) (sp : Sp) : Prop where
  len : ∀ vs H Q E, sp vs H Q E → vs.length = ps.length
  run : ∀ (A : Around) (outer : List Env) (s : Shared) (H : Hp) (args : Args) (us : List Value) (vs : List V) (Q : VK) (E : XK), Room k A → Env0 P w K mg base A outer s H → BindsTo s fd args (ps.zip us) → Vals vs us → sp vs H Q E →
    codeAny (model P w) A (.call (.ref f) args) (CR CX outer P w H s Q E) s
theorem FnOk.mono {P : Program} {w : World} {K : PySem.W.Frag} {mg : Str → Option Value} {base : Heap} {CX : CXT} {j k : Nat} {f : Addr} {fd : FuncData} {ps : List Str} {sp : Sp} (F : FnOk P w K mg base CX j f fd ps sp) (h : j ≤ k) :
    FnOk P w K mg base CX k f fd ps sp := ⟨F.len, fun A outer s H args us vs Q E hr => F.run A outer s H args us vs Q E (hr.mono h)⟩
theorem FnOk.imp {P : Program} {w : World} {K : PySem.W.Frag} {mg : Str → Option Value} {base : Heap} {CX : CXT} {k : Nat} {f : Addr} {fd : FuncData} {ps : List Str} {sp sp' : Sp} (F : FnOk P w K mg base CX k f fd ps sp)
    (h : ∀ vs H Q E, sp' vs H Q E → sp vs H Q E) : FnOk P w K mg base CX k f fd ps sp' :=
  ⟨fun vs H Q E q => F.len vs H Q E (h _ _ _ _ q), fun A outer s H args us vs Q E hr he hb hv hs => F.run A outer s H args us vs Q E hr he hb hv (h _ _ _ _ hs)⟩
theorem Env0.make {P : Program} {w : World} {K : PySem.W.Frag} {mg : Str → Option Value} {base : Heap} {A : Around} {outer : List Env} {s : Shared} {H : Hp} (e : Env0 P w K mg base A outer s H) (C : Addr) (us : List Value) (kw : List (Str × Value)) :
    Env0 P w K mg base (A.under (.builtin "type.__call__" ⟨.ref C :: us, kw⟩)) outer s H := ⟨by first | exact e.frames | (simpa [Around.under, Code.envs, Code.isFrame, pushEnvs] using e.frames), e.mod, e.bs, e.bsz, e.funs, e.frf, e.hok, e.bare⟩
theorem Env0.in1 {P : Program} {w : World} {K : PySem.W.Frag} {mg : Str → Option Value} {base : Heap} {A : Around} {outer : List Env} {s : Shared} {H : Hp} (e : Env0 P w K mg base A outer s H) :
    Env0 P w K mg base A.in1 outer s H := ⟨e.frames, e.mod, e.bs, e.bsz, e.funs, e.frf, e.hok, e.bare⟩
section
variable {X : Cx} {pins : List (Addr × Obj)} {σ : St} {H : Hp} {s s' : Shared}
theorem Inv.env0 (I : Inv X pins σ H s) : Env0 X.prog X.w X.K X.mg X.base X.A X.stack s H :=
  ⟨I.ok.frames, I.ok.mod, I.bs, Nat.le_trans I.ok.bsz I.sz, I.stack, I.stkFree, I.hok, I.bare⟩
theorem Inv.after {Q : VK} {u : Value} (I : Inv X pins σ H s) (h : CE X.stack X.prog X.w H s Q u s') : EP X pins σ Q u s' := by
  obtain ⟨v, H', os, bare, un, hok, r, q⟩ := h
  obtain ⟨hh, g, d, t, os'⟩ := s'
  obtain rfl : os' = s.os := os
  exact ⟨v, H', I.call (h' := hh) (g' := g) (d' := d) (t' := t) (ch := []) un hok bare (fun b z => absurd z (by simp)), r, q⟩
end
def tCall (sp : Sp) (dvs : List V) (E : XK) (t : TA) : TE := fun σ H Q => t σ H fun vs H1 => sp (vs ++ dvs) H1 Q E
def tMeth (C : Addr) (m : Str) (sp : Sp) (dvs : List V) (E : XK) (ta : TE) (t : TA) : TE := fun σ H Q => ta σ H fun x H1 => ∃ a dx fs, x = .ref a ∧ H1 a = some (.ins C dx fs) ∧ fs.lookup m = none ∧
  t σ H1 fun vs H2 => sp (x :: (vs ++ dvs)) H2 Q E
def tMake (C : Addr) (sp : Sp) (dvs : List V) (E : XK) (t : TA) : TE := fun σ H Q => t σ H fun vs H1 => ∀ x dx, H1 x = none → H1 dx = none → dx ≠ x →
  sp (.ref x :: (vs ++ dvs)) (upd (upd H1 dx (.own x)) x (.ins C dx [])) (fun v H2 => v = .non ∧ Q (.ref x) H2) E
def Binds (K : PySem.W.Frag) (fd : FuncData) (ps : List Str) (ds : List Value) : Prop :=
  ∀ (s : Shared) (us : List Value), K.In s.heap → (us ++ ds).length = ps.length → BindsTo s fd ⟨us, []⟩ (ps.zip (us ++ ds))
theorem Binds.all {K : PySem.W.Frag} {fd : FuncData} {ps : List Str} (h : ∀ us : List Value, us.length = ps.length → bindArgs fd ⟨us, []⟩ = pure (ps.zip us)) : Binds K fd ps [] := fun s us _ hl => by
  rw [List.append_nil] at hl ⊢
  exact .of_eq (h us hl)
def Passes (CX : CXT) (X : Cx) (E : XK) : Prop := ∀ (pins : List (Addr × Obj)) (σ : St) (H : Hp) (s : Shared) (e : Value) (s' : Shared), Inv X pins σ H s → CX X.stack H s E e s' → X.xe e s'
section
variable {X : Cx} {CX : CXT} {k : Nat} {f C : Addr} {fd : FuncData} {ps : List Str} {sp : Sp} {dvs : List V} {ds : List Value} {E : XK} {x m : Str} {p pos apos : Pos} {e o : Expr} {es : List Expr} {ta : TE} {t : TA}
theorem run_fn {pins : List (Addr × Obj)} {σ : St} {H : Hp} {s : Shared} {Q : VK} {us : List Value} {vs : List V} (F : FnOk X.prog X.w X.K X.mg X.base CX k f fd ps sp) (hr : Room k X.A) (hb : Binds X.K fd ps ds) (hd : Vals dvs ds) (hx : Passes CX X E)
    (I : Inv X pins σ H s) (r : Vals vs us) (h : sp (vs ++ dvs) H Q E) : wpAny (model X.prog X.w) X.A (call (.ref f) us) (EP X pins σ Q) X.xe s := by
  have r2 : Vals (vs ++ dvs) (us ++ ds) := r.append hd
  have hl : (us ++ ds).length = ps.length := by rw [← r2.length]; exact F.len _ _ _ _ h
  refine wpAny_call (codeAny_mono (F.run X.A X.stack s H ⟨us, []⟩ (us ++ ds) (vs ++ dvs) Q E hr I.env0 (hb s us I.kIn hl) r2 h) fun r s' hq => ?_)
  cases r with
  | error e => exact hx pins σ H s e s' I hq
  | ok fl =>
    cases fl with
    | ret u => exact I.after hq
    | next => exact False.elim hq
    | brk => exact False.elim hq
    | cont => exact False.elim hq
theorem pe_call (F : FnOk X.prog X.w X.K X.mg X.base CX k f fd ps sp) (hr : Room k X.A) (hg : Gl X x) (hm : X.mg x = some (.ref f)) (hk : PySem.W.keepIn X.K (.ref f) = true) (hb : Binds X.K fd ps ds) (hd : Vals dvs ds) (hx : Passes CX X E)
    (ha : PA X (e :: es) t) (hdb : (x == ("__debug__" : Str)) = false := by decide) (he : starEach (e :: es) X.env = (false, eval e X.env) :: starEach es X.env := by rfl) (hpl : (backTo pos (starEach es X.env)).any (·.1) = false := by rfl) :
    PE X (.Call (.Name x p) (e :: es) [] pos) (tCall sp dvs E t) := by
  intro pins s σ H Q I h
  refine wpAny_Call_Name_kw (ld_glob I hg hm ?_ hdb)
  refine PySem.W.callWith_K (h₀ := X.base) I.ok.mod.kin hk (thn (ha pos pins s σ H _ I h) fun us s1 ⟨vs, H1, I1, r, q⟩ => ⟨I1.kIn, ?_⟩) he hpl
  exact run_fn F hr hb hd hx I1 r q
theorem pe_meth {pl : Sem Bool} (he : PE X o ta) (c : Cls X.K C) (hm : Meth X.K C m f) (F : FnOk X.prog X.w X.K X.mg X.base CX k f fd ps sp) (hr : Room k X.A) (hb : Binds X.K fd ps ds) (hd : Vals dvs ds) (hx : Passes CX X E) (ha : PA X (e :: es) t)
    (hst : starEach (e :: es) X.env = (false, eval e X.env) :: starEach es X.env := by rfl) (hpl : (backTo pos (starEach es X.env)).any (·.1) = false := by rfl)
    (ht : eval (.Call (.Attribute o m apos) (e :: es) [] pos) X.env = (do
      let ov ← eval o X.env
      standAt apos.atName
      let (f, first) ← holding [ov] (getMethod ov m pl)
      callWith pos f first (backTo pos (starEach (e :: es) X.env)) (backToKw pos (keywordEach [] X.env))) := by rfl) :
    PE X (.Call (.Attribute o m apos) (e :: es) [] pos) (tMeth C m sp dvs E ta t) := by
  intro pins s σ H Q I h
  refine PySem.W.methodCall_KW (pl := pl) (thn (he pins s σ H _ I h) fun u s1 ⟨x, H1, I1, rx, a, dx, fs, ex, ea, l, q⟩ => ?_) ht
  subst ex
  obtain rfl : u = Value.ref a := rx
  refine getmeth_ok I1 ea c hm l ?_
  refine PySem.W.callWith_K (first := [.ref a]) (h₀ := X.base) I.ok.mod.kin hm.kp (thn (ha pos pins s1 σ H1 _ I1 q) fun us s2 ⟨vs, H2, I2, r, q2⟩ => ⟨I2.kIn, ?_⟩) hst hpl
  exact run_fn (us := .ref a :: us) (vs := .ref a :: vs) F hr hb hd hx I2 (.cons rfl r) q2
theorem pe_meth0 {pl : Sem Bool} (he : PE X o ta) (c : Cls X.K C) (hm : Meth X.K C m f) (F : FnOk X.prog X.w X.K X.mg X.base CX k f fd ps sp) (hr : Room k X.A) (hb : Binds X.K fd ps ds) (hd : Vals dvs ds) (hx : Passes CX X E)
    (ht : eval (.Call (.Attribute o m apos) [] [] pos) X.env = (do
      let ov ← eval o X.env
      standAt apos.atName
      let (f, first) ← holding [ov] (getMethod ov m pl)
      callWith pos f first (backTo pos (starEach [] X.env)) (backToKw pos (keywordEach [] X.env))) := by rfl) :
    PE X (.Call (.Attribute o m apos) [] [] pos) (tMeth C m sp dvs E ta tNil) := by
  intro pins s σ H Q I h
  refine PySem.W.methodCall_KW (pl := pl) (thn (he pins s σ H _ I h) fun u s1 ⟨x, H1, I1, rx, a, dx, fs, ex, ea, l, q⟩ => ?_) ht
  subst ex
  obtain rfl : u = Value.ref a := rx
  refine getmeth_ok I1 ea c hm l ?_
  exact PySem.W.callWith_K0 (first := [.ref a]) I1.kIn hm.kp (run_fn (us := [.ref a]) (vs := [.ref a]) F hr hb hd hx I1 (.cons rfl .nil) q)
structure Mk (K : PySem.W.Frag) (C f : Addr) : Prop where
  makes : PySem.W.makesIn K C = true
  init : PySem.W.findIn K (.ref C) "__init__" = some (some (.ref f))
  fn : PySem.W.isFn K (.ref f) = true
  kp : PySem.W.keepIn K (.ref C) = true
theorem run_make {pins : List (Addr × Obj)} {σ : St} {H : Hp} {s : Shared} {Q : VK} {us : List Value} {vs : List V} (M : Mk X.K C f) (F : FnOk X.prog X.w X.K X.mg X.base CX k f fd ps sp) (hr : Room (k + 1) X.A) (hb : Binds X.K fd ps ds) (hd : Vals dvs ds)
    (hx : Passes CX X E) (I : Inv X pins σ H s) (r : Vals vs us)
    (h : ∀ x dx, H x = none → H dx = none → dx ≠ x → sp (.ref x :: (vs ++ dvs)) (upd (upd H dx (.own x)) x (.ins C dx [])) (fun v H2 => v = .non ∧ Q (.ref x) H2) E) :
    wpAny (model X.prog X.w) X.A (call (.ref C) us) (EP X pins σ Q) X.xe s := by
  have hq := h (s.heap.objs.size + 1) s.heap.objs.size (I.hok.fresh (Nat.le_succ _)) (I.hok.fresh (Nat.le_refl _)) (Nat.ne_of_lt (Nat.lt_succ_self _))
  have I2 := Inv.made (C := C) I
  have r2 : Vals (V.ref (s.heap.objs.size + 1) :: (vs ++ dvs)) (Value.ref (s.heap.objs.size + 1) :: (us ++ ds)) := .cons rfl (r.append hd)
  have hl : (Value.ref (s.heap.objs.size + 1) :: us ++ ds).length = ps.length := by
    have e := r2.length
    rw [F.len _ _ _ _ hq] at e
    exact e.symm
  refine wpAny_call (make_map (f := f) I.kIn M.makes M.init (beq_iff_eq.mp M.fn) (codeAny_mono (F.run _ X.stack _ _ ⟨Value.ref (s.heap.objs.size + 1) :: us, []⟩ (Value.ref (s.heap.objs.size + 1) :: (us ++ ds)) _ _ E (hr.make C us [])
    (I2.env0.make C us []) (hb _ (Value.ref (s.heap.objs.size + 1) :: us) I2.kIn hl) r2 hq) fun r s' hq' => ?_))
  cases r with
  | error e => exact hx pins σ _ _ e s' I2 hq'
  | ok fl =>
    cases fl with
    | ret u =>
      obtain ⟨v, H', I3, rv, ev, q3⟩ := I2.after hq'
      subst ev
      exact ⟨rv, ⟨V.ref (s.heap.objs.size + 1), H', I3, rfl, q3⟩⟩
    | next => exact False.elim hq'
    | brk => exact False.elim hq'
    | cont => exact False.elim hq'
theorem pe_make (M : Mk X.K C f) (F : FnOk X.prog X.w X.K X.mg X.base CX k f fd ps sp) (hr : Room (k + 1) X.A) (hg : Gl X x) (hm : X.mg x = some (.ref C)) (hb : Binds X.K fd ps ds) (hd : Vals dvs ds) (hx : Passes CX X E)
    (ha : PA X (e :: es) t) (hdb : (x == ("__debug__" : Str)) = false := by decide) (he : starEach (e :: es) X.env = (false, eval e X.env) :: starEach es X.env := by rfl) (hpl : (backTo pos (starEach es X.env)).any (·.1) = false := by rfl) :
    PE X (.Call (.Name x p) (e :: es) [] pos) (tMake C sp dvs E t) := by
  intro pins s σ H Q I h
  refine wpAny_Call_Name_kw (ld_glob I hg hm ?_ hdb)
  refine PySem.W.callWith_K (h₀ := X.base) I.ok.mod.kin M.kp (thn (ha pos pins s σ H _ I h) fun us s1 ⟨vs, H1, I1, r, q⟩ => ⟨I1.kIn, ?_⟩) he hpl
  exact run_make M F hr hb hd hx I1 r q
end
section
variable {X : Cx} {CX : CXT} {k : Nat} {f C : Addr} {fd : FuncData} {ps ks : List Str} {sp : Sp} {E : XK} {x m : Str} {p pos apos kpos : Pos} {e o : Expr} {es : List Expr} {kws : List Keyword} {te ta : TE} {t tk : TA} {nm : Option Str}
structure KBinds (K : PySem.W.Frag) (fd : FuncData) (ps ks : List Str) (g : List Value → List Value → List Value) (gV : List V → List V → List V) : Prop where
  to : ∀ (s : Shared) (us ws : List Value), K.In s.heap → (g us ws).length = ps.length → BindsTo s fd ⟨us, ks.zip ws⟩ (ps.zip (g us ws))
  rel : ∀ {vs : List V} {us : List Value} {zs : List V} {ws : List Value}, Vals vs us → Vals zs ws → Vals (gV vs zs) (g us ws)
variable {g : List Value → List Value → List Value} {gV : List V → List V → List V}
end
structure FnScope (N P : List Str) (sc : Scope) : Prop where
  kind : sc.kind = .function
  co : sc.isCoroutine = false
  gen : sc.isGenerator = false
  nd : N.Nodup
  pre : N.take P.length = P
  par : ∀ x ∈ P, sc.names.lookup x = some .local ∨ sc.names.lookup x = some .cell
  nofree : ∀ y ∈ sc.names, y.2 ≠ .free
theorem bindL_out {kindOf : Str → Option NameKind} {x : Str} : ∀ {binds : List (Str × Value)} {m : Str → Option Value}, (∀ v, (x, v) ∉ binds) → bindL kindOf binds m x = m x
  | [], _, _ => rfl
  | (n, v) :: r, m, h => by
    unfold bindL
    rw [bindL_out fun w hw => h w (List.mem_cons_of_mem _ hw)]
    split
    · have : x ≠ n := by rintro rfl; exact h v List.mem_cons_self
      simp [this]
    · rfl
theorem bindC_out {kindOf : Str → Option NameKind} {x : Str} : ∀ {binds : List (Str × Value)} {m : Str → Option Value}, (∀ v, (x, v) ∉ binds) → bindC kindOf binds m x = m x
  | [], _, _ => rfl
  | (n, v) :: r, m, h => by
    unfold bindC
    rw [bindC_out fun w hw => h w (List.mem_cons_of_mem _ hw)]
    split
    · rfl
    · have : x ≠ n := by rintro rfl; exact h v List.mem_cons_self
      simp [this]
theorem bindL_get {kindOf : Str → Option NameKind} {x : Str} {v : Value} : ∀ {P : List Str} {vs : List Value} {i : Nat} {m : Str → Option Value}, P.Nodup → P[i]? = some x → vs[i]? = some v → kindOf x = some .local →
    bindL kindOf (P.zip vs) m x = some v
  | [], _, _, _, _, h, _, _ => by simp at h
  | _ :: _, [], _, _, _, _, h, _ => by simp at h
  | p :: P, w :: vs, 0, m, nd, h1, h2, hk => by
    simp at h1 h2; subst h1; subst h2
    show bindL kindOf ((p, w) :: P.zip vs) m p = _
    unfold bindL
    rw [bindL_out fun v hv => (List.nodup_cons.mp nd).1 (List.of_mem_zip hv).1, if_pos hk]
    simp
  | p :: P, w :: vs, i + 1, m, nd, h1, h2, hk => by
    show bindL kindOf ((p, w) :: P.zip vs) m x = _
    unfold bindL
    exact bindL_get (i := i) (List.nodup_cons.mp nd).2 (by simpa using h1) (by simpa using h2) hk
theorem bindC_get {kindOf : Str → Option NameKind} {x : Str} {v : Value} : ∀ {P : List Str} {vs : List Value} {i : Nat} {m : Str → Option Value}, P.Nodup → P[i]? = some x → vs[i]? = some v → kindOf x ≠ some .local →
    bindC kindOf (P.zip vs) m x = some v
  | [], _, _, _, _, h, _, _ => by simp at h
  | _ :: _, [], _, _, _, _, h, _ => by simp at h
  | p :: P, w :: vs, 0, m, nd, h1, h2, hk => by
    simp at h1 h2; subst h1; subst h2
    show bindC kindOf ((p, w) :: P.zip vs) m p = _
    unfold bindC
    rw [bindC_out fun v hv => (List.nodup_cons.mp nd).1 (List.of_mem_zip hv).1, if_neg hk]
    simp
  | p :: P, w :: vs, i + 1, m, nd, h1, h2, hk => by
    show bindC kindOf ((p, w) :: P.zip vs) m x = _
    unfold bindC
    exact bindC_get (i := i) (List.nodup_cons.mp nd).2 (by simpa using h1) (by simpa using h2) hk
def start (N : List Str) (vs : List V) : St := vs.map some ++ List.replicate (N.length - vs.length) none
def cxOf (CX : CXT) (P : Program) (w : World) (K : PySem.W.Frag) (mg : Str → Option Value) (base : Heap) (N : List Str) (qual : Str) (scope : Scope) (f : Addr) (cd : Value) (A : Around) (outer : List Env) (s : Shared) (H : Hp) (E : XK) : Cx where
  prog := P
  w := w
  K := K
  mg := mg
  base := base
  A := A.deeper (envOfC qual scope s.heap.objs.size f cd)
  N := N
  s₀ := s
  H₀ := H
  env := envOfC qual scope s.heap.objs.size f cd
  outer := outer
  stack := envOfC qual scope s.heap.objs.size f cd :: outer
  ex := []
  calm := true
  fn := fun _ => true
  pn := []
  xe := fun e s' => wpAny (model P w) (A.deeper (envOfC qual scope s.heap.objs.size f cd)) (leaving (envOfC qual scope s.heap.objs.size f cd) e) (fun _ s'' => CX outer H s E e s'') (fun e' s'' => CX outer H s E e' s'') s'
theorem cell_has {sc : Scope} {n : Nat} {x : Str} (h : sc.names.lookup x = some .cell) : ∃ c, (cellsFrom n sc.names []).lookup x = some c := by
  have q := PySem.W.cellsFrom_some sc.names n [] (.inl h)
  exact Option.isSome_iff_exists.mp q
theorem inv_start {CX : CXT} {P : Program} {w : World} {K : PySem.W.Frag} {mg : Str → Option Value} {base : Heap} {N ps : List Str} {qual : Str} {scope : Scope} {f : Addr} {cd : Value} {A : Around} {outer : List Env} {s s1 : Shared} {H : Hp} {E : XK} {us : List Value} {vs : List V}
    (S : FnScope N ps scope) (hd : A.handled = none) (e0 : Env0 P w K mg base A outer s H) (hl : vs.length = ps.length) (r : Vals vs us)
    (x : InCallC s s.heap.objs.size (bindL (envOfC qual scope s.heap.objs.size f cd).kindOf (ps.zip us) fun _ => none) (cellsFrom (s.heap.objs.size + 1) scope.names []) (bindC (envOfC qual scope s.heap.objs.size f cd).kindOf (ps.zip us) fun _ => none) s1) :
    Inv (cxOf CX P w K mg base N qual scope f cd A outer s H E) [] (start N vs) H s1 := by
  have hpl : ps.length ≤ N.length := by have := congrArg List.length S.pre; rw [List.length_take] at this; omega
  obtain ⟨h1, tk, rfl, hk⟩ := x.done
  have noA : ∀ b : Addr, b ∉ (cxOf CX P w K mg base N qual scope f cd A outer s H E).ex := fun b z => absurd (show b ∈ ([] : List Addr) from z) (by simp)
  refine ⟨⟨e0.mod, S.kind, rfl, rfl, Nat.le_refl _, fun y z c h1 h2 => ?_, fun y hy => ?_, fun y c _ h => ?_, fun _ => hd, Around.frames_deeper e0.frames, .inr ⟨rfl, rfl⟩, fun b z => absurd z (noA b), e0.bs, e0.bsz, fun b _ _ => noA b, fun b z => absurd z (noA b), e0.funs, e0.frf⟩,
    rfl, e0.bare, Un.kept hk, ⟨_, x.toInCall.ns, fun i y v h1 h2 h3 => ?_⟩, fun y c h => ⟨_, x.cell y c h⟩, e0.hok.fresh (Nat.le_refl _), fun y c h => ?_, fun p hp => absurd (show p ∈ ([] : List (Addr × Obj)) from hp) (by simp), e0.hok.kept hk, ?_⟩
  · exact name_of_addr x.apart (PySem.mem_of_lookup h1) (PySem.mem_of_lookup h2)
  · have hy : scope.names.lookup y = some .cell ∨ scope.names.lookup y = some .free := hy
    rcases hy with hy | hy
    · exact cell_has hy
    · exact absurd rfl (S.nofree _ (PySem.mem_of_lookup hy))
  · exact Nat.le_of_lt (x.above y c (PySem.mem_of_lookup h))
  · have hi : i < vs.length := by
      unfold start at h2
      by_cases hi : i < vs.length
      · exact hi
      · rw [List.getElem?_append_right (by simpa using hi)] at h2
        rw [List.getElem?_replicate] at h2
        split at h2 <;> cases h2
    have ha : vs[i]? = some v := by
      unfold start at h2
      rw [List.getElem?_append_left (by simpa using hi), List.getElem?_map] at h2
      cases e : vs[i]? with
      | none => rw [e] at h2; cases h2
      | some a => rw [e] at h2; cases h2; rfl
    obtain ⟨u, hu, rv⟩ := r.get ha
    have hp : ps[i]? = some y := by
      rw [← S.pre, List.getElem?_take_of_lt (by omega)]; exact h1
    have ndP : ps.Nodup := by rw [← S.pre]; exact S.nd.sublist (List.take_sublist _ _)
    refine ⟨u, rv, ?_⟩
    rcases S.par y (List.mem_of_getElem? hp) with k | k
    · exact .inl ⟨k, bindL_get ndP hp hu k⟩
    · obtain ⟨c, e⟩ := cell_has (n := s.heap.objs.size + 1) k
      refine .inr ⟨.inl k, c, e, ?_⟩
      have q := x.cell y c e
      rw [bindC_get ndP hp hu (by show scope.names.lookup y ≠ _; rw [k]; decide)] at q
      exact q
  · exact e0.hok.fresh (Nat.le_of_lt (x.above y c (PySem.mem_of_lookup h)))
  · unfold start
    show _ = N.length
    rw [List.length_append, List.length_map, List.length_replicate]
    omega
theorem fn_of {CX : CXT} {P : Program} {w : World} {K : PySem.W.Frag} {mg : Str → Option Value} {base : Heap} {k : Nat} {f : Addr} {name qual : Str} {params : Arguments} {body : List Stmt} {scope : Scope} {dV kV doc pm cdv ct oc : Value} {an od : Option Addr}
    {osl : Array (Option Value)} {N ps : List Str} {sp : Sp} (lk : K.lookup f = some ⟨oc, od, .func (PySem.W.fnOf name qual params body scope dV kV doc pm an cdv ct), osl⟩) (hcd : PySem.W.codeIn K cdv qual = true) (S : FnScope N ps scope)
    (len : ∀ vs H Q E, sp vs H Q E → vs.length = ps.length)
    (hbody : ∀ (A : Around) (outer : List Env) (s : Shared) (H : Hp) (vs : List V) (Q : VK) (E : XK), Room k (A.deeper (envOfC qual scope s.heap.objs.size f cdv)) → sp vs H Q E →
      ∃ t, PSs (cxOf CX P w K mg base N qual scope f cdv A outer s H E) body t ∧ t { nx := fun _ H' => Q .non H', rt := Q } (start N vs) H) :
    FnOk P w K mg base CX (k + 1) f (PySem.W.fnOf name qual params body scope dV kV doc pm an cdv ct) ps sp := by
  refine ⟨len, fun A outer s H args us vs Q E hr e0 hb r hsp => ?_⟩
  have hl := len _ _ _ _ hsp
  have KX : K.In s.heap := e0.mod.kin.keeps fun b o e => (e0.bs b o e).1
  have lim : s.heap.NoLimit := e0.mod.nolimit.keeps fun b o e => (e0.bs b o e).1
  have hkind : ∀ y ∈ ps.zip us, scope.names.lookup y.1 = some .local ∨ (scope.names.lookup y.1 = some .cell ∧ ((cellsFrom (s.heap.objs.size + 1) scope.names []).lookup y.1).isSome = true) := fun ⟨n, v⟩ hy => by
    rcases S.par n (List.of_mem_zip hy).1 with q | q
    · exact .inl q
    · exact .inr ⟨q, PySem.W.cellsFrom_some _ _ _ (.inl q)⟩
  refine codeAny_call_function hr.depth (KX _ _ lk) rfl S.co S.gen rfl (PySem.W.codeRec_of KX hcd) (hb _ _ _ _ ?_)
  refine wpAny_newFunctionEnv_cells S.kind hkind fun env he s1 x => ?_
  subst he
  refine ⟨lim.keeps x.toInCall.keep, codeAny_func ?_⟩
  obtain ⟨t, ht, hq⟩ := hbody A outer s H vs Q E (hr.deeper _) hsp
  have I : Inv (cxOf CX P w K mg base N qual scope f cdv A outer s H E) [] (start N vs) H s1 := inv_start S hr.hd e0 hl r x
  refine wpAny_mono (ht [] s1 (start N vs) H _ I hq) (fun fl s' hs => ?_) fun e s' hs => hs
  have fin : ∀ {σ' : St} {H' : Hp} {v : V} {u : Value}, Inv (cxOf CX P w K mg base N qual scope f cdv A outer s H E) [] σ' H' s' → RelV v u → Q v H' → CE outer P w H s Q u s' :=
    fun {σ' H' v u} J rv q => ⟨v, H', J.os, J.bare, J.base, J.hok, rv, q⟩
  cases fl with
  | ret u =>
    obtain ⟨v, σ', H', J, rv, q⟩ := hs
    exact fin J rv q
  | next =>
    obtain ⟨σ', H', J, q⟩ := hs
    exact fin (v := V.non) (u := Value.none) J rfl q
  | brk =>
    obtain ⟨_, _, _, q⟩ := hs
    exact False.elim q
  | cont =>
    obtain ⟨_, _, _, q⟩ := hs
    exact False.elim q
end L2
namespace L2
open PySem PySem.Spec PyProof.Rows
section
variable {X : Cx} {x : Str} {p pos : Pos} {e : Expr} {es : List Expr} {t : TA} {id T : String} {r : List V → Hp → VK → Prop}
def tCB (r : List V → Hp → VK → Prop) (t : TA) : TE := fun σ H Q => t σ H fun vs H1 => r vs H1 Q
theorem pe_callB (hc : CallR X (.builtin id) r) (hg : Gl X x) (hm : X.mg x = none) (hv : bootBuiltins x = some (.builtin id)) (ha : PA X (e :: es) t) (hn : x ≠ "__name__" := by decide) (hdb : (x == ("__debug__" : Str)) = false := by decide)
    (he : starEach (e :: es) X.env = (false, eval e X.env) :: starEach es X.env := by rfl) (hpl : (backTo pos (starEach es X.env)).any (·.1) = false := by rfl) : PE X (.Call (.Name x p) (e :: es) [] pos) (tCB r t) := by
  intro pins s σ H Q I h
  refine wpAny_Call_Name_kw (ld_blt I hg hm hv ?_ hn hdb)
  exact PyProof.Rows.callWith_builtin1 (thn (ha pos pins s σ H _ I h) fun us s1 ⟨vs, H1, I1, r1, q1⟩ => hc pins s1 σ H1 vs us Q I1 r1 q1) he hpl
theorem pe_callTy (hc : CallR X (.type T) r) (hg : Gl X x) (hm : X.mg x = none) (hv : bootBuiltins x = some (.type T)) (ha : PA X (e :: es) t) (hn : x ≠ "__name__" := by decide) (hdb : (x == ("__debug__" : Str)) = false := by decide)
    (he : starEach (e :: es) X.env = (false, eval e X.env) :: starEach es X.env := by rfl) (hpl : (backTo pos (starEach es X.env)).any (·.1) = false := by rfl) : PE X (.Call (.Name x p) (e :: es) [] pos) (tCB r t) := by
  intro pins s σ H Q I h
  refine wpAny_Call_Name_kw (ld_blt I hg hm hv ?_ hn hdb)
  exact PyProof.Rows.callWith_type1 (thn (ha pos pins s σ H _ I h) fun us s1 ⟨vs, H1, I1, r1, q1⟩ => hc pins s1 σ H1 vs us Q I1 r1 q1) he hpl
end
end L2
namespace HT
open PySem PyProof.Rows
section
open PySem.SeqAt
open PySem.AutoSeq1 (wpAny_loadPart')
open PySem.MeetsSeq PySem.MeetsSeq2 PySem.MeetsSeq3
end
section
variable {prog : Program} {w : World} {A : Around} {E : Value → Shared → Prop} {s : Shared}
def sIx (n d : Nat) : Option Int → Nat
  | none => d
  | some v => if v < 0 then (v + (n : Int)).toNat else min v.toNat n
theorem sIx_nat (n d k : Nat) : sIx n d (some (k : Int)) = min k n := by
  show (if (k : Int) < 0 then ((k : Int) + (n : Int)).toNat else min (k : Int).toNat n) = min k n
  rw [if_neg (by omega), Int.toNat_natCast]
end
end HT
namespace L2
open PySem PySem.Spec PyProof.Rows
abbrev TO := St → Hp → (Option Int → Hp → Prop) → Prop
def PO (X : Cx) (e : Option Expr) (t : TO) : Prop :=
  ∀ (pins : List (Addr × Obj)) (s : Shared) (σ : St) (H : Hp) (Q : Option Int → Hp → Prop), Inv X pins σ H s → t σ H Q →
    wpAny (model X.prog X.w) X.A (evalPart e X.env) (fun u s' => ∃ o H', Inv X pins σ H' s' ∧ IsPart u o ∧ Q o H') X.xe s
def tNoPart : TO := fun _ H Q => Q none H
def tPart (t : TE) : TO := fun σ H Q => t σ H fun x H1 => ∃ i, x = .int i ∧ Q (some i) H1
section
variable {X : Cx} {e : Expr} {te : TE} {lo hi : Option Expr} {tl th : TO} {pos p2 : Pos}
theorem po_none : PO X none tNoPart := by
  intro pins s σ H Q I h
  rw [evalPart_none]
  exact wpAny_pure ⟨none, H, I, .none, h⟩
theorem po_some (h : PE X e te) : PO X (some e) (tPart te) := by
  intro pins s σ H Q I hw
  rw [evalPart_some]
  refine thn (h pins s σ H _ I hw) fun u s1 ⟨x, H1, I1, r1, q1⟩ => ?_
  obtain ⟨i, rfl, q⟩ := q1
  obtain ⟨t, rfl⟩ := r1
  exact ⟨some i, H1, I1, .int i t, q⟩
def SlR (X : Cx) (r : V → Option Int → Option Int → Hp → VK → Prop) : Prop :=
  ∀ (pins : List (Addr × Obj)) (s : Shared) (σ : St) (H : Hp) (x : V) (v vl vu : Value) (lo hi : Option Int) (sl : Addr) (Q : VK), Inv X pins σ H s → RelV x v → s.heap.IsSliceOf sl vl vu .none → IsPart vl lo → IsPart vu hi → r x lo hi H Q →
    ∃ T id, typeLookup (.type T) "__getitem__" = pure (some (.builtin id)) ∧ s.TypeIs v T ∧ wpAny (model X.prog X.w) X.A (getItem v (.ref sl)) (EP X pins σ Q) X.xe s
theorem SlR.or {r r' : V → Option Int → Option Int → Hp → VK → Prop} (h : SlR X r) (h' : SlR X r') : SlR X (fun x lo hi H Q => r x lo hi H Q ∨ r' x lo hi H Q) := by
  intro pins s σ H x v vl vu lo hi sl Q I rx hs pl pu q
  rcases q with q | q
  · exact h pins s σ H x v vl vu lo hi sl Q I rx hs pl pu q
  · exact h' pins s σ H x v vl vu lo hi sl Q I rx hs pl pu q
def tSl (r : V → Option Int → Option Int → Hp → VK → Prop) (te : TE) (tl th : TO) : TE := fun σ H Q => te σ H fun x H1 => tl σ H1 fun l H2 => th σ H2 fun u H3 => r x l u H3 Q
theorem pe_slice {r : V → Option Int → Option Int → Hp → VK → Prop} (hr : SlR X r) (he : PE X e te) (hl : PO X lo tl) (hu : PO X hi th) : PE X (.Subscript e (.Slice lo hi none p2) pos) (tSl r te tl th) := by
  intro pins s σ H Q I h
  refine Subscript_ (thn (he pins s σ H _ I h) fun v s1 ⟨x, H1, I1, r1, q1⟩ => ?_)
  refine wpAny_Slice (thn (hl pins s1 σ H1 _ I1 q1) fun vl s2 ⟨l, H2, I2, pl, q2⟩ => thn (hu pins s2 σ H2 _ I2 q2) fun vu s3 ⟨u, H3, I3, pu, q3⟩ => ?_)
  rw [evalPart_none]
  refine wpAny_pure ?_
  have I4 : Inv X pins σ H3 { s3 with heap := s3.heap.push { cls := .type "slice", data := .fields #[vl, vu, .none] } } := I3.kept (t' := s3.toks) fun b ob q => Heap.get?_push_of_some _ q
  obtain ⟨T, id, hT, ht, hg⟩ := hr pins { s3 with heap := s3.heap.push { cls := .type "slice", data := .fields #[vl, vu, .none] } } σ H3 x v vl vu l u s3.heap.objs.size Q I4 r1 (Heap.IsSliceOf.new ..) pl pu q3
  show wpAny (model X.prog X.w) X.A (subscriptTail e (.Slice lo hi none p2) v (.ref s3.heap.objs.size)) (EP X pins σ Q) X.xe { s3 with heap := s3.heap.push { cls := .type "slice", data := .fields #[vl, vu, .none] } }
  exact tail_any (ops := [.ref s3.heap.objs.size, v]) ht hT hg (by with_unfolding_all rfl)
def cutV (xs : List V) (lo hi : Option Int) : List V := (xs.drop (HT.sIx xs.length 0 lo)).take (HT.sIx xs.length xs.length hi - HT.sIx xs.length 0 lo)
theorem cutV_length (xs : List V) (lo hi : Option Int) : (cutV xs lo hi).length ≤ xs.length := by
  unfold cutV
  rw [List.length_take, List.length_drop]
  omega
end
end L2
namespace L2
open PySem PySem.Spec PyProof.Rows
def ixN (n : Nat) (i : Int) : Option Nat := if 0 ≤ i then (if i < n then some i.toNat else none) else if -(n : Int) ≤ i then some (i + n).toNat else none
def atI {α : Type} (xs : List α) (i : Int) : Option α := (ixN xs.length i).bind fun j => xs[j]?
theorem ixN_seq {n : Nat} {i : Int} {j : Nat} (h : ixN n i = some j) : seqIndex? i n = some j ∧ j < n ∧ -(n : Int) ≤ i ∧ i < n := by
  unfold ixN at h
  by_cases h0 : 0 ≤ i
  · rw [if_pos h0] at h
    by_cases h1 : i < n
    · rw [if_pos h1] at h
      have e : i.toNat = j := Option.some.inj h
      exact ⟨by rw [seqIndex_of h0 h1, e], by omega, by omega, h1⟩
    · rw [if_neg h1] at h; cases h
  · rw [if_neg h0] at h
    by_cases h1 : -(n : Int) ≤ i
    · rw [if_pos h1] at h
      have e : (i + n).toNat = j := Option.some.inj h
      exact ⟨by rw [seqIndex_neg (by omega) h1, e], by omega, h1, by omega⟩
    · rw [if_neg h1] at h; cases h
theorem atI_get {α : Type} {xs : List α} {i : Int} {v : α} (h : atI xs i = some v) : ∃ j, seqIndex? i xs.length = some j ∧ xs[j]? = some v ∧ j < xs.length ∧ -(xs.length : Int) ≤ i ∧ i < xs.length := by
  unfold atI at h
  cases e : ixN xs.length i with
  | none => rw [e] at h; cases h
  | some j =>
    rw [e] at h
    obtain ⟨h1, h2, h3, h4⟩ := ixN_seq e
    exact ⟨j, h1, h, h2, h3, h4⟩
theorem atI_nat {α : Type} {xs : List α} {j : Nat} {v : α} (h : xs[j]? = some v) : atI xs (j : Int) = some v := by
  have hj : j < xs.length := (List.getElem?_eq_some_iff.mp h).1
  have e : ixN xs.length (j : Int) = some j := by
    unfold ixN
    rw [if_pos (by omega), if_pos (by omega)]; simp
  unfold atI; rw [e]; exact h
theorem atI_last {α : Type} (xs : List α) (v : α) : atI (xs ++ [v]) (-1) = some v := by
  have hl : (xs ++ [v]).length = xs.length + 1 := by simp
  have e : ixN (xs ++ [v]).length (-1) = some xs.length := by
    unfold ixN
    rw [hl, if_neg (by decide), if_pos (by omega)]
    congr 1
    omega
  unfold atI
  rw [e]
  show (xs ++ [v])[xs.length]? = some v
  simp
def PlainIx (b : Expr) : Prop := ∀ o i, subscripted b false o i = operate [o, i] (getItem o i)
def IxR (X : Cx) (r : R2) : Prop :=
  ∀ (value slice : Expr) (pins : List (Addr × Obj)) (s : Shared) (σ : St) (H : Hp) (x y : V) (v u : Value) (Q : VK), Inv X pins σ H s → RelV x v → RelV y u → r x y H Q →
    subscripted slice false v u = operate [v, u] (getItem v u) → wpAny (model X.prog X.w) X.A (subscriptTail value slice v u) (EP X pins σ Q) X.xe s
def MtR (X : Cx) (id : String) (r : V → List V → Hp → VK → Prop) : Prop :=
  ∀ (pins : List (Addr × Obj)) (s : Shared) (σ : St) (H : Hp) (x : V) (xs : List V) (v : Value) (us : List Value) (Q : VK), Inv X pins σ H s → RelV x v → Vals xs us → r x xs H Q →
    wpAny (model X.prog X.w) X.A (call (.builtin id) (v :: us)) (EP X pins σ Q) X.xe s
section
variable {X : Cx} {a b : Expr} {ta tb : TE} {pos : Pos}
theorem IxR.or {r r' : R2} (h : IxR X r) (h' : IxR X r') : IxR X (fun x y H Q => r x y H Q ∨ r' x y H Q) := by
  intro value slice pins s σ H x y v u Q I rx ry q hs
  rcases q with q | q
  · exact h value slice pins s σ H x y v u Q I rx ry q hs
  · exact h' value slice pins s σ H x y v u Q I rx ry q hs
theorem MtR.or {id : String} {r r' : V → List V → Hp → VK → Prop} (h : MtR X id r) (h' : MtR X id r') : MtR X id (fun x xs H Q => r x xs H Q ∨ r' x xs H Q) := by
  intro pins s σ H x xs v us Q I rx rs q
  rcases q with q | q
  · exact h pins s σ H x xs v us Q I rx rs q
  · exact h' pins s σ H x xs v us Q I rx rs q
theorem pe_ix {r : R2} (hr : IxR X r) (ha : PE X a ta) (hb : PE X b tb) (hs : PlainIx b) : PE X (.Subscript a b pos) (tOp r ta tb) := by
  intro pins s σ H Q I h
  exact Subscript_ (binT ha hb I h fun v u s2 x y H2 I2 rx ry q => hr a b pins s2 σ H2 x y v u Q I2 rx ry q (hs _ _))
def rIxL (K : PySem.W.Frag) : R2 := fun x y H Q => ∃ p xs i v, x = .ref p ∧ y = .int i ∧ SqL K H p xs ∧ atI xs i = some v ∧ Q v H
def rIxT (K : PySem.W.Frag) : R2 := fun x y H Q => ∃ p xs i v, x = .ref p ∧ y = .int i ∧ SqT K H p xs ∧ atI xs i = some v ∧ Q v H
theorem ix_list : IxR X (rIxL X.K) := by
  intro value slice pins s σ H x y v u Q I rx ry h hs
  obtain ⟨p, xs, i, z, rfl, rfl, hq, he, q⟩ := h
  cases rx
  obtain ⟨t, rfl⟩ := ry
  obtain ⟨its, r, pl, hz⟩ := I.list hq
  obtain ⟨j, h1, h2, h3, h4, h5⟩ := atI_get he
  obtain ⟨w, ew, rw'⟩ := r.get h2
  have hl := r.length
  have hn := line63
  have fin : EP X pins σ Q w s := ⟨z, H, I, rw', q⟩
  by_cases h0 : 0 ≤ i
  · have hj : i.toNat = j := by
      rw [seqIndex_of h0 h5] at h1
      exact Option.some.inj h1
    exact item_listR pl.isList h0 (by omega) (by rw [hj]; simpa using ew) fin hs
  · have hj : (i + (its.toArray.size : Int)).toNat = j := by
      rw [seqIndex_neg (by omega) h4] at h1
      rw [List.size_toArray, ← hl]
      exact Option.some.inj h1
    exact subscriptTail_builtinR (x := w) pl.isList.typeIs slot_list_getitem.lookup
      (wpAny_getItem_list_neg (Q := fun r s' => r = w ∧ EP X pins σ Q r s') pl.isList (by omega) (by rw [List.size_toArray] <;> omega) (by omega) (by rw [hj]; simpa using ew) ⟨rfl, fin⟩) hs
theorem ix_tup : IxR X (rIxT X.K) := by
  intro value slice pins s σ H x y v u Q I rx ry h hs
  obtain ⟨p, xs, i, z, rfl, rfl, hq, he, q⟩ := h
  cases rx
  obtain ⟨t, rfl⟩ := ry
  obtain ⟨its, r, pl, hz⟩ := I.tuple hq
  obtain ⟨j, h1, h2, h3, h4, h5⟩ := atI_get he
  obtain ⟨w, ew, rw'⟩ := r.get h2
  have hl := r.length
  have hn := line63
  have fin : EP X pins σ Q w s := ⟨z, H, I, rw', q⟩
  exact subscriptTail_builtinR (x := w) pl.typeIs slot_tuple_getitem.lookup
    (getItem_tuple (j := j) (Q := fun r s' => r = w ∧ EP X pins σ Q r s') pl (by omega) (by omega) (by rw [List.size_toArray, ← hl]; exact h1) (by simpa using ew) ⟨rfl, fin⟩) hs
theorem mapSeq_set (its : List Value) (n j : Nat) (u : Value) : Obj.mapSeq (·.setIfInBounds j u) { cls := .type "list", data := .seq its.toArray n } = { cls := .type "list", data := .seq (its.set j u).toArray n } := by
  simp [Obj.mapSeq]
theorem Inv.lst {pins : List (Addr × Obj)} {σ : St} {H : Hp} {s : Shared} {p : Addr} {xs : List V} (I : Inv X pins σ H s) (h : H p = some (.lst xs)) :
    ∃ (its : List Value) (n : Nat), Vals xs its ∧ s.heap.get? p = some { cls := .type "list", data := .seq its.toArray n } ∧ xs.length ≤ sizeLine := by
  obtain ⟨z, its, n, r, e⟩ := I.hok p _ h
  exact ⟨its, n, r, e, z⟩
theorem Inv.lstUpd {pins : List (Addr × Obj)} {σ : St} {H : Hp} {s : Shared} {p : Addr} {xs ys : List V} {its its' : List Value} {n n' : Nat} {f : Obj → Obj} (I : Inv X pins σ H s) (h : H p = some (.lst xs))
    (ho : s.heap.get? p = some { cls := .type "list", data := .seq its.toArray n }) (hf : f { cls := .type "list", data := .seq its.toArray n } = { cls := .type "list", data := .seq its'.toArray n' }) (r : Vals ys its') (hz : ys.length ≤ sizeLine) (t : Nat) :
    Inv X pins σ (upd H p (.lst ys)) { s with heap := s.heap.update p f, toks := t } := by
  have e : (s.heap.update p f).get? p = some { cls := .type "list", data := .seq its'.toArray n' } := by
    rw [Heap.get?_update_self f ho (by rw [hf] <;> rfl), hf]
  refine I.write (x := p) (e := p) (by rw [h]; trivial) (.inl rfl) (fun b u hb q => (Heap.get?_update_other _ _ (Ne.symm hb)).trans q) ⟨_, e⟩ ?_
  exact ⟨hz, its', n', r, e⟩
def rSetL : V → V → V → Hp → (Hp → Prop) → Prop := fun o i v H Q => ∃ p xs k j, o = .ref p ∧ i = .int k ∧ H p = some (.lst xs) ∧ ixN xs.length k = some j ∧ Q (upd H p (.lst (xs.set j v)))
theorem set_list : PSet X rSetL := by
  intro pins s σ H o i v ov iv u Q I ro ri rv h
  obtain ⟨p, xs, k, j, rfl, rfl, hp, hj, q⟩ := h
  cases ro
  obtain ⟨t, rfl⟩ := ri
  obtain ⟨its, n, r, ho, hz⟩ := I.lst hp
  obtain ⟨h1, h2, h3, h4⟩ := ixN_seq hj
  have hl := r.length
  have hn := line63
  have I' : Inv X pins σ (upd H p (.lst (xs.set j v))) { s with heap := s.heap.update p (Obj.mapSeq (·.setIfInBounds j u)) } :=
    I.lstUpd hp ho (mapSeq_set its n j u) (r.set rv j) (by rw [List.length_set]; exact hz) s.toks
  by_cases h0 : 0 ≤ k
  · have hk : k.toNat = j := by
      rw [seqIndex_of h0 h4] at h1
      exact Option.some.inj h1
    exact PySem.W.ki_setAt ho h0 (by omega) (by rw [List.size_toArray, ← hl]; exact h4) (by rw [hk]; exact ⟨_, I', q⟩)
  · have hk : (k + (its.toArray.size : Int)).toNat = j := by
      rw [seqIndex_neg (by omega) h3] at h1
      rw [List.size_toArray, ← hl]
      exact Option.some.inj h1
    exact PySem.W.ki_setBack ho (by omega) (by rw [List.size_toArray, ← hl]; exact h3) (by omega) (by rw [hk]; exact ⟨_, I', q⟩)
theorem slice_bounds (lo hi : Option Int) (n : Nat) : (sliceBounds lo hi none n).1 = ((HT.sIx n 0 lo : Nat) : Int) ∧ (sliceBounds lo hi none n).2.1 = ((HT.sIx n n hi : Nat) : Int) ∧ (sliceBounds lo hi none n).2.2 = 1 := by
  refine ⟨?_, ?_, rfl⟩
  · cases lo with
    | none => simp [sliceBounds, HT.sIx]
    | some i =>
      simp only [sliceBounds, HT.sIx, Option.getD_none, show (1 : Int) > 0 by decide, if_true]
      by_cases h : i < 0
      · simp only [h, if_true] <;> omega
      · simp only [h, if_false] <;> omega
  · cases hi with
    | none => simp [sliceBounds, HT.sIx]
    | some i =>
      simp only [sliceBounds, HT.sIx, Option.getD_none, show (1 : Int) > 0 by decide, if_true]
      by_cases h : i < 0
      · simp only [h, if_true] <;> omega
      · simp only [h, if_false] <;> omega
theorem slicePick_cut (its : List Value) (lo hi : Option Int) : slicePick its.toArray lo hi none = ((its.drop (HT.sIx its.length 0 lo)).take (HT.sIx its.length its.length hi - HT.sIx its.length 0 lo)).toArray := by
  obtain ⟨h1, h2, h3⟩ := slice_bounds lo hi its.toArray.size
  unfold slicePick
  rw [h1, h2, h3]
  simp only [sliceRange_one, pick_run, List.size_toArray] <;> rfl
def rSlL (K : PySem.W.Frag) : V → Option Int → Option Int → Hp → VK → Prop := fun x lo hi H Q => ∃ a xs, x = .ref a ∧ SqL K H a xs ∧ ∀ p, H p = none → Q (.ref p) (upd H p (.lst (cutV xs lo hi)))
theorem sl_list : SlR X (rSlL X.K) := by
  intro pins s σ H x v vl vu lo hi sl Q I rx hs pl pu h
  obtain ⟨a, xs, rfl, hx, q⟩ := h
  cases rx
  obtain ⟨its, r, ht, hz⟩ := I.list hx
  have hlen := r.length
  refine ⟨"list", _, slot_list_getitem.lookup, ht.isList.typeIs, ?_⟩
  refine wpAny_getItem_list_slice ht.isList hs pl pu .none (by simp) ?_ (by rw [List.size_toArray] <;> omega)
  rw [slicePick_cut, ← hlen]
  refine ⟨.ref s.heap.objs.size, _, I.laid (t' := s.toks) (o := .lst (cutV xs lo hi)) (fun b ob q => Heap.get?_push_of_some _ q) (Nat.le_refl _) ?_, rfl, q _ (I.hok.fresh (Nat.le_refl _))⟩
  exact ⟨Nat.le_trans (cutV_length xs lo hi) hz, _, 0, (r.drop (HT.sIx xs.length 0 lo)).take (HT.sIx xs.length xs.length hi - HT.sIx xs.length 0 lo), Heap.get?_push_size _ rfl⟩
def flatV : V → Bool
  | .non => true
  | .bl _ => true
  | .int _ => true
  | .str _ => true
  | _ => false
def eqV : V → V → Bool
  | .non, .non => true
  | .bl a, .bl b => a == b
  | .bl a, .int b => (if a then 1 else 0) == b
  | .int a, .bl b => a == (if b then 1 else 0)
  | .int a, .int b => a == b
  | .str a, .str b => a == b
  | _, _ => false
theorem eqAt_V {A : Around} {s : Shared} {y x : V} {u v : Value} (ry : RelV y u) (rx : RelV x v) (fy : flatV y = true) (fx : flatV x = true) : SeqAt.EqAt A s u v (eqV y x) := by
  cases y with
  | non =>
    cases ry
    cases x with
    | non => cases rx; exact SeqAt.EqAt.same _
    | bl b => cases rx; exact SeqAt.EqAt.none_bool b
    | int b => obtain ⟨t, rfl⟩ := rx; exact SeqAt.EqAt.none_int b t
    | str b => obtain ⟨t, rfl⟩ := rx; exact SeqAt.EqAt.none_str b t
    | _ => exact absurd (show false = true from fx) Bool.false_ne_true
  | bl a =>
    cases ry
    cases x with
    | non => cases rx; exact SeqAt.EqAt.bool_none a
    | bl b => cases rx; exact SeqAt.EqAt.bool_bool a b
    | int b => obtain ⟨t, rfl⟩ := rx; exact SeqAt.EqAt.bool_int a b t
    | str b => obtain ⟨t, rfl⟩ := rx; exact SeqAt.EqAt.bool_str a b t
    | _ => exact absurd (show false = true from fx) Bool.false_ne_true
  | int a =>
    obtain ⟨t', rfl⟩ := ry
    cases x with
    | non => cases rx; exact SeqAt.EqAt.int_none a t'
    | bl b => cases rx; exact SeqAt.EqAt.int_bool a t' b
    | int b => obtain ⟨t, rfl⟩ := rx; exact SeqAt.EqAt.int_int a t' b t
    | str b => obtain ⟨t, rfl⟩ := rx; exact SeqAt.EqAt.int_str a t' b t
    | _ => exact absurd (show false = true from fx) Bool.false_ne_true
  | str a =>
    obtain ⟨t', rfl⟩ := ry
    cases x with
    | non => cases rx; exact SeqAt.EqAt.str_none a t'
    | bl b => cases rx; exact SeqAt.EqAt.str_bool a t' b
    | int b => obtain ⟨t, rfl⟩ := rx; exact SeqAt.EqAt.str_int a t' b t
    | str b => obtain ⟨t, rfl⟩ := rx; exact SeqAt.EqAt.str_str a t' b t
    | _ => exact absurd (show false = true from fx) Bool.false_ne_true
  | _ => exact absurd (show false = true from fy) Bool.false_ne_true
def eqU (x : V) (u : Value) : Bool := match u with
  | .none => eqV .non x
  | .bool b => eqV (.bl b) x
  | .int i _ => eqV (.int i) x
  | .str z _ => eqV (.str z) x
  | _ => false
theorem eqU_of {x y : V} {u : Value} (r : RelV y u) (f : flatV y = true) : eqU x u = eqV y x := by
  cases y with
  | non => cases r; rfl
  | bl b => cases r; rfl
  | int i => obtain ⟨t, rfl⟩ := r; rfl
  | str z => obtain ⟨t, rfl⟩ := r; rfl
  | _ => exact absurd (show false = true from f) Bool.false_ne_true
theorem any_eqU {x : V} : ∀ {xs : List V} {us : List Value}, Vals xs us → xs.all flatV = true → us.any (eqU x) = xs.any fun y => eqV y x
  | _, _, .nil, _ => rfl
  | y :: xs, u :: us, .cons r t, f => by
    rw [List.all_cons, Bool.and_eq_true] at f
    rw [List.any_cons, List.any_cons, eqU_of r f.1, any_eqU t f.2]
theorem mem_eqAt {A : Around} {s : Shared} {x : V} {v : Value} (rx : RelV x v) (fx : flatV x = true) : ∀ {xs : List V} {us : List Value}, Vals xs us → xs.all flatV = true → ∀ u ∈ us, SeqAt.EqAt A s u v (eqU x u)
  | _, _, .nil, _ => fun u hu => by cases hu
  | y :: xs, u :: us, .cons r t, f => fun u' hu => by
    rw [List.all_cons, Bool.and_eq_true] at f
    rcases List.mem_cons.mp hu with rfl | hu
    · rw [eqU_of r f.1]; exact eqAt_V r rx f.1 fx
    · exact mem_eqAt rx fx t f.2 u' hu
def inV (x : V) (xs : List V) : Bool := xs.any fun y => eqV y x
def rIn (K : PySem.W.Frag) (neg : Bool) : R2 := fun x y H Q => ∃ p xs, y = .ref p ∧ (SqL K H p xs ∨ SqT K H p xs) ∧ flatV x = true ∧ xs.all flatV = true ∧ Q (.bl (if neg then !inV x xs else inV x xs)) H
theorem op_in_seq : OpR X (compareOp .In) (rIn X.K false) := by
  intro pins s σ H x y v u Q I rx ry h
  obtain ⟨p, xs, rfl, hq, fx, fs, q⟩ := h
  cases ry
  rcases hq with hq | hq
  · obtain ⟨its, r, pl, hz⟩ := I.list hq
    refine SeqAt.in_listAt (eqU x) pl.isList (fun w hw => mem_eqAt rx fx r fs w (by simpa using hw)) ⟨.bl _, H, I, rfl, ?_⟩
    rw [show its.toArray.any (eqU x) = its.any (eqU x) by simp, any_eqU r fs]
    exact q
  · obtain ⟨its, r, pl, hz⟩ := I.tuple hq
    refine SeqAt.in_tupleAt (eqU x) pl (fun w hw => mem_eqAt rx fx r fs w (by simpa using hw)) ⟨.bl _, H, I, rfl, ?_⟩
    rw [show its.toArray.any (eqU x) = its.any (eqU x) by simp, any_eqU r fs]
    exact q
theorem call_len_seq : CallR X (.builtin "len") (fun xs H Q => ∃ p ys, xs = [.ref p] ∧ (SqL X.K H p ys ∨ SqT X.K H p ys) ∧ Q (.int ys.length) H) := by
  intro pins s σ H xs us Q I r h
  obtain ⟨p, ys, rfl, hq, q⟩ := h
  obtain ⟨u, rfl, rx⟩ := vals1 r
  cases rx
  have hn := line63
  rcases hq with hq | hq
  · obtain ⟨its, r', pl, hz⟩ := I.list hq
    have hlen := r'.length
    exact Calls.call_len_list pl.isList (by simp only [List.size_toArray] <;> omega) ⟨.int ys.length, H, I.tok _, ⟨s.toks + 1, by rw [List.size_toArray, hlen]⟩, q⟩
  · obtain ⟨its, r', pl, hz⟩ := I.tuple hq
    have hlen := r'.length
    exact len_tuple pl (by simp only [List.size_toArray] <;> omega) ⟨.int ys.length, H, I.tok _, ⟨s.toks + 1, by rw [List.size_toArray, hlen]⟩, q⟩
theorem CallR.or {f : Value} {r r' : List V → Hp → VK → Prop} (h : CallR X f r) (h' : CallR X f r') : CallR X f (fun xs H Q => r xs H Q ∨ r' xs H Q) := by
  intro pins s σ H xs us Q I rs q
  rcases q with q | q
  · exact h pins s σ H xs us Q I rs q
  · exact h' pins s σ H xs us Q I rs q
theorem call_list_of : CallR X (.type "list") (fun xs H Q => ∃ p ys, xs = [.ref p] ∧ (SqL X.K H p ys ∨ SqT X.K H p ys) ∧ ∀ l, H l = none → Q (.ref l) (upd H l (.lst ys))) := by
  intro pins s σ H xs us Q I r h
  obtain ⟨p, ys, rfl, hq, q⟩ := h
  obtain ⟨u, rfl, rx⟩ := vals1 r
  cases rx
  have fin : ∀ (its : List Value), Vals ys its → ys.length ≤ sizeLine → ∀ (h' : Heap) (c' : Nat), (∀ b o', s.heap.get? b = some o' → h'.get? b = some o') →
      h'.get? s.heap.objs.size = some { cls := .type "list", dict := none, data := .seq its.toArray c', slots := #[] } → EP X pins σ Q (.ref s.heap.objs.size) { s with heap := h' } := fun its r' hz h' c' kp e =>
    ⟨.ref s.heap.objs.size, _, I.laid (t' := s.toks) kp (Nat.le_refl _) (show ObjOk X.prog X.w _ h' _ (.lst ys) from ⟨hz, its, c', r', e⟩), rfl, q _ (I.hok.fresh (Nat.le_refl _))⟩
  rcases hq with hq | hq
  · obtain ⟨its, r', pl, hz⟩ := I.list hq
    have hlen := r'.length
    obtain ⟨o, ho, hc, n, hd⟩ := pl.isList
    exact call_list_seq p (.inl rfl) ho hc hd (fun h' c' kp e => fin its r' hz h' c' kp e) (by simp only [List.size_toArray] <;> omega)
  · obtain ⟨its, r', pl, hz⟩ := I.tuple hq
    have hlen := r'.length
    obtain ⟨o, ho, hc, n, hd⟩ := pl
    exact call_list_seq p (.inr rfl) ho hc hd (fun h' c' kp e => fin its r' hz h' c' kp e) (by simp only [List.size_toArray] <;> omega)
def tyV (K : PySem.W.Frag) (T : String) (x : V) (H : Hp) : Prop := match x with
  | .str _ => T = "str"
  | .int _ => T = "int"
  | .ref p => (T = "list" ∧ ∃ xs, SqL K H p xs) ∨ (T = "tuple" ∧ ∃ o, K.lookup p = some o ∧ o.cls = .type "tuple" ∧ o.dict = none) ∨
      (T = "dict" ∧ ((∃ kvs, H p = some (.dK kvs)) ∨ ∃ kvs, H p = some (.dT kvs))) ∨ (T = "set" ∧ ∃ S n, H p = some (.set S n))
  | _ => False
theorem tyV_is {pins : List (Addr × Obj)} {σ : St} {H : Hp} {s : Shared} {T : String} {x : V} {v : Value} (I : Inv X pins σ H s) (r : RelV x v) (ty : tyV X.K T x H) :
    s.TypeIs v T ∧ ∀ a, v = .ref a → ∃ ob, s.heap.get? a = some ob ∧ ob.dict = none := by
  cases x with
  | str z =>
    obtain ⟨t, rfl⟩ := r
    cases (show T = "str" from ty)
    exact ⟨typeIs_str s z t, fun _ e => nomatch e⟩
  | int i =>
    obtain ⟨t, rfl⟩ := r
    cases (show T = "int" from ty)
    exact ⟨typeIs_int s i t, fun _ e => nomatch e⟩
  | ref p =>
    cases r
    rcases ty with ⟨rfl, xs, hq⟩ | ⟨rfl, o, hk, hc, hd⟩ | ⟨rfl, hk⟩ | ⟨rfl, S, n, hk⟩
    · obtain ⟨its, _, pl, _⟩ := I.list hq
      refine ⟨pl.isList.typeIs, fun a e => ?_⟩
      cases e
      obtain ⟨o, n, e, c, hd, _⟩ := pl
      exact ⟨o, e, hd⟩
    · refine ⟨⟨o, I.kIn p o hk, hc⟩, fun a e => ?_⟩
      cases e
      exact ⟨o, I.kIn _ o hk, hd⟩
    · have z : ∃ o, s.heap.get? p = some o ∧ o.ExactDict := by
        rcases hk with ⟨kvs, hk⟩ | ⟨kvs, hk⟩
        · obtain ⟨_, _, _, _, o, _, _, e, ex, _⟩ := I.hok p _ hk
          exact ⟨o, e, ex⟩
        · obtain ⟨_, _, _, _, o, _, _, e, ex, _⟩ := I.hok p _ hk
          exact ⟨o, e, ex⟩
      obtain ⟨o, e, ex⟩ := z
      refine ⟨⟨o, e, ex.1⟩, fun a e2 => ?_⟩
      cases e2
      exact ⟨o, e, ex.2.1⟩
    · obtain ⟨o, _, _, _, e, ex, _⟩ := I.hok p _ hk
      refine ⟨⟨o, e, ex.1⟩, fun a e2 => ?_⟩
      cases e2
      exact ⟨o, e, ex.2.1⟩
  | _ => exact False.elim ty
def tBM0 (K : PySem.W.Frag) (T : String) (r : V → List V → Hp → VK → Prop) (to : TE) : TE := fun σ H Q => to σ H fun x H1 => tyV K T x H1 ∧ r x [] H1 Q
def tBM (K : PySem.W.Frag) (T : String) (r : V → List V → Hp → VK → Prop) (to : TE) (t : TA) : TE := fun σ H Q => to σ H fun x H1 => tyV K T x H1 ∧ t σ H1 fun xs H2 => r x xs H2 Q
variable {o e : Expr} {es : List Expr} {to : TE} {t : TA} {name : Str} {apos cpos : Pos} {T id : String} {r : V → List V → Hp → VK → Prop}
theorem pe_bm0 (pa : PlainAttrs T) (slot : Slot T name id) (hty : typeOf (.builtin id) = pure (.type "method_descriptor")) (hm : MtR X id r) (ho : PE X o to)
    (hbase : attributeBase o name X.env (eval o X.env) = eval o X.env := by rfl) (hline : (apos.endLine == cpos.line) = true := by rfl) : PE X (.Call (.Attribute o name apos) [] [] cpos) (tBM0 X.K T r to) := by
  intro pins s σ H Q I h
  refine wpAny_Call_method0_late hbase hline (thn (ho pins s σ H _ I h) fun v s1 ⟨x, H1, I1, r1, ty, q1⟩ => ?_)
  obtain ⟨h1, h2⟩ := tyV_is I1 r1 ty
  exact ⟨T, id, pa, slot, hty, h1, h2, Calls.callWith_builtin rfl (PySem.evalArgs_none (hm pins s1 σ H1 x [] v [] Q I1 r1 .nil q1))⟩
theorem pe_bm (pa : PlainAttrs T) (slot : Slot T name id) (hty : typeOf (.builtin id) = pure (.type "method_descriptor")) (hm : MtR X id r) (ho : PE X o to) (ha : PA X (e :: es) t)
    (hbase : attributeBase o name X.env (eval o X.env) = eval o X.env := by rfl)
    (hfew : ((backTo cpos (starEach (e :: es) X.env)).all (fun x => !x.1) && (backToKw cpos (keywordEach [] X.env)).all (fun x => x.1.isSome)
      && decide ((e :: es).length + ([] : List Keyword).length + (if ([] : List Keyword).isEmpty then 0 else 1) < 30)) = true := by rfl)
    (hline : (apos.endLine == cpos.line) = true := by rfl) (hs : starEach (e :: es) X.env = (false, eval e X.env) :: starEach es X.env := by rfl) (hplain : (backTo cpos (starEach es X.env)).any (·.1) = false := by rfl) :
    PE X (.Call (.Attribute o name apos) (e :: es) [] cpos) (tBM X.K T r to t) := by
  intro pins s σ H Q I h
  refine wpAny_Call_method_late hbase hfew hline rfl (thn (ho pins s σ H _ I h) fun v s1 ⟨x, H1, I1, r1, ty, q1⟩ => ?_)
  obtain ⟨h1, h2⟩ := tyV_is I1 r1 ty
  refine ⟨T, id, pa, slot, hty, h1, h2, ?_⟩
  have hA := ha cpos pins s1 σ H1 _ I1 q1
  rw [hs] at hA ⊢
  refine Calls.callWith_builtin (by show (false || (backTo cpos (starEach es X.env)).any (·.1)) = false; rw [hplain] <;> rfl) (Calls.evalArgs_plain ?_)
  exact thn hA fun us s2 ⟨vs, H2, I2, r2, q2⟩ => hm pins s2 σ H2 x vs v us Q I2 r1 r2 q2
/- xs.append(e), list.index on a module's tuple .. are MtR facts of 06m -/
end
end L2
namespace L2
open PySem PySem.Spec PyProof.Rows
def MtM (X : Cx) (id : String) (r : V → List V → Hp → VK → Prop) : Prop :=
  ∀ (pins : List (Addr × Obj)) (s : Shared) (σ : St) (H : Hp) (x : V) (xs : List V) (v : Value) (us : List Value) (Q : VK), Inv X pins σ H s → RelV x v → Vals xs us → r x xs H Q →
    wpAny (model X.prog X.w) X.A (call (.builtin id) (v :: us)) (EP X pins σ Q) X.xe s
theorem Vals.one : ∀ {x : V} {us : List Value}, Vals [x] us → ∃ u, us = [u] ∧ RelV x u
  | _, _, .cons r .nil => ⟨_, rfl, r⟩
theorem Vals.two : ∀ {x y : V} {us : List Value}, Vals [x, y] us → ∃ u v, us = [u, v] ∧ RelV x u ∧ RelV y v
  | _, _, _, .cons r (.cons q .nil) => ⟨_, _, rfl, r, q⟩
theorem Vals.zero : ∀ {us : List Value}, Vals [] us → us = []
  | _, .nil => rfl
theorem Vals.reverse {xs : List V} {us : List Value} (h : Vals xs us) : Vals xs.reverse us.reverse := by
  induction h with
  | nil => exact .nil
  | cons r t ih => rw [List.reverse_cons, List.reverse_cons]; exact Vals.append ih (.cons r .nil)
theorem Vals.rep {xs : List V} {us : List Value} (h : Vals xs us) : ∀ k : Nat, Vals (List.replicate k xs).flatten (List.replicate k us).flatten
  | 0 => .nil
  | k + 1 => by
    rw [List.replicate_succ, List.replicate_succ, List.flatten_cons, List.flatten_cons]
    exact Vals.append h (Vals.rep h k)
theorem foldl_rep (its : List Value) : ∀ (k : Nat) (acc : List Value),
    List.foldl (fun x1 x2 => x1 ++ x2) acc.toArray (List.replicate k its.toArray) = (acc ++ (List.replicate k its).flatten).toArray
  | 0, acc => by simp
  | k + 1, acc => by
    have e : acc.toArray ++ its.toArray = (acc ++ its).toArray := by simp
    have e2 : (acc ++ its) ++ (List.replicate k its).flatten = acc ++ (List.replicate (k + 1) its).flatten := by
      rw [List.replicate_succ, List.flatten_cons, List.append_assoc]
    rw [← e2, ← foldl_rep its k (acc ++ its), ← e, List.replicate_succ, List.foldl_cons]
section
variable {X : Cx} {pins : List (Addr × Obj)} {σ : St} {H : Hp} {s : Shared} {l b : Addr} {xs ys zs : List V}
theorem Inv.lset {its its' : List Value} {n : Nat} {f : Array Value → Array Value} {t' : Nat} (I : Inv X pins σ H s) (hH : H l = some (.lst xs))
    (e : s.heap.get? l = some { cls := .type "list", data := .seq its.toArray n }) (hf : f its.toArray = its'.toArray) (hv : Vals ys its') (hz : ys.length ≤ sizeLine) :
    Inv X pins σ (upd H l (.lst ys)) { s with heap := s.heap.update l (Obj.mapSeq f), toks := t' } := by
  have q := PySem.IsL.update e f
  rw [hf] at q
  refine I.write (x := l) (e := l) (by rw [hH]; exact trivial) (.inl rfl) (fun b' u hb hu => (Heap.get?_update_other s.heap (Obj.mapSeq f) (Ne.symm hb)).trans hu) ⟨_, q⟩ ?_
  exact ⟨hz, its', _, hv, q⟩
theorem Inv.lnew {its : List Value} {t' : Nat} (I : Inv X pins σ H s) (hv : Vals ys its) (hz : ys.length ≤ sizeLine) :
    Inv X pins σ (upd H s.heap.objs.size (.lst ys)) { s with heap := s.heap.push { cls := .type "list", data := .seq its.toArray }, toks := t' } :=
  I.laid (fun _ _ q => Heap.get?_push_of_some _ q) (Nat.le_refl _) ⟨hz, its, 0, hv, Heap.get?_push_size _ rfl⟩
theorem Inv.fresh (I : Inv X pins σ H s) : H s.heap.objs.size = none := I.hok.fresh (Nat.le_refl _)
theorem Inv.lstM (I : Inv X pins σ H s) (hH : H l = some (.lst xs)) : xs.length ≤ sizeLine ∧ ∃ (its : List Value) (n : Nat), Vals xs its ∧ xs.length = its.length ∧ s.heap.get? l = some { cls := .type "list", data := .seq its.toArray n } := by
  obtain ⟨z, its, n, r, e⟩ := I.hok l _ hH
  exact ⟨z, its, n, r, r.length, e⟩
theorem notLongL {n : Nat} (h : n ≤ sizeLine) : Builtin.List.listTooLong n = false := by
  unfold Builtin.List.listTooLong
  exact decide_eq_false (by omega)
end
section
variable {X : Cx}
def rAppend : V → List V → Hp → VK → Prop := fun x vs H Q => ∃ l xs y, x = .ref l ∧ vs = [y] ∧ H l = some (.lst xs) ∧ xs.length < sizeLine ∧ Q .non (upd H l (.lst (xs ++ [y])))
theorem mt_append : MtM X "list.append" rAppend := by
  intro pins s σ H x vs v us Q I rx rv h
  obtain ⟨l, xs, y, rfl, rfl, hH, hz, q⟩ := h
  cases rx
  obtain ⟨u, rfl, ru⟩ := rv.one
  obtain ⟨z, its, n, r, hl, e⟩ := I.lstM hH
  refine call_meets F.slot_list_append ⟨_, e, rfl⟩ F.entry_list_append (F.args_list_append_2 _ _) (PySem.list_append l its.toArray n u (by rw [List.size_toArray]; omega)) ⟨e, ?_⟩
  refine ⟨.non, _, I.lset (its' := its ++ [u]) hH e (by simp) (r.append (.cons ru .nil)) ?_, rfl, q⟩
  rw [List.length_append, List.length_singleton]
  omega
def rReverse : V → List V → Hp → VK → Prop := fun x vs H Q => ∃ l xs, x = .ref l ∧ vs = [] ∧ H l = some (.lst xs) ∧ Q .non (upd H l (.lst xs.reverse))
theorem mt_reverse : MtM X "list.reverse" rReverse := by
  intro pins s σ H x vs v us Q I rx rv h
  obtain ⟨l, xs, rfl, rfl, hH, q⟩ := h
  cases rx
  have hus := rv.zero
  subst hus
  obtain ⟨z, its, n, r, hl, e⟩ := I.lstM hH
  refine call_meets F.slot_list_reverse ⟨_, e, rfl⟩ F.entry_list_reverse (F.args_list_reverse_1 _) (AutoSeq1.list_reverse_list_0 l its.toArray n (by rw [List.size_toArray]; omega)) ⟨e, ?_⟩
  refine ⟨.non, _, I.lset (its' := its.reverse) hH e (by simp) r.reverse ?_, rfl, q⟩
  rw [List.length_reverse]
  omega
def rCat : R2 := fun x y H Q => ∃ l b xs zs, x = .ref l ∧ y = .ref b ∧ H l = some (.lst xs) ∧ H b = some (.lst zs) ∧ xs.length + zs.length ≤ sizeLine ∧ ∀ p, H p = none → Q (.ref p) (upd H p (.lst (xs ++ zs)))
theorem op_cat : OpR X (binaryOp .Add) rCat := by
  intro pins s σ H x y v u Q I rx ry h
  obtain ⟨l, b, xs, zs, rfl, rfl, hH, hB, hz, q⟩ := h
  cases rx
  cases ry
  obtain ⟨z, its, n, r, hl, e⟩ := I.lstM hH
  obtain ⟨z2, its2, n2, r2, hl2, e2⟩ := I.lstM hB
  refine PySem.P.add_list e e2 ?_ (by rw [List.size_toArray, List.size_toArray]; omega)
  have ea : its.toArray ++ its2.toArray = (its ++ its2).toArray := by simp
  rw [ea]
  exact ⟨.ref _, _, I.lnew (t' := s.toks) (r.append r2) (by rw [List.length_append]; omega), rfl, q _ I.fresh⟩
def rRep : R2 := fun x y H Q => ∃ l k xs, x = .ref l ∧ y = .int k ∧ H l = some (.lst xs) ∧ -(2 ^ 63) ≤ k ∧ k < 2 ^ 63 ∧ xs.length * k.toNat ≤ sizeLine ∧
  ∀ p, H p = none → Q (.ref p) (upd H p (.lst (List.replicate k.toNat xs).flatten))
theorem len_rep {α : Type} (xs : List α) (k : Nat) : (List.replicate k xs).flatten.length = k * xs.length := by
  induction k with
  | zero => simp
  | succ k ih => rw [List.replicate_succ, List.flatten_cons, List.length_append, ih, Nat.succ_mul, Nat.add_comm]
theorem op_rep : OpR X (binaryOp .Mult) rRep := by
  intro pins s σ H x y v u Q I rx ry h
  obtain ⟨l, k, xs, rfl, rfl, hH, h1, h2, hz, q⟩ := h
  cases rx
  obtain ⟨t, rfl⟩ := ry
  obtain ⟨z, its, n, r, hl, e⟩ := I.lstM hH
  have hlen : its.toArray.size * k.toNat ≤ sizeLine := by rw [List.size_toArray, ← hl]; exact hz
  have hcap : ¬ its.toArray.size * k.toNat > (2 ^ 63 - 1) / 8 := by
    have : (sizeLine : Nat) ≤ (2 ^ 63 - 1) / 8 := by decide
    omega
  have hfit : ¬ (!Builtin.List.listFitsIndex k) = true := by
    rw [fitsIndex_both h1 h2]
    exact Bool.false_ne_true
  have hlong : ¬ Builtin.List.listTooLong (its.toArray.size * k.toNat) = true := by
    rw [notLongL hlen]
    exact Bool.false_ne_true
  have hnew : List.foldl (fun x1 x2 => x1 ++ x2) #[] (List.replicate (if its.toArray.isEmpty = true then 0 else k.toNat) its.toArray) = (List.replicate k.toNat its).flatten.toArray := by
    have f0 : ∀ m : Nat, List.foldl (fun x1 x2 => x1 ++ x2) #[] (List.replicate m its.toArray) = (List.replicate m its).flatten.toArray := fun m => by
      have := foldl_rep its m []
      rw [List.nil_append] at this
      exact this
    rw [f0]
    cases its with
    | nil => simp
    | cons a r' => rw [if_neg (by simp)]
  refine wpAny_binaryOp_repeat_ref (T := "list") (U := "int") (by decide) ⟨_, e, rfl⟩ (fun s' => typeIs_int s' k t) noFill_list_mul F.fills_int_mul F.slot_int_rmul repeat_list F.slot_int_index.lookup
    (call_meets F.slot_int_rmul (typeIs_int s k t) F.entry_int_rmul (F.args_int_rmul_2 _ _) (int___rmul___int_list k t l its.toArray n)
      ⟨e, rfl, ⟨_, e, rfl⟩, call_meets F.slot_list_mul ⟨_, e, rfl⟩ F.entry_list_mul (F.args_list_mul_2 _ _) (AutoListH.list___mul___list_int_3 l its.toArray n k t hfit hcap hlong) ⟨e, ?_⟩⟩)
  rw [hnew]
  exact ⟨.ref _, _, I.lnew (t' := s.toks) (r.rep k.toNat) (by rw [len_rep, Nat.mul_comm]; exact hz), rfl, q _ I.fresh⟩
end
section
variable {prog : Program} {w : World} {A : Around} {E : Value → Shared → Prop} {s : Shared}
end
section
variable {X : Cx}
end
end L2
namespace Att
open PySem PySem.W PySem.Calls PyProof.Rows
theorem ints_of_wellAll {P : Params} {h : Heap} : ∀ (ns : List Int) (vs : List Value), WellAll P h vs (ns.map WData.int) → IntsAre vs ns := by
  intro ns
  induction ns with
  | nil =>
    intro vs w
    rw [List.map_nil] at w
    cases w
    exact .nil
  | cons n ns ih =>
    intro vs w
    rw [List.map_cons] at w
    cases w with
    | cons a b =>
      cases a
      exact .cons _ _ (ih _ b)
theorem script_of {l : OpenLaw} {n : Nat} (hn : l.most = some n) {P : Params} {h : Heap} {args : List WData} {vals : List Value}
    (hpre : l.row.toRowW.claim.pre args = true) (hwl : WellAll P h vals args) :
    ∃ a vs ns, vals = [Value.ref a] ∧ args = [WData.list (ns.map WData.int)] ∧ h.get? a = some { cls := .type "list", data := .seq vs.toArray } ∧ IntsAre vs ns ∧ ns.length ≤ n := by
  have hsh : WShape.hasAll [] args [.list .int] = true := (pre_splitW hpre).1
  have hc : l.pre.holds [] { args := args } = true := (pre_splitW hpre).2
  obtain ⟨d, r, rfl, h1, h2⟩ := hasAllW_cons hsh
  obtain rfl := hasAllW_nil h2
  obtain ⟨xs, rfl, h3⟩ := hasW_list h1
  obtain ⟨ns, rfl⟩ := items_int h3
  have hlen : ns.length ≤ n := by
    unfold OpenLaw.pre at hc
    have h4 : (WTm.not (.lt (.lit (.int (n : Int))) (.len (.arg 0)))).holds [] { args := [.list (ns.map .int)] } = true := by
      have h4 := (holds_andW hc).1
      rw [hn] at h4
      exact h4
    have h5 := condW_of h4 (w_not (w_lt w_lit (w_len_list (w_arg rfl))))
    rw [List.length_map] at h5
    refine Nat.le_of_not_lt fun q => ?_
    have q' : (n : Int) < ((ns.length : Nat) : Int) := by omega
    first
      | (rw [decide_eq_true q'] at h5; exact absurd h5 (by decide))
      | (simp at h5; omega)
  cases hwl with
  | cons w1 w2 =>
    cases w2
    cases w1 with
    | list ho hall => exact ⟨_, _, ns, rfl, rfl, ho, ints_of_wellAll ns _ hall, hlen⟩
theorem post_true (l : OpenLaw) (args : List WData) : l.row.toRowW.claim.post args (.bool true) args = true :=
  postW_of (r := l.row.toRowW) (X := (true == true))
    (show WShape.has [] (.bool true) .bool = true by first | rfl | decide | simp [WShape.has, WShape.arms, WShape.armsAll])
    (show (WTm.eq .res (.lit (.bool true))).value [] { args := args, res := some (.bool true), after := args } = some (.bool (true == true)) from w_eq_bool (w_res rfl) w_lit) rfl
theorem attach_call {l : OpenLaw} {n : Nat} {q : Program} {loose : List Str} {XP : (Str → Option Value) → Heap → Prop} {YP : World → Heap → Prop} {d : DefRec}
    (hn : l.most = some n) (hdf : d.params.defaults = [])
    (call : ∀ (w : World) (s₀ s₁ : Shared) (mg mb : Str → Option Value) (fa : Addr) (o : Obj) (pm cd doc : Value) (a : Addr) (vs : List Value) (ns : List Int),
      Ground q loose [] XP w s₀ mg mb s₁.heap → YP w s₁.heap →
      s₁.heap.get? fa = some o → o.data = .func (docDef d.name d.params d.body d.scope pm cd doc) → s₁.heap.CodeRec cd d.name → mg d.name = some (.ref fa) →
      s₁.heap.get? a = some { cls := .type "list", data := .seq vs.toArray } → IntsAre vs ns → ns.length ≤ n → s₁.gens = #[] →
      codeAny (model l.prog w) callerA (.call (.ref fa) ⟨[.ref a], []⟩) (fun r s' => r = .ok (.ret (.bool true)) ∧ OldK s₁.heap s'.heap ∧ s'.os = s₁.os ∧ AllBare s'.gens) s₁) :
    WalkO q loose XP YP l.row.toRowW d [] (fun f vs => PySem.call f vs) := by
  intro w s₀ s₁ mg mb G Y fa o pm cd doc dV kV ho hd hcd hD hmg hg args vals as hpre hlay hrd hwl hlo
  obtain rfl : dV = .none := Dflts.none hD hdf
  obtain rfl : kV = .none := Dflts.noKw hD
  obtain ⟨a, vs, ns, rfl, rfl, hobj, hints, hlen⟩ := script_of hn hpre hwl
  refine enter_call (codeAny_mono (call w s₀ s₁ mg mb fa o pm cd doc a vs ns G Y ho (fd_plain hd) hcd hmg hobj hints hlen hg) fun r s' hq => ?_)
  obtain ⟨rfl, h2, h3, h4⟩ := hq
  exact ⟨.inl ⟨.bool true, .bool true, [], rfl, fun _ => rfl, .bool true, post_true l _, fun _ => ⟨List.Pairwise.nil, fun _ hm => (nomatch hm)⟩⟩, h2, h3, h4⟩
section
variable {prog : Program} {w : World} {A : Around} {E : Value → Shared → Prop} {s : Shared} {K : Frag}
end
end Att
namespace L2
open PySem PySem.Spec PyProof.Rows
theorem vals_ints : ∀ {vs : List Value} {ns : List Int}, IntsAre vs ns → Vals (ns.map V.int) vs
  | _, _, .nil => .nil
  | _, _, .cons n t h => .cons ⟨t, rfl⟩ (vals_ints h)
def Only (H : Hp) : Prop := ∀ b, H b = none ∨ ∃ o xs, H b = some (.frz o (.lst xs))
theorem law_call {P : Program} {w : World} {K : PySem.W.Frag} {mg mb : Str → Option Value} {CX : CXT} {k : Nat} {fa a : Addr} {fd : FuncData} {x : Str} {sp : Sp} {s₁ : Shared} {vs : List Value} {ns : List Int}
    (KX : K.In s₁.heap) (hns : s₁.heap.Ns mainGlobals mg) (hb : s₁.heap.Ns builtinsNs mb) (hbb : ∀ x : Str, x ≠ "__name__" → mb x = bootBuiltins x) (hlim : s₁.heap.NoLimit) (hg : s₁.gens = #[])
    (ha : s₁.heap.get? a = some { cls := .type "list", data := .seq vs.toArray }) (hi : IntsAre vs ns) (hl : ns.length ≤ sizeLine) (hr : Room k callerA)
    (F : ∀ base : Heap, K.In base → base.Ns mainGlobals mg → FnOk P w K mg base CX k fa fd [x] sp) (hbind : ∀ (s : Shared) (u : Value), BindsTo s fd ⟨[u], []⟩ [(x, u)])
    (hsp : ∀ H : Hp, Only H → SqL K H a (ns.map V.int) → sp [.ref a] H (fun v _ => v = .bl true) fun _ _ _ => False)
    (hCX : ∀ H e s', CX [] H s₁ (fun _ _ _ => False) e s' → False) :
    codeAny (model P w) callerA (.call (.ref fa) ⟨[.ref a], []⟩) (fun r s' => r = .ok (.ret (.bool true)) ∧ OldK s₁.heap s'.heap ∧ s'.os = s₁.os ∧ AllBare s'.gens) s₁ := by
  have rv := vals_ints hi
  have lenV := hi.length
  have core : ∀ H : Hp, Only H → SqL K H a (ns.map V.int) → HOk P w H s₁.heap → (∀ b, H b ≠ none → b = a) → (H a ≠ none → K.lookup a = none) →
      codeAny (model P w) callerA (.call (.ref fa) ⟨[.ref a], []⟩) (fun r s' => r = .ok (.ret (.bool true)) ∧ OldK s₁.heap s'.heap ∧ s'.os = s₁.os ∧ AllBare s'.gens) s₁ := by
    intro H hO hS hok hA hK
    have base_of : ∀ {b : Addr} {o : Obj}, s₁.heap.get? b = some o → H b = none → (hidT s₁.heap H).get? b = some o := fun e n => hidT_get e n
    have noA : ∀ {b : Addr} {o : Obj} {es : Array DictEntry} {ep : Nat}, s₁.heap.get? b = some o → o.data = .dict es ep → H b = none := fun {b o es ep} e d => by
      cases q : H b with
      | none => rfl
      | some u =>
        have e' : b = a := hA b (by rw [q]; simp)
        subst e'
        rw [ha] at e; cases e
        have d' : Data.seq vs.toArray _ = Data.dict es ep := d
        cases d'
    have nsK : ∀ {b : Addr} {m : Str → Option Value}, s₁.heap.Ns b m → (hidT s₁.heap H).Ns b m := fun {b m} ⟨o, es, ep, e, d, r⟩ => ⟨o, es, ep, base_of e (noA e d), d, r⟩
    have hKb : K.In (hidT s₁.heap H) := fun b o e => base_of (KX b o e) (by
      cases q : H b with
      | none => rfl
      | some u =>
        have e' : b = a := hA b (by rw [q]; simp)
        subst e'
        rw [hK (by rw [q]; simp)] at e; cases e)
    have hM : Mod K mg (hidT s₁.heap H) := ⟨hKb, nsK hns, ⟨mb, nsK hb, hbb⟩, let ⟨mc, h1, h2⟩ := hlim; ⟨mc, nsK h1, h2⟩⟩
    have e0 : Env0 P w K mg (hidT s₁.heap H) callerA [] s₁ H := ⟨rfl, hM, fun b o e => of_hidT e, Nat.le_of_eq (hidT_size _ _), trivial, fun b hb => absurd (show b ∈ ([] : List Addr) from hb) (by simp), hok, .of_eq hg⟩
    refine codeAny_mono ((F _ hKb (nsK hns)).run callerA [] s₁ H ⟨[.ref a], []⟩ [.ref a] [.ref a] _ _ hr e0 (hbind s₁ (.ref a)) (.cons rfl .nil) (hsp H hO hS)) fun r s' h => ?_
    cases r with
    | error e => exact (hCX H e s' h).elim
    | ok fl =>
      cases fl with
      | next => exact False.elim h
      | brk => exact False.elim h
      | cont => exact False.elim h
      | ret u =>
        obtain ⟨v, H', os, bare, un, hok', r', q⟩ := h
        have q' : v = .bl true := q
        subst q'
        obtain rfl : u = Value.bool true := r'
        refine ⟨rfl, OldK.of_keep fun b o e => ?_, os, bare⟩
        cases q : H b with
        | none => exact un.keep b o e q (by intro z; exact absurd (show b ∈ ([] : List Addr) from z) (by simp)) (by simp)
        | some u =>
          rcases hO b with z | ⟨ob, xs, z⟩
          · rw [q] at z; cases z
          · have z2 := un.frzs b ob _ z
            obtain ⟨e1, _⟩ := hok b _ z
            obtain ⟨e2, _⟩ := hok' b _ z2
            rw [e] at e1; cases e1
            exact e2
  cases hk : K.lookup a with
  | some o =>
    have e := KX a o hk
    rw [ha] at e
    cases e
    refine core (fun _ => none) (fun _ => .inl rfl) (.inr ⟨_, vs.toArray, _, hk, rfl, rfl, rfl, by rw [List.size_toArray, lenV]; exact hl, by simpa using rv⟩) (fun b u z => by have z' : (none : Option HO) = some u := z; cases z') (fun b z => absurd rfl z) fun z => absurd rfl z
  | none =>
    refine core (fun b => if b = a then some (.frz { cls := .type "list", data := .seq vs.toArray } (.lst (ns.map V.int))) else none) (fun b => ?_) (.inl (.inr ⟨{ cls := .type "list", data := .seq vs.toArray }, if_pos rfl⟩)) (fun b u z => ?_) (fun b z => ?_) fun _ => hk
    · by_cases hb : b = a
      · exact .inr ⟨_, _, if_pos hb⟩
      · exact .inl (if_neg hb)
    · by_cases hb : b = a
      · have z' := (if_pos hb).symm.trans z
        cases z'
        subst hb
        exact ⟨ha, by rw [List.length_map]; exact hl, vs, _, rv, ha⟩
      · have z' := (if_neg hb).symm.trans z
        cases z'
    · by_cases hb : b = a
      · exact hb
      · exact absurd (if_neg hb) z
end L2
namespace L2
open PySem PySem.Spec PyProof.Rows
abbrev KOf {K : PySem.W.Frag} {h : Heap} (_ : K.In h) : PySem.W.Frag := K
theorem walk_of {l : PySem.W.OpenLaw} {n k : Nat} {q : Program} {loose : List Str} {XP : (Str → Option Value) → Heap → Prop} {YP : World → Heap → Prop} {d : DefRec} {K : Params → PySem.W.Frag} {CX : World → CXT} {sp : World → Sp} {x : Str}
    (hn : l.most = some n) (hn2 : n ≤ sizeLine) (hdf : d.params.defaults = []) (hr : Room k callerA)
    (hY : ∀ (w : World) (h : Heap), YP w h → (K w.params).In h)
    (F : ∀ (w : World) (mg : Str → Option Value) (fa : Addr) (h : Heap), (K w.params).In h → h.Ns mainGlobals mg → mg d.name = some (.ref fa) →
      ∃ fd : FuncData, (∀ (s : Shared) (u : Value), BindsTo s fd ⟨[u], []⟩ [(x, u)]) ∧
        ∀ base : Heap, (K w.params).In base → base.Ns mainGlobals mg → FnOk l.prog w (K w.params) mg base (CX w) k fa fd [x] (sp w))
    (hsp : ∀ (w : World) (H : Hp) (a : Addr) (ns : List Int), ns.length ≤ n → Only H → SqL (K w.params) H a (ns.map V.int) → sp w [.ref a] H (fun v _ => v = .bl true) fun _ _ _ => False)
    (hCX : ∀ (w : World) (H : Hp) (s : Shared) (e : Value) (s' : Shared), CX w [] H s (fun _ _ _ => False) e s' → False) :
    PySem.W.WalkO q loose XP YP l.row.toRowW d [] (fun f vs => PySem.call f vs) := by
  refine Att.attach_call hn hdf fun w s₀ s₁ mg mb fa o pm cd doc a vs ns G Y ho hd hcd hmg hobj hints hlen hg => ?_
  have KX := hY w _ Y
  obtain ⟨fd, hb, hF⟩ := F w mg fa _ KX G.T.g hmg
  exact law_call KX G.T.g G.T.b G.T.builtins G.T.nolimit hg hobj hints (Nat.le_trans hlen hn2) hr hF hb (fun H hO hS => hsp w H a ns hlen hO hS) fun H e s' => hCX w H s₁ e s'
end L2
/- THE LAST THEOREM (shape; LID, My.* are yours):
   My.Adr: a structure of the addresses that your layer names (classes, functions); My.Txt K t: a structure (Prop) of the equations over K;
   My.txt_mk : {K} {implicit addresses ..} (e1 : nsIn K mainGlobals "law" = some (some (.ref f))) (e2 : K.lookup f = some ⟨oc, od, .func (fnOf "law" "law" params body scope dV kV doc pm an cdv ct), sl⟩) (e3 : codeIn K cdv "law" = true) .. : ∃ t, My.Txt K t
set_option maxRecDepth 100000 in
set_option maxHeartbeats 0 in
theorem PySem.Challenge.cw_LID_holds : PySem.Challenge.rw_LID.Holds := by
  w_on; o_law; k_head; (case hw => w_witness2)
  k_fill
  refine L2.walk_of (l := PySem.Challenge.rw_LID) (n := 63) (k := 40) (x := "script") (CX := fun w => ..) (sp := fun _ => My.sp_law) rfl (by decide) rfl ⟨rfl, by decide, by decide⟩ (fun w h Y => PySem.W.kIn_of Y) ?F ?S ?C
  case F =>
    intro w mg fa h KX G hmg
    have T : ∃ t, My.Txt (L2.KOf KX) t := by
      dsimp only [L2.KOf]                          -- K must stand as «<heap const> w.params» for k_is
      refine' My.txt_mk ?e1 ?e2 ?e3 ..
      (case e1 => PySem.W.k_is)                    -- in the order: a name -> its address -> its object -> its parts
      (case e2 => PySem.W.k_is)
      ..
    obtain ⟨t, T⟩ := T
    have e0 := hmg.symm.trans (PySem.W.mg_of KX G T.law)
    cases e0                                       -- fa is the law's own address
    exact ⟨_, fun s u => .of_eq rfl, fun base kb nb => My.law_fn T kb nb⟩     -- if «.of_eq rfl» comes too early: refine' ⟨_, ?b, fun base kb nb => My.law_fn T kb nb⟩; exact fun s u => .of_eq rfl
  case S => exact fun w H a ns hl hO hS => ..
  case C => exact ..
(the tactic k_is has no namespace: write k_is) -/
namespace L2
open PySem PySem.Spec PyProof.Rows
def inClass (s : Stmt) (j : Nat) : Stmt := match s with
  | .ClassDef _ _ _ body _ _ _ _ _ _ _ => body.getD j (.Pass ⟨0, 0, 0, 0⟩)
  | _ => .Pass ⟨0, 0, 0, 0⟩
def defArgs (s : Stmt) : Arguments := match s with
  | .FunctionDef _ a _ _ _ _ _ _ _ _ => a
  | _ => { posonlyargs := [], args := [], vararg := none, kwonlyargs := [], kw_defaults := [], kwarg := none, defaults := [] }
def defBody (s : Stmt) : List Stmt := match s with
  | .FunctionDef _ _ b _ _ _ _ _ _ _ => b
  | _ => []
def defScope (s : Stmt) : Scope := match s with
  | .FunctionDef _ _ _ _ _ _ sc _ _ _ => sc
  | _ => { kind := .function, names := [], isGenerator := false, isCoroutine := false }
abbrev CX0 : CXT := fun _ _ _ _ _ _ => False
abbrev E0 : XK := fun _ _ _ => False
theorem pass0 {X : Cx} : Passes CX0 X E0 := fun _ _ _ _ _ _ _ h => h.elim
structure Fun (K : PySem.W.Frag) (x qual : Str) (st : Stmt) (f : Addr) (fd : FuncData) : Prop where
  ex : ∃ (oc : Value) (od : Option Addr) (kV doc pm : Value) (an : Option Addr) (cdv ct : Value) (osl : Array (Option Value)),
    fd = PySem.W.fnOf x qual (defArgs st) (defBody st) (defScope st) .none kV doc pm an cdv ct ∧ K.lookup f = some ⟨oc, od, .func fd, osl⟩ ∧ PySem.W.codeIn K cdv qual = true
  kp : PySem.W.keepIn K (.ref f) = true
section
variable {P : Program} {w : World} {K : PySem.W.Frag} {mg : Str → Option Value} {base : Heap}
theorem Fun.ok {x qual : Str} {st : Stmt} {f : Addr} {fd : FuncData} {N ps : List Str} {k : Nat} {sp : Sp} (F : Fun K x qual st f fd) (S : FnScope N ps (defScope st)) (len : ∀ vs H Q E, sp vs H Q E → vs.length = ps.length)
    (hbody : ∀ (cdv : Value) (A : Around) (outer : List Env) (s : Shared) (H : Hp) (vs : List V) (Q : VK) (E : XK), Room k (A.deeper (envOfC qual (defScope st) s.heap.objs.size f cdv)) → sp vs H Q E →
      ∃ t, PSs (cxOf CX0 P w K mg base N qual (defScope st) f cdv A outer s H E).nox (defBody st) t ∧ t { nx := fun _ H' => Q .non H', rt := Q } (start N vs) H) : FnOk P w K mg base CX0 (k + 1) f fd ps sp := by
  obtain ⟨oc, od, kV, doc, pm, an, cdv, ct, osl, rfl, lk, hcd⟩ := F.ex
  refine fn_of lk hcd S len fun A outer s H vs Q E hr hsp => ?_
  obtain ⟨t, h, q⟩ := hbody cdv A outer s H vs Q E hr hsp
  exact ⟨t, h.nox, q⟩
theorem Fun.binds {x qual : Str} {st : Stmt} {f : Addr} {fd : FuncData} {ps : List Str} (F : Fun K x qual st f fd)
    (h : ∀ (kV doc pm : Value) (an : Option Addr) (cdv ct : Value) (us : List Value), us.length = ps.length → bindArgs (PySem.W.fnOf x qual (defArgs st) (defBody st) (defScope st) .none kV doc pm an cdv ct) ⟨us, []⟩ = pure (ps.zip us)) : Binds K fd ps [] := by
  obtain ⟨oc, od, kV, doc, pm, an, cdv, ct, osl, rfl, lk, hcd⟩ := F.ex
  exact .all (h kV doc pm an cdv ct)
theorem fun_mk {x qual : Str} {st : Stmt} {f : Addr} {oc : Value} {od an : Option Addr} {osl : Array (Option Value)} {kV doc pm cdv ct : Value} (l : K.lookup f = some ⟨oc, od, .func (PySem.W.fnOf x qual (defArgs st) (defBody st) (defScope st) .none kV doc pm an cdv ct), osl⟩)
    (c : PySem.W.codeIn K cdv qual = true) (k : PySem.W.keepIn K (.ref f) = true) : Fun K x qual st f (PySem.W.fnOf x qual (defArgs st) (defBody st) (defScope st) .none kV doc pm an cdv ct) := ⟨⟨oc, od, kV, doc, pm, an, cdv, ct, osl, rfl, l, c⟩, k⟩
end
section
variable {X : Cx}
theorem pv (i : Nat) {x : Str} {pos : Pos} (hN : X.N[i]? = some x := by rfl) (hv : Vis X.env.scope x := by first | exact Or.inl rfl | exact Or.inr (Or.inl rfl) | exact Or.inr (Or.inr rfl)) (hd : (x == ("__debug__" : Str)) = false := by decide)
    (hcd : (x == ("__classdict__" : Str)) = false := by decide) : PE X (.Name x pos) (tVar i) := pe_var hN hv hd hcd
end
theorem iteF {A B : Prop} (h : B) : if false = true then A else B := by
  rw [if_neg Bool.false_ne_true]
  exact h
theorem iteT {A B : Prop} (h : A) : if true = true then A else B := by
  rw [if_pos rfl]
  exact h
theorem ite2 {c A B : Prop} [Decidable c] (h1 : c → A) (h2 : ¬ c → B) : if c then A else B := by
  by_cases h : c
  · rw [if_pos h]
    exact h1 h
  · rw [if_neg h]
    exact h2 h
def Same (H H' : Hp) : Prop := ∀ b o, H b = some o → H' b = some o
theorem Same.refl (H : Hp) : Same H H := fun _ _ h => h
theorem Same.trans {H H1 H2 : Hp} (a : Same H H1) (b : Same H1 H2) : Same H H2 := fun c o h => b c o (a c o h)
theorem Same.free {H H' : Hp} (e : Same H H') {l : Addr} (h : H' l = Option.none) : H l = Option.none := by
  cases q : H l with
  | none => rfl
  | some o =>
    rw [e l o q] at h
    cases h
theorem Same.seq {K : PySem.W.Frag} {H H' : Hp} {a : Addr} {xs : List V} (e : Same H H') (h : SqL K H a xs) : SqL K H' a xs := by
  rcases h with (h | ⟨o, h⟩) | h
  · exact .inl (.inl (e _ _ h))
  · exact .inl (.inr ⟨o, e _ _ h⟩)
  · exact .inr h
end L2
namespace L2
open PySem PySem.Spec PyProof.Rows
def Sz (n : Nat) (x : Int) : Prop := x.natAbs < 2 ^ n
theorem Sz.mono {m n : Nat} {x : Int} (h : Sz m x) (e : m ≤ n) : Sz n x := Nat.lt_of_lt_of_le h (Nat.pow_le_pow_right (by decide) e)
theorem Sz.of_le {n : Nat} {x y : Int} (h : Sz n y) (e : x.natAbs ≤ y.natAbs) : Sz n x := Nat.lt_of_le_of_lt e h
theorem Sz.mul {m n : Nat} {x y : Int} (h : Sz m x) (h' : Sz n y) : Sz (m + n) (x * y) := by
  unfold Sz
  rw [Int.natAbs_mul, Nat.pow_add]
  exact Nat.mul_lt_mul'' h h'
theorem Sz.add {n : Nat} {x y : Int} (h : Sz n x) (h' : Sz n y) : Sz (n + 1) (x + y) := by
  unfold Sz at *
  rw [Nat.pow_succ]
  omega
theorem Sz.sub {n : Nat} {x y : Int} (h : Sz n x) (h' : Sz n y) : Sz (n + 1) (x - y) := by
  unfold Sz at *
  rw [Nat.pow_succ]
  omega
theorem Sz.neg {n : Nat} {x : Int} (h : Sz n x) : Sz n (-x) := by
  unfold Sz at *
  omega
theorem Sz.log {n : Nat} {x : Int} (h : Sz n x) (hn : 0 < n) : x.natAbs.log2 < n := by
  by_cases h0 : x.natAbs = 0
  · rw [h0]
    exact hn
  · exact (Nat.log2_lt h0).mpr h
theorem Sz.bits {n : Nat} {x : Int} (h : Sz n x) : Builtin.Int.intBits x ≤ n := by
  unfold Builtin.Int.intBits
  by_cases h0 : (x == 0) = true
  · rw [if_pos h0]
    exact Nat.zero_le _
  · rw [if_neg h0]
    have hx : x.natAbs ≠ 0 := by
      intro z
      exact h0 (by simp; omega)
    exact (Nat.log2_lt hx).mpr h
section
variable {X : Cx} {a b : Expr} {ta tb : TE} {pos : Pos}
theorem op_fdivL : OpR X (binaryOp .FloorDiv) (rI (fun _ j => j ≠ 0 ∧ Sz 9000 j) fun i j => .int (i.fdiv j)) := opI fun _ _ _ _ _ _ _ hc q => floordiv_int hc.1 q (.inl (PyProof.noPylong_of_log2 (hc.2.log (by decide))))
theorem op_mulL : OpR X (binaryOp .Mult) (rI (fun i j => Sz 9000 i ∧ Sz 9000 j) fun i j => .int (i * j)) := opI fun _ _ _ _ _ _ _ hc q =>
  mul_int q (PySem.IntMulOk.of_bits (Nat.le_trans hc.1.bits (by decide)) (Nat.le_trans hc.2.bits (by decide)))
end
mutual
def HasD (K : PySem.W.Frag) (H : Hp) : V → PyData → Prop
  | v, .none => v = .non
  | v, .bool b => v = .bl b
  | v, .int i => v = .int i
  | v, .str x => v = .str x
  | v, .list ds => ∃ a xs, v = .ref a ∧ SqL K H a xs ∧ HasDs K H xs ds
  | v, .tuple ds => ∃ a xs, v = .ref a ∧ SqT K H a xs ∧ HasDs K H xs ds
  | _, .dict _ => False
def HasDs (K : PySem.W.Frag) (H : Hp) : List V → List PyData → Prop
  | xs, [] => xs = []
  | xs, d :: ds => ∃ x r, xs = x :: r ∧ HasD K H x d ∧ HasDs K H r ds
end
section
variable {X : Cx} {pins : List (Addr × Obj)} {σ : St} {H : Hp} {s : Shared}
mutual
theorem Inv.reads (I : Inv X pins σ H s) : ∀ (d : PyData) {v : V} {u : Value}, HasD X.K H v d → RelV v u → ∃ as, Reads s.heap u d as
  | .none, v, u, h, r => by
    rw [HasD] at h
    subst h
    cases r
    exact ⟨[], .none⟩
  | .bool b, v, u, h, r => by
    rw [HasD] at h
    subst h
    cases r
    exact ⟨[], .bool b⟩
  | .int i, v, u, h, r => by
    rw [HasD] at h
    subst h
    obtain ⟨t, rfl⟩ := r
    exact ⟨[], .int i t⟩
  | .str x, v, u, h, r => by
    rw [HasD] at h
    subst h
    obtain ⟨t, rfl⟩ := r
    exact ⟨[], .str x t⟩
  | .list ds, v, u, h, r => by
    rw [HasD] at h
    obtain ⟨a, xs, rfl, hl, hs⟩ := h
    cases r
    obtain ⟨its, rv, ⟨o, n, e, hc, hd, hdt⟩, _⟩ := I.list hl
    obtain ⟨as, ra⟩ := Inv.readsAll I ds hs rv
    exact ⟨_, .list e hc hdt (by simpa using ra)⟩
  | .tuple ds, v, u, h, r => by
    rw [HasD] at h
    obtain ⟨a, xs, rfl, hl, hs⟩ := h
    cases r
    obtain ⟨its, rv, p, _⟩ := I.tuple hl
    obtain ⟨o, e, hc, n, hdt⟩ := p
    obtain ⟨as, ra⟩ := Inv.readsAll I ds hs rv
    exact ⟨_, .tuple e hc hdt (by simpa using ra)⟩
  | .dict _, v, u, h, r => by
    rw [HasD] at h
    exact h.elim
theorem Inv.readsAll (I : Inv X pins σ H s) : ∀ (ds : List PyData) {xs : List V} {us : List Value}, HasDs X.K H xs ds → Vals xs us → ∃ as, ReadsAll s.heap us ds as
  | [], xs, us, h, r => by
    rw [HasDs] at h
    subst h
    cases r
    exact ⟨[], .nil⟩
  | d :: ds, xs, us, h, r => by
    rw [HasDs] at h
    obtain ⟨x, q, rfl, h1, h2⟩ := h
    cases r with
    | cons r1 r2 =>
      obtain ⟨as, a1⟩ := Inv.reads I d h1 r1
      obtain ⟨bs, a2⟩ := Inv.readsAll I ds h2 r2
      exact ⟨_, .cons a1 a2⟩
end
def rEqD (X : Cx) (neg : Bool) : R2 := fun x y H Q => ∃ d e : PyData, HasD X.K H x d ∧ HasD X.K H y e ∧ d.canLay0 = true ∧ e.canLay0 = true ∧ X.A.units + min d.depth e.depth < cLine ∧
  Q (.bl (if neg then !PyData.eqv d e else PyData.eqv d e)) H
theorem op_eqD : OpR X (compareOp .Eq) (rEqD X false) := by
  intro pins s σ H x y v u Q I rx ry h
  obtain ⟨d, e, h1, h2, c1, c2, hu, q⟩ := h
  obtain ⟨as, ra⟩ := I.reads d h1 rx
  obtain ⟨bs, rb⟩ := I.reads e h2 ry
  exact SeqAt.compareEq_reads ra rb c1 c2 hu ⟨.bl (PyData.eqv d e), H, I, rfl, q⟩
theorem op_neD : OpR X (compareOp .NotEq) (rEqD X true) := by
  intro pins s σ H x y v u Q I rx ry h
  obtain ⟨d, e, h1, h2, c1, c2, hu, q⟩ := h
  obtain ⟨as, ra⟩ := I.reads d h1 rx
  obtain ⟨bs, rb⟩ := I.reads e h2 ry
  exact SeqAt.compareNe_reads ra rb c1 c2 hu ⟨.bl (!PyData.eqv d e), H, I, rfl, q⟩
def clsV : V → Value
  | .ty n => .type n
  | .ref a => .ref a
  | _ => .none
end
theorem bt_abs : bootBuiltins "abs" = some (.builtin "abs") := by decide +kernel
theorem bt_len : bootBuiltins "len" = some (.builtin "len") := by decide +kernel
theorem bt_min : bootBuiltins "min" = some (.builtin "min") := by decide +kernel
theorem bt_max : bootBuiltins "max" = some (.builtin "max") := by decide +kernel
theorem bt_sum : bootBuiltins "sum" = some (.builtin "sum") := by decide +kernel
theorem bt_isinstance : bootBuiltins "isinstance" = some (.builtin "isinstance") := by decide +kernel
theorem bt_sorted : bootBuiltins "sorted" = some (.builtin "sorted") := by decide +kernel
theorem bt_int : bootBuiltins "int" = some (.type "int") := by decide +kernel
theorem bt_bool : bootBuiltins "bool" = some (.type "bool") := by decide +kernel
theorem bt_list : bootBuiltins "list" = some (.type "list") := by decide +kernel
theorem bt_tuple : bootBuiltins "tuple" = some (.type "tuple") := by decide +kernel
theorem bt_enumerate : bootBuiltins "enumerate" = some (.type "enumerate") := by decide +kernel
theorem bt_zip : bootBuiltins "zip" = some (.type "zip") := by decide +kernel
theorem ifP {c A B : Prop} [Decidable c] (h : c) (x : A) : if c then A else B := by
  rw [if_pos h]
  exact x
theorem ifN {c A B : Prop} [Decidable c] (h : ¬ c) (x : B) : if c then A else B := by
  rw [if_neg h]
  exact x
theorem kit_ty (K : PySem.W.Frag) {T C : String} {b : Bool} (h : (if (Value.type T == Value.type C) = true then some true else if PySem.W.kitMeta C = true then (fastBuiltinMro T).map (·.contains (Value.type C)) else none) = some b) : PySem.W.kitOne K (.type T) (.type C) = some b := h
structure Def (K : PySem.W.Frag) (mg : Str → Option Value) (x qual : Str) (st : Stmt) (ps : List Str) : Prop where
  ex : ∃ f fd, Fun K x qual st f fd ∧ Binds K fd ps [] ∧ mg x = some (.ref f)
structure Own (P : Program) (w : World) (K : PySem.W.Frag) (mg : Str → Option Value) (base : Heap) (CX : CXT) (x : Str) (ps : List Str) (k : Nat) (sp : Sp) : Prop where
  ex : ∃ f fd, FnOk P w K mg base CX k f fd ps sp ∧ Binds K fd ps [] ∧ mg x = some (.ref f) ∧ PySem.W.keepIn K (.ref f) = true
section
variable {P : Program} {w : World} {K : PySem.W.Frag} {mg : Str → Option Value} {base : Heap}
theorem Def.own {x qual : Str} {st : Stmt} {ps N : List Str} {k : Nat} {sp : Sp} (D : Def K mg x qual st ps) (S : FnScope N ps (defScope st)) (len : ∀ vs H Q E, sp vs H Q E → vs.length = ps.length)
    (hbody : ∀ (f : Addr) (cdv : Value) (A : Around) (outer : List Env) (s : Shared) (H : Hp) (vs : List V) (Q : VK) (E : XK), Room k (A.deeper (envOfC qual (defScope st) s.heap.objs.size f cdv)) → sp vs H Q E →
      ∃ t, PSs (cxOf CX0 P w K mg base N qual (defScope st) f cdv A outer s H E).nox (defBody st) t ∧ t { nx := fun _ H' => Q .non H', rt := Q } (start N vs) H) : Own P w K mg base CX0 x ps (k + 1) sp := by
  obtain ⟨f, fd, F, b, m⟩ := D.ex
  exact ⟨f, fd, F.ok S len fun cdv A outer s H vs Q E hr h => hbody f cdv A outer s H vs Q E hr h, b, m, F.kp⟩
end
section
variable {X : Cx} {CX : CXT} {k : Nat} {ps : List Str} {sp : Sp} {E : XK} {x : Str} {p pos : Pos} {e : Expr} {es : List Expr} {t : TA}
theorem pe_own (F : Own X.prog X.w X.K X.mg X.base CX x ps k sp) (hr : Room k X.A) (hg : Gl X x) (hx : Passes CX X E) (ha : PA X (e :: es) t) (hdb : (x == ("__debug__" : Str)) = false := by decide)
    (he : starEach (e :: es) X.env = (false, eval e X.env) :: starEach es X.env := by rfl) (hpl : (backTo pos (starEach es X.env)).any (·.1) = false := by rfl) : PE X (.Call (.Name x p) (e :: es) [] pos) (tCall sp [] E t) := by
  obtain ⟨f, fd, F, b, m, kp⟩ := F.ex
  exact pe_call F hr hg m kp b .nil hx ha hdb he hpl
end
def tSeqJ (t u : TS) : TS := fun D σ H => ∃ P : St → Hp → Prop, t { D with nx := P } σ H ∧ ∀ σ' H', P σ' H' → u D σ' H'
theorem pss_consJ {X : Cx} {st : Stmt} {rest : List Stmt} {t u : TS} (h1 : PS X st t) (h2 : PSs X rest u) : PSs X (st :: rest) (tSeqJ t u) := by
  intro pins s σ H D I h
  obtain ⟨P, hp, hq⟩ := h
  refine wpAny_execs_cons (thn (h1 pins s σ H { D with nx := P } I hp) fun f s1 q => ?_)
  cases f with
  | next =>
    obtain ⟨σ', H', I', q⟩ := q
    exact h2 pins s1 σ' H' D I' (hq σ' H' q)
  | ret v => exact q
  | brk => exact q
  | cont => exact q
theorem Same.upd {H : Hp} {a : Addr} {o : HO} (n : H a = none) : Same H (upd H a o) := fun b u e => by
  rw [upd_ne (ne_of_none e n)]
  exact e
theorem Same.tup {K : PySem.W.Frag} {H H' : Hp} {a : Addr} {xs : List V} (e : Same H H') (h : SqT K H a xs) : SqT K H' a xs := by
  rcases h with (h | ⟨o, h⟩) | h
  · exact .inl (.inl (e _ _ h))
  · exact .inl (.inr ⟨o, e _ _ h⟩)
  · exact .inr h
end L2
namespace Hw
def low (t b : Int) : Int × Int := (t / (Int.gcd t b : Int), b / (Int.gcd t b : Int))
def lowI (t b : Int) : Int × Int := if b < 0 then low (-t) (-b) else low t b
theorem gpos (t : Int) {b : Int} (hb : b ≠ 0) : 0 < (Int.gcd t b : Int) := by
  have := Int.gcd_pos_of_ne_zero_right t hb
  omega
theorem gdl (t b : Int) : (Int.gcd t b : Int) ∣ t := Int.gcd_dvd_left ..
theorem gdr (t b : Int) : (Int.gcd t b : Int) ∣ b := Int.gcd_dvd_right ..
theorem low_pos (t : Int) {b : Int} (hb : 0 < b) : 0 < (low t b).2 := by
  have g := gpos t (show b ≠ 0 by omega)
  exact Int.ediv_pos_of_pos_of_dvd hb (by omega) (gdr t b)
theorem low_le (t : Int) {b : Int} (hb : 0 < b) : (low t b).2 ≤ b := by
  have g := gpos t (show b ≠ 0 by omega)
  exact Int.ediv_le_self _ (by omega)
theorem low_abs (t b : Int) : (low t b).1.natAbs ≤ t.natAbs := by
  show (t / (Int.gcd t b : Int)).natAbs ≤ _
  rw [Int.natAbs_ediv_of_dvd (gdl t b)]
  exact Nat.div_le_self _ _
theorem lowI_pos (t : Int) {b : Int} (hb : b ≠ 0) : 0 < (lowI t b).2 := by
  unfold lowI
  split
  · exact low_pos _ (by omega)
  · exact low_pos _ (by omega)
theorem lowI_le (t : Int) {b : Int} (hb : b ≠ 0) : (lowI t b).2.natAbs ≤ b.natAbs := by
  have h := lowI_pos t hb
  unfold lowI at *
  split
  · rename_i hn
    rw [if_pos hn] at h
    have := low_le (-t) (show 0 < -b by omega)
    omega
  · rename_i hn
    rw [if_neg hn] at h
    have := low_le t (show 0 < b by omega)
    omega
theorem gcd_turn (a b : Int) : Int.gcd b (a % b) = Int.gcd a b := by
  have e : a % b = a - (a / b) * b := by
    have := Int.emod_def a b
    rw [this, Int.mul_comm]
  rw [Int.gcd_comm b, e, Int.gcd_sub_mul_right_left]
theorem gcd_end {d : Int} (h : 0 ≤ d) : ((Int.gcd d 0 : Nat) : Int) = d := by
  rw [Int.gcd_zero_right]
  omega
theorem fdiv_low1 (t b : Int) : t.fdiv (Int.gcd t b : Int) = (low t b).1 := Int.fdiv_eq_ediv_of_nonneg _ (by omega)
theorem fdiv_low2 (t b : Int) : b.fdiv (Int.gcd t b : Int) = (low t b).2 := Int.fdiv_eq_ediv_of_nonneg _ (by omega)
theorem gcd_negs (t b : Int) : Int.gcd (-t) (-b) = Int.gcd t b := by
  rw [Int.neg_gcd, Int.gcd_neg]
theorem fdiv_neg1 (t b : Int) : t.fdiv (-(Int.gcd t b : Int)) = (low (-t) (-b)).1 := by
  show _ = -t / ((Int.gcd (-t) (-b) : Nat) : Int)
  rw [gcd_negs, Int.fdiv_eq_ediv_of_dvd (Int.neg_dvd.mpr (gdl t b)), Int.ediv_neg, Int.neg_ediv_of_dvd (gdl t b)]
theorem fdiv_neg2 (t b : Int) : b.fdiv (-(Int.gcd t b : Int)) = (low (-t) (-b)).2 := by
  show _ = -b / ((Int.gcd (-t) (-b) : Nat) : Int)
  rw [gcd_negs, Int.fdiv_eq_ediv_of_dvd (Int.neg_dvd.mpr (gdr t b)), Int.ediv_neg, Int.neg_ediv_of_dvd (gdr t b)]
theorem gcd_le (t : Int) {b : Int} (hb : b ≠ 0) : ((Int.gcd t b : Nat) : Int).natAbs ≤ b.natAbs := by
  have := Int.natAbs_dvd_natAbs.mpr (gdr t b)
  exact Nat.le_of_dvd (by omega) this
theorem gcd_abs2 (a b : Int) : Int.gcd (if a < 0 then -a else a) (if b < 0 then -b else b) = Int.gcd a b := by
  split <;> split <;> simp [Int.neg_gcd, Int.gcd_neg]
theorem gcd_abs1 (a b : Int) : Int.gcd (if a < 0 then -a else a) b = Int.gcd a b := by
  split <;> simp [Int.neg_gcd]
theorem abs_nn (a : Int) : 0 ≤ (if a < 0 then -a else a) := by
  split <;> omega
end Hw
namespace L2
open PySem PySem.Spec PyProof.Rows
def relS (scope osc : Scope) : Scope :=
  { scope with names := scope.names.map fun (n, k) => if (k == .free && osc.kind == .function && osc.names.lookup n == some .cell) then (n, .cell) else (n, k) }
def cEnv (scope : Scope) (cl : List (Str × Addr)) (L : Addr) (env : Env) : Env :=
  { scope := relS scope env.scope, locals := L, globals := env.globals, cells := cellsFrom (L + 1) scope.names cl, qual := env.qual, func := none, code := env.code, frame := env.frame, builtins := env.builtins }
def closL (env : Env) : List (Str × NameKind) → List (Str × Addr) → List (Str × Addr)
  | [], acc => acc
  | (n, k) :: r, acc => if k == .free then closL env r ((n, (env.cells.lookup n).getD 0) :: acc) else closL env r acc
theorem clos_loop {env : Env} (f : Str × NameKind → List (Str × Addr) → Sem (ForInStep (List (Str × Addr))))
    (hf : ∀ n k cs, f (n, k) cs = if (k == .free) = true then (do let a ← cellOf env n; pure (.yield ((n, a) :: cs))) else pure (.yield cs)) :
    ∀ (names : List (Str × NameKind)) (acc : List (Str × Addr)), (∀ y ∈ names, y.2 = .free → ∃ c, env.cells.lookup y.1 = some c) → forIn names acc f = (pure (closL env names acc) : Sem _)
  | [], acc, _ => by rw [List.forIn_nil]; rfl
  | (n, k) :: r, acc, h => by
    rw [List.forIn_cons, hf]
    unfold closL
    by_cases hk : (k == NameKind.free) = true
    · rw [if_pos hk, if_pos hk]
      obtain ⟨c, hc⟩ := h (n, k) List.mem_cons_self (by simpa using hk)
      have hc' : env.cells.lookup n = some c := hc
      unfold cellOf
      rw [hc']
      simp only [pure_bind, Option.getD_some]
      exact clos_loop f hf r _ fun y hy => h y (List.mem_cons_of_mem _ hy)
    · rw [if_neg hk, if_neg hk]
      simp only [pure_bind]
      exact clos_loop f hf r _ fun y hy => h y (List.mem_cons_of_mem _ hy)
theorem closure_for {scope : Scope} {env : Env} (h : ∀ y ∈ scope.names, y.2 = .free → ∃ c, env.cells.lookup y.1 = some c) : closureFor scope env = pure (closL env scope.names []) := by
  unfold closureFor
  show (forIn scope.names ([] : List (Str × Addr)) _ >>= fun cs => pure cs) = _
  rw [clos_loop (env := env) _ (fun n k cs => by cases hk : k == NameKind.free <;> simp [hk]) scope.names [] h]
  rfl
theorem closL_mem {env : Env} : ∀ (names : List (Str × NameKind)) (acc : List (Str × Addr)) {n : Str} {c : Addr}, (n, c) ∈ closL env names acc → (n, c) ∈ acc ∨ ((n, NameKind.free) ∈ names ∧ c = (env.cells.lookup n).getD 0)
  | [], _, _, _, h => .inl h
  | (m, k) :: r, acc, n, c, h => by
    unfold closL at h
    by_cases hk : (k == NameKind.free) = true
    · rw [if_pos hk] at h
      rcases closL_mem r _ h with h | ⟨h1, h2⟩
      · rcases List.mem_cons.mp h with e | h
        · cases e
          refine .inr ⟨?_, rfl⟩
          rw [show k = NameKind.free by simpa using hk]
          exact List.mem_cons_self
        · exact .inl h
      · exact .inr ⟨List.mem_cons_of_mem _ h1, h2⟩
    · rw [if_neg hk] at h
      rcases closL_mem r _ h with h | ⟨h1, h2⟩
      · exact .inl h
      · exact .inr ⟨List.mem_cons_of_mem _ h1, h2⟩
theorem closL_acc {env : Env} : ∀ (names : List (Str × NameKind)) (acc : List (Str × Addr)) {n : Str}, n ∈ acc.map (·.1) → n ∈ (closL env names acc).map (·.1)
  | [], _, _, h => h
  | (m, k) :: r, acc, n, h => by
    unfold closL
    by_cases hk : (k == NameKind.free) = true
    · rw [if_pos hk]
      exact closL_acc r _ (by simp at h ⊢; exact .inr h)
    · rw [if_neg hk]
      exact closL_acc r _ h
theorem closL_has {env : Env} : ∀ (names : List (Str × NameKind)) (acc : List (Str × Addr)) {n : Str}, (n, NameKind.free) ∈ names → n ∈ (closL env names acc).map (·.1)
  | (m, k) :: r, acc, n, h => by
    unfold closL
    rcases List.mem_cons.mp h with e | h
    · cases e
      rw [if_pos (show (NameKind.free == NameKind.free) = true from rfl)]
      exact closL_acc r _ (by simp)
    · by_cases hk : (k == NameKind.free) = true
      · rw [if_pos hk]
        exact closL_has r _ h
      · rw [if_neg hk]
        exact closL_has r _ h
theorem lookup_of_key {α : Type} : ∀ {l : List (Str × α)} {n : Str}, n ∈ l.map (·.1) → ∃ c, l.lookup n = some c
  | (k, v) :: r, n, h => by
    rw [List.lookup_cons]
    cases hb : n == k with
    | true => exact ⟨v, rfl⟩
    | false =>
      refine lookup_of_key (l := r) ?_
      rw [List.map_cons] at h
      rcases List.mem_cons.mp h with e | h
      · rw [e] at hb
        simp at hb
      · exact h
theorem cellsFrom_app : ∀ (names : List (Str × NameKind)) (k : Nat) (acc : List (Str × Addr)), cellsFrom k names acc = cellsFrom k names [] ++ acc
  | [], _, _ => rfl
  | (n, kd) :: r, k, acc => by
    unfold cellsFrom
    split
    · rw [cellsFrom_app r (k + 1) ((n, k) :: acc), cellsFrom_app r (k + 1) [(n, k)], List.append_assoc]
      rfl
    · exact cellsFrom_app r k acc
theorem cellsFrom_names : ∀ (names : List (Str × NameKind)) (k : Nat) {n : Str} {c : Addr}, (n, c) ∈ cellsFrom k names [] → (n, NameKind.cell) ∈ names
  | [], _, _, _, h => by cases h
  | (m, kd) :: r, k, n, c, h => by
    unfold cellsFrom at h
    split at h
    · rename_i hk
      rw [cellsFrom_app] at h
      rcases List.mem_append.mp h with h | h
      · exact List.mem_cons_of_mem _ (cellsFrom_names r _ h)
      · have e : (n, c) = (m, k) := by simpa using h
        cases e
        rw [show kd = NameKind.cell by simpa using hk]
        exact List.mem_cons_self
    · exact List.mem_cons_of_mem _ (cellsFrom_names r _ h)
theorem lookup_app {α : Type} : ∀ (l r : List (Str × α)) (n : Str), (l ++ r).lookup n = (l.lookup n).or (r.lookup n)
  | [], r, n => by simp
  | (k, v) :: l, r, n => by
    rw [List.cons_append, List.lookup_cons, List.lookup_cons]
    cases hb : n == k with
    | true => rfl
    | false => exact lookup_app l r n
theorem relS_lookup (scope osc : Scope) (x : Str) : (relS scope osc).names.lookup x = (scope.names.lookup x).map fun k => if (k == .free && osc.kind == .function && osc.names.lookup x == some .cell) = true then .cell else k := by
  unfold relS
  show (scope.names.map _).lookup x = _
  induction scope.names with
  | nil => rfl
  | cons y r ih =>
    obtain ⟨n, k⟩ := y
    rw [List.map_cons]
    show List.lookup x ((if (k == NameKind.free && osc.kind == .function && osc.names.lookup n == some .cell) = true then (n, NameKind.cell) else (n, k)) :: _) = _
    by_cases hc : (k == NameKind.free && osc.kind == .function && osc.names.lookup n == some .cell) = true
    · rw [if_pos hc, List.lookup_cons, List.lookup_cons]
      cases hb : x == n with
      | true =>
        have e : x = n := by simpa using hb
        subst e
        simp only [Option.map_some]
        rw [if_pos hc]
      | false => exact ih
    · rw [if_neg hc, List.lookup_cons, List.lookup_cons]
      cases hb : x == n with
      | true =>
        have e : x = n := by simpa using hb
        subst e
        simp only [Option.map_some]
        rw [if_neg hc]
      | false => exact ih
theorem ad_no {c n : Nat} (h : c < n) (h' : n + 1 + 1 ≤ c) : False := by omega
theorem ad_ne1 {b n : Nat} (h : b < n) : b ≠ n + 1 := by omega
theorem ad_ne2 {b c n : Nat} (h : b < n) (h' : n + 1 + 1 ≤ c) : c ≠ b := by omega
theorem ad_ne3 {c n : Nat} (h' : n + 1 + 1 ≤ c) : c ≠ n := by omega
theorem ad_le3 {c n : Nat} (h' : n + 1 + 1 ≤ c) : n ≤ c := by omega
theorem ad_ne4 {c n m : Nat} (h : c < n) (h' : n ≤ m) : c ≠ m := by omega
structure CompSc (osc : Scope) (ON : List Str) (scope : Scope) (tg cap : List Str) (caps : List Nat) : Prop where
  kind : scope.kind = .function
  loc : ∀ y ∈ scope.names, y.2 = .local → scope.names.lookup y.1 = some .local
  fre : ∀ y ∈ scope.names, y.2 = .free → osc.names.lookup y.1 = some .cell ∨ osc.names.lookup y.1 = some .free
  own : ∀ y ∈ scope.names, y.2 = .cell → scope.names.lookup y.1 = some .cell
  capk : ∀ x ∈ cap, scope.names.lookup x = some .free ∧ (x, NameKind.cell) ∉ scope.names
  capi : caps.map (fun j => ON[j]?) = cap.map some
def cxComp (X : Cx) (scope : Scope) (cl : List (Str × Addr)) (L : Addr) (N : List Str) (ex : List Addr) (s : Shared) (H : Hp) : Cx :=
  { X with N := N, s₀ := s, H₀ := H, env := cEnv scope cl L X.env, outer := X.stack, stack := X.stack, ex := ex, fn := fun x => scope.names.any fun y => y.1 == x && y.2 == .cell, pn := [], xe := fun _ _ => False }
def compSt (σ : St) (k : Nat) (caps : List Nat) : St := List.replicate k none ++ caps.map fun j => (σ[j]?).getD none
section
variable {X : Cx} {pins : List (Addr × Obj)} {σ : St} {H : Hp} {s : Shared}
theorem comp_start {scope : Scope} {tg cap : List Str} {caps : List Nat} {fp : List Addr} (S : CompSc X.env.scope X.N scope tg cap caps) (I : Inv X pins σ H s) (hfp : ∀ b ∈ fp, FpOk X pins H b) (hlt : ∀ b ∈ fp, b < s.heap.objs.size) (tk : Nat) :
    Inv (cxComp X scope (closL X.env scope.names []) (s.heap.objs.size + 1) (tg ++ cap) fp s H) [] (compSt σ tg.length caps) (upd H s.heap.objs.size (.lst []))
      { s with heap := pushCells ((s.heap.push { cls := .type "list", data := .seq ([] : List Value).toArray }).push { cls := .type "dict", data := .dict #[] }) scope.names, toks := tk } := by
  have hasc : ∀ y ∈ scope.names, y.2 = .free → ∃ c, X.env.cells.lookup y.1 = some c := fun y hy h => I.ok.has y.1 (S.fre y hy h)
  have clo : ∀ {n : Str} {c : Addr}, (closL X.env scope.names []).lookup n = some c → X.env.cells.lookup n = some c := fun {n c} e => by
    rcases closL_mem scope.names [] (PySem.mem_of_lookup e) with h | ⟨h1, h2⟩
    · cases h
    · obtain ⟨c', e'⟩ := hasc (n, .free) h1 rfl
      have e'' : X.env.cells.lookup n = some c' := e'
      rw [e''] at h2
      rw [e'', h2]
      rfl
  have D1 : ((s.heap.push { cls := .type "list", data := .seq ([] : List Value).toArray }).push { cls := .type "dict", data := .dict #[] }).objs.size = s.heap.objs.size + 1 + 1 := by rw [Heap.size_push, Heap.size_push]
  have own := cellsFrom_ok scope.names ((s.heap.push { cls := .type "list", data := .seq ([] : List Value).toArray }).push { cls := .type "dict", data := .dict #[] }) (s.heap.objs.size + 1 + 1) [] ⟨fun _ _ hm => (nomatch hm), List.Pairwise.nil⟩ (Nat.le_of_eq D1.symm)
  rw [D1] at own
  have kp : ∀ b o, s.heap.get? b = some o → (pushCells ((s.heap.push { cls := .type "list", data := .seq ([] : List Value).toArray }).push { cls := .type "dict", data := .dict #[] }) scope.names).get? b = some o :=
    fun b o e => pushCells_keeps _ _ b o (Heap.get?_push_of_some _ (Heap.get?_push_of_some _ e))
  have cellE : (cxComp X scope (closL X.env scope.names []) (s.heap.objs.size + 1) (tg ++ cap) fp s H).env.cells = cellsFrom (s.heap.objs.size + 1 + 1) scope.names [] ++ closL X.env scope.names [] := cellsFrom_app _ _ _
  have two : ∀ {n : Str} {c : Addr}, (cxComp X scope (closL X.env scope.names []) (s.heap.objs.size + 1) (tg ++ cap) fp s H).env.cells.lookup n = some c →
      ((n, c) ∈ cellsFrom (s.heap.objs.size + 1 + 1) scope.names [] ∧ s.heap.objs.size + 1 + 1 ≤ c) ∨ (X.env.cells.lookup n = some c ∧ c < s.heap.objs.size ∧ (cellsFrom (s.heap.objs.size + 1 + 1) scope.names []).lookup n = none) := fun {n c} e => by
    rw [cellE, lookup_app] at e
    cases q : (cellsFrom (s.heap.objs.size + 1 + 1) scope.names []).lookup n with
    | some c' =>
      rw [q] at e
      cases e
      have m := PySem.mem_of_lookup q
      exact .inl ⟨m, (own.empty _ _ m).2⟩
    | none =>
      rw [q] at e
      have e' := clo e
      obtain ⟨v, z⟩ := I.cell n c e'
      exact .inr ⟨e', z.lt, rfl⟩
  have ownl : ∀ {x : Str}, (x, NameKind.cell) ∈ scope.names → ((cellsFrom (s.heap.objs.size + 1 + 1) scope.names []).lookup x).isSome = true := fun {x} h => PySem.W.cellsFrom_some scope.names (s.heap.objs.size + 1 + 1) [] (.inl (S.own (x, .cell) h rfl))
  have ltD : ∀ {b : Addr}, b < s.heap.objs.size → b ≠ s.heap.objs.size := fun h => Nat.ne_of_lt h
  have fresh : ∀ {a : Addr}, s.heap.objs.size ≤ a → H a = none := fun h => I.hok.fresh h
  refine ⟨⟨I.ok.mod, S.kind, I.ok.glob, I.ok.blt, Nat.le_succ _, fun x y c h1 h2 => ?_, fun x hx => ?_, fun x c hf h => ?_, I.ok.hd, I.ok.frames, .inl rfl, fun b hb => ?_, I.bs, Nat.le_trans I.ok.bsz I.sz, fun b o e hb => ?_, fun b hb hs => ?_, I.stack, I.stkFree⟩,
    rfl, I.bare, Un.laid kp (Nat.le_refl _) (fresh (Nat.le_refl _)), ⟨fun _ => none, ?_, fun i x v h1 h2 h3 => ?_⟩, fun x c h => ?_, ?_, fun x c h => ?_, fun p hp => ?_, I.hok.laid kp (Nat.le_refl _) ?_, ?_⟩
  · -- inj
    rcases two h1 with ⟨m1, l1⟩ | ⟨e1, l1, _⟩ <;> rcases two h2 with ⟨m2, l2⟩ | ⟨e2, l2, _⟩
    · exact name_of_addr own.apart m1 m2
    · exact (ad_no l2 l1).elim
    · exact (ad_no l1 l2).elim
    · exact I.ok.inj x y c e1 e2
  · -- has
    have hx' : (relS scope X.env.scope).names.lookup x = some .cell ∨ (relS scope X.env.scope).names.lookup x = some .free := hx
    have mem : ∃ k, (x, k) ∈ scope.names ∧ (k = .cell ∨ k = .free) := by
      have : ∃ k, (x, k) ∈ (relS scope X.env.scope).names ∧ (k = NameKind.cell ∨ k = NameKind.free) := by
        rcases hx' with h | h
        · exact ⟨_, PySem.mem_of_lookup h, .inl rfl⟩
        · exact ⟨_, PySem.mem_of_lookup h, .inr rfl⟩
      obtain ⟨k, hk, hk'⟩ := this
      unfold relS at hk
      obtain ⟨⟨n, k0⟩, h1, h2⟩ := List.mem_map.mp hk
      change (if (k0 == NameKind.free && X.env.scope.kind == .function && X.env.scope.names.lookup n == some .cell) = true then (n, NameKind.cell) else (n, k0)) = (x, k) at h2
      by_cases hc : (k0 == NameKind.free && X.env.scope.kind == .function && X.env.scope.names.lookup n == some .cell) = true
      · rw [if_pos hc] at h2
        cases h2
        simp only [Bool.and_eq_true] at hc
        exact ⟨k0, h1, .inr (by simpa using hc.1.1)⟩
      · rw [if_neg hc] at h2
        cases h2
        exact ⟨k, h1, hk'⟩
    obtain ⟨k, hk, hk'⟩ := mem
    show ∃ c, (cellsFrom (s.heap.objs.size + 1 + 1) scope.names (closL X.env scope.names [])).lookup x = some c
    rw [cellsFrom_app, lookup_app]
    cases q : (cellsFrom (s.heap.objs.size + 1 + 1) scope.names []).lookup x with
    | some c => exact ⟨c, rfl⟩
    | none =>
      rcases hk' with rfl | rfl
      · have z := ownl hk
        rw [q] at z
        cases z
      · exact lookup_of_key (closL_has scope.names [] hk)
  · -- cab
    rcases two h with ⟨_, l⟩ | ⟨e, l, q⟩
    · exact ad_le3 l
    · have hf' : (scope.names.any fun y => y.1 == x && y.2 == .cell) = true := hf
      obtain ⟨⟨n, k⟩, hm, hz⟩ := List.any_eq_true.mp hf'
      simp only [Bool.and_eq_true] at hz
      have e1 : n = x := by simpa using hz.1
      have e2 : k = .cell := by simpa using hz.2
      subst e1 e2
      have z := ownl hm
      rw [q] at z
      cases z
  · -- exf
    refine ⟨?_, fun x c h => ?_⟩
    · exact ad_ne1 (hlt b hb)
    · rcases two h with ⟨_, l⟩ | ⟨e, _, _⟩
      · exact ad_ne2 (hlt b hb) l
      · exact (hfp b hb).2.2.2.2.1 x c e
  · -- noex
    obtain ⟨_, _, _, f3, _⟩ := hfp b hb
    rcases f3 with z | z
    · exact I.ok.noex b o e z
    · exact absurd (Nat.lt_of_lt_of_le (Heap.lt_size e) (Nat.le_trans I.ok.bsz z)) (Nat.lt_irrefl _)
  · -- exfs
    obtain ⟨_, f1, f2, _⟩ := hfp b hb
    rcases List.mem_cons.mp (I.stkSub b hs) with z | z
    · exact f1 z
    · exact f2 z
  · -- the block's names
    have h := (Heap.Ns.new (s.heap.push { cls := .type "list", data := .seq ([] : List Value).toArray }) (.type "dict"))
    rw [Heap.size_push] at h
    exact h.keeps (pushCells_keeps _ _)
  · -- the free names' values
    have hi : tg.length ≤ i := by
      refine Nat.le_of_not_lt fun hi => ?_
      unfold compSt at h2
      rw [List.getElem?_append_left (by simpa using hi), List.getElem?_replicate] at h2
      split at h2 <;> cases h2
    have h1' : cap[i - tg.length]? = some x := by
      have z : (tg ++ cap)[i]? = some x := h1
      rw [List.getElem?_append_right hi] at z
      exact z
    unfold compSt at h2
    rw [List.getElem?_append_right (by simpa using hi), List.length_replicate, List.getElem?_map] at h2
    cases hj : caps[i - tg.length]? with
    | none => rw [hj] at h2; cases h2
    | some j =>
      rw [hj] at h2
      have hv : σ[j]? = some (some v) := by
        have z : (σ[j]?).getD none = some v := Option.some.inj h2
        cases q : σ[j]? with
        | none => rw [q] at z; cases z
        | some o => rw [q] at z; rw [show o = some v from z]
      have hN : X.N[j]? = some x := by
        have z := congrArg (fun l : List (Option Str) => l[i - tg.length]?) S.capi
        simp only [List.getElem?_map, hj, h1', Option.map_some] at z
        exact Option.some.inj z
      obtain ⟨hk0, hk2⟩ := S.capk x (List.mem_of_getElem? h1')
      have hk1 := PySem.mem_of_lookup hk0
      have vis : Vis X.env.scope x := by
        rcases S.fre (x, .free) hk1 rfl with z | z
        · exact .inr (.inl z)
        · exact .inr (.inr z)
      obtain ⟨m, hn, hl⟩ := I.loc
      obtain ⟨u, r, l⟩ := hl j x v hN hv vis
      refine ⟨u, r, ?_⟩
      rcases l with ⟨l1, _⟩ | ⟨_, c, hc, z⟩
      · have l1' : X.env.scope.names.lookup x = some .local := l1
        rcases S.fre (x, .free) hk1 rfl with q | q
        · have q' : X.env.scope.names.lookup x = some .cell := q
          rw [l1'] at q'
          cases q'
        · have q' : X.env.scope.names.lookup x = some .free := q
          rw [l1'] at q'
          cases q'
      · refine .inr ⟨?_, c, ?_, z.keeps kp⟩
        · rcases h3 with q | q | q
          · have q' : (relS scope X.env.scope).names.lookup x = some .local := q
            rw [relS_lookup, hk0, Option.map_some] at q'
            have q'' := Option.some.inj q'
            split at q'' <;> cases q''
          · exact .inl q
          · exact .inr q
        · rw [cellE, lookup_app]
          cases q : (cellsFrom (s.heap.objs.size + 1 + 1) scope.names []).lookup x with
          | some c' => exact absurd (cellsFrom_names _ _ (PySem.mem_of_lookup q)) hk2
          | none =>
            obtain ⟨c', e'⟩ := lookup_of_key (closL_has (env := X.env) scope.names [] hk1)
            rw [e', Option.none_or]
            rw [← clo e', hc]
  · -- cells
    rcases two h with ⟨m, _⟩ | ⟨e, _, _⟩
    · exact ⟨none, (own.empty _ _ m).1⟩
    · obtain ⟨v, z⟩ := I.cell x c e
      exact ⟨v, z.keeps kp⟩
  · show upd H s.heap.objs.size (.lst []) (s.heap.objs.size + 1) = none
    rw [upd_ne (Nat.succ_ne_self _)]
    exact fresh (Nat.le_succ _)
  · show upd H s.heap.objs.size (.lst []) c = none
    rcases two h with ⟨_, l⟩ | ⟨e, l, _⟩
    · rw [upd_ne (ad_ne3 l)]
      exact fresh (ad_le3 l)
    · rw [upd_ne (Nat.ne_of_lt l)]
      exact I.freeC x c e
  · have z : p ∈ ([] : List (Addr × Obj)) := hp
    cases z
  · refine ⟨Nat.zero_le _, [], _, .nil, pushCells_keeps _ _ _ _ (Heap.get?_push_of_some _ (Heap.get?_push_size _ rfl))⟩
  · unfold compSt
    show _ = (tg ++ cap).length
    have z := congrArg List.length S.capi
    rw [List.length_map, List.length_map] at z
    rw [List.length_append, List.length_replicate, List.length_map, List.length_append, z]
theorem comp_back {scope : Scope} {cl : List (Str × Addr)} {L : Addr} {N : List Str} {fp : List Addr} {σ' : St} {H' : Hp} {s' : Shared} {pins' : List (Addr × Obj)} (I : Inv X pins σ H s) (hfp : ∀ b ∈ fp, FpOk X pins H b)
    (J : Inv (cxComp X scope cl L N fp s H) pins' σ' H' s') : Inv X pins σ H' s' :=
  I.call' J.os J.base J.hok J.bare fun b hb => let ⟨_, f1, _, f3, f4, f5⟩ := hfp b hb; ⟨f3, f1, f4, f5⟩
theorem comp_gone {L : Addr} {h' : Heap} (I : Inv X pins σ H s) (hL : H L = none) (h1 : X.s₀.heap.objs.size ≤ L) (h2 : L ≠ X.env.locals) (h3 : ∀ x c, X.env.cells.lookup x = some c → c ≠ L) (h4 : ∀ p ∈ X.pn ++ pins, p.1 ≠ L)
    (hs : Heap.SameBut L s.heap h') : Inv X pins σ H { s with heap := h' } :=
  I.turned (t' := s.toks) (fun b o hb e => (hs.2 b hb).trans e) hL h2 (.inr h1) h3 h4
def CompRun (J : It) (g : TG) (tt : TT) (te : TE) (σ0 : St) (Q : VK) (H1 : Hp) (l : Addr) : Prop := ∃ W : Nat → Nat → List V → Hp → Prop, (∃ m, W 0 m [] (upd H1 l (.lst []))) ∧
  ∀ i m vs H, W i m vs H → H l = some (.lst vs) ∧ ((J.stop i H ∧ Q (.ref l) H) ∨ (J.go i H ∧ vs.length < sizeLine ∧ ∃ N : List V → Hp → Prop, (∀ vs' H', N vs' H' → ∃ m', m' < m ∧ W (i + 1) m' vs' H') ∧ ∀ x H', J.yld i H x H' →
    g x σ0 H' fun σ2 H2 => tt σ2 H2 fun b H3 => if b = true then te σ2 H3 fun v H4 => H4 l = some (.lst vs) ∧ N (vs ++ [v]) (upd H4 l (.lst (vs ++ [v]))) else N vs H3))
def tComp (wi : TI) (g : TG) (tt : TT) (te : TE) (k : Nat) (caps : List Nat) : TE := fun σ H Q => wi σ H fun J H1 => ∀ l, H1 l = none → CompRun J g tt te (compSt σ k caps) Q H1 l
def GK (g : TG) (k : Nat) : Prop := ∀ v σ H Q, g v σ H Q → g v σ H fun σ' H' => Q σ' H' ∧ σ'.length = σ.length ∧ ∀ i, k ≤ i → σ'[i]? = σ[i]?
theorem gk_name {i k : Nat} (h : i < k) : GK (gName i) k := fun v σ H Q q => ⟨q, by simp, fun j hj => List.getElem?_set_ne (by omega)⟩
theorem gk_tup2 {K : PySem.W.Frag} {i j k : Nat} (hi : i < k) (hj : j < k) : GK (gTup K 2 (gCons (gName i) (gCons (gName j) gNil))) k := fun v σ H Q q => by
  obtain ⟨a, xs, e, h1, h2, v1, r1, e1, v2, r2, e2, e3, q⟩ := q
  refine ⟨a, xs, e, h1, h2, v1, r1, e1, v2, r2, e2, e3, q, by simp, fun l hl => ?_⟩
  rw [List.getElem?_set_ne (by omega), List.getElem?_set_ne (by omega)]
def tYes : TT := fun _ H Q => Q true H
def PTs (X : Cx) (ifs : List Expr) (t : TT) : Prop :=
  ∀ (pins : List (Addr × Obj)) (s : Shared) (σ : St) (H : Hp) (Q : Bool → Hp → Prop), Inv X pins σ H s → t σ H Q → wpAny (model X.prog X.w) X.A
    (forIn ifs true fun c r => if r = true then do let ok ← isTrue c X.env (eval c X.env); pure (ForInStep.yield ok) else pure (ForInStep.yield r)) (TP X pins σ Q) X.xe s
theorem pts_nil {X : Cx} : PTs X [] tYes := fun _ _ _ H _ I h => wpAny_tests_nil ⟨H, I, h⟩
theorem pts_one {X : Cx} {c : Expr} {t : TT} (h : PT X c t) : PTs X [c] t := fun pins s σ H Q I q => wpAny_tests_one (h pins s σ H Q I q)
end
section
variable {prog : Program} {w : World} {A : Around} {R : Result → Shared → Prop} {s : Shared}
theorem comp_env {M : Model} {E : Value → Shared → Prop} {scope : Scope} {globals : Addr} {cl : List (Str × Addr)} {qual : Str} {env : Env} {Q : Env → Shared → Prop}
    (h : Q (newEnv scope s.heap.objs.size globals (cellsFrom (s.heap.objs.size + 1) scope.names cl) qual none .none (some env) builtinsNs) { s with heap := pushCells (s.heap.push { cls := .type "dict", data := .dict #[] }) scope.names }) :
    wpAny M A (newFunctionEnv scope globals cl [] qual none .none (some env)) Q E s := by
  simp only [newFunctionEnv, Option.isSome_some, if_true]
  refine wpAny_bind (wpAny_alloc ?_)
  refine wpAny_bind (wpAny_layCells _ (fun name kind cells => by cases hkc : kind == NameKind.cell <;> simp [hkc]) _ _ _ _ ?_)
  rw [show ({ s with heap := s.heap.push { cls := .type "dict", data := .dict #[] } } : Shared).heap.objs.size = s.heap.objs.size + 1 from Heap.size_push ..]
  rw [List.forIn_nil]
  exact wpAny_bind (wpAny_pure (wpAny_pure h))
theorem comp_loop {elt target iter : Expr} {ifs : List Expr} {scope : Scope} {pos : Pos} {it acc : Value} {env : Env} (I : Nat → Shared → Prop)
    (turn : ∀ n s, I n s → wpAny (model prog w) A (pyNext it) (fun r s₁ => match r with
      | none => R (.ok .next) s₁
      | some v => wpAny (model prog w) A (letOwnedTupleGo target it v) (fun _ s₁' => wpAny (model prog w) A (assign target env v) (fun _ s₂ =>
          wpAny (model prog w) A (forIn ifs true fun c r => if r = true then do let ok ← isTrue c env (eval c env); pure (ForInStep.yield ok) else pure (ForInStep.yield r)) (fun ok s₃ =>
            if ok = true then wpAny (model prog w) A (eval elt env) (fun x s₄ =>
              wpAny (model prog w) A (call (.builtin "list.append") [acc, x]) (fun _ s₅ => ∃ m, m < n ∧ I m s₅) (notedBy (model prog w) A env fun e s' => R (.error e) s') s₄) (notedBy (model prog w) A env fun e s' => R (.error e) s') s₃
            else ∃ m, m < n ∧ I m s₃) (notedBy (model prog w) A env fun e s' => R (.error e) s') s₂) (notedBy (model prog w) A env fun e s' => R (.error e) s') s₁') (notedBy (model prog w) A env fun e s' => R (.error e) s') s₁) (notedBy (model prog w) A env fun e s' => R (.error e) s') s)
    (n : Nat) (h : I n s) : codeAny (model prog w) A (.compLoop (.ListComp elt [⟨target, iter, ifs, 0⟩] scope pos) 0 it acc env) R s := by
  refine codeAny_loop rfl I (fun n s hI => ?_) n h
  show wpAny _ A ((compTurn (.ListComp elt [⟨target, iter, ifs, 0⟩] scope pos) 0 it acc env).onRaise (fun x => do noteFrame x env; theTreesLotGoes x)) _ _ s
  refine wpAny_noted ?_
  rw [compTurn_list]
  refine wpAny_bind (wpAny_standAt (wpAny_bind (wpAny_mono (turn n s hI) (fun r s₁ h₁ => ?_) fun _ _ h' => h')))
  cases r with
  | none => exact wpAny_pure h₁
  | some v =>
    refine wpAny_bind (wpAny_mono h₁ (fun _ s₁' h₁' => ?_) fun _ _ h' => h')
    refine wpAny_bind (wpAny_mono h₁' (fun _ s₂ h₂ => wpAny_bind (wpAny_mono h₂ (fun ok s₃ h₃ => ?_) fun _ _ h' => h')) fun _ _ h' => h')
    cases ok with
    | false => exact wpAny_pure ⟨rfl, h₃⟩
    | true =>
      exact wpAny_bind (wpAny_bind (wpAny_mono h₃ (fun x s₄ h₄ => wpAny_bind (wpAny_mono h₄ (fun _ s₅ h₅ => wpAny_pure (wpAny_pure ⟨rfl, h₅⟩)) fun _ _ h' => h')) fun _ _ h' => h'))
end
section
variable {X : Cx} {pins : List (Addr × Obj)} {σ : St} {H : Hp} {s : Shared} {scope : Scope} {tg cap : List Str} {caps : List Nat} {target iter elt : Expr} {ifs : List Expr} {g : TG} {tt : TT} {te : TE} {pos : Pos}
theorem comp_run {RR : Value → Addr → Result → Shared → Prop} {Q : VK} {J : It} {fp : List Addr} {it : Addr} {tn : Nat → Heap → Prop} (S : CompSc X.env.scope X.N scope tg cap caps) (hc : X.calm = true) (gk : GK g tg.length)
    (hg : ∀ cl L ex s H, PG (cxComp X scope cl L (tg ++ cap) ex s H) target g) (ht : ∀ cl L ex s H, PTs (cxComp X scope cl L (tg ++ cap) ex s H) ifs tt) (he : ∀ cl L ex s H, PE (cxComp X scope cl L (tg ++ cap) ex s H) elt te)
    (I : Inv X pins σ H s) (T : Turn X.prog X.w X.K target J fp it tn) (st : tn 0 s.heap) (hfp : ∀ b ∈ fp, FpOk X pins H b)
    (h : ∀ l, H l = none → ∃ W : Nat → Nat → List V → Hp → Prop, (∃ m, W 0 m [] (upd H l (.lst []))) ∧
      ∀ i m vs H, W i m vs H → H l = some (.lst vs) ∧ ((J.stop i H ∧ Q (.ref l) H) ∨ (J.go i H ∧ vs.length < sizeLine ∧ ∃ N : List V → Hp → Prop, (∀ vs' H', N vs' H' → ∃ m', m' < m ∧ W (i + 1) m' vs' H') ∧ ∀ x H', J.yld i H x H' →
        g x (compSt σ tg.length caps) H' fun σ2 H2 => tt σ2 H2 fun b H3 => if b = true then te σ2 H3 fun v H4 => H4 l = some (.lst vs) ∧ N (vs ++ [v]) (upd H4 l (.lst (vs ++ [v]))) else N vs H3)))
    (hRR : ∀ cl L σ' H' s', s.heap.objs.size ≤ L → Inv (cxComp X scope cl L (tg ++ cap) fp s H) [] σ' H' s' → Q (.ref s.heap.objs.size) H' → RR (.ref s.heap.objs.size) L (.ok .next) s') :
    wpAny (model X.prog X.w) X.A (newList []) (fun acc s₃ => wpAny (model X.prog X.w) X.A (newFunctionEnv scope X.env.globals (closL X.env scope.names []) [] X.env.qual none .none (some X.env)) (fun cenv s₄ =>
      codeAny (model X.prog X.w) X.A (.compStart (.ListComp elt [⟨target, iter, ifs, 0⟩] scope pos) 0 (.ref it) acc { cenv with scope := relabel scope X.env }) (RR acc cenv.locals) s₄) X.xe s₃) X.xe s := by
  refine wpAny_newObj_type (comp_env ?_)
  have hlt : ∀ b ∈ fp, b < s.heap.objs.size := fun b hb => let ⟨o, e, _⟩ := T.obj _ _ st b hb; Heap.lt_size e
  have I0 := comp_start S I hfp hlt s.toks
  have hD : H s.heap.objs.size = none := I.hok.fresh (Nat.le_refl _)
  obtain ⟨W, ⟨m0, w0⟩, turn⟩ := h _ hD
  have kp : ∀ b o, s.heap.get? b = some o → (pushCells ((s.heap.push { cls := .type "list", data := .seq ([] : List Value).toArray }).push { cls := .type "dict", data := .dict #[] }) scope.names).get? b = some o :=
    fun b o e => pushCells_keeps _ _ b o (Heap.get?_push_of_some _ (Heap.get?_push_of_some _ e))
  have st0 := T.keep _ _ _ st fun b _ o e => kp b o e
  have fr0 : ∀ b ∈ fp, upd H s.heap.objs.size (.lst []) b = none := fun b hb => by
    rw [upd_ne (Nat.ne_of_lt (hlt b hb))]
    exact (hfp b hb).1
  have stat : ∀ {H' : Hp}, (∀ b ∈ fp, H' b = none) → ∀ b ∈ fp, FpOk (cxComp X scope (closL X.env scope.names []) (s.heap.objs.size + 1) (tg ++ cap) fp s H) [] H' b := fun hn b hb =>
    ⟨hn b hb, (I0.ok.exf b hb).1, I0.ok.exfs b hb, .inl hb, (I0.ok.exf b hb).2, fun p hp => absurd (show p ∈ ([] : List (Addr × Obj)) from hp) (by simp)⟩
  have loop : ∀ s1 : Shared, s1 = { s with heap := pushCells ((s.heap.push { cls := .type "list", data := .seq ([] : List Value).toArray }).push { cls := .type "dict", data := .dict #[] }) scope.names } →
      codeAny (model X.prog X.w) X.A (.compLoop (.ListComp elt [⟨target, iter, ifs, 0⟩] scope pos) 0 (.ref it) (.ref s.heap.objs.size) (cEnv scope (closL X.env scope.names []) (s.heap.objs.size + 1) X.env)) (RR (.ref s.heap.objs.size) (s.heap.objs.size + 1)) s1 := by
    rintro s1 rfl
    refine comp_loop (fun n s' => ∃ i vs H', Inv (cxComp X scope (closL X.env scope.names []) (s.heap.objs.size + 1) (tg ++ cap) fp s H) [] (compSt σ tg.length caps) H' s' ∧ tn i s'.heap ∧ (∀ b ∈ fp, H' b = none) ∧ W i n vs H') ?_ m0 ⟨0, [], _, I0, st0, fr0, w0⟩
    rintro n s3 ⟨i, vs, H3, I3, st3, fr3, w3⟩
    obtain ⟨hl, turn3⟩ := turn i n vs H3 w3
    rcases turn3 with ⟨stop, q⟩ | ⟨go, hz, N, hN, step⟩
    · refine wpAny_mono (T.done (cxComp X scope (closL X.env scope.names []) (s.heap.objs.size + 1) (tg ++ cap) fp s H) rfl rfl rfl hc i [] s3 _ H3 (fun _ _ => False) I3 (stat fr3) st3 stop) (fun r s4 ⟨hr, I4⟩ => ?_) fun _ _ f => f.elim
      subst hr
      exact hRR _ _ _ _ _ (Nat.le_succ _) I4 q
    · refine wpAny_mono (T.item (cxComp X scope (closL X.env scope.names []) (s.heap.objs.size + 1) (tg ++ cap) fp s H) rfl rfl rfl hc i [] s3 _ H3 (fun _ _ => False) I3 (stat fr3) st3 go) (fun r s4 ⟨u, hr, h4⟩ => ?_) fun _ _ f => f.elim
      subst hr
      refine wpAny_mono h4 (fun _ s5 ⟨x, H5, I5, r5, y5, st5, fr5⟩ => ?_) fun _ _ f => f.elim
      have I5' := I5.pinned (stat fr5) (T.obj _ _ st5)
      refine wpAny_mono (hg _ _ _ _ _ _ s5 _ H5 x u _ I5' r5 (gk _ _ _ _ (step x H5 y5))) (fun _ s6 ⟨σ6, H6, I6, q6, len6, keep6⟩ => ?_) fun _ _ f => f.elim
      refine wpAny_mono (ht _ _ _ _ _ _ s6 σ6 H6 _ I6 q6) (fun ok s7 ⟨H7, I7, q7⟩ => ?_) fun _ _ f => f.elim
      have again : ∀ {σ8 : St} {H8 : Hp} {s8 : Shared} {vs' : List V} {m' : Nat}, Inv (cxComp X scope (closL X.env scope.names []) (s.heap.objs.size + 1) (tg ++ cap) fp s H) ([] ++ pinsAt fp s5.heap) σ8 H8 s8 → σ8 = σ6 → m' < n → W (i + 1) m' vs' H8 →
          ∃ m, m < n ∧ ∃ i vs H', Inv (cxComp X scope (closL X.env scope.names []) (s.heap.objs.size + 1) (tg ++ cap) fp s H) [] (compSt σ tg.length caps) H' s8 ∧ tn i s8.heap ∧ (∀ b ∈ fp, H' b = none) ∧ W i m vs H' := fun {σ8 H8 s8 vs' m'} I8 e8 hm w8 => by
        refine ⟨m', hm, i + 1, vs', H8, ?_, T.keep _ _ _ st5 fun b hb o e => (I8.pin (b, o) (List.mem_append_right _ (List.mem_append_right _ (mem_pinsAt hb e)))).1, fun b hb => ?_, w8⟩
        · subst e8
          refine I8.unpinned.weak len6.symm fun j v e => ?_
          by_cases hj : tg.length ≤ j
          · rw [keep6 j hj]
            exact e
          · unfold compSt at e
            rw [List.getElem?_append_left (by rw [List.length_replicate]; omega), List.getElem?_replicate] at e
            split at e <;> cases e
        · obtain ⟨o, e, d⟩ := T.obj _ _ st5 b hb
          exact (I8.pin (b, o) (List.mem_append_right _ (List.mem_append_right _ (mem_pinsAt hb e)))).2.1
      cases ok with
      | false =>
        rw [if_neg Bool.false_ne_true] at q7 ⊢
        obtain ⟨m', hm, w8⟩ := hN _ _ q7
        exact again I7 rfl hm w8
      | true =>
        rw [if_pos rfl] at q7 ⊢
        refine wpAny_mono (he _ _ _ _ _ _ s7 σ6 H7 _ I7 q7) (fun y s8 ⟨v, H8, I8, r8, hl8, n8⟩ => ?_) fun _ _ f => f.elim
        refine wpAny_mono (mt_append (X := cxComp X scope (closL X.env scope.names []) (s.heap.objs.size + 1) (tg ++ cap) fp s H) _ s8 σ6 H8 (.ref s.heap.objs.size) [v] (.ref s.heap.objs.size) [y]
          (fun _ H9 => H9 = upd H8 s.heap.objs.size (.lst (vs ++ [v]))) I8 rfl (.cons r8 .nil) ⟨_, vs, v, rfl, rfl, hl8, hz, rfl⟩) (fun _ s9 ⟨z, H9, I9, _, e9⟩ => ?_) fun _ _ f => f.elim
        subst e9
        obtain ⟨m', hm, w8⟩ := hN _ _ n8
        exact again I9 rfl hm w8
  have hsz : (s.heap.push { cls := .type "list", data := .seq ([] : List Value).toArray }).objs.size = s.heap.objs.size + 1 := Heap.size_push ..
  dsimp only [newEnv]
  rw [hsz]
  exact codeAny_compStart_list (loop _ rfl) (T.self _ 0 _ _ _ st0 (loop _ rfl))
theorem pe_comp {wi : TI} (S : CompSc X.env.scope X.N scope tg cap caps) (hc : X.calm = true) (gk : GK g tg.length) (hi : PI X target iter wi)
    (hg : ∀ cl L ex s H, PG (cxComp X scope cl L (tg ++ cap) ex s H) target g) (ht : ∀ cl L ex s H, PTs (cxComp X scope cl L (tg ++ cap) ex s H) ifs tt) (he : ∀ cl L ex s H, PE (cxComp X scope cl L (tg ++ cap) ex s H) elt te)
    (hs : ∀ x, foldedSetIterable iter X.env x = pure x := by intro _; rfl) : PE X (.ListComp elt [⟨target, iter, ifs, 0⟩] scope pos) (tComp wi g tt te tg.length caps) := by
  intro pins s σ H Q I h
  rw [eval_ListComp]
  have hasc : ∀ y ∈ scope.names, y.2 = .free → ∃ c, X.env.cells.lookup y.1 = some c := fun y hy h => I.ok.has y.1 (S.fre y hy h)
  refine wpAny_comprehension_free (use := none) rfl hs (closure_for hasc) S.kind S.loc (thn (hi pins s σ H _ I h) fun v s1 h1 => thn h1 fun itv s2 h2 => ?_)
  obtain ⟨it, fp, tn, J, H2, e, I2, T, st2, f2, h2⟩ := h2
  subst e
  refine comp_run (RR := fun acc C => compPost (model X.prog X.w) X.A X.xe none (EP X pins σ Q) acc C) S hc gk hg ht he I2 T st2 f2 h2 ?_
  intro cl L σ' H' s' hL J' q
  obtain ⟨m, hn, _⟩ := J'.loc
  have I' := comp_back I2 f2 J'
  refine ⟨m, hn, fun h' hs' => ⟨.ref s2.heap.objs.size, H', comp_gone I' J'.free (Nat.le_trans I2.sz hL) (Nat.ne_of_gt (Nat.lt_of_lt_of_le I2.lt hL)) (fun x c e z => ?_) (fun p hp z => ?_) hs', rfl, q⟩⟩
  · obtain ⟨v, w'⟩ := I2.cell x c e
    exact ad_ne4 w'.lt hL z
  · exact ad_ne4 (Heap.lt_size (I2.pin p hp).1) hL z
theorem comp_range {lo : Int} {n : Nat} {g : TG} {tt : TT} {te : TE} {σ0 : St} {Q : VK} {H1 : Hp} {l : Addr} (Pv : Nat → List V → Hp → Prop) (h0 : Pv 0 [] (upd H1 l (.lst [])))
    (hl : ∀ i vs H, i ≤ n → Pv i vs H → H l = some (.lst vs) ∧ vs.length ≤ i) (hz : n ≤ sizeLine)
    (ht : ∀ i vs H, i < n → Pv i vs H → g (.int (lo + i)) σ0 H fun σ2 H2 => tt σ2 H2 fun b H3 => if b = true then te σ2 H3 fun v H4 => H4 l = some (.lst vs) ∧ Pv (i + 1) (vs ++ [v]) (upd H4 l (.lst (vs ++ [v]))) else Pv (i + 1) vs H3)
    (he : ∀ vs H, Pv n vs H → Q (.ref l) H) :
    CompRun (Itr lo n) g tt te σ0 Q H1 l := by
  refine ⟨fun i m vs H => m = n - i ∧ i ≤ n ∧ Pv i vs H, ⟨n, by simp, Nat.zero_le _, h0⟩, ?_⟩
  rintro i m vs H ⟨rfl, hi, p⟩
  obtain ⟨q1, q2⟩ := hl i vs H hi p
  refine ⟨q1, ?_⟩
  by_cases hlt : i < n
  · refine .inr ⟨hlt, by omega, Pv (i + 1), fun vs' H' p' => ⟨n - (i + 1), by omega, rfl, hlt, p'⟩, fun x H' y => ?_⟩
    obtain ⟨e, y⟩ := y
    subst e y
    exact ht i vs _ hlt p
  · have e : i = n := by omega
    subst e
    exact .inl ⟨Nat.le_refl _, he vs H p⟩
end
end L2
namespace L2
open PySem PySem.Spec PyProof.Rows
theorem ObjOk.at {P : Program} {w : World} {H : Hp} {h : Heap} {a : Addr} {o : HO} (x : ObjOk P w H h a o) : ∃ ob, h.get? a = some ob := by
  cases o with
  | lst xs => obtain ⟨_, _, _, _, e⟩ := x; exact ⟨_, e⟩
  | tup xs => obtain ⟨_, _, _, ob, e, _⟩ := x; exact ⟨_, e⟩
  | dK kvs => obtain ⟨_, _, _, _, ob, _, _, e, _⟩ := x; exact ⟨_, e⟩
  | dT kvs => obtain ⟨_, _, _, _, ob, _, _, e, _⟩ := x; exact ⟨_, e⟩
  | set S n => obtain ⟨ob, _, _, _, e, _⟩ := x; exact ⟨_, e⟩
  | ins C dx fs => obtain ⟨_, _, _, e, _⟩ := x; exact ⟨_, e⟩
  | own y => exact x
  | xd fs => obtain ⟨_, ⟨_, _, _, e, _⟩, _⟩ := x; exact ⟨_, e⟩
  | rng lo hi => obtain ⟨_, _, _, e⟩ := x; exact ⟨_, e⟩
  | frz ob u => obtain ⟨e, _⟩ := x; exact ⟨_, e⟩
  | tbl ps => exact ⟨_, (show h.get? a = some _ from x)⟩
  | met f y => exact ⟨_, (show h.get? a = some _ from x)⟩
  | ext φ => obtain ⟨_, e, _⟩ := x; exact e
structure Fly (P : Program) (w : World) (outer : List Env) (H : Hp) (h : Heap) (H' : Hp) (h' : Heap) (a C : Addr) : Prop where
  ex : ∃ (B : Heap) (a0 : Value), Heap.FlyingW B outer a (.ref C) a0 h' ∧ (∀ b u, H' b = some u → ∃ o, B.get? b = some o) ∧
    ∀ b o, h.get? b = some o → b ∉ frs outer → ∃ o', B.get? b = some o' ∧ (H b = none → o' = o)
  un : Un (frs outer) [] H H' h h'
  hok : HOk P w H' h'
def CXE (P : Program) (w : World) : CXT := fun outer H s E e s' => ∃ (a C : Addr) (H' : Hp), e = .ref a ∧ s'.os = s.os ∧ AllBare s'.gens ∧ Fly P w outer H s.heap H' s'.heap a C ∧ E (.ref C) none H'
section
variable {X : Cx} {pins : List (Addr × Obj)} {σ : St} {H H' : Hp} {s : Shared}
theorem fly_on {h2 h3 : Heap} {B : Heap} {a C : Addr} {a0 : Value} (I : Inv X pins σ H s) (hex : X.ex = []) (hst : X.stack = X.env :: X.outer) (u2 : Un (frs X.stack) [] H H' s.heap h2) (hok : HOk X.prog X.w H' h2)
    (trk : ∀ b u, H' b = some u → ∃ o, B.get? b = some o) (cov : ∀ b o, s.heap.get? b = some o → b ∉ frs X.stack → ∃ o', B.get? b = some o' ∧ (H b = none → o' = o)) (hB : B.StaysIn h2)
    (fl : Heap.FlyingW B X.outer a (.ref C) a0 h3) (up : h2.UpToSlots h3) : Fly X.prog X.w X.outer X.H₀ X.s₀.heap H' h3 a C := by
  have hx : ∀ b : Addr, b ∉ X.ex := fun b z => by rw [hex] at z; cases z
  have new : ∀ b o, X.s₀.heap.get? b = some o → b ≠ X.env.locals := fun b o e => Nat.ne_of_lt (Nat.lt_of_lt_of_le (Heap.lt_size e) I.ok.above)
  have nst : ∀ b o, X.s₀.heap.get? b = some o → b ∉ X.fs → b ∉ frs X.stack := fun b o e hb z => by
    rcases List.mem_cons.mp (I.stkSub b z) with q | q
    · exact new b o e q
    · exact hb q
  have sub : ∀ b, b ∈ X.fs → b ∈ frs X.stack := fun b hb => by
    rw [hst]
    unfold frs
    rw [List.filterMap_cons]
    split
    · exact hb
    · exact List.mem_cons_of_mem _ hb
  have n0 : ∀ b : Addr, b ∉ ([] : List Addr) := fun b => by simp
  refine ⟨⟨B, a0, fl, trk, fun b o e hb => ?_⟩, ⟨fun b o e n hb _ => ?_, fun b o e n hb _ => ?_, fun b o e n _ => ?_, fun b o e _ => ?_, fun b xs e => u2.tups b xs (I.base.tups b xs e), fun b o u e => u2.frzs b o u (I.base.frzs b o u e), fun b ps e => ?_⟩, fun b u e => ?_⟩
  · obtain ⟨o1, e1⟩ := I.base.there b o e (hx b)
    obtain ⟨o', eB, q⟩ := cov b o1 e1 (nst b o e hb)
    refine ⟨o', eB, fun n => ?_⟩
    have e2 := I.base.keep b o e n hb (hx b)
    rw [e1] at e2
    cases e2
    exact q (I.base.free b o e n (hx b))
  · have e1 := I.base.keep b o e n hb (hx b)
    obtain ⟨o', eB, q⟩ := cov b o e1 (nst b o e hb)
    rw [← q (I.base.free b o e n (hx b))]
    exact fl.1 b o' eB
  · obtain ⟨sl, e1⟩ := I.base.slot b o e n hb (hx b)
    obtain ⟨sl2, e2⟩ := u2.slot b _ e1 (I.base.free b o e n (hx b)) (sub b hb) (n0 b)
    obtain ⟨_, o0, ho0, hd⟩ := I.ok.funs.mem hb
    rw [e] at ho0
    cases ho0
    obtain ⟨sl3, e3⟩ := up b _ e2 hd
    exact ⟨sl3, e3⟩
  · obtain ⟨o1, e1⟩ := I.base.there b o e (hx b)
    exact u2.free b o1 e1 (I.base.free b o e n (hx b)) (n0 b)
  · obtain ⟨o1, e1⟩ := I.base.there b o e (hx b)
    by_cases hb : b ∈ frs X.stack
    · obtain ⟨_, o0, ho0, hd⟩ := I.stack.mem hb
      rw [e1] at ho0
      cases ho0
      obtain ⟨sl2, e2⟩ := u2.slot b _ e1 (I.stkFree b hb) hb (n0 b)
      obtain ⟨sl3, e3⟩ := up b _ e2 hd
      exact ⟨_, e3⟩
    · obtain ⟨o', eB, _⟩ := cov b o1 e1 hb
      exact ⟨o', fl.1 b o' eB⟩
  · obtain ⟨m1, e1⟩ := I.base.tbls b ps e
    obtain ⟨m2, e2⟩ := u2.tbls b _ e1
    exact ⟨m1 ++ m2, by rw [e2, Array.append_assoc]⟩
  · refine (hok b u e).stay (fun c v hc q => ?_) (fun _ q => q) fun _ _ q => q
    have tc : ∃ o, B.get? c = some o := by
      rcases hc with z | z
      · rw [z]
        exact trk b u e
      · exact trk c _ z
    obtain ⟨o, eo⟩ := tc
    have q' := hB c o eo
    rw [q] at q'
    cases q'
    exact fl.1 c v eo
end
section
variable {P : Program} {w : World} {K : PySem.W.Frag} {mg : Str → Option Value} {base : Heap} {N : List Str} {qual : Str} {scope : Scope} {f : Addr} {cd : Value} {A : Around} {outer : List Env} {s : Shared} {H : Hp} {E : XK}
theorem passE : Passes (CXE P w) (cxOf (CXE P w) P w K mg base N qual scope f cd A outer s H E) E := by
  intro pins σ H1 s1 e s' I h
  obtain ⟨a, C, H', rfl, os, bare, F, q⟩ := h
  obtain ⟨⟨B, a0, fl, trk, cov⟩, un, hok⟩ := F
  show wpAny _ _ (leaving (envOfC qual scope s.heap.objs.size f cd) (.ref a)) _ _ s'
  refine wpAny_leaves_onW (outer := outer) I.ok.frames rfl fl fun h3 fl3 up => ?_
  exact ⟨a, C, H', rfl, os.trans I.os, bare, fly_on I rfl rfl un hok trk cov fl.1 fl3 up, q⟩
theorem passN {X : Cx} : Passes (CXE P w) X (fun _ _ _ => False) := fun _ _ _ _ _ _ _ h => by
  obtain ⟨_, _, _, _, _, _, _, q⟩ := h
  exact q.elim
theorem raiseE {pins : List (Addr × Obj)} {σ : St} {H1 : Hp} {s1 : Shared} {h' : Heap} {e C : Addr} {vs : List Value} (I : Inv (cxOf (CXE P w) P w K mg base N qual scope f cd A outer s H E) pins σ H1 s1) (hx : Heap.MadeExcOf s1.heap h' e (.ref C) vs) (q : E (.ref C) none H1) :
    (cxOf (CXE P w) P w K mg base N qual scope f cd A outer s H E).xe (.ref e) { s1 with heap := h' } := by
  show wpAny _ _ (leaving (envOfC qual scope s.heap.objs.size f cd) (.ref e)) _ _ { s1 with heap := h' }
  have fin : ∀ env ∈ (envOfC qual scope s.heap.objs.size f cd :: outer), ∀ b, env.frame = some b → b ∈ frs (envOfC qual scope s.heap.objs.size f cd :: outer) := fun env he b hb => List.mem_filterMap.mpr ⟨env, he, hb⟩
  have hl := PySem.W.funFrames_hide (show s1.heap.FunFrames base (envOfC qual scope s.heap.objs.size f cd :: outer) from I.stack) fin
  refine wpAny_leaves_madeW (outer := outer) (h := s1.heap) (base := PySem.W.hideAll s1.heap (frs (envOfC qual scope s.heap.objs.size f cd :: outer))) I.ok.frames rfl (fun b o q => PySem.W.of_hideAll _ q) hl hx fun h3 t fl3 _ _ up => ?_
  have ne : ∀ b u, H1 b = some u → b ∉ frs (envOfC qual scope s.heap.objs.size f cd :: outer) := fun b u e z => by
    have n := I.stkFree b z
    rw [e] at n
    cases n
  refine ⟨e, C, H1, rfl, I.os, I.bare, fly_on I rfl rfl (Un.kept hx.keeps) (I.hok.kept hx.keeps) (fun b u eb => ?_) (fun b o eb hb => ⟨o, PySem.W.hideAll_get _ eb hb, fun _ => rfl⟩) (fun b o q => hx.keeps b o (PySem.W.of_hideAll _ q)) fl3 up, q⟩
  obtain ⟨o, eo⟩ := (I.hok b u eb).at
  exact ⟨o, PySem.W.hideAll_get _ eo (ne b u eb)⟩
end
abbrev bmV : List Value := [.type "ValueError", .type "Exception", .type "BaseException", .type "object"]
structure ExcCls (K : PySem.W.Frag) (C : Addr) : Prop where
  is : PySem.W.excIn K C bmV "ValueError.__new__" = true
theorem ExcCls.obj {K : PySem.W.Frag} {C : Addr} {h : Heap} (X : ExcCls K C) (k : K.In h) :
    ∃ bm N nm q bs hdct sn sub ab col dd k0 k1 k2 k3 k5 mN, h.get? C = some (excClassObj nm q C N bs bm hdct sn sub ab col dd k0 k1 k2 k3 k5 "ValueError.__new__") ∧ h.Ns N mN ∧ mN "__init__" = none ∧ OwnTail h bmV bm := by
  have q := X.is
  unfold PySem.W.excIn at q
  cases e : K.lookup C with
  | none =>
    rw [e] at q
    exact absurd q Bool.false_ne_true
  | some ob =>
    rw [e] at q
    have eh := k C ob e
    split at q
    · rename_i dd cd sl z
      cases z
      split at q
      · rename_i C' bm x0 x1 x2 x3 n x5 hm hs
        simp only [Bool.and_eq_true, beq_iff_eq, Bool.not_eq_true'] at q
        obtain ⟨⟨⟨⟨⟨r1, r2⟩, r3⟩, r4⟩, r5⟩, r6⟩ := q
        subst r1 r2
        cases cd
        cases sl
        dsimp only at hm hs r3 r5 r6
        subst hm hs r3
        exact ⟨bm, _, _, _, _, _, _, _, _, _, _, _, _, _, _, _, _, eh, .of_isNs (PySem.W.isNs_of_in k r5), PySem.W.nsMap_none_of_in k r5 r6, PySem.W.tail_of_in k r4⟩
      · cases q
    · cases q
section
variable {P : Program} {w : World} {K : PySem.W.Frag} {mg : Str → Option Value} {base : Heap} {N : List Str} {qual : Str} {scope : Scope} {f : Addr} {cd : Value} {A : Around} {outer : List Env} {s : Shared} {H : Hp} {E : XK}
  {x : Str} {C : Addr} {np cpos pos : Pos} {e : Expr} {es : List Expr} {t : TA}
def tRaise (E : XK) (C : Addr) (t : TA) : TS := fun _ σ H => t σ H fun vs H1 => vs.length ≤ sizeLine ∧ E (.ref C) none H1
theorem ps_raise (hC : ExcCls K C) (hm : mg x = some (.ref C)) (hg : Gl (cxOf (CXE P w) P w K mg base N qual scope f cd A outer s H E) x) (ha : PA (cxOf (CXE P w) P w K mg base N qual scope f cd A outer s H E) (e :: es) t)
    (hdb : (x == ("__debug__" : Str)) = false := by decide)
    (he : starEach (e :: es) (cxOf (CXE P w) P w K mg base N qual scope f cd A outer s H E).env = (false, eval e (cxOf (CXE P w) P w K mg base N qual scope f cd A outer s H E).env) :: starEach es (cxOf (CXE P w) P w K mg base N qual scope f cd A outer s H E).env := by rfl)
    (hpl : (backTo cpos (starEach es (cxOf (CXE P w) P w K mg base N qual scope f cd A outer s H E).env)).any (·.1) = false := by rfl) :
    PS (cxOf (CXE P w) P w K mg base N qual scope f cd A outer s H E) (.Raise (some (.Call (.Name x np) (e :: es) [] cpos)) none pos) (tRaise E C t) := by
  intro pins s1 σ H1 D I h
  obtain ⟨bm, NN, nm, q, bs, hdct, sn, sub, ab, col, dd, k0, k1, k2, k3, k5, mN, h1, h2, h3, T⟩ := hC.obj I.ok.mod.kin
  refine wpAny_Raise_call_subU (C := C) (nm := nm) (q := q) (N := NN) (bs := bs) (bm := bm) (hdct := hdct) (sn := sn) (sub := sub) (ab := ab) (col := col) (dd := dd) (k0 := k0) (k1 := k1) (k2 := k2) (k3 := k3) (k5 := k5)
    PySem.F.excBase_ValueError (by decide +kernel) PySem.F.excBase_ValueError (mN := mN) (T.hasType PySem.F.excBase_ValueError.hasBase) (I.ok.hd rfl) ?_ h3 (ld_glob I hg hm ⟨rfl, ?_⟩ hdb)
  · rw [he]
    exact hpl
  · have ha' := ha cpos pins s1 σ H1 _ I h
    rw [he] at ha' ⊢
    exact Calls.evalArgs_plain (thn ha' fun us s2 ⟨vs, H2, I2, r, hz, q⟩ => ⟨rfl, by rw [← r.length]; exact hz, I2.bk _ _ h1, h2.keeps I2.bk, T.keeps I2.bk, fun h' ex hx => raiseE I2 hx q⟩)
end
section
variable {P : Program} {w : World} {K : PySem.W.Frag} {mg : Str → Option Value} {base : Heap}
theorem Fun.okE {x qual : Str} {st : Stmt} {f : Addr} {fd : FuncData} {N ps : List Str} {k : Nat} {sp : Sp} (F : Fun K x qual st f fd) (S : FnScope N ps (defScope st)) (len : ∀ vs H Q E, sp vs H Q E → vs.length = ps.length)
    (hbody : ∀ (cdv : Value) (A : Around) (outer : List Env) (s : Shared) (H : Hp) (vs : List V) (Q : VK) (E : XK), Room k (A.deeper (envOfC qual (defScope st) s.heap.objs.size f cdv)) → sp vs H Q E →
      ∃ t, PSs (cxOf (CXE P w) P w K mg base N qual (defScope st) f cdv A outer s H E) (defBody st) t ∧ t { nx := fun _ H' => Q .non H', rt := Q } (start N vs) H) : FnOk P w K mg base (CXE P w) (k + 1) f fd ps sp := by
  obtain ⟨oc, od, kV, doc, pm, an, cdv, ct, osl, rfl, lk, hcd⟩ := F.ex
  exact fn_of lk hcd S len fun A outer s H vs Q E hr hsp => hbody cdv A outer s H vs Q E hr hsp
theorem Def.ownE {x qual : Str} {st : Stmt} {ps N : List Str} {k : Nat} {sp : Sp} (D : Def K mg x qual st ps) (S : FnScope N ps (defScope st)) (len : ∀ vs H Q E, sp vs H Q E → vs.length = ps.length)
    (hbody : ∀ (f : Addr) (cdv : Value) (A : Around) (outer : List Env) (s : Shared) (H : Hp) (vs : List V) (Q : VK) (E : XK), Room k (A.deeper (envOfC qual (defScope st) s.heap.objs.size f cdv)) → sp vs H Q E →
      ∃ t, PSs (cxOf (CXE P w) P w K mg base N qual (defScope st) f cdv A outer s H E) (defBody st) t ∧ t { nx := fun _ H' => Q .non H', rt := Q } (start N vs) H) : Own P w K mg base (CXE P w) x ps (k + 1) sp := by
  obtain ⟨f, fd, F, b, m⟩ := D.ex
  exact ⟨f, fd, F.okE S len fun cdv A outer s H vs Q E hr h => hbody f cdv A outer s H vs Q E hr h, b, m, F.kp⟩
end
end L2
namespace L2
open PySem PySem.Spec PyProof.Rows
def XP (X : Cx) (pins : List (Addr × Obj)) (XE : St → Addr → Hp → Prop) (e : Value) (s' : Shared) : Prop :=
  ∃ (σ : St) (a C : Addr) (H' H1 : Hp) (s1 : Shared), e = .ref a ∧ Inv X pins σ H1 s1 ∧ s'.os = s1.os ∧ AllBare s'.gens ∧ Fly X.prog X.w X.stack H1 s1.heap H' s'.heap a C ∧ XE σ C H'
abbrev TX := St → Hp → VK → (St → Addr → Hp → Prop) → Prop
abbrev TB := Ends → (St → Addr → Hp → Prop) → St → Hp → Prop
def PEX (X : Cx) (e : Expr) (t : TX) : Prop :=
  ∀ (pins : List (Addr × Obj)) (s : Shared) (σ : St) (H : Hp) (Q : VK) (XE : St → Addr → Hp → Prop), Inv X pins σ H s → t σ H Q XE → wpAny (model X.prog X.w) X.A (eval e X.env) (EP X pins σ Q) (XP X pins XE) s
def PTB (X : Cx) (st : Stmt) (t : TB) : Prop :=
  ∀ (pins : List (Addr × Obj)) (s : Shared) (σ : St) (H : Hp) (D : Ends) (XE : St → Addr → Hp → Prop), Inv X pins σ H s → t D XE σ H → wpAny (model X.prog X.w) X.A (exec st X.env) (SP X pins D) (XP X pins XE) s
def PTBs (X : Cx) (st : List Stmt) (t : TB) : Prop :=
  ∀ (pins : List (Addr × Obj)) (s : Shared) (σ : St) (H : Hp) (D : Ends) (XE : St → Addr → Hp → Prop), Inv X pins σ H s → t D XE σ H → wpAny (model X.prog X.w) X.A (execs st X.env) (SP X pins D) (XP X pins XE) s
abbrev wishX (XE : St → Addr → Hp → Prop) (σ : St) : XK := fun c _ H' => ∃ C, c = .ref C ∧ XE σ C H'
section
variable {X : Cx} {k : Nat} {f C : Addr} {fd : FuncData} {ps : List Str} {sp : Sp} {x m : Str} {p pos apos : Pos} {e o : Expr} {es : List Expr} {ta : TE} {t : TA}
theorem run_fnX {pins : List (Addr × Obj)} {σ : St} {H : Hp} {s : Shared} {Q : VK} {XE : St → Addr → Hp → Prop} {us : List Value} {vs : List V} (F : FnOk X.prog X.w X.K X.mg X.base (CXE X.prog X.w) k f fd ps sp) (hr : Room k X.A) (hb : Binds X.K fd ps [])
    (I : Inv X pins σ H s) (r : Vals vs us) (h : sp vs H Q (wishX XE σ)) : wpAny (model X.prog X.w) X.A (call (.ref f) us) (EP X pins σ Q) (XP X pins XE) s := by
  have hl : (us ++ []).length = ps.length := by
    rw [List.append_nil, ← r.length]
    exact F.len _ _ _ _ h
  have hbn := hb s us I.kIn hl
  rw [List.append_nil] at hbn
  refine wpAny_call (codeAny_mono (F.run X.A X.stack s H ⟨us, []⟩ us vs Q _ hr I.env0 hbn r h) fun r s' hq => ?_)
  cases r with
  | error e =>
    obtain ⟨a, C, H', e1, os, bare, fl, C', e2, q⟩ := hq
    cases e2
    exact ⟨σ, a, C, H', H, s, e1, I, os, bare, fl, q⟩
  | ok fl =>
    cases fl with
    | ret u => exact I.after hq
    | next => exact False.elim hq
    | brk => exact False.elim hq
    | cont => exact False.elim hq
def tCallX (sp : Sp) (t : TA) : TX := fun σ H Q XE => t σ H fun vs H1 => sp vs H1 Q (wishX XE σ)
theorem pex_own (F : Own X.prog X.w X.K X.mg X.base (CXE X.prog X.w) x ps k sp) (hr : Room k X.A) (hg : Gl X x) (ha : PA X.nox (e :: es) t) (hdb : (x == ("__debug__" : Str)) = false := by decide)
    (he : starEach (e :: es) X.env = (false, eval e X.env) :: starEach es X.env := by rfl) (hpl : (backTo pos (starEach es X.env)).any (·.1) = false := by rfl) : PEX X (.Call (.Name x p) (e :: es) [] pos) (tCallX sp t) := by
  obtain ⟨f, fd, F, b, m, kp⟩ := F.ex
  intro pins s σ H Q XE I h
  refine wpAny_Call_Name_kw (ld_glob I hg m ?_ hdb)
  refine PySem.W.callWith_K (h₀ := X.base) I.ok.mod.kin kp (wpAny_mono (ha pos pins s σ H _ (I.wish _) h) (fun us s1 ⟨vs, H1, I1, r, q⟩ => ⟨I1.kIn, ?_⟩) fun _ _ z => z.elim) he hpl
  exact run_fnX F hr b I1.unwish r q
theorem ptb_set {i : Nat} {pos' : Pos} {tx : TX} (hN : X.N.Nodup) (hi : X.N[i]? = some x) (hx : Loc X.env.scope x) (he : PEX X e tx) (hs : swapsWith e (some (.Name x pos')) pos.line X.env = pure false := by rfl)
    (hf : X.fn x = true ∨ X.env.scope.names.lookup x = some .local := by first | exact .inl rfl | exact .inr rfl | assumption) :
    PTB X (.Assign [.Name x pos'] e pos) (fun D XE σ H => tx σ H (fun v H1 => D.nx (σ.set i (some v)) H1) XE) := by
  intro pins s σ H D XE I h
  refine wpAny_Assign_Name (thn (he pins s σ H _ XE I h) fun v s1 ⟨y, H1, I1, r1, q1⟩ => ?_) hs
  exact store_ok I1 hN hi hx r1 (fun s2 I2 => ⟨_, H1, I2, q1⟩) hf
theorem ptbs_nil : PTBs X [] (fun D _ σ H => D.nx σ H) := fun _ _ σ H _ _ I h => wpAny_execs_nil ⟨σ, H, I, h⟩
theorem ptbs_cons {st : Stmt} {rest : List Stmt} {t u : TB} (h1 : PTB X st t) (h2 : PTBs X rest u) : PTBs X (st :: rest) (fun D XE σ H => t { D with nx := u D XE } XE σ H) := by
  intro pins s σ H D XE I h
  refine wpAny_execs_cons (thn (h1 pins s σ H _ XE I h) fun f s1 q => ?_)
  cases f with
  | next =>
    obtain ⟨σ', H', I', q⟩ := q
    exact h2 pins s1 σ' H' D XE I' q
  | ret v => exact q
  | brk => exact q
  | cont => exact q
end
def Cx.hand (X : Cx) (a : Addr) : Cx := { X with A := X.A.mark (some (.ref a)), calm := false, xe := fun _ _ => False }
theorem Inv.hand {X : Cx} {pins : List (Addr × Obj)} {σ : St} {H : Hp} {s : Shared} (I : Inv X pins σ H s) (a : Addr) : Inv (X.hand a) pins σ H s :=
  ⟨⟨I.ok.mod, I.ok.kind, I.ok.glob, I.ok.blt, I.ok.above, I.ok.inj, I.ok.has, I.ok.cab, fun z => absurd (show false = true from z) Bool.false_ne_true, I.ok.frames, I.ok.stk, I.ok.exf, I.ok.bs, I.ok.bsz, I.ok.noex, I.ok.exfs, I.ok.funs, I.ok.frf⟩,
    I.os, I.bare, I.base, I.loc, I.cell, I.free, I.freeC, I.pin, I.hok, I.len⟩
theorem Inv.unhand {X : Cx} {pins : List (Addr × Obj)} {σ : St} {H : Hp} {s : Shared} {a : Addr} (ok : X.Ok) (I : Inv (X.hand a) pins σ H s) : Inv X pins σ H s :=
  ⟨ok, I.os, I.bare, I.base, I.loc, I.cell, I.free, I.freeC, I.pin, I.hok, I.len⟩
def ExcAt (a C : Addr) (h : Heap) : Prop := ∃ o vs, h.get? a = some o ∧ o.cls = .ref C ∧ o.data = .fields vs
theorem excAt_ok {P : Program} {w : World} {H : Hp} {h : Heap} {a C : Addr} (e : ExcAt a C h) : ObjOk P w H h a (.ext (ExcAt a C)) :=
  ⟨e, let ⟨o, _, q, _⟩ := e; ⟨o, q⟩, fun _ _ ⟨o, vs, q, r⟩ k => ⟨o, vs, k o q, r⟩⟩
section
variable {X : Cx} {pins : List (Addr × Obj)} {σ : St} {H H' : Hp} {s : Shared}
theorem fly_stay {h2 h3 B : Heap} (I : Inv X pins σ H s) (u2 : Un (frs X.stack) [] H H' s.heap h2) (hok : HOk X.prog X.w H' h2) (trk : ∀ b u, H' b = some u → ∃ o, B.get? b = some o)
    (cov : ∀ b o, s.heap.get? b = some o → b ∉ frs X.stack → ∃ o', B.get? b = some o' ∧ (H b = none → o' = o)) (hB : B.StaysIn h2) (hB3 : B.StaysIn h3) (up : h2.UpToSlots h3) :
    Un (frs X.stack) [] H H' s.heap h3 ∧ HOk X.prog X.w H' h3 := by
  have n0 : ∀ b : Addr, b ∉ ([] : List Addr) := fun b => by simp
  have frm : ∀ b o, s.heap.get? b = some o → b ∈ frs X.stack → ∃ sl, h3.get? b = some { o with slots := sl } := fun b o e hb => by
    obtain ⟨_, o0, ho0, hd⟩ := I.stack.mem hb
    rw [e] at ho0
    cases ho0
    obtain ⟨sl2, e2⟩ := u2.slot b _ e (I.stkFree b hb) hb (n0 b)
    obtain ⟨sl3, e3⟩ := up b _ e2 hd
    exact ⟨sl3, e3⟩
  refine ⟨⟨fun b o e n hb _ => ?_, fun b o e n hb _ => frm b o e hb, u2.free, fun b o e _ => ?_, u2.tups, u2.frzs, u2.tbls⟩, fun b u e => ?_⟩
  · obtain ⟨o', eB, q⟩ := cov b o e hb
    rw [← q n]
    exact hB3 b o' eB
  · by_cases hb : b ∈ frs X.stack
    · obtain ⟨sl, e3⟩ := frm b o e hb
      exact ⟨_, e3⟩
    · obtain ⟨o', eB, _⟩ := cov b o e hb
      exact ⟨o', hB3 b o' eB⟩
  · refine (hok b u e).stay (fun c v hc q => ?_) (fun _ q => q) fun _ _ q => q
    have tc : ∃ o, B.get? c = some o := by
      rcases hc with z | z
      · rw [z]
        exact trk b u e
      · exact trk c _ z
    obtain ⟨o, eo⟩ := tc
    have q' := hB c o eo
    rw [q] at q'
    cases q'
    exact hB3 c v eo
theorem Inv.take {a : Addr} {o : HO} (I : Inv X pins σ H s) (hn : H a = none) (h0 : X.s₀.heap.get? a = none) (hL : a ≠ X.env.locals) (hc : ∀ x c, X.env.cells.lookup x = some c → c ≠ a) (hp : ∀ p ∈ X.pn ++ pins, p.1 ≠ a) (new : ObjOk X.prog X.w (upd H a o) s.heap a o)
    (nw : ∀ b, o ≠ .own b) : Inv X pins σ (upd H a o) s := by
  have ne : ∀ b ob, X.s₀.heap.get? b = some ob → b ≠ a := fun b ob e z => by
    rw [z, h0] at e
    cases e
  have nt : ∀ b u, H b = some u → b ≠ a := fun b u e => ne_of_none e hn
  refine ⟨I.ok, I.os, I.bare, ⟨I.base.keep, I.base.slot, fun b ob e n hx => ?_, I.base.there, fun b xs e => ?_, fun b ob u e => ?_, fun b ps e => ?_⟩, I.loc, I.cell, ?_, fun x c e => ?_, fun p q => ?_, fun b u e => ?_, I.len⟩
  · rw [upd_ne (ne b ob e)]
    exact I.base.free b ob e n hx
  · have z := I.base.tups b xs e
    rw [upd_ne (nt b _ z)]
    exact z
  · have z := I.base.frzs b ob u e
    rw [upd_ne (nt b _ z)]
    exact z
  · obtain ⟨m, z⟩ := I.base.tbls b ps e
    refine ⟨m, ?_⟩
    rw [upd_ne (nt b _ z)]
    exact z
  · rw [upd_ne (Ne.symm hL)]
    exact I.free
  · rw [upd_ne (hc x c e)]
    exact I.freeC x c e
  · obtain ⟨p1, p2, p3, p4, p5⟩ := I.pin p q
    exact ⟨p1, by rw [upd_ne (hp p q)]; exact p2, p3, p4, p5⟩
  · by_cases hb : b = a
    · subst hb
      rw [upd_same] at e
      cases e
      exact new
    · rw [upd_ne hb] at e
      refine (I.hok b u e).stay (fun _ _ _ q => q) (fun c q => ?_) fun c xs q => ?_
      · rw [upd_ne (nt c _ q)]
        exact q
      · rw [upd_ne (nt c _ q)]
        exact q
end
section
variable {X : Cx} {pins : List (Addr × Obj)} {σ : St} {H H' : Hp} {s : Shared}
theorem Inv.goes {n : Str} {i tk : Nat} {h' : Heap} {v : Option Value} {m : Str → Option Value} (I : Inv X pins σ H s) (hN : X.N.Nodup) (hi : X.N[i]? = some n)
    (hm : ∀ (j : Nat) (x : Str) (v : V), X.N[j]? = some x → σ[j]? = some (some v) → Vis X.env.scope x → ∃ u, RelV v u ∧ Look X.env s.heap m x u) (hn : h'.Ns X.env.locals fun x => if x = n then v else m x) (sb : Heap.SameBut X.env.locals s.heap h') :
    Inv X pins (σ.set i none) H { s with heap := h', toks := tk } := by
  have cne := I.cne
  have old : ∀ b o, X.s₀.heap.get? b = some o → b ≠ X.env.locals := fun b o e => Nat.ne_of_lt (Nat.lt_of_lt_of_le (Heap.lt_size e) I.ok.above)
  refine ⟨I.ok, I.os, I.bare, ⟨fun b o e q hb hx => ?_, fun b o e q hb hx => ?_, I.base.free, fun b o e hx => ?_, I.base.tups, I.base.frzs, I.base.tbls⟩, ⟨_, hn, fun j y v' e1 e2 e3 => ?_⟩, fun y c e => ?_, I.free, I.freeC, fun p hp => ?_, fun b u e => ?_, by rw [List.length_set]; exact I.len⟩
  · exact (sb.2 b (old b o e)).trans (I.base.keep b o e q hb hx)
  · obtain ⟨sl, e1⟩ := I.base.slot b o e q hb hx
    exact ⟨sl, (sb.2 b (old b o e)).trans e1⟩
  · obtain ⟨o', e1⟩ := I.base.there b o e hx
    exact ⟨o', (sb.2 b (old b o e)).trans e1⟩
  · by_cases hj : i = j
    · subst hj
      rw [List.getElem?_set] at e2
      split at e2
      · split at e2 <;> cases e2
      · rename_i z
        exact absurd rfl z
    · rw [List.getElem?_set_ne hj] at e2
      obtain ⟨u, r, q⟩ := hm j y v' e1 e2 e3
      refine ⟨u, r, ?_⟩
      rcases q with ⟨k, e⟩ | ⟨k, c, e, z⟩
      · refine .inl ⟨k, ?_⟩
        have : y ≠ n := fun e => hj (nodup_ix hN hi (e ▸ e1))
        show (if y = n then v else m y) = some u
        rw [if_neg this]
        exact e
      · exact .inr ⟨k, c, e, z.sameBut sb (cne y c e)⟩
  · obtain ⟨w', z⟩ := I.cell y c e
    exact ⟨w', z.sameBut sb (cne y c e)⟩
  · obtain ⟨p1, p2, p3, p4, p5⟩ := I.pin p hp
    exact ⟨(sb.2 p.1 p3).trans p1, p2, p3, p4, p5⟩
  · refine (I.hok b u e).stay (fun c w' hc q => (sb.2 c ?_).trans q) (fun _ q => q) fun _ _ q => q
    rintro rfl
    rcases hc with rfl | hc
    · rw [I.free] at e
      cases e
    · rw [I.free] at hc
      cases hc
def tTry (K : PySem.W.Frag) (Dc : Addr) (i : Nat) (tb : TB) (th : TS) : TS := fun D σ H => tb D (fun σ1 C H1 => PySem.W.exmOne K (.ref C) (.ref Dc) = some true ∧ ∀ a, H1 a = none →
  th { nx := fun σ2 H2 => D.nx (σ2.set i none) H2, rt := D.rt, bk := fun σ2 H2 => D.bk (σ2.set i none) H2, ct := fun σ2 H2 => D.ct (σ2.set i none) H2 } (σ1.set i (some (.ref a))) (upd H1 a (.ext (ExcAt a C)))) σ H
theorem ps_try {n Dn : Str} {Dc : Addr} {i : Nat} {b₀ : Stmt} {suite body : List Stmt} {np hpos pos : Pos} {tb : TB} {th : TS} (hst : X.stack = X.env :: X.outer) (hfr : X.env.frame = some X.env.locals) (hex : X.ex = []) (hN : X.N.Nodup) (hi : X.N[i]? = some n)
    (hl : X.env.scope.names.lookup n = some .local) (hg : Gl X Dn) (hm : X.mg Dn = some (.ref Dc)) (hb : PTBs X body tb) (hh : ∀ a, PSs (X.hand a) (b₀ :: suite) th) (hdb : (Dn == ("__debug__" : Str)) = false := by decide) :
    PS X (.Try body [.ExceptHandler (some (.Name Dn np)) (some n) (b₀ :: suite) hpos] [] [] pos) (tTry X.K Dc i tb th) := by
  intro pins s σ H D I h
  refine wpAny_Try_except (wpAny_mono (hb pins s σ H D _ I h) (fun f s1 q => ?_) fun e s1 q => ?_)
  · cases f with
    | next => exact wpAny_execs_nil q
    | ret v => exact q
    | brk => exact q
    | cont => exact q
  · obtain ⟨σ1, a, C, H', H1, s0, rfl, I1, os, bare, ⟨⟨B, a0, fl, trk, cov⟩, un, hok⟩, hexm, q⟩ := q
    have fr : X.A.frames = some (X.env :: X.outer) := by
      rw [← hst]
      exact I1.ok.frames
    have fl' : Heap.FlyingW B (X.env :: X.outer) a (.ref C) a0 s1.heap := by
      rw [← hst]
      exact fl
    have n0 : ∀ b : Addr, b ∉ ([] : List Addr) := fun b => by simp
    have ha0 : s0.heap.get? a = none := by
      cases e : s0.heap.get? a with
      | none => rfl
      | some o =>
        by_cases hb' : a ∈ frs X.stack
        · obtain ⟨_, o0, ho0, hd⟩ := I1.stack.mem hb'
          rw [e] at ho0
          cases ho0
          obtain ⟨sl, e2⟩ := un.slot a o e (I1.stkFree a hb') hb' (n0 a)
          obtain ⟨oe, vs, e3, _, hd3, _⟩ := fl.first
          rw [e2] at e3
          cases e3
          exact absurd hd3 (hd vs)
        · obtain ⟨o', eB, _⟩ := cov a o e hb'
          rw [fl.2.1] at eB
          cases eB
    have hna : H' a = none := by
      cases e : H' a with
      | none => rfl
      | some u =>
        obtain ⟨o, eB⟩ := trk a u e
        rw [fl.2.1] at eB
        cases eB
    refine wpAny_looks_onW fr hfr fl' fun h4 held4 up4 => ?_
    refine wpAny_landsW held4 fun h5 fl5 up5 => ?_
    obtain ⟨un5, hok5⟩ := fly_stay I1 un hok trk cov fl.1 fl5.1 (up4.trans up5)
    have I5 : Inv X pins σ1 H' { s1 with heap := h5 } := I1.call' (s' := { s1 with heap := h5 }) os un5 hok5 bare fun b z => absurd z (n0 b)
    obtain ⟨ob, hob, hoc⟩ := fl5.there
    have LT : PySem.W.Looks (model X.prog X.w) h5 (typeOf (.ref a)) (.ref C) := by
      rw [← hoc]
      exact (PySem.W.Looks.ld hob).andThen .now
    refine wpAny_handleBy_cons (codeAny_handlers_test (ld_glob (I5.hand a) hg hm ?_ hdb)) (by intro z; cases z)
    refine (PySem.W.exm_one I5.kIn LT hexm).here ?_
    refine codeAny_handlers_suite_as (lands_againW fl5 fun h6 fl6 up6 => ?_)
    obtain ⟨un6, hok6⟩ := fly_stay I1 un hok trk cov fl.1 fl6.1 ((up4.trans up5).trans up6)
    have I6 : Inv X pins σ1 H' { s1 with heap := h6 } := I1.call' (s' := { s1 with heap := h6 }) os un6 hok6 bare fun b z => absurd z (n0 b)
    obtain ⟨oe, vs, e6, c6, d6, _⟩ := fl6.first
    have gone : ∀ b o, s0.heap.get? b = some o → b ≠ a := fun b o e z => by
      rw [z, ha0] at e
      cases e
    have I7 : Inv X pins σ1 (upd H' a (.ext (ExcAt a C))) { s1 with heap := h6 } := by
      refine I6.take hna ?_ ?_ (fun x c e => ?_) (fun p hp => ?_) (excAt_ok ⟨oe, vs, e6, c6, d6⟩) (fun b z => by cases z)
      · cases e : X.s₀.heap.get? a with
        | none => rfl
        | some o =>
          obtain ⟨o', e'⟩ := I1.base.there a o e (by rw [hex]; exact n0 a)
          rw [ha0] at e'
          cases e'
      · obtain ⟨m, ⟨o, _, _, e, _⟩, _⟩ := I1.loc
        exact (gone _ o e).symm
      · obtain ⟨v, o, e', _⟩ := I1.cell x c e
        exact gone c o e'
      · exact gone _ _ (I1.pin p hp).1
    refine store_ok (X := X.hand a) (v := .ref a) (I7.hand a) hN hi (.inl hl) rfl (fun s8 I8 => ?_) (.inr hl)
    refine wpAny_mono (hh a pins s8 _ _ _ I8 (q a hna)) (fun f s9 q9 => ?_) fun _ _ z => z.elim
    have hcls : (X.env.scope.kind == .class || (X.env.scope.kind == .module && X.env.locals != X.env.globals)) = false := by
      rw [I.ok.kind]
      rfl
    have ends : ∀ {σ9 : St} {H9 : Hp} {R : Flow → Shared → Prop}, Inv (X.hand a) pins σ9 H9 s9 → (∀ s10, Inv X pins (σ9.set i none) H9 s10 → R f s10) →
        wpAny (model X.prog X.w) X.A (do bindName X.env n .none; unbindBehindTheSuite X.env n hpos) (fun _ s10 => R f s10) X.xe s9 := fun {σ9 H9 R} I9 k => by
      have J9 := I9.unhand I.ok
      obtain ⟨m, hn, hl9⟩ := J9.loc
      exact wpAny_nameGoes_keeps hl hn hcls fun h10 v hn10 sb => k _ (J9.goes hN hi hl9 hn10 sb)
    cases f with
    | next =>
      obtain ⟨σ9, H9, I9, q9⟩ := q9
      exact ends (R := fun f s10 => SP X pins D f s10) I9 fun s10 I10 => ⟨_, H9, I10, q9⟩
    | brk =>
      obtain ⟨σ9, H9, I9, q9⟩ := q9
      exact ends (R := fun f s10 => SP X pins D f s10) I9 fun s10 I10 => ⟨_, H9, I10, q9⟩
    | cont =>
      obtain ⟨σ9, H9, I9, q9⟩ := q9
      exact ends (R := fun f s10 => SP X pins D f s10) I9 fun s10 I10 => ⟨_, H9, I10, q9⟩
    | ret u =>
      obtain ⟨v, σ9, H9, I9, r9, q9⟩ := q9
      exact ends (R := fun f s10 => SP X pins D f s10) I9 fun s10 I10 => ⟨v, _, H9, I10, r9, q9⟩
end
end L2
namespace L2
open PySem PySem.Spec PySem.W PySem.Calls PyProof.Rows Builtin Builtin.ObjectAttr Builtin.Getset_descriptor
section
variable {prog : Program} {w : World} {A : Around} {E : Value → Shared → Prop} {s : Shared} {K : PySem.W.Frag} {x D : Addr} {ox : Obj} {name : Str}
structure ExcIsi (K : PySem.W.Frag) (D : Addr) : Prop where
  ga : findIn K (.ref D) "__getattribute__" = some (some (.builtin "BaseException.__getattribute__"))
  gn : findIn K (.ref D) "__getattr__" = some none
  hb : mroIn K D (.type "BaseException") = some true
  cl : (clsIn K D).isSome = true
  ha : findIn K (.ref D) "__class__" = some (some (.builtin "object.__class__"))
  hn : specialIn K (.builtin "object.__class__") "__get__" = some (some (.builtin "getset_descriptor.__get__"))
  htk : takesIn K (.builtin "object.__class__") = some true
  hm : mroIn K D (.type "object") = some true
theorem exc_type {M : Model} {h : Heap} {vs : Array Value} (e : h.get? x = some ox) (c : ox.cls = .ref D) (_d : ox.data = .fields vs) : Looks M h (typeOf (.ref x)) (.ref D) := by
  rw [← c]
  exact (Looks.ld e).andThen .now
theorem exc_find {M : Model} {h : Heap} (X : K.In h) (C : ExcIsi K D) : Looks M h (find (.ref x) (.ref D) "__class__") (.bind (.builtin "getset_descriptor.__get__") (.builtin "object.__class__")) := by
  have t1 := looks_findIn (M := M) X C.ha
  have t2 : Looks M h (getOf (some (.builtin "object.__class__"))) (some (.builtin "getset_descriptor.__get__")) := looks_specialIn X C.hn
  have t3 := looks_takesIn (M := M) X C.htk
  refine t1.andThen (t2.andThen ?_)
  exact (show Looks M h (dataDescriptor? (some (.builtin "object.__class__")) (some (.builtin "getset_descriptor.__get__"))) (some (.builtin "getset_descriptor.__get__", .builtin "object.__class__")) from t3.andThen .now).andThen (Looks.tag .now)
theorem exc_get {R : Result → Shared → Prop} {tp : Value} (X : K.In s.heap) (L : ∀ M : Model, Looks M s.heap (typeOf (.ref x)) (.ref D)) (C : ExcIsi K D) (h : R (.ok (.ret (.ref D))) s) :
    codeAny (model prog w) A (.call (.builtin "getset_descriptor.__get__") ⟨[.builtin "object.__class__", .ref x, tp], []⟩) R s := by
  obtain ⟨hh, g, dr, t, os⟩ := s
  have t0 := L (model prog w)
  have t1 := looks_mroIn (M := model prog w) X C.hm
  refine codeAny_call_builtin KF.slot_gs.plain KF.entry_gs (KF.slot_gs.check _ _ _ _ _ _ _ _ KF.type_class (KF.args_gs _ _ _) ?_)
  unfold Builtin.«getset_descriptor.__get__» descrGet
  rw [dga_obj]
  refine wpAny_bind (wpAny_pure ?_)
  unfold descrGetter descrCheckInstance descrNameAndClass isInstance
  simp only [KF.owner_class]
  repeat lk
  refine ⟨Code.quiet_builtin _ (by decide +kernel), codeAny_builtin KF.entry_class ?_⟩
  unfold Builtin.«object.__class__» shownTypeOf
  repeat lk
  exact h
theorem exc_ga_check {M : Model} {nameV : Value} {Q : Unit → Shared → Prop} (X : K.In s.heap) (L : ∀ M : Model, Looks M s.heap (typeOf (.ref x)) (.ref D)) (C : ExcIsi K D) (hq : Q () s) :
    wpAny M A (checkBuiltinCall "BaseException.__getattribute__" ⟨[.ref x, nameV], []⟩) Q E s := by
  have hk : builtinKind "BaseException.__getattribute__" = some .slot := by decide +kernel
  have hsplit : splitId "BaseException.__getattribute__" = some ("BaseException", "__getattribute__") := by decide +kernel
  have ha := F.args_bexc_ga (.ref x) nameV
  have t0 := L M
  have t1 := looks_mroIn (M := M) X C.hb
  obtain ⟨hh, g, dr, t, os⟩ := s
  simp only [checkBuiltinCall, hk, hsplit]
  refine wpAny_bind ?_
  · unfold isInstance
    repeat lk
    repeat (any_goals (first | assumption | wp_step))
theorem exc_class {Q : Option Value → Shared → Prop} (X : K.In s.heap) (L : ∀ (M : Model) (h : Heap), (∀ b o, s.heap.get? b = some o → h.get? b = some o) → Looks M h (typeOf (.ref x)) (.ref D)) (C : ExcIsi K D)
    (h : Q (some (.ref D)) { s with toks := s.toks + 1 }) : wpAny (model prog w) A (getAttr? (.ref x) "__class__") Q E s := by
  obtain ⟨hh, g, d, t, os⟩ := s
  have t0 := L (model prog w) hh fun _ _ e => e
  have t1 := looks_findIn (M := model prog w) X C.ga
  have t2 := exc_find (M := model prog w) (x := x) X C
  have t3 := looks_findIn (M := model prog w) X C.gn
  unfold getAttr? getAttrBy? getAttrBy
  refine wpAny_bind (wpAny_mkText (wpAny_bind (wpAny_attempt (wpAny_holding (wpAny_bind (t0.at (wpAny_bind (t1.at ?_))))))))
  show wpAny _ _ (getAttrByItsOwn _ _ _ _ _ _) _ _ _
  unfold getAttrByItsOwn
  refine wpAny_bind (show wpAny _ _ (typeLookup (.ref D) "__getattr__") _ _ _ from t3.at ?_)
  refine wpAny_bind (wpAny_attempt (wpAny_holding ?_))
  show wpAny _ _ (boundAndCalled _ _ _) _ _ _
  unfold boundAndCalled
  rw [F.excAttr_ValueError.ga.bind (.ref x)]
  refine wpAny_bind (wpAny_pure ?_)
  refine wpAny_call (codeAny_call_builtin F.excAttr_ValueError.ga.plain F.entry_bexc_ga (exc_ga_check X (fun M => L M hh fun _ _ e => e) C ?_))
  unfold Builtin.«object.__getattribute__»
  refine wpAny_bind (wpAny_pure (wpAny_bind (wpAny_pure (wpAny_bind (t0.at (wpAny_bind (t2.at ?_)))))))
  show wpAny _ _ (holding [.builtin "object.__class__"] (call (.builtin "getset_descriptor.__get__") [.builtin "object.__class__", .ref x, .ref D]) >>= ret) _ _ _
  refine wpAny_bind (wpAny_holding (wpAny_call (exc_get X (fun M => L M hh fun _ _ e => e) C ?_)))
  exact wpAny_pure (wpAny_pure (wpAny_pure h))
theorem kitx_exc (C : ExcIsi K D) : KitX K (.ref x) (.ref D) (ExcAt x D) where
  ty := fun M h _ ⟨o, vs, e, c, d⟩ => exc_type e c d
  it := fun M h X _ => by
    have z := C.cl
    unfold clsIn at z
    split at z
    · rename_i c' d' cd' sl' ho
      intro A' Q' E' s' k q
      unfold isType loadHead
      exact wpAny_bind (wpAny_loadPart (k _ _ (X _ _ ho)) (wpAny_pure q))
    · cases z
  ne := fun h tp dd its n sl X htp => by
    refine Bool.eq_false_iff.mpr fun q => ?_
    have e : D = tp := Value.ref.inj (beq_iff_eq.mp q)
    subst e
    have z := C.cl
    unfold clsIn at z
    split at z
    · rename_i c' d' cd' sl' ho
      have y := (X _ _ ho).symm.trans htp
      cases y
    · cases z
  ca := fun X ⟨o, vs, e, c, d⟩ k => exc_class X (fun M h kk => exc_type (kk _ _ e) c d) C k
end
section
variable {X : Cx}
theorem call_isiX : CallR X (.builtin "isinstance") (fun xs H Q => ∃ a D c b, xs = [.ref a, c] ∧ ((∃ n, c = .ty n) ∨ ∃ C, c = .ref C) ∧ H a = some (.ext (ExcAt a D)) ∧ ExcIsi X.K D ∧ kitOne X.K (.ref D) (clsV c) = some b ∧ Q (.bl b) H) := by
  intro pins s σ H xs us Q I r h
  obtain ⟨a, D, c, b, rfl, hc, ha, C, e, q⟩ := h
  obtain ⟨u, u', rfl, rx, rc⟩ := vals2 r
  cases rx
  have hx : ExcAt a D s.heap := (I.hok a _ ha).1
  have ec : clsV c = u' := by
    rcases hc with ⟨n, rfl⟩ | ⟨n, rfl⟩ <;> (cases rc; rfl)
  rw [ec] at e
  exact kia_one (kitx_exc C) I.kIn hx e (fun z => nomatch z) fun tk => ⟨.bl b, H, I.tok tk, rfl, q⟩
end
end L2
namespace L2
open PySem PySem.Spec PyProof.Rows
theorem SqT.mono {K : PySem.W.Frag} {H H' : Hp} {a : Addr} {xs : List V} (e : Same H H') (h : SqT K H a xs) : SqT K H' a xs := e.tup h
def NoTup (o : Option HO) : Prop := (∀ xs, o ≠ some (.tup xs)) ∧ ∀ ob u, o ≠ some (.frz ob u)
theorem noTup_lst {xs : List V} : NoTup (some (.lst xs)) := ⟨fun _ z => (by cases z), fun _ _ z => (by cases z)⟩
theorem noTup_ins {C dx : Addr} {fs : List (Str × V)} : NoTup (some (.ins C dx fs)) := ⟨fun _ z => (by cases z), fun _ _ z => (by cases z)⟩
theorem SqT.write {K : PySem.W.Frag} {H : Hp} {a l : Addr} {o : HO} {xs : List V} (n : NoTup (H l)) (h : SqT K H a xs) : SqT K (upd H l o) a xs := by
  rcases h with (h | ⟨ob, h⟩) | h
  · exact .inl (.inl (by rw [upd_ne (fun z => n.1 xs (by rw [← z]; exact h))]; exact h))
  · exact .inl (.inr ⟨ob, by rw [upd_ne (fun z => n.2 ob _ (by rw [← z]; exact h))]; exact h⟩)
  · exact .inr h
mutual
theorem HasD.same {K : PySem.W.Frag} {H H' : Hp} (S : Same H H') : ∀ (d : PyData) {v : V}, HasD K H v d → HasD K H' v d
  | .none, v, h => by rw [HasD] at h ⊢; exact h
  | .bool _, v, h => by rw [HasD] at h ⊢; exact h
  | .int _, v, h => by rw [HasD] at h ⊢; exact h
  | .str _, v, h => by rw [HasD] at h ⊢; exact h
  | .list ds, v, h => by
    rw [HasD] at h ⊢
    obtain ⟨a, xs, e, q, r⟩ := h
    exact ⟨a, xs, e, S.seq q, HasDs.same S ds r⟩
  | .tuple ds, v, h => by
    rw [HasD] at h ⊢
    obtain ⟨a, xs, e, q, r⟩ := h
    exact ⟨a, xs, e, S.tup q, HasDs.same S ds r⟩
  | .dict _, v, h => by rw [HasD] at h; exact h.elim
theorem HasDs.same {K : PySem.W.Frag} {H H' : Hp} (S : Same H H') : ∀ (ds : List PyData) {xs : List V}, HasDs K H xs ds → HasDs K H' xs ds
  | [], xs, h => by rw [HasDs] at h ⊢; exact h
  | d :: ds, xs, h => by
    rw [HasDs] at h ⊢
    obtain ⟨x, r, e, h1, h2⟩ := h
    exact ⟨x, r, e, HasD.same S d h1, HasDs.same S ds h2⟩
end
mutual
def NewD (K : PySem.W.Frag) (H H' : Hp) : V → PyData → Prop
  | v, .none => v = .non
  | v, .bool b => v = .bl b
  | v, .int i => v = .int i
  | v, .str x => v = .str x
  | v, .list ds => ∃ a xs, v = .ref a ∧ H a = none ∧ H' a = some (.lst xs) ∧ NewDs K H H' xs ds
  | v, .tuple ds => ∃ a xs, v = .ref a ∧ SqT K H' a xs ∧ NewDs K H H' xs ds
  | _, .dict _ => False
def NewDs (K : PySem.W.Frag) (H H' : Hp) : List V → List PyData → Prop
  | xs, [] => xs = []
  | xs, d :: ds => ∃ x r, xs = x :: r ∧ NewD K H H' x d ∧ NewDs K H H' r ds
end
mutual
theorem NewD.has {K : PySem.W.Frag} {H H' : Hp} : ∀ (d : PyData) {v : V}, NewD K H H' v d → HasD K H' v d
  | .none, v, h => by rw [NewD] at h; rw [HasD]; exact h
  | .bool _, v, h => by rw [NewD] at h; rw [HasD]; exact h
  | .int _, v, h => by rw [NewD] at h; rw [HasD]; exact h
  | .str _, v, h => by rw [NewD] at h; rw [HasD]; exact h
  | .list ds, v, h => by
    rw [NewD] at h; rw [HasD]
    obtain ⟨a, xs, e, _, q, r⟩ := h
    exact ⟨a, xs, e, SqL.of q, NewDs.has ds r⟩
  | .tuple ds, v, h => by
    rw [NewD] at h; rw [HasD]
    obtain ⟨a, xs, e, q, r⟩ := h
    exact ⟨a, xs, e, q, NewDs.has ds r⟩
  | .dict _, v, h => by rw [NewD] at h; exact h.elim
theorem NewDs.has {K : PySem.W.Frag} {H H' : Hp} : ∀ (ds : List PyData) {xs : List V}, NewDs K H H' xs ds → HasDs K H' xs ds
  | [], xs, h => by rw [NewDs] at h; rw [HasDs]; exact h
  | d :: ds, xs, h => by
    rw [NewDs] at h; rw [HasDs]
    obtain ⟨x, r, e, h1, h2⟩ := h
    exact ⟨x, r, e, NewD.has d h1, NewDs.has ds h2⟩
end
mutual
theorem NewD.go {K : PySem.W.Frag} {H H' J J' : Hp} (hn : ∀ a xs, H a = none → H' a = some (.lst xs) → J a = none ∧ J' a = some (.lst xs)) (ht : ∀ a xs, SqT K H' a xs → SqT K J' a xs) : ∀ (d : PyData) {v : V}, NewD K H H' v d → NewD K J J' v d
  | .none, v, h => by rw [NewD] at h ⊢; exact h
  | .bool _, v, h => by rw [NewD] at h ⊢; exact h
  | .int _, v, h => by rw [NewD] at h ⊢; exact h
  | .str _, v, h => by rw [NewD] at h ⊢; exact h
  | .list ds, v, h => by
    rw [NewD] at h ⊢
    obtain ⟨a, xs, e, n, q, r⟩ := h
    obtain ⟨n', q'⟩ := hn a xs n q
    exact ⟨a, xs, e, n', q', NewDs.go hn ht ds r⟩
  | .tuple ds, v, h => by
    rw [NewD] at h ⊢
    obtain ⟨a, xs, e, q, r⟩ := h
    exact ⟨a, xs, e, ht a xs q, NewDs.go hn ht ds r⟩
  | .dict _, v, h => by rw [NewD] at h; exact h.elim
theorem NewDs.go {K : PySem.W.Frag} {H H' J J' : Hp} (hn : ∀ a xs, H a = none → H' a = some (.lst xs) → J a = none ∧ J' a = some (.lst xs)) (ht : ∀ a xs, SqT K H' a xs → SqT K J' a xs) : ∀ (ds : List PyData) {xs : List V}, NewDs K H H' xs ds → NewDs K J J' xs ds
  | [], xs, h => by rw [NewDs] at h ⊢; exact h
  | d :: ds, xs, h => by
    rw [NewDs] at h ⊢
    obtain ⟨x, r, e, h1, h2⟩ := h
    exact ⟨x, r, e, NewD.go hn ht d h1, NewDs.go hn ht ds h2⟩
end
section
variable {K : PySem.W.Frag} {H H' J : Hp} {v : V} {d : PyData} {xs : List V} {ds : List PyData}
theorem NewD.later (S : Same H' J) (h : NewD K H H' v d) : NewD K H J v d := NewD.go (fun _ _ n q => ⟨n, S _ _ q⟩) (fun _ _ q => S.tup q) d h
theorem NewDs.later (S : Same H' J) (h : NewDs K H H' xs ds) : NewDs K H J xs ds := NewDs.go (fun _ _ n q => ⟨n, S _ _ q⟩) (fun _ _ q => S.tup q) ds h
theorem NewD.wider (S : Same J H) (h : NewD K H H' v d) : NewD K J H' v d := NewD.go (fun _ _ n q => ⟨S.free n, q⟩) (fun _ _ q => q) d h
theorem NewDs.wider (S : Same J H) (h : NewDs K H H' xs ds) : NewDs K J H' xs ds := NewDs.go (fun _ _ n q => ⟨S.free n, q⟩) (fun _ _ q => q) ds h
theorem NewD.write {l : Addr} {o : HO} (n : H l ≠ none) (t : NoTup (H' l)) (h : NewD K H H' v d) : NewD K H (upd H' l o) v d :=
  NewD.go (fun a _ z q => ⟨z, by rw [upd_ne (fun e => n (by rw [← e]; exact z))]; exact q⟩) (fun _ _ q => q.write t) d h
theorem NewDs.write {l : Addr} {o : HO} (n : H l ≠ none) (t : NoTup (H' l)) (h : NewDs K H H' xs ds) : NewDs K H (upd H' l o) xs ds :=
  NewDs.go (fun a _ z q => ⟨z, by rw [upd_ne (fun e => n (by rw [← e]; exact z))]; exact q⟩) (fun _ _ q => q.write t) ds h
end
section
variable {K : PySem.W.Frag} {H H' : Hp}
theorem HasDs.len : ∀ {ds : List PyData} {xs : List V}, HasDs K H xs ds → xs.length = ds.length
  | [], xs, h => by rw [HasDs] at h; subst h; rfl
  | d :: ds, xs, h => by
    rw [HasDs] at h
    obtain ⟨x, r, rfl, _, h2⟩ := h
    rw [List.length_cons, List.length_cons, HasDs.len h2]
theorem HasDs.get : ∀ {ds : List PyData} {xs : List V} {i : Nat} {d : PyData}, HasDs K H xs ds → ds[i]? = some d → ∃ x, xs[i]? = some x ∧ HasD K H x d
  | [], xs, i, d, h, e => by simp at e
  | d0 :: ds, xs, i, d, h, e => by
    rw [HasDs] at h
    obtain ⟨x, r, rfl, h1, h2⟩ := h
    cases i with
    | zero =>
      rw [List.getElem?_cons_zero] at e
      cases e
      exact ⟨x, rfl, h1⟩
    | succ i =>
      rw [List.getElem?_cons_succ] at e
      obtain ⟨y, e1, e2⟩ := HasDs.get h2 e
      exact ⟨y, by rw [List.getElem?_cons_succ]; exact e1, e2⟩
theorem HasDs.at {ds : List PyData} {xs : List V} {i : Nat} {x : V} (h : HasDs K H xs ds) (e : xs[i]? = some x) : ∃ d, ds[i]? = some d ∧ HasD K H x d := by
  have hi : i < ds.length := by
    rw [← h.len]
    exact (List.getElem?_eq_some_iff.mp e).1
  obtain ⟨y, e1, e2⟩ := h.get (List.getElem?_eq_getElem hi)
  rw [e] at e1
  cases e1
  exact ⟨_, List.getElem?_eq_getElem hi, e2⟩
theorem HasDs.ints : ∀ {ns : List Int} {xs : List V}, HasDs K H xs (ns.map PyData.int) ↔ xs = ns.map V.int
  | [], xs => by rw [List.map_nil, HasDs]; rfl
  | n :: ns, xs => by
    rw [List.map_cons, HasDs, List.map_cons]
    constructor
    · rintro ⟨x, r, rfl, h1, h2⟩
      rw [HasD] at h1
      rw [h1, HasDs.ints.mp h2]
    · rintro rfl
      exact ⟨_, _, rfl, by rw [HasD], HasDs.ints.mpr rfl⟩
theorem HasDs.app : ∀ {ds es : List PyData} {xs ys : List V}, HasDs K H xs ds → HasDs K H ys es → HasDs K H (xs ++ ys) (ds ++ es)
  | [], es, xs, ys, h, h' => by rw [HasDs] at h; subst h; exact h'
  | d :: ds, es, xs, ys, h, h' => by
    rw [HasDs] at h
    obtain ⟨x, r, rfl, h1, h2⟩ := h
    rw [List.cons_append, List.cons_append, HasDs]
    exact ⟨_, _, rfl, h1, HasDs.app h2 h'⟩
theorem HasDs.take : ∀ {ds : List PyData} {xs : List V} (n : Nat), HasDs K H xs ds → HasDs K H (xs.take n) (ds.take n)
  | ds, xs, 0, h => by rw [List.take_zero, List.take_zero, HasDs]
  | [], xs, n + 1, h => by rw [HasDs] at h; subst h; rw [List.take_nil, List.take_nil, HasDs]
  | d :: ds, xs, n + 1, h => by
    rw [HasDs] at h
    obtain ⟨x, r, rfl, h1, h2⟩ := h
    rw [List.take_succ_cons, List.take_succ_cons, HasDs]
    exact ⟨_, _, rfl, h1, HasDs.take n h2⟩
theorem HasDs.drop : ∀ {ds : List PyData} {xs : List V} (n : Nat), HasDs K H xs ds → HasDs K H (xs.drop n) (ds.drop n)
  | ds, xs, 0, h => by rw [List.drop_zero, List.drop_zero]; exact h
  | [], xs, n + 1, h => by rw [HasDs] at h; subst h; rw [List.drop_nil, List.drop_nil, HasDs]
  | d :: ds, xs, n + 1, h => by
    rw [HasDs] at h
    obtain ⟨x, r, rfl, h1, h2⟩ := h
    rw [List.drop_succ_cons, List.drop_succ_cons]
    exact HasDs.drop n h2
theorem NewDs.len {ds : List PyData} {xs : List V} (h : NewDs K H H' xs ds) : xs.length = ds.length := (NewDs.has ds h).len
theorem NewDs.get : ∀ {ds : List PyData} {xs : List V} {i : Nat} {d : PyData}, NewDs K H H' xs ds → ds[i]? = some d → ∃ x, xs[i]? = some x ∧ NewD K H H' x d
  | [], xs, i, d, h, e => by simp at e
  | d0 :: ds, xs, i, d, h, e => by
    rw [NewDs] at h
    obtain ⟨x, r, rfl, h1, h2⟩ := h
    cases i with
    | zero =>
      rw [List.getElem?_cons_zero] at e
      cases e
      exact ⟨x, rfl, h1⟩
    | succ i =>
      rw [List.getElem?_cons_succ] at e
      obtain ⟨y, e1, e2⟩ := NewDs.get h2 e
      exact ⟨y, by rw [List.getElem?_cons_succ]; exact e1, e2⟩
theorem NewDs.at {ds : List PyData} {xs : List V} {i : Nat} {x : V} (h : NewDs K H H' xs ds) (e : xs[i]? = some x) : ∃ d, ds[i]? = some d ∧ NewD K H H' x d := by
  have hi : i < ds.length := by
    rw [← h.len]
    exact (List.getElem?_eq_some_iff.mp e).1
  obtain ⟨y, e1, e2⟩ := h.get (List.getElem?_eq_getElem hi)
  rw [e] at e1
  cases e1
  exact ⟨_, List.getElem?_eq_getElem hi, e2⟩
theorem NewDs.nil : NewDs K H H' [] [] := by rw [NewDs]
theorem NewDs.cons {x : V} {d : PyData} {xs : List V} {ds : List PyData} (h : NewD K H H' x d) (h' : NewDs K H H' xs ds) : NewDs K H H' (x :: xs) (d :: ds) := by
  rw [NewDs]
  exact ⟨_, _, rfl, h, h'⟩
theorem HasDs.nil : HasDs K H [] [] := by rw [HasDs]
theorem HasDs.cons {x : V} {d : PyData} {xs : List V} {ds : List PyData} (h : HasD K H x d) (h' : HasDs K H xs ds) : HasDs K H (x :: xs) (d :: ds) := by
  rw [HasDs]
  exact ⟨_, _, rfl, h, h'⟩
theorem NewDs.app : ∀ {ds es : List PyData} {xs ys : List V}, NewDs K H H' xs ds → NewDs K H H' ys es → NewDs K H H' (xs ++ ys) (ds ++ es)
  | [], es, xs, ys, h, h' => by rw [NewDs] at h; subst h; exact h'
  | d :: ds, es, xs, ys, h, h' => by
    rw [NewDs] at h
    obtain ⟨x, r, rfl, h1, h2⟩ := h
    exact .cons h1 (NewDs.app h2 h')
theorem NewDs.snoc {x : V} {d : PyData} {xs : List V} {ds : List PyData} (h : NewDs K H H' xs ds) (h' : NewD K H H' x d) : NewDs K H H' (xs ++ [x]) (ds ++ [d]) := h.app (.cons h' .nil)
theorem NewDs.take : ∀ {ds : List PyData} {xs : List V} (n : Nat), NewDs K H H' xs ds → NewDs K H H' (xs.take n) (ds.take n)
  | ds, xs, 0, h => by rw [List.take_zero, List.take_zero]; exact .nil
  | [], xs, n + 1, h => by rw [NewDs] at h; subst h; rw [List.take_nil, List.take_nil]; exact .nil
  | d :: ds, xs, n + 1, h => by
    rw [NewDs] at h
    obtain ⟨x, r, rfl, h1, h2⟩ := h
    rw [List.take_succ_cons, List.take_succ_cons]
    exact .cons h1 (NewDs.take n h2)
theorem NewDs.drop : ∀ {ds : List PyData} {xs : List V} (n : Nat), NewDs K H H' xs ds → NewDs K H H' (xs.drop n) (ds.drop n)
  | ds, xs, 0, h => by rw [List.drop_zero, List.drop_zero]; exact h
  | [], xs, n + 1, h => by rw [NewDs] at h; subst h; rw [List.drop_nil, List.drop_nil]; exact .nil
  | d :: ds, xs, n + 1, h => by
    rw [NewDs] at h
    obtain ⟨x, r, rfl, h1, h2⟩ := h
    rw [List.drop_succ_cons, List.drop_succ_cons]
    exact NewDs.drop n h2
theorem NewDs.set : ∀ {ds : List PyData} {xs : List V} {x : V} {d : PyData} (i : Nat), NewDs K H H' xs ds → NewD K H H' x d → NewDs K H H' (xs.set i x) (ds.set i d)
  | [], xs, x, d, i, h, h' => by rw [NewDs] at h; subst h; exact .nil
  | d0 :: ds, xs, x, d, i, h, h' => by
    rw [NewDs] at h
    obtain ⟨y, r, rfl, h1, h2⟩ := h
    cases i with
    | zero => exact .cons h' h2
    | succ i => exact .cons h1 (NewDs.set i h2 h')
theorem NewDs.rev : ∀ {ds : List PyData} {xs : List V}, NewDs K H H' xs ds → NewDs K H H' xs.reverse ds.reverse
  | [], xs, h => by rw [NewDs] at h; subst h; exact .nil
  | d :: ds, xs, h => by
    rw [NewDs] at h
    obtain ⟨x, r, rfl, h1, h2⟩ := h
    rw [List.reverse_cons, List.reverse_cons]
    exact (NewDs.rev h2).snoc h1
theorem NewDs.rep {x : V} {d : PyData} (h : NewD K H H' x d) : ∀ (n : Nat), NewDs K H H' (List.replicate n x) (List.replicate n d)
  | 0 => .nil
  | n + 1 => .cons h (NewDs.rep h n)
theorem NewDs.ints {ns : List Int} {xs : List V} : NewDs K H H' xs (ns.map PyData.int) ↔ xs = ns.map V.int := by
  constructor
  · intro h
    exact HasDs.ints.mp (NewDs.has _ h)
  · rintro rfl
    induction ns with
    | nil => exact .nil
    | cons n ns ih => exact .cons (by rw [NewD]) ih
theorem NewD.int (i : Int) : NewD K H H' (.int i) (.int i) := by rw [NewD]
theorem NewD.bl (i : Bool) : NewD K H H' (.bl i) (.bool i) := by rw [NewD]
theorem NewD.non : NewD K H H' .non .none := by rw [NewD]
theorem NewD.str (x : Str) : NewD K H H' (.str x) (.str x) := by rw [NewD]
theorem HasD.int (i : Int) : HasD K H (.int i) (.int i) := by rw [HasD]
theorem HasD.bl (i : Bool) : HasD K H (.bl i) (.bool i) := by rw [HasD]
theorem HasD.non : HasD K H .non .none := by rw [HasD]
theorem HasD.str (x : Str) : HasD K H (.str x) (.str x) := by rw [HasD]
theorem NewD.lst {a : Addr} {xs : List V} {ds : List PyData} (n : H a = none) (q : H' a = some (.lst xs)) (h : NewDs K H H' xs ds) : NewD K H H' (.ref a) (.list ds) := by
  rw [NewD]
  exact ⟨a, xs, rfl, n, q, h⟩
theorem NewD.tup {a : Addr} {xs : List V} {ds : List PyData} (q : SqT K H' a xs) (h : NewDs K H H' xs ds) : NewD K H H' (.ref a) (.tuple ds) := by
  rw [NewD]
  exact ⟨a, xs, rfl, q, h⟩
theorem HasD.lst {a : Addr} {xs : List V} {ds : List PyData} (q : SqL K H a xs) (h : HasDs K H xs ds) : HasD K H (.ref a) (.list ds) := by
  rw [HasD]
  exact ⟨a, xs, rfl, q, h⟩
theorem HasD.tup {a : Addr} {xs : List V} {ds : List PyData} (q : SqT K H a xs) (h : HasDs K H xs ds) : HasD K H (.ref a) (.tuple ds) := by
  rw [HasD]
  exact ⟨a, xs, rfl, q, h⟩
theorem HasD.oflst {v : V} {ds : List PyData} (h : HasD K H v (.list ds)) : ∃ a xs, v = .ref a ∧ SqL K H a xs ∧ HasDs K H xs ds := by rw [HasD] at h; exact h
theorem HasD.oftup {v : V} {ds : List PyData} (h : HasD K H v (.tuple ds)) : ∃ a xs, v = .ref a ∧ SqT K H a xs ∧ HasDs K H xs ds := by rw [HasD] at h; exact h
theorem NewD.oflst {v : V} {ds : List PyData} (h : NewD K H H' v (.list ds)) : ∃ a xs, v = .ref a ∧ H a = none ∧ H' a = some (.lst xs) ∧ NewDs K H H' xs ds := by rw [NewD] at h; exact h
theorem NewD.oftup {v : V} {ds : List PyData} (h : NewD K H H' v (.tuple ds)) : ∃ a xs, v = .ref a ∧ SqT K H' a xs ∧ NewDs K H H' xs ds := by rw [NewD] at h; exact h
theorem NewD.ofint {v : V} {i : Int} (h : NewD K H H' v (.int i)) : v = .int i := by rw [NewD] at h; exact h
theorem NewD.ofbl {v : V} {i : Bool} (h : NewD K H H' v (.bool i)) : v = .bl i := by rw [NewD] at h; exact h
theorem NewD.ofnon {v : V} (h : NewD K H H' v .none) : v = .non := by rw [NewD] at h; exact h
theorem NewD.ofstr {v : V} {x : Str} (h : NewD K H H' v (.str x)) : v = .str x := by rw [NewD] at h; exact h
theorem HasD.ofint {v : V} {i : Int} (h : HasD K H v (.int i)) : v = .int i := by rw [HasD] at h; exact h
theorem HasD.ofbl {v : V} {i : Bool} (h : HasD K H v (.bool i)) : v = .bl i := by rw [HasD] at h; exact h
theorem HasD.ofnon {v : V} (h : HasD K H v .none) : v = .non := by rw [HasD] at h; exact h
theorem HasD.ofstr {v : V} {x : Str} (h : HasD K H v (.str x)) : v = .str x := by rw [HasD] at h; exact h
end
def Res (K : PySem.W.Frag) (H : Hp) (Q : VK) (d : PyData) : Prop := ∀ r H', Same H H' → NewD K H H' r d → Q r H'
theorem same_write {H H' : Hp} {l : Addr} {o : HO} (S : Same H H') (h : H l = none) : Same H (upd H' l o) := fun b u e => by
  rw [upd_ne (ne_of_none e h)]
  exact S b u e
theorem some_ne {H : Hp} {l : Addr} {o : HO} (h : H l = some o) : H l ≠ none := by rw [h]; exact fun z => nomatch z
def NoSeq (o : Option HO) : Prop := (∀ xs, o ≠ some (.lst xs)) ∧ (∀ xs, o ≠ some (.tup xs)) ∧ ∀ ob u, o ≠ some (.frz ob u)
theorem noSeq_ins {C dx : Addr} {fs : List (Str × V)} : NoSeq (some (.ins C dx fs)) := ⟨fun _ z => (by cases z), fun _ z => (by cases z), fun _ _ z => (by cases z)⟩
theorem NoSeq.tup {o : Option HO} (n : NoSeq o) : NoTup o := ⟨n.2.1, n.2.2⟩
theorem SqL.write {K : PySem.W.Frag} {H : Hp} {a l : Addr} {o : HO} {xs : List V} (n : NoSeq (H l)) (h : SqL K H a xs) : SqL K (upd H l o) a xs := by
  rcases h with (h | ⟨ob, h⟩) | h
  · exact .inl (.inl (by rw [upd_ne (fun z => n.1 xs (by rw [← z]; exact h))]; exact h))
  · exact .inl (.inr ⟨ob, by rw [upd_ne (fun z => n.2.2 ob _ (by rw [← z]; exact h))]; exact h⟩)
  · exact .inr h
mutual
theorem HasD.write {K : PySem.W.Frag} {H : Hp} {l : Addr} {o : HO} (n : NoSeq (H l)) : ∀ (d : PyData) {v : V}, HasD K H v d → HasD K (upd H l o) v d
  | .none, v, h => by rw [HasD] at h ⊢; exact h
  | .bool _, v, h => by rw [HasD] at h ⊢; exact h
  | .int _, v, h => by rw [HasD] at h ⊢; exact h
  | .str _, v, h => by rw [HasD] at h ⊢; exact h
  | .list ds, v, h => by
    rw [HasD] at h ⊢
    obtain ⟨a, xs, e, q, r⟩ := h
    exact ⟨a, xs, e, q.write n, HasDs.write n ds r⟩
  | .tuple ds, v, h => by
    rw [HasD] at h ⊢
    obtain ⟨a, xs, e, q, r⟩ := h
    exact ⟨a, xs, e, q.write n.tup, HasDs.write n ds r⟩
  | .dict _, v, h => by rw [HasD] at h; exact h.elim
theorem HasDs.write {K : PySem.W.Frag} {H : Hp} {l : Addr} {o : HO} (n : NoSeq (H l)) : ∀ (ds : List PyData) {xs : List V}, HasDs K H xs ds → HasDs K (upd H l o) xs ds
  | [], xs, h => by rw [HasDs] at h ⊢; exact h
  | d :: ds, xs, h => by
    rw [HasDs] at h ⊢
    obtain ⟨x, r, e, h1, h2⟩ := h
    exact ⟨x, r, e, HasD.write n d h1, HasDs.write n ds h2⟩
end
end L2
namespace L2
open PySem PySem.Spec PyProof.Rows
section
variable {X : Cx} {pins : List (Addr × Obj)} {σ : St} {H : Hp} {s : Shared} {h' : Heap}
theorem Inv.turnedL {t' : Nat} {ch : List Addr} (I : Inv X pins σ H s) (k : ∀ b o, b ∉ ch → s.heap.get? b = some o → h'.get? b = some o) (hf : ∀ b ∈ ch, FpOk X pins H b) : Inv X pins σ H { s with heap := h', toks := t' } := by
  have nit : ∀ b u, H b = some u → b ∉ ch := fun b u e z => by rw [(hf b z).1] at e; cases e
  refine I.step (g' := s.gens) (d' := s.drawn) (ch := ch) (fun b hb => ?_) (fun b o _ _ hc e _ => k b o hc e) (fun b o _ _ hc e _ => ⟨o.slots, k b o hc e⟩) (fun _ _ _ _ n => n)
    (fun b o hc e => ⟨o, k b o hc e⟩) (fun _ _ e => e) (fun _ _ _ e => e) (fun b ps e => ⟨#[], by rw [e]; simp⟩) (fun m hm => ?_) (fun b u e => ?_) I.bare
  · obtain ⟨_, f1, _, f3, f4, f5⟩ := hf b hb
    exact ⟨f3, f1, f4, f5⟩
  · obtain ⟨o, es, ep, ho, r⟩ := hm
    exact ⟨o, es, ep, k _ o (fun z => (hf _ z).2.1 rfl) ho, r⟩
  · refine (I.hok b u e).stay (fun c v hc q => k c v ?_ q) (fun _ q => q) fun _ _ q => q
    rcases hc with z | z
    · rw [z]; exact nit b u e
    · exact nit c _ z
theorem Inv.turnedT {t' : Nat} {ch : List Addr} {T : Addr} {vs : List V} {us : List Value} (I : Inv X pins σ H s) (k : ∀ b o, b ∉ ch → s.heap.get? b = some o → h'.get? b = some o) (hf : ∀ b ∈ ch, FpOk X pins H b)
    (hT : s.heap.objs.size ≤ T) (tp : h'.IsTuple T us.toArray) (r : Vals vs us) (hz : vs.length ≤ sizeLine) : Inv X pins σ (upd H T (.tup vs)) { s with heap := h', toks := t' } := by
  have hn : H T = none := I.hok.fresh hT
  have nit : ∀ b u, H b = some u → b ∉ ch := fun b u e z => by rw [(hf b z).1] at e; cases e
  have up : ∀ b u, H b = some u → upd H T (.tup vs) b = some u := fun b u e => by rw [upd_ne (ne_of_none e hn)]; exact e
  have old : ∀ b o, s.heap.get? b = some o → b ≠ T := fun b o e => Nat.ne_of_lt (Nat.lt_of_lt_of_le (Heap.lt_size e) hT)
  refine I.step (g' := s.gens) (d' := s.drawn) (ch := ch) (fun b hb => ?_) (fun b o _ _ hc e _ => k b o hc e) (fun b o _ _ hc e _ => ⟨o.slots, k b o hc e⟩) (fun b o _ e n => by rw [upd_ne (old b o e)]; exact n)
    (fun b o hc e => ⟨o, k b o hc e⟩) (fun b xs e => up b _ e) (fun b o u e => up b _ e) (fun b ps e => ⟨#[], by rw [up b _ e]; simp⟩) (fun m hm => ?_) (fun b u e => ?_) I.bare
  · obtain ⟨_, f1, _, f3, f4, f5⟩ := hf b hb
    exact ⟨f3, f1, f4, f5⟩
  · obtain ⟨o, es, ep, ho, r⟩ := hm
    exact ⟨o, es, ep, k _ o (fun z => (hf _ z).2.1 rfl) ho, r⟩
  · by_cases hb : b = T
    · subst hb
      rw [upd_same] at e
      cases e
      exact ⟨hz, us, r, tp⟩
    · rw [upd_ne hb] at e
      refine (I.hok b u e).stay (fun c v hc q => k c v ?_ q) (fun c q => up c _ q) fun c xs q => up c _ q
      rcases hc with z | z
      · rw [z]; exact nit b u e
      · exact nit c _ z
end
def Itz (K : PySem.W.Frag) (a b : Addr) : It :=
  ⟨fun i H => ∃ xs ys x y, SqL K H a xs ∧ SqL K H b ys ∧ xs[i]? = some x ∧ ys[i]? = some y,
   fun i H v H' => ∃ T x y, v = .ref T ∧ H T = none ∧ H' = upd H T (.tup [x, y]) ∧ (∀ xs, SqL K H a xs → xs[i]? = some x) ∧ ∀ ys, SqL K H b ys → ys[i]? = some y,
   fun i H => ∃ xs ys, SqL K H a xs ∧ SqL K H b ys ∧ min xs.length ys.length = i⟩
def Ite (K : PySem.W.Frag) (a : Addr) : It :=
  ⟨fun i H => ∃ xs x, SqL K H a xs ∧ xs[i]? = some x,
   fun i H v H' => ∃ T x, v = .ref T ∧ H T = none ∧ H' = upd H T (.tup [.int i, x]) ∧ ∀ xs, SqL K H a xs → xs[i]? = some x,
   fun i H => ∃ xs, SqL K H a xs ∧ xs.length = i⟩
theorem turn_zip {P : Program} {w : World} {K : PySem.W.Frag} {elts : List Expr} {k : Nat} {pos : Pos} {z TI TO i1 i2 a b : Addr} (D : ZipApart z TI TO i1 i2 a b) :
    Turn P w K (.Tuple elts k pos) (Itz K a b) [z, TI, TO, i1, i2] z (fun i h => IsZip h z TI TO .none ∧ IsPair h TI (.ref i1) (.ref i2) ∧ (∃ a b, IsPair h TO a b) ∧ h.IsListIter i1 a i ∧ h.IsListIter i2 b i) where
  mem := by simp
  obj := fun i h st c hc => by
    obtain ⟨hz, hTI, ⟨u, v, hTO⟩, ⟨o1, e1, _, d1⟩, ⟨o2, e2, _, d2⟩⟩ := st
    simp only [List.mem_cons, List.not_mem_nil, or_false] at hc
    rcases hc with rfl | rfl | rfl | rfl | rfl
    · exact ⟨_, hz, fun v z => by cases z⟩
    · exact ⟨_, hTI, fun v z => by cases z⟩
    · exact ⟨_, hTO, fun v z => by cases z⟩
    · exact ⟨_, e1, fun v z => by rw [d1] at z; cases z⟩
    · exact ⟨_, e2, fun v z => by rw [d2] at z; cases z⟩
  keep := fun i h h' st kk => by
    obtain ⟨hz, hTI, ⟨u, v, hTO⟩, h1, h2⟩ := st
    exact ⟨kk z (by simp) _ hz, kk TI (by simp) _ hTI, ⟨u, v, kk TO (by simp) _ hTO⟩, h1.at fun o e => kk i1 (by simp) o e, h2.at fun o e => kk i2 (by simp) o e⟩
  item := by
    intro X hP hw hK hc i pins s σ H E I hf st hg
    subst hP hw hK
    obtain ⟨xs, ys, x, y, hx, hy, ex, ey⟩ := hg
    obtain ⟨u1, r1, p1, z1⟩ := I.list hx
    obtain ⟨u2, r2, p2, z2⟩ := I.list hy
    obtain ⟨v1, q1, rv1⟩ := r1.get ex
    obtain ⟨v2, q2, rv2⟩ := r2.get ey
    have W := WalksT.zip2 (prog := X.prog) (w := X.w) (A := X.A) (I.ok.hd hc) z TI TO i1 i2 a b D u1.toArray u2.toArray
    have l1 : i < u1.length := (List.getElem?_eq_some_iff.mp q1).1
    have l2 : i < u2.length := (List.getElem?_eq_some_iff.mp q2).1
    obtain ⟨s1, s2, s3, s4, s5⟩ := st
    refine W.item i s _ _ (by simp; omega) ⟨s1, s2, s3, s4, s5, p1.isList, p2.isList⟩ fun T vals h1 tk hPt hT tp mid kk => ⟨_, rfl, ?_⟩
    obtain ⟨x', y', e1, e2, rfl⟩ := hPt
    have e1' : u1[i]? = some x' := by simpa using e1
    have e2' : u2[i]? = some y' := by simpa using e2
    rw [q1] at e1'
    rw [q2] at e2'
    cases e1'
    cases e2'
    refine W.go elts k pos i T { s with heap := h1, toks := tk } _ _ mid fun h2 st2 kk2 => ?_
    have nw := W.apart i T _ mid
    obtain ⟨o, eo, oc, od⟩ := tp
    have tp2 : h2.IsTuple T #[v1, v2] := ⟨o, kk2 T o nw eo, oc, od⟩
    obtain ⟨t1, t2, t3, t4, t5, _⟩ := st2
    have hn : H T = none := I.hok.fresh hT
    have sub : ∀ c ∈ [z, TO, i1, i2], c ∈ [z, TI, TO, i1, i2] := fun c hc => by
      simp only [List.mem_cons, List.not_mem_nil, or_false] at hc ⊢
      rcases hc with rfl | rfl | rfl | rfl <;> simp
    have I2 : Inv X pins σ (upd H T (.tup [x, y])) { s with heap := h2, toks := tk } := I.turnedT (ch := [z, TO, i1, i2]) (us := [v1, v2]) (fun c o hc e => kk2 c o hc (kk c o hc e)) (fun c hc => hf c (sub c hc)) hT tp2 (.cons rv1 (.cons rv2 .nil)) (by show 2 ≤ sizeLine; decide)
    refine ⟨.ref T, upd H T (.tup [x, y]), I2, rfl,
      ⟨T, x, y, rfl, hn, rfl, fun xs' h' => by rw [I.list_inj h' hx]; exact ex, fun ys' h' => by rw [I.list_inj h' hy]; exact ey⟩, ⟨t1, t2, t3, t4, t5⟩, fun c hc => ?_⟩
    obtain ⟨oc', ec, _⟩ : ∃ o, s.heap.get? c = some o ∧ True := by
      obtain ⟨u, v, hTO⟩ := s3
      obtain ⟨o1, e1, _⟩ := s4
      obtain ⟨o2, e2, _⟩ := s5
      simp only [List.mem_cons, List.not_mem_nil, or_false] at hc
      rcases hc with rfl | rfl | rfl | rfl | rfl
      · exact ⟨_, s1, trivial⟩
      · exact ⟨_, s2, trivial⟩
      · exact ⟨_, hTO, trivial⟩
      · exact ⟨_, e1, trivial⟩
      · exact ⟨_, e2, trivial⟩
    rw [upd_ne (Nat.ne_of_lt (Nat.lt_of_lt_of_le (Heap.lt_size ec) hT))]
    exact (hf c hc).1
  done := by
    intro X hP hw hK hc i pins s σ H E I hf st hg
    subst hP hw hK
    obtain ⟨xs, ys, hx, hy, hi⟩ := hg
    obtain ⟨u1, r1, p1, z1⟩ := I.list hx
    obtain ⟨u2, r2, p2, z2⟩ := I.list hy
    have W := WalksT.zip2 (prog := X.prog) (w := X.w) (A := X.A) (I.ok.hd hc) z TI TO i1 i2 a b D u1.toArray u2.toArray
    obtain ⟨s1, s2, s3, s4, s5⟩ := st
    have en : min u1.toArray.size u2.toArray.size = i := by
      have := r1.length
      have := r2.length
      simp
      omega
    refine W.done s _ _ (by rw [en]; exact ⟨s1, s2, s3, s4, s5, p1.isList, p2.isList⟩) fun h' tk kk => ⟨rfl, I.turnedL (ch := [z, TO, i1, i2]) kk fun c hc => hf c ?_⟩
    simp only [List.mem_cons, List.not_mem_nil, or_false] at hc ⊢
    rcases hc with rfl | rfl | rfl | rfl <;> simp
  self := fun _ _ _ _ _ st h => wpAny_pyIter_zip st.1 h
theorem turn_enum {P : Program} {w : World} {K : PySem.W.Frag} {elts : List Expr} {k : Nat} {pos : Pos} {e it a : Addr} (hei : e ≠ it) (hae : a ≠ e) (hai : a ≠ it) :
    Turn P w K (.Tuple elts k pos) (Ite K a) [e, it] e (fun i h => (∃ old, IsEnum h e it i old) ∧ h.IsListIter it a i) where
  mem := by simp
  obj := fun i h st c hc => by
    obtain ⟨⟨old, he⟩, ⟨o1, e1, _, d1⟩⟩ := st
    simp only [List.mem_cons, List.not_mem_nil, or_false] at hc
    rcases hc with rfl | rfl
    · exact ⟨_, he, fun v z => by cases z⟩
    · exact ⟨_, e1, fun v z => by rw [d1] at z; cases z⟩
  keep := fun i h h' st kk => by
    obtain ⟨⟨old, he⟩, h1⟩ := st
    exact ⟨⟨old, kk e (by simp) _ he⟩, h1.at fun o q => kk it (by simp) o q⟩
  item := by
    intro X hP hw hK hc i pins s σ H E I hf st hg
    subst hP hw hK
    obtain ⟨xs, x, hx, ex⟩ := hg
    obtain ⟨u1, r1, p1, z1⟩ := I.list hx
    obtain ⟨v1, q1, rv1⟩ := r1.get ex
    have W := WalksT.enumerate (prog := X.prog) (w := X.w) (A := X.A) (I.ok.hd hc) e it a hei hae hai u1.toArray
    have l1 : i < u1.length := (List.getElem?_eq_some_iff.mp q1).1
    obtain ⟨s1, s2⟩ := st
    refine W.item i s _ _ (by simp; omega) ⟨s1, s2, p1.isList⟩ fun T vals h1 tk hPt hT tp mid kk => ⟨_, rfl, ?_⟩
    obtain ⟨t, x', e1, rfl⟩ := hPt
    have e1' : u1[i]? = some x' := by simpa using e1
    rw [q1] at e1'
    cases e1'
    refine W.go elts k pos i T { s with heap := h1, toks := tk } _ _ mid fun h2 st2 kk2 => ?_
    have nw := W.apart i T _ mid
    obtain ⟨o, eo, oc, od⟩ := tp
    have tp2 : h2.IsTuple T #[.int i t, v1] := ⟨o, kk2 T o nw eo, oc, od⟩
    obtain ⟨t1, t2, _⟩ := st2
    have hn : H T = none := I.hok.fresh hT
    have I2 : Inv X pins σ (upd H T (.tup [.int i, x])) { s with heap := h2, toks := tk } := I.turnedT (ch := [e, it]) (us := [.int i t, v1]) (fun c o hc e => kk2 c o hc (kk c o hc e)) (fun c hc => hf c hc) hT tp2 (.cons ⟨t, rfl⟩ (.cons rv1 .nil)) (by show 2 ≤ sizeLine; decide)
    refine ⟨.ref T, upd H T (.tup [.int i, x]), I2, rfl,
      ⟨T, x, rfl, hn, rfl, fun xs' h' => by rw [I.list_inj h' hx]; exact ex⟩, ⟨t1, t2⟩, fun c hc => ?_⟩
    obtain ⟨oc', ec, _⟩ : ∃ o, s.heap.get? c = some o ∧ True := by
      obtain ⟨old, he⟩ := s1
      obtain ⟨o1, e1, _⟩ := s2
      simp only [List.mem_cons, List.not_mem_nil, or_false] at hc
      rcases hc with rfl | rfl
      · exact ⟨_, he, trivial⟩
      · exact ⟨_, e1, trivial⟩
    rw [upd_ne (Nat.ne_of_lt (Nat.lt_of_lt_of_le (Heap.lt_size ec) hT))]
    exact (hf c hc).1
  done := by
    intro X hP hw hK hc i pins s σ H E I hf st hg
    subst hP hw hK
    obtain ⟨xs, hx, hi⟩ := hg
    obtain ⟨u1, r1, p1, z1⟩ := I.list hx
    have W := WalksT.enumerate (prog := X.prog) (w := X.w) (A := X.A) (I.ok.hd hc) e it a hei hae hai u1.toArray
    obtain ⟨s1, s2⟩ := st
    have en : u1.toArray.size = i := by
      have := r1.length
      simp
      omega
    exact W.done s _ _ (by rw [en]; exact ⟨s1, s2, p1.isList⟩) fun h' tk kk => ⟨rfl, I.turnedL (ch := [e, it]) kk fun c hc => hf c hc⟩
  self := fun _ _ _ _ _ st h => by
    obtain ⟨⟨old, he⟩, _⟩ := st
    exact wpAny_pyIter_enum he h
section
variable {X : Cx}
def iZip (K : PySem.W.Frag) (ta : TA) : TI := fun σ H R => ta σ H fun vs H1 => ∃ a b, vs = [.ref a, .ref b] ∧ (∃ xs, SqL K H1 a xs) ∧ (∃ ys, SqL K H1 b ys) ∧ R (Itz K a b) H1
def iEnum (K : PySem.W.Frag) (ta : TA) : TI := fun σ H R => ta σ H fun vs H1 => ∃ a, vs = [.ref a] ∧ (∃ xs, SqL K H1 a xs) ∧ R (Ite K a) H1
theorem pi_zip {e1 e2 : Expr} {ta : TA} {p pos tpos : Pos} {elts : List Expr} {k : Nat} (hg : Gl X "zip") (hm : X.mg "zip" = none) (ha : PA X [e1, e2] ta) (hs : starEach [e1, e2] X.env = [(false, eval e1 X.env), (false, eval e2 X.env)] := by rfl) (hs2 : starEach [e2] X.env = [(false, eval e2 X.env)] := by rfl) :
    PI X (.Tuple elts k tpos) (.Call (.Name "zip" p) [e1, e2] [] pos) (iZip X.K ta) := by
  intro pins s σ H R I h
  refine Call_ (ld_blt I hg hm bt_zip (PyProof.Rows.callWith_type1 (thn (ha pos pins s σ H _ I h) fun us s1 ⟨vs, H1, I1, r1, q1⟩ => ?_) (by rw [hs, hs2]) (by rw [hs2]; rfl)))
  obtain ⟨a, b, e, ⟨xs, hx⟩, ⟨ys, hy⟩, q⟩ := q1
  subst e
  obtain ⟨u, u', rfl, ra, rb⟩ := vals2 r1
  cases ra
  cases rb
  obtain ⟨u1, _, p1, _⟩ := I1.list hx
  obtain ⟨u2, _, p2, _⟩ := I1.list hy
  have lt1 : a < s1.heap.objs.size := by obtain ⟨o, _, e, _⟩ := id p1; exact Heap.lt_size e
  have lt2 : b < s1.heap.objs.size := by obtain ⟨o, _, e, _⟩ := id p2; exact Heap.lt_size e
  refine call_zip_2 p1.isList p2.isList fun h' hz hTI hTO hi1 hi2 hsz kk => ?_
  refine wpAny_pyIter_zip hz ?_
  have D : ZipApart (s1.heap.objs.size + 4) (s1.heap.objs.size + 2) (s1.heap.objs.size + 3) s1.heap.objs.size (s1.heap.objs.size + 1) a b := zipApart_new lt1 lt2
  refine ⟨_, _, _, _, H1, rfl, I1.kept (t' := s1.toks) kk, turn_zip D, ⟨hz, hTI, ⟨_, _, hTO⟩, hi1, hi2⟩, fun c hc => ?_, q⟩
  have hge : s1.heap.objs.size ≤ c := by
    simp only [List.mem_cons, List.not_mem_nil, or_false] at hc
    rcases hc with e | e | e | e | e <;> (rw [e]; first | exact Nat.le_add_right _ _ | exact Nat.le_refl _)
  exact I1.fpOk hge (I1.hok.fresh hge)
theorem pi_enum {e1 : Expr} {ta : TA} {p pos tpos : Pos} {elts : List Expr} {k : Nat} (hg : Gl X "enumerate") (hm : X.mg "enumerate" = none) (ha : PA X [e1] ta) (hs : starEach [e1] X.env = [(false, eval e1 X.env)] := by rfl) :
    PI X (.Tuple elts k tpos) (.Call (.Name "enumerate" p) [e1] [] pos) (iEnum X.K ta) := by
  intro pins s σ H R I h
  refine Call_ (ld_blt I hg hm bt_enumerate (PyProof.Rows.callWith_type1 (thn (ha pos pins s σ H _ I h) fun us s1 ⟨vs, H1, I1, r1, q1⟩ => ?_) hs rfl))
  obtain ⟨a, e, ⟨xs, hx⟩, q⟩ := q1
  subst e
  obtain ⟨u, rfl, ra⟩ := vals1 r1
  cases ra
  obtain ⟨u1, _, p1, _⟩ := I1.list hx
  have lt1 : a < s1.heap.objs.size := by obtain ⟨o, _, e, _⟩ := id p1; exact Heap.lt_size e
  refine call_enumerate_list p1.isList fun h' he hi hsz kk => ?_
  refine wpAny_pyIter_enum he ?_
  refine ⟨_, _, _, _, H1, rfl, I1.kept (t' := s1.toks) kk, turn_enum (Nat.ne_of_gt (Nat.lt_succ_self _)) (Nat.ne_of_lt (Nat.lt_succ_of_lt lt1)) (Nat.ne_of_lt lt1), ⟨⟨_, he⟩, hi⟩, fun c hc => ?_, q⟩
  have hge : s1.heap.objs.size ≤ c := by
    simp only [List.mem_cons, List.not_mem_nil, or_false] at hc
    rcases hc with e | e <;> (rw [e]; first | exact Nat.le_add_right _ _ | exact Nat.le_refl _)
  exact I1.fpOk hge (I1.hok.fresh hge)
end
theorem for_zip {K : PySem.W.Frag} {a b : Addr} {xs ys : List V} {g : TG} {tb : TS} {D : Ends} {σ : St} {H : Hp} (Pv : Nat → St → Hp → Prop) (h0 : Pv 0 σ H) (hl : ∀ i σ H, i ≤ min xs.length ys.length → Pv i σ H → SqL K H a xs ∧ SqL K H b ys)
    (hs : ∀ i x y T σ H, xs[i]? = some x → ys[i]? = some y → H T = none → Pv i σ H → g (.ref T) σ (upd H T (.tup [x, y])) fun σ2 H2 => tb { D with nx := Pv (i + 1), ct := Pv (i + 1), bk := D.nx } σ2 H2) (hd : ∀ σ H, Pv (min xs.length ys.length) σ H → D.nx σ H) :
    ∃ W : Nat → Nat → St → Hp → Prop, (∃ m, W 0 m σ H) ∧ ∀ i m σ H, W i m σ H →
      ((Itz K a b).stop i H ∧ D.nx σ H) ∨ ((Itz K a b).go i H ∧ ∃ N : St → Hp → Prop, (∀ σ' H', N σ' H' → ∃ m', m' < m ∧ W (i + 1) m' σ' H') ∧ ∀ x H', (Itz K a b).yld i H x H' → g x σ H' fun σ2 H2 => tb { D with nx := N, ct := N, bk := D.nx } σ2 H2) := by
  refine ⟨fun i m σ H => m = min xs.length ys.length - i ∧ i ≤ min xs.length ys.length ∧ Pv i σ H, ⟨min xs.length ys.length, by simp, Nat.zero_le _, h0⟩, ?_⟩
  rintro i m σ H ⟨rfl, hi, p⟩
  obtain ⟨q1, q2⟩ := hl i σ H hi p
  by_cases hlt : i < min xs.length ys.length
  · have h1 : i < xs.length := by omega
    have h2 : i < ys.length := by omega
    refine .inr ⟨⟨xs, ys, xs[i], ys[i], q1, q2, by simp, by simp⟩, Pv (i + 1), fun σ' H' p' => ⟨min xs.length ys.length - (i + 1), by omega, rfl, by omega, p'⟩, fun v H' y => ?_⟩
    obtain ⟨T, x, y, rfl, hT, rfl, y1, y2⟩ := y
    exact hs i x y T σ _ (y1 xs q1) (y2 ys q2) hT p
  · have e : i = min xs.length ys.length := by omega
    subst e
    exact .inl ⟨⟨xs, ys, q1, q2, rfl⟩, hd σ H p⟩
theorem for_enum {K : PySem.W.Frag} {a : Addr} {xs : List V} {g : TG} {tb : TS} {D : Ends} {σ : St} {H : Hp} (Pv : Nat → St → Hp → Prop) (h0 : Pv 0 σ H) (hl : ∀ i σ H, i ≤ xs.length → Pv i σ H → SqL K H a xs)
    (hs : ∀ i x T σ H, xs[i]? = some x → H T = none → Pv i σ H → g (.ref T) σ (upd H T (.tup [.int i, x])) fun σ2 H2 => tb { D with nx := Pv (i + 1), ct := Pv (i + 1), bk := D.nx } σ2 H2) (hd : ∀ σ H, Pv xs.length σ H → D.nx σ H) :
    ∃ W : Nat → Nat → St → Hp → Prop, (∃ m, W 0 m σ H) ∧ ∀ i m σ H, W i m σ H →
      ((Ite K a).stop i H ∧ D.nx σ H) ∨ ((Ite K a).go i H ∧ ∃ N : St → Hp → Prop, (∀ σ' H', N σ' H' → ∃ m', m' < m ∧ W (i + 1) m' σ' H') ∧ ∀ x H', (Ite K a).yld i H x H' → g x σ H' fun σ2 H2 => tb { D with nx := N, ct := N, bk := D.nx } σ2 H2) := by
  refine ⟨fun i m σ H => m = xs.length - i ∧ i ≤ xs.length ∧ Pv i σ H, ⟨xs.length, by simp, Nat.zero_le _, h0⟩, ?_⟩
  rintro i m σ H ⟨rfl, hi, p⟩
  have q1 := hl i σ H hi p
  by_cases hlt : i < xs.length
  · refine .inr ⟨⟨xs, xs[i], q1, by simp⟩, Pv (i + 1), fun σ' H' p' => ⟨xs.length - (i + 1), by omega, rfl, by omega, p'⟩, fun v H' y => ?_⟩
    obtain ⟨T, x, rfl, hT, rfl, y1⟩ := y
    exact hs i x T σ _ (y1 xs q1) hT p
  · have e : i = xs.length := by omega
    subst e
    exact .inl ⟨⟨xs, q1, rfl⟩, hd σ H p⟩
section
variable {K : PySem.W.Frag} {te : TE} {σ0 : St} {Q : VK} {H1 : Hp} {l : Addr} {g : TG}
theorem comp_dataG {J : It} {n : Nat} {ds : List PyData} (hn : ds.length = n) (hl : H1 l = none) (hz : n ≤ sizeLine)
    (hgo : ∀ i H, i < n → Same H1 H → J.go i H) (hst : ∀ H, Same H1 H → J.stop n H)
    (ht : ∀ i H x H' d (R : VK), ds[i]? = some d → Same H1 H → J.yld i H x H' → (∀ v H4, Same H H4 → NewD K H H4 v d → R v H4) → g x σ0 H' fun σ2 H2 => te σ2 H2 R)
    (he : ∀ H, Same H1 H → NewD K H1 H (.ref l) (.list ds) → Q (.ref l) H) :
    CompRun J g tYes te σ0 Q H1 l := by
  refine ⟨fun i m vs H => m = n - i ∧ i ≤ n ∧ H l = some (.lst vs) ∧ Same H1 H ∧ NewDs K (upd H1 l (.lst [])) H vs (ds.take i), ⟨n, by simp, Nat.zero_le _, upd_same, Same.upd hl, by rw [List.take_zero]; exact .nil⟩, ?_⟩
  rintro i m vs H ⟨rfl, hi, hL, hS, hD⟩
  refine ⟨hL, ?_⟩
  by_cases hlt : i < n
  · have hd : ds[i]? = some ds[i] := List.getElem?_eq_getElem (by omega)
    refine .inr ⟨hgo i H hlt hS, ?_, fun vs' H' => H' l = some (.lst vs') ∧ Same H1 H' ∧ NewDs K (upd H1 l (.lst [])) H' vs' (ds.take (i + 1)), fun vs' H' ⟨a, b, c⟩ => ⟨n - (i + 1), by omega, rfl, hlt, a, b, c⟩, fun x H' y => ?_⟩
    · rw [hD.len, List.length_take]
      omega
    · refine ht i H x H' _ _ hd hS y fun v H4 S4 N4 => ?_
      have hb : Same (upd H1 l (.lst [])) (upd H1 l (.lst [])) := Same.refl _
      have nl : upd H1 l (.lst []) l ≠ none := some_ne upd_same
      have S04 : Same H1 H4 := hS.trans S4
      refine ⟨S4 _ _ hL, upd_same, same_write S04 hl, ?_⟩
      have wl : ∀ a, H a = none → upd H1 l (.lst []) a = none := fun a e => by
        have ne : a ≠ l := fun z => by rw [z, hL] at e; cases e
        rw [upd_ne ne]
        exact hS.free e
      have e1 : ds.take (i + 1) = ds.take i ++ [ds[i]] := by rw [List.take_succ_eq_append_getElem]
      rw [e1]
      have hl4 : NoTup (H4 l) := by rw [S4 _ _ hL]; exact noTup_lst
      refine NewDs.snoc ((hD.later S4).write nl hl4) ?_
      exact NewD.write nl hl4 (NewD.go (fun a xs z q => ⟨wl a z, q⟩) (fun _ _ q => q) _ N4)
  · have e : i = n := by omega
    subst e
    refine .inl ⟨hst H hS, he H hS (.lst hl hL ?_)⟩
    rw [List.take_of_length_le (by omega)] at hD
    exact hD.wider (Same.upd hl)
end
section
variable {K : PySem.W.Frag} {te : TE} {σ0 : St} {Q : VK} {H1 : Hp} {l : Addr}
theorem comp_rangeD {lo : Int} {n : Nat} {ds : List PyData} (hn : ds.length = n) (hl : H1 l = none) (hz : n ≤ sizeLine)
    (ht : ∀ (i : Nat) H d (R : VK), ds[i]? = some d → Same H1 H → (∀ v H4, Same H H4 → NewD K H H4 v d → R v H4) → te (σ0.set 0 (some (.int (lo + i)))) H R)
    (he : ∀ H, Same H1 H → NewD K H1 H (.ref l) (.list ds) → Q (.ref l) H) :
    CompRun (Itr lo n) (gName 0) tYes te σ0 Q H1 l :=
  comp_dataG (K := K) (J := Itr lo n) hn hl hz (fun i H h _ => h) (fun _ _ => Nat.le_refl _) (fun i H x H' d R e S y k => by
    obtain ⟨rfl, rfl⟩ := y
    exact ht i _ d R e S k) he
theorem comp_listD {a : Addr} {xs : List V} {ds : List PyData} (hq : SqL K H1 a xs) (hn : ds.length = xs.length) (hl : H1 l = none) (hz : xs.length ≤ sizeLine)
    (ht : ∀ (i : Nat) x H d (R : VK), xs[i]? = some x → ds[i]? = some d → Same H1 H → (∀ v H4, Same H H4 → NewD K H H4 v d → R v H4) → te (σ0.set 0 (some x)) H R)
    (he : ∀ H, Same H1 H → NewD K H1 H (.ref l) (.list ds) → Q (.ref l) H) :
    CompRun (Itl K a) (gName 0) tYes te σ0 Q H1 l :=
  comp_dataG (K := K) (J := Itl K a) hn hl hz (fun i H h S => ⟨xs, xs[i], S.seq hq, by simp [h]⟩) (fun _ S => ⟨xs, S.seq hq, Nat.le_refl _⟩) (fun i H x H' d R e S y k => by
    obtain ⟨rfl, y⟩ := y
    exact ht i x _ d R (y xs (S.seq hq)) e S k) he
theorem comp_zipD {a b : Addr} {xs ys : List V} {ds : List PyData} (hq : SqL K H1 a xs) (hq' : SqL K H1 b ys) (hn : ds.length = min xs.length ys.length) (hl : H1 l = none) (hz : min xs.length ys.length ≤ sizeLine) (h2 : 2 ≤ σ0.length)
    (ht : ∀ (i : Nat) x y H d (R : VK), xs[i]? = some x → ys[i]? = some y → ds[i]? = some d → Same H1 H → (∀ v H4, Same H H4 → NewD K H H4 v d → R v H4) → te ((σ0.set 0 (some x)).set 1 (some y)) H R)
    (he : ∀ H, Same H1 H → NewD K H1 H (.ref l) (.list ds) → Q (.ref l) H) :
    CompRun (Itz K a b) (gTup K 2 (gCons (gName 0) (gCons (gName 1) gNil))) tYes te σ0 Q H1 l :=
  comp_dataG (K := K) (J := Itz K a b) hn hl hz (fun i H h S => ⟨xs, ys, xs[i], ys[i], S.seq hq, S.seq hq', by simp, by simp⟩) (fun _ S => ⟨xs, ys, S.seq hq, S.seq hq', rfl⟩) (fun i H x H' d R e S y k => by
    obtain ⟨T, x, y, rfl, hT, rfl, y1, y2⟩ := y
    refine ⟨T, _, rfl, SqT.of upd_same, rfl, _, _, rfl, _, _, rfl, rfl, ?_⟩
    refine ht i x y _ d R (y1 xs (S.seq hq)) (y2 ys (S.seq hq')) e (S.trans (Same.upd hT)) fun v H4 S4 N4 => ?_
    exact k v H4 ((Same.upd hT).trans S4) (N4.wider (Same.upd hT))) he
end
end L2
namespace L2
open PySem PySem.Spec PyProof.Rows
structure DefM (K : PySem.W.Frag) (C : Addr) (x qual : Str) (st : Stmt) (ps : List Str) : Prop where
  ex : ∃ f fd, Fun K x qual st f fd ∧ Binds K fd ps [] ∧ Meth K C x f
structure DefI (K : PySem.W.Frag) (C : Addr) (qual : Str) (st : Stmt) (ps : List Str) : Prop where
  ex : ∃ f fd, Fun K "__init__" qual st f fd ∧ Binds K fd ps [] ∧ Mk K C f
structure OwnM (P : Program) (w : World) (K : PySem.W.Frag) (mg : Str → Option Value) (base : Heap) (CX : CXT) (C : Addr) (x : Str) (ps : List Str) (k : Nat) (sp : Sp) : Prop where
  ex : ∃ f fd, FnOk P w K mg base CX k f fd ps sp ∧ Binds K fd ps [] ∧ Meth K C x f
structure OwnI (P : Program) (w : World) (K : PySem.W.Frag) (mg : Str → Option Value) (base : Heap) (CX : CXT) (C : Addr) (ps : List Str) (k : Nat) (sp : Sp) : Prop where
  ex : ∃ f fd, FnOk P w K mg base CX k f fd ps sp ∧ Binds K fd ps [] ∧ Mk K C f
section
variable {P : Program} {w : World} {K : PySem.W.Frag} {mg : Str → Option Value} {base : Heap} {C : Addr}
theorem DefM.own {x qual : Str} {st : Stmt} {ps N : List Str} {k : Nat} {sp : Sp} (D : DefM K C x qual st ps) (S : FnScope N ps (defScope st)) (len : ∀ vs H Q E, sp vs H Q E → vs.length = ps.length)
    (hbody : ∀ (f : Addr) (cdv : Value) (A : Around) (outer : List Env) (s : Shared) (H : Hp) (vs : List V) (Q : VK) (E : XK), Room k (A.deeper (envOfC qual (defScope st) s.heap.objs.size f cdv)) → sp vs H Q E →
      ∃ t, PSs (cxOf CX0 P w K mg base N qual (defScope st) f cdv A outer s H E).nox (defBody st) t ∧ t { nx := fun _ H' => Q .non H', rt := Q } (start N vs) H) : OwnM P w K mg base CX0 C x ps (k + 1) sp := by
  obtain ⟨f, fd, F, b, m⟩ := D.ex
  exact ⟨f, fd, F.ok S len fun cdv A outer s H vs Q E hr h => hbody f cdv A outer s H vs Q E hr h, b, m⟩
theorem DefI.own {qual : Str} {st : Stmt} {ps N : List Str} {k : Nat} {sp : Sp} (D : DefI K C qual st ps) (S : FnScope N ps (defScope st)) (len : ∀ vs H Q E, sp vs H Q E → vs.length = ps.length)
    (hbody : ∀ (f : Addr) (cdv : Value) (A : Around) (outer : List Env) (s : Shared) (H : Hp) (vs : List V) (Q : VK) (E : XK), Room k (A.deeper (envOfC qual (defScope st) s.heap.objs.size f cdv)) → sp vs H Q E →
      ∃ t, PSs (cxOf CX0 P w K mg base N qual (defScope st) f cdv A outer s H E).nox (defBody st) t ∧ t { nx := fun _ H' => Q .non H', rt := Q } (start N vs) H) : OwnI P w K mg base CX0 C ps (k + 1) sp := by
  obtain ⟨f, fd, F, b, m⟩ := D.ex
  exact ⟨f, fd, F.ok S len fun cdv A outer s H vs Q E hr h => hbody f cdv A outer s H vs Q E hr h, b, m⟩
theorem DefM.ownE {x qual : Str} {st : Stmt} {ps N : List Str} {k : Nat} {sp : Sp} (D : DefM K C x qual st ps) (S : FnScope N ps (defScope st)) (len : ∀ vs H Q E, sp vs H Q E → vs.length = ps.length)
    (hbody : ∀ (f : Addr) (cdv : Value) (A : Around) (outer : List Env) (s : Shared) (H : Hp) (vs : List V) (Q : VK) (E : XK), Room k (A.deeper (envOfC qual (defScope st) s.heap.objs.size f cdv)) → sp vs H Q E →
      ∃ t, PSs (cxOf (CXE P w) P w K mg base N qual (defScope st) f cdv A outer s H E) (defBody st) t ∧ t { nx := fun _ H' => Q .non H', rt := Q } (start N vs) H) : OwnM P w K mg base (CXE P w) C x ps (k + 1) sp := by
  obtain ⟨f, fd, F, b, m⟩ := D.ex
  exact ⟨f, fd, F.okE S len fun cdv A outer s H vs Q E hr h => hbody f cdv A outer s H vs Q E hr h, b, m⟩
theorem DefI.ownE {qual : Str} {st : Stmt} {ps N : List Str} {k : Nat} {sp : Sp} (D : DefI K C qual st ps) (S : FnScope N ps (defScope st)) (len : ∀ vs H Q E, sp vs H Q E → vs.length = ps.length)
    (hbody : ∀ (f : Addr) (cdv : Value) (A : Around) (outer : List Env) (s : Shared) (H : Hp) (vs : List V) (Q : VK) (E : XK), Room k (A.deeper (envOfC qual (defScope st) s.heap.objs.size f cdv)) → sp vs H Q E →
      ∃ t, PSs (cxOf (CXE P w) P w K mg base N qual (defScope st) f cdv A outer s H E) (defBody st) t ∧ t { nx := fun _ H' => Q .non H', rt := Q } (start N vs) H) : OwnI P w K mg base (CXE P w) C ps (k + 1) sp := by
  obtain ⟨f, fd, F, b, m⟩ := D.ex
  exact ⟨f, fd, F.okE S len fun cdv A outer s H vs Q E hr h => hbody f cdv A outer s H vs Q E hr h, b, m⟩
end
section
variable {X : Cx} {CX : CXT} {k : Nat} {C : Addr} {ps : List Str} {sp : Sp} {E : XK} {x m : Str} {p pos apos : Pos} {e o : Expr} {es : List Expr} {ta : TE} {t : TA}
theorem pe_ownM {pl : Sem Bool} (F : OwnM X.prog X.w X.K X.mg X.base CX C m ps k sp) (c : Cls X.K C) (hr : Room k X.A) (hx : Passes CX X E) (he : PE X o ta) (ha : PA X (e :: es) t)
    (hst : starEach (e :: es) X.env = (false, eval e X.env) :: starEach es X.env := by rfl) (hpl : (backTo pos (starEach es X.env)).any (·.1) = false := by rfl)
    (ht : eval (.Call (.Attribute o m apos) (e :: es) [] pos) X.env = (do
      let ov ← eval o X.env
      standAt apos.atName
      let (f, first) ← holding [ov] (getMethod ov m pl)
      callWith pos f first (backTo pos (starEach (e :: es) X.env)) (backToKw pos (keywordEach [] X.env))) := by rfl) :
    PE X (.Call (.Attribute o m apos) (e :: es) [] pos) (tMeth C m sp [] E ta t) := by
  obtain ⟨f, fd, G, b, me⟩ := F.ex
  exact pe_meth (pl := pl) he c me G hr b .nil hx ha hst hpl ht
theorem pe_ownM0 {pl : Sem Bool} (F : OwnM X.prog X.w X.K X.mg X.base CX C m ps k sp) (c : Cls X.K C) (hr : Room k X.A) (hx : Passes CX X E) (he : PE X o ta)
    (ht : eval (.Call (.Attribute o m apos) [] [] pos) X.env = (do
      let ov ← eval o X.env
      standAt apos.atName
      let (f, first) ← holding [ov] (getMethod ov m pl)
      callWith pos f first (backTo pos (starEach [] X.env)) (backToKw pos (keywordEach [] X.env))) := by rfl) :
    PE X (.Call (.Attribute o m apos) [] [] pos) (tMeth C m sp [] E ta tNil) := by
  obtain ⟨f, fd, G, b, me⟩ := F.ex
  exact pe_meth0 (pl := pl) he c me G hr b .nil hx ht
theorem pe_ownI (F : OwnI X.prog X.w X.K X.mg X.base CX C ps k sp) (hr : Room (k + 1) X.A) (hg : Gl X x) (hm : X.mg x = some (.ref C)) (hx : Passes CX X E) (ha : PA X (e :: es) t)
    (hdb : (x == ("__debug__" : Str)) = false := by decide) (he : starEach (e :: es) X.env = (false, eval e X.env) :: starEach es X.env := by rfl) (hpl : (backTo pos (starEach es X.env)).any (·.1) = false := by rfl) :
    PE X (.Call (.Name x p) (e :: es) [] pos) (tMake C sp [] E t) := by
  obtain ⟨f, fd, G, b, me⟩ := F.ex
  exact pe_make me G hr hg hm b .nil hx ha hdb he hpl
theorem pe_globI {n : Int} (hg : Gl X x) (hm : ∃ t, X.mg x = some (.int n t)) (hd : (x == ("__debug__" : Str)) = false := by decide) : PE X (.Name x pos) (tC (.int n)) := by
  obtain ⟨t, hm⟩ := hm
  exact pe_glob hg hm ⟨t, rfl⟩ hd
end
def compOk (osc : Scope) (ON : List Str) (scope : Scope) (tg cap : List Str) (caps : List Nat) : Bool :=
  scope.kind == .function &&
  (scope.names.all fun y => !(y.2 == .local) || (scope.names.lookup y.1 == some .local)) &&
  (scope.names.all fun y => !(y.2 == .free) || (osc.names.lookup y.1 == some .cell || osc.names.lookup y.1 == some .free)) &&
  (scope.names.all fun y => !(y.2 == .cell) || (scope.names.lookup y.1 == some .cell)) &&
  (cap.all fun x => scope.names.lookup x == some .free && !(scope.names.any fun y => y.1 == x && y.2 == .cell)) &&
  (caps.map (fun j => ON[j]?) == cap.map some)
theorem CompSc.of_ok {osc : Scope} {ON : List Str} {scope : Scope} {tg cap : List Str} {caps : List Nat} (h : compOk osc ON scope tg cap caps = true) : CompSc osc ON scope tg cap caps := by
  unfold compOk at h
  simp only [Bool.and_eq_true] at h
  obtain ⟨⟨⟨⟨⟨h1, h2⟩, h3⟩, h4⟩, h5⟩, h6⟩ := h
  refine ⟨by simpa using h1, fun y hy e => ?_, fun y hy e => ?_, fun y hy e => ?_, fun x hx => ?_, by simpa using h6⟩
  · have z := List.all_eq_true.mp h2 y hy
    simpa [e] using z
  · have z := List.all_eq_true.mp h3 y hy
    simpa [e] using z
  · have z := List.all_eq_true.mp h4 y hy
    simpa [e] using z
  · have z := List.all_eq_true.mp h5 x hx
    simp only [Bool.and_eq_true, Bool.not_eq_true'] at z
    refine ⟨by simpa using z.1, fun q => ?_⟩
    have w := z.2
    rw [List.any_eq_false] at w
    exact w _ q (by simp)
end L2
namespace L2
open PySem PySem.Spec PyProof.Rows
theorem vals_get {xs : List V} {us : List Value} {i : Nat} {u : Value} (r : Vals xs us) (e : us[i]? = some u) : ∃ x, xs[i]? = some x ∧ RelV x u := by
  have hi : i < xs.length := by
    rw [r.length]
    exact (List.getElem?_eq_some_iff.mp e).1
  obtain ⟨u', e', q⟩ := r.get (List.getElem?_eq_getElem hi)
  rw [e] at e'
  cases e'
  exact ⟨_, List.getElem?_eq_getElem hi, q⟩
theorem preSum_list : ∀ (ns : List Int) (k : Nat), k ≤ ns.length → preSum (fun i => ns.getD i 0) k = (ns.take k).sum
  | ns, 0, _ => by simp [preSum]
  | ns, k + 1, h => by
    have hk : k < ns.length := by omega
    rw [preSum, preSum_list ns k (by omega), List.take_succ_eq_append_getElem hk, List.sum_append, List.getD_eq_getElem?_getD, List.getElem?_eq_getElem hk]
    simp
theorem argBest_le (bt : Nat → Nat → Bool) : ∀ k, argBest bt k ≤ k
  | 0 => Nat.le_refl _
  | k + 1 => by
    unfold argBest
    split
    · exact Nat.le_refl _
    · exact Nat.le_succ_of_le (argBest_le bt k)
theorem argBest_min (f : Nat → Int) : ∀ k i, i ≤ k → f (argBest (fun i j => decide (f i < f j)) k) ≤ f i
  | 0, i, h => by
    obtain rfl : i = 0 := by omega
    exact Int.le_refl _
  | k + 1, i, h => by
    unfold argBest
    have ih := argBest_min f k
    by_cases hd : f (k + 1) < f (argBest (fun i j => decide (f i < f j)) k)
    · rw [if_pos (by simpa using hd)]
      by_cases hi : i = k + 1
      · subst hi
        exact Int.le_refl _
      · have := ih i (by omega)
        omega
    · rw [if_neg (by simpa using hd)]
      by_cases hi : i = k + 1
      · subst hi
        omega
      · exact ih i (by omega)
theorem argBest_max (f : Nat → Int) : ∀ k i, i ≤ k → f i ≤ f (argBest (fun i j => decide (f i > f j)) k)
  | 0, i, h => by
    obtain rfl : i = 0 := by omega
    exact Int.le_refl _
  | k + 1, i, h => by
    unfold argBest
    have ih := argBest_max f k
    by_cases hd : f (k + 1) > f (argBest (fun i j => decide (f i > f j)) k)
    · rw [if_pos (by simpa using hd)]
      by_cases hi : i = k + 1
      · subst hi
        exact Int.le_refl _
      · have := ih i (by omega)
        omega
    · rw [if_neg (by simpa using hd)]
      by_cases hi : i = k + 1
      · subst hi
        omega
      · exact ih i (by omega)
section
variable {X : Cx}
theorem iter_list {l : Addr} {its : Array Value} {A : Around} {E : Value → Shared → Prop} {s : Shared} {Q : Value → Shared → Prop} {M : Model} {prog : Program} {w : World} (hl : s.heap.IsList l its)
    (h : ∀ s₂ : Shared, s₂ = { s with heap := s.heap.push { cls := .type "list_iterator", data := .fields #[.ref l, .int 0 0] } } →
      (s₂.heap.IsListIter s.heap.objs.size l 0 ∧ s₂.heap.IsList l its) → (∀ b ∈ [s.heap.objs.size, l], b < s₂.heap.objs.size) → l ≠ s.heap.objs.size → Q (.ref s.heap.objs.size) s₂) :
    wpAny (model prog w) A (pyIter (.ref l)) Q E s := by
  have hlt : l < s.heap.objs.size := by obtain ⟨_, e, _⟩ := hl; exact Heap.lt_size e
  refine wpAny_pyIter_list hl (h _ rfl ⟨⟨_, Heap.get?_push_size _ rfl, rfl, rfl⟩, hl.push _⟩ (fun b hb => ?_) (Nat.ne_of_lt hlt))
  show b < (s.heap.push _).objs.size
  rw [Heap.size_push]
  rcases List.mem_cons.mp hb with rfl | hb
  · exact Nat.lt_succ_self _
  · rcases List.mem_cons.mp hb with rfl | hb
    · exact Nat.lt_succ_of_lt hlt
    · cases hb
theorem ints_walk {its : List Value} {ns : List Int} {i : Nat} {v : Value} (rv : Vals (ns.map V.int) its) (h : its.toArray[i]? = some v) : ∃ t, v = .int (ns.getD i 0) t := by
  have hP' : its[i]? = some v := by simpa using h
  obtain ⟨y, e1, ry⟩ := vals_get rv hP'
  rw [List.getElem?_map] at e1
  cases hb : ns[i]? with
  | none => rw [hb] at e1; cases e1
  | some b =>
    rw [hb] at e1
    cases e1
    obtain ⟨t, rfl⟩ := ry
    exact ⟨t, by rw [List.getD_eq_getElem?_getD, hb]; rfl⟩
theorem call_sum (hc : X.calm = true) : CallR X (.builtin "sum") (fun xs H Q => ∃ (x : V) (ns : List Int), xs = [x] ∧ HasD X.K H x (.list (ns.map PyData.int)) ∧ Q (.int ns.sum) H) := by
  intro pins s σ H xs us Q I r h
  obtain ⟨x, ns, rfl, hd, q⟩ := h
  obtain ⟨a, ys, rfl, hq, hds⟩ := hd.oflst
  rw [HasDs.ints.mp hds] at hq
  obtain ⟨u, rfl, rx⟩ := vals1 r
  cases rx
  obtain ⟨its, rv, p, hz⟩ := I.list hq
  refine call_sum_walkG (iter_list (M := model X.prog X.w) p.isList fun s₂ e st hfp hlI => ?_)
  subst e
  have hlen : its.toArray.size = ns.length := by
    have h1 := rv.length
    rw [List.length_map] at h1
    simp
    omega
  refine ⟨_, _, _, _, _, _, fun i => ns.getD i 0, rfl, Walks.list (A := X.A.in1) (I.ok.hd hc) _ a hlI its.toArray, st, hfp, fun i v hP => ints_walk rv hP, fun h' tk t' hk => ⟨.int ns.sum, H, I.kept (old_kept hk), ⟨t', ?_⟩, q⟩⟩
  rw [hlen, preSum_list ns _ (Nat.le_refl _), List.take_length]
theorem call_min1 (hc : X.calm = true) : CallR X (.builtin "min") (fun xs H Q => ∃ (x : V) (ns : List Int), xs = [x] ∧ HasD X.K H x (.list (ns.map PyData.int)) ∧ ns ≠ [] ∧ ∀ m, m ∈ ns → (∀ n ∈ ns, m ≤ n) → Q (.int m) H) := by
  intro pins s σ H xs us Q I r h
  obtain ⟨x, ns, rfl, hd, hne, q⟩ := h
  obtain ⟨a, ys, rfl, hq, hds⟩ := hd.oflst
  rw [HasDs.ints.mp hds] at hq
  obtain ⟨u, rfl, rx⟩ := vals1 r
  cases rx
  obtain ⟨its, rv, p, hz⟩ := I.list hq
  refine call_min_walk (iter_list (M := model X.prog X.w) p.isList fun s₂ e st hfp hlI => ?_)
  subst e
  have hlen : its.toArray.size = ns.length := by
    have h1 := rv.length
    rw [List.length_map] at h1
    simp
    omega
  have hpos : 0 < ns.length := List.length_pos_iff.mpr hne
  refine ⟨_, _, _, _, _, _, _, rfl, Walks.list (A := X.A.in1) (I.ok.hd hc) _ a hlI its.toArray, st, hfp, by omega, CmpOf.ints_lt (fun i => ns.getD i 0) (fun i v hP => ints_walk rv hP), fun v h' tk hP hk => ?_⟩
  obtain ⟨t, rfl⟩ := ints_walk rv hP
  rw [hlen]
  have hb : argBest (fun i j => decide (ns.getD i 0 < ns.getD j 0)) (ns.length - 1) < ns.length := by
    have := argBest_le (fun i j => decide (ns.getD i 0 < ns.getD j 0)) (ns.length - 1)
    omega
  refine ⟨.int _, H, I.kept (old_kept hk), ⟨t, rfl⟩, q _ ?_ fun n hn => ?_⟩
  · rw [List.getD_eq_getElem?_getD, List.getElem?_eq_getElem hb]
    exact List.getElem_mem hb
  · obtain ⟨i, hi, e⟩ := List.getElem_of_mem hn
    have z := argBest_min (fun i => ns.getD i 0) (ns.length - 1) i (by omega)
    rw [show ns.getD i 0 = n by rw [List.getD_eq_getElem?_getD, List.getElem?_eq_getElem hi, e]; rfl] at z
    exact z
theorem call_max1 (hc : X.calm = true) : CallR X (.builtin "max") (fun xs H Q => ∃ (x : V) (ns : List Int), xs = [x] ∧ HasD X.K H x (.list (ns.map PyData.int)) ∧ ns ≠ [] ∧ ∀ m, m ∈ ns → (∀ n ∈ ns, n ≤ m) → Q (.int m) H) := by
  intro pins s σ H xs us Q I r h
  obtain ⟨x, ns, rfl, hd, hne, q⟩ := h
  obtain ⟨a, ys, rfl, hq, hds⟩ := hd.oflst
  rw [HasDs.ints.mp hds] at hq
  obtain ⟨u, rfl, rx⟩ := vals1 r
  cases rx
  obtain ⟨its, rv, p, hz⟩ := I.list hq
  refine call_max_walk (iter_list (M := model X.prog X.w) p.isList fun s₂ e st hfp hlI => ?_)
  subst e
  have hlen : its.toArray.size = ns.length := by
    have h1 := rv.length
    rw [List.length_map] at h1
    simp
    omega
  have hpos : 0 < ns.length := List.length_pos_iff.mpr hne
  refine ⟨_, _, _, _, _, _, _, rfl, Walks.list (A := X.A.in1) (I.ok.hd hc) _ a hlI its.toArray, st, hfp, by omega, CmpOf.ints_gt (fun i => ns.getD i 0) (fun i v hP => ints_walk rv hP), fun v h' tk hP hk => ?_⟩
  obtain ⟨t, rfl⟩ := ints_walk rv hP
  rw [hlen]
  have hb : argBest (fun i j => decide (ns.getD i 0 > ns.getD j 0)) (ns.length - 1) < ns.length := by
    have := argBest_le (fun i j => decide (ns.getD i 0 > ns.getD j 0)) (ns.length - 1)
    omega
  refine ⟨.int _, H, I.kept (old_kept hk), ⟨t, rfl⟩, q _ ?_ fun n hn => ?_⟩
  · rw [List.getD_eq_getElem?_getD, List.getElem?_eq_getElem hb]
    exact List.getElem_mem hb
  · obtain ⟨i, hi, e⟩ := List.getElem_of_mem hn
    have z := argBest_max (fun i => ns.getD i 0) (ns.length - 1) i (by omega)
    rw [show ns.getD i 0 = n by rw [List.getD_eq_getElem?_getD, List.getElem?_eq_getElem hi, e]; rfl] at z
    exact z
theorem call_lenQ : CallR X (.builtin "len") (fun xs H Q => ∃ (x : V) (ds : List PyData), xs = [x] ∧ (HasD X.K H x (.list ds) ∨ HasD X.K H x (.tuple ds)) ∧ Q (.int ds.length) H) := by
  intro pins s σ H xs us Q I r h
  obtain ⟨x, ds, rfl, hd, q⟩ := h
  rcases hd with hd | hd
  · obtain ⟨a, ys, rfl, hq, hds⟩ := hd.oflst
    refine call_len_seq pins s σ H _ us Q I r ⟨a, ys, rfl, .inl hq, ?_⟩
    rw [hds.len]
    exact q
  · obtain ⟨a, ys, rfl, hq, hds⟩ := hd.oftup
    refine call_len_seq pins s σ H _ us Q I r ⟨a, ys, rfl, .inr hq, ?_⟩
    rw [hds.len]
    exact q
def rIxQ (K : PySem.W.Frag) : R2 := fun x y H Q => ∃ ds i d, (HasD K H x (.list ds) ∨ HasD K H x (.tuple ds)) ∧ y = .int i ∧ atI ds i = some d ∧ ∀ v, HasD K H v d → Q v H
theorem atI_has {K : PySem.W.Frag} {H : Hp} {xs : List V} {ds : List PyData} {i : Int} {d : PyData} (h : HasDs K H xs ds) (e : atI ds i = some d) : ∃ v, atI xs i = some v ∧ HasD K H v d := by
  unfold atI at e ⊢
  rw [h.len]
  cases hi : ixN ds.length i with
  | none => rw [hi] at e; cases e
  | some j =>
    rw [hi] at e
    exact h.get e
theorem ix_Q : IxR X (rIxQ X.K) := by
  intro value slice pins s σ H x y v u Q I rx ry h hs
  obtain ⟨ds, i, d, hd, rfl, e, q⟩ := h
  rcases hd with hd | hd
  · obtain ⟨a, xs, rfl, hq, hds⟩ := hd.oflst
    obtain ⟨z, ez, hz⟩ := atI_has hds e
    exact ix_list value slice pins s σ H _ _ v u Q I rx ry ⟨a, xs, i, z, rfl, rfl, hq, ez, q z hz⟩ hs
  · obtain ⟨a, xs, rfl, hq, hds⟩ := hd.oftup
    obtain ⟨z, ez, hz⟩ := atI_has hds e
    exact ix_tup value slice pins s σ H _ _ v u Q I rx ry ⟨a, xs, i, z, rfl, rfl, hq, ez, q z hz⟩ hs
theorem atI_nat' {α : Type} {xs : List α} {i : Nat} {x : α} (h : xs[i]? = some x) : atI xs (i : Int) = some x := atI_nat h
theorem pe_fstr1 {x : Str} {e : Expr} {te : TE} {k : Nat} {p1 p2 p3 : Pos} (hx : x.length ≤ 1000) (he : PE X e te) :
    PE X (.JoinedStr [.Constant (.str x) k p1, .FormattedValue e (-1) none p2] p3) (fun σ H Q => te σ H fun v H1 => ∃ i, v = .int i ∧ i.natAbs.log2 < 1920 ∧ ∀ y, Q (.str y) H1) := by
  intro pins s σ H Q I h
  refine JoinedStr_many (joinParts_cons (Calls.Constant_str ⟨?_, ?_⟩))
  · rw [strLen_append]
    show 0 + x.length ≤ sizeLine
    exact Nat.le_trans (by omega) (show 1000 ≤ sizeLine by decide)
  · refine joinParts_cons (FormattedValue_plain (thn (he pins _ σ H _ (I.tok _) h) fun u s1 ⟨v, H1, I1, r, i, ev, hd, q⟩ => ?_))
    subst ev
    obtain ⟨t, rfl⟩ := r
    have fits := int_text_fits hd
    have lim : (Str.empty ++ x ++ toString i : Str).length ≤ sizeLine := by
      rw [strLen_append, strLen_append]
      have : (Str.empty : Str).length = 0 := rfl
      have z := int_text_length_le (k := 1920) (by decide) hd
      have e : (toString i : Str).length = (toString i : String).length := PySem.ofString_length _
      have : 1000 + 5000 ≤ sizeLine := by decide
      omega
    exact formatField_int_small hd ⟨lim, joinParts_nil ⟨.str _, H1, I1.tok _, ⟨_, rfl⟩, q _⟩ lim⟩
end
end L2
namespace L2
open PySem PySem.Spec PyProof.Rows
theorem get_list {X : Cx} : PGet X (fun o i H Q => ∃ (p : Addr) (xs : List V) (j : Nat) (v : V), o = .ref p ∧ i = .int j ∧ SqL X.K H p xs ∧ xs[j]? = some v ∧ Q v H) := by
  intro pins s σ H o i ov iv Q I ro ri h
  obtain ⟨p, xs, j, v, rfl, rfl, hq, e, q⟩ := h
  cases ro
  obtain ⟨t, rfl⟩ := ri
  obtain ⟨its, r, pl, hz⟩ := I.list hq
  obtain ⟨w, ew, rw'⟩ := r.get e
  have hn := line63
  have hj : j < xs.length := (List.getElem?_eq_some_iff.mp e).1
  exact wpAny_getItem_list pl.isList (by omega) (by omega) (by simpa using ew) ⟨v, H, I, rw', q⟩
theorem ixN_nat {n j : Nat} (h : j < n) : ixN n (j : Int) = some j := by
  unfold ixN
  rw [if_pos (by omega), if_pos (by omega)]
  simp
end L2
namespace L2
open PySem PySem.Spec PyProof.Rows
section
variable {X : Cx} {K : PySem.W.Frag}
theorem call_lenK (hK : X.K = K) : CallR X (.builtin "len") (fun xs H Q => ∃ (x : V) (ds : List PyData), xs = [x] ∧ (HasD K H x (.list ds) ∨ HasD K H x (.tuple ds)) ∧ Q (.int ds.length) H) := by subst hK; exact call_lenQ
theorem call_sumK (hK : X.K = K) (hc : X.calm = true) : CallR X (.builtin "sum") (fun xs H Q => ∃ (x : V) (ns : List Int), xs = [x] ∧ HasD K H x (.list (ns.map PyData.int)) ∧ Q (.int ns.sum) H) := by subst hK; exact call_sum hc
theorem call_minK (hK : X.K = K) (hc : X.calm = true) : CallR X (.builtin "min") (fun xs H Q => ∃ (x : V) (ns : List Int), xs = [x] ∧ HasD K H x (.list (ns.map PyData.int)) ∧ ns ≠ [] ∧ ∀ m, m ∈ ns → (∀ n ∈ ns, m ≤ n) → Q (.int m) H) := by subst hK; exact call_min1 hc
theorem call_maxK (hK : X.K = K) (hc : X.calm = true) : CallR X (.builtin "max") (fun xs H Q => ∃ (x : V) (ns : List Int), xs = [x] ∧ HasD K H x (.list (ns.map PyData.int)) ∧ ns ≠ [] ∧ ∀ m, m ∈ ns → (∀ n ∈ ns, n ≤ m) → Q (.int m) H) := by subst hK; exact call_max1 hc
theorem call_listK (hK : X.K = K) : CallR X (.type "list") (fun xs H Q => ∃ p ys, xs = [.ref p] ∧ (SqL K H p ys ∨ SqT K H p ys) ∧ ∀ l, H l = none → Q (.ref l) (upd H l (.lst ys))) := by subst hK; exact call_list_of
theorem call_isiXK (hK : X.K = K) : CallR X (.builtin "isinstance") (fun xs H Q => ∃ a D c b, xs = [.ref a, c] ∧ ((∃ n, c = .ty n) ∨ ∃ C, c = .ref C) ∧ H a = some (.ext (ExcAt a D)) ∧ ExcIsi K D ∧ PySem.W.kitOne K (.ref D) (clsV c) = some b ∧ Q (.bl b) H) := by subst hK; exact call_isiX
theorem ix_K (hK : X.K = K) : IxR X (rIxQ K) := by subst hK; exact ix_Q
theorem ix_tupK (hK : X.K = K) : IxR X (rIxT K) := by subst hK; exact ix_tup
theorem sl_listK (hK : X.K = K) : SlR X (rSlL K) := by subst hK; exact sl_list
theorem op_inK (hK : X.K = K) : OpR X (compareOp .In) (rIn K false) := by subst hK; exact op_in_seq
theorem pe_fldK {e : Expr} {f : Str} {pos : Pos} {ta : TE} (hK : X.K = K) (he : PE X e ta) (hb : attributeBase e f X.env (eval e X.env) = eval e X.env) : PE X (.Attribute e f pos) (tFld K ta f) := by subst hK; exact pe_fld he hb
theorem ps_fldK {o value : Expr} {f : Str} {pos pos' : Pos} {ta tv : TE} (hK : X.K = K) (ha : PE X o ta) (hv : PE X value tv) (hs : swapsWith value (some (.Attribute o f pos')) pos.line X.env = pure false) : PS X (.Assign [.Attribute o f pos'] value pos) (sFld K ta tv f) := by subst hK; exact ps_fld ha hv hs
theorem pg_tupK {es : List Expr} {k n : Nat} {t : TGs} {pos : Pos} (hK : X.K = K) (hc : X.calm = true) (h : PGs X es t) (hn : (assignEach es X.env).length = n := by rfl) (hst : (assignEach es X.env).findIdx? (·.1) = none := by rfl) : PG X (.Tuple es k pos) (gTup K n t) := by subst hK; exact pg_tup hc h hn hst
theorem pi_listK {tg l : Expr} {tl : TE} (hK : X.K = K) (hl : PE X l tl) : PI X tg l (iList K tl) := by subst hK; exact pi_list hl
theorem pi_zipK {e1 e2 : Expr} {ta : TA} {p pos tpos : Pos} {elts : List Expr} {k : Nat} (hK : X.K = K) (hg : Gl X "zip") (hm : X.mg "zip" = none) (ha : PA X [e1, e2] ta) (hs : starEach [e1, e2] X.env = [(false, eval e1 X.env), (false, eval e2 X.env)] := by rfl) (hs2 : starEach [e2] X.env = [(false, eval e2 X.env)] := by rfl) :
    PI X (.Tuple elts k tpos) (.Call (.Name "zip" p) [e1, e2] [] pos) (iZip K ta) := by subst hK; exact pi_zip hg hm ha hs hs2
theorem pi_enumK {e1 : Expr} {ta : TA} {p pos tpos : Pos} {elts : List Expr} {k : Nat} (hK : X.K = K) (hg : Gl X "enumerate") (hm : X.mg "enumerate" = none) (ha : PA X [e1] ta) (hs : starEach [e1] X.env = [(false, eval e1 X.env)] := by rfl) :
    PI X (.Tuple elts k tpos) (.Call (.Name "enumerate" p) [e1] [] pos) (iEnum K ta) := by subst hK; exact pi_enum hg hm ha hs
theorem get_listK (hK : X.K = K) : PGet X (fun o i H Q => ∃ (p : Addr) (xs : List V) (j : Nat) (v : V), o = .ref p ∧ i = .int j ∧ SqL K H p xs ∧ xs[j]? = some v ∧ Q v H) := by subst hK; exact get_list
def rEqK (K : PySem.W.Frag) (neg : Bool) : R2 := fun x y H Q => ∃ d e : PyData, HasD K H x d ∧ HasD K H y e ∧ d.canLay0 = true ∧ e.canLay0 = true ∧ d.depth ≤ 60 ∧
  Q (.bl (if neg then !PyData.eqv d e else PyData.eqv d e)) H
theorem op_eqK {k : Nat} (hK : X.K = K) (hr : Room k X.A) : OpR X (compareOp .Eq) (rEqK K false) := by
  subst hK
  intro pins s σ H x y v u Q I rx ry h
  obtain ⟨d, e, h1, h2, c1, c2, hu, q⟩ := h
  exact op_eqD pins s σ H x y v u Q I rx ry ⟨d, e, h1, h2, c1, c2, by have := hr.units; omega, q⟩
theorem op_neK {k : Nat} (hK : X.K = K) (hr : Room k X.A) : OpR X (compareOp .NotEq) (rEqK K true) := by
  subst hK
  intro pins s σ H x y v u Q I rx ry h
  obtain ⟨d, e, h1, h2, c1, c2, hu, q⟩ := h
  exact op_neD pins s σ H x y v u Q I rx ry ⟨d, e, h1, h2, c1, c2, by have := hr.units; omega, q⟩
end
end L2
namespace L2
open PySem PySem.Spec PyProof.Rows
structure Grow (K : PySem.W.Frag) (H : Hp) (l : Addr) (H2 : Hp) (vs : List V) (ds : List PyData) : Prop where
  n : H l = none
  S : Same H H2
  at_ : H2 l = some (.lst vs)
  d : NewDs K (upd H l (.lst [])) H2 vs ds
section
variable {K : PySem.W.Frag} {H H2 H3 : Hp} {l : Addr} {vs : List V} {ds : List PyData}
theorem Grow.start (n : H l = none) : Grow K H l (upd H l (.lst [])) [] [] := ⟨n, Same.upd n, upd_same, .nil⟩
theorem Grow.later (g : Grow K H l H2 vs ds) (S : Same H2 H3) : Grow K H l H3 vs ds := ⟨g.n, g.S.trans S, S _ _ g.at_, g.d.later S⟩
theorem Grow.young (g : Grow K H l H2 vs ds) {v : V} {d : PyData} (h : NewD K H2 H3 v d) : NewD K (upd H l (.lst [])) H3 v d :=
  NewD.go (fun a xs z q => ⟨by
    have ne : a ≠ l := fun e => by rw [e, g.at_] at z; cases z
    rw [upd_ne ne]
    exact g.S.free z, q⟩) (fun _ _ q => q) d h
theorem Grow.push (g : Grow K H l H2 vs ds) {v : V} {d : PyData} (S : Same H2 H3) (h : NewD K H2 H3 v d) : Grow K H l (upd H3 l (.lst (vs ++ [v]))) (vs ++ [v]) (ds ++ [d]) := by
  have at3 := S _ _ g.at_
  have nt : NoTup (H3 l) := by rw [at3]; exact noTup_lst
  have nl : upd H l (.lst []) l ≠ none := some_ne upd_same
  exact ⟨g.n, same_write (g.S.trans S) g.n, upd_same, ((g.d.later S).write nl nt).snoc ((g.young h).write nl nt)⟩
theorem Grow.new (g : Grow K H l H2 vs ds) : NewD K H H2 (.ref l) (.list ds) := .lst g.n g.at_ (g.d.wider (Same.upd g.n))
theorem Grow.has (g : Grow K H l H2 vs ds) : HasD K H2 (.ref l) (.list ds) := NewD.has _ g.new
theorem Grow.put (g : Grow K H l H2 vs ds) {vs' : List V} {ds' : List PyData} (h : NewDs K (upd H l (.lst [])) H2 vs' ds') : Grow K H l (upd H2 l (.lst vs')) vs' ds' := by
  have nt : NoTup (H2 l) := by rw [g.at_]; exact noTup_lst
  exact ⟨g.n, same_write g.S g.n, upd_same, h.write (some_ne upd_same) nt⟩
end
mutual
def flatD : PyData → Bool
  | .none => true
  | .bool _ => true
  | .int _ => true
  | .str _ => true
  | .list _ => false
  | .tuple ds => flatDs ds
  | .dict _ => false
def flatDs : List PyData → Bool
  | [] => true
  | d :: ds => flatD d && flatDs ds
end
mutual
theorem NewD.flat {K : PySem.W.Frag} {H J : Hp} : ∀ (d : PyData) {v : V}, flatD d = true → HasD K H v d → NewD K J H v d
  | .none, v, _, h => by rw [HasD] at h; rw [NewD]; exact h
  | .bool _, v, _, h => by rw [HasD] at h; rw [NewD]; exact h
  | .int _, v, _, h => by rw [HasD] at h; rw [NewD]; exact h
  | .str _, v, _, h => by rw [HasD] at h; rw [NewD]; exact h
  | .list ds, v, f, _ => by simp [flatD] at f
  | .tuple ds, v, f, h => by
    rw [flatD] at f
    rw [HasD] at h; rw [NewD]
    obtain ⟨a, xs, e, q, r⟩ := h
    exact ⟨a, xs, e, q, NewDs.flat ds f r⟩
  | .dict _, v, _, h => by rw [HasD] at h; exact h.elim
theorem NewDs.flat {K : PySem.W.Frag} {H J : Hp} : ∀ (ds : List PyData) {xs : List V}, flatDs ds = true → HasDs K H xs ds → NewDs K J H xs ds
  | [], xs, _, h => by rw [HasDs] at h; rw [NewDs]; exact h
  | d :: ds, xs, f, h => by
    rw [flatDs, Bool.and_eq_true] at f
    rw [HasDs] at h; rw [NewDs]
    obtain ⟨x, r, e, h1, h2⟩ := h
    exact ⟨x, r, e, NewD.flat d f.1 h1, NewDs.flat ds f.2 h2⟩
end
theorem flatDs_map {α : Type} (f : α → PyData) (h : ∀ x, flatD (f x) = true) : ∀ xs : List α, flatDs (xs.map f) = true
  | [] => by rw [List.map_nil, flatDs]
  | x :: xs => by rw [List.map_cons, flatDs, h x, flatDs_map f h xs]; rfl
section
variable {K : PySem.W.Frag} {H H2 H3 : Hp} {l : Addr} {vs : List V} {ds : List PyData}
end
def tyD : PyData → String
  | .none => "NoneType"
  | .bool _ => "bool"
  | .int _ => "int"
  | .str _ => "str"
  | .list _ => "list"
  | .tuple _ => "tuple"
  | .dict _ => "dict"
theorem call_isiD {X : Cx} {K : PySem.W.Frag} (hK : X.K = K) : CallR X (.builtin "isinstance") (fun xs H Q => ∃ x n d b, xs = [x, .ty n] ∧ HasD K H x d ∧ PySem.W.kitOne K (.type (tyD d)) (.type n) = some b ∧ Q (.bl b) H) := by
  subst hK
  intro pins s σ H xs us Q I r h
  obtain ⟨x, n, d, b, rfl, hd, e, q⟩ := h
  obtain ⟨u, u', rfl, rx, rc⟩ := vals2 r
  cases rc
  have fin : ∀ tk, EP X pins σ Q (.bool b) { s with toks := tk } := fun tk => ⟨.bl b, H, I.tok tk, rfl, q⟩
  cases d with
  | none =>
    cases hd.ofnon
    exact isinst_ok I rx .non e fin
  | bool y =>
    cases hd.ofbl
    exact isinst_ok I rx (.bl y) e fin
  | int y =>
    cases hd.ofint
    exact isinst_ok I rx (.int y) e fin
  | str y =>
    cases hd.ofstr
    exact isinst_ok I rx (.str y) e fin
  | list ds =>
    obtain ⟨a, ys, rfl, hq, _⟩ := hd.oflst
    cases rx
    obtain ⟨its, _, ⟨o, nn, h1, h2, _⟩, _⟩ := I.list hq
    exact PySem.W.kia_one PySem.W.kitx_list I.kIn ⟨o, h1, h2⟩ e (fun z => nomatch z) fin
  | tuple ds =>
    obtain ⟨a, ys, rfl, hq, _⟩ := hd.oftup
    cases rx
    obtain ⟨its, _, ⟨o, h1, h2, _⟩, _⟩ := I.tuple hq
    exact PySem.W.kia_one PySem.W.kitx_tuple I.kIn ⟨o, h1, h2⟩ e (fun z => nomatch z) fin
  | dict _ =>
    rw [HasD] at hd
    exact hd.elim
theorem atI_intsD {ns : List Int} {i : Int} (h0 : 0 ≤ i) (h1 : i < ns.length) : ∃ n, n ∈ ns ∧ atI (ns.map PyData.int) i = some (.int n) := by
  obtain ⟨j, rfl⟩ : ∃ j : Nat, i = (j : Int) := ⟨i.toNat, by omega⟩
  have hj : j < ns.length := by omega
  refine ⟨ns[j], List.getElem_mem hj, atI_nat ?_⟩
  rw [List.getElem?_map, List.getElem?_eq_getElem hj]
  rfl
end L2
namespace L2
open PySem PySem.Spec PyProof.Rows
section
variable {prog : Program} {w : World} {A : Around} {R : Result → Shared → Prop} {I : Addr} {fp wr : List Addr} {n : Nat} {Pv : Nat → Value → Prop} {St : Nat → Heap → Prop} {dv : Value}
end
section
variable {prog : Program} {w : World} {A : Around} {R : Result → Shared → Prop} {I : Addr} {fp wr : List Addr} {n : Nat} {Pv : Nat → Value → Prop} {St : Nat → Heap → Prop} {dv : Value}
end
end L2
namespace L2
open PySem PySem.Spec PyProof.Rows
end L2
namespace L2
open PySem PySem.Spec PyProof.Rows
section
variable {X : Cx} {k : Nat} {C : Addr} {ps : List Str} {sp : Sp} {x m : Str} {p pos apos : Pos} {e o : Expr} {es : List Expr} {ta : TE} {t : TA}
end
theorem cut_to {xs : List V} {r : Nat} (h : r ≤ xs.length) : cutV xs none (some (r : Int)) = xs.take r := by
  have e : HT.sIx xs.length xs.length (some (r : Int)) = r := by
    rw [HT.sIx_nat]
    omega
  have e0 : HT.sIx xs.length 0 none = 0 := rfl
  unfold cutV
  rw [e, e0]
  simp
theorem cut_from {xs : List V} {r : Nat} (h : r ≤ xs.length) : cutV xs (some (r : Int)) none = xs.drop r := by
  have e : HT.sIx xs.length 0 (some (r : Int)) = r := by
    rw [HT.sIx_nat]
    omega
  have e0 : HT.sIx xs.length xs.length none = xs.length := rfl
  unfold cutV
  rw [e, e0]
  exact List.take_of_length_le (by rw [List.length_drop]; exact Nat.le_refl _)
end L2
namespace Hw
open PySem L2
theorem lowI_rat (t : Int) {b : Int} (hb : b ≠ 0) : lowI t b = ((Rat.divInt t b).num, ((Rat.divInt t b).den : Int)) := by
  have hg : ∀ x y : Int, Int.gcd x y = Int.gcd y x := Int.gcd_comm
  unfold lowI
  by_cases h : b < 0
  · rw [if_pos h]
    unfold low
    rw [Rat.num_divInt, Rat.den_divInt, if_neg hb, gcd_negs, Int.sign_eq_neg_one_of_neg h, hg b t]
    refine Prod.ext ?_ ?_
    · show -t / _ = -1 * t / _
      rw [Int.neg_one_mul]
    · show -b / ((Int.gcd t b : Nat) : Int) = ((b.natAbs / Int.gcd t b : Nat) : Int)
      rw [Int.natCast_ediv]
      congr 1
      omega
  · rw [if_neg h]
    unfold low
    have h0 : 0 < b := by omega
    rw [Rat.num_divInt, Rat.den_divInt, if_neg hb, Int.sign_eq_one_of_pos h0, hg b t]
    refine Prod.ext ?_ ?_
    · show t / _ = 1 * t / _
      rw [Int.one_mul]
    · show b / ((Int.gcd t b : Nat) : Int) = ((b.natAbs / Int.gcd t b : Nat) : Int)
      rw [Int.natCast_ediv]
      congr 1
      omega
theorem low_rat (t : Int) {b : Int} (hb : 0 < b) : low t b = ((Rat.divInt t b).num, ((Rat.divInt t b).den : Int)) := by
  rw [← lowI_rat t (by omega), lowI, if_neg (by omega)]
theorem rat_add (q r : Rat) : Rat.divInt (q.num * r.den + r.num * q.den) (q.den * r.den) = q + r := by
  rw [Rat.add_def', ← Rat.divInt_ofNat]
  rfl
theorem rat_sub (q r : Rat) : Rat.divInt (q.num * r.den - r.num * q.den) (q.den * r.den) = q - r := by
  rw [Rat.sub_def', ← Rat.divInt_ofNat]
  rfl
theorem rat_mul (q r : Rat) : Rat.divInt (q.num * r.num) (q.den * r.den) = q * r := by
  rw [Rat.mul_def', ← Rat.divInt_ofNat]
  rfl
theorem rat_div (q r : Rat) : Rat.divInt (q.num * r.den) (q.den * r.num) = q / r := by
  have h : q / r = Rat.divInt q.num q.den * Rat.divInt r.den r.num := by
    rw [Rat.div_def, Rat.inv_def, Rat.num_divInt_den]
  rw [h, Rat.divInt_mul_divInt]
theorem den_pos (q : Rat) : (0 : Int) < q.den := by
  have := q.den_pos
  omega
theorem rat_lt (q r : Rat) : decide (q.num * r.den < r.num * q.den) = decide (q < r) := by
  rw [decide_eq_decide, Rat.lt_iff]
def RSz (n : Nat) (q : Rat) : Prop := Sz n q.num ∧ Sz n (q.den : Int)
theorem RSz.mono {m n : Nat} {q : Rat} (h : RSz m q) (e : m ≤ n) : RSz n q := ⟨h.1.mono e, h.2.mono e⟩
theorem RSz.of_div {n : Nat} {t b : Int} (hb : b ≠ 0) (h1 : Sz n t) (h2 : Sz n b) : RSz n (Rat.divInt t b) := by
  have e := lowI_rat t hb
  have e1 : (Rat.divInt t b).num = (lowI t b).1 := by rw [e]
  have e2 : ((Rat.divInt t b).den : Int) = (lowI t b).2 := by rw [e]
  refine ⟨?_, ?_⟩
  · rw [e1]
    refine h1.of_le ?_
    unfold lowI
    split
    · have := low_abs (-t) (-b)
      omega
    · exact low_abs t b
  · rw [e2]
    exact h2.of_le (lowI_le t hb)
theorem RSz.add {m n : Nat} {q r : Rat} (h : RSz m q) (h' : RSz n r) : RSz (m + n + 1) (q + r) := by
  rw [← rat_add]
  refine .of_div (by have := den_pos q; have := den_pos r; exact Int.ne_of_gt (Int.mul_pos (den_pos q) (den_pos r))) ?_ ((h.2.mul h'.2).mono (by omega))
  exact (h.1.mul h'.2).add ((h'.1.mul h.2).mono (by omega))
theorem RSz.sub {m n : Nat} {q r : Rat} (h : RSz m q) (h' : RSz n r) : RSz (m + n + 1) (q - r) := by
  rw [← rat_sub]
  refine .of_div (Int.ne_of_gt (Int.mul_pos (den_pos q) (den_pos r))) ?_ ((h.2.mul h'.2).mono (by omega))
  exact (h.1.mul h'.2).sub ((h'.1.mul h.2).mono (by omega))
theorem RSz.mul {m n : Nat} {q r : Rat} (h : RSz m q) (h' : RSz n r) : RSz (m + n) (q * r) := by
  rw [← rat_mul]
  exact .of_div (Int.ne_of_gt (Int.mul_pos (den_pos q) (den_pos r))) (h.1.mul h'.1) (h.2.mul h'.2)
theorem RSz.div {m n : Nat} {q r : Rat} (h : RSz m q) (h' : RSz n r) (hr : r ≠ 0) : RSz (m + n) (q / r) := by
  rw [← rat_div]
  exact .of_div (Int.mul_ne_zero (Int.ne_of_gt (den_pos q)) (fun z => hr (Rat.num_eq_zero.mp z))) (h.1.mul h'.2) (h.2.mul h'.1)
theorem RSz.int {n : Nat} {i : Int} (h : Sz n i) (h1 : 0 < n := by omega) : RSz n (i : Rat) := ⟨h, by
  show ((1 : Nat) : Int).natAbs < 2 ^ n
  exact Nat.lt_of_lt_of_le (by decide : 1 < 2 ^ 1) (Nat.pow_le_pow_right (by decide) h1)⟩
theorem RSz.zero {n : Nat} (h1 : 0 < n := by omega) : RSz n 0 := RSz.int (i := 0) (show (0 : Int).natAbs < 2 ^ n by simp; exact Nat.two_pow_pos n) h1
theorem RSz.neg {n : Nat} {q : Rat} (h : RSz n q) : RSz n (-q) := ⟨by rw [Rat.neg_num]; exact h.1.neg, by rw [Rat.neg_den]; exact h.2⟩
def frD (q : Rat) : PyData := .tuple [.int q.num, .int q.den]
def intsD (ns : List Int) : PyData := .list (ns.map .int)
def tblD (t : List (List Int)) : PyData := .list (t.map intsD)
def frsD (qs : List Rat) : PyData := .list (qs.map frD)
def pairD (p : Int × Int) : PyData := .tuple [.int p.1, .int p.2]
def pairsD (ps : List (Int × Int)) : PyData := .list (ps.map pairD)
def ropesD (rs : List (List (Int × Int))) : PyData := .list (rs.map pairsD)
section
variable {K : PySem.W.Frag} {H H' : Hp} {v : V} {q : Rat}
theorem has_fr (h : HasD K H v (frD q)) : ∃ p, v = .ref p ∧ SqT K H p [.int q.num, .int q.den] := by
  obtain ⟨a, xs, rfl, hq, hd⟩ := h.oftup
  rw [HasDs.ints (ns := [q.num, (q.den : Int)]) |>.mp hd] at hq
  exact ⟨a, rfl, hq⟩
theorem fr_has {p : Addr} (h : SqT K H p [.int q.num, .int q.den]) : HasD K H (.ref p) (frD q) := .tup h (HasDs.ints (ns := [q.num, (q.den : Int)]) |>.mpr rfl)
theorem fr_new {p : Addr} (h : SqT K H' p [.int q.num, .int q.den]) : NewD K H H' (.ref p) (frD q) := .tup h (NewDs.ints (ns := [q.num, (q.den : Int)]) |>.mpr rfl)
theorem has_ints {ns : List Int} (h : HasD K H v (intsD ns)) : ∃ a, v = .ref a ∧ SqL K H a (ns.map V.int) := by
  obtain ⟨a, xs, rfl, hq, hd⟩ := h.oflst
  rw [HasDs.ints.mp hd] at hq
  exact ⟨a, rfl, hq⟩
theorem ints_has {a : Addr} {ns : List Int} (h : SqL K H a (ns.map V.int)) : HasD K H (.ref a) (intsD ns) := .lst h (HasDs.ints.mpr rfl)
theorem new_ints {ns : List Int} (h : NewD K H H' v (intsD ns)) : ∃ a, v = .ref a ∧ H a = none ∧ H' a = some (.lst (ns.map V.int)) := by
  obtain ⟨a, xs, rfl, n, hq, hd⟩ := h.oflst
  rw [NewDs.ints.mp hd] at hq
  exact ⟨a, rfl, n, hq⟩
theorem ints_new {a : Addr} {ns : List Int} (n : H a = none) (h : H' a = some (.lst (ns.map V.int))) : NewD K H H' (.ref a) (intsD ns) := .lst n h (NewDs.ints.mpr rfl)
theorem has_pair {p : Int × Int} (h : HasD K H v (pairD p)) : ∃ a, v = .ref a ∧ SqT K H a [.int p.1, .int p.2] := by
  obtain ⟨a, xs, rfl, hq, hd⟩ := h.oftup
  rw [HasDs.ints (ns := [p.1, p.2]) |>.mp hd] at hq
  exact ⟨a, rfl, hq⟩
theorem pair_new {p : Int × Int} {a : Addr} (h : SqT K H' a [.int p.1, .int p.2]) : NewD K H H' (.ref a) (pairD p) := .tup h (NewDs.ints (ns := [p.1, p.2]) |>.mpr rfl)
end
mutual
def plainD : PyData → Bool
  | .none => true
  | .bool _ => false
  | .int _ => true
  | .str _ => true
  | .list ds => plainDs ds
  | .tuple ds => plainDs ds
  | .dict _ => false
def plainDs : List PyData → Bool
  | [] => true
  | d :: ds => plainD d && plainDs ds
end
mutual
theorem eqv_iff : ∀ (d e : PyData), plainD d = true → plainD e = true → (PyData.eqv d e = true ↔ d = e)
  | .none, e, _, he => by cases e <;> simp_all [PyData.eqv, plainD]
  | .int i, e, _, he => by cases e <;> simp_all [PyData.eqv, plainD]
  | .str x, e, _, he => by cases e <;> simp_all [PyData.eqv, plainD]
  | .list ds, e, hd, he => by
    cases e with
    | list es =>
      rw [plainD] at hd he
      rw [PyData.eqv, eqvAll_iff ds es hd he]
      simp
    | _ => simp_all [PyData.eqv, plainD]
  | .tuple ds, e, hd, he => by
    cases e with
    | tuple es =>
      rw [plainD] at hd he
      rw [PyData.eqv, eqvAll_iff ds es hd he]
      simp
    | _ => simp_all [PyData.eqv, plainD]
  | .bool _, e, hd, _ => by simp [plainD] at hd
  | .dict _, e, hd, _ => by simp [plainD] at hd
theorem eqvAll_iff : ∀ (ds es : List PyData), plainDs ds = true → plainDs es = true → (PyData.eqvAll ds es = true ↔ ds = es)
  | [], [], _, _ => by simp [PyData.eqvAll]
  | [], e :: es, _, _ => by simp [PyData.eqvAll]
  | d :: ds, [], _, _ => by simp [PyData.eqvAll]
  | d :: ds, e :: es, hd, he => by
    rw [plainDs, Bool.and_eq_true] at hd he
    rw [PyData.eqvAll, Bool.and_eq_true, eqv_iff d e hd.1 he.1, eqvAll_iff ds es hd.2 he.2]
    simp
end
theorem plainDs_map {α : Type} (f : α → PyData) (h : ∀ x, plainD (f x) = true) : ∀ xs : List α, plainDs (xs.map f) = true
  | [] => by rw [List.map_nil, plainDs]
  | x :: xs => by rw [List.map_cons, plainDs, h x, plainDs_map f h xs]; rfl
theorem plain_int (n : Int) : plainD (.int n) = true := by rw [plainD]
theorem plain_fr (q : Rat) : plainD (frD q) = true := by simp [frD, plainD, plainDs]
theorem plain_ints (ns : List Int) : plainD (intsD ns) = true := by rw [intsD, plainD]; exact plainDs_map _ plain_int ns
theorem frD_inj {q r : Rat} : frD q = frD r ↔ q = r := by
  constructor
  · intro h
    unfold frD at h
    injection h with h
    injection h with h1 h
    injection h with h2 h
    injection h1 with h1
    injection h2 with h2
    exact Rat.ext h1 (by omega)
  · rintro rfl
    rfl
theorem canLay_map {α : Type} (f : α → PyData) (h : ∀ x, (f x).canLay0 = true) : ∀ xs : List α, PyData.canLayAll0 (xs.map f) = true
  | [] => rfl
  | x :: xs => by
    rw [List.map_cons, PyData.canLayAll0, h x, canLay_map f h xs]
    rfl
theorem depth_map {α : Type} (f : α → PyData) (n : Nat) (h : ∀ x, (f x).depth ≤ n) : ∀ xs : List α, PyData.depthAll (xs.map f) ≤ n
  | [] => by simp [PyData.depthAll]
  | x :: xs => by
    rw [List.map_cons, PyData.depthAll]
    have := h x
    have := depth_map f n h xs
    omega
structure Lays (n : Nat) (d : PyData) : Prop where
  lay : d.canLay0 = true
  dep : d.depth ≤ n
theorem lays_int (i : Int) : Lays 1 (.int i) := ⟨rfl, by simp [PyData.depth]⟩
theorem lays_fr (q : Rat) : Lays 3 (frD q) := ⟨rfl, by simp [frD, PyData.depth, PyData.depthAll]⟩
theorem lays_list {α : Type} {f : α → PyData} {n : Nat} (h : ∀ x, Lays n (f x)) (xs : List α) : Lays (n + 1) (.list (xs.map f)) := ⟨by
    rw [PyData.canLay0]
    exact canLay_map f (fun x => (h x).lay) xs, by
    have := depth_map f n (fun x => (h x).dep) xs
    simp only [PyData.depth]
    omega⟩
theorem lays_ints (ns : List Int) : Lays 2 (intsD ns) := lays_list lays_int ns
theorem ne_no {d e : PyData} (h : PyData.eqv d e = true) : ¬ ((if true = true then !PyData.eqv d e else PyData.eqv d e) = true) := by simp [h]
theorem eq_yes {d e : PyData} (h : PyData.eqv d e = true) : (if false = true then !PyData.eqv d e else PyData.eqv d e) = true := by simp [h]
theorem eq_no {d e : PyData} (h : PyData.eqv d e = false) : ¬ ((if false = true then !PyData.eqv d e else PyData.eqv d e) = true) := by simp [h]
theorem eqv_self {d : PyData} (h : plainD d = true) : PyData.eqv d d = true := (eqv_iff d d h h).mpr rfl
theorem eqv_not {d e : PyData} (hd : plainD d = true) (he : plainD e = true) (h : d ≠ e) : PyData.eqv d e = false := by
  rw [Bool.eq_false_iff]
  exact fun z => h ((eqv_iff d e hd he).mp z)
end Hw
namespace Hw
open PySem L2
def dot : List Int → List Rat → Rat
  | n :: ns, q :: qs => (n : Rat) * q + dot ns qs
  | _, _ => 0
theorem dot_snoc : ∀ (ns : List Int) (qs : List Rat) (n : Int) (q : Rat), ns.length = qs.length → dot (ns ++ [n]) (qs ++ [q]) = dot ns qs + (n : Rat) * q
  | [], [], n, q, _ => by
    show (n : Rat) * q + 0 = 0 + (n : Rat) * q
    rw [Rat.add_comm]
  | [], q' :: qs, n, q, h => by simp at h
  | n' :: ns, [], n, q, h => by simp at h
  | n' :: ns, q' :: qs, n, q, h => by
    show (n' : Rat) * q' + dot (ns ++ [n]) (qs ++ [q]) = (n' : Rat) * q' + dot ns qs + (n : Rat) * q
    rw [dot_snoc ns qs n q (by simpa using h), Rat.add_assoc]
theorem dot_take {ns : List Int} {qs : List Rat} {i : Nat} {n : Int} {q : Rat} (hl : ns.length = qs.length) (h1 : ns[i]? = some n) (h2 : qs[i]? = some q) : dot (ns.take (i + 1)) (qs.take (i + 1)) = dot (ns.take i) (qs.take i) + (n : Rat) * q := by
  obtain ⟨hi, e1⟩ := List.getElem?_eq_some_iff.mp h1
  obtain ⟨hj, e2⟩ := List.getElem?_eq_some_iff.mp h2
  rw [List.take_succ_eq_append_getElem hi, List.take_succ_eq_append_getElem hj, e1, e2]
  exact dot_snoc _ _ _ _ (by rw [List.length_take, List.length_take, hl])
theorem RSz.dot {m : Nat} : ∀ (ns : List Int) (qs : List Rat), (∀ n ∈ ns, Sz 12 n) → (∀ q ∈ qs, RSz m q) → RSz (ns.length * (m + 13) + 1) (dot ns qs)
  | [], _, _, _ => by
    show RSz _ 0
    exact .zero
  | n :: ns, [], _, _ => by
    show RSz _ 0
    exact .zero
  | n :: ns, q :: qs, h1, h2 => by
    show RSz _ ((n : Rat) * q + Hw.dot ns qs)
    have a := (RSz.int (h1 n List.mem_cons_self)).mul (h2 q List.mem_cons_self)
    have b := RSz.dot ns qs (fun x hx => h1 x (List.mem_cons_of_mem _ hx)) (fun x hx => h2 x (List.mem_cons_of_mem _ hx))
    refine (a.add b).mono ?_
    rw [List.length_cons, Nat.succ_mul]
    omega
end Hw
namespace Hw
open PySem L2
def sumN : Nat → (Nat → Rat) → Rat
  | 0, _ => 0
  | n + 1, f => sumN n f + f n
theorem sumN_congr {n : Nat} {f g : Nat → Rat} (h : ∀ i, i < n → f i = g i) : sumN n f = sumN n g := by
  induction n with
  | zero => rfl
  | succ n ih => rw [sumN, sumN, ih fun i hi => h i (by omega), h n (by omega)]
theorem sumN_zero (n : Nat) : sumN n (fun _ => 0) = 0 := by
  induction n with
  | zero => rfl
  | succ n ih => rw [sumN, ih]; grind
theorem sumN_add (n : Nat) (f g : Nat → Rat) : sumN n (fun i => f i + g i) = sumN n f + sumN n g := by
  induction n with
  | zero => rw [sumN, sumN, sumN]; grind
  | succ n ih => rw [sumN, sumN, sumN, ih]; grind
theorem sumN_sub (n : Nat) (f g : Nat → Rat) : sumN n (fun i => f i - g i) = sumN n f - sumN n g := by
  induction n with
  | zero => rw [sumN, sumN, sumN]; grind
  | succ n ih => rw [sumN, sumN, sumN, ih]; grind
theorem sumN_mul (n : Nat) (c : Rat) (f : Nat → Rat) : sumN n (fun i => c * f i) = c * sumN n f := by
  induction n with
  | zero => rw [sumN, sumN, Rat.mul_zero]
  | succ n ih => rw [sumN, sumN, ih]; grind
theorem sumN_mul' (n : Nat) (c : Rat) (f : Nat → Rat) : sumN n (fun i => f i * c) = sumN n f * c := by
  induction n with
  | zero => rw [sumN, sumN, Rat.zero_mul]
  | succ n ih => rw [sumN, sumN, ih]; grind
theorem sumN_comm (n m : Nat) (f : Nat → Nat → Rat) : sumN n (fun i => sumN m fun j => f i j) = sumN m (fun j => sumN n fun i => f i j) := by
  induction n with
  | zero =>
    rw [sumN]
    exact (sumN_zero m).symm
  | succ n ih =>
    rw [sumN, ih, ← sumN_add]
    exact sumN_congr fun j _ => by rw [sumN]
theorem sumN_nonneg {n : Nat} {f : Nat → Rat} (h : ∀ i, i < n → 0 ≤ f i) : 0 ≤ sumN n f := by
  induction n with
  | zero => exact Rat.le_refl
  | succ n ih =>
    rw [sumN]
    exact Rat.add_nonneg (ih fun i hi => h i (by omega)) (h n (by omega))
theorem RSz.sumN {m : Nat} : ∀ (n : Nat) (f : Nat → Rat), (∀ i, i < n → RSz m (f i)) → RSz (n * (m + 1) + 1) (sumN n f)
  | 0, _, _ => .zero
  | n + 1, f, h => by
    have a := RSz.sumN n f fun i hi => h i (by omega)
    have b := h n (by omega)
    refine (a.add b).mono ?_
    rw [Nat.succ_mul]
    omega
theorem getD_of {α : Type} {xs : List α} {i : Nat} {x d : α} (h : xs[i]? = some x) : xs.getD i d = x := by rw [List.getD_eq_getElem?_getD, h]; rfl
theorem dot_sumN {ns : List Int} {qs : List Rat} (hl : ns.length = qs.length) : dot ns qs = sumN ns.length fun i => ((ns.getD i 0 : Int) : Rat) * qs.getD i 0 := by
  have key : ∀ k, k ≤ ns.length → dot (ns.take k) (qs.take k) = sumN k fun i => ((ns.getD i 0 : Int) : Rat) * qs.getD i 0 := by
    intro k
    induction k with
    | zero => intro _; rfl
    | succ k ih =>
      intro hk
      have h1 : ns[k]? = some ns[k] := List.getElem?_eq_getElem (by omega)
      have h2 : qs[k]? = some (qs[k]'(by omega)) := List.getElem?_eq_getElem (by omega)
      rw [dot_take hl h1 h2, ih (by omega), sumN, getD_of h1, getD_of h2]
  have h := key ns.length (Nat.le_refl _)
  rw [List.take_length, hl, List.take_length, ← hl] at h
  exact h
end Hw
namespace Hw
open PySem L2
def sumX (m r : Nat) (f : Nat → Rat) : Rat := sumN m fun i => if i = r then 0 else f i
theorem sumX_congr {m r : Nat} {f g : Nat → Rat} (h : ∀ i, i < m → i ≠ r → f i = g i) : sumX m r f = sumX m r g :=
  sumN_congr fun i hi => by
    by_cases e : i = r
    · rw [if_pos e, if_pos e]
    · rw [if_neg e, if_neg e, h i hi e]
theorem sumN_off {m r : Nat} (h : m ≤ r) (f : Nat → Rat) : sumX m r f = sumN m f := sumN_congr fun i hi => by rw [if_neg (by omega)]
theorem sumN_at {m r : Nat} (h : r < m) (f : Nat → Rat) : sumN m f = f r + sumX m r f := by
  induction m with
  | zero => omega
  | succ m ih =>
    unfold sumX
    rw [sumN, sumN]
    by_cases e : m = r
    · subst e
      rw [if_pos rfl]
      have := sumN_off (Nat.le_refl m) f
      unfold sumX at this
      rw [this]
      grind
    · rw [if_neg e, ih (by omega)]
      unfold sumX
      grind
theorem sumX_sub (m r : Nat) (f g : Nat → Rat) : sumX m r (fun i => f i - g i) = sumX m r f - sumX m r g := by
  unfold sumX
  rw [← sumN_sub]
  exact sumN_congr fun i _ => by
    by_cases e : i = r
    · rw [if_pos e, if_pos e, if_pos e]; grind
    · rw [if_neg e, if_neg e, if_neg e]
theorem sumX_mul' (m r : Nat) (q : Rat) (f : Nat → Rat) : sumX m r (fun i => f i * q) = sumX m r f * q := by
  unfold sumX
  rw [← sumN_mul']
  exact sumN_congr fun i _ => by
    by_cases e : i = r
    · rw [if_pos e, if_pos e]; grind
    · rw [if_neg e, if_neg e]
theorem sumN_one {m r : Nat} (h : r < m) (f : Nat → Rat) (h0 : ∀ i, i < m → i ≠ r → f i = 0) : sumN m f = f r := by
  rw [sumN_at h, sumX_congr (g := fun _ => 0) h0]
  unfold sumX
  rw [sumN_congr (g := fun _ => 0) fun i _ => by split <;> rfl, sumN_zero]
  grind
theorem sumN_pos {n : Nat} {f : Nat → Rat} (h : 0 < sumN n f) : ∃ i, i < n ∧ 0 < f i := by
  induction n with
  | zero => exact absurd h (by unfold sumN; grind)
  | succ n ih =>
    rw [sumN] at h
    by_cases q : 0 < f n
    · exact ⟨n, by omega, q⟩
    · obtain ⟨i, hi, h⟩ := ih (by grind)
      exact ⟨i, by omega, h⟩
theorem sumN_zero_each {n : Nat} {f : Nat → Rat} (h : ∀ i, i < n → 0 ≤ f i) (e : sumN n f = 0) : ∀ i, i < n → f i = 0 := by
  intro i hi
  rw [sumN_at hi] at e
  have a := h i hi
  have b : 0 ≤ sumX n i f := sumN_nonneg fun j hj => by
    split
    · exact Rat.le_refl
    · exact h j hj
  grind
theorem div_nn {a b : Rat} (ha : 0 ≤ a) (hb : 0 < b) : 0 ≤ a / b := by
  rw [Rat.div_def]
  exact Rat.mul_nonneg ha (Rat.le_of_lt (Rat.inv_pos.mpr hb))
structure Tb where
  T : Nat → Nat → Rat
  z : Nat → Rat
  b : Nat → Nat
def Tb.piv (S : Tb) (r c : Nat) : Tb where
  T := fun i j => if i = r then S.T r j / S.T r c else S.T i j - S.T i c * (S.T r j / S.T r c)
  z := fun j => S.z j - S.z c * (S.T r j / S.T r c)
  b := fun i => if i = r then c else S.b i
structure Rws (m N : Nat) (A : Nat → Nat → Rat) (S : Tb) : Prop where
  bas : ∀ i, i < m → S.b i < N
  col : ∀ k j, k < m → j ≤ N → A k j = sumN m fun i => A k (S.b i) * S.T i j
  unit : ∀ i k, i < m → k < m → S.T i (S.b k) = if i = k then 1 else 0
  row : ∀ i j, i < m → j ≤ N → S.T i j = sumN m fun k => S.T i (N - m + k) * A k j
structure Way (m N : Nat) (A : Nat → Nat → Rat) (e : Nat → Rat) (mu : Nat → Rat) (z : Nat → Rat) : Prop where
  is : ∀ j, j ≤ N → z j = e j + sumN m fun k => mu k * A k j
section
variable {m N : Nat} {A : Nat → Nat → Rat} {S : Tb} {e mu : Nat → Rat}
theorem Rws.inj (R : Rws m N A S) {i k : Nat} (hi : i < m) (hk : k < m) (e : S.b i = S.b k) : i = k := by
  have h1 := R.unit i i hi hi
  have h2 := R.unit i k hi hk
  rw [e, h2, if_pos rfl] at h1
  by_cases q : i = k
  · exact q
  · rw [if_neg q] at h1
    exact absurd h1 (by decide)
theorem Rws.piv (R : Rws m N A S) {r c : Nat} (hr : r < m) (hc : c < N) (hp : S.T r c ≠ 0) : Rws m N A (S.piv r c) where
  bas := fun i hi => by
    show (if i = r then c else S.b i) < N
    split
    · exact hc
    · exact R.bas i hi
  col := fun k j hk hj => by
    have h1 := R.col k j hk hj
    have h2 := R.col k c hk (by omega)
    rw [sumN_at hr] at h1 h2 ⊢
    have e1 : sumX m r (fun i => A k ((S.piv r c).b i) * (S.piv r c).T i j) = sumX m r (fun i => A k (S.b i) * S.T i j) - sumX m r (fun i => A k (S.b i) * S.T i c) * (S.T r j / S.T r c) := by
      rw [← sumX_mul', ← sumX_sub]
      refine sumX_congr fun i _ ne => ?_
      show A k (if i = r then c else S.b i) * (if i = r then _ else _) = _
      rw [if_neg ne, if_neg ne]
      grind
    rw [e1]
    show _ = A k (if r = r then c else S.b r) * (if r = r then S.T r j / S.T r c else _) + _
    rw [if_pos rfl, if_pos rfl]
    grind
  unit := fun i k hi hk => by
    show (if i = r then S.T r (if k = r then c else S.b k) / S.T r c else S.T i (if k = r then c else S.b k) - S.T i c * (S.T r (if k = r then c else S.b k) / S.T r c)) = _
    by_cases e1 : k = r
    · subst e1
      rw [if_pos rfl]
      by_cases e2 : i = k
      · rw [if_pos e2, if_pos e2]
        grind
      · rw [if_neg e2, if_neg e2]
        grind
    · rw [if_neg e1]
      have h1 := R.unit r k hr hk
      rw [if_neg (fun z => e1 z.symm)] at h1
      have h2 := R.unit i k hi hk
      rw [h1, h2]
      by_cases e2 : i = r
      · subst e2
        rw [if_pos rfl, if_neg (fun z => e1 z.symm)]
        grind
      · rw [if_neg e2]
        grind
  row := fun i j hi hj => by
    have h1 := R.row i j hi hj
    have h2 := R.row r j hr hj
    show (if i = r then S.T r j / S.T r c else S.T i j - S.T i c * (S.T r j / S.T r c)) = sumN m fun k => (if i = r then S.T r (N - m + k) / S.T r c else S.T i (N - m + k) - S.T i c * (S.T r (N - m + k) / S.T r c)) * A k j
    by_cases e2 : i = r
    · rw [if_pos e2, sumN_congr (g := fun k => (1 / S.T r c) * (S.T r (N - m + k) * A k j)) fun k _ => by rw [if_pos e2]; grind, sumN_mul, ← h2]
      grind
    · rw [if_neg e2, sumN_congr (g := fun k => S.T i (N - m + k) * A k j - (S.T i c / S.T r c) * (S.T r (N - m + k) * A k j)) fun k _ => by rw [if_neg e2]; grind, sumN_sub, sumN_mul, ← h2, ← h1]
      grind
theorem Way.dual {z : Nat → Rat} (R : Rws m N A S) (W : Way m N A e mu z) {j : Nat} (hj : j ≤ N) : z j - (sumN m fun i => z (S.b i) * S.T i j) = e j - sumN m fun i => e (S.b i) * S.T i j := by
  have h1 := W.is j hj
  have h2 : (sumN m fun i => z (S.b i) * S.T i j) = (sumN m fun i => e (S.b i) * S.T i j) + sumN m fun k => mu k * A k j := by
    have : (sumN m fun k => mu k * A k j) = sumN m fun i => (sumN m fun k => mu k * A k (S.b i)) * S.T i j := by
      rw [sumN_congr (g := fun k => sumN m fun i => mu k * (A k (S.b i) * S.T i j)) fun k hk => by rw [R.col k j hk hj, sumN_mul]]
      rw [sumN_comm]
      refine sumN_congr fun i _ => ?_
      rw [← sumN_mul']
      exact sumN_congr fun k _ => by grind
    rw [this, ← sumN_add]
    refine sumN_congr fun i hi => ?_
    rw [W.is (S.b i) (by have := R.bas i hi; omega)]
    grind
  rw [h2, h1]
  grind
theorem Way.piv {r c : Nat} (R : Rws m N A S) (hr : r < m) (W : Way m N A e (fun k => S.z (N - m + k)) S.z) : Way m N A e (fun k => (S.piv r c).z (N - m + k)) (S.piv r c).z where
  is := fun j hj => by
    show S.z j - S.z c * (S.T r j / S.T r c) = e j + sumN m fun k => (S.z (N - m + k) - S.z c * (S.T r (N - m + k) / S.T r c)) * A k j
    have h1 := W.is j hj
    have h2 := R.row r j hr hj
    have : (sumN m fun k => (S.z (N - m + k) - S.z c * (S.T r (N - m + k) / S.T r c)) * A k j) = (sumN m fun k => S.z (N - m + k) * A k j) - (S.z c / S.T r c) * sumN m fun k => S.T r (N - m + k) * A k j := by
      rw [← sumN_mul, ← sumN_sub]
      exact sumN_congr fun k _ => by grind
    rw [this, ← h2, h1]
    grind
end
structure Good (m n : Nat) (A : Nat → Nat → Rat) (e : Nat → Rat) (q : Rat) (S : Tb) : Prop extends Rws m (n + m) A S where
  wy : Way m (n + m) A e (fun k => S.z (n + k)) S.z
  at0 : ∀ i, i < m → S.z (S.b i) = if n ≤ S.b i then - q else 0
  fea : ∀ i, i < m → 0 ≤ S.T i (n + m)
structure Turn (m n : Nat) (S : Tb) (r c : Nat) : Prop where
  hc : c < n
  neg : S.z c < 0
  fst : ∀ j, j < c → 0 ≤ S.z j
  hr : r < m
  pos : 0 < S.T r c
  low : ∀ i, i < m → 0 < S.T i c → S.T r (n + m) / S.T r c < S.T i (n + m) / S.T i c ∨ (S.T r (n + m) / S.T r c = S.T i (n + m) / S.T i c ∧ S.b r ≤ S.b i)
section
variable {m n : Nat} {A : Nat → Nat → Rat} {e : Nat → Rat} {q : Rat} {S S' : Tb} {r c : Nat}
theorem Good.piv (G : Good m n A e q S) (hr : r < m) (hc : c < n) (hp : S.T r c ≠ 0) (hf : ∀ i, i < m → 0 ≤ (S.piv r c).T i (n + m)) : Good m n A e q (S.piv r c) where
  toRws := G.toRws.piv hr (by omega) hp
  wy := by
    have w : Way m (n + m) A e (fun k => S.z (n + m - m + k)) S.z := by rw [Nat.add_sub_cancel]; exact G.wy
    have := Way.piv (c := c) G.toRws hr w
    rw [Nat.add_sub_cancel] at this
    exact this
  at0 := fun i hi => by
    show S.z (if i = r then c else S.b i) - S.z c * (S.T r (if i = r then c else S.b i) / S.T r c) = if n ≤ (if i = r then c else S.b i) then - q else 0
    by_cases e2 : i = r
    · rw [if_pos e2, if_neg (by omega)]
      grind
    · rw [if_neg e2, G.unit r i hr hi, if_neg (fun z => e2 z.symm), G.at0 i hi]
      grind
  fea := hf
theorem Good.turn (G : Good m n A e q S) (t : Turn m n S r c) : Good m n A e q (S.piv r c) := by
  have hp : S.T r c ≠ 0 := by
    have := t.pos
    grind
  refine G.piv t.hr t.hc hp fun i hi => ?_
  show 0 ≤ if i = r then S.T r (n + m) / S.T r c else S.T i (n + m) - S.T i c * (S.T r (n + m) / S.T r c)
  have h0 : 0 ≤ S.T r (n + m) / S.T r c := div_nn (G.fea r t.hr) t.pos
  by_cases e2 : i = r
  · rw [if_pos e2]
    exact h0
  · rw [if_neg e2]
    by_cases h : 0 < S.T i c
    · have h1 : S.T r (n + m) / S.T r c ≤ S.T i (n + m) / S.T i c := by
        rcases t.low i hi h with z | z
        · exact Rat.le_of_lt z
        · rw [z.1]
          exact Rat.le_refl
      have h2 := Rat.mul_le_mul_of_nonneg_left h1 (Rat.le_of_lt h)
      have h3 : S.T i c * (S.T i (n + m) / S.T i c) = S.T i (n + m) := by grind
      grind
    · have h1 : 0 ≤ - S.T i c * (S.T r (n + m) / S.T r c) := Rat.mul_nonneg (by grind) h0
      have := G.fea i hi
      grind
theorem Good.freed (G : Good m n A e q S) (hq : 0 ≤ q) (he : ∀ j, j < n + m → 0 ≤ e j) (hc : c < n) (h : S.z c < 0) : ∃ i, i < m ∧ 0 < S.T i c := by
  have d := G.wy.dual G.toRws (j := c) (by omega)
  have h1 : 0 < sumN m fun i => (e (S.b i) - S.z (S.b i)) * S.T i c := by
    rw [sumN_congr (g := fun i => e (S.b i) * S.T i c - S.z (S.b i) * S.T i c) fun i _ => by grind, sumN_sub]
    have := he c (by omega)
    grind
  obtain ⟨i, hi, h2⟩ := sumN_pos h1
  refine ⟨i, hi, ?_⟩
  have h3 : 0 ≤ e (S.b i) - S.z (S.b i) := by
    have a := he _ (G.bas i hi)
    rw [G.at0 i hi]
    split <;> grind
  by_cases z : 0 < S.T i c
  · exact z
  · have : 0 ≤ (e (S.b i) - S.z (S.b i)) * - S.T i c := Rat.mul_nonneg h3 (by grind)
    grind
def inB (m : Nat) (S : Tb) (j : Nat) : Prop := ∃ i, i < m ∧ S.b i = j
theorem Good.sameZ (G : Good m n A e q S) (G' : Good m n A e q S') (h : ∀ j, inB m S j → inB m S' j) : S.z (n + m) = S'.z (n + m) := by
  have d1 := G.wy.dual G.toRws (j := n + m) (by omega)
  have d2 := G'.wy.dual G.toRws (j := n + m) (by omega)
  have : (sumN m fun i => S'.z (S.b i) * S.T i (n + m)) = sumN m fun i => S.z (S.b i) * S.T i (n + m) := sumN_congr fun i hi => by
    obtain ⟨k, hk, ek⟩ := h (S.b i) ⟨i, hi, rfl⟩
    have := G'.at0 k hk
    rw [ek] at this
    rw [this, G.at0 i hi]
  grind
theorem Turn.new (G : Good m n A e q S) (t : Turn m n S r c) : ¬ inB m S c := fun ⟨i, hi, h⟩ => by
  have := G.at0 i hi
  rw [h, if_neg (by have := t.hc; omega)] at this
  have := t.neg
  grind
theorem piv_in (hr : r < m) {j : Nat} (h : inB m (S.piv r c) j) : j = c ∨ inB m S j := by
  obtain ⟨i, hi, h⟩ := h
  change (if i = r then c else S.b i) = j at h
  split at h
  · exact .inl h.symm
  · exact .inr ⟨i, hi, h⟩
theorem piv_out (hr : r < m) {j : Nat} (h : inB m S j) (h' : ¬ inB m (S.piv r c) j) : j = S.b r := by
  obtain ⟨i, hi, h⟩ := h
  by_cases e2 : i = r
  · rw [← h, e2]
  · exact (h' ⟨i, hi, by show (if i = r then c else S.b i) = j; rw [if_neg e2]; exact h⟩).elim
theorem piv_has (hr : r < m) : inB m (S.piv r c) c := ⟨r, hr, by show (if r = r then c else S.b r) = c; rw [if_pos rfl]⟩
end
theorem falls {P : Nat → Prop} {a b : Nat} (ha : P a) (hb : ¬ P b) (h : a ≤ b) : ∃ k, a ≤ k ∧ k < b ∧ P k ∧ ¬ P (k + 1) := by
  induction b with
  | zero => exact (hb (by rw [show a = 0 by omega] at ha; exact ha)).elim
  | succ b ih =>
    by_cases z : P b
    · by_cases hab : a = b + 1
      · subst hab
        exact (hb ha).elim
      · exact ⟨b, by omega, by omega, z, hb⟩
    · by_cases hab : a = b + 1
      · subst hab
        exact (hb ha).elim
      · obtain ⟨k, h1, h2, h3⟩ := ih z (by omega)
        exact ⟨k, h1, by omega, h3⟩
theorem rises {P : Nat → Prop} {a b : Nat} (ha : ¬ P a) (hb : P b) (h : a ≤ b) : ∃ k, a ≤ k ∧ k < b ∧ ¬ P k ∧ P (k + 1) := by
  obtain ⟨k, h1, h2, h3, h4⟩ := falls (P := fun i => ¬ P i) ha (fun z => z hb) h
  exact ⟨k, h1, h2, h3, Classical.not_not.mp h4⟩
theorem has_max {P : Nat → Prop} : ∀ {b : Nat}, (∃ j, j < b ∧ P j) → (∀ j, P j → j < b) → ∃ j, P j ∧ ∀ i, P i → i ≤ j
  | 0, ⟨j, h, _⟩, _ => by omega
  | b + 1, h, hb => by
    by_cases z : P b
    · exact ⟨b, z, fun i hi => by have := hb i hi; omega⟩
    · refine has_max (b := b) ?_ fun j hj => ?_
      · obtain ⟨j, h1, h2⟩ := h
        refine ⟨j, ?_, h2⟩
        by_cases e : j = b
        · subst e
          exact (z h2).elim
        · omega
      · have := hb j hj
        by_cases e : j = b
        · subst e
          exact (z hj).elim
        · omega
section
variable {m n L : Nat} {A : Nat → Nat → Rat} {e : Nat → Rat} {q : Rat} {S : Nat → Tb} {r c : Nat → Nat}
def xval (m n : Nat) (S : Tb) (j : Nat) : Rat := sumN m fun i => if S.b i = j then S.T i (n + m) else 0
theorem xval_at {S : Tb} (G : Rws m (n + m) A S) {i : Nat} (hi : i < m) : xval m n S (S.b i) = S.T i (n + m) := by
  unfold xval
  rw [sumN_one hi]
  · rw [if_pos rfl]
  · intro k hk ne
    rw [if_neg (fun z => ne (G.inj hk hi z))]
theorem xval_no {S : Tb} {j : Nat} (h : ¬ inB m S j) : xval m n S j = 0 := by
  unfold xval
  rw [sumN_congr (g := fun _ => 0) fun i hi => if_neg fun z => h ⟨i, hi, z⟩, sumN_zero]
theorem no_circle (G : ∀ k, k ≤ L → Good m n A e q (S k)) (t : ∀ k, k < L → Turn m n (S k) (r k) (c k) ∧ S (k + 1) = (S k).piv (r k) (c k)) (hL : 0 < L) (same : ∀ j, inB m (S 0) j ↔ inB m (S L) j) : False := by
  have zL := (G 0 (by omega)).sameZ (G L (by omega)) fun j => (same j).mp
  have step : ∀ k, k < L → (S (k + 1)).z (n + m) = (S k).z (n + m) - (S k).z (c k) * ((S k).T (r k) (n + m) / (S k).T (r k) (c k)) := fun k hk => by rw [(t k hk).2]; rfl
  have up1 : ∀ k, k < L → (S k).z (n + m) ≤ (S (k + 1)).z (n + m) := fun k hk => by
    rw [step k hk]
    have h1 := (t k hk).1
    have h2 : 0 ≤ (S k).T (r k) (n + m) / (S k).T (r k) (c k) := div_nn ((G k (by omega)).fea _ h1.hr) h1.pos
    have h3 : 0 ≤ - (S k).z (c k) * ((S k).T (r k) (n + m) / (S k).T (r k) (c k)) := Rat.mul_nonneg (by have := h1.neg; grind) h2
    grind
  have up : ∀ a b, a ≤ b → b ≤ L → (S a).z (n + m) ≤ (S b).z (n + m) := fun a b hab hb => by
    induction b with
    | zero => rw [show a = 0 by omega]; exact Rat.le_refl
    | succ b ih =>
      by_cases z : a = b + 1
      · rw [z]; exact Rat.le_refl
      · exact Rat.le_trans (ih (by omega) (by omega)) (up1 b (by omega))
  have zc : ∀ k, k < L → (S k).T (r k) (n + m) = 0 := fun k hk => by
    have a := up 0 k (by omega) (by omega)
    have b := up (k + 1) L (by omega) (by omega)
    have s := step k hk
    have h1 := (t k hk).1
    have n0 : (S k).z (c k) ≠ 0 := by have := h1.neg; grind
    have p0 : (S k).T (r k) (c k) ≠ 0 := by have := h1.pos; grind
    have h2 := up1 k hk
    have h3 : (S k).z (c k) * ((S k).T (r k) (n + m) / (S k).T (r k) (c k)) = 0 := by grind
    rcases Rat.mul_eq_zero.mp h3 with z | z
    · exact (n0 z).elim
    · grind
  have xv1 : ∀ k, k < L → ∀ j, xval m n (S (k + 1)) j = xval m n (S k) j := fun k hk j => by
    unfold xval
    rw [(t k hk).2]
    refine sumN_congr fun i hi => ?_
    show (if (if i = r k then c k else (S k).b i) = j then (if i = r k then (S k).T (r k) (n + m) / (S k).T (r k) (c k) else (S k).T i (n + m) - (S k).T i (c k) * ((S k).T (r k) (n + m) / (S k).T (r k) (c k))) else 0) = _
    rw [zc k hk]
    by_cases e2 : i = r k
    · subst e2
      rw [if_pos rfl, if_pos rfl, zc k hk]
      split <;> split <;> grind
    · rw [if_neg e2, if_neg e2]
      split <;> grind
  have xv : ∀ k, k ≤ L → ∀ j, xval m n (S k) j = xval m n (S 0) j := fun k => by
    induction k with
    | zero => exact fun _ _ => rfl
    | succ k ih => exact fun hk j => by rw [xv1 k (by omega) j, ih (by omega) j]
  have zero : ∀ k, k ≤ L → ∀ i, i < m → (∃ k', k' ≤ L ∧ ¬ inB m (S k') ((S k).b i)) → (S k).T i (n + m) = 0 := fun k hk i hi ⟨k', hk', h⟩ => by
    rw [← xval_at (G k hk).toRws hi, xv k hk, ← xv k' hk', xval_no h]
  obtain ⟨t0, ⟨⟨k1, h1, h1'⟩, k2, h2, h2'⟩, top⟩ := has_max (P := fun j => (∃ k, k ≤ L ∧ inB m (S k) j) ∧ ∃ k, k ≤ L ∧ ¬ inB m (S k) j) (b := n + m)
    ⟨c 0, by have := (t 0 hL).1.hc; omega, ⟨1, by omega, by rw [(t 0 hL).2]; exact piv_has (t 0 hL).1.hr⟩, 0, by omega, (t 0 hL).1.new (G 0 (by omega))⟩
    fun j ⟨⟨k, hk, i, hi, hj⟩, _⟩ => by rw [← hj]; exact (G k hk).bas i hi
  obtain ⟨⟨p, hp, p1, p2⟩, s, hs, s1, s2⟩ : (∃ p, p < L ∧ ¬ inB m (S p) t0 ∧ inB m (S (p + 1)) t0) ∧ ∃ s, s < L ∧ inB m (S s) t0 ∧ ¬ inB m (S (s + 1)) t0 := by
    by_cases z : inB m (S 0) t0
    · obtain ⟨a, _, ha, a1, a2⟩ := falls (P := fun k => inB m (S k) t0) z h2' (by omega)
      obtain ⟨b, _, hb, b1, b2⟩ := rises (P := fun k => inB m (S k) t0) h2' ((same t0).mp z) h2
      exact ⟨⟨b, hb, b1, b2⟩, a, by omega, a1, a2⟩
    · obtain ⟨a, _, ha, a1, a2⟩ := rises (P := fun k => inB m (S k) t0) z h1' (by omega)
      obtain ⟨b, _, hb, b1, b2⟩ := falls (P := fun k => inB m (S k) t0) h1' (fun y => z ((same t0).mpr y)) h1
      exact ⟨⟨a, by omega, a1, a2⟩, b, hb, b1, b2⟩
  have tp := (t p hp).1
  have ts := (t s hs).1
  have Gp := G p (by omega)
  have Gs := G s (by omega)
  have ec : t0 = c p := by
    rw [(t p hp).2] at p2
    rcases piv_in tp.hr p2 with z | z
    · exact z
    · exact (p1 z).elim
  have eb : t0 = (S s).b (r s) := by
    rw [(t s hs).2] at s2
    exact piv_out ts.hr s1 s2
  have cs : c s < t0 := by
    have : c s ≤ t0 := top _ ⟨⟨s + 1, by omega, by rw [(t s hs).2]; exact piv_has ts.hr⟩, s, by omega, ts.new Gs⟩
    have : c s ≠ t0 := fun z => ts.new Gs (by rw [z]; exact s1)
    omega
  have d1 := Gp.wy.dual Gs.toRws (j := c s) (by have := ts.hc; omega)
  have d2 := Gs.wy.dual Gs.toRws (j := c s) (by have := ts.hc; omega)
  have h3 : 0 < sumN m fun i => ((S p).z ((S s).b i) - (S s).z ((S s).b i)) * (S s).T i (c s) := by
    rw [sumN_congr (g := fun i => (S p).z ((S s).b i) * (S s).T i (c s) - (S s).z ((S s).b i) * (S s).T i (c s)) fun i _ => by grind, sumN_sub]
    have a := tp.fst (c s) (by omega)
    have b := ts.neg
    grind
  obtain ⟨i, hi, h4⟩ := sumN_pos h3
  have nb : ¬ inB m (S p) ((S s).b i) := fun ⟨k, hk, ek⟩ => by
    have a := Gp.at0 k hk
    rw [ek, ← Gs.at0 i hi] at a
    rw [a] at h4
    grind
  have le : (S s).b i ≤ t0 := top _ ⟨⟨s, by omega, i, hi, rfl⟩, p, by omega, nb⟩
  have z0 : (S s).z ((S s).b i) = 0 := by
    rw [Gs.at0 i hi, if_neg (by have := tp.hc; omega)]
  rw [z0] at h4
  by_cases e1 : (S s).b i = t0
  · have ei : i = r s := Gs.toRws.inj hi ts.hr (by rw [e1, eb])
    subst ei
    rw [e1, ec] at h4
    have : 0 ≤ - (S p).z (c p) * (S s).T (r s) (c s) := Rat.mul_nonneg (by have := tp.neg; grind) (Rat.le_of_lt ts.pos)
    grind
  · have zp := tp.fst ((S s).b i) (by omega)
    have tpos : 0 < (S s).T i (c s) := by
      by_cases y : 0 < (S s).T i (c s)
      · exact y
      · have : 0 ≤ (S p).z ((S s).b i) * - (S s).T i (c s) := Rat.mul_nonneg zp (by grind)
        grind
    have l0 := zero s (by omega) i hi ⟨p, by omega, nb⟩
    have l1 := zc s hs
    rcases ts.low i hi tpos with y | y
    · rw [l0, l1] at y
      grind
    · have := y.2
      rw [← eb] at this
      omega
end
end Hw
namespace Hw
open PySem L2
theorem pigeons : ∀ (M L : Nat) (f : Nat → Nat), (∀ k, k ≤ L → f k < M) → (∀ k k', k < k' → k' ≤ L → f k ≠ f k') → L < M
  | 0, L, f, h, _ => by have := h 0 (by omega); omega
  | M + 1, 0, f, _, _ => by omega
  | M + 1, L + 1, f, h, d => by
    by_cases hv : f (L + 1) = M
    · have := pigeons M L f (fun k hk => by
        have a := h k (by omega)
        have b := d k (L + 1) (by omega) (by omega)
        omega) fun k k' hk hk' => d k k' hk (by omega)
      omega
    · have := pigeons M L (fun k => if f k = M then f (L + 1) else f k) (fun k hk => by
        have a := h k (by omega)
        have b := h (L + 1) (by omega)
        split <;> omega) fun k k' hk hk' => by
          have a := d k k' hk (by omega)
          have b := d k (L + 1) (by omega) (by omega)
          have c := d k' (L + 1) (by omega) (by omega)
          split <;> split <;> omega
      omega
def codeB : Nat → (Nat → Bool) → Nat
  | 0, _ => 0
  | k + 1, f => 2 * codeB k f + (if f k = true then 1 else 0)
theorem codeB_lt (f : Nat → Bool) : ∀ k, codeB k f < 2 ^ k
  | 0 => Nat.zero_lt_one
  | k + 1 => by
    have := codeB_lt f k
    rw [codeB, Nat.pow_succ]
    split <;> omega
theorem codeB_inj (f g : Nat → Bool) : ∀ k, codeB k f = codeB k g → ∀ j, j < k → f j = g j
  | 0, _, j, hj => by omega
  | k + 1, h, j, hj => by
    rw [codeB, codeB] at h
    have e : codeB k f = codeB k g := by
      split at h <;> split at h <;> omega
    by_cases ej : j = k
    · subst ej
      rw [e] at h
      cases hf : f j <;> cases hg : g j
      · rfl
      · rw [hf, hg] at h; simp at h
      · rw [hf, hg] at h; simp at h
      · rfl
    · exact codeB_inj f g k e j (by omega)
def isB (m : Nat) (S : Tb) (j : Nat) : Bool := (List.range m).any fun i => S.b i == j
theorem isB_iff {m : Nat} {S : Tb} {j : Nat} : isB m S j = true ↔ inB m S j := by
  unfold isB inB
  rw [List.any_eq_true]
  constructor
  · rintro ⟨i, hi, h⟩
    exact ⟨i, List.mem_range.mp hi, by simpa using h⟩
  · rintro ⟨i, hi, h⟩
    exact ⟨i, List.mem_range.mpr hi, by simpa using h⟩
structure Run (m n : Nat) (A : Nat → Nat → Rat) (e : Nat → Rat) (q : Rat) (S : Nat → Tb) (L : Nat) : Prop where
  good : ∀ k, k ≤ L → Good m n A e q (S k)
  turn : ∀ k, k < L → ∃ r c, Turn m n (S k) r c ∧ S (k + 1) = (S k).piv r c
section
variable {m n L : Nat} {A : Nat → Nat → Rat} {e : Nat → Rat} {q : Rat} {S : Nat → Tb}
theorem Run.short (R : Run m n A e q S L) : L < 2 ^ (n + m) := by
  refine pigeons _ L (fun k => codeB (n + m) (isB m (S k))) (fun k _ => codeB_lt _ _) fun k k' hk hk' h => ?_
  have eq := codeB_inj _ _ _ h
  have rc : ∀ i, i < k' - k → ∃ r c, Turn m n (S (k + i)) r c ∧ S (k + (i + 1)) = (S (k + i)).piv r c := fun i hi => R.turn (k + i) (by omega)
  refine no_circle (L := k' - k) (S := fun i => S (k + i)) (A := A) (e := e) (q := q) (m := m) (n := n)
    (r := fun i => if h : i < k' - k then Classical.choose (rc i h) else 0)
    (c := fun i => if h : i < k' - k then Classical.choose (Classical.choose_spec (rc i h)) else 0)
    (fun i hi => R.good (k + i) (by omega)) (fun i hi => ?_) (by omega) fun j => ?_
  · rw [dif_pos hi, dif_pos hi]
    exact Classical.choose_spec (Classical.choose_spec (rc i hi))
  · rw [Nat.add_zero, show k + (k' - k) = k' by omega]
    rw [← isB_iff, ← isB_iff]
    by_cases hj : j < n + m
    · rw [eq j hj]
    · constructor
      · rintro h
        obtain ⟨i, hi, e2⟩ := isB_iff.mp h
        have := (R.good k (by omega)).bas i hi
        omega
      · rintro h
        obtain ⟨i, hi, e2⟩ := isB_iff.mp h
        have := (R.good k' (by omega)).bas i hi
        omega
theorem Run.start {S0 : Tb} (G : Good m n A e q S0) : Run m n A e q (fun _ => S0) 0 := ⟨fun _ _ => G, fun k hk => by omega⟩
theorem Run.more (R : Run m n A e q S L) {r c : Nat} (t : Turn m n (S L) r c) : Run m n A e q (fun k => if k ≤ L then S k else (S L).piv r c) (L + 1) where
  good := fun k hk => by
    split
    · rename_i h
      exact R.good k h
    · exact (R.good L (Nat.le_refl _)).turn t
  turn := fun k hk => by
    rw [if_pos (by omega)]
    by_cases h : k < L
    · rw [if_pos (by omega)]
      exact R.turn k h
    · obtain rfl : k = L := by omega
      rw [if_neg (by omega)]
      exact ⟨r, c, t, rfl⟩
end
def det4 (f : Nat → Nat → Rat) : Rat :=
  f 0 0 * (f 1 1 * (f 2 2 * f 3 3 - f 2 3 * f 3 2) - f 1 2 * (f 2 1 * f 3 3 - f 2 3 * f 3 1) + f 1 3 * (f 2 1 * f 3 2 - f 2 2 * f 3 1))
  - f 0 1 * (f 1 0 * (f 2 2 * f 3 3 - f 2 3 * f 3 2) - f 1 2 * (f 2 0 * f 3 3 - f 2 3 * f 3 0) + f 1 3 * (f 2 0 * f 3 2 - f 2 2 * f 3 0))
  + f 0 2 * (f 1 0 * (f 2 1 * f 3 3 - f 2 3 * f 3 1) - f 1 1 * (f 2 0 * f 3 3 - f 2 3 * f 3 0) + f 1 3 * (f 2 0 * f 3 1 - f 2 1 * f 3 0))
  - f 0 3 * (f 1 0 * (f 2 1 * f 3 2 - f 2 2 * f 3 1) - f 1 1 * (f 2 0 * f 3 2 - f 2 2 * f 3 0) + f 1 2 * (f 2 0 * f 3 1 - f 2 1 * f 3 0))
def detI (f : Nat → Nat → Int) : Int :=
  f 0 0 * (f 1 1 * (f 2 2 * f 3 3 - f 2 3 * f 3 2) - f 1 2 * (f 2 1 * f 3 3 - f 2 3 * f 3 1) + f 1 3 * (f 2 1 * f 3 2 - f 2 2 * f 3 1))
  - f 0 1 * (f 1 0 * (f 2 2 * f 3 3 - f 2 3 * f 3 2) - f 1 2 * (f 2 0 * f 3 3 - f 2 3 * f 3 0) + f 1 3 * (f 2 0 * f 3 2 - f 2 2 * f 3 0))
  + f 0 2 * (f 1 0 * (f 2 1 * f 3 3 - f 2 3 * f 3 1) - f 1 1 * (f 2 0 * f 3 3 - f 2 3 * f 3 0) + f 1 3 * (f 2 0 * f 3 1 - f 2 1 * f 3 0))
  - f 0 3 * (f 1 0 * (f 2 1 * f 3 2 - f 2 2 * f 3 1) - f 1 1 * (f 2 0 * f 3 2 - f 2 2 * f 3 0) + f 1 2 * (f 2 0 * f 3 1 - f 2 1 * f 3 0))
theorem det_cast (f : Nat → Nat → Int) : det4 (fun k i => (f k i : Rat)) = ((detI f : Int) : Rat) := by
  unfold det4 detI
  simp only [Rat.intCast_add, Rat.intCast_sub, Rat.intCast_mul]
def putC {α : Type} (f : Nat → Nat → α) (i : Nat) (y : Nat → α) : Nat → Nat → α := fun k l => if l = i then y k else f k l
theorem cramer (f : Nat → Nat → Rat) (x : Nat → Rat) {y : Nat → Rat} (h : ∀ k, k < 4 → f k 0 * x 0 + f k 1 * x 1 + f k 2 * x 2 + f k 3 * x 3 = y k) {i : Nat} (hi : i < 4) : det4 (putC f i y) = x i * det4 f := by
  have h0 := h 0 (by decide)
  have h1 := h 1 (by decide)
  have h2 := h 2 (by decide)
  have h3 := h 3 (by decide)
  have e : i = 0 ∨ i = 1 ∨ i = 2 ∨ i = 3 := by omega
  rcases e with rfl | rfl | rfl | rfl
  · unfold det4 putC
    simp only [if_pos, if_neg, Nat.one_ne_zero, reduceIte, Nat.reduceEqDiff, ← h0, ← h1, ← h2, ← h3]
    grind
  · unfold det4 putC
    simp only [if_pos, if_neg, Nat.zero_ne_one, reduceIte, Nat.reduceEqDiff, ← h0, ← h1, ← h2, ← h3]
    grind
  · unfold det4 putC
    simp only [if_pos, if_neg, Nat.zero_ne_one, reduceIte, Nat.reduceEqDiff, ← h0, ← h1, ← h2, ← h3]
    grind
  · unfold det4 putC
    simp only [if_pos, if_neg, Nat.zero_ne_one, reduceIte, Nat.reduceEqDiff, ← h0, ← h1, ← h2, ← h3]
    grind
def padB (m : Nat) (a : Nat → Nat → Int) (b : Nat → Nat) : Nat → Nat → Int := fun k i => if k < m ∧ i < m then a k (b i) else if k = i then 1 else 0
def padY (m : Nat) (a : Nat → Nat → Int) (j : Nat) : Nat → Int := fun k => if k < m then a k j else 0
def Nz (m : Nat) (a : Nat → Nat → Int) (b : Nat → Nat) : Prop := detI (padB m a b) ≠ 0
theorem putC_cast (f : Nat → Nat → Int) (i : Nat) (y : Nat → Int) : (fun k l => ((putC f i y k l : Int) : Rat)) = putC (fun k l => (f k l : Rat)) i fun k => (y k : Rat) := by
  funext k l
  unfold putC
  split <;> rfl
section
variable {m N : Nat} {a : Nat → Nat → Int} {S : Tb}
theorem tab_cramer (R : Rws m N (fun k j => (a k j : Rat)) S) (h4 : m ≤ 4) {i j : Nat} (hi : i < m) (hj : j ≤ N) : ((detI (putC (padB m a S.b) i (padY m a j)) : Int) : Rat) = S.T i j * ((detI (padB m a S.b) : Int) : Rat) := by
  rw [← det_cast, ← det_cast, putC_cast]
  have c := cramer (fun k l => (padB m a S.b k l : Rat)) (fun l => if l < m then S.T l j else 0) (y := fun k => (padY m a j k : Rat)) (fun k hk => ?_) (i := i) (by omega)
  · rw [c, if_pos hi]
  · have col := fun hk' => R.col k j hk' hj
    unfold padB padY
    have em : m = 0 ∨ m = 1 ∨ m = 2 ∨ m = 3 ∨ m = 4 := by omega
    have ek : k = 0 ∨ k = 1 ∨ k = 2 ∨ k = 3 := by omega
    rcases em with rfl | rfl | rfl | rfl | rfl <;> rcases ek with rfl | rfl | rfl | rfl <;> simp [sumN] at col ⊢ <;> grind
theorem Nz.piv (R : Rws m N (fun k j => (a k j : Rat)) S) (h4 : m ≤ 4) (z : Nz m a S.b) {r c : Nat} (hr : r < m) (hc : c ≤ N) (hp : S.T r c ≠ 0) : Nz m a (S.piv r c).b := by
  have e : padB m a (S.piv r c).b = putC (padB m a S.b) r (padY m a c) := by
    funext k l
    unfold putC padB padY
    show (if k < m ∧ l < m then a k (if l = r then c else S.b l) else if k = l then 1 else 0) = _
    by_cases e1 : l = r
    · subst e1
      rw [if_pos rfl, if_pos rfl]
      by_cases hk : k < m
      · rw [if_pos ⟨hk, hr⟩, if_pos hk]
      · rw [if_neg (fun z => hk z.1), if_neg hk, if_neg (by omega)]
    · rw [if_neg e1, if_neg e1]
  unfold Nz
  rw [e]
  intro h0
  have h := tab_cramer R h4 hr hc
  rw [h0] at h
  rcases Rat.mul_eq_zero.mp h.symm with y | y
  · exact hp y
  · exact z (Rat.intCast_inj.mp y)
theorem sz_2 {a b c d : Int} (ha : Sz 10 a) (hb : Sz 10 b) (hc : Sz 10 c) (hd : Sz 10 d) : Sz 21 (a * b - c * d) := (ha.mul hb).sub (hc.mul hd)
theorem sz_3 {p q r a b c : Int} (hp : Sz 10 p) (hq : Sz 10 q) (hr : Sz 10 r) (ha : Sz 21 a) (hb : Sz 21 b) (hc : Sz 21 c) : Sz 33 (p * a - q * b + r * c) := ((hp.mul ha).sub (hq.mul hb)).add ((hr.mul hc).mono (by decide))
theorem sz_det {f : Nat → Nat → Int} (h : ∀ k i, k < 4 → i < 4 → Sz 10 (f k i)) : Sz 46 (detI f) := by
  have g : ∀ {k i : Nat}, (k < 4 ∧ i < 4) → Sz 10 (f k i) := fun z => h _ _ z.1 z.2
  unfold detI
  have t : ∀ p {a1 a2 a3 b1 b2 b3 b4 b5 b6 b7 b8 b9 b10 b11 b12 : Int}, Sz 10 p → Sz 10 a1 → Sz 10 a2 → Sz 10 a3 → Sz 10 b1 → Sz 10 b2 → Sz 10 b3 → Sz 10 b4 → Sz 10 b5 → Sz 10 b6 → Sz 10 b7 → Sz 10 b8 → Sz 10 b9 → Sz 10 b10 → Sz 10 b11 → Sz 10 b12 →
      Sz 43 (p * (a1 * (b1 * b2 - b3 * b4) - a2 * (b5 * b6 - b7 * b8) + a3 * (b9 * b10 - b11 * b12))) := fun p _ _ _ _ _ _ _ _ _ _ _ _ _ _ _ hp h1 h2 h3 k1 k2 k3 k4 k5 k6 k7 k8 k9 k10 k11 k12 =>
    hp.mul (sz_3 h1 h2 h3 (sz_2 k1 k2 k3 k4) (sz_2 k5 k6 k7 k8) (sz_2 k9 k10 k11 k12))
  refine (((t _ ?_ ?_ ?_ ?_ ?_ ?_ ?_ ?_ ?_ ?_ ?_ ?_ ?_ ?_ ?_ ?_).sub (t _ ?_ ?_ ?_ ?_ ?_ ?_ ?_ ?_ ?_ ?_ ?_ ?_ ?_ ?_ ?_ ?_)).add ((t _ ?_ ?_ ?_ ?_ ?_ ?_ ?_ ?_ ?_ ?_ ?_ ?_ ?_ ?_ ?_ ?_).mono (by decide))).sub ((t _ ?_ ?_ ?_ ?_ ?_ ?_ ?_ ?_ ?_ ?_ ?_ ?_ ?_ ?_ ?_ ?_).mono (by decide)) <;> exact g (by decide)
theorem tab_sz (R : Rws m N (fun k j => (a k j : Rat)) S) (h4 : m ≤ 4) (z : Nz m a S.b) (ha : ∀ k j, k < m → j ≤ N → Sz 10 (a k j)) {i j : Nat} (hi : i < m) (hj : j ≤ N) : RSz 46 (S.T i j) := by
  have one : Sz 10 1 := by unfold Sz; decide
  have zer : Sz 10 0 := by unfold Sz; decide
  have hB : ∀ k l, Sz 10 (padB m a S.b k l) := fun k l => by
    unfold padB
    split
    · rename_i h
      exact ha _ _ h.1 (by have := R.bas l h.2; omega)
    · split
      · exact one
      · exact zer
  have h := tab_cramer R h4 hi hj
  have e : S.T i j = Rat.divInt (detI (putC (padB m a S.b) i (padY m a j))) (detI (padB m a S.b)) := by
    rw [Rat.divInt_eq_div, h]
    have : ((detI (padB m a S.b) : Int) : Rat) ≠ 0 := fun y => z (Rat.intCast_inj.mp y)
    grind
  rw [e]
  refine RSz.of_div z (sz_det fun k l _ _ => ?_) (sz_det fun k l _ _ => hB k l)
  unfold putC
  split
  · unfold padY
    split
    · rename_i h
      exact ha _ _ h hj
    · exact zer
  · exact hB k l
end
end Hw
namespace L2
open PySem PySem.Spec PyProof.Rows PySem.W PySem.Calls
def subsF : Nat → Nat → List (List Nat)
  | 0, _ => [[]]
  | n + 1, lo => subsF n (lo + 1) ++ (subsF n (lo + 1)).map (lo :: ·)
theorem rise_mem : ∀ (n lo : Nat) (xs : List Nat), xs.Pairwise (· < ·) → (∀ x ∈ xs, lo ≤ x ∧ x < lo + n) → xs ∈ subsF n lo
  | 0, lo, xs, _, h => by
    cases xs with
    | nil => simp [subsF]
    | cons x r =>
      have := h x (by simp)
      omega
  | n + 1, lo, xs, p, h => by
    rw [subsF, List.mem_append]
    cases xs with
    | nil => exact .inl (rise_mem n (lo + 1) [] .nil (fun x hx => nomatch hx))
    | cons x r =>
      have hx := h x (by simp)
      have p1 := List.pairwise_cons.mp p
      by_cases e : x = lo
      · subst e
        refine .inr (List.mem_map.mpr ⟨r, rise_mem n (x + 1) r p1.2 (fun y hy => ?_), rfl⟩)
        have a := p1.1 y hy
        have b := h y (List.mem_cons_of_mem _ hy)
        omega
      · refine .inl (rise_mem n (lo + 1) (x :: r) p (fun y hy => ?_))
        have b := h y hy
        rcases List.mem_cons.mp hy with rfl | hy
        · omega
        · have a := p1.1 y hy
          omega
def SmallS (xs : List Nat) : Prop := xs.Pairwise (· < ·) ∧ ∀ x ∈ xs, x < 5
theorem SmallS.mem {xs : List Nat} (h : SmallS xs) : xs ∈ subsF 5 0 := rise_mem 5 0 xs h.1 fun x hx => ⟨Nat.zero_le _, by have := h.2 x hx; omega⟩
theorem SmallS.take {xs : List Nat} (h : SmallS xs) (k : Nat) : SmallS (xs.take k) := ⟨h.1.take, fun x hx => h.2 x (List.mem_of_mem_take hx)⟩
theorem SmallS.len {xs : List Nat} (h : SmallS xs) : xs.length ≤ 5 := (show ∀ xs ∈ subsF 5 0, xs.length ≤ 5 by decide) xs h.mem
def tabS (led : Bool) (xs : List Nat) : SetTable := { mask := if xs.length < 5 then 7 else 31, place := xs.toArray, dummies := #[], finger := 0, led, moves := if xs.length < 5 then 0 else 1, plain := true }
def putS (led : Bool) (xs : List Nat) : SetTable := { mask := 7, place := xs.toArray, dummies := #[], finger := 0, led, moves := 0, plain := true }
theorem step_free : ∀ led : Bool, ∀ xs ∈ subsF 5 0, ∀ k < xs.length, (tabS led (xs.take k)).freeSlot ((xs.getD k 0 : Nat) : Int) = some (xs.getD k 0, false) ∧ (tabS led (xs.take k)).put (xs.getD k 0) = (putS led (xs.take (k + 1)), k) := by decide +kernel
theorem step_full : ∀ led : Bool, ∀ xs ∈ subsF 5 0, ∀ k < xs.length, (putS led (xs.take (k + 1))).tooFull = decide (k + 1 = 5) ∧ (k + 1 = 5 → xs = [0, 1, 2, 3, 4]) := by decide +kernel
theorem step_relaid : ∀ led : Bool, (putS led [0, 1, 2, 3, 4]).relaid #[0, 1, 2, 3, 4] 20 = some (tabS led [0, 1, 2, 3, 4], #[0, 1, 2, 3, 4]) := by decide +kernel
theorem place_below : ∀ xs ∈ subsF 5 0, ∀ k, k ≤ xs.length → SetTable.below xs.toArray (if k = 0 then 0 else xs.getD (k - 1) 0 + 1) = k := by
  have h : ∀ xs ∈ subsF 5 0, ∀ k < xs.length + 1, SetTable.below xs.toArray (if k = 0 then 0 else xs.getD (k - 1) 0 + 1) = k := by decide +kernel
  exact fun xs hx k hk => h xs hx k (by omega)
def addE (es : Array (Int × Value)) (t : SetTable) (h : Int) (x : Value) : Array (Int × Value) × SetTable :=
  if (!(layNew t es h x).2.2.1 && (layNew t es h x).2.1.tooFull) = true then ((relayAll (layNew t es h x).2.1 (layNew t es h x).1 (SetTable.grown (layNew t es h x).1.size)).1, (relayAll (layNew t es h x).2.1 (layNew t es h x).1 (SetTable.grown (layNew t es h x).1.size)).2.1)
  else ((layNew t es h x).1, (layNew t es h x).2.1)
theorem insertAt_end {α : Type} (xs : Array α) (x : α) : SetTable.insertAt xs xs.size x = xs.push x := by
  unfold SetTable.insertAt
  simp
structure EntsAre (es : Array (Int × Value)) (xs : List Nat) : Prop where
  key : es.toList.map (·.1) = xs.map fun n => ((n : Nat) : Int)
  val : IntsAre (es.toList.map (·.2)) (xs.map fun n => ((n : Nat) : Int))
theorem EntsAre.size {es : Array (Int × Value)} {xs : List Nat} (h : EntsAre es xs) : es.size = xs.length := by
  have := congrArg List.length h.key
  simpa using this
theorem intsAre_snoc : ∀ {vs : List Value} {ns : List Int} (n : Int) (t : Tok), IntsAre vs ns → IntsAre (vs ++ [.int n t]) (ns ++ [n])
  | _, _, n, t, .nil => .cons n t .nil
  | _, _, n, t, .cons m u r => .cons m u (intsAre_snoc n t r)
theorem EntsAre.push {es : Array (Int × Value)} {xs : List Nat} (h : EntsAre es xs) (n : Nat) (t : Tok) : EntsAre (es.push ((n : Int), .int n t)) (xs ++ [n]) := by
  refine ⟨?_, ?_⟩
  · rw [Array.toList_push, List.map_append, List.map_append, h.key]
    rfl
  · rw [Array.toList_push, List.map_append, List.map_append]
    exact intsAre_snoc _ _ h.val
theorem fits_tab {led : Bool} {xs : List Nat} (h : xs.length ≤ 5) : (tabS led xs).fits xs.length = true := by
  unfold SetTable.fits tabS SetTable.fill
  by_cases c : xs.length < 5
  · simp [c]
    omega
  · simp [c]
    omega
theorem five_of {es : Array (Int × Value)} (h : es.size = 5) : (#[0, 1, 2, 3, 4] : Array Nat).filterMap (es[·]?) = es := by
  obtain ⟨l⟩ := es
  match l, h with
  | [a, b, c, d, e], _ => rfl
theorem add_step {led : Bool} {xs : List Nat} (sm : SmallS xs) {k : Nat} (hk : k < xs.length) {es : Array (Int × Value)} (he : EntsAre es (xs.take k)) (t : Tok) :
    addE es (tabS led (xs.take k)) ((xs.getD k 0 : Nat) : Int) (.int (xs.getD k 0 : Nat) t) = (es.push (((xs.getD k 0 : Nat) : Int), .int (xs.getD k 0 : Nat) t), tabS led (xs.take (k + 1))) := by
  obtain ⟨f1, f2⟩ := step_free led xs sm.mem k hk
  obtain ⟨g1, g2⟩ := step_full led xs sm.mem k hk
  have hz : es.size = k := by rw [he.size, List.length_take]; omega
  have l5 := sm.len
  have hL : layNew (tabS led (xs.take k)) es ((xs.getD k 0 : Nat) : Int) (.int (xs.getD k 0 : Nat) t) = (es.push (((xs.getD k 0 : Nat) : Int), .int (xs.getD k 0 : Nat) t), putS led (xs.take (k + 1)), false, false) := by
    unfold layNew
    rw [f1]
    dsimp only
    rw [f2]
    dsimp only
    have e1 : SetTable.insertAt es k (((xs.getD k 0 : Nat) : Int), Value.int (xs.getD k 0 : Nat) t) = es.push (((xs.getD k 0 : Nat) : Int), .int (xs.getD k 0 : Nat) t) := by
      rw [← hz]
      exact insertAt_end _ _
    rw [e1]
    have ft : (putS led (xs.take (k + 1))).fits (es.push (((xs.getD k 0 : Nat) : Int), Value.int (xs.getD k 0 : Nat) t)).size = true := by
      unfold SetTable.fits putS SetTable.fill
      rw [Array.size_push, hz]
      simp
      omega
    unfold SetTable.orStandIn
    rw [ft]
    rfl
  unfold addE
  rw [hL]
  dsimp only
  rw [g1]
  by_cases c : k + 1 = 5
  · obtain rfl := g2 c
    obtain rfl : k = 4 := by omega
    rw [if_pos (by simp)]
    have hk2 : ((es.push (((([0, 1, 2, 3, 4] : List Nat).getD 4 0 : Nat) : Int), Value.int (([0, 1, 2, 3, 4] : List Nat).getD 4 0 : Nat) t)).map (·.1)) = #[0, 1, 2, 3, 4] := by
      have := he.key
      apply Array.ext'
      rw [Array.toList_map, Array.toList_push, List.map_append, this]
      rfl
    have hz5 : (es.push (((([0, 1, 2, 3, 4] : List Nat).getD 4 0 : Nat) : Int), Value.int (([0, 1, 2, 3, 4] : List Nat).getD 4 0 : Nat) t)).size = 5 := by rw [Array.size_push, hz]
    generalize es.push (((([0, 1, 2, 3, 4] : List Nat).getD 4 0 : Nat) : Int), Value.int (([0, 1, 2, 3, 4] : List Nat).getD 4 0 : Nat) t) = es1 at *
    have hR : relayAll (putS led (([0, 1, 2, 3, 4] : List Nat).take (4 + 1))) es1 (SetTable.grown es1.size) = (es1, tabS led [0, 1, 2, 3, 4], false) := by
      unfold relayAll
      rw [hk2, hz5, show SetTable.grown 5 = 20 from rfl, show ([0, 1, 2, 3, 4] : List Nat).take (4 + 1) = [0, 1, 2, 3, 4] from rfl, step_relaid]
      dsimp only
      rw [five_of hz5, hz5, if_pos (by cases led <;> decide +kernel)]
    rw [hR]
    rfl
  · rw [if_neg (by simp [c])]
    unfold putS tabS
    rw [List.length_take, if_pos (by omega), if_pos (by omega)]
def SetAt (w : World) (a : Addr) (xs : List Nat) (h : Heap) : Prop := ∃ (es : Array (Int × Value)) (ep : Nat), h.get? a = some { cls := .type "set", dict := none, data := .set es ep (tabS (!w.params.followText "set-order") xs) } ∧ EntsAre es xs
theorem SetAt.ok {w : World} {a : Addr} {xs : List Nat} {h h' : Heap} (x : SetAt w a xs h) (k : ∀ o, h.get? a = some o → h'.get? a = some o) : SetAt w a xs h' := by
  obtain ⟨es, ep, e, r⟩ := x
  exact ⟨es, ep, k _ e, r⟩
section
variable {prog : Program} {w : World} {A : Around} {E : Value → Shared → Prop} {s : Shared}
theorem EntsAre.elems {es : Array (Int × Value)} {xs : List Nat} (h : EntsAre es xs) (h5 : ∀ x ∈ xs, x < 5) : ElemsOf (intKind prog w) es.toList := by
  intro e he
  obtain ⟨i, hi, ei⟩ := List.getElem_of_mem he
  have l1 : es.toList.length = xs.length := by rw [Array.length_toList]; exact h.size
  obtain ⟨t, et⟩ := PyProof.Rows.IntsAre.int_at h.val i e.2 (by rw [List.getElem?_map, List.getElem?_eq_getElem hi, ei]; rfl)
  have ek : e.1 = ((xs[i] : Nat) : Int) := by
    have := congrArg (fun l => l[i]?) h.key
    simp only [List.getElem?_map, List.getElem?_eq_getElem hi, List.getElem?_eq_getElem (show i < xs.length by omega), ei] at this
    simpa using this
  have ev : (xs.map fun n => ((n : Nat) : Int)).getD i 0 = ((xs[i] : Nat) : Int) := by
    rw [List.getD_eq_getElem?_getD, List.getElem?_map, List.getElem?_eq_getElem (show i < xs.length by omega)]
    rfl
  rw [ev] at et
  have b := h5 xs[i] (List.getElem_mem _)
  refine ⟨⟨((xs[i] : Nat) : Int), by rw [et]; exact intKind_is _ _ _ _, ?_⟩, by rw [et]; rfl⟩
  rw [ek]
  have : ∀ n : Nat, n < 5 → ((n : Nat) : Int) = hashInt ((n : Nat) : Int) := by
    intro n hn
    have : n = 0 ∨ n = 1 ∨ n = 2 ∨ n = 3 ∨ n = 4 := by omega
    rcases this with rfl | rfl | rfl | rfl | rfl <;> decide +kernel
  exact this _ b
end
section
variable {prog : Program} {w : World} {A : Around} {E : Value → Shared → Prop} {s : Shared}
theorem put_get {h : Heap} {a : Addr} {o : Obj} {es : Array (Int × Value)} {ep : Nat} {t : SetTable} (ho : h.get? a = some o) (hd : o.data = .set es ep t) (es' : Array (Int × Value)) (t' : SetTable) :
    (h.update a (Obj.putSet es' t')).get? a = some { o with data := .set es' (ep + 1) t' } := by
  have := Heap.get?_update_self (Obj.putSet es' t') ho (by rw [putSet_of es' t' hd]; rfl)
  rw [putSet_of es' t' hd] at this
  exact this
theorem wp_addTail {g : Bool → Sem Unit} (hg : ∀ (b : Bool) (s₁ : Shared) (Q' : Unit → Shared → Prop), Q' () s₁ → wpAny (model prog w) A (g b) Q' E s₁)
    {a : Addr} {o : Obj} {es : Array (Int × Value)} {ep : Nat} {t : SetTable} (ho : s.heap.get? a = some o) (hd : o.data = .set es ep t)
    {es1 : Array (Int × Value)} {t2 : SetTable} (hb1 : es1.size < scanBound) {wasDummy : Bool} {R : Option Bool → Shared → Prop}
    (h : ∀ h' ep', Heap.SameBut a s.heap h' → h'.get? a = some { o with data := .set (if (!wasDummy && t2.tooFull) = true then ((relayAll t2 es1 (SetTable.grown es1.size)).1, (relayAll t2 es1 (SetTable.grown es1.size)).2.1) else (es1, t2)).1 ep' (if (!wasDummy && t2.tooFull) = true then ((relayAll t2 es1 (SetTable.grown es1.size)).1, (relayAll t2 es1 (SetTable.grown es1.size)).2.1) else (es1, t2)).2 } → R (some true) { s with heap := h' }) :
    wpAny (model prog w) A (do
        storeSet a es1 t2
        if (!wasDummy && t2.tooFull) = true then do
            g (relayAll t2 es1 (SetTable.grown es1.size)).2.2
            storeSet a (relayAll t2 es1 (SetTable.grown es1.size)).1 (relayAll t2 es1 (SetTable.grown es1.size)).2.1
            pure (some true)
          else pure (some true)) R E s := by
  refine wpAny_bind (wpAny_storeSet_of ho hd ?_ (fits_of_scanBound hb1))
  have ho1 := put_get ho hd es1 t2
  have hsb1 := Heap.SameBut.update s.heap a (Obj.putSet es1 t2)
  by_cases c : (!wasDummy && t2.tooFull) = true
  · simp only [if_pos c] at h ⊢
    have hp := relayAll_perm t2 es1 (SetTable.grown es1.size)
    have hsz : (relayAll t2 es1 (SetTable.grown es1.size)).1.size = es1.size := by rw [← Array.length_toList, hp.length_eq, Array.length_toList]
    refine wpAny_bind (hg _ _ _ ?_)
    refine wpAny_bind (wpAny_storeSet_of ho1 rfl ?_ (fits_of_scanBound (by rw [hsz]; exact hb1)))
    exact wpAny_pure (h _ _ (hsb1.trans (Heap.SameBut.update _ a _)) (put_get ho1 rfl _ _))
  · simp only [if_neg c] at h ⊢
    exact wpAny_pure (h _ _ hsb1 ho1)
theorem wp_addE {a : Addr} {o : Obj} {es : Array (Int × Value)} {ep : Nat} {t : SetTable} {i : Int} {tk : Tok} {Q : Bool → Shared → Prop} (ho : s.heap.get? a = some o) (hd : o.data = .set es ep t) (hel : ElemsOf (intKind prog w) es.toList) (hb : es.size + 1 < scanBound) (hf : t.fits es.size = true)
    (hno : List.findIdx? (fun e => (intKind prog w).is i e.2) es.toList = none)
    (h : ∀ h' ep', Heap.SameBut a s.heap h' → h'.get? a = some { o with data := .set (addE es t ((intKind prog w).hash i) (.int i tk)).1 ep' (addE es t ((intKind prog w).hash i) (.int i tk)).2 } → Q true { s with heap := h' }) :
    wpAny (model prog w) A (setAddHashed a (.int i tk) ((intKind prog w).hash i)) Q E s := by
  have hsc : (Value.int i tk).scannable = true := rfl
  have hkey : (intKind prog w).is i (.int i tk) = true := intKind_is _ _ _ _
  unfold setAddHashed setAddHashedIn
  refine wpAny_holding (wpAny_bind (wpAny_setState_of ho hd hf ?_))
  dsimp only
  rw [byScan_of hsc (by omega) hel]
  simp only [↓reduceIte]
  unfold setAddByScan
  refine wpAny_bind ?_
  refine wpAny_bind (wpAny_rule ?_)
  refine wpAny_bind (wpAny_setScan_of hkey ho hd hf hel ?_)
  rw [hno]
  dsimp only
  have hgw : ∀ (b : Bool) {s₁ : Shared} {Q' : Unit → Shared → Prop}, Q' () s₁ → wpAny (model prog w) A (match b with | true => rule "set.scan.the-table-gave-way" | false => pure ()) Q' E s₁ :=
    fun b s₁ Q' hq => by cases b <;> first | exact wpAny_pure hq | exact wpAny_rule hq
  have hperm := layNew_perm t es ((intKind prog w).hash i) (.int i tk)
  unfold addE at h
  generalize hL : layNew t es ((intKind prog w).hash i) (.int i tk) = L at hperm h ⊢
  obtain ⟨es1, t1, wasDummy, gave⟩ := L
  dsimp only at hperm h ⊢
  rw [Array.toList_push] at hperm
  have hb1' : es1.size < scanBound := by rw [← Array.length_toList, hperm.length_eq, List.length_append, Array.length_toList]; simpa using hb
  refine wpAny_bind (hgw _ ?_)
  split
  · refine wpAny_bind ?_
    rw [hashByValue_scannable 8 hsc]
    refine wpAny_pure ?_
    rw [show plainKind (Value.int i tk) = true from rfl]
    simp only [↓reduceIte]
    refine wp_addTail ?_ ho hd hb1' ?_
    · intro b s₁ Q' hq; cases b <;> first | exact wpAny_pure hq | exact wpAny_rule hq
    · intro h' ep' hsb hS'; dsimp only; exact wpAny_pure (h h' ep' hsb hS')
  · refine wpAny_bind (wpAny_pure ?_)
    simp only [↓reduceIte]
    refine wp_addTail ?_ ho hd hb1' ?_
    · intro b s₁ Q' hq; cases b <;> first | exact wpAny_pure hq | exact wpAny_rule hq
    · intro h' ep' hsb hS'; dsimp only; exact wpAny_pure (h h' ep' hsb hS')
theorem hash_small {n : Nat} (h : n < 5) : (intKind prog w).hash ((n : Nat) : Int) = ((n : Nat) : Int) := by
  have : n = 0 ∨ n = 1 ∨ n = 2 ∨ n = 3 ∨ n = 4 := by omega
  have key : hashInt ((n : Nat) : Int) = ((n : Nat) : Int) := by rcases this with rfl | rfl | rfl | rfl | rfl <;> decide +kernel
  exact key
theorem EntsAre.no {es : Array (Int × Value)} {xs : List Nat} (h : EntsAre es xs) {n : Nat} (hn : ∀ x ∈ xs, x ≠ n) : List.findIdx? (fun e => (intKind prog w).is ((n : Nat) : Int) e.2) es.toList = none := by
  rw [List.findIdx?_eq_none_iff]
  intro e he
  obtain ⟨i, hi, ei⟩ := List.getElem_of_mem he
  have l1 : es.toList.length = xs.length := by rw [Array.length_toList]; exact h.size
  obtain ⟨t, et⟩ := PyProof.Rows.IntsAre.int_at h.val i e.2 (by rw [List.getElem?_map, List.getElem?_eq_getElem hi, ei]; rfl)
  have ev : (xs.map fun n => ((n : Nat) : Int)).getD i 0 = ((xs[i] : Nat) : Int) := by
    rw [List.getD_eq_getElem?_getD, List.getElem?_map, List.getElem?_eq_getElem (show i < xs.length by omega)]
    rfl
  rw [ev] at et
  rw [et, KeyKind.is_eq_decide (intKind_is _ _ _ _), decide_eq_false_iff_not]
  intro z
  exact hn xs[i] (List.getElem_mem _) (by omega)
theorem rise_ne {xs : List Nat} (sm : SmallS xs) {k : Nat} (hk : k < xs.length) : ∀ x ∈ xs.take k, x ≠ xs.getD k 0 := by
  intro x hx
  obtain ⟨i, hi, ei⟩ := List.getElem_of_mem hx
  have hik : i < k := by rw [List.length_take] at hi; omega
  have := List.pairwise_iff_getElem.mp sm.1 i k (by omega) hk hik
  rw [List.getElem_take] at ei
  rw [List.getD_eq_getElem?_getD, List.getElem?_eq_getElem hk]
  show x ≠ xs[k]
  omega
end
section
variable {prog : Program} {w : World} {A : Around} {R : Result → Shared → Prop} {I : Addr} {fp wr : List Addr} {G : Array GenState → Array GenState → Prop} {n : Nat} {P : Nat → Value → Prop} {St : Nat → Shared → Prop}
theorem code_update (W : WalksS prog w A.in1 I fp wr G n P St) (S : Addr) (hSf : S ∉ fp) {xs : List Nat} (sm : SmallS xs) (hn : xs.length = n) (hval : ∀ i v, P i v → ∃ t, v = .int ((xs.getD i 0 : Nat) : Int) t) :
    ∀ (k i : Nat) (s : Shared), n - i = k → i ≤ n → St i s → SetAt w S (xs.take i) s.heap →
      (∀ s', Moved (S :: wr) G s s' → SetAt w S xs s'.heap → R (.ok (.ret .none)) s') →
      codeAny (model prog w) A (.builtin "set.update.loop" ⟨[.ref S, .ref I], []⟩) R s := by
  have hSw : S ∉ wr := fun h => hSf (W.sub _ h)
  have hsub : ∀ b ∈ wr, b ∈ S :: wr := fun b hb => List.mem_cons_of_mem _ hb
  have l5 := sm.len
  intro k
  induction k with
  | zero =>
    intro i s hk hi hst hS hR
    have hin : i = n := by omega
    subst hin
    refine codeAny_builtin PyProof.Rows.F.entry_set_update_loop ?_
    rw [Around.under_plainId PyProof.Rows.F.plain_set_update_loop _]
    show wpAny _ A.in1 (pyNext (.ref I) >>= _) _ _ s
    refine wpAny_bind (W.done s _ _ hst fun s' hm => ?_)
    show wpAny _ A.in1 (ret Value.none) _ _ s'
    refine wpAny_pure (hR s' (hm.mono hsub) ?_)
    rw [← hn, List.take_length] at hS
    exact hS.ok fun o e => hm.heap S _ hSw e
  | succ k ih =>
    intro i s hk hi hst hS hR
    have hlt : i < n := by omega
    refine codeAny_builtin PyProof.Rows.F.entry_set_update_loop ?_
    rw [Around.under_plainId PyProof.Rows.F.plain_set_update_loop _]
    show wpAny _ A.in1 (pyNext (.ref I) >>= _) _ _ s
    refine wpAny_bind (W.item i s _ _ hlt hst fun v s' hP hst' hm => ?_)
    obtain ⟨t, rfl⟩ := hval i v hP
    obtain ⟨es, ep, ho, he⟩ := hS.ok (h' := s'.heap) fun o e => hm.heap S _ hSw e
    show wpAny _ A.in1 (holding [Value.int ((xs.getD i 0 : Nat) : Int) t] (setAdd S (.int ((xs.getD i 0 : Nat) : Int) t)) >>= _) _ _ s'
    refine wpAny_bind (wpAny_holding ?_)
    unfold setAdd
    refine wpAny_holding ?_
    refine wpAny_bind ((intKind prog w).pyHash (k := ((xs.getD i 0 : Nat) : Int)) (intKind_is _ _ _ _) ?_)
    have hz : es.size = i := by rw [he.size, List.length_take]; omega
    have hx5 : xs.getD i 0 < 5 := sm.2 _ (by rw [List.getD_eq_getElem?_getD, List.getElem?_eq_getElem (show i < xs.length by omega)]; exact List.getElem_mem _)
    have smi := sm.take i
    refine wp_addE (s := { s' with toks := s'.toks + 1 }) ho rfl (he.elems smi.2) (by rw [hz]; unfold scanBound; omega) (by rw [he.size]; exact fits_tab smi.len) (he.no (rise_ne sm (by omega))) fun h' ep' hsb hg => ?_
    rw [hash_small hx5, add_step sm (by omega) he t] at hg
    have hSi : SetAt w S (xs.take (i + 1)) h' := by
      refine ⟨_, ep', hg, ?_⟩
      have := he.push (xs.getD i 0) t
      rw [List.take_succ_eq_append_getElem (show i < xs.length by omega)]
      rw [show xs.getD i 0 = xs[i] by rw [List.getD_eq_getElem?_getD, List.getElem?_eq_getElem (show i < xs.length by omega)]; rfl] at this ⊢
      exact this
    refine wpAny_pure ⟨plainId_quiet PyProof.Rows.F.plain_set_update_loop _, ih (i + 1) _ (by omega) hlt (W.frame _ s' _ _ hst' (Nat.le_succ _) fun b hb o e => ?_) hSi fun s'' hm'' hS'' => ?_⟩
    · rw [hsb.2 b (fun h : b = S => hSf (by rw [← h]; exact hb))]; exact e
    · refine hR s'' (Moved.trans W.gtrans ((hm.mono hsub).then_heap (Nat.le_succ _) fun b o hb e => ?_) hm'') hS''
      rw [hsb.2 b (fun h : b = S => hb (by rw [h]; exact List.mem_cons_self))]; exact e
end
section
variable {prog : Program} {w : World} {A : Around} {E : Value → Shared → Prop} {s : Shared}
theorem code_set_newL (a : Value) {Q₁ : Value → Shared → Prop}
    (h : Q₁ (.ref s.heap.objs.size) { s with heap := s.heap.push { cls := .type "set", dict := none, data := .set #[] 0 (.fresh 0 0 (!w.params.followText "set-order")) } }) :
    codeAny (model prog w) A (.call (.builtin "set.__new__") ⟨[.type "set", a], []⟩) (wants Q₁ E) s := by
  refine codeAny_of_tree ?_
  show wpAny _ A.in1 (do checkBuiltinCall "set.__new__" ⟨[.type "set", a], []⟩; again (.builtin "set.__new__" ⟨[.type "set", a], []⟩)) _ _ s
  refine wpAny_bind (wpAny_of_eq (PySem.F.newCall_set_1 a) (wpAny_pure ⟨plainId_quiet PySem.F.plain_set_new _, codeAny_builtin PySem.F.entry_set_new ?_⟩))
  rw [Around.under_plainId PySem.F.plain_set_new _]
  unfold Builtin.«set.__new__» Builtin.Frozenset.newClass
  have hsub := sub_set_self
  obtain ⟨hp, g, d, tk, os⟩ := s
  dsimp only
  wp_walk
  refine wpAny_askSetting (wpAny_pure ?_)
  dsimp only
  simp only [newObj]
  refine wpAny_bind (wpAny_alloc (wpAny_pure ?_))
  exact wpAny_pure h
set_option maxRecDepth 100000 in
set_option maxHeartbeats 3200000 in
theorem call_setL {l : Addr} {items : Array Value} {xs : List Nat} {Q : Value → Shared → Prop}
    (hh : A.handled = none) (hl : s.heap.IsList l items) (sm : SmallS xs) (hi : IntsAre items.toList (xs.map fun n => ((n : Nat) : Int)))
    (h : ∀ (h' : Heap) (tk : Nat), SetAt w s.heap.objs.size xs h' →
      (∀ b o, b < s.heap.objs.size → s.heap.get? b = some o → h'.get? b = some o) → Q (.ref s.heap.objs.size) { s with heap := h', toks := tk }) :
    wpAny (model prog w) A (call (.type "set") [.ref l]) Q E s := by
  obtain ⟨c, tl, hmro⟩ := PySem.F.called_set.mro
  have hmade := PySem.F.called_set.made
  have hsub := PySem.F.called_set.sub
  have hlen : xs.length = items.size := by
    have := IntsAre.length hi
    simpa using this.symm
  refine wpAny_call (codeAny_of_tree ?_)
  show wpAny _ _ (callAny (.type "set") _) _ _ _
  refine wpAny_pure ⟨Code.quiet_builtin _ (by decide +kernel), codeAny_builtin PySem.F.entry_type_call ?_⟩
  rw [Around.under_plain (weight_type_call_type "set" [.ref l] []) rfl]
  have h1 := PySem.F.called_set.notType
  have h2 := PySem.F.called_set.canCreate
  have hct := PySem.F.typeCall_set_1 (.ref l)
  repeat (any_goals (first | assumption | wp_step))
  refine codeAny_mono (code_set_newL (.ref l) (E := E) (Q₁ := fun obj s₁ => obj = .ref s.heap.objs.size ∧ s₁ = { s with heap := s.heap.push { cls := .type "set", dict := none, data := .set #[] 0 (.fresh 0 0 (!w.params.followText "set-order")) } }) ⟨rfl, rfl⟩) fun r s₁ hr => ?_
  cases r with
  | error e => exact hr
  | ok fl =>
    cases fl with
    | ret obj =>
      obtain ⟨rfl, rfl⟩ := hr
      have led0 : (!w.params.followText "set-order") = (!w.params.followText "set-order") := rfl
      generalize hled : (!w.params.followText "set-order") = led at led0
      have hS : (s.heap.push { cls := .type "set", dict := none, data := .set #[] 0 (.fresh 0 0 led) }).get? s.heap.objs.size = some { cls := .type "set", dict := none, data := .set #[] 0 (.fresh 0 0 led) } := Heap.get?_push_size _ rfl
      have hT : Shared.TypeIs { s with heap := s.heap.push { cls := .type "set", dict := none, data := .set #[] 0 (.fresh 0 0 led) } } (.ref s.heap.objs.size) "set" := ⟨_, hS, rfl⟩
      have hli := PySem.F.called_set.init.lookup
      have hbi := PySem.F.called_set.init.bind (.ref s.heap.objs.size)
      try rw [hled]
      repeat (any_goals (first | assumption | wp_step))
      refine codeAny_mono (codeAny_call_builtin (R := wants (fun r s₂ => r = .none ∧ ∃ h' tk, s₂ = { s with heap := h', toks := tk } ∧
          SetAt w s.heap.objs.size xs h' ∧
          (∀ b o, b < s.heap.objs.size → s.heap.get? b = some o → h'.get? b = some o)) E) PySem.F.called_set.init.plain PySem.F.entry_set_init (check_set_init_1 hT ?_)) fun r₂ s₂ hr₂ => ?_
      · obtain ⟨ol, hol, hcl, nl, hdl⟩ := hl
        obtain ⟨ocls, odict, odata, oslots⟩ := ol
        simp only at hcl hdl
        subst hcl; subst hdl
        have hol' : (s.heap.push { cls := .type "set", dict := none, data := .set #[] 0 (.fresh 0 0 led) }).get? l = some { cls := .type "list", dict := odict, data := .seq items nl, slots := oslots } := Heap.get?_push_of_some _ hol
        have hsls := PySem.F.sub_list_set
        have hslf := PySem.F.sub_list_frozenset
        have hne : (Value.type "list" == Value.type "dict") = false := by decide
        have hl1 : (s.heap.push { cls := .type "set", dict := none, data := .set #[] 0 (.fresh 0 0 led) }).IsList l items := ⟨_, hol', rfl, nl, rfl⟩
        unfold Builtin.«set.__init__» noKeywords Builtin.Frozenset.updateFrom
        generalize hPI : pyIter = PI
        wp_walk
        subst hPI
        refine wpAny_pyIter_list hl1 ?_
        refine wpAny_bind (wpAny_runValue ?_)
        have hlS : l < s.heap.objs.size := Heap.lt_size hol
        have hh3 : A.in1.in1.in1.handled = none := by simp [hh]
        have hneI : l ≠ (s.heap.push { cls := .type "set", dict := none, data := .set #[] 0 (.fresh 0 0 led) }).objs.size := by
          rw [Heap.size_push]; exact Nat.ne_of_lt (Nat.lt_succ_of_lt hlS)
        have hSf : s.heap.objs.size ∉ [(s.heap.push { cls := .type "set", dict := none, data := .set #[] 0 (.fresh 0 0 led) }).objs.size, l] := by
          rw [Heap.size_push]; simp only [List.mem_cons, List.mem_singleton, List.not_mem_nil, or_false, not_or]
          exact ⟨Nat.ne_of_lt (Nat.lt_succ_self _), Nat.ne_of_gt hlS⟩
        have hval : ∀ (i : Nat) (v : Value), items[i]? = some v → ∃ t, v = .int ((xs.getD i 0 : Nat) : Int) t := fun i v hv => by
          obtain ⟨t, e⟩ := PyProof.Rows.IntsAre.int_at hi i v (by rw [Array.getElem?_toList]; exact hv)
          refine ⟨t, ?_⟩
          rw [e, List.getD_eq_getElem?_getD, List.getD_eq_getElem?_getD, List.getElem?_map]
          cases xs[i]? <;> rfl
        refine code_update ((Walks.list hh3 _ l hneI items).toS) s.heap.objs.size
          hSf sm hlen hval (items.size - 0) 0 _ (by omega) (Nat.zero_le _)
          ⟨⟨_, Heap.get?_push_size _ rfl, rfl, rfl⟩, (hl1.push _)⟩ ?hS0 ?hR
        case hS0 =>
          have hget : ((s.heap.push { cls := .type "set", dict := none, data := .set #[] 0 (.fresh 0 0 led) }).push { cls := .type "list_iterator", data := .fields #[.ref l, .int 0 0] }).get? s.heap.objs.size
              = some { cls := .type "set", dict := none, data := .set #[] 0 (.fresh 0 0 led) } := Heap.get?_push_of_some _ hS
          refine ⟨#[], 0, ?_, rfl, ?_⟩
          · rw [hled]
            exact hget
          · exact .nil
        case hR =>
          intro s' hm hS'
          obtain ⟨h', g', d', tk', os'⟩ := s'
          have eg : g' = s.gens := hm.gens
          have ed : d' = s.drawn := hm.drawn
          have eo : os' = s.os := hm.os
          subst eg; subst ed; subst eo
          show wpAny _ _ _ _ _ _
          refine wpAny_pure ?_
          show wpAny _ _ (ret Value.none) _ _ _
          refine wpAny_pure ⟨rfl, h', tk', rfl, hS', fun b o hb e => ?_⟩
          have hb1 : b ≠ s.heap.objs.size := Nat.ne_of_lt hb
          have hb2 : b ≠ (s.heap.push { cls := .type "set", dict := none, data := .set #[] 0 (.fresh 0 0 led) }).objs.size := by
            rw [Heap.size_push]; exact Nat.ne_of_lt (Nat.lt_succ_of_lt hb)
          exact hm.heap b o (by simp only [List.mem_cons, List.mem_singleton, List.not_mem_nil, or_false, not_or]; exact ⟨hb1, hb2⟩) (Heap.get?_push_of_some _ (Heap.get?_push_of_some _ e))
      · cases r₂ with
        | error e => exact hr₂
        | ok fl₂ =>
          cases fl₂ with
          | ret r =>
            obtain ⟨rfl, h', tk, rfl, hS', hk'⟩ := hr₂
            repeat (any_goals (first | assumption | wp_step))
            exact h _ _ hS' hk'
          | _ => exact hr₂.elim
    | _ => exact hr.elim
end
theorem pick_go {α : Type} (next : Nat → Nat) : ∀ (fuel k : Nat) (left : List α) (out : Array α), fuel = left.length → (pickOrder.go next fuel k left out).toList.Perm (out.toList ++ left)
  | 0, k, left, out, h => by
    have : left = [] := List.length_eq_zero_iff.mp h.symm
    subst this
    rw [pickOrder.go, List.append_nil]
  | fuel + 1, k, left, out, h => by
    rw [pickOrder.go]
    have hlt : next k % left.length < left.length := Nat.mod_lt _ (by omega)
    rw [List.getElem?_eq_getElem hlt]
    dsimp only
    refine (pick_go next fuel (k + 1) _ _ (by rw [List.length_eraseIdx_of_lt hlt]; omega)).trans ?_
    rw [Array.toList_push, List.append_assoc]
    refine List.Perm.append_left _ ?_
    generalize next k % left.length = j at hlt
    rw [List.eraseIdx_eq_take_drop_succ]
    refine (List.perm_middle (a := left[j]) (l₁ := left.take j) (l₂ := left.drop (j + 1))).symm.trans ?_
    rw [List.getElem_cons_drop, List.take_append_drop]
theorem pick_perm {α : Type} (next : Nat → Nat) (xs : Array α) : (pickOrder next xs).toList.Perm xs.toList := by
  unfold pickOrder
  exact pick_go next xs.size 0 xs.toList #[] (by simp)
def walkS (w : World) (a : Addr) (ep : Nat) (es : Array (Int × Value)) : Array (Int × Value) := if w.params.followText "set-order" then pickOrder (w.params.setOrder a ep) es else es
theorem walk_perm (w : World) (a : Addr) (ep : Nat) (es : Array (Int × Value)) : (walkS w a ep es).toList.Perm es.toList := by
  unfold walkS
  split
  · exact pick_perm _ _
  · exact List.Perm.refl _
theorem walk_size (w : World) (a : Addr) (ep : Nat) (es : Array (Int × Value)) : (walkS w a ep es).size = es.size := by
  have := (walk_perm w a ep es).length_eq
  simpa using this
theorem slot_setiter_next : Slot "set_iterator" "__next__" "set_iterator.__next__" :=
  .of (owner := "set_iterator") (n := "__next__") (by rw [typeLookup_type, builtinLookup_eq_fast]; kernel_rfl) (by decide +kernel) (by decide +kernel) (by decide +kernel)
    (by first | exact .inl (by decide +kernel) | exact .inr (by decide +kernel)) (by rw [isSubtype_type]; kernel_rfl)
theorem entry_setiter_next : entryFor table "set_iterator.__next__" = some Builtin.«set_iterator.__next__» := entryFor_of_tree (by kernel_rfl)
theorem entry_set_iter : entryFor table "set.__iter__" = some Builtin.«frozenset.__iter__» := entryFor_alias (id' := "frozenset.__iter__") (by kernel_rfl) rfl (by decide +kernel) (by kernel_rfl)
theorem owner_setiter : Manifest.owners.lookup (String.ofList ['r', 'o', 't', 'a', 'r', 'e', 't', 'i', '_', 't', 'e', 's'].reverse) = some Manifest.sig_set_iterator := by kernel_rfl
theorem args_setiter_next (a : Value) : argsOk "set_iterator.__next__" ⟨[a], []⟩ := by
  unfold argsOk; rw [signature?_of (id := "set_iterator.__next__") (n := ['_', '_', 't', 'x', 'e', 'n', '_', '_']) (o := ['r', 'o', 't', 'a', 'r', 'e', 't', 'i', '_', 't', 'e', 's']) (by kernel_rfl) owner_setiter]; kernel_rfl
theorem slot_setiter_iter : Slot "set_iterator" "__iter__" "set_iterator.__iter__" :=
  .of (owner := "set_iterator") (n := "__iter__") (by rw [typeLookup_type, builtinLookup_eq_fast]; kernel_rfl) (by decide +kernel) (by decide +kernel) (by decide +kernel)
    (by first | exact .inl (by decide +kernel) | exact .inr (by decide +kernel)) (by rw [isSubtype_type]; kernel_rfl)
theorem entry_setiter_iter : entryFor table "set_iterator.__iter__" = some Builtin.«dict_keyiterator.__iter__» := entryFor_alias (id' := "dict_keyiterator.__iter__") (by kernel_rfl) rfl (by decide +kernel) (by kernel_rfl)
theorem args_setiter_iter (a : Value) : argsOk "set_iterator.__iter__" ⟨[a], []⟩ := by
  unfold argsOk; rw [signature?_of (id := "set_iterator.__iter__") (n := ['_', '_', 'r', 'e', 't', 'i', '_', '_']) (o := ['r', 'o', 't', 'a', 'r', 'e', 't', 'i', '_', 't', 'e', 's']) (by kernel_rfl) owner_setiter]; kernel_rfl
def setObj (w : World) (es : Array (Int × Value)) (ep : Nat) (xs : List Nat) : Obj := { cls := .type "set", dict := none, data := .set es ep (tabS (!w.params.followText "set-order") xs) }
def itSlot (w : World) (xs : List Nat) (k : Nat) : Nat := if w.params.followText "set-order" then 0 else if k = 0 then 0 else xs.getD (k - 1) 0 + 1
def IsSetIter (w : World) (h : Heap) (it a : Addr) (xs : List Nat) (ep k : Nat) : Prop := ∃ o, h.get? it = some o ∧ o.cls = .type "set_iterator" ∧ o.data = .fields #[.int (itSlot w xs k) 0, .int k 0, .ref a, .int xs.length 0, .int ep 0]
theorem IsSetIter.typeIs {w : World} {s : Shared} {it a : Addr} {xs : List Nat} {ep k : Nat} (h : IsSetIter w s.heap it a xs ep k) : s.TypeIs (.ref it) "set_iterator" := let ⟨o, ho, hc, _⟩ := h; ⟨o, ho, hc⟩
section
variable {prog : Program} {w : World} {A : Around} {E : Value → Shared → Prop} {s : Shared}
theorem wp_setDrawn {a : Addr} {es : Array (Int × Value)} {ep : Nat} {xs : List Nat} (hf : (tabS (!w.params.followText "set-order") xs).fits es.size = true) (ho : s.heap.get? a = some (setObj w es ep xs)) {Q : Bool → Shared → Prop} (h : Q false s) : wpAny (model prog w) A (setDrawn a) Q E s := by
  unfold setDrawn
  refine wpAny_bind (wpAny_setState_of ho rfl hf ?_)
  dsimp only
  unfold setsByText
  refine wpAny_bind (wpAny_bind (wpAny_askSetting (wpAny_pure ?_)))
  refine wpAny_pure ?_
  show Q (!(w.params.followText "set-order") && (!true && _)) s
  rw [Bool.not_true, Bool.false_and, Bool.and_false]
  exact h
theorem wp_pyIter_set {a : Addr} {es : Array (Int × Value)} {ep : Nat} {xs : List Nat} {Q : Value → Shared → Prop} (he : EntsAre es xs) (hx : xs.length ≤ 5) (ho : s.heap.get? a = some (setObj w es ep xs))
    (hQ : Q (.ref s.heap.objs.size) { s with heap := s.heap.push { cls := .type "set_iterator", data := .fields #[.int (itSlot w xs 0) 0, .int 0 0, .ref a, .int xs.length 0, .int ep 0] } }) :
    wpAny (model prog w) A (pyIter (.ref a)) Q E s := by
  have hT : s.TypeIs (.ref a) "set" := ⟨_, ho, rfl⟩
  have hf : (tabS (!w.params.followText "set-order") xs).fits es.size = true := by rw [he.size]; exact fits_tab hx
  refine wpAny_pyIter_slot hT PySem.F.slot_set_iter (wpAny_call_entry PySem.F.slot_set_iter hT entry_set_iter ?_ (PySem.F.args_set_iter_1 _))
  unfold Builtin.«frozenset.__iter__» Builtin.Frozenset.slot0 slotArgs
  simp only [List.isEmpty_nil, Bool.not_true, Bool.false_eq_true, ↓reduceIte, bind_assoc, List.length_nil, bne_self_eq_false]
  refine wpAny_bind (wpAny_pure ?_)
  refine wpAny_bind (wpAny_pure ?_)
  refine wpAny_bind (m := Builtin.Frozenset.sizeOf a) (wpAny_bind (wpAny_setEntries_of ho rfl hf (wpAny_pure ?_)))
  refine wpAny_bind (wp_setDrawn hf ho ?_)
  simp only [Bool.false_eq_true, if_false]
  refine wpAny_bind (wpAny_pure ?_)
  refine wpAny_bind (wpAny_setEpoch_of ho rfl hf ?_)
  refine wpAny_bind (wpAny_newObj_type (wpAny_pure ⟨_, rfl, "set_iterator", _, ⟨_, Heap.get?_push_size _ rfl, rfl⟩, slot_setiter_next.lookup, ?_⟩))
  have e0 : itSlot w xs 0 = 0 := by unfold itSlot; split <;> rfl
  rw [e0] at hQ
  simpa [rawInt, he.size] using hQ
end
section
variable {prog : Program} {w : World} {A : Around} {E : Value → Shared → Prop} {s : Shared}
theorem wp_setNext_some {a : Addr} {es : Array (Int × Value)} {ep : Nat} {xs : List Nat} {k : Nat} {Q : Option (Value × Nat) → Shared → Prop} (he : EntsAre es xs) (sm : SmallS xs) (ho : s.heap.get? a = some (setObj w es ep xs)) {v : Value} (hv : (walkS w a ep es)[k]?.map (·.2) = some v)
    (h : Q (some (v, itSlot w xs (k + 1))) s) : wpAny (model prog w) A (setNext a (itSlot w xs k) k ep) Q E s := by
  have hf : (tabS (!w.params.followText "set-order") xs).fits es.size = true := by rw [he.size]; exact fits_tab sm.len
  unfold setNext
  refine wpAny_bind (wpAny_setState_of ho rfl hf ?_)
  dsimp only
  unfold setsByText
  refine wpAny_bind (wpAny_bind (wpAny_askSetting (wpAny_pure ?_)))
  dsimp only
  unfold walkS at hv
  have hslot : ∀ j, itSlot w xs j = if w.params.followText "set-order" then 0 else if j = 0 then 0 else xs.getD (j - 1) 0 + 1 := fun j => rfl
  cases hb : w.params.followText "set-order" with
  | true =>
    rw [hb] at hv
    simp only [if_true] at hv
    rw [hslot (k + 1), hb] at h
    rw [hslot k, hb]
    show wpAny _ _ (if w.params.followText "set-order" = true then _ else _) _ _ s
    rw [if_pos hb]
    rw [if_neg (by simp)]
    unfold setWalk
    refine wpAny_bind (wpAny_bind (wpAny_setState_of ho rfl hf ?_))
    dsimp only
    unfold setsByText
    refine wpAny_bind (wpAny_bind (wpAny_askSetting (wpAny_pure ?_)))
    dsimp only
    show wpAny _ _ (if w.params.followText "set-order" = true then _ else _) _ _ s
    rw [if_pos hb]
    refine wpAny_bind (wpAny_askSetting (wpAny_pure ?_))
    refine wpAny_pure ?_
    cases hx : (pickOrder (w.params.setOrder a ep) es)[k]? with
    | none => rw [hx] at hv; cases hv
    | some e =>
      rw [hx] at hv
      cases hv
      show Q (((pickOrder (w.params.setOrder a ep) es)[k]?).map fun e => (e.2, 0)) s
      rw [hx]
      exact h
  | false =>
    rw [hb] at hv
    simp only [Bool.false_eq_true, if_false] at hv
    rw [hslot (k + 1), hb] at h
    rw [hslot k, hb]
    show wpAny _ _ (if w.params.followText "set-order" = true then _ else _) _ _ s
    rw [if_neg (by rw [hb]; exact Bool.false_ne_true)]
    refine wpAny_ite_split (fun hab => absurd hab Bool.false_ne_true) (fun _ => ?_)
    refine wpAny_bind (wpAny_of_eq (a := ()) rfl ?_)
    have hk : k < xs.length := by
      have : k < es.size := by
        rcases Nat.lt_or_ge k es.size with h' | h'
        · exact h'
        · rw [Array.getElem?_eq_none h'] at hv
          cases hv
      rw [← he.size]
      exact this
    have e1 : SetTable.below (tabS (!false) xs).place (if false = true then 0 else if k = 0 then 0 else xs.getD (k - 1) 0 + 1) = k := place_below xs sm.mem k (by omega)
    rw [e1]
    have e2 : (tabS (!false) xs).place[k]? = some (xs.getD k 0) := by
      show xs.toArray[k]? = _
      rw [List.getElem?_toArray, List.getElem?_eq_getElem hk, List.getD_eq_getElem?_getD, List.getElem?_eq_getElem hk]
      rfl
    rw [e2]
    cases hx : es[k]? with
    | none => rw [hx] at hv; cases hv
    | some e =>
      rw [hx] at hv
      cases hv
      exact wpAny_pure h
theorem wp_setNext_none {a : Addr} {es : Array (Int × Value)} {ep : Nat} {xs : List Nat} {Q : Option (Value × Nat) → Shared → Prop} (he : EntsAre es xs) (sm : SmallS xs) (ho : s.heap.get? a = some (setObj w es ep xs))
    (h : Q none s) : wpAny (model prog w) A (setNext a (itSlot w xs xs.length) xs.length ep) Q E s := by
  have hf : (tabS (!w.params.followText "set-order") xs).fits es.size = true := by rw [he.size]; exact fits_tab sm.len
  unfold setNext
  refine wpAny_bind (wpAny_setState_of ho rfl hf ?_)
  dsimp only
  unfold setsByText
  refine wpAny_bind (wpAny_bind (wpAny_askSetting (wpAny_pure ?_)))
  dsimp only
  have hslot : ∀ j, itSlot w xs j = if w.params.followText "set-order" then 0 else if j = 0 then 0 else xs.getD (j - 1) 0 + 1 := fun j => rfl
  cases hb : w.params.followText "set-order" with
  | true =>
    rw [hslot xs.length, hb]
    show wpAny _ _ (if w.params.followText "set-order" = true then _ else _) _ _ s
    rw [if_pos hb]
    rw [if_neg (by simp)]
    unfold setWalk
    refine wpAny_bind (wpAny_bind (wpAny_setState_of ho rfl hf ?_))
    dsimp only
    unfold setsByText
    refine wpAny_bind (wpAny_bind (wpAny_askSetting (wpAny_pure ?_)))
    dsimp only
    show wpAny _ _ (if w.params.followText "set-order" = true then _ else _) _ _ s
    rw [if_pos hb]
    refine wpAny_bind (wpAny_askSetting (wpAny_pure ?_))
    refine wpAny_pure ?_
    show Q (((pickOrder (w.params.setOrder a ep) es)[xs.length]?).map fun e => (e.2, 0)) s
    have : (pickOrder (w.params.setOrder a ep) es).size = es.size := by simpa using (pick_perm (w.params.setOrder a ep) es).length_eq
    rw [Array.getElem?_eq_none (by rw [this, he.size]; exact Nat.le_refl _)]
    exact h
  | false =>
    rw [hslot xs.length, hb]
    show wpAny _ _ (if w.params.followText "set-order" = true then _ else _) _ _ s
    rw [if_neg (by rw [hb]; exact Bool.false_ne_true)]
    refine wpAny_ite_split (fun hab => absurd hab Bool.false_ne_true) (fun _ => ?_)
    refine wpAny_bind (wpAny_of_eq (a := ()) rfl ?_)
    have e1 : SetTable.below (tabS (!false) xs).place (if false = true then 0 else if xs.length = 0 then 0 else xs.getD (xs.length - 1) 0 + 1) = xs.length := place_below xs sm.mem xs.length (Nat.le_refl _)
    rw [e1, Array.getElem?_eq_none (show es.size ≤ xs.length by rw [he.size]; exact Nat.le_refl _)]
    exact wpAny_pure h
theorem wp_next_item {it a : Addr} {es : Array (Int × Value)} {ep : Nat} {xs : List Nat} {k : Nat} {Q : Option Value → Shared → Prop} (he : EntsAre es xs) (sm : SmallS xs) (ho : s.heap.get? a = some (setObj w es ep xs)) (hit : IsSetIter w s.heap it a xs ep k) {v : Value} (hv : (walkS w a ep es)[k]?.map (·.2) = some v)
    (hQ : ∀ h', IsSetIter w h' it a xs ep (k + 1) → Heap.SameBut it s.heap h' → Q (some v) { s with heap := h' }) : wpAny (model prog w) A (pyNext (.ref it)) Q E s := by
  have hf : (tabS (!w.params.followText "set-order") xs).fits es.size = true := by rw [he.size]; exact fits_tab sm.len
  obtain ⟨o, hi, hc, hd⟩ := id hit
  unfold pyNext
  refine wpAny_bind (wpAny_attempt (wpAny_callSpecial?_slot (name := Str.ofString "__next__") hit.typeIs slot_setiter_next
    (wpAny_call_entry slot_setiter_next hit.typeIs entry_setiter_next ?_ (args_setiter_next _))))
  unfold Builtin.«set_iterator.__next__» slotArgs
  simp only [List.isEmpty_nil, Bool.not_true, Bool.false_eq_true, ↓reduceIte, bind_assoc, List.length_nil, bne_self_eq_false]
  refine wpAny_bind (wpAny_pure ?_)
  refine wpAny_bind (wpAny_fieldsOf hi hd ?_)
  dsimp only
  refine wpAny_bind (wpAny_setEntries_of ho rfl hf ?_)
  rw [if_neg (by rw [he.size]; simp)]
  simp only [Int.toNat_natCast]
  refine wpAny_bind (wp_setNext_some he sm ho hv ?_)
  dsimp only
  refine wpAny_bind (wpAny_setField hi hd (by simp) ?_)
  have g1 := Heap.get?_update_self (Obj.mapFields (·.setIfInBounds 0 (rawInt (itSlot w xs (k + 1) : Nat)))) hi (Obj.isFreed_of_fields (Obj.data_mapFields hd _))
  have d1 := Obj.data_mapFields hd (·.setIfInBounds 0 (rawInt (itSlot w xs (k + 1) : Nat)))
  refine wpAny_bind (wpAny_setField g1 d1 (by simp) ?_)
  have g2 := Heap.get?_update_self (Obj.mapFields (·.setIfInBounds 1 (rawInt ((k : Int) + 1)))) g1 (Obj.isFreed_of_fields (Obj.data_mapFields d1 _))
  refine wpAny_pure ⟨_, rfl, wpAny_pure (hQ _ ⟨_, g2, ?_, ?_⟩ ((Heap.SameBut.update ..).trans (Heap.SameBut.update ..)))⟩
  · exact (Obj.cls_mapFields ..).trans ((Obj.cls_mapFields ..).trans hc)
  · rw [Obj.data_mapFields d1]
    simp [rawInt]
theorem wp_next_end {it a : Addr} {es : Array (Int × Value)} {ep : Nat} {xs : List Nat} {Q : Option Value → Shared → Prop} (hh : A.handled = none) (he : EntsAre es xs) (sm : SmallS xs) (ho : s.heap.get? a = some (setObj w es ep xs)) (hit : IsSetIter w s.heap it a xs ep xs.length)
    (hQ : ∀ h', Heap.ExtBut it s.heap h' → Q none { s with heap := h' }) : wpAny (model prog w) A (pyNext (.ref it)) Q E s := by
  have hf : (tabS (!w.params.followText "set-order") xs).fits es.size = true := by rw [he.size]; exact fits_tab sm.len
  obtain ⟨o, hi, hc, hd⟩ := id hit
  unfold pyNext
  refine wpAny_bind (wpAny_attempt (wpAny_callSpecial?_slot (name := Str.ofString "__next__") hit.typeIs slot_setiter_next
    (wpAny_call_entry slot_setiter_next hit.typeIs entry_setiter_next ?_ (args_setiter_next _))))
  unfold Builtin.«set_iterator.__next__» slotArgs
  simp only [List.isEmpty_nil, Bool.not_true, Bool.false_eq_true, ↓reduceIte, bind_assoc, List.length_nil, bne_self_eq_false]
  refine wpAny_bind (wpAny_pure ?_)
  refine wpAny_bind (wpAny_fieldsOf hi hd ?_)
  dsimp only
  refine wpAny_bind (wpAny_setEntries_of ho rfl hf ?_)
  rw [if_neg (by rw [he.size]; simp)]
  simp only [Int.toNat_natCast]
  refine wpAny_bind (wp_setNext_none he sm ho ?_)
  dsimp only
  refine wpAny_bind (wpAny_setField hi hd (by simp) ?_)
  show wpAny _ _ (newExc (.type "StopIteration") [] >>= _) _ _ _
  refine wpAny_bind ?_
  simp only [newExc, newTuple]
  refine wpAny_bind (wpAny_newObj_type ?_ (by size_fits))
  refine wpAny_bind (m := firstArgMember _ _) (wpAny_of_eq (a := Value.none) (by first | rfl | (simp only [firstArgMember]; rfl)) ?_)
  refine wpAny_newObj_type ?_ (by size_fits)
  simp only [raiseNew]
  refine wpAny_bind (wpAny_handled ?_)
  rw [show A.in1.handled = none from hh]
  refine wpAny_bind (wpAny_pure (wpAny_throw ?_))
  refine wpAny_bind (wpAny_isInstance (T := "StopIteration") (b := true) ⟨_, Heap.get?_push_size _ rfl, rfl⟩ isSubtype_stop ?_)
  exact wpAny_pure (hQ _ (((Heap.SameBut.update ..).extBut.push _).push _))
theorem wp_pyIter_setiter {it a : Addr} {xs : List Nat} {ep k : Nat} {Q : Value → Shared → Prop} (hit : IsSetIter w s.heap it a xs ep k) (h : Q (.ref it) s) : wpAny (model prog w) A (pyIter (.ref it)) Q E s := by
  refine wpAny_pyIter_slot hit.typeIs slot_setiter_iter (wpAny_call_entry slot_setiter_iter hit.typeIs entry_setiter_iter ?_ (args_setiter_iter _))
  show wpAny _ _ (ret (.ref it)) _ _ s
  exact wpAny_pure ⟨_, rfl, "set_iterator", _, hit.typeIs, slot_setiter_next.lookup, h⟩
theorem IsSetIter.at {h h' : Heap} {it a : Addr} {xs : List Nat} {ep k : Nat} (x : IsSetIter w h it a xs ep k) (e : ∀ o, h.get? it = some o → h'.get? it = some o) : IsSetIter w h' it a xs ep k := let ⟨o, ho, r⟩ := x; ⟨o, e _ ho, r⟩
theorem walks_set (hh : A.handled = none) (I a : Addr) (hne : a ≠ I) {es : Array (Int × Value)} {ep : Nat} {xs : List Nat} (he : EntsAre es xs) (sm : SmallS xs) :
    Walks prog w A I [I, a] [I] xs.length (fun i v => (walkS w a ep es)[i]?.map (·.2) = some v) (fun i h => IsSetIter w h I a xs ep i ∧ h.get? a = some (setObj w es ep xs)) where
  sub := fun b hb => by simp at hb; simp [hb]
  frame := fun _ _ _ st hk => ⟨st.1.at fun o e => hk I (by simp) o e, hk a (by simp) _ st.2⟩
  item := fun i s Q E hi st hQ => by
    have hlt : i < (walkS w a ep es).size := by rw [walk_size, he.size]; exact hi
    have hx : (walkS w a ep es)[i]?.map (·.2) = some (walkS w a ep es)[i].2 := by rw [Array.getElem?_eq_getElem hlt]; rfl
    refine wp_next_item he sm st.2 st.1 hx fun h' hit' hs' => ?_
    exact hQ _ h' s.toks hx ⟨hit', hs'.extBut a _ hne st.2⟩ fun b o hb e => hs'.extBut b o (fun h => hb (by simp [h])) e
  done := fun s Q E st hQ => wp_next_end hh he sm st.2 st.1 fun h' he' => hQ h' s.toks fun b o hb e => he' b o (fun h => hb (by simp [h])) e
  self := fun _ _ _ _ st hQ => wp_pyIter_setiter st.1 hQ
theorem hint_set {r : Addr} {Q : Bool → Shared → Prop} (hT : s.TypeIs (.ref r) "set") (h : Q false s) : wpAny (model prog w) A (Builtin.List.listLengthHint (.ref r)) Q E s := by
  unfold Builtin.List.listLengthHint
  refine wpAny_bind (wpAny_specialOf hT PySem.F.slot_set_len.lookup ?_)
  generalize hid : ("set.__len__" : String) = id0
  wp_delta
  rw [show splitId id0 = some ("set", "__len__") from by subst hid; decide +kernel]
  subst hid
  refine wpAny_bind (wpAny_isInstance (T := "set") (b := true) hT (by rw [isSubtype_type]; kernel_rfl) ?_)
  refine wpAny_ite_split (fun hab => absurd hab (by decide)) (fun _ => ?_)
  refine wpAny_ite_split (fun _ => ?_) (fun hab => absurd (by decide +kernel) hab)
  refine wpAny_bind (wpAny_typeOf hT ?_)
  exact wpAny_pure h
theorem src_set (a : Addr) {es : Array (Int × Value)} {ep : Nat} {xs : List Nat} (he : EntsAre es xs) (sm : SmallS xs) : KdlSrc prog w "set" a a xs.length (fun i v => (walkS w a ep es)[i]?.map (·.2) = some v) (fun h => h.get? a = some (setObj w es ep xs)) where
  type := fun _ hm => ⟨_, hm, rfl⟩
  there := fun _ hm => ⟨Heap.lt_size hm, Heap.lt_size hm⟩
  keep := fun _ _ hm hk => hk a (.inl rfl) _ hm
  notList := by decide
  notTuple := by decide
  hint := fun _ _ _ _ hm hq => hint_set ⟨_, hm, rfl⟩ hq
  iter := fun _ _ hh hm => ⟨_, _, (fun _ _ hq => wp_pyIter_set he sm.len hm hq), walks_set hh _ a (Nat.ne_of_lt (Heap.lt_size hm)) he sm, ⟨⟨_, Heap.get?_push_size _ rfl, rfl, rfl⟩, Heap.get?_push_of_some _ hm⟩⟩
theorem intsAre_perm : ∀ {vs us : List Value} {ns : List Int}, vs.Perm us → IntsAre vs ns → ∃ ms, IntsAre us ms ∧ ms.Perm ns := by
  intro vs us ns p
  induction p generalizing ns with
  | nil => exact fun h => ⟨_, h, .refl _⟩
  | cons x _ ih =>
    rintro (_ | ⟨n, t, h⟩)
    obtain ⟨ms, h1, h2⟩ := ih h
    exact ⟨n :: ms, .cons n t h1, h2.cons n⟩
  | swap x y l =>
    rintro (_ | ⟨n, t, _ | ⟨m, u, h⟩⟩)
    exact ⟨_, .cons m u (.cons n t h), .swap ..⟩
  | trans _ _ ih1 ih2 =>
    intro h
    obtain ⟨ms, h1, h2⟩ := ih1 h
    obtain ⟨ms', h3, h4⟩ := ih2 h1
    exact ⟨ms', h3, h4.trans h2⟩
theorem call_sortedL {a : Addr} {xs : List Nat} {Q : Value → Shared → Prop} (hh : A.handled = none) (sm : SmallS xs) (hs : SetAt w a xs s.heap)
    (h : ∀ (h1 h' : Heap) (tk c : Nat) (vs : List Value), (∀ b o, s.heap.get? b = some o → h1.get? b = some o) → (∀ b o, h1.get? b = some o → h'.get? b = some o) → h'.get? h1.objs.size = some { cls := .type "list", data := .seq vs.toArray c } → IntsAre vs (xs.map fun n => ((n : Nat) : Int)) →
      Q (.ref h1.objs.size) { s with heap := h', toks := tk }) :
    wpAny (model prog w) A (call (.builtin "sorted") [.ref a]) Q E s := by
  obtain ⟨es, ep, ho, he⟩ := hs
  have l5 := sm.len
  refine call_function_entry kind_sorted plain_sorted entry_sorted (args_sorted1 _) ?_
  unfold Builtin.«sorted»
  refine wpAny_bind (m := checkCount "sorted" 1 1 _) (wpAny_pure ?_)
  refine wpAny_bind (kdu_collect (A := A.in1) (src_set a he sm) hh ho (by have : 5 ≤ sizeLine := by decide
                                                                          omega) fun h' tk acc hk hacc => ?_)
  have hl : acc.toList.length = xs.length := by rw [Array.length_toList]; exact hacc.1
  refine wpAny_bind (wpAny_newList ?_ (by rw [hl]; have : 5 ≤ sizeLine := by decide
                                          omega))
  dsimp only
  have hoL : (h'.push { cls := .type "list", data := .seq acc.toList.toArray }).get? h'.objs.size = some (seqObj "list" acc.toList.toArray 0) := Heap.get?_push_size _ rfl
  have hacc2 : ∀ j v, acc.toList[j]? = some v → ((walkS w a ep es).toList.map (·.2))[j]? = some v := fun j v e => by
    have := hacc.2 j v (by rw [← Array.getElem?_toList]; exact e)
    rw [List.getElem?_map, Array.getElem?_toList]
    exact this
  have evs : acc.toList = (walkS w a ep es).toList.map (·.2) := by
    refine List.ext_getElem (hl.trans (by rw [List.length_map]; exact ((Array.length_toList).trans ((walk_size w a ep es).trans he.size)).symm)) fun j h1 h2 => ?_
    have := hacc2 j _ (List.getElem?_eq_getElem h1)
    rw [List.getElem?_eq_getElem h2] at this
    exact (Option.some.inj this).symm
  have hperm : acc.toList.Perm (es.toList.map (·.2)) := by
    rw [evs]
    exact (walk_perm w a ep es).map _
  obtain ⟨ns, hI, hp⟩ := intsAre_perm hperm.symm he.val
  refine wpAny_bind (wpAny_holding (wpAny_call_entry slot_list_sort ⟨_, hoL, rfl⟩ entry_list_sort (list_sort_tree hoL hI (by omega) fun out ns' a1 a2 a3 => ⟨_, rfl, ?_⟩) (args_list_sort _)))
  obtain ⟨e, hse⟩ := sortedHeap_at (out := out) hoL
  have ens : ns' = xs.map fun n => ((n : Nat) : Int) := by
    refine ksm_same (a2.trans hp) a3 ?_
    rw [List.pairwise_map]
    exact sm.1.imp fun h => by omega
  rw [ens] at a1
  refine wpAny_pure ⟨_, rfl, h h' _ tk e out.toList hk (fun b o e' => ?_) ?_ a1⟩
  · have hb := Heap.lt_size e'
    rw [sortedHeap_old (Nat.ne_of_lt hb) (by rw [Heap.size_push]; exact Nat.lt_succ_of_lt hb)]
    exact Heap.get?_push_of_some _ e'
  · rw [Array.toArray_toList]
    exact hse
end
section
variable {X : Cx} {K : PySem.W.Frag} {w : World}
theorem ints_of : ∀ {its : List Value} {ns : List Int}, Vals (ns.map V.int) its → IntsAre its ns
  | _, [], .nil => .nil
  | _, n :: ns, .cons r t => by
    obtain ⟨u, rfl⟩ := r
    exact .cons n u (ints_of t)
theorem of_ints : ∀ {its : List Value} {ns : List Int}, IntsAre its ns → Vals (ns.map V.int) its
  | _, _, .nil => .nil
  | _, _, .cons n t r => .cons ⟨t, rfl⟩ (of_ints r)
def SetO (w : World) (a : Addr) (xs : List Nat) : HO := .ext (SetAt w a xs)
def natsV (xs : List Nat) : List V := (xs.map fun n => ((n : Nat) : Int)).map V.int
theorem call_setK (hK : X.K = K) (hw : X.w = w) (hc : X.calm = true) : CallR X (.type "set") (fun vs H Q => ∃ (a : Addr) (xs : List Nat), vs = [.ref a] ∧ SqL K H a (natsV xs) ∧ SmallS xs ∧ ∀ l, H l = none → Q (.ref l) (upd H l (SetO w l xs))) := by
  subst hK
  subst hw
  intro pins s σ H ys us Q I r h
  obtain ⟨a, xs, rfl, hq, sm, q⟩ := h
  obtain ⟨u, rfl, rx⟩ := vals1 r
  cases rx
  obtain ⟨its, rv, p, hz⟩ := I.list hq
  refine call_setL (I.ok.hd hc) p.isList sm (by simpa using ints_of rv) fun h' tk hS hk => ?_
  refine ⟨.ref s.heap.objs.size, _, I.laid (t' := tk) (fun b o e => hk b o (Heap.lt_size e) e) (Nat.le_refl _) (show ObjOk X.prog X.w _ h' _ (.ext _) from ⟨hS, ?_, fun h1 h2 x e => x.ok e⟩), rfl, q _ (I.hok.fresh (Nat.le_refl _))⟩
  obtain ⟨es, ep, e, _⟩ := hS
  exact ⟨_, e⟩
theorem call_sortK (hw : X.w = w) (hc : X.calm = true) : CallR X (.builtin "sorted") (fun vs H Q => ∃ (a : Addr) (xs : List Nat), vs = [.ref a] ∧ H a = some (SetO w a xs) ∧ SmallS xs ∧ ∀ l, H l = none → Q (.ref l) (upd H l (.lst (natsV xs)))) := by
  subst hw
  intro pins s σ H ys us Q I r h
  obtain ⟨a, xs, rfl, hH, sm, q⟩ := h
  obtain ⟨u, rfl, rx⟩ := vals1 r
  cases rx
  have ho : ObjOk X.prog X.w H s.heap a (.ext (SetAt X.w a xs)) := I.hok a _ hH
  refine call_sortedL (I.ok.hd hc) sm ho.1 fun h1 h' tk c vs k1 k2 hg hI => ?_
  have I1 : Inv X pins σ H { s with heap := h1, toks := tk } := I.kept k1
  have l5 := sm.len
  have sl : 5 ≤ sizeLine := by decide
  exact ⟨.ref h1.objs.size, _, I1.laid (t' := tk) k2 (Nat.le_refl _) (show ObjOk X.prog X.w _ h' _ (.lst (natsV xs)) from ⟨by simp [natsV]; omega, vs, c, of_ints hI, hg⟩), rfl, q _ (I1.hok.fresh (Nat.le_refl _))⟩
end
end L2
namespace Hw
open PySem L2
def top (i : Nat) : Stmt := PySem.Challenge.pw_hoistworks_k09_whole_ropes_that_can_be_s.main.body.getD i (.Pass ⟨0, 0, 0, 0⟩)
abbrev s_common_divisor : Stmt := top 2
abbrev s_lowest : Stmt := top 3
abbrev s_plus : Stmt := top 4
abbrev s_minus : Stmt := top 5
abbrev s_times : Stmt := top 6
abbrev s_over : Stmt := top 7
abbrev s_less : Stmt := top 8
abbrev s_strands_at : Stmt := top 10
abbrev s_strands_of : Stmt := top 11
abbrev s_added : Stmt := top 12
abbrev s_spare : Stmt := top 13
abbrev s_gain : Stmt := top 14
abbrev s_Bearing___init__ : Stmt := inClass (top 17) 0
abbrev s_Bearing_sinks : Stmt := inClass (top 17) 1
abbrev s_Bearing_pulls : Stmt := inClass (top 17) 2
abbrev s_Bearing_motion : Stmt := inClass (top 17) 3
abbrev s_Bearing_lessen : Stmt := inClass (top 17) 4
abbrev s_Bearing_settle : Stmt := inClass (top 17) 5
abbrev s_Bearing_short_rope : Stmt := inClass (top 17) 6
abbrev s_Bearing_leave_props : Stmt := inClass (top 17) 7
abbrev s_Bearing_first_freed : Stmt := inClass (top 17) 8
abbrev s_Bearing_freed_sooner : Stmt := inClass (top 17) 9
abbrev s_Bearing_take_place : Stmt := inClass (top 17) 10
abbrev s_first_row : Stmt := top 18
abbrev s_whole_way : Stmt := top 19
abbrev s_cleared : Stmt := top 20
abbrev s_first_true : Stmt := top 21
abbrev s_Hoist___init__ : Stmt := inClass (top 34) 0
abbrev s_Hoist_weights : Stmt := inClass (top 34) 1
abbrev s_Hoist_many_ropes : Stmt := inClass (top 34) 2
abbrev s_Hoist_strands : Stmt := inClass (top 34) 3
abbrev s_check_weights : Stmt := top 35
abbrev s_check_rope : Stmt := top 36
abbrev s_check_number : Stmt := top 37
abbrev s_added_strands : Stmt := top 38
abbrev s_told_ropes : Stmt := top 39
abbrev s_told_pairs : Stmt := top 40
abbrev s_without : Stmt := top 41
abbrev s_judged : Stmt := top 43
abbrev s_least_pull : Stmt := top 44
abbrev s_can_be_spared : Stmt := top 45
abbrev s_still_bearing : Stmt := top 46
abbrev s__law_cell_at : Stmt := top 48
abbrev s__law_whole : Stmt := top 49
abbrev s__law_low : Stmt := top 50
abbrev s__law_plus : Stmt := top 51
abbrev s__law_part : Stmt := top 52
abbrev s__law_table : Stmt := top 53
abbrev s__law_ropes : Stmt := top 54
abbrev s__law_sum : Stmt := top 55
abbrev s__law_held : Stmt := top 57
abbrev s__law_parts : Stmt := top 58
abbrev s__law_drawn : Stmt := top 59
abbrev s__law_tried : Stmt := top 60
abbrev s__law_still : Stmt := top 61
abbrev s_law : Stmt := top 62
structure Ad where
  Bearing : Addr
  Hoist : Addr
  HoistError : Addr
  NoHoist : Addr
  NoRope : Addr
  NoBody : Addr
  Sinks : Addr
  NOUGHT : Addr
  ONE : Addr
structure Txt (K : PySem.W.Frag) (mg : Str → Option Value) (C : Ad) : Prop where
  b_len : mg "len" = none
  b_abs : mg "abs" = none
  b_min : mg "min" = none
  b_max : mg "max" = none
  b_isinstance : mg "isinstance" = none
  b_sum : mg "sum" = none
  b_sorted : mg "sorted" = none
  b_int : mg "int" = none
  b_list : mg "list" = none
  b_tuple : mg "tuple" = none
  b_bool : mg "bool" = none
  b_range : mg "range" = none
  b_set : mg "set" = none
  b_zip : mg "zip" = none
  b_enumerate : mg "enumerate" = none
  b_ValueError : mg "ValueError" = none
  g_NOUGHT : mg "NOUGHT" = some (.ref C.NOUGHT)
  k_NOUGHT : ∀ H, SqT K H C.NOUGHT [.int 0, .int 1]
  g_ONE : mg "ONE" = some (.ref C.ONE)
  k_ONE : ∀ H, SqT K H C.ONE [.int 1, .int 1]
  g_MOST_BODIES : ∃ t, mg "MOST_BODIES" = some (.int 4 t)
  g_MOST_ROPES : ∃ t, mg "MOST_ROPES" = some (.int 5 t)
  g_MOST_WEIGHT : ∃ t, mg "MOST_WEIGHT" = some (.int 1000 t)
  g_MOST_PAIRS : ∃ t, mg "MOST_PAIRS" = some (.int 12 t)
  g_MOST_STRANDS : ∃ t, mg "MOST_STRANDS" = some (.int 9 t)
  c_Bearing : mg "Bearing" = some (.ref C.Bearing)
  l_Bearing : Cls K C.Bearing
  n_ropes : NoAttr K C.Bearing "ropes"
  n_rows : NoAttr K C.Bearing "rows"
  n_bearers : NoAttr K C.Bearing "bearers"
  n_way : NoAttr K C.Bearing "way"
  c_Hoist : mg "Hoist" = some (.ref C.Hoist)
  l_Hoist : Cls K C.Hoist
  n_body_weights : NoAttr K C.Hoist "body_weights"
  n_rope_strands : NoAttr K C.Hoist "rope_strands"
  c_HoistError : mg "HoistError" = some (.ref C.HoistError)
  c_NoHoist : mg "NoHoist" = some (.ref C.NoHoist)
  c_NoRope : mg "NoRope" = some (.ref C.NoRope)
  c_NoBody : mg "NoBody" = some (.ref C.NoBody)
  c_Sinks : mg "Sinks" = some (.ref C.Sinks)
  e_NoBody : ExcCls K C.NoBody
  e_NoRope : ExcCls K C.NoRope
  e_Sinks : ExcCls K C.Sinks
  i_Sinks : ExcIsi K C.Sinks
  kit_Sinks_HoistError : PySem.W.kitOne K (.ref C.Sinks) (.ref C.HoistError) = some true
  kit_Sinks_NoHoist : PySem.W.kitOne K (.ref C.Sinks) (.ref C.NoHoist) = some false
  kit_Sinks_NoRope : PySem.W.kitOne K (.ref C.Sinks) (.ref C.NoRope) = some false
  kit_Sinks_NoBody : PySem.W.kitOne K (.ref C.Sinks) (.ref C.NoBody) = some false
  kit_Sinks_Sinks : PySem.W.kitOne K (.ref C.Sinks) (.ref C.Sinks) = some true
  kit_Sinks_V : PySem.W.kitOne K (.ref C.Sinks) (.type "ValueError") = some true
  exm_Sinks : PySem.W.exmOne K (.ref C.Sinks) (.ref C.HoistError) = some true
theorem kit_ii (K : PySem.W.Frag) : PySem.W.kitOne K (.type "int") (.type "int") = some true := kit_ty K (by decide +kernel)
theorem kit_ib (K : PySem.W.Frag) : PySem.W.kitOne K (.type "int") (.type "bool") = some false := kit_ty K (by decide +kernel)
theorem kit_tt (K : PySem.W.Frag) : PySem.W.kitOne K (.type "tuple") (.type "tuple") = some true := kit_ty K (by decide +kernel)
theorem kit_ll (K : PySem.W.Frag) : PySem.W.kitOne K (.type "list") (.type "list") = some true := kit_ty K (by decide +kernel)
def spGcd : Sp := fun vs H Q _ => ∃ a b : Int, vs = [.int a, .int b] ∧ Q (.int (Int.gcd a b : Int)) H
def spLowest (K : PySem.W.Frag) : Sp := fun vs H Q _ => ∃ t b : Int, vs = [.int t, .int b] ∧ b ≠ 0 ∧ Sz 9000 b ∧ Res K H Q (frD (Rat.divInt t b))
def spLow (K : PySem.W.Frag) : Sp := fun vs H Q _ => ∃ t b : Int, vs = [.int t, .int b] ∧ 0 < b ∧ Sz 9000 b ∧ Res K H Q (frD (Rat.divInt t b))
def spRat (K : PySem.W.Frag) (c : Rat → Prop) (f : Rat → Rat → Rat) : Sp := fun vs H Q _ => ∃ (v u : V) (q r : Rat), vs = [v, u] ∧ HasD K H v (frD q) ∧ HasD K H u (frD r) ∧ RSz 4000 q ∧ RSz 4000 r ∧ c r ∧ Res K H Q (frD (f q r))
def spLess (K : PySem.W.Frag) : Sp := fun vs H Q _ => ∃ (v u : V) (q r : Rat), vs = [v, u] ∧ HasD K H v (frD q) ∧ HasD K H u (frD r) ∧ RSz 4000 q ∧ RSz 4000 r ∧ Q (.bl (decide (q < r))) H
theorem sc_common_divisor : FnScope ["one", "other", "divisor", "rest", "smaller"] ["one", "other"] (defScope s_common_divisor) := ⟨rfl, rfl, rfl, by decide +kernel, rfl, by decide +kernel, by decide +kernel⟩
theorem ok_common_divisor {P : Program} {w : World} {K : PySem.W.Frag} {mg : Str → Option Value} {base : Heap} {C : Ad} (T : Txt K mg C) (D : Def K mg "common_divisor" "common_divisor" s_common_divisor ["one", "other"]) :
    Own P w K mg base CX0 "common_divisor" ["one", "other"] 1 (spGcd) := by
  refine D.own sc_common_divisor (fun vs H Q E h => ?_) (fun f cdv A outer s H vs Q E hr h => ?_)
  · obtain ⟨a, b, rfl, _⟩ := h
    rfl
  · obtain ⟨a, b, rfl, k⟩ := h
    refine ⟨_, (pss_cons (ps_set (i := 2) sc_common_divisor.nd rfl (Or.inl rfl) (pe_callB (call_abs) rfl T.b_abs bt_abs (pa_cons (pv 0) pa_nil)))
        (pss_cons (ps_set (i := 3) sc_common_divisor.nd rfl (Or.inl rfl) (pe_callB (call_abs) rfl T.b_abs bt_abs (pa_cons (pv 1) pa_nil)))
        (pss_cons (ps_while PassesOwn.never (pt_cmpR op_ne (pv 3) pe_int (nomark _))
        (pss_cons (ps_set (i := 4) sc_common_divisor.nd rfl (Or.inl rfl) (pe_op op_mod (pv 2) (pv 3)))
        (pss_cons (ps_set (i := 2) sc_common_divisor.nd rfl (Or.inl rfl) (pv 3))
        (pss_one (ps_set (i := 3) sc_common_divisor.nd rfl (Or.inl rfl) (pv 4))))))
        (pss_one (ps_ret (pv 2)))))), ?_⟩
    refine ⟨_, rfl, a, rfl, ?_⟩
    refine ⟨_, rfl, b, rfl, ?_⟩
    refine while_by (fun σ H' => H' = H ∧ ∃ (d r : Int) (z : Option V), σ = [some (.int a), some (.int b), some (.int d), some (.int r), z] ∧ 0 ≤ d ∧ 0 ≤ r ∧ Int.gcd d r = Int.gcd a b)
      (fun σ _ => match σ with | [_, _, _, some (.int r), _] => r.toNat | _ => 0) ⟨rfl, _, _, _, rfl, ?_, ?_, ?_⟩ ?_ ?_
    · exact abs_nn a
    · exact abs_nn b
    · exact gcd_abs2 a b
    · rintro σ H' ⟨rfl, d, r, z, rfl, hd, hr', hg⟩
      refine ⟨_, rfl, rfl, _, rfl, ?_⟩
      by_cases hz : r = 0
      · subst hz
        refine ifN (by simp) ?_
        refine ⟨_, rfl, ?_⟩
        have e : d = (Int.gcd a b : Int) := by rw [← hg, gcd_end hd]
        rw [e]
        exact k
      · refine ifP (by simp [hz]) ?_
        refine ⟨_, rfl, _, rfl, _, _, rfl, rfl, (by show 0 < r; omega), ?_⟩
        refine ⟨_, rfl, ?_⟩
        refine ⟨_, rfl, ?_⟩
        have h0 := Int.emod_nonneg d hz
        have h1 := Int.emod_lt_of_pos d (show 0 < r by omega)
        refine ⟨⟨rfl, r, d % r, _, rfl, hr', h0, ?_⟩, ?_⟩
        · rw [gcd_turn, hg]
        · show (d % r).toNat < r.toNat
          omega
    · rintro σ H' Q1 Q2 hq ⟨v, e1, e2, kk, e3, q⟩
      exact ⟨v, e1, e2, kk, e3, hq _ _ q⟩
theorem sc_lowest : FnScope ["top", "bottom", "divisor"] ["top", "bottom"] (defScope s_lowest) := ⟨rfl, rfl, rfl, by decide +kernel, rfl, by decide +kernel, by decide +kernel⟩
theorem ok_lowest {P : Program} {w : World} {K : PySem.W.Frag} {mg : Str → Option Value} {base : Heap} {C : Ad} (T : Txt K mg C) (D : Def K mg "lowest" "lowest" s_lowest ["top", "bottom"])
    (o_common_divisor : Own P w K mg base CX0 "common_divisor" ["one", "other"] 1 (spGcd)) :
    Own P w K mg base CX0 "lowest" ["top", "bottom"] 2 (spLowest K) := by
  refine D.own sc_lowest (fun vs H Q E h => ?_) (fun f cdv A outer s H vs Q E hr h => ?_)
  · obtain ⟨a, b, rfl, _⟩ := h
    rfl
  · obtain ⟨t, b, rfl, hb, hs, k⟩ := h
    refine ⟨_, (pss_cons (ps_set (i := 2) sc_lowest.nd rfl (Or.inl rfl) (pe_own o_common_divisor (hr.mono (by decide)) rfl pass0 (pa_cons (pv 0) (pa_cons (pv 1) pa_nil))))
        (pss_cons (ps_if (pt_cmpR op_lt (pv 1) pe_int (nomark _))
        (pss_one (ps_set (i := 2) sc_lowest.nd rfl (Or.inl rfl) (pe_un un_neg (pv 2))))
        pss_nil)
        (pss_one (ps_ret (pe_tup (pa_cons (pe_op op_fdivL (pv 0) (pv 2)) (pa_cons (pe_op op_fdivL (pv 1) (pv 2)) pa_nil))))))), ?_⟩
    have g0 := gpos t hb
    have gs : Sz 9000 (Int.gcd t b : Int) := hs.of_le (gcd_le t hb)
    have e := lowI_rat t hb
    have e1 : (Rat.divInt t b).num = (lowI t b).1 := by rw [e]
    have e2 : ((Rat.divInt t b).den : Int) = (lowI t b).2 := by rw [e]
    refine ⟨_, rfl, _, rfl, t, b, rfl, ?_⟩
    refine ⟨_, rfl, _, _, rfl, rfl, _, rfl, ?_⟩
    by_cases hn : b < 0
    · refine ifP (by simp [hn]) ?_
      refine ⟨_, rfl, _, rfl, ?_⟩
      refine ⟨_, rfl, _, rfl, _, _, rfl, rfl, ⟨by omega, gs.neg⟩, _, rfl, _, rfl, _, _, rfl, rfl, ⟨by omega, gs.neg⟩, (by show 2 ≤ sizeLine; decide), fun p hp => ?_⟩
      refine k _ _ (Same.upd hp) (fr_new (SqT.of ?_))
      rw [e1, e2, lowI, if_pos hn, ← fdiv_neg1, ← fdiv_neg2]
      exact upd_same
    · refine ifN (by simp [hn]) ?_
      refine ⟨_, rfl, _, rfl, _, _, rfl, rfl, ⟨by omega, gs⟩, _, rfl, _, rfl, _, _, rfl, rfl, ⟨by omega, gs⟩, (by show 2 ≤ sizeLine; decide), fun p hp => ?_⟩
      refine k _ _ (Same.upd hp) (fr_new (SqT.of ?_))
      rw [e1, e2, lowI, if_neg hn, ← fdiv_low1, ← fdiv_low2]
      exact upd_same
theorem sc_plus : FnScope ["one", "other"] ["one", "other"] (defScope s_plus) := ⟨rfl, rfl, rfl, by decide +kernel, rfl, by decide +kernel, by decide +kernel⟩
theorem ok_plus {P : Program} {w : World} {K : PySem.W.Frag} {mg : Str → Option Value} {base : Heap} {C : Ad} (T : Txt K mg C) (D : Def K mg "plus" "plus" s_plus ["one", "other"])
    (o_lowest : Own P w K mg base CX0 "lowest" ["top", "bottom"] 2 (spLowest K)) :
    Own P w K mg base CX0 "plus" ["one", "other"] 3 (spRat K (fun _ => True) (· + ·)) := by
  refine D.own sc_plus (fun vs H Q E h => ?_) (fun f cdv A outer s H vs Q E hr h => ?_)
  · obtain ⟨p, q, a, b, rfl, _⟩ := h
    rfl
  · obtain ⟨v, u, q, r, rfl, hv, hu, ⟨sa, sb⟩, ⟨sc, sd⟩, _, k⟩ := h
    obtain ⟨p, rfl, hp⟩ := has_fr hv
    obtain ⟨p', rfl, hq⟩ := has_fr hu
    refine ⟨_, (pss_one (ps_ret (pe_own o_lowest (hr.mono (by decide)) rfl pass0 (pa_cons (pe_op op_add (pe_op op_mulL (pe_ix (ix_tupK (K := K) rfl) (pv 0) pe_int (fun _ _ => rfl)) (pe_ix (ix_tupK (K := K) rfl) (pv 1) pe_int (fun _ _ => rfl))) (pe_op op_mulL (pe_ix (ix_tupK (K := K) rfl) (pv 1) pe_int (fun _ _ => rfl)) (pe_ix (ix_tupK (K := K) rfl) (pv 0) pe_int (fun _ _ => rfl)))) (pa_cons (pe_op op_mulL (pe_ix (ix_tupK (K := K) rfl) (pv 0) pe_int (fun _ _ => rfl)) (pe_ix (ix_tupK (K := K) rfl) (pv 1) pe_int (fun _ _ => rfl))) pa_nil))))), ?_⟩
    have l : ∀ {x : Int}, Sz 4000 x → Sz 9000 x := fun h => h.mono (by decide)
    refine ⟨_, rfl, p, _, _, _, rfl, rfl, hp, rfl, _, rfl, p', _, _, _, rfl, rfl, hq, rfl, _, _, rfl, rfl, ⟨l sa, l sd⟩,
      _, rfl, p', _, _, _, rfl, rfl, hq, rfl, _, rfl, p, _, _, _, rfl, rfl, hp, rfl, _, _, rfl, rfl, ⟨l sc, l sb⟩, _, _, rfl, rfl,
      _, rfl, p, _, _, _, rfl, rfl, hp, rfl, _, rfl, p', _, _, _, rfl, rfl, hq, rfl, _, _, rfl, rfl, ⟨l sb, l sd⟩, ?_⟩
    refine ⟨_, _, rfl, Int.ne_of_gt (Int.mul_pos (den_pos q) (den_pos r)), (sb.mul sd).mono (by decide), ?_⟩
    rw [rat_add]
    exact k
theorem sc_minus : FnScope ["one", "other"] ["one", "other"] (defScope s_minus) := ⟨rfl, rfl, rfl, by decide +kernel, rfl, by decide +kernel, by decide +kernel⟩
theorem ok_minus {P : Program} {w : World} {K : PySem.W.Frag} {mg : Str → Option Value} {base : Heap} {C : Ad} (T : Txt K mg C) (D : Def K mg "minus" "minus" s_minus ["one", "other"])
    (o_lowest : Own P w K mg base CX0 "lowest" ["top", "bottom"] 2 (spLowest K)) :
    Own P w K mg base CX0 "minus" ["one", "other"] 3 (spRat K (fun _ => True) (· - ·)) := by
  refine D.own sc_minus (fun vs H Q E h => ?_) (fun f cdv A outer s H vs Q E hr h => ?_)
  · obtain ⟨p, q, a, b, rfl, _⟩ := h
    rfl
  · obtain ⟨v, u, q, r, rfl, hv, hu, ⟨sa, sb⟩, ⟨sc, sd⟩, _, k⟩ := h
    obtain ⟨p, rfl, hp⟩ := has_fr hv
    obtain ⟨p', rfl, hq⟩ := has_fr hu
    refine ⟨_, (pss_one (ps_ret (pe_own o_lowest (hr.mono (by decide)) rfl pass0 (pa_cons (pe_op op_sub (pe_op op_mulL (pe_ix (ix_tupK (K := K) rfl) (pv 0) pe_int (fun _ _ => rfl)) (pe_ix (ix_tupK (K := K) rfl) (pv 1) pe_int (fun _ _ => rfl))) (pe_op op_mulL (pe_ix (ix_tupK (K := K) rfl) (pv 1) pe_int (fun _ _ => rfl)) (pe_ix (ix_tupK (K := K) rfl) (pv 0) pe_int (fun _ _ => rfl)))) (pa_cons (pe_op op_mulL (pe_ix (ix_tupK (K := K) rfl) (pv 0) pe_int (fun _ _ => rfl)) (pe_ix (ix_tupK (K := K) rfl) (pv 1) pe_int (fun _ _ => rfl))) pa_nil))))), ?_⟩
    have l : ∀ {x : Int}, Sz 4000 x → Sz 9000 x := fun h => h.mono (by decide)
    refine ⟨_, rfl, p, _, _, _, rfl, rfl, hp, rfl, _, rfl, p', _, _, _, rfl, rfl, hq, rfl, _, _, rfl, rfl, ⟨l sa, l sd⟩,
      _, rfl, p', _, _, _, rfl, rfl, hq, rfl, _, rfl, p, _, _, _, rfl, rfl, hp, rfl, _, _, rfl, rfl, ⟨l sc, l sb⟩, _, _, rfl, rfl,
      _, rfl, p, _, _, _, rfl, rfl, hp, rfl, _, rfl, p', _, _, _, rfl, rfl, hq, rfl, _, _, rfl, rfl, ⟨l sb, l sd⟩, ?_⟩
    refine ⟨_, _, rfl, Int.ne_of_gt (Int.mul_pos (den_pos q) (den_pos r)), (sb.mul sd).mono (by decide), ?_⟩
    rw [rat_sub]
    exact k
theorem sc_times : FnScope ["one", "other"] ["one", "other"] (defScope s_times) := ⟨rfl, rfl, rfl, by decide +kernel, rfl, by decide +kernel, by decide +kernel⟩
theorem ok_times {P : Program} {w : World} {K : PySem.W.Frag} {mg : Str → Option Value} {base : Heap} {C : Ad} (T : Txt K mg C) (D : Def K mg "times" "times" s_times ["one", "other"])
    (o_lowest : Own P w K mg base CX0 "lowest" ["top", "bottom"] 2 (spLowest K)) :
    Own P w K mg base CX0 "times" ["one", "other"] 3 (spRat K (fun _ => True) (· * ·)) := by
  refine D.own sc_times (fun vs H Q E h => ?_) (fun f cdv A outer s H vs Q E hr h => ?_)
  · obtain ⟨p, q, a, b, rfl, _⟩ := h
    rfl
  · obtain ⟨v, u, q, r, rfl, hv, hu, ⟨sa, sb⟩, ⟨sc, sd⟩, _, k⟩ := h
    obtain ⟨p, rfl, hp⟩ := has_fr hv
    obtain ⟨p', rfl, hq⟩ := has_fr hu
    refine ⟨_, (pss_one (ps_ret (pe_own o_lowest (hr.mono (by decide)) rfl pass0 (pa_cons (pe_op op_mulL (pe_ix (ix_tupK (K := K) rfl) (pv 0) pe_int (fun _ _ => rfl)) (pe_ix (ix_tupK (K := K) rfl) (pv 1) pe_int (fun _ _ => rfl))) (pa_cons (pe_op op_mulL (pe_ix (ix_tupK (K := K) rfl) (pv 0) pe_int (fun _ _ => rfl)) (pe_ix (ix_tupK (K := K) rfl) (pv 1) pe_int (fun _ _ => rfl))) pa_nil))))), ?_⟩
    have l : ∀ {x : Int}, Sz 4000 x → Sz 9000 x := fun h => h.mono (by decide)
    refine ⟨_, rfl, p, _, _, _, rfl, rfl, hp, rfl, _, rfl, p', _, _, _, rfl, rfl, hq, rfl, _, _, rfl, rfl, ⟨l sa, l sc⟩,
      _, rfl, p, _, _, _, rfl, rfl, hp, rfl, _, rfl, p', _, _, _, rfl, rfl, hq, rfl, _, _, rfl, rfl, ⟨l sb, l sd⟩, ?_⟩
    refine ⟨_, _, rfl, Int.ne_of_gt (Int.mul_pos (den_pos q) (den_pos r)), (sb.mul sd).mono (by decide), ?_⟩
    rw [rat_mul]
    exact k
theorem sc_over : FnScope ["one", "other"] ["one", "other"] (defScope s_over) := ⟨rfl, rfl, rfl, by decide +kernel, rfl, by decide +kernel, by decide +kernel⟩
theorem ok_over {P : Program} {w : World} {K : PySem.W.Frag} {mg : Str → Option Value} {base : Heap} {C : Ad} (T : Txt K mg C) (D : Def K mg "over" "over" s_over ["one", "other"])
    (o_lowest : Own P w K mg base CX0 "lowest" ["top", "bottom"] 2 (spLowest K)) :
    Own P w K mg base CX0 "over" ["one", "other"] 3 (spRat K (· ≠ 0) (· / ·)) := by
  refine D.own sc_over (fun vs H Q E h => ?_) (fun f cdv A outer s H vs Q E hr h => ?_)
  · obtain ⟨p, q, a, b, rfl, _⟩ := h
    rfl
  · obtain ⟨v, u, q, r, rfl, hv, hu, ⟨sa, sb⟩, ⟨sc, sd⟩, hr0, k⟩ := h
    obtain ⟨p, rfl, hp⟩ := has_fr hv
    obtain ⟨p', rfl, hq⟩ := has_fr hu
    refine ⟨_, (pss_one (ps_ret (pe_own o_lowest (hr.mono (by decide)) rfl pass0 (pa_cons (pe_op op_mulL (pe_ix (ix_tupK (K := K) rfl) (pv 0) pe_int (fun _ _ => rfl)) (pe_ix (ix_tupK (K := K) rfl) (pv 1) pe_int (fun _ _ => rfl))) (pa_cons (pe_op op_mulL (pe_ix (ix_tupK (K := K) rfl) (pv 0) pe_int (fun _ _ => rfl)) (pe_ix (ix_tupK (K := K) rfl) (pv 1) pe_int (fun _ _ => rfl))) pa_nil))))), ?_⟩
    have l : ∀ {x : Int}, Sz 4000 x → Sz 9000 x := fun h => h.mono (by decide)
    refine ⟨_, rfl, p, _, _, _, rfl, rfl, hp, rfl, _, rfl, p', _, _, _, rfl, rfl, hq, rfl, _, _, rfl, rfl, ⟨l sa, l sd⟩,
      _, rfl, p, _, _, _, rfl, rfl, hp, rfl, _, rfl, p', _, _, _, rfl, rfl, hq, rfl, _, _, rfl, rfl, ⟨l sb, l sc⟩, ?_⟩
    refine ⟨_, _, rfl, Int.mul_ne_zero (Int.ne_of_gt (den_pos q)) (fun z => hr0 (Rat.num_eq_zero.mp z)), (sb.mul sc).mono (by decide), ?_⟩
    rw [rat_div]
    exact k
theorem sc_less : FnScope ["one", "other"] ["one", "other"] (defScope s_less) := ⟨rfl, rfl, rfl, by decide +kernel, rfl, by decide +kernel, by decide +kernel⟩
theorem ok_less {P : Program} {w : World} {K : PySem.W.Frag} {mg : Str → Option Value} {base : Heap} {C : Ad} (T : Txt K mg C) (D : Def K mg "less" "less" s_less ["one", "other"]) :
    Own P w K mg base CX0 "less" ["one", "other"] 1 (spLess K) := by
  refine D.own sc_less (fun vs H Q E h => ?_) (fun f cdv A outer s H vs Q E hr h => ?_)
  · obtain ⟨p, q, a, b, rfl, _⟩ := h
    rfl
  · obtain ⟨v, u, q, r, rfl, hv, hu, ⟨sa, sb⟩, ⟨sc, sd⟩, k⟩ := h
    obtain ⟨p, rfl, hp⟩ := has_fr hv
    obtain ⟨p', rfl, hq⟩ := has_fr hu
    refine ⟨_, (pss_one (ps_ret (pe_cmpR op_lt (pe_op op_mulL (pe_ix (ix_tupK (K := K) rfl) (pv 0) pe_int (fun _ _ => rfl)) (pe_ix (ix_tupK (K := K) rfl) (pv 1) pe_int (fun _ _ => rfl))) (pe_op op_mulL (pe_ix (ix_tupK (K := K) rfl) (pv 1) pe_int (fun _ _ => rfl)) (pe_ix (ix_tupK (K := K) rfl) (pv 0) pe_int (fun _ _ => rfl))) (nomark _)))), ?_⟩
    have l : ∀ {x : Int}, Sz 4000 x → Sz 9000 x := fun h => h.mono (by decide)
    refine ⟨_, rfl, p, _, _, _, rfl, rfl, hp, rfl, _, rfl, p', _, _, _, rfl, rfl, hq, rfl, _, _, rfl, rfl, ⟨l sa, l sd⟩,
      _, rfl, p', _, _, _, rfl, rfl, hq, rfl, _, rfl, p, _, _, _, rfl, rfl, hp, rfl, _, _, rfl, rfl, ⟨l sc, l sb⟩, _, _, rfl, rfl, ?_⟩
    show Q (V.bl (decide (q.num * r.den < r.num * q.den))) H
    rw [rat_lt]
    exact k
def sumAt (ps : List (Int × Int)) (b : Int) : Int := ((ps.filter (fun p => p.1 == b)).map (·.2)).sum
def sums (ps : List (Int × Int)) (n : Nat) : List Int := (List.range n).map fun b : Nat => sumAt ps (b : Int)
structure ROK (nb : Nat) (ps : List (Int × Int)) : Prop where
  len : ps.length ≤ 12
  each : ∀ p ∈ ps, 0 ≤ p.1 ∧ p.1 < nb ∧ p.2.natAbs ≤ 9
  sum : ∀ s ∈ sums ps nb, s.natAbs ≤ 9
structure WOK (ws : List Int) : Prop where
  n1 : 1 ≤ ws.length
  n4 : ws.length ≤ 4
  w : ∀ w ∈ ws, 0 ≤ w ∧ w ≤ 1000
structure HOK (ws : List Int) (tb : List (List Int)) : Prop extends WOK ws where
  r5 : tb.length ≤ 5
  rl : ∀ row ∈ tb, row.length = ws.length
  re : ∀ row ∈ tb, ∀ x ∈ row, x.natAbs ≤ 9
theorem sums_len (ps : List (Int × Int)) (n : Nat) : (sums ps n).length = n := by simp [sums]
theorem sums_nil (n : Nat) : sums [] n = List.replicate n 0 := by
  refine List.ext_getElem (by simp [sums]) fun i h1 h2 => ?_
  simp [sums, sumAt]
theorem sums_snoc (ps : List (Int × Int)) (n : Nat) (b : Nat) (x : Int) (h : b < n) : sums (ps ++ [((b : Int), x)]) n = (sums ps n).set b (sumAt ps b + x) := by
  refine List.ext_getElem (by simp [sums]) fun i h1 h2 => ?_
  rw [List.getElem_set]
  simp only [sums, List.getElem_map, List.getElem_range]
  unfold sumAt
  rw [List.filter_append, List.map_append, List.sum_append]
  by_cases hb : b = i
  · subst hb
    simp
  · have : ¬ ((b : Int) == (i : Int)) = true := by simp <;> omega
    simp [this, hb]
theorem sums_get (ps : List (Int × Int)) (n b : Nat) (h : b < n) : (sums ps n)[b]? = some (sumAt ps b) := by
  rw [List.getElem?_eq_getElem (by rw [sums_len]; exact h)]
  simp [sums]
def hflds (a b : Addr) : List (Str × V) := [("body_weights", .ref a), ("rope_strands", .ref b)]
theorem bw_ne : ¬ (("body_weights" : Str) = "rope_strands") := by decide +kernel
theorem hflds_put (a b : Addr) : putF "rope_strands" (.ref b) (putF "body_weights" (.ref a) []) = hflds a b := by
  show (if ("body_weights" : Str) = "rope_strands" then _ else _) = _
  rw [if_neg bw_ne]
  rfl
theorem hflds_bw (a b : Addr) : (hflds a b).lookup ("body_weights" : Str) = some (.ref a) := by
  rw [← hflds_put, lookup_putF, if_neg bw_ne, lookup_putF, if_pos rfl]
theorem hflds_rs (a b : Addr) : (hflds a b).lookup ("rope_strands" : Str) = some (.ref b) := by
  rw [← hflds_put, lookup_putF, if_pos rfl]
theorem hflds_no (a b : Addr) {m : Str} (h1 : ¬ m = "rope_strands") (h2 : ¬ m = "body_weights") : (hflds a b).lookup m = none := by
  rw [← hflds_put, lookup_putF, if_neg h1, lookup_putF, if_neg h2]
  rfl
structure HoistAt (K : PySem.W.Frag) (C : Ad) (H : Hp) (v : V) (ws : List Int) (tb : List (List Int)) : Prop where
  ex : ∃ p dx a b, v = .ref p ∧ H p = some (.ins C.Hoist dx (hflds a b)) ∧ HasD K H (.ref a) (intsD ws) ∧ HasD K H (.ref b) (tblD tb)
  ok : HOK ws tb
theorem HoistAt.same {K : PySem.W.Frag} {C : Ad} {H H' : Hp} {v : V} {ws : List Int} {tb : List (List Int)} (S : Same H H') (h : HoistAt K C H v ws tb) : HoistAt K C H' v ws tb := by
  obtain ⟨⟨p, dx, a, b, e, h1, h2, h3⟩, ok⟩ := h
  exact ⟨⟨p, dx, a, b, e, S _ _ h1, h2.same S, h3.same S⟩, ok⟩
structure HoistNew (K : PySem.W.Frag) (C : Ad) (J H : Hp) (v : V) (ws : List Int) (tb : List (List Int)) : Prop where
  ex : ∃ p dx a b, v = .ref p ∧ H p = some (.ins C.Hoist dx (hflds a b)) ∧ NewD K J H (.ref a) (intsD ws) ∧ NewD K J H (.ref b) (tblD tb)
  ok : HOK ws tb
theorem HoistNew.at {K : PySem.W.Frag} {C : Ad} {J H : Hp} {v : V} {ws : List Int} {tb : List (List Int)} (h : HoistNew K C J H v ws tb) : HoistAt K C H v ws tb := by
  obtain ⟨⟨p, dx, a, b, e, h1, h2, h3⟩, ok⟩ := h
  exact ⟨⟨p, dx, a, b, e, h1, NewD.has _ h2, NewD.has _ h3⟩, ok⟩
theorem HoistNew.later {K : PySem.W.Frag} {C : Ad} {J H H' : Hp} {v : V} {ws : List Int} {tb : List (List Int)} (S : Same H H') (h : HoistNew K C J H v ws tb) : HoistNew K C J H' v ws tb := by
  obtain ⟨⟨p, dx, a, b, e, h1, h2, h3⟩, ok⟩ := h
  exact ⟨⟨p, dx, a, b, e, S _ _ h1, h2.later S, h3.later S⟩, ok⟩
theorem HoistNew.wider {K : PySem.W.Frag} {C : Ad} {J J' H : Hp} {v : V} {ws : List Int} {tb : List (List Int)} (S : Same J' J) (h : HoistNew K C J H v ws tb) : HoistNew K C J' H v ws tb := by
  obtain ⟨⟨p, dx, a, b, e, h1, h2, h3⟩, ok⟩ := h
  exact ⟨⟨p, dx, a, b, e, h1, h2.wider S, h3.wider S⟩, ok⟩
theorem HoistNew.write {K : PySem.W.Frag} {C : Ad} {J H : Hp} {v : V} {ws : List Int} {tb : List (List Int)} {l : Addr} {xs ys : List V} (n : J l ≠ none) (hl : H l = some (.lst xs)) (h : HoistNew K C J H v ws tb) : HoistNew K C J (upd H l (.lst ys)) v ws tb := by
  obtain ⟨⟨p, dx, a, b, e, h1, h2, h3⟩, ok⟩ := h
  have ne : p ≠ l := fun z => by rw [z, hl] at h1; cases h1
  have nt : NoTup (H l) := by rw [hl]; exact noTup_lst
  exact ⟨⟨p, dx, a, b, e, by rw [upd_ne ne]; exact h1, NewD.write n nt h2, NewD.write n nt h3⟩, ok⟩
def cellT (tb : List (List Int)) (r b : Nat) : Int := (tb.getD r []).getD b 0
def spHoistI (K : PySem.W.Frag) (C : Ad) : Sp := fun vs H Q _ => ∃ (x dx : Addr) (vw vr : V) (ws : List Int) (rs : List (List (Int × Int))), vs = [.ref x, vw, vr] ∧ H x = some (.ins C.Hoist dx []) ∧ HasD K H vw (intsD ws) ∧ HasD K H vr (ropesD rs) ∧
  WOK ws ∧ rs.length ≤ 5 ∧ (∀ ps ∈ rs, ROK ws.length ps) ∧ ∀ H', (∀ b o, H b = some o → b ≠ x → H' b = some o) → HoistNew K C H H' (.ref x) ws (rs.map fun ps => sums ps ws.length) → Q .non H'
def spWeights (K : PySem.W.Frag) (C : Ad) : Sp := fun vs H Q _ => ∃ v ws tb, vs = [v] ∧ HoistAt K C H v ws tb ∧ Res K H Q (intsD ws)
def spManyRopes (K : PySem.W.Frag) (C : Ad) : Sp := fun vs H Q _ => ∃ v ws tb, vs = [v] ∧ HoistAt K C H v ws tb ∧ Q (.int tb.length) H
def smallI (i : Int) : Prop := i.natAbs < 1000000
def spCheckRope (K : PySem.W.Frag) (C : Ad) : Sp := fun vs H Q E => ∃ v ws tb r, vs = [v, .int r] ∧ HoistAt K C H v ws tb ∧ smallI r ∧ (0 ≤ r ∧ r < tb.length → Q .non H) ∧ (¬ (0 ≤ r ∧ r < tb.length) → E (.ref C.NoRope) none H)
def spStrands (K : PySem.W.Frag) (C : Ad) : Sp := fun vs H Q E => ∃ v ws tb r b, vs = [v, .int r, .int b] ∧ HoistAt K C H v ws tb ∧ smallI r ∧ smallI b ∧
  (0 ≤ r ∧ r < tb.length → 0 ≤ b ∧ b < ws.length → Q (.int (cellT tb r.toNat b.toNat)) H) ∧ (¬ (0 ≤ r ∧ r < tb.length) → E (.ref C.NoRope) none H) ∧ (0 ≤ r ∧ r < tb.length → ¬ (0 ≤ b ∧ b < ws.length) → E (.ref C.NoBody) none H)
def spCheckWeights (K : PySem.W.Frag) : Sp := fun vs H Q _ => ∃ v ws, vs = [v] ∧ HasD K H v (intsD ws) ∧ WOK ws ∧ Q .non H
def spCheckNumber : Sp := fun vs H Q _ => ∃ n : Int, vs = [.int n] ∧ n.natAbs ≤ 9 ∧ Q .non H
def spAddedStrands (K : PySem.W.Frag) : Sp := fun vs H Q _ => ∃ (v : V) (ps : List (Int × Int)) (n : Nat), vs = [v, .int n] ∧ n ≤ 4 ∧ HasD K H v (pairsD ps) ∧ ROK n ps ∧ Res K H Q (intsD (sums ps n))
theorem sc_check_number : FnScope ["number"] ["number"] (defScope s_check_number) := ⟨rfl, rfl, rfl, by decide +kernel, rfl, by decide +kernel, by decide +kernel⟩
theorem ok_check_number {P : Program} {w : World} {K : PySem.W.Frag} {mg : Str → Option Value} {base : Heap} {C : Ad} (T : Txt K mg C) (D : Def K mg "check_number" "check_number" s_check_number ["number"]) :
    Own P w K mg base CX0 "check_number" ["number"] 1 (spCheckNumber) := by
  refine D.own sc_check_number (fun vs H Q E h => ?_) (fun f cdv A outer s H vs Q E hr h => ?_)
  · obtain ⟨a, rfl, _⟩ := h
    rfl
  · obtain ⟨n, rfl, hn, k⟩ := h
    refine ⟨_, (pss_one (ps_if (pt_cmpR op_gt (pe_callB (call_abs) rfl T.b_abs bt_abs (pa_cons (pv 0) pa_nil)) (pe_globI rfl T.g_MOST_STRANDS) (nomark _))
        (pss_one ps_never)
        pss_nil)), ?_⟩
    refine ⟨_, rfl, n, rfl, _, _, rfl, rfl, _, rfl, ?_⟩
    refine ifN ?_ k
    simp only [decide_eq_true_eq]
    split <;> omega
theorem sc_check_weights : FnScope ["weights", "weight"] ["weights"] (defScope s_check_weights) := ⟨rfl, rfl, rfl, by decide +kernel, rfl, by decide +kernel, by decide +kernel⟩
theorem ok_check_weights {P : Program} {w : World} {K : PySem.W.Frag} {mg : Str → Option Value} {base : Heap} {C : Ad} (T : Txt K mg C) (D : Def K mg "check_weights" "check_weights" s_check_weights ["weights"]) :
    Own P w K mg base CX0 "check_weights" ["weights"] 1 (spCheckWeights K) := by
  refine D.own sc_check_weights (fun vs H Q E h => ?_) (fun f cdv A outer s H vs Q E hr h => ?_)
  · obtain ⟨a, _, rfl, _⟩ := h
    rfl
  · obtain ⟨v, ws, rfl, hv, ok, k⟩ := h
    obtain ⟨a, rfl, hq⟩ := has_ints hv
    refine ⟨_, (pss_cons (ps_if (PW.pt (pw_or (pt_cmpR op_lt (pe_callB (call_lenK (K := K) rfl) rfl T.b_len bt_len (pa_cons (pv 0) pa_nil)) pe_int (nomark _)) (pw_or1 (pt_cmpR op_gt (pe_callB (call_lenK (K := K) rfl) rfl T.b_len bt_len (pa_cons (pv 0) pa_nil)) (pe_globI rfl T.g_MOST_BODIES) (nomark _)))))
        (pss_one ps_never)
        pss_nil)
        (pss_one (ps_for PassesOwn.never rfl (pi_listK (K := K) rfl (pv 0)) (pg_name (i := 1) sc_check_weights.nd rfl (Or.inl rfl))
        (pss_one (ps_if (PW.pt (pw_or (pt_cmpR op_lt (pv 1) pe_int (nomark _)) (pw_or1 (pt_cmpR op_gt (pv 1) (pe_globI rfl T.g_MOST_WEIGHT) (nomark _)))))
        (pss_one ps_never)
        pss_nil))))), ?_⟩
    refine ⟨_, rfl, _, _, rfl, .inl hv, _, _, rfl, rfl, _, rfl, ?_⟩
    have h1 := ok.n1
    have h4 := ok.n4
    refine ifN (by simp <;> omega) ?_
    refine ⟨_, rfl, _, _, rfl, .inl hv, _, _, rfl, rfl, _, rfl, ?_⟩
    refine ifN (by simp <;> omega) ?_
    refine ⟨_, rfl, a, rfl, ⟨_, hq⟩, for_list (K := K) (a := a) (xs := ws.map V.int) (fun i σ H2 => H2 = H ∧ ∃ z, σ = [some (.ref a), z]) ⟨rfl, _, rfl⟩ (fun i σ H2 _ ⟨e, _⟩ => by rw [e]; exact hq) ?_ ?_⟩
    · rintro i x σ H2 hi ⟨rfl, z, rfl⟩
      rw [List.getElem?_map] at hi
      cases hw : ws[i]? with
      | none => rw [hw] at hi; cases hi
      | some x' =>
        rw [hw] at hi
        cases hi
        have hx := ok.w x' (List.mem_of_getElem? hw)
        refine ⟨_, rfl, _, _, rfl, rfl, _, rfl, ?_⟩
        refine ifN (by simp <;> omega) ?_
        refine ⟨_, rfl, _, _, rfl, rfl, _, rfl, ?_⟩
        refine ifN (by simp <;> omega) ?_
        exact ⟨rfl, _, rfl⟩
    · rintro σ H2 ⟨rfl, z, rfl⟩
      exact k
theorem sc_Hoist_weights : FnScope ["self"] ["self"] (defScope s_Hoist_weights) := ⟨rfl, rfl, rfl, by decide +kernel, rfl, by decide +kernel, by decide +kernel⟩
theorem ok_Hoist_weights {P : Program} {w : World} {K : PySem.W.Frag} {mg : Str → Option Value} {base : Heap} {C : Ad} (T : Txt K mg C) (D : DefM K C.Hoist "weights" "Hoist.weights" s_Hoist_weights ["self"]) :
    OwnM P w K mg base CX0 C.Hoist "weights" ["self"] 1 (spWeights K C) := by
  refine D.own sc_Hoist_weights (fun vs H Q E h => ?_) (fun f cdv A outer s H vs Q E hr h => ?_)
  · obtain ⟨a, _, _, rfl, _⟩ := h
    rfl
  · obtain ⟨v, ws, tb, rfl, ⟨⟨p, dx, a, b, rfl, h1, h2, h3⟩, ok⟩, k⟩ := h
    refine ⟨_, (pss_one (ps_ret (pe_callTy (call_listK (K := K) rfl) rfl T.b_list bt_list (pa_cons (pe_fldK (K := K) rfl (pv 0) rfl) pa_nil)))), ?_⟩
    obtain ⟨a', e, hq⟩ := has_ints h2
    cases e
    refine ⟨_, rfl, p, _, dx, _, _, rfl, h1, T.l_Hoist, T.n_body_weights, hflds_bw a b, _, _, rfl, .inl hq, fun l hl => ?_⟩
    exact k _ _ (Same.upd hl) (ints_new hl upd_same)
theorem sc_Hoist_many_ropes : FnScope ["self"] ["self"] (defScope s_Hoist_many_ropes) := ⟨rfl, rfl, rfl, by decide +kernel, rfl, by decide +kernel, by decide +kernel⟩
theorem ok_Hoist_many_ropes {P : Program} {w : World} {K : PySem.W.Frag} {mg : Str → Option Value} {base : Heap} {C : Ad} (T : Txt K mg C) (D : DefM K C.Hoist "many_ropes" "Hoist.many_ropes" s_Hoist_many_ropes ["self"]) :
    OwnM P w K mg base CX0 C.Hoist "many_ropes" ["self"] 1 (spManyRopes K C) := by
  refine D.own sc_Hoist_many_ropes (fun vs H Q E h => ?_) (fun f cdv A outer s H vs Q E hr h => ?_)
  · obtain ⟨a, _, _, rfl, _⟩ := h
    rfl
  · obtain ⟨v, ws, tb, rfl, ⟨⟨p, dx, a, b, rfl, h1, h2, h3⟩, ok⟩, k⟩ := h
    refine ⟨_, (pss_one (ps_ret (pe_callB (call_lenK (K := K) rfl) rfl T.b_len bt_len (pa_cons (pe_fldK (K := K) rfl (pv 0) rfl) pa_nil)))), ?_⟩
    refine ⟨_, rfl, p, _, dx, _, _, rfl, h1, T.l_Hoist, T.n_rope_strands, hflds_rs a b, _, _, rfl, .inl h3, ?_⟩
    rw [List.length_map]
    exact k
theorem small_log {i : Int} (h : smallI i) : i.natAbs.log2 < 1920 := (show Sz 20 i from Nat.lt_trans h (by decide)).mono (by decide : 20 ≤ 1920) |>.log (by decide)
theorem sc_check_rope : FnScope ["hoist", "rope"] ["hoist", "rope"] (defScope s_check_rope) := ⟨rfl, rfl, rfl, by decide +kernel, rfl, by decide +kernel, by decide +kernel⟩
theorem ok_check_rope {P : Program} {w : World} {K : PySem.W.Frag} {mg : Str → Option Value} {base : Heap} {C : Ad} (T : Txt K mg C) (D : Def K mg "check_rope" "check_rope" s_check_rope ["hoist", "rope"])
    (o_Hoist_many_ropes : OwnM P w K mg base CX0 C.Hoist "many_ropes" ["self"] 1 (spManyRopes K C)) :
    Own P w K mg base (CXE P w) "check_rope" ["hoist", "rope"] 2 (spCheckRope K C) := by
  refine D.ownE sc_check_rope (fun vs H Q E h => ?_) (fun f cdv A outer s H vs Q E hr h => ?_)
  · obtain ⟨a, _, _, _, rfl, _⟩ := h
    rfl
  · obtain ⟨v, ws, tb, r, rfl, hA, hs, k, ke⟩ := h
    have hA' := hA
    obtain ⟨⟨p, dx, a, b, rfl, h1, h2, h3⟩, ok⟩ := hA
    refine ⟨_, (pss_one (ps_if (PW.pt (pw_or (pt_cmpR op_lt (pv 1) pe_int (nomark _)) (pw_or1 (pt_cmpR op_ge (pv 1) (pe_ownM0 o_Hoist_many_ropes T.l_Hoist (hr.mono (by decide)) pass0 (pv 0)) (nomark _)))))
        (pss_one (ps_raise T.e_NoRope T.c_NoRope rfl (pa_cons (pe_fstr1 (by decide +kernel) (pv 1)) pa_nil)))
        pss_nil)), ?_⟩
    refine ⟨_, rfl, _, _, rfl, rfl, _, rfl, ?_⟩
    by_cases hn : r < 0
    · refine ifP (by simpa using hn) ?_
      refine ⟨_, rfl, _, rfl, small_log hs, fun y => ⟨by show 1 ≤ sizeLine; decide, ke (by omega)⟩⟩
    · refine ifN (by simpa using hn) ?_
      refine ⟨_, rfl, _, rfl, p, dx, _, rfl, h1, hflds_no _ _ (by decide +kernel) (by decide +kernel), _, _, _, rfl, hA', _, _, rfl, rfl, _, rfl, ?_⟩
      by_cases hl : r < tb.length
      · refine ifN (by simp <;> omega) ?_
        exact k ⟨by omega, hl⟩
      · refine ifP (by simp <;> omega) ?_
        refine ⟨_, rfl, _, rfl, small_log hs, fun y => ⟨by show 1 ≤ sizeLine; decide, ke (by omega)⟩⟩
theorem cellT_get {ws : List Int} {tb : List (List Int)} (ok : HOK ws tb) {r b : Nat} (hr : r < tb.length) (hb : b < ws.length) : ∃ row, tb[r]? = some row ∧ row[b]? = some (cellT tb r b) := by
  refine ⟨tb[r], List.getElem?_eq_getElem hr, ?_⟩
  have hl : b < tb[r].length := by
    rw [ok.rl _ (List.getElem_mem hr)]
    exact hb
  unfold cellT
  rw [List.getD_eq_getElem?_getD (l := tb), List.getElem?_eq_getElem hr]
  simp [List.getD_eq_getElem?_getD, List.getElem?_eq_getElem hl]
theorem sc_Hoist_strands : FnScope ["self", "rope", "body"] ["self", "rope", "body"] (defScope s_Hoist_strands) := ⟨rfl, rfl, rfl, by decide +kernel, rfl, by decide +kernel, by decide +kernel⟩
theorem ok_Hoist_strands {P : Program} {w : World} {K : PySem.W.Frag} {mg : Str → Option Value} {base : Heap} {C : Ad} (T : Txt K mg C) (D : DefM K C.Hoist "strands" "Hoist.strands" s_Hoist_strands ["self", "rope", "body"])
    (o_check_rope : Own P w K mg base (CXE P w) "check_rope" ["hoist", "rope"] 2 (spCheckRope K C)) :
    OwnM P w K mg base (CXE P w) C.Hoist "strands" ["self", "rope", "body"] 3 (spStrands K C) := by
  refine D.ownE sc_Hoist_strands (fun vs H Q E h => ?_) (fun f cdv A outer s H vs Q E hr h => ?_)
  · obtain ⟨a, _, _, _, _, rfl, _⟩ := h
    rfl
  · obtain ⟨v, ws, tb, r, b', rfl, hA, hs, hs', k, ke, kb⟩ := h
    have hA' := hA
    obtain ⟨⟨p, dx, a, b, rfl, h1, h2, h3⟩, ok⟩ := hA
    refine ⟨_, (pss_cons (ps_expr (pe_own o_check_rope (hr.mono (by decide)) rfl passE (pa_cons (pv 0) (pa_cons (pv 1) pa_nil))))
        (pss_cons (ps_if (PW.pt (pw_or (pt_cmpR op_lt (pv 2) pe_int (nomark _)) (pw_or1 (pt_cmpR op_ge (pv 2) (pe_callB (call_lenK (K := K) rfl) rfl T.b_len bt_len (pa_cons (pe_fldK (K := K) rfl (pv 0) rfl) pa_nil)) (nomark _)))))
        (pss_one (ps_raise T.e_NoBody T.c_NoBody rfl (pa_cons (pe_fstr1 (by decide +kernel) (pv 2)) pa_nil)))
        pss_nil)
        (pss_one (ps_ret (pe_ix (ix_K (K := K) rfl) (pe_ix (ix_K (K := K) rfl) (pe_fldK (K := K) rfl (pv 0) rfl) (pv 1) (fun _ _ => rfl)) (pv 2) (fun _ _ => rfl)))))), ?_⟩
    refine ⟨_, rfl, _, rfl, _, ws, tb, r, rfl, hA', hs, fun hr' => ?_, ke⟩
    refine ⟨_, rfl, _, _, rfl, rfl, _, rfl, ?_⟩
    by_cases hn : b' < 0
    · refine ifP (by simpa using hn) ?_
      refine ⟨_, rfl, _, rfl, small_log hs', fun y => ⟨by show 1 ≤ sizeLine; decide, kb hr' (by omega)⟩⟩
    · refine ifN (by simpa using hn) ?_
      refine ⟨_, rfl, _, rfl, p, _, dx, _, _, rfl, h1, T.l_Hoist, T.n_body_weights, hflds_bw a b, _, _, rfl, .inl h2, _, _, rfl, rfl, _, rfl, ?_⟩
      rw [List.length_map]
      by_cases hl : b' < ws.length
      · refine ifN (by simp <;> omega) ?_
        obtain ⟨rn, rfl⟩ : ∃ rn : Nat, r = rn := ⟨r.toNat, by omega⟩
        obtain ⟨bn, rfl⟩ : ∃ bn : Nat, b' = bn := ⟨b'.toNat, by omega⟩
        obtain ⟨row, e1, e2⟩ := cellT_get ok (r := rn) (b := bn) (by omega) (by omega)
        have e1' : (tb.map intsD)[rn]? = some (intsD row) := by rw [List.getElem?_map, e1]; rfl
        have e2' : (row.map PyData.int)[bn]? = some (.int (cellT tb rn bn)) := by rw [List.getElem?_map, e2]; rfl
        refine ⟨_, rfl, p, _, dx, _, _, rfl, h1, T.l_Hoist, T.n_rope_strands, hflds_rs a b, _, rfl, _, _, _, .inl h3, rfl, atI_nat e1', fun u hu => ?_⟩
        refine ⟨_, rfl, _, _, _, .inl hu, rfl, atI_nat e2', fun z hz => ?_⟩
        rw [hz.ofint]
        exact k hr' ⟨by omega, hl⟩
      · refine ifP (by simp <;> omega) ?_
        refine ⟨_, rfl, _, rfl, small_log hs', fun y => ⟨by show 1 ≤ sizeLine; decide, kb hr' (by omega)⟩⟩
theorem sc_added_strands : FnScope ["rope", "many_bodies", "sums", "body", "number", "total"] ["rope", "many_bodies"] (defScope s_added_strands) := ⟨rfl, rfl, rfl, by decide +kernel, rfl, by decide +kernel, by decide +kernel⟩
theorem ok_added_strands {P : Program} {w : World} {K : PySem.W.Frag} {mg : Str → Option Value} {base : Heap} {C : Ad} (T : Txt K mg C) (D : Def K mg "added_strands" "added_strands" s_added_strands ["rope", "many_bodies"])
    (o_check_number : Own P w K mg base CX0 "check_number" ["number"] 1 (spCheckNumber)) :
    Own P w K mg base CX0 "added_strands" ["rope", "many_bodies"] 2 (spAddedStrands K) := by
  refine D.own sc_added_strands (fun vs H Q E h => ?_) (fun f cdv A outer s H vs Q E hr h => ?_)
  · obtain ⟨a, _, _, rfl, _⟩ := h
    rfl
  · obtain ⟨v, ps, n, rfl, hn4, hv, ok, k⟩ := h
    obtain ⟨a, xs, rfl, hq, hd⟩ := hv.oflst
    refine ⟨_, (pss_cons (ps_if (pt_cmpR op_gt (pe_callB (call_lenK (K := K) rfl) rfl T.b_len bt_len (pa_cons (pv 0) pa_nil)) (pe_globI rfl T.g_MOST_PAIRS) (nomark _))
        (pss_one ps_never)
        pss_nil)
        (pss_cons (ps_set (i := 2) sc_added_strands.nd rfl (Or.inl rfl) (pe_op op_rep (pe_lst (pa_cons pe_int pa_nil)) (pv 1)))
        (pss_cons (ps_for PassesOwn.never rfl (pi_listK (K := K) rfl (pv 0)) (pg_tupK (K := K) rfl rfl (pgs_cons (pg_name (i := 3) sc_added_strands.nd rfl (Or.inl rfl)) (pgs_cons (pg_name (i := 4) sc_added_strands.nd rfl (Or.inl rfl)) pgs_nil)))
        (pss_cons (ps_if (PW.pt (pw_or (pt_cmpR op_lt (pv 3) pe_int (nomark _)) (pw_or1 (pt_cmpR op_ge (pv 3) (pv 1) (nomark _)))))
        (pss_one ps_never)
        pss_nil)
        (pss_cons (ps_expr (pe_own o_check_number (hr.mono (by decide)) rfl pass0 (pa_cons (pv 4) pa_nil)))
        (pss_one (ps_augS (pv 2) (pv 3) (get_listK (K := K) rfl) (pv 4) ip_add set_list)))))
        (pss_cons (ps_for PassesOwn.never rfl (pi_listK (K := K) rfl (pv 2)) (pg_name (i := 5) sc_added_strands.nd rfl (Or.inl rfl))
        (pss_one (ps_expr (pe_own o_check_number (hr.mono (by decide)) rfl pass0 (pa_cons (pv 5) pa_nil)))))
        (pss_one (ps_ret (pv 2))))))), ?_⟩
    have h12 := ok.len
    have sl : (10 : Nat) ≤ sizeLine := by decide
    refine ⟨_, rfl, _, _, rfl, .inl hv, _, _, rfl, rfl, _, rfl, ?_⟩
    refine ifN (by simp <;> omega) ?_
    refine ⟨by show 1 ≤ sizeLine; decide, fun t ht => ?_⟩
    refine ⟨_, rfl, t, (n : Int), _, rfl, rfl, upd_same, by omega, by omega, ?_, fun l hl => ?_⟩
    · show 1 * _ ≤ sizeLine
      omega
    have hl0 : H l = none := (Same.upd ht).free hl
    have S1 : Same H (upd (upd H t (.lst [.int 0])) l (.lst (List.replicate (n : Int).toNat [V.int 0]).flatten)) := (Same.upd ht).trans (Same.upd hl)
    have e0 : (List.replicate (n : Int).toNat [V.int 0]).flatten = (sums (ps.take 0) n).map V.int := by
      rw [List.take_zero, sums_nil, List.map_replicate]
      simp
    refine ⟨_, rfl, a, rfl, ⟨_, S1.seq hq⟩, for_list (K := K) (a := a) (xs := xs) (fun i σ H2 => Same H H2 ∧ H2 l = some (.lst ((sums (ps.take i) n).map V.int)) ∧ ∃ z1 z2 z3, σ = [some (.ref a), some (.int n), some (.ref l), z1, z2, z3])
      ⟨S1, by rw [← e0]; exact upd_same, _, _, _, rfl⟩ (fun i σ H2 _ ⟨S, _⟩ => S.seq hq) ?_ ?_⟩
    · rintro i x σ H2 hi ⟨S, hL, z1, z2, z3, rfl⟩
      obtain ⟨d, e1, hx⟩ := (hd.same S).at hi
      rw [List.getElem?_map] at e1
      cases hp : ps[i]? with
      | none => rw [hp] at e1; cases e1
      | some p =>
        rw [hp] at e1
        cases e1
        obtain ⟨t', rfl, hT⟩ := has_pair hx
        obtain ⟨p1, p2⟩ := p
        have hpe := ok.each _ (List.mem_of_getElem? hp)
        dsimp only at hpe hT
        obtain ⟨bn, rfl⟩ : ∃ bn : Nat, p1 = bn := ⟨p1.toNat, by omega⟩
        refine ⟨t', _, rfl, hT, rfl, _, _, rfl, _, _, rfl, rfl, ?_⟩
        refine ⟨_, rfl, _, _, rfl, rfl, _, rfl, ?_⟩
        refine ifN (by simp <;> omega) ?_
        refine ⟨_, rfl, _, rfl, _, _, rfl, rfl, _, rfl, ?_⟩
        refine ifN (by simp <;> omega) ?_
        refine ⟨_, rfl, p2, rfl, hpe.2.2, ?_⟩
        have hb : bn < n := by omega
        have eg : ((sums (ps.take i) n).map V.int)[bn]? = some (.int (sumAt (ps.take i) bn)) := by rw [List.getElem?_map, sums_get _ _ _ hb]; rfl
        refine ⟨_, rfl, _, rfl, l, _, bn, _, rfl, rfl, SqL.of hL, eg, _, rfl, _, _, rfl, rfl, l, _, _, bn, rfl, rfl, hL, ixN_nat (by simp [sums_len]; exact hb), ?_⟩
        refine ⟨same_write S hl0, ?_, _, _, _, rfl⟩
        rw [upd_same]
        have et : ps.take (i + 1) = ps.take i ++ [((bn : Int), p2)] := by
          obtain ⟨hi', ei⟩ := List.getElem?_eq_some_iff.mp hp
          rw [List.take_succ_eq_append_getElem hi', ei]
        rw [et, sums_snoc _ _ _ _ hb, List.map_set]
    · rintro σ H2 ⟨S, hL, z1, z2, z3, rfl⟩
      have el : xs.length = ps.length := by rw [hd.len, List.length_map]
      rw [el, List.take_length] at hL
      refine ⟨_, rfl, l, rfl, ⟨_, SqL.of hL⟩, for_list (K := K) (a := l) (xs := (sums ps n).map V.int) (fun i σ H3 => H3 = H2 ∧ ∃ z1 z2 z3, σ = [some (.ref a), some (.int n), some (.ref l), z1, z2, z3]) ⟨rfl, _, _, _, rfl⟩ (fun i σ H3 _ ⟨e, _⟩ => by rw [e]; exact SqL.of hL) ?_ ?_⟩
      · rintro i x σ H3 hi ⟨rfl, z1, z2, z3, rfl⟩
        rw [List.getElem?_map] at hi
        cases hw : (sums ps n)[i]? with
        | none => rw [hw] at hi; cases hi
        | some x' =>
          rw [hw] at hi
          cases hi
          refine ⟨_, rfl, x', rfl, ok.sum _ (List.mem_of_getElem? hw), ?_⟩
          exact ⟨rfl, _, _, _, rfl⟩
      · rintro σ H3 ⟨rfl, z1, z2, z3, rfl⟩
        refine ⟨_, rfl, ?_⟩
        exact k _ _ S (ints_new hl0 hL)
theorem sc_Hoist___init__ : FnScope ["self", "weights", "ropes"] ["self", "weights", "ropes"] (defScope s_Hoist___init__) := ⟨rfl, rfl, rfl, by decide +kernel, rfl, by decide +kernel, by decide +kernel⟩
theorem ok_Hoist___init__ {P : Program} {w : World} {K : PySem.W.Frag} {mg : Str → Option Value} {base : Heap} {C : Ad} (T : Txt K mg C) (D : DefI K C.Hoist "Hoist.__init__" s_Hoist___init__ ["self", "weights", "ropes"])
    (o_added_strands : Own P w K mg base CX0 "added_strands" ["rope", "many_bodies"] 2 (spAddedStrands K))
    (o_check_weights : Own P w K mg base CX0 "check_weights" ["weights"] 1 (spCheckWeights K)) :
    OwnI P w K mg base CX0 C.Hoist ["self", "weights", "ropes"] 3 (spHoistI K C) := by
  refine D.own sc_Hoist___init__ (fun vs H Q E h => ?_) (fun f cdv A outer s H vs Q E hr h => ?_)
  · obtain ⟨a, _, _, _, _, _, rfl, _⟩ := h
    rfl
  · obtain ⟨x, dx, vw, vr, ws, rs, rfl, hx, hw, hr', wok, h5, rok, k⟩ := h
    obtain ⟨aw, rfl, hqw⟩ := has_ints hw
    obtain ⟨ar, xr, rfl, hqr, hdr⟩ := hr'.oflst
    refine ⟨_, (pss_cons (ps_expr (pe_own o_check_weights (hr.mono (by decide)) rfl pass0 (pa_cons (pv 1) pa_nil)))
        (pss_cons (ps_if (pt_cmpR op_gt (pe_callB (call_lenK (K := K) rfl) rfl T.b_len bt_len (pa_cons (pv 2) pa_nil)) (pe_globI rfl T.g_MOST_ROPES) (nomark _))
        (pss_one ps_never)
        pss_nil)
        (pss_cons (ps_fldK (K := K) rfl (pv 0) (pe_callTy (call_listK (K := K) rfl) rfl T.b_list bt_list (pa_cons (pv 1) pa_nil)) rfl)
        (pss_one (ps_fldK (K := K) rfl (pv 0) (pe_comp (tg := ["rope"]) (cap := ["weights"]) (caps := [1]) (CompSc.of_ok (by kernel_rfl)) rfl (gk_name (by decide)) (pi_listK (K := K) rfl (pv 2)) (fun _ _ _ _ _ => (pg_name (i := 0) (show ((["rope"] : List Str) ++ (["weights"] : List Str)).Nodup by decide +kernel) rfl (Or.inl rfl))) (fun _ _ _ _ _ => pts_nil) (fun _ _ _ _ _ => (pe_own o_added_strands (hr.mono (by decide)) rfl pass0 (pa_cons (pv 0) (pa_cons (pe_callB (call_lenK (K := K) rfl) rfl T.b_len bt_len (pa_cons (pv 1) pa_nil)) pa_nil))))) rfl))))), ?_⟩
    have h4 := wok.n4
    refine ⟨_, rfl, _, ws, rfl, hw, wok, ?_⟩
    refine ⟨_, rfl, _, _, rfl, .inl hr', _, _, rfl, rfl, _, rfl, ?_⟩
    refine ifN (by simp <;> omega) ?_
    refine ⟨_, rfl, _, _, rfl, .inl hqw, fun l hl => ?_⟩
    have xl : x ≠ l := ne_of_none hx hl
    have S1 : Same H (upd H l (.lst (ws.map V.int))) := Same.upd hl
    refine ⟨_, rfl, x, _, dx, _, rfl, S1 _ _ hx, T.l_Hoist, T.n_body_weights, by decide, ?_⟩
    have ni : NoSeq (upd H l (.lst (ws.map V.int)) x) := by rw [S1 _ _ hx]; exact noSeq_ins
    have hqr2 := (S1.seq hqr).write (o := .ins C.Hoist dx (putF "body_weights" (.ref l) [])) ni
    have hw2 := (hw.same S1).write (o := .ins C.Hoist dx (putF "body_weights" (.ref l) [])) ni
    have hdr2 := (hdr.same S1).write (o := .ins C.Hoist dx (putF "body_weights" (.ref l) [])) ni
    have lr : xr.length = rs.length := by rw [hdr.len, List.length_map]
    have sl : (10 : Nat) ≤ sizeLine := by decide
    refine ⟨_, rfl, ar, rfl, ⟨_, hqr2⟩, fun l2 hl2 => comp_listD (K := K) (ds := rs.map fun ps => intsD (sums ps ws.length)) hqr2 (by rw [List.length_map, lr]) hl2 (by omega) ?_ ?_⟩
    · intro i y H3 d R ey ed S3 kk
      obtain ⟨d', e1, hy⟩ := hdr2.at ey
      rw [List.getElem?_map] at e1 ed
      cases hp : rs[i]? with
      | none => rw [hp] at e1; cases e1
      | some ps =>
        rw [hp] at e1 ed
        cases e1
        cases ed
        refine ⟨_, rfl, _, rfl, _, _, rfl, .inl (hw2.same S3), ?_⟩
        refine ⟨_, ps, ws.length, by rw [List.length_map]; rfl, h4, hy.same S3, rok _ (List.mem_of_getElem? hp), kk⟩
    · intro H3 S3 N3
      obtain ⟨bq, ys, e, nb, hb, hbd⟩ := N3.oflst
      cases e
      have hx3 : H3 x = some (.ins C.Hoist dx (putF "body_weights" (.ref l) [])) := S3 _ _ upd_same
      refine ⟨_, rfl, x, _, dx, _, rfl, hx3, T.l_Hoist, T.n_rope_strands, (by show 1 < 1000; decide), ?_⟩
      have ni3 : NoSeq (H3 x) := by rw [hx3]; exact noSeq_ins
      have ll : upd (upd H l (.lst (ws.map V.int))) x (.ins C.Hoist dx (putF "body_weights" (.ref l) [])) l = some (.lst (ws.map V.int)) := by rw [upd_ne xl.symm, upd_same]
      refine k _ (fun b o e hb => ?_) ⟨⟨x, dx, l, l2, rfl, by rw [upd_same, hflds_put], NewD.write (some_ne hx) ni3.tup (ints_new hl (S3 _ _ ll)), ?_⟩, ⟨wok, by rw [List.length_map]; exact h5, fun row hrow => ?_, fun row hrow y hy => ?_⟩⟩
      · rw [upd_ne hb]
        refine S3 _ _ ?_
        rw [upd_ne hb]
        exact S1 _ _ e
      · have e : (rs.map fun ps => intsD (sums ps ws.length)) = (rs.map fun ps => sums ps ws.length).map intsD := by rw [List.map_map]; rfl
        rw [tblD, ← e]
        refine NewD.write (some_ne hx) ni3.tup (NewD.go (fun a' xs' z q => ⟨?_, q⟩) (fun _ _ q => q) _ N3)
        have z1 : a' ≠ x := fun z' => by rw [z', upd_same] at z; cases z
        rw [upd_ne z1] at z
        exact S1.free z
      · obtain ⟨ps, _, rfl⟩ := List.mem_map.mp hrow
        exact sums_len _ _
      · obtain ⟨ps, hps, rfl⟩ := List.mem_map.mp hrow
        exact (rok ps hps).sum y hy
end Hw
namespace Hw
open PySem L2
def rowA (ws : List Int) (tb : List (List Int)) (k j : Nat) : Int :=
  if j < tb.length then cellT tb j k else if j = tb.length + ws.length then ws.getD k 0 else if j = tb.length + k then 1 else 0
def ratA (ws : List Int) (tb : List (List Int)) (k j : Nat) : Rat := (rowA ws tb k j : Rat)
theorem rowA_prop {ws : List Int} {tb : List (List Int)} {k i : Nat} (hk : k < ws.length) (hi : i < ws.length) : ratA ws tb k (tb.length + i) = if k = i then 1 else 0 := by
  unfold ratA rowA
  rw [if_neg (by omega), if_neg (by omega)]
  by_cases e : k = i
  · rw [if_pos (by omega), if_pos e]; rfl
  · rw [if_neg (by omega), if_neg e]; rfl
theorem rowA_load {ws : List Int} {tb : List (List Int)} {k : Nat} : ratA ws tb k (tb.length + ws.length) = ((ws.getD k 0 : Int) : Rat) := by
  unfold ratA rowA
  rw [if_neg (by omega), if_pos rfl]
theorem rowA_rope {ws : List Int} {tb : List (List Int)} {k j : Nat} (hj : j < tb.length) : ratA ws tb k j = ((cellT tb j k : Int) : Rat) := by
  unfold ratA rowA
  rw [if_pos hj]
theorem sum_prop {ws : List Int} {tb : List (List Int)} {k : Nat} (hk : k < ws.length) (f : Nat → Rat) : (sumN ws.length fun i => ratA ws tb k (tb.length + i) * f i) = f k := by
  rw [sumN_one hk]
  · rw [rowA_prop hk hk, if_pos rfl, Rat.one_mul]
  · intro i hi ne
    rw [rowA_prop hk hi, if_neg (fun z => ne z.symm), Rat.zero_mul]
def tabS (ws : List Int) (tb : List (List Int)) : Tb where
  T := ratA ws tb
  z := fun j => sumN ws.length fun k => -1 * ratA ws tb k j
  b := fun i => tb.length + i
section
variable {ws : List Int} {tb : List (List Int)}
theorem tabS_prop {k : Nat} (hk : k < ws.length) : (tabS ws tb).z (tb.length + k) = -1 := by
  show (sumN ws.length fun i => -1 * ratA ws tb i (tb.length + k)) = -1
  rw [sumN_one hk]
  · rw [rowA_prop hk hk, if_pos rfl]; grind
  · intro i hi ne
    rw [rowA_prop hi hk, if_neg ne]; grind
theorem tabS_good (ok : HOK ws tb) : Good ws.length tb.length (ratA ws tb) (fun _ => 0) 1 (tabS ws tb) where
  bas := fun i hi => by show tb.length + i < _; omega
  col := fun k j hk hj => (sum_prop hk fun i => ratA ws tb i j).symm
  unit := fun i k hi hk => rowA_prop hi hk
  row := fun i j hi hj => by
    rw [Nat.add_sub_cancel]
    exact (sum_prop hi fun k => ratA ws tb k j).symm
  wy := ⟨fun j hj => by
    show (sumN ws.length fun k => -1 * ratA ws tb k j) = 0 + _
    rw [Rat.zero_add]
    exact sumN_congr fun k hk => by rw [tabS_prop hk]⟩
  at0 := fun i hi => by
    show (tabS ws tb).z (tb.length + i) = if tb.length ≤ tb.length + i then _ else _
    rw [tabS_prop hi, if_pos (by omega)]
  fea := fun i hi => by
    show 0 ≤ ratA ws tb i (tb.length + ws.length)
    rw [rowA_load]
    have := ok.w (ws.getD i 0) (by rw [List.getD_eq_getElem?_getD, List.getElem?_eq_getElem hi]; exact List.getElem_mem hi)
    exact Rat.intCast_nonneg.mpr this.1
theorem tabS_nz : Nz ws.length (rowA ws tb) (tabS ws tb).b := by
  unfold Nz
  have e : padB ws.length (rowA ws tb) (tabS ws tb).b = fun k i => if k = i then 1 else 0 := by
    funext k i
    unfold padB
    by_cases h : k < ws.length ∧ i < ws.length
    · rw [if_pos h]
      show rowA ws tb k (tb.length + i) = _
      unfold rowA
      rw [if_neg (by omega), if_neg (by omega)]
      by_cases e : k = i
      · rw [if_pos (by omega), if_pos e]
      · rw [if_neg (by omega), if_neg e]
    · rw [if_neg h]
  rw [e]
  decide
theorem rowA_sz (ok : HOK ws tb) {k j : Nat} (hk : k < ws.length) : Sz 10 (rowA ws tb k j) := by
  unfold rowA
  split
  · rename_i hj
    obtain ⟨row, e1, e2⟩ := cellT_get ok hj hk
    have := ok.re row (List.mem_of_getElem? e1) _ (List.mem_of_getElem? e2)
    unfold Sz
    omega
  · split
    · have := ok.w (ws.getD k 0) (by rw [List.getD_eq_getElem?_getD, List.getElem?_eq_getElem hk]; exact List.getElem_mem hk)
      unfold Sz
      omega
    · split
      · unfold Sz; decide
      · unfold Sz; decide
end
structure Fine (ws : List Int) (tb : List (List Int)) (e : Nat → Rat) (q : Rat) (S : Tb) : Prop extends Good ws.length tb.length (ratA ws tb) e q S where
  nz : Nz ws.length (rowA ws tb) S.b
structure Cost (n N : Nat) (e : Nat → Rat) (q : Rat) : Prop where
  e01 : ∀ j, e j = 0 ∨ e j = 1
  ep : ∀ j, n ≤ j → e j = 0
  q01 : q = 0 ∨ q = 1
theorem cost0 {n N : Nat} : Cost n N (fun _ => 0) 1 := ⟨fun _ => .inl rfl, fun _ _ => rfl, .inr rfl⟩
def unitE (r : Nat) (j : Nat) : Rat := if j = r then 1 else 0
theorem cost1 {n N r : Nat} (h : r < n) : Cost n N (unitE r) 0 := ⟨fun j => by unfold unitE; split <;> simp, fun j hj => by unfold unitE; rw [if_neg (by omega)], .inl rfl⟩
section
variable {ws : List Int} {tb : List (List Int)} {e : Nat → Rat} {q : Rat} {S : Tb}
theorem Fine.sz (F : Fine ws tb e q S) (ok : HOK ws tb) {i j : Nat} (hi : i < ws.length) (hj : j ≤ tb.length + ws.length) : RSz 46 (S.T i j) :=
  tab_sz F.toRws ok.n4 F.nz (fun _ _ hk _ => rowA_sz ok hk) hi hj
theorem Fine.wayIs (F : Fine ws tb e q S) {j : Nat} (hj : j ≤ tb.length + ws.length) : S.z j = e j - sumN ws.length fun i => (e (S.b i) - S.z (S.b i)) * S.T i j := by
  have d := F.wy.dual F.toRws hj
  rw [sumN_congr (g := fun i => e (S.b i) * S.T i j - S.z (S.b i) * S.T i j) fun i _ => by grind, sumN_sub]
  grind
theorem Fine.zsz (F : Fine ws tb e q S) (ok : HOK ws tb) (c : Cost tb.length (tb.length + ws.length) e q) {j : Nat} (hj : j ≤ tb.length + ws.length) : RSz 240 (S.z j) := by
  rw [F.wayIs hj]
  have one : RSz 46 (1 : Rat) := RSz.int (i := 1) (by unfold Sz; decide)
  have a : RSz 46 (e j) := by
    rcases c.e01 j with h | h
    · rw [h]; exact .zero
    · rw [h]; exact one
  have b := RSz.sumN (m := 46) ws.length (fun i => (e (S.b i) - S.z (S.b i)) * S.T i j) fun i hi => by
    have t := F.sz ok hi hj
    have : e (S.b i) - S.z (S.b i) = 0 ∨ e (S.b i) - S.z (S.b i) = 1 := by
      rw [F.at0 i hi]
      split
      · rename_i h
        rw [c.ep _ h]
        rcases c.q01 with y | y <;> rw [y]
        · exact .inl (by grind)
        · exact .inr (by grind)
      · rcases c.e01 (S.b i) with y | y <;> rw [y]
        · exact .inl (by grind)
        · exact .inr (by grind)
    rcases this with y | y <;> rw [y]
    · rw [Rat.zero_mul]; exact .zero
    · rw [Rat.one_mul]; exact t
  have h4 := ok.n4
  have : ws.length * (46 + 1) ≤ 4 * 47 := Nat.mul_le_mul_right _ h4
  exact (a.sub b).mono (by omega)
theorem Fine.turn (F : Fine ws tb e q S) (ok : HOK ws tb) {r c : Nat} (t : Turn ws.length tb.length S r c) : Fine ws tb e q (S.piv r c) :=
  ⟨F.toGood.turn t, F.nz.piv F.toRws ok.n4 t.hr (by have := t.hc; omega) (by have := t.pos; grind)⟩
theorem Fine.piv (F : Fine ws tb e q S) (ok : HOK ws tb) {r c : Nat} (hr : r < ws.length) (hc : c < tb.length) (hp : S.T r c ≠ 0) (h0 : S.T r (tb.length + ws.length) = 0) : Fine ws tb e q (S.piv r c) :=
  ⟨F.toGood.piv hr hc hp fun i hi => by
    show 0 ≤ if i = r then S.T r (tb.length + ws.length) / S.T r c else S.T i (tb.length + ws.length) - S.T i c * (S.T r (tb.length + ws.length) / S.T r c)
    rw [h0]
    have := F.fea i hi
    split <;> grind, F.nz.piv F.toRws ok.n4 hr (by omega) hp⟩
theorem Fine.spare (F : Fine ws tb e q S) {j : Nat} (hj : j < tb.length) : (sumN ws.length fun k => S.z (tb.length + k) * ((cellT tb j k : Int) : Rat)) = S.z j - e j := by
  have := F.wy.is j (by omega)
  rw [this, sumN_congr (g := fun k => S.z (tb.length + k) * ratA ws tb k j) fun k _ => by rw [rowA_rope hj]]
  grind
theorem Fine.gain (F : Fine ws tb e q S) (c : Cost tb.length (tb.length + ws.length) e q) : (sumN ws.length fun k => S.z (tb.length + k) * ((ws.getD k 0 : Int) : Rat)) = S.z (tb.length + ws.length) := by
  have := F.wy.is (tb.length + ws.length) (by omega)
  rw [this, c.ep _ (by omega), sumN_congr (g := fun k => S.z (tb.length + k) * ratA ws tb k (tb.length + ws.length)) fun k _ => by rw [rowA_load]]
  grind
theorem xval_nn (F : Fine ws tb e q S) (j : Nat) : 0 ≤ xval ws.length tb.length S j := sumN_nonneg fun i hi => by
  split
  · exact F.fea i hi
  · exact Rat.le_refl
theorem Fine.holds (F : Fine ws tb e q S) (p0 : ∀ i, i < ws.length → tb.length ≤ S.b i → S.T i (tb.length + ws.length) = 0) {k : Nat} (hk : k < ws.length) : (sumN tb.length fun j => ((cellT tb j k : Int) : Rat) * xval ws.length tb.length S j) = ((ws.getD k 0 : Int) : Rat) := by
  have h1 := F.col k (tb.length + ws.length) hk (by omega)
  rw [rowA_load] at h1
  rw [h1]
  unfold xval
  rw [sumN_congr (g := fun j => sumN ws.length fun i => if S.b i = j then ratA ws tb k j * S.T i (tb.length + ws.length) else 0) fun j hj => by
    rw [← rowA_rope (ws := ws) (k := k) hj, ← sumN_mul]
    exact sumN_congr fun i _ => by split <;> grind]
  rw [sumN_comm]
  refine sumN_congr fun i hi => ?_
  by_cases h : S.b i < tb.length
  · rw [sumN_one h]
    · rw [if_pos rfl]
    · intro j _ ne
      rw [if_neg (fun z => ne z.symm)]
  · rw [p0 i hi (by omega), sumN_congr (g := fun _ => 0) fun j hj => by rw [if_neg (by omega)], sumN_zero]
    grind
theorem Fine.loss (F : Fine ws tb (fun _ => 0) 1 S) : S.z (tb.length + ws.length) = - sumN ws.length fun i => if tb.length ≤ S.b i then S.T i (tb.length + ws.length) else 0 := by
  rw [F.wayIs (by omega)]
  rw [sumN_congr (g := fun i => if tb.length ≤ S.b i then S.T i (tb.length + ws.length) else 0) fun i hi => by rw [F.at0 i hi]; split <;> grind]
  grind
theorem Fine.props0 (F : Fine ws tb (fun _ => 0) 1 S) (h : ¬ S.z (tb.length + ws.length) < 0) : ∀ i, i < ws.length → tb.length ≤ S.b i → S.T i (tb.length + ws.length) = 0 := by
  intro i hi hb
  rw [F.loss] at h
  have nn : ∀ i, i < ws.length → 0 ≤ if tb.length ≤ S.b i then S.T i (tb.length + ws.length) else 0 := fun i hi => by
    split
    · exact F.fea i hi
    · exact Rat.le_refl
  have a := sumN_nonneg nn
  have := sumN_zero_each nn (by grind) i hi
  rw [if_pos hb] at this
  exact this
def Tb.less (ws : List Int) (S : Tb) (r : Nat) : Tb where
  T := S.T
  b := S.b
  z := fun j => unitE r j - sumN ws.length fun i => unitE r (S.b i) * S.T i j
theorem Fine.less (F : Fine ws tb e q S) {r : Nat} (hr : r < tb.length) : Fine ws tb (unitE r) 0 (S.less ws r) where
  bas := F.bas
  col := F.col
  unit := F.unit
  row := F.row
  wy := ⟨fun j hj => by
    show unitE r j - (sumN ws.length fun i => unitE r (S.b i) * S.T i j) = unitE r j + sumN ws.length fun k => (unitE r (tb.length + k) - sumN ws.length fun i => unitE r (S.b i) * S.T i (tb.length + k)) * ratA ws tb k j
    have h1 : (sumN ws.length fun k => (unitE r (tb.length + k) - sumN ws.length fun i => unitE r (S.b i) * S.T i (tb.length + k)) * ratA ws tb k j) = - sumN ws.length fun i => unitE r (S.b i) * S.T i j := by
      rw [sumN_congr (g := fun k => -1 * sumN ws.length fun i => unitE r (S.b i) * S.T i (tb.length + k) * ratA ws tb k j) fun k hk => by
        rw [show unitE r (tb.length + k) = 0 by unfold unitE; rw [if_neg (by omega)], sumN_mul']
        grind]
      rw [sumN_mul, sumN_comm]
      rw [sumN_congr (f := fun i => sumN ws.length fun k => unitE r (S.b i) * S.T i (tb.length + k) * ratA ws tb k j) (g := fun i => unitE r (S.b i) * S.T i j) fun i hi => by
        have := F.row i j hi hj
        rw [Nat.add_sub_cancel] at this
        rw [this, ← sumN_mul]
        exact sumN_congr fun k _ => by grind]
      grind
    rw [h1]
    grind⟩
  at0 := fun i hi => by
    show unitE r (S.b i) - (sumN ws.length fun k => unitE r (S.b k) * S.T k (S.b i)) = _
    rw [sumN_one hi]
    · rw [F.unit i i hi hi, if_pos rfl]
      split <;> grind
    · intro k hk ne
      rw [F.unit k i hk hi, if_neg ne]
      grind
  fea := F.fea
  nz := F.nz
theorem Fine.pull {r : Nat} (F : Fine ws tb (unitE r) 0 S) (hr : r < tb.length) : S.z (tb.length + ws.length) = - xval ws.length tb.length S r := by
  rw [F.wayIs (by omega)]
  unfold xval
  rw [sumN_congr (g := fun i => if S.b i = r then S.T i (tb.length + ws.length) else 0) fun i hi => by
    rw [F.at0 i hi]
    unfold unitE
    split <;> split <;> grind]
  unfold unitE
  rw [if_neg (by omega)]
  grind
def Clean (ws : List Int) (tb : List (List Int)) (S : Tb) : Prop := ∀ i, i < ws.length → tb.length ≤ S.b i → S.T i (tb.length + ws.length) = 0 ∧ ∀ j, j < tb.length → S.T i j = 0
theorem Clean.turn (h : Clean ws tb S) {r c : Nat} (hc : c < tb.length) (hr : r < ws.length) (hp : S.T r c ≠ 0) : Clean ws tb (S.piv r c) := by
  intro i hi hb
  change tb.length ≤ (if i = r then c else S.b i) at hb
  by_cases e2 : i = r
  · rw [if_pos e2] at hb
    omega
  · rw [if_neg e2] at hb
    obtain ⟨h1, h2⟩ := h i hi hb
    refine ⟨?_, fun j hj => ?_⟩
    · show (if i = r then _ else S.T i (tb.length + ws.length) - S.T i c * _) = 0
      rw [if_neg e2, h1, h2 c hc]
      grind
    · show (if i = r then _ else S.T i j - S.T i c * _) = 0
      rw [if_neg e2, h2 j hj, h2 c hc]
      grind
end
end Hw
namespace Hw
open PySem L2
def col (tb : List (List Int)) (b : Nat) : List Int := (List.range tb.length).map fun r => cellT tb r b
def rowT (tb : List (List Int)) (n r : Nat) : List Int := (List.range n).map fun b => cellT tb r b
theorem cellT_le {ws : List Int} {tb : List (List Int)} (ok : HOK ws tb) (r b : Nat) : (cellT tb r b).natAbs ≤ 9 := by
  unfold cellT
  by_cases hr : r < tb.length
  · rw [List.getD_eq_getElem?_getD (l := tb), List.getElem?_eq_getElem hr]
    show ((tb[r]).getD b 0).natAbs ≤ 9
    by_cases hb : b < (tb[r]).length
    · rw [List.getD_eq_getElem?_getD, List.getElem?_eq_getElem hb]
      exact ok.re _ (List.getElem_mem hr) _ (List.getElem_mem hb)
    · rw [List.getD_eq_getElem?_getD, List.getElem?_eq_none (by omega)]
      show (0 : Int).natAbs ≤ 9
      decide
  · rw [List.getD_eq_getElem?_getD (l := tb), List.getElem?_eq_none (by omega)]
    show (([] : List Int).getD b 0).natAbs ≤ 9
    simp
theorem rowT_eq {ws : List Int} {tb : List (List Int)} (ok : HOK ws tb) {r : Nat} (hr : r < tb.length) : rowT tb ws.length r = tb[r] := by
  have hl := ok.rl _ (List.getElem_mem hr)
  refine List.ext_getElem (by simp [rowT, hl]) fun i h1 h2 => ?_
  simp only [rowT, List.getElem_map, List.getElem_range]
  unfold cellT
  rw [List.getD_eq_getElem?_getD (l := tb), List.getElem?_eq_getElem hr]
  show (tb[r]).getD i 0 = _
  rw [List.getD_eq_getElem?_getD, List.getElem?_eq_getElem h2]
  rfl
theorem col_len (tb : List (List Int)) (b : Nat) : (col tb b).length = tb.length := by simp [col]
theorem rowT_len (tb : List (List Int)) (n b : Nat) : (rowT tb n b).length = n := by simp [rowT]
theorem sz_9 {n : Int} (h : n.natAbs ≤ 9) : Sz 12 n := by
  unfold Sz
  omega
theorem rowT_sz {ws : List Int} {tb : List (List Int)} (ok : HOK ws tb) (m r : Nat) : ∀ n ∈ rowT tb m r, Sz 12 n := fun n hn => by
  obtain ⟨b, _, rfl⟩ := List.mem_map.mp hn
  exact sz_9 (cellT_le ok _ _)
theorem w_sz {ws : List Int} (ok : WOK ws) : ∀ n ∈ ws, Sz 12 n := fun n hn => by
  have := ok.w n hn
  unfold Sz
  omega
def spStrandsAt (K : PySem.W.Frag) (C : Ad) : Sp := fun vs H Q _ => ∃ v ws tb, ∃ b : Nat, vs = [v, .int b] ∧ HoistAt K C H v ws tb ∧ b < ws.length ∧ Res K H Q (intsD (col tb b))
def spStrandsOf (K : PySem.W.Frag) (C : Ad) : Sp := fun vs H Q _ => ∃ v ws tb, ∃ r : Nat, vs = [v, .int r] ∧ HoistAt K C H v ws tb ∧ r < tb.length ∧ Res K H Q (intsD (rowT tb ws.length r))
def spAdded (K : PySem.W.Frag) : Sp := fun vs H Q _ => ∃ v u ns qs, vs = [v, u] ∧ HasD K H v (intsD ns) ∧ HasD K H u (frsD qs) ∧ ns.length = qs.length ∧ ns.length ≤ 9 ∧ (∀ n ∈ ns, Sz 12 n) ∧ (∀ q ∈ qs, RSz 300 q) ∧ Res K H Q (frD (dot ns qs))
def nonneg (qs : List Rat) : Bool := qs.all fun q => !decide (q < 0)
def liftT (ws : List Int) (tb : List (List Int)) (qs : List Rat) : List Rat := (List.range ws.length).map fun b => dot (col tb b) qs
def spareT (ws : List Int) (tb : List (List Int)) (qs : List Rat) : List Rat := (List.range tb.length).map fun r => dot (rowT tb ws.length r) qs
def holdsT (ws : List Int) (tb : List (List Int)) (qs : List Rat) : Bool := nonneg qs && decide (liftT ws tb qs = ws.map fun w : Int => (w : Rat))
def spSpare (K : PySem.W.Frag) (C : Ad) : Sp := fun vs H Q _ => ∃ v u ws tb qs, vs = [v, u] ∧ HoistAt K C H v ws tb ∧ HasD K H u (frsD qs) ∧ qs.length = ws.length ∧ (∀ q ∈ qs, RSz 300 q) ∧ Res K H Q (frsD (spareT ws tb qs))
def spGain (K : PySem.W.Frag) (C : Ad) : Sp := fun vs H Q _ => ∃ v u ws tb qs, vs = [v, u] ∧ HoistAt K C H v ws tb ∧ HasD K H u (frsD qs) ∧ qs.length = ws.length ∧ (∀ q ∈ qs, RSz 300 q) ∧ Res K H Q (frD (dot ws qs))
theorem small_nat {n : Nat} (h : n ≤ 100) : smallI (n : Int) := by
  unfold smallI
  omega
theorem HoistAt.meth {K : PySem.W.Frag} {C : Ad} {H : Hp} {v : V} {ws : List Int} {tb : List (List Int)} (h : HoistAt K C H v ws tb) {m : Str} (h1 : ¬ m = "rope_strands") (h2 : ¬ m = "body_weights") : ∃ p dx fs, v = .ref p ∧ H p = some (.ins C.Hoist dx fs) ∧ fs.lookup m = none := by
  obtain ⟨⟨p, dx, a, b, rfl, q, _⟩, _⟩ := h
  exact ⟨p, dx, _, rfl, q, hflds_no a b h1 h2⟩
theorem sc_strands_at : FnScope ["hoist", "body"] ["hoist", "body"] (defScope s_strands_at) := ⟨rfl, rfl, rfl, by decide +kernel, rfl, by decide +kernel, by decide +kernel⟩
theorem ok_strands_at {P : Program} {w : World} {K : PySem.W.Frag} {mg : Str → Option Value} {base : Heap} {C : Ad} (T : Txt K mg C) (D : Def K mg "strands_at" "strands_at" s_strands_at ["hoist", "body"])
    (o_Hoist_many_ropes : OwnM P w K mg base CX0 C.Hoist "many_ropes" ["self"] 1 (spManyRopes K C))
    (o_Hoist_strands : OwnM P w K mg base (CXE P w) C.Hoist "strands" ["self", "rope", "body"] 3 (spStrands K C)) :
    Own P w K mg base CX0 "strands_at" ["hoist", "body"] 4 (spStrandsAt K C) := by
  refine D.own sc_strands_at (fun vs H Q E h => ?_) (fun f cdv A outer s H vs Q E hr h => ?_)
  · obtain ⟨a, _, _, _, rfl, _⟩ := h
    rfl
  · obtain ⟨v, ws, tb, b, rfl, hA, hb, k⟩ := h
    have h4 := hA.ok.n4
    have h5 := hA.ok.r5
    have sl : (10 : Nat) ≤ sizeLine := by decide
    refine ⟨_, (pss_one (ps_ret (pe_comp (tg := ["rope"]) (cap := ["hoist", "body"]) (caps := [0, 1]) (CompSc.of_ok (by kernel_rfl)) rfl (gk_name (by decide)) (pi_range1 rfl T.b_range (pa_cons (pe_ownM0 o_Hoist_many_ropes T.l_Hoist (hr.mono (by decide)) pass0 (pv 0)) pa_nil)) (fun _ _ _ _ _ => (pg_name (i := 0) (show ((["rope"] : List Str) ++ (["hoist", "body"] : List Str)).Nodup by decide +kernel) rfl (Or.inl rfl))) (fun _ _ _ _ _ => pts_nil) (fun _ _ _ _ _ => (pe_ownM o_Hoist_strands T.l_Hoist (hr.mono (by decide)) passN (pv 1) (pa_cons (pv 0) (pa_cons (pv 2) pa_nil))))))), ?_⟩
    obtain ⟨p, dx, fs, e, hp, hm⟩ := hA.meth (m := "many_ropes") (by decide +kernel) (by decide +kernel)
    refine ⟨_, rfl, p, dx, fs, e, hp, hm, v, ws, tb, rfl, hA, _, rfl, by omega, by omega, fun l hl => ?_⟩
    rw [Int.toNat_natCast]
    refine comp_rangeD (K := K) (ds := (col tb b).map PyData.int) (by rw [List.length_map, col_len]) hl (by omega) ?_ ?_
    · intro i H2 d R ed S kk
      have hi : i < tb.length := by
        have := (List.getElem?_eq_some_iff.mp ed).1
        rw [List.length_map, col_len] at this
        exact this
      have ed' : PyData.int (cellT tb i b) = d := by
        simp [col, hi] at ed
        exact ed
      subst ed'
      obtain ⟨p, dx, fs, e, hp, hm⟩ := (hA.same S).meth (m := "strands") (by decide +kernel) (by decide +kernel)
      refine ⟨_, rfl, p, dx, fs, e, hp, hm, _, rfl, _, rfl, v, ws, tb, (i : Int), (b : Int), by rw [Int.zero_add]; rfl, hA.same S, small_nat (by omega), small_nat (by omega), fun _ _ => ?_, fun z => absurd ⟨by omega, by omega⟩ z, fun _ z => absurd ⟨by omega, by omega⟩ z⟩
      rw [Int.toNat_natCast, Int.toNat_natCast]
      exact kk _ _ (Same.refl _) (.int _)
    · intro H2 S N
      exact k _ _ S N
theorem sc_strands_of : FnScope ["hoist", "rope"] ["hoist", "rope"] (defScope s_strands_of) := ⟨rfl, rfl, rfl, by decide +kernel, rfl, by decide +kernel, by decide +kernel⟩
theorem ok_strands_of {P : Program} {w : World} {K : PySem.W.Frag} {mg : Str → Option Value} {base : Heap} {C : Ad} (T : Txt K mg C) (D : Def K mg "strands_of" "strands_of" s_strands_of ["hoist", "rope"])
    (o_Hoist_strands : OwnM P w K mg base (CXE P w) C.Hoist "strands" ["self", "rope", "body"] 3 (spStrands K C))
    (o_Hoist_weights : OwnM P w K mg base CX0 C.Hoist "weights" ["self"] 1 (spWeights K C)) :
    Own P w K mg base CX0 "strands_of" ["hoist", "rope"] 4 (spStrandsOf K C) := by
  refine D.own sc_strands_of (fun vs H Q E h => ?_) (fun f cdv A outer s H vs Q E hr h => ?_)
  · obtain ⟨a, _, _, _, rfl, _⟩ := h
    rfl
  · obtain ⟨v, ws, tb, r, rfl, hA, hb, k⟩ := h
    have h4 := hA.ok.n4
    have h5 := hA.ok.r5
    have sl : (10 : Nat) ≤ sizeLine := by decide
    refine ⟨_, (pss_one (ps_ret (pe_comp (tg := ["body"]) (cap := ["hoist", "rope"]) (caps := [0, 1]) (CompSc.of_ok (by kernel_rfl)) rfl (gk_name (by decide)) (pi_range1 rfl T.b_range (pa_cons (pe_callB (call_lenK (K := K) rfl) rfl T.b_len bt_len (pa_cons (pe_ownM0 o_Hoist_weights T.l_Hoist (hr.mono (by decide)) pass0 (pv 0)) pa_nil)) pa_nil)) (fun _ _ _ _ _ => (pg_name (i := 0) (show ((["body"] : List Str) ++ (["hoist", "rope"] : List Str)).Nodup by decide +kernel) rfl (Or.inl rfl))) (fun _ _ _ _ _ => pts_nil) (fun _ _ _ _ _ => (pe_ownM o_Hoist_strands T.l_Hoist (hr.mono (by decide)) passN (pv 1) (pa_cons (pv 2) (pa_cons (pv 0) pa_nil))))))), ?_⟩
    obtain ⟨p, dx, fs, e, hp, hm⟩ := hA.meth (m := "weights") (by decide +kernel) (by decide +kernel)
    refine ⟨_, rfl, p, dx, fs, e, hp, hm, v, ws, tb, rfl, hA, fun r1 H1 S1 N1 => ⟨_, _, rfl, .inl (NewD.has _ N1), _, rfl, by omega, by rw [List.length_map]; omega, fun l hl => ?_⟩⟩
    rw [Int.toNat_natCast, List.length_map]
    refine comp_rangeD (K := K) (ds := (rowT tb ws.length r).map PyData.int) (by rw [List.length_map, rowT_len]) hl (by omega) ?_ ?_
    · intro i H2 d R ed S kk
      have hi : i < ws.length := by
        have := (List.getElem?_eq_some_iff.mp ed).1
        rw [List.length_map, rowT_len] at this
        exact this
      have ed' : PyData.int (cellT tb r i) = d := by
        simp [rowT, hi] at ed
        exact ed
      subst ed'
      have hA2 := (hA.same S1).same S
      obtain ⟨p, dx, fs, e, hp, hm⟩ := hA2.meth (m := "strands") (by decide +kernel) (by decide +kernel)
      refine ⟨_, rfl, p, dx, fs, e, hp, hm, _, rfl, _, rfl, v, ws, tb, (r : Int), (i : Int), by rw [Int.zero_add]; rfl, hA2, small_nat (by omega), small_nat (by omega), fun _ _ => ?_, fun z => absurd ⟨by omega, by omega⟩ z, fun _ z => absurd ⟨by omega, by omega⟩ z⟩
      rw [Int.toNat_natCast, Int.toNat_natCast]
      exact kk _ _ (Same.refl _) (.int _)
    · intro H2 S N
      exact k _ _ (S1.trans S) (N.wider S1)
theorem sc_added : FnScope ["numbers", "fractions", "total", "number", "fraction"] ["numbers", "fractions"] (defScope s_added) := ⟨rfl, rfl, rfl, by decide +kernel, rfl, by decide +kernel, by decide +kernel⟩
theorem ok_added {P : Program} {w : World} {K : PySem.W.Frag} {mg : Str → Option Value} {base : Heap} {C : Ad} (T : Txt K mg C) (D : Def K mg "added" "added" s_added ["numbers", "fractions"])
    (o_plus : Own P w K mg base CX0 "plus" ["one", "other"] 3 (spRat K (fun _ => True) (· + ·)))
    (o_times : Own P w K mg base CX0 "times" ["one", "other"] 3 (spRat K (fun _ => True) (· * ·))) :
    Own P w K mg base CX0 "added" ["numbers", "fractions"] 4 (spAdded K) := by
  refine D.own sc_added (fun vs H Q E h => ?_) (fun f cdv A outer s H vs Q E hr h => ?_)
  · obtain ⟨a, _, _, _, rfl, _⟩ := h
    rfl
  · obtain ⟨v, u, ns, qs, rfl, hv, hu, hl, h9, hn, hq, k⟩ := h
    obtain ⟨a, rfl, ha⟩ := has_ints hv
    obtain ⟨b, ys, rfl, hb, hd⟩ := hu.oflst
    have ly : ys.length = qs.length := by rw [hd.len, List.length_map]
    refine ⟨_, (pss_cons (ps_set (i := 2) sc_added.nd rfl (Or.inl rfl) (pe_glob (v := .ref C.NOUGHT) rfl T.g_NOUGHT rfl))
        (pss_cons (ps_for PassesOwn.never rfl (pi_zipK (K := K) rfl rfl T.b_zip (pa_cons (pv 0) (pa_cons (pv 1) pa_nil))) (pg_tupK (K := K) rfl rfl (pgs_cons (pg_name (i := 3) sc_added.nd rfl (Or.inl rfl)) (pgs_cons (pg_name (i := 4) sc_added.nd rfl (Or.inl rfl)) pgs_nil)))
        (pss_one (ps_set (i := 2) sc_added.nd rfl (Or.inl rfl) (pe_own o_plus (hr.mono (by decide)) rfl pass0 (pa_cons (pv 2) (pa_cons (pe_own o_times (hr.mono (by decide)) rfl pass0 (pa_cons (pe_tup (pa_cons (pv 3) (pa_cons pe_int pa_nil))) (pa_cons (pv 4) pa_nil))) pa_nil))))))
        (pss_one (ps_ret (pv 2))))), ?_⟩
    refine ⟨_, rfl, _, rfl, a, b, rfl, ⟨_, ha⟩, ⟨_, hb⟩, for_zip (K := K) (xs := ns.map V.int) (ys := ys) (fun i σ H2 => Same H H2 ∧ ∃ t z1 z2, σ = [some (.ref a), some (.ref b), some t, z1, z2] ∧ HasD K H2 t (frD (dot (ns.take i) (qs.take i))))
      ⟨Same.refl _, _, _, _, rfl, fr_has (q := 0) (T.k_NOUGHT _)⟩ (fun i σ H2 _ ⟨S, _⟩ => ⟨S.seq ha, S.seq hb⟩) ?_ ?_⟩
    · rintro i x y t σ H2 hx hy ht ⟨S, tot, z1, z2, rfl, htot⟩
      rw [List.getElem?_map] at hx
      cases hni : ns[i]? with
      | none => rw [hni] at hx; cases hx
      | some n =>
        rw [hni] at hx
        cases hx
        obtain ⟨d, ed, hyd⟩ := hd.at hy
        rw [List.getElem?_map] at ed
        cases hqi : qs[i]? with
        | none => rw [hqi] at ed; cases ed
        | some q =>
          rw [hqi] at ed
          cases ed
          have hi : i < ns.length := (List.getElem?_eq_some_iff.mp hni).1
          have sn := hn n (List.mem_of_getElem? hni)
          have sq := hq q (List.mem_of_getElem? hqi)
          have sd : RSz 4000 (dot (ns.take i) (qs.take i)) := (RSz.dot (m := 300) (ns.take i) (qs.take i) (fun x hx => hn x (List.mem_of_mem_take hx)) (fun x hx => hq x (List.mem_of_mem_take hx))).mono (by rw [List.length_take]; have h := Nat.mul_le_mul_right 313 (show min i ns.length ≤ 9 by omega); omega)
          have S1 : Same H2 (upd H2 t (.tup [V.int n, y])) := Same.upd ht
          refine ⟨t, _, rfl, SqT.of upd_same, rfl, _, _, rfl, _, _, rfl, rfl, ?_⟩
          refine ⟨_, rfl, _, rfl, by show 2 ≤ sizeLine; decide, fun p hp => ⟨_, rfl, ?_⟩⟩
          have S2 := S1.trans (Same.upd hp (o := .tup [V.int n, V.int 1]))
          refine ⟨_, _, (n : Rat), q, rfl, fr_has (q := (n : Rat)) (SqT.of upd_same), (hyd.same (S.trans S2)), (RSz.int sn).mono (by decide), sq.mono (by decide), trivial, fun r3 H3 S3 N3 => ?_⟩
          refine ⟨_, _, _, _, rfl, htot.same (S2.trans S3), NewD.has _ N3, sd, ((RSz.int sn).mul sq).mono (by decide), trivial, fun r4 H4 S4 N4 => ?_⟩
          refine ⟨((S.trans S2).trans S3).trans S4, r4, _, _, rfl, ?_⟩
          rw [dot_take hl hni hqi]
          exact NewD.has _ N4
    · rintro σ H2 ⟨S, tot, z1, z2, rfl, htot⟩
      refine ⟨_, rfl, ?_⟩
      have e : min (ns.map V.int).length ys.length = ns.length := by rw [List.length_map, ly, hl]; omega
      rw [e, List.take_length, hl, List.take_length] at htot
      obtain ⟨p, rfl, hp⟩ := has_fr htot
      exact k _ _ S (fr_new hp)
theorem sc_spare : FnScope ["hoist", "motion"] ["hoist", "motion"] (defScope s_spare) := ⟨rfl, rfl, rfl, by decide +kernel, rfl, by decide +kernel, by decide +kernel⟩
theorem ok_spare {P : Program} {w : World} {K : PySem.W.Frag} {mg : Str → Option Value} {base : Heap} {C : Ad} (T : Txt K mg C) (D : Def K mg "spare" "spare" s_spare ["hoist", "motion"])
    (o_Hoist_many_ropes : OwnM P w K mg base CX0 C.Hoist "many_ropes" ["self"] 1 (spManyRopes K C))
    (o_added : Own P w K mg base CX0 "added" ["numbers", "fractions"] 4 (spAdded K))
    (o_strands_of : Own P w K mg base CX0 "strands_of" ["hoist", "rope"] 4 (spStrandsOf K C)) :
    Own P w K mg base CX0 "spare" ["hoist", "motion"] 5 (spSpare K C) := by
  refine D.own sc_spare (fun vs H Q E h => ?_) (fun f cdv A outer s H vs Q E hr h => ?_)
  · obtain ⟨a, _, _, _, _, rfl, _⟩ := h
    rfl
  · obtain ⟨v, u, ws, tb, qs, rfl, hA, hu, hl, hq, k⟩ := h
    have h4 := hA.ok.n4
    have h5 := hA.ok.r5
    have sl : (10 : Nat) ≤ sizeLine := by decide
    refine ⟨_, (pss_one (ps_ret (pe_comp (tg := ["rope"]) (cap := ["hoist", "motion"]) (caps := [0, 1]) (CompSc.of_ok (by kernel_rfl)) rfl (gk_name (by decide)) (pi_range1 rfl T.b_range (pa_cons (pe_ownM0 o_Hoist_many_ropes T.l_Hoist (hr.mono (by decide)) pass0 (pv 0)) pa_nil)) (fun _ _ _ _ _ => (pg_name (i := 0) (show ((["rope"] : List Str) ++ (["hoist", "motion"] : List Str)).Nodup by decide +kernel) rfl (Or.inl rfl))) (fun _ _ _ _ _ => pts_nil) (fun _ _ _ _ _ => (pe_own o_added (hr.mono (by decide)) rfl pass0 (pa_cons (pe_own o_strands_of (hr.mono (by decide)) rfl pass0 (pa_cons (pv 1) (pa_cons (pv 0) pa_nil))) (pa_cons (pv 2) pa_nil))))))), ?_⟩
    obtain ⟨p, dx, fs, e, hp, hm⟩ := hA.meth (m := "many_ropes") (by decide +kernel) (by decide +kernel)
    refine ⟨_, rfl, p, dx, fs, e, hp, hm, v, ws, tb, rfl, hA, _, rfl, by omega, by omega, fun l hl' => ?_⟩
    rw [Int.toNat_natCast]
    refine comp_rangeD (K := K) (ds := (spareT ws tb qs).map frD) (by simp [spareT]) hl' (by omega) ?_ ?_
    · intro i H2 d R ed S kk
      have hi : i < tb.length := by
        have := (List.getElem?_eq_some_iff.mp ed).1
        simpa [spareT] using this
      have ed' : frD (dot (rowT tb ws.length i) qs) = d := by
        simp [spareT, hi] at ed
        exact ed
      subst ed'
      have hA2 := hA.same S
      refine ⟨_, rfl, _, rfl, v, ws, tb, i, by rw [Int.zero_add]; rfl, hA2, hi, fun r3 H3 S3 N3 => ?_⟩
      refine ⟨_, rfl, _, _, _, qs, rfl, NewD.has _ N3, hu.same (S.trans S3), by rw [rowT_len, hl], by rw [rowT_len]; omega, rowT_sz hA.ok _ i, hq, fun r4 H4 S4 N4 => ?_⟩
      exact kk _ _ (S3.trans S4) (N4.wider S3)
    · intro H2 S N
      exact k _ _ S N
theorem sc_gain : FnScope ["hoist", "motion"] ["hoist", "motion"] (defScope s_gain) := ⟨rfl, rfl, rfl, by decide +kernel, rfl, by decide +kernel, by decide +kernel⟩
theorem ok_gain {P : Program} {w : World} {K : PySem.W.Frag} {mg : Str → Option Value} {base : Heap} {C : Ad} (T : Txt K mg C) (D : Def K mg "gain" "gain" s_gain ["hoist", "motion"])
    (o_Hoist_weights : OwnM P w K mg base CX0 C.Hoist "weights" ["self"] 1 (spWeights K C))
    (o_added : Own P w K mg base CX0 "added" ["numbers", "fractions"] 4 (spAdded K)) :
    Own P w K mg base CX0 "gain" ["hoist", "motion"] 5 (spGain K C) := by
  refine D.own sc_gain (fun vs H Q E h => ?_) (fun f cdv A outer s H vs Q E hr h => ?_)
  · obtain ⟨a, _, _, _, _, rfl, _⟩ := h
    rfl
  · obtain ⟨v, u, ws, tb, qs, rfl, hA, hu, hl, hq, k⟩ := h
    have h4 := hA.ok.n4
    refine ⟨_, (pss_one (ps_ret (pe_own o_added (hr.mono (by decide)) rfl pass0 (pa_cons (pe_ownM0 o_Hoist_weights T.l_Hoist (hr.mono (by decide)) pass0 (pv 0)) (pa_cons (pv 1) pa_nil))))), ?_⟩
    obtain ⟨p, dx, fs, e, hp, hm⟩ := hA.meth (m := "weights") (by decide +kernel) (by decide +kernel)
    refine ⟨_, rfl, p, dx, fs, e, hp, hm, v, ws, tb, rfl, hA, fun r1 H1 S1 N1 => ⟨_, rfl, ?_⟩⟩
    refine ⟨_, _, ws, qs, rfl, NewD.has _ N1, hu.same S1, hl.symm, by omega, w_sz hA.ok.toWOK, hq, fun r2 H2 S2 N2 => ?_⟩
    exact k _ _ (S1.trans S2) (N2.wider S1)
def frRow (N : Nat) (f : Nat → Rat) : List Rat := (List.range (N + 1)).map f
theorem frRow_len (N : Nat) (f : Nat → Rat) : (frRow N f).length = N + 1 := by simp [frRow]
theorem frRow_get {N : Nat} {f : Nat → Rat} {j : Nat} (h : j ≤ N) : (frRow N f)[j]? = some (f j) := by
  unfold frRow
  rw [List.getElem?_map, List.getElem?_range (by omega)]
  rfl
theorem frRow_congr {N : Nat} {f g : Nat → Rat} (h : ∀ j, j ≤ N → f j = g j) : frRow N f = frRow N g := by
  unfold frRow
  exact List.map_congr_left fun j hj => h j (by have := List.mem_range.mp hj; omega)
theorem frD_at {N : Nat} {f : Nat → Rat} {j : Nat} {d : PyData} (h : ((frRow N f).map frD)[j]? = some d) : j ≤ N ∧ d = frD (f j) := by
  rw [List.getElem?_map] at h
  by_cases hj : j ≤ N
  · rw [frRow_get hj] at h
    exact ⟨hj, (Option.some.inj h).symm⟩
  · rw [List.getElem?_eq_none (by rw [frRow_len]; omega)] at h
    cases h
def spCleared (K : PySem.W.Frag) : Sp := fun vs H Q _ => ∃ (v u : V) (N c : Nat) (f g : Nat → Rat), vs = [v, u, .int c] ∧ HasD K H v (frsD (frRow N f)) ∧ HasD K H u (frsD (frRow N g)) ∧ c ≤ N ∧ N ≤ 20 ∧ (∀ j, j ≤ N → RSz 1000 (f j)) ∧ (∀ j, j ≤ N → RSz 1000 (g j)) ∧ Res K H Q (frsD (frRow N fun j => f j - f c * g j))
def spFirstTrue (K : PySem.W.Frag) : Sp := fun vs H Q _ => ∃ (v : V) (n : Nat) (g : Nat → Bool), vs = [v] ∧ n ≤ 20 ∧ HasD K H v (.list ((List.range n).map fun j => .bool (g j))) ∧
  (∀ H' k, Same H H' → k < n → g k = true → (∀ j, j < k → g j = false) → Q (.int (k : Nat)) H') ∧ (∀ H', Same H H' → (∀ j, j < n → g j = false) → Q .non H')
def spFirstRow (K : PySem.W.Frag) (C : Ad) : Sp := fun vs H Q _ => ∃ (v : V) (ws : List Int) (tb : List (List Int)) (i : Nat), vs = [v, .int i] ∧ HoistAt K C H v ws tb ∧ i < ws.length ∧ Res K H Q (frsD (frRow (tb.length + ws.length) (ratA ws tb i)))
def spWholeWay (K : PySem.W.Frag) (C : Ad) : Sp := fun vs H Q _ => ∃ (v u : V) (ws : List Int) (tb : List (List Int)), vs = [v, u] ∧ HoistAt K C H v ws tb ∧ (∃ a xs, u = .ref a ∧ H a = some (.lst xs) ∧ HasDs K H xs ((List.replicate ws.length (-1 : Rat)).map frD)) ∧ Res K H Q (frsD (frRow (tb.length + ws.length) (tabS ws tb).z))
def bflds (n : Int) (a b w : Addr) : List (Str × V) := [("ropes", .int n), ("rows", .ref a), ("bearers", .ref b), ("way", .ref w)]
def rowsD (m N : Nat) (T : Nat → Nat → Rat) : PyData := .list ((List.range m).map fun i => frsD (frRow N (T i)))
structure BearAt (K : PySem.W.Frag) (C : Ad) (H0 H : Hp) (v : V) (ws : List Int) (tb : List (List Int)) (S : Tb) : Prop where
  ex : ∃ p dx a b w, v = .ref p ∧ H0 p = none ∧ H p = some (.ins C.Bearing dx (bflds tb.length a b w)) ∧ H0 b = none ∧ H b = some (.lst ((List.range ws.length).map fun i => V.int (S.b i : Nat))) ∧
    NewD K (upd H0 b (.lst [])) H (.ref a) (rowsD ws.length (tb.length + ws.length) S.T) ∧ NewD K (upd H0 b (.lst [])) H (.ref w) (frsD (frRow (tb.length + ws.length) S.z))
  same : Same H0 H
  ok : HOK ws tb
def spBearI (K : PySem.W.Frag) (C : Ad) : Sp := fun vs H Q _ => ∃ (x dx : Addr) (v : V) (ws : List Int) (tb : List (List Int)) (H0 : Hp), vs = [.ref x, v] ∧ H x = some (.ins C.Bearing dx []) ∧ Same H0 H ∧ H0 x = none ∧ HoistAt K C H0 v ws tb ∧
  ∀ H' S, BearAt K C H0 H' (.ref x) ws tb S → Fine ws tb (fun _ => 0) 1 S → (∀ j, j < tb.length → 0 ≤ S.z j) → Q .non H'
def spSinks (K : PySem.W.Frag) (C : Ad) : Sp := fun vs H Q _ => ∃ (v : V) (ws : List Int) (tb : List (List Int)) (H0 : Hp) (S : Tb), vs = [v] ∧ BearAt K C H0 H v ws tb S ∧ RSz 1000 (S.z (tb.length + ws.length)) ∧ Q (.bl (decide (S.z (tb.length + ws.length) < 0))) H
def spPulls (K : PySem.W.Frag) (C : Ad) : Sp := fun vs H Q _ => ∃ (v : V) (ws : List Int) (tb : List (List Int)) (H0 : Hp) (S : Tb), vs = [v] ∧ BearAt K C H0 H v ws tb S ∧ Rws ws.length (tb.length + ws.length) (ratA ws tb) S ∧ Res K H Q (frsD ((List.range tb.length).map (xval ws.length tb.length S)))
def spMotion (K : PySem.W.Frag) (C : Ad) : Sp := fun vs H Q _ => ∃ (v : V) (ws : List Int) (tb : List (List Int)) (H0 : Hp) (S : Tb), vs = [v] ∧ BearAt K C H0 H v ws tb S ∧ Res K H Q (frsD ((List.range ws.length).map fun k => S.z (tb.length + k)))
def spSettle (K : PySem.W.Frag) (C : Ad) : Sp := fun vs H Q _ => ∃ (v : V) (ws : List Int) (tb : List (List Int)) (H0 : Hp) (S : Tb) (e : Nat → Rat) (q : Rat), vs = [v] ∧ BearAt K C H0 H v ws tb S ∧ Fine ws tb e q S ∧ Cost tb.length (tb.length + ws.length) e q ∧
  ∀ H' S', BearAt K C H0 H' v ws tb S' → Fine ws tb e q S' → (Clean ws tb S → Clean ws tb S') → (∀ j, j < tb.length → 0 ≤ S'.z j) → Q .non H'
def spShort (K : PySem.W.Frag) (C : Ad) : Sp := fun vs H Q _ => ∃ (v : V) (ws : List Int) (tb : List (List Int)) (H0 : Hp) (S : Tb), vs = [v] ∧ BearAt K C H0 H v ws tb S ∧ (∀ j, j < tb.length → RSz 1000 (S.z j)) ∧
  (∀ H' c, Same H H' → c < tb.length → S.z c < 0 → (∀ j, j < c → 0 ≤ S.z j) → Q (.int (c : Nat)) H') ∧ (∀ H', Same H H' → (∀ j, j < tb.length → 0 ≤ S.z j) → Q .non H')
def SzT (ws : List Int) (tb : List (List Int)) (S : Tb) : Prop := ∀ i j, i < ws.length → j ≤ tb.length + ws.length → RSz 100 (S.T i j)
def sooner (N : Nat) (S : Tb) (c i k : Nat) : Prop := S.T i N / S.T i c < S.T k N / S.T k c ∨ (S.T i N / S.T i c = S.T k N / S.T k c ∧ S.b i < S.b k)
instance {N : Nat} {S : Tb} {c i k : Nat} : Decidable (sooner N S c i k) := by unfold sooner; infer_instance
def spSooner (K : PySem.W.Frag) (C : Ad) : Sp := fun vs H Q _ => ∃ (v : V) (ws : List Int) (tb : List (List Int)) (H0 : Hp) (S : Tb) (i k c : Nat), vs = [v, .int i, .int k, .int c] ∧ BearAt K C H0 H v ws tb S ∧ SzT ws tb S ∧ i < ws.length ∧ k < ws.length ∧ c < tb.length ∧ S.T i c ≠ 0 ∧ S.T k c ≠ 0 ∧
  ∀ H', Same H H' → Q (.bl (decide (sooner (tb.length + ws.length) S c i k))) H'
def spFreed (K : PySem.W.Frag) (C : Ad) : Sp := fun vs H Q _ => ∃ (v : V) (ws : List Int) (tb : List (List Int)) (H0 : Hp) (S : Tb) (c : Nat), vs = [v, .int c] ∧ BearAt K C H0 H v ws tb S ∧ SzT ws tb S ∧ c < tb.length ∧ (∃ i, i < ws.length ∧ 0 < S.T i c) ∧
  ∀ H' r, Same H H' → r < ws.length → 0 < S.T r c → (∀ i, i < ws.length → 0 < S.T i c → ¬ sooner (tb.length + ws.length) S c i r) → Q (.int (r : Nat)) H'
def spTake (K : PySem.W.Frag) (C : Ad) : Sp := fun vs H Q _ => ∃ (v : V) (ws : List Int) (tb : List (List Int)) (H0 : Hp) (S : Tb) (r c : Nat), vs = [v, .int r, .int c] ∧ BearAt K C H0 H v ws tb S ∧ SzT ws tb S ∧ (∀ j, j ≤ tb.length + ws.length → RSz 300 (S.z j)) ∧ r < ws.length ∧ c < tb.length ∧ S.T r c ≠ 0 ∧
  ∀ H', BearAt K C H0 H' v ws tb (S.piv r c) → Q .non H'
def spJudged (K : PySem.W.Frag) (C : Ad) : Sp := fun vs H Q _ => ∃ (v : V) (ws : List Int) (tb : List (List Int)), vs = [v] ∧ HoistAt K C H v ws tb ∧
  (∀ S H' u, Same H H' → NewD K H H' u (.tuple [.str "sinks", frsD ((List.range ws.length).map fun k => S.z (tb.length + k))]) → Fine ws tb (fun _ => 0) 1 S → (∀ j, j < tb.length → 0 ≤ S.z j) → S.z (tb.length + ws.length) < 0 → Q u H') ∧
  (∀ S H' u, Same H H' → NewD K H H' u (.tuple [.str "still", frsD ((List.range tb.length).map (xval ws.length tb.length S))]) → Fine ws tb (fun _ => 0) 1 S → (∀ j, j < tb.length → 0 ≤ S.z j) → ¬ S.z (tb.length + ws.length) < 0 → Q u H')
theorem sc_cleared : FnScope ["row", "other", "column", "share"] ["row", "other", "column"] (defScope s_cleared) := ⟨rfl, rfl, rfl, by decide +kernel, rfl, by decide +kernel, by decide +kernel⟩
theorem ok_cleared {P : Program} {w : World} {K : PySem.W.Frag} {mg : Str → Option Value} {base : Heap} {C : Ad} (T : Txt K mg C) (D : Def K mg "cleared" "cleared" s_cleared ["row", "other", "column"])
    (o_minus : Own P w K mg base CX0 "minus" ["one", "other"] 3 (spRat K (fun _ => True) (· - ·)))
    (o_times : Own P w K mg base CX0 "times" ["one", "other"] 3 (spRat K (fun _ => True) (· * ·))) :
    Own P w K mg base CX0 "cleared" ["row", "other", "column"] 4 (spCleared K) := by
  refine D.own sc_cleared (fun vs H Q E h => ?_) (fun f cdv A outer s H vs Q E hr h => ?_)
  · obtain ⟨a, _, _, _, _, _, rfl, _⟩ := h
    rfl
  · obtain ⟨v, u, N, c, f, g, rfl, hv, hu, hc, hN, sf, sg, k⟩ := h
    obtain ⟨av, xv, rfl, qv, dv⟩ := hv.oflst
    obtain ⟨au, xu, rfl, qu, du⟩ := hu.oflst
    refine ⟨_, (pss_cons (ps_set (i := 3) sc_cleared.nd rfl (Or.inr rfl) (pe_ix (ix_K (K := K) rfl) (pv 0) (pv 2) (fun _ _ => rfl)))
        (pss_one (ps_ret (pe_comp (tg := ["cell", "taken"]) (cap := ["share"]) (caps := [3]) (CompSc.of_ok (by kernel_rfl)) rfl (gk_tup2 (by decide) (by decide)) (pi_zipK (K := K) rfl rfl T.b_zip (pa_cons (pv 0) (pa_cons (pv 1) pa_nil))) (fun _ _ _ _ _ => (pg_tupK (K := K) rfl rfl (pgs_cons (pg_name (i := 0) (show ((["cell", "taken"] : List Str) ++ (["share"] : List Str)).Nodup by decide +kernel) rfl (Or.inl rfl)) (pgs_cons (pg_name (i := 1) (show ((["cell", "taken"] : List Str) ++ (["share"] : List Str)).Nodup by decide +kernel) rfl (Or.inl rfl)) pgs_nil)))) (fun _ _ _ _ _ => pts_nil) (fun _ _ _ _ _ => (pe_own o_minus (hr.mono (by decide)) rfl pass0 (pa_cons (pv 0) (pa_cons (pe_own o_times (hr.mono (by decide)) rfl pass0 (pa_cons (pv 2) (pa_cons (pv 1) pa_nil))) pa_nil)))))))), ?_⟩
    have lv : xv.length = N + 1 := by rw [dv.len, List.length_map, frRow_len]
    have lu : xu.length = N + 1 := by rw [du.len, List.length_map, frRow_len]
    have sl : (100 : Nat) ≤ sizeLine := by decide
    have ec : ((frRow N f).map frD)[c]? = some (frD (f c)) := by rw [List.getElem?_map, frRow_get hc]; rfl
    refine ⟨_, rfl, _, rfl, _, _, _, .inl hv, rfl, atI_nat ec, fun sh hsh => ?_⟩
    refine ⟨_, rfl, _, rfl, av, au, rfl, ⟨_, qv⟩, ⟨_, qu⟩, fun l hl => ?_⟩
    refine comp_zipD (K := K) (ds := (frRow N fun j => f j - f c * g j).map frD) qv qu (by rw [List.length_map, frRow_len, lv, lu, Nat.min_self]) hl (by omega) (by show 2 ≤ 3; decide) ?_ ?_
    · intro i x y H3 d R ex ey ed S3 kk
      obtain ⟨d1, e1, h1⟩ := dv.at ex
      obtain ⟨d2, e2, h2⟩ := du.at ey
      obtain ⟨hi, rfl⟩ := frD_at e1
      obtain ⟨_, rfl⟩ := frD_at e2
      obtain ⟨_, rfl⟩ := frD_at ed
      refine ⟨_, rfl, _, rfl, _, rfl, _, _, f c, g i, rfl, hsh.same S3, h2.same S3, (sf c hc).mono (by decide), (sg i hi).mono (by decide), trivial, fun t H4 S4 N4 => ?_⟩
      refine ⟨_, _, f i, f c * g i, rfl, (h1.same S3).same S4, NewD.has _ N4, (sf i hi).mono (by decide), ((sf c hc).mul (sg i hi)).mono (by decide), trivial, fun t' H5 S5 N5 => ?_⟩
      exact kk _ _ (S4.trans S5) (N5.wider S4)
    · intro H3 S3 N3
      exact k _ _ S3 N3
theorem sc_first_true : FnScope ["answers", "place", "answer"] ["answers"] (defScope s_first_true) := ⟨rfl, rfl, rfl, by decide +kernel, rfl, by decide +kernel, by decide +kernel⟩
theorem ok_first_true {P : Program} {w : World} {K : PySem.W.Frag} {mg : Str → Option Value} {base : Heap} {C : Ad} (T : Txt K mg C) (D : Def K mg "first_true" "first_true" s_first_true ["answers"]) :
    Own P w K mg base CX0 "first_true" ["answers"] 1 (spFirstTrue K) := by
  refine D.own sc_first_true (fun vs H Q E h => ?_) (fun f cdv A outer s H vs Q E hr h => ?_)
  · obtain ⟨a, _, _, rfl, _⟩ := h
    rfl
  · obtain ⟨v, n, g, rfl, hn, hv, k1, k2⟩ := h
    obtain ⟨av, xv, rfl, qv, dv⟩ := hv.oflst
    refine ⟨_, (pss_cons (ps_for PassesOwn.never rfl (pi_enumK (K := K) rfl rfl T.b_enumerate (pa_cons (pv 0) pa_nil)) (pg_tupK (K := K) rfl rfl (pgs_cons (pg_name (i := 1) sc_first_true.nd rfl (Or.inl rfl)) (pgs_cons (pg_name (i := 2) sc_first_true.nd rfl (Or.inl rfl)) pgs_nil)))
        (pss_one (ps_if (pt_truth (pv 2) (fun _ => rfl))
        (pss_one (ps_ret (pv 1)))
        pss_nil)))
        (pss_one (ps_ret pe_non))), ?_⟩
    have lv : xv.length = n := by rw [dv.len, List.length_map, List.length_range]
    refine ⟨_, rfl, av, rfl, ⟨_, qv⟩, for_enum (K := K) (a := av) (xs := xv) (fun i σ H2 => Same H H2 ∧ (∀ j, j < i → g j = false) ∧ ∃ z1 z2, σ = [some (.ref av), z1, z2]) ⟨Same.refl _, fun j hj => by omega, _, _, rfl⟩ (fun i σ H2 _ ⟨S, _⟩ => S.seq qv) ?_ ?_⟩
    · rintro i x t σ H2 hi ht ⟨S, hb, z1, z2, rfl⟩
      obtain ⟨d, e1, hx⟩ := dv.at hi
      rw [List.getElem?_map] at e1
      have hin : i < n := by
        have := (List.getElem?_eq_some_iff.mp hi).1
        omega
      rw [List.getElem?_range hin] at e1
      cases e1
      cases hx.ofbl
      refine ⟨t, _, rfl, SqT.of upd_same, rfl, _, _, rfl, _, _, rfl, rfl, ?_⟩
      refine ⟨_, rfl, g i, rfl, ?_⟩
      cases hg : g i with
      | true => exact ifP rfl ⟨_, rfl, k1 _ i (S.trans (Same.upd ht)) hin hg hb⟩
      | false =>
        refine ifN (by decide) ⟨S.trans (Same.upd ht), fun j hj => ?_, _, _, rfl⟩
        by_cases e : j = i
        · rw [e]; exact hg
        · exact hb j (by omega)
    · rintro σ H2 ⟨S, hb, z1, z2, rfl⟩
      rw [lv] at hb
      exact k2 _ S hb
theorem sc_first_row : FnScope ["hoist", "body", "weights", "props"] ["hoist", "body"] (defScope s_first_row) := ⟨rfl, rfl, rfl, by decide +kernel, rfl, by decide +kernel, by decide +kernel⟩
theorem ok_first_row {P : Program} {w : World} {K : PySem.W.Frag} {mg : Str → Option Value} {base : Heap} {C : Ad} (T : Txt K mg C) (D : Def K mg "first_row" "first_row" s_first_row ["hoist", "body"])
    (o_Hoist_weights : OwnM P w K mg base CX0 C.Hoist "weights" ["self"] 1 (spWeights K C))
    (o_strands_at : Own P w K mg base CX0 "strands_at" ["hoist", "body"] 4 (spStrandsAt K C)) :
    Own P w K mg base CX0 "first_row" ["hoist", "body"] 5 (spFirstRow K C) := by
  refine D.own sc_first_row (fun vs H Q E h => ?_) (fun f cdv A outer s H vs Q E hr h => ?_)
  · obtain ⟨a, _, _, _, rfl, _⟩ := h
    rfl
  · obtain ⟨v, ws, tb, i, rfl, hA, hi, k⟩ := h
    refine ⟨_, (pss_cons (ps_set (i := 2) sc_first_row.nd rfl (Or.inl rfl) (pe_ownM0 o_Hoist_weights T.l_Hoist (hr.mono (by decide)) pass0 (pv 0)))
        (pss_cons (ps_set (i := 3) sc_first_row.nd rfl (Or.inl rfl) (pe_op op_rep (pe_lst (pa_cons pe_int pa_nil)) (pe_callB (call_lenK (K := K) rfl) rfl T.b_len bt_len (pa_cons (pv 2) pa_nil))))
        (pss_cons (ps_asg pe_int (pg_sub (pv 3) (pv 1) set_list))
        (pss_one (ps_ret (pe_comp (tg := ["number"]) (cap := []) (caps := []) (CompSc.of_ok (by kernel_rfl)) rfl (gk_name (by decide)) (pi_listK (K := K) rfl (pe_op op_cat (pe_op op_cat (pe_own o_strands_at (hr.mono (by decide)) rfl pass0 (pa_cons (pv 0) (pa_cons (pv 1) pa_nil))) (pv 3)) (pe_lst (pa_cons (pe_ix (ix_K (K := K) rfl) (pv 2) (pv 1) (fun _ _ => rfl)) pa_nil)))) (fun _ _ _ _ _ => (pg_name (i := 0) (show ((["number"] : List Str) ++ ([] : List Str)).Nodup by decide +kernel) rfl (Or.inl rfl))) (fun _ _ _ _ _ => pts_nil) (fun _ _ _ _ _ => (pe_tup (pa_cons (pv 0) (pa_cons pe_int pa_nil)))))))))), ?_⟩
    have ok := hA.ok
    have n4 := ok.n4
    have r5 := ok.r5
    have sl : (100 : Nat) ≤ sizeLine := by decide
    obtain ⟨p, dh, fh, ee, hp, hm⟩ := hA.meth (m := "weights") (by decide +kernel) (by decide +kernel)
    refine ⟨_, rfl, p, dh, fh, ee, hp, hm, v, ws, tb, rfl, hA, fun u H1 S1 N1 => ?_⟩
    have hu := NewD.has _ N1
    refine ⟨by show 1 ≤ sizeLine; decide, fun t ht => ⟨_, rfl, _, _, rfl, .inl (hu.same (Same.upd ht)), t, _, [V.int 0], rfl, rfl, upd_same, by omega, by rw [List.length_map]; omega, by rw [List.length_map]; show 1 * _ ≤ sizeLine; omega, fun l hl => ?_⟩⟩
    rw [List.length_map, Int.toNat_natCast]
    have Sl := (Same.upd ht (o := .lst [V.int 0])).trans (Same.upd hl (o := .lst (List.replicate ws.length [V.int 0]).flatten))
    have ef : (List.replicate ws.length [V.int 0]).flatten = List.replicate ws.length (V.int 0) := by
      generalize ws.length = n
      induction n with
      | zero => rfl
      | succ n ih => rw [List.replicate_succ, List.flatten_cons, ih, List.replicate_succ]; rfl
    refine ⟨_, rfl, _, rfl, l, _, _, i, rfl, rfl, upd_same, ixN_nat (by rw [ef, List.length_replicate]; exact hi), ?_⟩
    have ht1 : H1 l = none := (Same.upd ht).free hl
    have S2 : Same H1 (upd (upd (upd H1 t (.lst [V.int 0])) l (.lst (List.replicate ws.length [V.int 0]).flatten)) l (.lst ((List.replicate ws.length [V.int 0]).flatten.set i (.int 1)))) := same_write Sl ht1
    have l2 : (upd (upd (upd H1 t (.lst [V.int 0])) l (.lst (List.replicate ws.length [V.int 0]).flatten)) l (.lst ((List.replicate ws.length [V.int 0]).flatten.set i (.int 1)))) l = some (.lst ((List.replicate ws.length [V.int 0]).flatten.set i (.int 1))) := upd_same
    generalize upd (upd (upd H1 t (.lst [V.int 0])) l (.lst (List.replicate ws.length [V.int 0]).flatten)) l (.lst ((List.replicate ws.length [V.int 0]).flatten.set i (.int 1))) = H2 at *
    refine ⟨_, rfl, _, rfl, v, ws, tb, i, rfl, (hA.same S1).same S2, hi, fun c3 H3 S3 N3 => ?_⟩
    obtain ⟨l3, rfl, nl3, q3⟩ := new_ints N3
    refine ⟨_, rfl, l3, l, _, _, rfl, rfl, q3, S3 _ _ l2, by rw [ef]; simp [col]; omega, fun l4 nl4 => ?_⟩
    have S4 := Same.upd nl4 (o := .lst ((col tb i).map V.int ++ (List.replicate ws.length [V.int 0]).flatten.set i (.int 1)))
    have ei : (ws.map PyData.int)[i]? = some (.int (ws.getD i 0)) := by rw [List.getElem?_map, List.getElem?_eq_getElem hi, List.getD_eq_getElem?_getD, List.getElem?_eq_getElem hi]; rfl
    refine ⟨_, rfl, _, rfl, _, _, _, .inl (((hu.same S2).same S3).same S4), rfl, atI_nat ei, fun w hw => ?_⟩
    rw [hw.ofint]
    refine ⟨by show 1 ≤ sizeLine; decide, fun l5 nl5 => ?_⟩
    refine ⟨l4, l5, _, _, rfl, rfl, Same.upd nl5 _ _ upd_same, upd_same, by rw [ef]; simp [col]; omega, fun l6 nl6 => ?_⟩
    have S56 := (Same.upd nl5 (o := .lst [V.int (ws.getD i 0)])).trans (Same.upd nl6 (o := .lst ((col tb i).map V.int ++ (List.replicate ws.length [V.int 0]).flatten.set i (.int 1) ++ [V.int (ws.getD i 0)])))
    have en : (col tb i).map V.int ++ (List.replicate ws.length [V.int 0]).flatten.set i (.int 1) ++ [V.int (ws.getD i 0)] = ((List.range (tb.length + ws.length + 1)).map fun j => rowA ws tb i j).map V.int := by
      rw [ef]
      refine List.ext_getElem? fun j => ?_
      by_cases h1 : j < tb.length
      · rw [List.getElem?_append_left (by simp [col]; omega), List.getElem?_append_left (by simp [col]; omega), List.getElem?_map, List.getElem?_map, List.getElem?_map, List.getElem?_range (by omega)]
        unfold rowA col
        rw [List.getElem?_map, List.getElem?_range h1]
        simp [h1]
      · by_cases h2 : j < tb.length + ws.length
        · rw [List.getElem?_append_left (by simp [col]; omega), List.getElem?_append_right (by simp [col]; omega), List.length_map, col_len, List.getElem?_set, List.length_replicate, List.getElem?_replicate, List.getElem?_map, List.getElem?_map, List.getElem?_range (by omega)]
          show _ = some (V.int (rowA ws tb i j))
          unfold rowA
          rw [if_neg h1, if_neg (show ¬ j = tb.length + ws.length by omega)]
          by_cases e : i = j - tb.length
          · rw [if_pos e, if_pos hi, if_pos (show j = tb.length + i by omega)]
          · rw [if_neg e, if_pos (show j - tb.length < ws.length by omega), if_neg (show ¬ j = tb.length + i by omega)]
        · by_cases h3 : j = tb.length + ws.length
          · subst h3
            rw [List.getElem?_append_right (by simp [col]), List.getElem?_map, List.getElem?_map, List.getElem?_range (by omega), List.length_append, List.length_map, col_len, List.length_set, List.length_replicate, Nat.sub_self]
            show some (V.int _) = some (V.int (rowA ws tb i (tb.length + ws.length)))
            unfold rowA
            rw [if_neg h1, if_pos rfl]
          · rw [List.getElem?_eq_none (by simp [col]; omega), List.getElem?_eq_none (by simp; omega)]
    have q6 : SqL K (upd (upd (upd H3 l4 (.lst ((col tb i).map V.int ++ (List.replicate ws.length [V.int 0]).flatten.set i (.int 1)))) l5 (.lst [V.int (ws.getD i 0)])) l6 (.lst ((col tb i).map V.int ++ (List.replicate ws.length [V.int 0]).flatten.set i (.int 1) ++ [V.int (ws.getD i 0)]))) l6 (((List.range (tb.length + ws.length + 1)).map fun j => rowA ws tb i j).map V.int) := by
      rw [← en]
      exact SqL.of upd_same
    refine ⟨l6, rfl, ⟨_, q6⟩, fun l7 nl7 => ?_⟩
    refine comp_listD (K := K) (ds := (frRow (tb.length + ws.length) (ratA ws tb i)).map frD) q6 (by simp [frRow]) nl7 (by simp; omega) ?_ ?_
    · intro j x H8 d R ex ed S8 kk
      obtain ⟨hj, rfl⟩ := frD_at ed
      rw [List.map_map, List.getElem?_map, List.getElem?_range (by omega)] at ex
      cases ex
      refine ⟨_, rfl, by show 2 ≤ sizeLine; decide, fun t8 n8 => ?_⟩
      exact kk _ _ (Same.upd n8) (fr_new (q := ratA ws tb i j) (SqT.of upd_same))
    · intro H8 S8 N8
      exact k _ _ ((((S1.trans S2).trans S3).trans (S4.trans S56)).trans S8) (NewD.wider (((S1.trans S2).trans S3).trans (S4.trans S56)) N8)
theorem sc_whole_way : FnScope ["hoist", "motion"] ["hoist", "motion"] (defScope s_whole_way) := ⟨rfl, rfl, rfl, by decide +kernel, rfl, by decide +kernel, by decide +kernel⟩
theorem ok_whole_way {P : Program} {w : World} {K : PySem.W.Frag} {mg : Str → Option Value} {base : Heap} {C : Ad} (T : Txt K mg C) (D : Def K mg "whole_way" "whole_way" s_whole_way ["hoist", "motion"])
    (o_gain : Own P w K mg base CX0 "gain" ["hoist", "motion"] 5 (spGain K C))
    (o_spare : Own P w K mg base CX0 "spare" ["hoist", "motion"] 5 (spSpare K C)) :
    Own P w K mg base CX0 "whole_way" ["hoist", "motion"] 6 (spWholeWay K C) := by
  refine D.own sc_whole_way (fun vs H Q E h => ?_) (fun f cdv A outer s H vs Q E hr h => ?_)
  · obtain ⟨a, _, _, _, rfl, _⟩ := h
    rfl
  · obtain ⟨v, u, ws, tb, rfl, hA, hu, k⟩ := h
    refine ⟨_, (pss_one (ps_ret (pe_op op_cat (pe_op op_cat (pe_own o_spare (hr.mono (by decide)) rfl pass0 (pa_cons (pv 0) (pa_cons (pv 1) pa_nil))) (pv 1)) (pe_lst (pa_cons (pe_own o_gain (hr.mono (by decide)) rfl pass0 (pa_cons (pv 0) (pa_cons (pv 1) pa_nil))) pa_nil))))), ?_⟩
    obtain ⟨q, xs, rfl, hq, hxs⟩ := hu
    have ok := hA.ok
    have n4 := ok.n4
    have r5 := ok.r5
    have sl : (100 : Nat) ≤ sizeLine := by decide
    have hu : HasD K H (.ref q) (frsD (List.replicate ws.length (-1))) := .lst (SqL.of hq) hxs
    have sq : ∀ x ∈ List.replicate ws.length (-1 : Rat), RSz 300 x := fun x hx => by
      rw [(List.mem_replicate.mp hx).2]
      exact RSz.int (i := -1) (by unfold Sz; decide)
    refine ⟨_, rfl, _, rfl, v, _, ws, tb, _, rfl, hA, hu, by simp, sq, fun y1 H1 S1 N1 => ?_⟩
    obtain ⟨l1, x1, rfl, nl1, q1, d1⟩ := N1.oflst
    have lx1 : x1.length = tb.length := by rw [d1.len]; simp [spareT]
    have lxs : xs.length = ws.length := by rw [hxs.len]; simp
    have hq1 := S1 _ _ hq
    refine ⟨_, rfl, l1, q, x1, xs, rfl, rfl, q1, hq1, by omega, fun l2 nl2 => ?_⟩
    have S2 := Same.upd nl2 (o := .lst (x1 ++ xs))
    refine ⟨_, rfl, _, rfl, v, _, ws, tb, _, rfl, (hA.same S1).same S2, (hu.same S1).same S2, by simp, sq, fun y3 H3 S3 N3 => ⟨by show 1 ≤ sizeLine; decide, fun l4 nl4 => ?_⟩⟩
    have S4 := Same.upd nl4 (o := .lst [y3])
    refine ⟨l2, l4, x1 ++ xs, [y3], rfl, rfl, (S3.trans S4) _ _ upd_same, upd_same, by rw [List.length_append]; show _ + 1 ≤ _; omega, fun l5 nl5 => ?_⟩
    have S5 := Same.upd nl5 (o := .lst (x1 ++ xs ++ [y3]))
    have SS := (((S1.trans S2).trans S3).trans S4).trans S5
    refine k _ _ SS (.lst ((((S1.trans S2).trans S3).trans S4).free nl5) upd_same ?_)
    have hh := (((NewDs.has _ d1).same ((S2.trans S3).trans (S4.trans S5))).app (hxs.same SS)).app (.cons ((NewD.has _ N3).same (S4.trans S5)) .nil)
    refine NewDs.flat _ (flatDs_map _ (fun q => by simp [frD, flatD, flatDs]) _) (cast ?_ hh)
    congr 1
    rw [show ([frD (dot ws (List.replicate ws.length (-1)))] : List PyData) = ([dot ws (List.replicate ws.length (-1))] : List Rat).map frD from rfl, ← List.map_append, ← List.map_append]
    congr 1
    refine List.ext_getElem? fun j => ?_
    have dz : ∀ ns : List Int, ns.length = ws.length → dot ns (List.replicate ws.length (-1)) = sumN ws.length fun k => ((ns.getD k 0 : Int) : Rat) * -1 := fun ns hn => by
      rw [dot_sumN (by rw [hn]; simp), hn]
      refine sumN_congr fun k hk => ?_
      congr 1
      rw [List.getD_eq_getElem?_getD, List.getElem?_replicate, if_pos hk]
      rfl
    have zz : ∀ j, (tabS ws tb).z j = sumN ws.length fun k => ratA ws tb k j * -1 := fun j => sumN_congr fun k _ => by grind
    have lsp : (spareT ws tb (List.replicate ws.length (-1))).length = tb.length := by simp [spareT]
    by_cases h1 : j < tb.length
    · rw [List.getElem?_append_left (by rw [List.length_append, lsp]; omega), List.getElem?_append_left (by omega), frRow_get (by omega)]
      unfold spareT
      rw [List.getElem?_map, List.getElem?_range h1]
      show some (dot (rowT tb ws.length j) _) = _
      rw [dz _ (rowT_len _ _ _), zz]
      congr 1
      refine sumN_congr fun k hk => ?_
      rw [rowA_rope h1]
      congr 2
      rw [List.getD_eq_getElem?_getD]
      simp [rowT, hk]
    · by_cases h2 : j < tb.length + ws.length
      · rw [List.getElem?_append_left (by rw [List.length_append, lsp]; simp; omega), List.getElem?_append_right (by omega), lsp, List.getElem?_replicate, if_pos (by omega), frRow_get (by omega)]
        obtain ⟨i, rfl⟩ : ∃ i, j = tb.length + i := ⟨j - tb.length, by omega⟩
        rw [tabS_prop (by omega)]
      · by_cases h3 : j = tb.length + ws.length
        · subst h3
          rw [List.getElem?_append_right (by rw [List.length_append, lsp]; simp), frRow_get (Nat.le_refl _), zz, List.length_append, lsp, List.length_replicate, Nat.sub_self]
          show some (dot ws _) = _
          rw [dz _ rfl]
          congr 1
          exact sumN_congr fun k hk => by rw [rowA_load]
        · rw [List.getElem?_eq_none (by rw [List.length_append, List.length_append, lsp]; simp; omega), List.getElem?_eq_none (by rw [frRow_len]; omega)]
theorem s_rows : ¬ ("ropes" : Str) = "rows" := by decide +kernel
theorem s_way1 : ¬ ("ropes" : Str) = "way" := by decide +kernel
theorem s_way2 : ¬ ("rows" : Str) = "way" := by decide +kernel
theorem s_way3 : ¬ ("bearers" : Str) = "way" := by decide +kernel
theorem s_be1 : ¬ ("ropes" : Str) = "bearers" := by decide +kernel
theorem s_be2 : ¬ ("rows" : Str) = "bearers" := by decide +kernel
section
variable (n : Int) (a b w : Addr)
theorem bf_put : putF "way" (.ref w) (putF "bearers" (.ref b) (putF "rows" (.ref a) (putF "ropes" (.int n) []))) = bflds n a b w := by
  have e1 : putF "rows" (.ref a) (putF "ropes" (.int n) []) = ([("ropes", .int n), ("rows", .ref a)] : List (Str × V)) := by
    show (if ("ropes" : Str) = "rows" then _ else _) = _
    rw [if_neg s_rows]
    rfl
  have e2 : putF "bearers" (.ref b) ([("ropes", V.int n), ("rows", .ref a)] : List (Str × V)) = ([("ropes", .int n), ("rows", .ref a), ("bearers", .ref b)] : List (Str × V)) := by
    show (if ("ropes" : Str) = "bearers" then _ else _ :: (if ("rows" : Str) = "bearers" then _ else _)) = _
    rw [if_neg s_be1, if_neg s_be2]
    rfl
  rw [e1, e2]
  show (if ("ropes" : Str) = "way" then _ else _ :: (if ("rows" : Str) = "way" then _ else _ :: (if ("bearers" : Str) = "way" then _ else _))) = _
  rw [if_neg s_way1, if_neg s_way2, if_neg s_way3]
  rfl
theorem bf_look (g : Str) : (bflds n a b w).lookup g = if g = "way" then some (.ref w) else if g = "bearers" then some (.ref b) else if g = "rows" then some (.ref a) else if g = "ropes" then some (.int n) else none := by
  rw [← bf_put, lookup_putF, lookup_putF, lookup_putF, lookup_putF]
  rfl
theorem bf_way : (bflds n a b w).lookup ("way" : Str) = some (.ref w) := by rw [bf_look, if_pos rfl]
theorem bf_bea : (bflds n a b w).lookup ("bearers" : Str) = some (.ref b) := by rw [bf_look, if_neg s_way3, if_pos rfl]
theorem bf_row : (bflds n a b w).lookup ("rows" : Str) = some (.ref a) := by rw [bf_look, if_neg s_way2, if_neg s_be2, if_pos rfl]
theorem bf_rop : (bflds n a b w).lookup ("ropes" : Str) = some (.int n) := by rw [bf_look, if_neg s_way1, if_neg s_be1, if_neg s_rows, if_pos rfl]
theorem bf_no {g : Str} (h : (g != "way" && g != "bearers" && g != "rows" && g != "ropes") = true) : (bflds n a b w).lookup g = none := by
  simp only [Bool.and_eq_true, bne_iff_ne] at h
  rw [bf_look, if_neg h.1.1.1, if_neg h.1.1.2, if_neg h.1.2, if_neg h.2]
theorem bf_setR (a' : Addr) : putF "rows" (.ref a') (bflds n a b w) = bflds n a' b w := by
  show (if ("ropes" : Str) = "rows" then _ else _) = _
  rw [if_neg s_rows]
  rfl
theorem bf_setW (w' : Addr) : putF "way" (.ref w') (bflds n a b w) = bflds n a b w' := by
  show (if ("ropes" : Str) = "way" then _ else _ :: (if ("rows" : Str) = "way" then _ else _ :: (if ("bearers" : Str) = "way" then _ else _))) = _
  rw [if_neg s_way1, if_neg s_way2, if_neg s_way3]
  rfl
end
section
variable {K : PySem.W.Frag} {C : Ad} {H0 H H' : Hp} {v : V} {ws : List Int} {tb : List (List Int)} {S : Tb}
theorem BearAt.later (h : BearAt K C H0 H v ws tb S) (s : Same H H') : BearAt K C H0 H' v ws tb S := by
  obtain ⟨⟨p, dx, a, b, w, e, n1, h1, n2, h2, h3, h4⟩, s0, ok⟩ := h
  exact ⟨⟨p, dx, a, b, w, e, n1, s _ _ h1, n2, s _ _ h2, h3.later s, h4.later s⟩, s0.trans s, ok⟩
theorem BearAt.rd (h : BearAt K C H0 H v ws tb S) : ∃ p dx a b w, v = .ref p ∧ H p = some (.ins C.Bearing dx (bflds tb.length a b w)) ∧ HasD K H (.ref a) (rowsD ws.length (tb.length + ws.length) S.T) ∧
    HasD K H (.ref b) (.list ((List.range ws.length).map fun i => .int (S.b i : Nat))) ∧ HasD K H (.ref w) (frsD (frRow (tb.length + ws.length) S.z)) := by
  obtain ⟨⟨p, dx, a, b, w, e, n1, h1, n2, h2, h3, h4⟩, s0, ok⟩ := h
  refine ⟨p, dx, a, b, w, e, h1, NewD.has _ h3, .lst (SqL.of h2) ?_, NewD.has _ h4⟩
  have := (HasDs.ints (K := K) (H := H) (ns := (List.range ws.length).map fun i => ((S.b i : Nat) : Int))).mpr rfl
  rw [List.map_map, List.map_map] at this
  exact this
theorem BearAt.meth (h : BearAt K C H0 H v ws tb S) {m : Str} (hm : (m != "way" && m != "bearers" && m != "rows" && m != "ropes") = true) : ∃ p dx fs, v = .ref p ∧ H p = some (.ins C.Bearing dx fs) ∧ fs.lookup m = none := by
  obtain ⟨p, dx, a, b, w, e, h1, _⟩ := h.rd
  exact ⟨p, dx, _, e, h1, bf_no _ _ _ _ hm⟩
theorem mkB_same {H : Hp} {x dx C : Addr} (nx : H x = none) (nd : H dx = none) (ne : dx ≠ x) : Same H (upd (upd H dx (.own x)) x (.ins C dx [])) :=
  (Same.upd nd).trans (Same.upd (by rw [upd_ne ne.symm]; exact nx))
theorem flat_fr1 (q : Rat) : flatD (frD q) = true := by simp [frD, flatD, flatDs]
theorem atI_last {α : Type} {xs : List α} {n : Nat} {x : α} (hl : xs.length = n + 1) (h : xs[n]? = some x) : atI xs (-1) = some x := by
  unfold atI ixN
  rw [hl, if_neg (by omega), if_pos (by omega)]
  show xs[(-1 + ((n + 1 : Nat) : Int)).toNat]? = _
  rw [show (-1 + ((n + 1 : Nat) : Int)).toNat = n by omega]
  exact h
theorem row_atD {m N : Nat} {T : Nat → Nat → Rat} {i : Nat} (hi : i < m) : ((List.range m).map fun i => frsD (frRow N (T i)))[i]? = some (frsD (frRow N (T i))) := by
  rw [List.getElem?_map, List.getElem?_range hi]
  rfl
theorem cell_atD {N : Nat} {f : Nat → Rat} {j : Nat} (hj : j ≤ N) : ((frRow N f).map frD)[j]? = some (frD (f j)) := by
  rw [List.getElem?_map, frRow_get hj]
  rfl
theorem load_atD {N : Nat} {f : Nat → Rat} : atI ((frRow N f).map frD) (-1) = some (frD (f N)) := atI_last (by rw [List.length_map, frRow_len]) (cell_atD (Nat.le_refl N))
theorem cut_mid {xs : List V} {r : Nat} (h : r + 1 ≤ xs.length) : cutV xs (some (r : Int)) (some (-1)) = (xs.drop r).take (xs.length - 1 - r) := by
  have e : HT.sIx xs.length 0 (some (r : Int)) = r := by
    rw [HT.sIx_nat]
    omega
  have e1 : HT.sIx xs.length xs.length (some (-1)) = xs.length - 1 := by
    unfold HT.sIx
    simp
    omega
  unfold cutV
  rw [e, e1]
end
theorem sc_Bearing_sinks : FnScope ["self"] ["self"] (defScope s_Bearing_sinks) := ⟨rfl, rfl, rfl, by decide +kernel, rfl, by decide +kernel, by decide +kernel⟩
theorem ok_Bearing_sinks {P : Program} {w : World} {K : PySem.W.Frag} {mg : Str → Option Value} {base : Heap} {C : Ad} (T : Txt K mg C) (D : DefM K C.Bearing "sinks" "Bearing.sinks" s_Bearing_sinks ["self"])
    (o_less : Own P w K mg base CX0 "less" ["one", "other"] 1 (spLess K)) :
    OwnM P w K mg base CX0 C.Bearing "sinks" ["self"] 2 (spSinks K C) := by
  refine D.own sc_Bearing_sinks (fun vs H Q E h => ?_) (fun f cdv A outer s H vs Q E hr h => ?_)
  · obtain ⟨a, _, _, _, _, rfl, _⟩ := h
    rfl
  · obtain ⟨v, ws, tb, H0, S, rfl, B, sz, k⟩ := h
    refine ⟨_, (pss_one (ps_ret (pe_own o_less (hr.mono (by decide)) rfl pass0 (pa_cons (pe_ix (ix_K (K := K) rfl) (pe_fldK (K := K) rfl (pv 0) rfl) (pe_un un_neg pe_int) (fun _ _ => rfl)) (pa_cons (pe_glob (v := .ref C.NOUGHT) rfl T.g_NOUGHT rfl) pa_nil))))), ?_⟩
    obtain ⟨p, dx, a, b, w, rfl, h1, h2, h3, h4⟩ := B.rd
    refine ⟨_, rfl, p, _, dx, _, _, rfl, h1, T.l_Bearing, T.n_way, bf_way _ _ _ _, _, rfl, _, _, _, .inl h4, rfl, load_atD, fun u hu => ?_⟩
    exact ⟨_, _, _, 0, rfl, hu, fr_has (q := 0) (T.k_NOUGHT _), sz.mono (by decide), .zero, k⟩
theorem sc_Bearing_motion : FnScope ["self"] ["self"] (defScope s_Bearing_motion) := ⟨rfl, rfl, rfl, by decide +kernel, rfl, by decide +kernel, by decide +kernel⟩
theorem ok_Bearing_motion {P : Program} {w : World} {K : PySem.W.Frag} {mg : Str → Option Value} {base : Heap} {C : Ad} (T : Txt K mg C) (D : DefM K C.Bearing "motion" "Bearing.motion" s_Bearing_motion ["self"]) :
    OwnM P w K mg base CX0 C.Bearing "motion" ["self"] 1 (spMotion K C) := by
  refine D.own sc_Bearing_motion (fun vs H Q E h => ?_) (fun f cdv A outer s H vs Q E hr h => ?_)
  · obtain ⟨a, _, _, _, _, rfl, _⟩ := h
    rfl
  · obtain ⟨v, ws, tb, H0, S, rfl, B, k⟩ := h
    refine ⟨_, (pss_one (ps_ret (pe_slice (sl_listK (K := K) rfl) (pe_fldK (K := K) rfl (pv 0) rfl) (po_some (pe_fldK (K := K) rfl (pv 0) rfl)) (po_some (pe_un un_neg pe_int))))), ?_⟩
    obtain ⟨p, dx, a, b, w, rfl, h1, h2, h3, h4⟩ := B.rd
    obtain ⟨w', xs, e, q, hd⟩ := h4.oflst
    cases e
    have lx : xs.length = tb.length + ws.length + 1 := by rw [hd.len, List.length_map, frRow_len]
    refine ⟨_, rfl, p, _, dx, _, _, rfl, h1, T.l_Bearing, T.n_way, bf_way _ _ _ _, _, rfl, p, _, dx, _, _, rfl, h1, T.l_Bearing, T.n_ropes, bf_rop _ _ _ _, _, rfl, _, rfl, _, rfl, w, xs, rfl, q, fun l hl => ?_⟩
    have ec : cutV xs (some (tb.length : Int)) (some (-1)) = (xs.drop tb.length).take ws.length := by
      rw [cut_mid (by omega), lx]
      congr 1
      omega
    have ed : (((frRow (tb.length + ws.length) S.z).map frD).drop tb.length).take ws.length = ((List.range ws.length).map fun k => S.z (tb.length + k)).map frD := by
      refine List.ext_getElem? fun i => ?_
      by_cases hi : i < ws.length
      · rw [List.getElem?_take_of_lt hi, List.getElem?_drop, cell_atD (by omega), List.getElem?_map, List.getElem?_map, List.getElem?_range hi]
        rfl
      · rw [List.getElem?_eq_none (by rw [List.length_take]; omega), List.getElem?_eq_none (by simp; omega)]
    refine k _ _ (Same.upd hl) (.lst hl upd_same ?_)
    have hh : HasDs K (upd H l (.lst (cutV xs (some (tb.length : Int)) (some (-1))))) (cutV xs (some (tb.length : Int)) (some (-1))) (((List.range ws.length).map fun k => S.z (tb.length + k)).map frD) := by
      rw [ec, ← ed]
      exact ((hd.drop _).take _).same (Same.upd hl)
    exact NewDs.flat _ (flatDs_map _ flat_fr1 _) hh
theorem sc_Bearing_pulls : FnScope ["self", "found", "bearer", "row"] ["self"] (defScope s_Bearing_pulls) := ⟨rfl, rfl, rfl, by decide +kernel, rfl, by decide +kernel, by decide +kernel⟩
theorem ok_Bearing_pulls {P : Program} {w : World} {K : PySem.W.Frag} {mg : Str → Option Value} {base : Heap} {C : Ad} (T : Txt K mg C) (D : DefM K C.Bearing "pulls" "Bearing.pulls" s_Bearing_pulls ["self"]) :
    OwnM P w K mg base CX0 C.Bearing "pulls" ["self"] 1 (spPulls K C) := by
  refine D.own sc_Bearing_pulls (fun vs H Q E h => ?_) (fun f cdv A outer s H vs Q E hr h => ?_)
  · obtain ⟨a, _, _, _, _, rfl, _⟩ := h
    rfl
  · obtain ⟨v, ws, tb, H0, S, rfl, B, R, k⟩ := h
    refine ⟨_, (pss_cons (ps_set (i := 1) sc_Bearing_pulls.nd rfl (Or.inl rfl) (pe_op op_rep (pe_lst (pa_cons (pe_glob (v := .ref C.NOUGHT) rfl T.g_NOUGHT rfl) pa_nil)) (pe_fldK (K := K) rfl (pv 0) rfl)))
        (pss_cons (ps_for PassesOwn.never rfl (pi_zipK (K := K) rfl rfl T.b_zip (pa_cons (pe_fldK (K := K) rfl (pv 0) rfl) (pa_cons (pe_fldK (K := K) rfl (pv 0) rfl) pa_nil))) (pg_tupK (K := K) rfl rfl (pgs_cons (pg_name (i := 2) sc_Bearing_pulls.nd rfl (Or.inl rfl)) (pgs_cons (pg_name (i := 3) sc_Bearing_pulls.nd rfl (Or.inl rfl)) pgs_nil)))
        (pss_one (ps_if (pt_cmpR op_lt (pv 2) (pe_fldK (K := K) rfl (pv 0) rfl) (nomark _))
        (pss_one (ps_asg (pe_ix (ix_K (K := K) rfl) (pv 3) (pe_un un_neg pe_int) (fun _ _ => rfl)) (pg_sub (pv 1) (pv 2) set_list)))
        pss_nil)))
        (pss_one (ps_ret (pv 1))))), ?_⟩
    obtain ⟨p, dx, a, b, w, rfl, h1, h2, h3, h4⟩ := B.rd
    have n4 := B.ok.n4
    have r5 := B.ok.r5
    have sl : (100 : Nat) ≤ sizeLine := by decide
    obtain ⟨_, xa, ea, qa, da⟩ := h2.oflst
    cases ea
    obtain ⟨_, xb, eb, qb, db⟩ := h3.oflst
    cases eb
    have la : xa.length = ws.length := by rw [da.len, List.length_map, List.length_range]
    have lb : xb.length = ws.length := by rw [db.len, List.length_map, List.length_range]
    refine ⟨by show 1 ≤ sizeLine; decide, fun t ht => ?_⟩
    have St := Same.upd ht (o := .lst [V.ref C.NOUGHT])
    refine ⟨_, rfl, p, _, dx, _, _, rfl, St _ _ h1, T.l_Bearing, T.n_ropes, bf_rop _ _ _ _, t, _, _, rfl, rfl, upd_same, by omega, by omega, by show 1 * _ ≤ sizeLine; omega, fun l hl => ?_⟩
    rw [Int.toNat_natCast]
    have ef : (List.replicate tb.length [V.ref C.NOUGHT]).flatten = List.replicate tb.length (V.ref C.NOUGHT) := by
      generalize tb.length = n
      induction n with
      | zero => rfl
      | succ n ih => rw [List.replicate_succ, List.flatten_cons, ih, List.replicate_succ]; rfl
    have hl0 : H l = none := St.free hl
    have hz : ∀ H2, HasD K H2 (.ref C.NOUGHT) (frD 0) := fun H2 => fr_has (q := 0) (T.k_NOUGHT _)
    have rep : ∀ (H2 : Hp) (n : Nat), HasDs K H2 (List.replicate n (.ref C.NOUGHT)) (List.replicate n (frD 0)) := fun H2 n => by
      induction n with
      | zero => exact .nil
      | succ n ih => rw [List.replicate_succ, List.replicate_succ]; exact .cons (hz H2) ih
    have g0 : Grow K H l (upd (upd H t (.lst [V.ref C.NOUGHT])) l (.lst (List.replicate tb.length (V.ref C.NOUGHT)))) (List.replicate tb.length (V.ref C.NOUGHT)) (((List.range tb.length).map fun j => sumN 0 fun k => if S.b k = j then S.T k (tb.length + ws.length) else 0).map frD) := by
      refine ⟨hl0, St.trans (Same.upd hl), upd_same, NewDs.flat _ (flatDs_map _ flat_fr1 _) ?_⟩
      have e : (((List.range tb.length).map fun j => sumN 0 fun k => if S.b k = j then S.T k (tb.length + ws.length) else 0).map frD) = List.replicate tb.length (frD 0) := by
        refine List.ext_getElem (by simp) fun i h1 h2 => ?_
        simp [sumN]
      rw [e]
      exact rep _ _
    rw [ef]
    have S0 : Same H (upd (upd H t (.lst [V.ref C.NOUGHT])) l (.lst (List.replicate tb.length (V.ref C.NOUGHT)))) := g0.S
    refine ⟨_, rfl, p, _, dx, _, _, rfl, S0 _ _ h1, T.l_Bearing, T.n_bearers, bf_bea _ _ _ _, _, rfl, p, _, dx, _, _, rfl, S0 _ _ h1, T.l_Bearing, T.n_rows, bf_row _ _ _ _, b, a, rfl, ⟨_, S0.seq qb⟩, ⟨_, S0.seq qa⟩, ?_⟩
    refine for_zip (K := K) (a := b) (b := a) (xs := xb) (ys := xa) (fun i σ H2 => ∃ vs z1 z2, Grow K H l H2 vs (((List.range tb.length).map fun j => sumN i fun k => if S.b k = j then S.T k (tb.length + ws.length) else 0).map frD) ∧ σ = [some (.ref p), some (.ref l), z1, z2]) ⟨_, _, _, g0, rfl⟩ (fun i σ H2 _ ⟨vs, _, _, g, _⟩ => ⟨g.S.seq qb, g.S.seq qa⟩) ?_ ?_
    · rintro i x y t2 σ H2 hx hy ht2 ⟨vs, z1, z2, g, rfl⟩
      have hi : i < ws.length := by
        have := (List.getElem?_eq_some_iff.mp hx).1
        omega
      obtain ⟨d1, e1, hx1⟩ := db.at hx
      rw [List.getElem?_map, List.getElem?_range hi] at e1
      cases e1
      cases hx1.ofint
      obtain ⟨d2, e2, hy1⟩ := da.at hy
      rw [row_atD hi] at e2
      cases e2
      have S2 := Same.upd ht2 (o := .tup [V.int (S.b i : Nat), y])
      have g2 := g.later S2
      refine ⟨t2, _, rfl, SqT.of upd_same, rfl, _, _, rfl, _, _, rfl, rfl, ?_⟩
      refine ⟨_, rfl, _, rfl, p, _, dx, _, _, rfl, g2.S _ _ h1, T.l_Bearing, T.n_ropes, bf_rop _ _ _ _, _, _, rfl, rfl, _, rfl, ?_⟩
      have lv : vs.length = tb.length := by rw [g.d.len]; simp
      by_cases hb : S.b i < tb.length
      · refine ifP (decide_eq_true (by omega)) ?_
        refine ⟨_, rfl, _, rfl, _, _, _, .inl (hy1.same g2.S), rfl, load_atD, fun u hu => ?_⟩
        refine ⟨_, rfl, _, rfl, l, vs, _, S.b i, rfl, rfl, g2.at_, ixN_nat (by omega), ?_⟩
        refine ⟨vs.set (S.b i) u, _, _, ?_, rfl⟩
        have gp := g2.put (NewDs.set (S.b i) g2.d (NewD.flat _ (flat_fr1 _) hu))
        refine cast ?_ gp
        congr 1
        refine List.ext_getElem? fun j => ?_
        rw [List.getElem?_set]
        by_cases e : S.b i = j
        · subst e
          rw [if_pos rfl, if_pos (by simp; exact hb), List.getElem?_map, List.getElem?_map, List.getElem?_range hb]
          show some (frD (S.T i (tb.length + ws.length))) = some (frD (sumN (i + 1) _))
          rw [sumN, if_pos rfl, sumN_congr (g := fun _ => 0) (fun k hk => if_neg fun z => by have := R.inj (by omega) hi z; omega), sumN_zero, Rat.zero_add]
        · rw [if_neg e, List.getElem?_map, List.getElem?_map, List.getElem?_map, List.getElem?_map]
          by_cases hj : j < tb.length
          · rw [List.getElem?_range hj]
            show some (frD _) = some (frD (sumN (i + 1) _))
            rw [sumN, if_neg e, Rat.add_zero]
          · rw [List.getElem?_eq_none (by simp; omega)]
            rfl
      · refine ifN (by rw [decide_eq_true_eq]; omega) ?_
        refine ⟨vs, _, _, cast ?_ g2, rfl⟩
        congr 1
        refine List.ext_getElem? fun j => ?_
        rw [List.getElem?_map, List.getElem?_map, List.getElem?_map, List.getElem?_map]
        by_cases hj : j < tb.length
        · rw [List.getElem?_range hj]
          show some (frD _) = some (frD (sumN (i + 1) _))
          rw [sumN, if_neg (by omega), Rat.add_zero]
        · rw [List.getElem?_eq_none (by simp; omega)]
          rfl
    · rintro σ H2 ⟨vs, z1, z2, g, rfl⟩
      refine ⟨_, rfl, k _ _ g.S ?_⟩
      rw [la, lb, Nat.min_self] at g
      exact g.new
theorem sc_Bearing_short_rope : FnScope ["self"] ["self"] (defScope s_Bearing_short_rope) := ⟨rfl, rfl, rfl, by decide +kernel, rfl, by decide +kernel, by decide +kernel⟩
theorem ok_Bearing_short_rope {P : Program} {w : World} {K : PySem.W.Frag} {mg : Str → Option Value} {base : Heap} {C : Ad} (T : Txt K mg C) (D : DefM K C.Bearing "short_rope" "Bearing.short_rope" s_Bearing_short_rope ["self"])
    (o_first_true : Own P w K mg base CX0 "first_true" ["answers"] 1 (spFirstTrue K))
    (o_less : Own P w K mg base CX0 "less" ["one", "other"] 1 (spLess K)) :
    OwnM P w K mg base CX0 C.Bearing "short_rope" ["self"] 2 (spShort K C) := by
  refine D.own sc_Bearing_short_rope (fun vs H Q E h => ?_) (fun f cdv A outer s H vs Q E hr h => ?_)
  · obtain ⟨a, _, _, _, _, rfl, _⟩ := h
    rfl
  · obtain ⟨v, ws, tb, H0, S, rfl, B, sz, k1, k2⟩ := h
    refine ⟨_, (pss_one (ps_ret (pe_own o_first_true (hr.mono (by decide)) rfl pass0 (pa_cons (pe_comp (tg := ["cell"]) (cap := []) (caps := []) (CompSc.of_ok (by kernel_rfl)) rfl (gk_name (by decide)) (pi_listK (K := K) rfl (pe_slice (sl_listK (K := K) rfl) (pe_fldK (K := K) rfl (pv 0) rfl) po_none (po_some (pe_fldK (K := K) rfl (pv 0) rfl)))) (fun _ _ _ _ _ => (pg_name (i := 0) (show ((["cell"] : List Str) ++ ([] : List Str)).Nodup by decide +kernel) rfl (Or.inl rfl))) (fun _ _ _ _ _ => pts_nil) (fun _ _ _ _ _ => (pe_own o_less (hr.mono (by decide)) rfl pass0 (pa_cons (pv 0) (pa_cons (pe_glob (v := .ref C.NOUGHT) rfl T.g_NOUGHT rfl) pa_nil))))) pa_nil)))), ?_⟩
    obtain ⟨p, dx, a, b, w, rfl, h1, h2, h3, h4⟩ := B.rd
    obtain ⟨w', xs, e, q, hd⟩ := h4.oflst
    cases e
    have lx : xs.length = tb.length + ws.length + 1 := by rw [hd.len, List.length_map, frRow_len]
    have h5 := B.ok.r5
    have sl : (100 : Nat) ≤ sizeLine := by decide
    refine ⟨_, rfl, p, _, dx, _, _, rfl, h1, T.l_Bearing, T.n_way, bf_way _ _ _ _, _, rfl, p, _, dx, _, _, rfl, h1, T.l_Bearing, T.n_ropes, bf_rop _ _ _ _, _, rfl, w, xs, rfl, q, fun l hl => ?_⟩
    rw [cut_to (by omega)]
    have Sl := Same.upd hl (o := .lst (xs.take tb.length))
    have hq : SqL K (upd H l (.lst (xs.take tb.length))) l (xs.take tb.length) := SqL.of upd_same
    refine ⟨l, rfl, ⟨_, hq⟩, fun l2 hl2 => ?_⟩
    refine comp_listD (K := K) (ds := (List.range tb.length).map fun j => .bool (decide (S.z j < 0))) hq (by rw [List.length_take]; simp; omega) hl2 (by rw [List.length_take]; omega) ?_ ?_
    · intro i x H3 d R ex ed S3 kk
      rw [List.getElem?_map] at ed
      have hi : i < tb.length := by
        have := (List.getElem?_eq_some_iff.mp ex).1
        rw [List.length_take] at this
        omega
      rw [List.getElem?_range hi] at ed
      cases ed
      rw [List.getElem?_take_of_lt hi] at ex
      obtain ⟨d, e1, hx⟩ := hd.at ex
      obtain ⟨_, rfl⟩ := frD_at e1
      refine ⟨_, rfl, _, _, S.z i, 0, rfl, (hx.same Sl).same S3, fr_has (q := 0) (T.k_NOUGHT _), (sz i hi).mono (by decide), .zero, kk _ _ (Same.refl _) (.bl _)⟩
    · intro H3 S3 N3
      refine ⟨_, tb.length, fun j => decide (S.z j < 0), rfl, by omega, NewD.has _ N3, fun H' c s hc hg hb => ?_, fun H' s hb => ?_⟩
      · exact k1 _ c ((Sl.trans S3).trans s) hc (of_decide_eq_true hg) fun j hj => Rat.not_lt.mp (of_decide_eq_false (hb j hj))
      · exact k2 _ ((Sl.trans S3).trans s) fun j hj => Rat.not_lt.mp (of_decide_eq_false (hb j hj))
theorem sc_Bearing_freed_sooner : FnScope ["self", "place", "other", "rope", "here", "there"] ["self", "place", "other", "rope"] (defScope s_Bearing_freed_sooner) := ⟨rfl, rfl, rfl, by decide +kernel, rfl, by decide +kernel, by decide +kernel⟩
theorem ok_Bearing_freed_sooner {P : Program} {w : World} {K : PySem.W.Frag} {mg : Str → Option Value} {base : Heap} {C : Ad} (T : Txt K mg C) (D : DefM K C.Bearing "freed_sooner" "Bearing.freed_sooner" s_Bearing_freed_sooner ["self", "place", "other", "rope"])
    (o_less : Own P w K mg base CX0 "less" ["one", "other"] 1 (spLess K))
    (o_over : Own P w K mg base CX0 "over" ["one", "other"] 3 (spRat K (· ≠ 0) (· / ·))) :
    OwnM P w K mg base CX0 C.Bearing "freed_sooner" ["self", "place", "other", "rope"] 4 (spSooner K C) := by
  refine D.own sc_Bearing_freed_sooner (fun vs H Q E h => ?_) (fun f cdv A outer s H vs Q E hr h => ?_)
  · obtain ⟨a, _, _, _, _, _, _, _, rfl, _⟩ := h
    rfl
  · obtain ⟨v, ws, tb, H0, S, i, k', c, rfl, B, sz, hi, hk, hc, p1, p2, k⟩ := h
    refine ⟨_, (pss_cons (ps_set (i := 4) sc_Bearing_freed_sooner.nd rfl (Or.inl rfl) (pe_own o_over (hr.mono (by decide)) rfl pass0 (pa_cons (pe_ix (ix_K (K := K) rfl) (pe_ix (ix_K (K := K) rfl) (pe_fldK (K := K) rfl (pv 0) rfl) (pv 1) (fun _ _ => rfl)) (pe_un un_neg pe_int) (fun _ _ => rfl)) (pa_cons (pe_ix (ix_K (K := K) rfl) (pe_ix (ix_K (K := K) rfl) (pe_fldK (K := K) rfl (pv 0) rfl) (pv 1) (fun _ _ => rfl)) (pv 3) (fun _ _ => rfl)) pa_nil))))
        (pss_cons (ps_set (i := 5) sc_Bearing_freed_sooner.nd rfl (Or.inl rfl) (pe_own o_over (hr.mono (by decide)) rfl pass0 (pa_cons (pe_ix (ix_K (K := K) rfl) (pe_ix (ix_K (K := K) rfl) (pe_fldK (K := K) rfl (pv 0) rfl) (pv 2) (fun _ _ => rfl)) (pe_un un_neg pe_int) (fun _ _ => rfl)) (pa_cons (pe_ix (ix_K (K := K) rfl) (pe_ix (ix_K (K := K) rfl) (pe_fldK (K := K) rfl (pv 0) rfl) (pv 2) (fun _ _ => rfl)) (pv 3) (fun _ _ => rfl)) pa_nil))))
        (pss_one (ps_ret (pe_or (pe_own o_less (hr.mono (by decide)) rfl pass0 (pa_cons (pv 4) (pa_cons (pv 5) pa_nil))) (pe_one (pe_and (pe_cmpR (op_eqK (K := K) rfl hr) (pv 4) (pv 5) (nomark _)) (pe_one (pe_cmpR op_lt (pe_ix (ix_K (K := K) rfl) (pe_fldK (K := K) rfl (pv 0) rfl) (pv 1) (fun _ _ => rfl)) (pe_ix (ix_K (K := K) rfl) (pe_fldK (K := K) rfl (pv 0) rfl) (pv 2) (fun _ _ => rfl)) (nomark _)))))))))), ?_⟩
    obtain ⟨p, dx, a, b, w, rfl, h1, h2, h3, h4⟩ := B.rd
    refine ⟨_, rfl, p, _, dx, _, _, rfl, h1, T.l_Bearing, T.n_rows, bf_row _ _ _ _, _, rfl, _, _, _, .inl h2, rfl, atI_nat (row_atD hi), fun u hu => ?_⟩
    refine ⟨_, rfl, _, _, _, .inl hu, rfl, load_atD, fun u1 hu1 => ?_⟩
    refine ⟨_, rfl, p, _, dx, _, _, rfl, h1, T.l_Bearing, T.n_rows, bf_row _ _ _ _, _, rfl, _, _, _, .inl h2, rfl, atI_nat (row_atD hi), fun u2 hu2 => ?_⟩
    refine ⟨_, rfl, _, _, _, .inl hu2, rfl, atI_nat (cell_atD (by omega)), fun u3 hu3 => ?_⟩
    refine ⟨_, _, _, _, rfl, hu1, hu3, (sz _ _ hi (by omega)).mono (by decide), (sz _ _ hi (by omega)).mono (by decide), p1, fun t1 H1 S1 N1 => ?_⟩
    have h1' := S1 _ _ h1
    have h2' := h2.same S1
    refine ⟨_, rfl, p, _, dx, _, _, rfl, h1', T.l_Bearing, T.n_rows, bf_row _ _ _ _, _, rfl, _, _, _, .inl h2', rfl, atI_nat (row_atD hk), fun u4 hu4 => ?_⟩
    refine ⟨_, rfl, _, _, _, .inl hu4, rfl, load_atD, fun u5 hu5 => ?_⟩
    refine ⟨_, rfl, p, _, dx, _, _, rfl, h1', T.l_Bearing, T.n_rows, bf_row _ _ _ _, _, rfl, _, _, _, .inl h2', rfl, atI_nat (row_atD hk), fun u6 hu6 => ?_⟩
    refine ⟨_, rfl, _, _, _, .inl hu6, rfl, atI_nat (cell_atD (by omega)), fun u7 hu7 => ?_⟩
    refine ⟨_, _, _, _, rfl, hu5, hu7, (sz _ _ hk (by omega)).mono (by decide), (sz _ _ hk (by omega)).mono (by decide), p2, fun t2 H2 S2 N2 => ?_⟩
    have r1 := (sz _ _ hi (show tb.length + ws.length ≤ _ by omega)).div (sz _ _ hi (show c ≤ _ by omega)) p1
    have r2 := (sz _ _ hk (show tb.length + ws.length ≤ _ by omega)).div (sz _ _ hk (show c ≤ _ by omega)) p2
    have ht1 := (NewD.has _ N1).same S2
    have ht2 := NewD.has _ N2
    have fin := k _ (S1.trans S2)
    refine ⟨_, rfl, _, rfl, _, _, _, _, rfl, ht1, ht2, r1.mono (by decide), r2.mono (by decide), _, rfl, ?_⟩
    by_cases lt : S.T i (tb.length + ws.length) / S.T i c < S.T k' (tb.length + ws.length) / S.T k' c
    · refine ifP (decide_eq_true lt) ?_
      rw [decide_eq_true (show sooner (tb.length + ws.length) S c i k' from .inl lt)] at fin
      exact fin
    · refine ifN (by rw [decide_eq_true_eq]; exact lt) ?_
      refine ⟨_, rfl, _, rfl, _, _, ht1, ht2, (lays_fr _).1, (lays_fr _).1, Nat.le_trans (lays_fr _).2 (by decide), _, rfl, ?_⟩
      by_cases eq : S.T i (tb.length + ws.length) / S.T i c = S.T k' (tb.length + ws.length) / S.T k' c
      · refine ifP (eq_yes (by show PyData.eqv (frD (S.T i (tb.length + ws.length) / S.T i c)) (frD (S.T k' (tb.length + ws.length) / S.T k' c)) = true; rw [eq]; exact eqv_self (plain_fr _))) ?_
        have h1'' := S2 _ _ h1'
        have h3' := (h3.same S1).same S2
        have eb : ∀ {j}, j < ws.length → ((List.range ws.length).map fun i => PyData.int (S.b i : Nat))[j]? = some (.int (S.b j : Nat)) := fun hj => by rw [List.getElem?_map, List.getElem?_range hj]; rfl
        refine ⟨_, rfl, p, _, dx, _, _, rfl, h1'', T.l_Bearing, T.n_bearers, bf_bea _ _ _ _, _, rfl, _, _, _, .inl h3', rfl, atI_nat (eb hi), fun u8 hu8 => ?_⟩
        refine ⟨_, rfl, p, _, dx, _, _, rfl, h1'', T.l_Bearing, T.n_bearers, bf_bea _ _ _ _, _, rfl, _, _, _, .inl h3', rfl, atI_nat (eb hk), fun u9 hu9 => ?_⟩
        rw [hu8.ofint, hu9.ofint]
        refine ⟨_, _, rfl, rfl, ?_⟩
        have e2 : decide (sooner (tb.length + ws.length) S c i k') = decide (((S.b i : Nat) : Int) < (S.b k' : Nat)) := by
          rw [Bool.eq_iff_iff, decide_eq_true_eq, decide_eq_true_eq]
          constructor
          · rintro (z | z)
            · exact (lt z).elim
            · have := z.2; omega
          · intro z
            exact .inr ⟨eq, by omega⟩
        rw [e2] at fin
        exact fin
      · refine ifN (eq_no (eqv_not (plain_fr _) (plain_fr _) fun z => eq (frD_inj.mp z))) ?_
        rw [decide_eq_false (show ¬ sooner (tb.length + ws.length) S c i k' from fun z => z.elim lt fun y => eq y.1)] at fin
        exact fin
theorem sooner_irr {N : Nat} {S : Tb} {c i : Nat} : ¬ sooner N S c i i := by
  rintro (h | h)
  · exact Rat.lt_irrefl h
  · omega
theorem sooner_trans {N : Nat} {S : Tb} {c i j k : Nat} (h1 : sooner N S c i j) (h2 : sooner N S c j k) : sooner N S c i k := by
  rcases h1 with h1 | ⟨h1, h1'⟩ <;> rcases h2 with h2 | ⟨h2, h2'⟩
  · exact .inl (by grind)
  · exact .inl (by grind)
  · exact .inl (by grind)
  · exact .inr ⟨by grind, by omega⟩
theorem sc_Bearing_first_freed : FnScope ["self", "rope", "found", "place"] ["self", "rope"] (defScope s_Bearing_first_freed) := ⟨rfl, rfl, rfl, by decide +kernel, rfl, by decide +kernel, by decide +kernel⟩
theorem ok_Bearing_first_freed {P : Program} {w : World} {K : PySem.W.Frag} {mg : Str → Option Value} {base : Heap} {C : Ad} (T : Txt K mg C) (D : DefM K C.Bearing "first_freed" "Bearing.first_freed" s_Bearing_first_freed ["self", "rope"])
    (o_Bearing_freed_sooner : OwnM P w K mg base CX0 C.Bearing "freed_sooner" ["self", "place", "other", "rope"] 4 (spSooner K C))
    (o_less : Own P w K mg base CX0 "less" ["one", "other"] 1 (spLess K)) :
    OwnM P w K mg base CX0 C.Bearing "first_freed" ["self", "rope"] 5 (spFreed K C) := by
  refine D.own sc_Bearing_first_freed (fun vs H Q E h => ?_) (fun f cdv A outer s H vs Q E hr h => ?_)
  · obtain ⟨a, _, _, _, _, _, rfl, _⟩ := h
    rfl
  · obtain ⟨v, ws, tb, H0, S, c, rfl, B, sz, hc, ex, k⟩ := h
    refine ⟨_, (pss_cons (ps_set (i := 2) sc_Bearing_first_freed.nd rfl (Or.inl rfl) pe_non)
        (pss_cons (ps_for PassesOwn.never rfl (pi_range1 rfl T.b_range (pa_cons (pe_callB (call_lenK (K := K) rfl) rfl T.b_len bt_len (pa_cons (pe_fldK (K := K) rfl (pv 0) rfl) pa_nil)) pa_nil)) (pg_name (i := 3) sc_Bearing_first_freed.nd rfl (Or.inl rfl))
        (pss_one (ps_if (pt_truth (pe_own o_less (hr.mono (by decide)) rfl pass0 (pa_cons (pe_glob (v := .ref C.NOUGHT) rfl T.g_NOUGHT rfl) (pa_cons (pe_ix (ix_K (K := K) rfl) (pe_ix (ix_K (K := K) rfl) (pe_fldK (K := K) rfl (pv 0) rfl) (pv 3) (fun _ _ => rfl)) (pv 1) (fun _ _ => rfl)) pa_nil))) (fun _ => rfl))
        (pss_one (ps_if (PW.pt (pw_or (pt_cmpR op_isN (pv 2) pe_non (nomark _)) (pw_or1 (pt_truth (pe_ownM o_Bearing_freed_sooner T.l_Bearing (hr.mono (by decide)) pass0 (pv 0) (pa_cons (pv 3) (pa_cons (pv 2) (pa_cons (pv 1) pa_nil)))) (fun _ => rfl)))))
        (pss_one (ps_set (i := 2) sc_Bearing_first_freed.nd rfl (Or.inl rfl) (pv 3)))
        pss_nil))
        pss_nil)))
        (pss_one (ps_ret (pv 2))))), ?_⟩
    obtain ⟨p, dx, a, b, w, rfl, h1, h2, h3, h4⟩ := B.rd
    have n4 := B.ok.n4
    refine ⟨_, rfl, p, _, dx, _, _, rfl, h1, T.l_Bearing, T.n_rows, bf_row _ _ _ _, _, _, rfl, .inl h2, _, rfl, by omega, by simp; omega, ?_⟩
    rw [Int.toNat_natCast, List.length_map, List.length_range]
    refine for_range (fun i σ H2 => Same H H2 ∧ ∃ fv z, σ = [some (.ref p), some (.int c), some fv, z] ∧ ((fv = .non ∧ ∀ j, j < i → ¬ 0 < S.T j c) ∨ ∃ r, fv = .int (r : Nat) ∧ r < i ∧ 0 < S.T r c ∧ ∀ j, j < i → 0 < S.T j c → ¬ sooner (tb.length + ws.length) S c j r))
      ⟨Same.refl _, _, _, rfl, .inl ⟨rfl, fun j hj => by omega⟩⟩ ?_ ?_
    · rintro i σ H2 hi ⟨S2, fv, z, rfl, hf⟩
      have B2 := B.later S2
      have h1' := S2 _ _ h1
      have h2' := h2.same S2
      refine ⟨_, rfl, p, _, dx, _, _, rfl, h1', T.l_Bearing, T.n_rows, bf_row _ _ _ _, _, rfl, _, _, _, .inl h2', rfl, by rw [Int.zero_add]; exact atI_nat (row_atD hi), fun u hu => ?_⟩
      refine ⟨_, rfl, _, _, _, .inl hu, rfl, atI_nat (cell_atD (by omega)), fun u1 hu1 => ?_⟩
      refine ⟨_, _, 0, _, rfl, fr_has (q := 0) (T.k_NOUGHT _), hu1, .zero, (sz _ _ hi (by omega)).mono (by decide), _, rfl, ?_⟩
      by_cases pos : 0 < S.T i c
      · refine ifP (decide_eq_true pos) ?_
        refine ⟨_, rfl, rfl, _, rfl, ?_⟩
        rcases hf with ⟨rfl, hn⟩ | ⟨r, rfl, hr1, hr2, hr3⟩
        · refine ifP (by decide) (ifP rfl ⟨_, rfl, S2, _, _, rfl, .inr ⟨i, by rw [Int.zero_add], by omega, pos, fun j hj hp => ?_⟩⟩)
          by_cases e : j = i
          · subst e; exact sooner_irr
          · exact (hn j (by omega) hp).elim
        · refine ifN (by simp) ?_
          obtain ⟨p', dx', fs, e, hp', hm⟩ := B2.meth (m := "freed_sooner") (by decide +kernel)
          refine ⟨_, rfl, p', dx', fs, e, hp', hm, _, rfl, _, rfl, _, rfl, _, ws, tb, H0, S, i, r, c, by rw [Int.zero_add]; rfl, B2, sz, hi, by omega, hc, by grind, by grind, fun H3 S3 => ?_⟩
          refine ⟨_, rfl, ?_⟩
          by_cases so : sooner (tb.length + ws.length) S c i r
          · refine ifP (decide_eq_true so) ⟨_, rfl, S2.trans S3, _, _, rfl, .inr ⟨i, by rw [Int.zero_add], by omega, pos, fun j hj hp hs => ?_⟩⟩
            by_cases e : j = i
            · subst e; exact sooner_irr hs
            · exact hr3 j (by omega) hp (sooner_trans hs so)
          · refine ifN (by rw [decide_eq_true_eq]; exact so) ⟨S2.trans S3, _, _, rfl, .inr ⟨r, rfl, by omega, hr2, fun j hj hp => ?_⟩⟩
            by_cases e : j = i
            · subst e; exact so
            · exact hr3 j (by omega) hp
      · refine ifN (by rw [decide_eq_true_eq]; exact pos) ⟨S2, _, _, rfl, ?_⟩
        rcases hf with ⟨e0, hn⟩ | ⟨r, e0, hr1, hr2, hr3⟩
        · refine .inl ⟨e0, fun j hj => ?_⟩
          by_cases e : j = i
          · subst e; exact pos
          · exact hn j (by omega)
        · refine .inr ⟨r, e0, by omega, hr2, fun j hj hp => ?_⟩
          by_cases e : j = i
          · subst e; exact (pos hp).elim
          · exact hr3 j (by omega) hp
    · rintro σ H2 ⟨S2, fv, z, rfl, hf⟩
      refine ⟨_, rfl, ?_⟩
      rcases hf with ⟨_, hn⟩ | ⟨r, rfl, hr1, hr2, hr3⟩
      · obtain ⟨i, hi, hp⟩ := ex
        exact (hn i hi hp).elim
      · exact k _ r S2 hr1 hr2 hr3
section
variable {K : PySem.W.Frag} {te : TE} {σ0 : St} {Q : VK} {H H' H0 H1 J : Hp} {l b p : Addr} {v : V} {d : PyData} {vs : List V} {ds : List PyData}
theorem comp_listG {a : Addr} {xs : List V} {ds : List PyData} (hq : SqL K H1 a xs) (hn : ds.length = xs.length) (hl : H1 l = none) (hz : xs.length ≤ sizeLine)
    (ht : ∀ (i : Nat) x H d (R : VK), xs[i]? = some x → ds[i]? = some d → Same H1 H → (∀ v H4, Same H H4 → NewD K H H4 v d → R v H4) → te (σ0.set 0 (some x)) H R)
    (he : ∀ H vs, Grow K H1 l H vs ds → Q (.ref l) H) :
    CompRun (Itl K a) (gName 0) tYes te σ0 Q H1 l := by
  refine ⟨fun i m vs H => m = xs.length - i ∧ i ≤ xs.length ∧ Grow K H1 l H vs (ds.take i), ⟨xs.length, by simp, Nat.zero_le _, by rw [List.take_zero]; exact Grow.start hl⟩, ?_⟩
  rintro i m vs H ⟨rfl, hi, g⟩
  refine ⟨g.at_, ?_⟩
  by_cases hlt : i < xs.length
  · have hd : ds[i]? = some ds[i] := List.getElem?_eq_getElem (by omega)
    refine .inr ⟨⟨xs, xs[i], g.S.seq hq, by simp [hlt]⟩, ?_, fun vs' H' => Grow K H1 l H' vs' (ds.take (i + 1)), fun vs' H' g' => ⟨xs.length - (i + 1), by omega, rfl, hlt, g'⟩, fun x H' y => ?_⟩
    · rw [g.d.len, List.length_take]
      omega
    · obtain ⟨rfl, y⟩ := y
      refine ht i x _ _ _ (y xs (g.S.seq hq)) hd g.S fun v H4 S4 N4 => ?_
      refine ⟨S4 _ _ g.at_, ?_⟩
      rw [show ds.take (i + 1) = ds.take i ++ [ds[i]] by rw [List.take_succ_eq_append_getElem]]
      exact g.push S4 N4
  · have e : i = xs.length := by omega
    subst e
    refine .inl ⟨⟨xs, g.S.seq hq, Nat.le_refl _⟩, he H vs ?_⟩
    rw [List.take_of_length_le (by omega)] at g
    exact g
theorem rngB_get {f : Nat → Int} {n i : Nat} {d : PyData} (h : (((List.range n).map f).map PyData.int)[i]? = some d) : i < n ∧ PyData.int (f i) = d := by
  rw [List.map_map, List.getElem?_map] at h
  by_cases hi : i < n
  · rw [List.getElem?_range hi] at h
    exact ⟨hi, Option.some.inj h⟩
  · rw [List.getElem?_eq_none (by simp; omega)] at h
    cases h
theorem flat_rep (n : Nat) (x : V) : (List.replicate n [x]).flatten = List.replicate n x := by
  induction n with
  | zero => rfl
  | succ n ih => rw [List.replicate_succ, List.flatten_cons, ih, List.replicate_succ]; rfl
theorem hasRep (n : Nat) (h : HasD K H v d) : HasDs K H (List.replicate n v) (List.replicate n d) := by
  induction n with
  | zero => exact .nil
  | succ n ih => rw [List.replicate_succ, List.replicate_succ]; exact .cons h ih
theorem putF_len (f : Str) (y : V) : ∀ fs : List (Str × V), (putF f y fs).length ≤ fs.length + 1
  | [] => Nat.le_refl _
  | (g, z) :: r => by
    show (if g = f then (g, y) :: r else (g, z) :: putF f y r).length ≤ _
    have := putF_len f y r
    split <;> simp <;> omega
theorem ne_ins_lst {C dx : Addr} {fs : List (Str × V)} {xs : List V} {a : Addr} (h : H p = some (.ins C dx fs)) (h' : H a = some (.lst xs)) : a ≠ p := fun e => by
  rw [e, h] at h'
  cases h'
theorem NewD.ins {C dx : Addr} {fs : List (Str × V)} {o : HO} (hp : H p = some (.ins C dx fs)) (h : NewD K J H v d) : NewD K J (upd H p o) v d :=
  NewD.go (fun a xs n q => ⟨n, by rw [upd_ne (ne_ins_lst hp q)]; exact q⟩) (fun a xs q => q.write (by rw [hp]; exact noTup_ins)) d h
theorem NewDs.ins {C dx : Addr} {fs : List (Str × V)} {o : HO} (hp : H p = some (.ins C dx fs)) (h : NewDs K J H vs ds) : NewDs K J (upd H p o) vs ds :=
  NewDs.go (fun a xs n q => ⟨n, by rw [upd_ne (ne_ins_lst hp q)]; exact q⟩) (fun a xs q => q.write (by rw [hp]; exact noTup_ins)) ds h
theorem NewD.apart {o : HO} (s : Same H0 H) (hb : H b = some o) (h : NewD K H H' v d) : NewD K (upd H0 b (.lst [])) H' v d :=
  NewD.go (fun a xs n q => ⟨by rw [upd_ne (fun e => by rw [e, hb] at n; cases n)]; exact s.free n, q⟩) (fun _ _ q => q) d h
theorem NewDs.apart {o : HO} (s : Same H0 H) (hb : H b = some o) (h : NewDs K H H' vs ds) : NewDs K (upd H0 b (.lst [])) H' vs ds :=
  NewDs.go (fun a xs n q => ⟨by rw [upd_ne (fun e => by rw [e, hb] at n; cases n)]; exact s.free n, q⟩) (fun _ _ q => q) ds h
theorem NewD.before (hl : H l = none) (h : NewD K J H v d) : NewD K (upd J l (.lst [])) H v d :=
  NewD.go (fun a xs n q => ⟨by rw [upd_ne (fun e => by rw [e, hl] at q; cases q)]; exact n, q⟩) (fun _ _ q => q) d h
theorem NewD.drop1 (h : NewD K (upd J l (.lst [])) H v d) : NewD K J H v d :=
  NewD.go (fun a xs n q => ⟨by
    by_cases e : a = l
    · rw [e, upd_same] at n; cases n
    · rw [upd_ne e] at n; exact n, q⟩) (fun _ _ q => q) d h
theorem NewDs.drop1 (h : NewDs K (upd J l (.lst [])) H vs ds) : NewDs K J H vs ds :=
  NewDs.go (fun a xs n q => ⟨by
    by_cases e : a = l
    · rw [e, upd_same] at n; cases n
    · rw [upd_ne e] at n; exact n, q⟩) (fun _ _ q => q) ds h
end
theorem sc_Bearing_take_place : FnScope ["self", "place", "rope", "divisor", "taken"] ["self", "place", "rope"] (defScope s_Bearing_take_place) := ⟨rfl, rfl, rfl, by decide +kernel, rfl, by decide +kernel, by decide +kernel⟩
theorem ok_Bearing_take_place {P : Program} {w : World} {K : PySem.W.Frag} {mg : Str → Option Value} {base : Heap} {C : Ad} (T : Txt K mg C) (D : DefM K C.Bearing "take_place" "Bearing.take_place" s_Bearing_take_place ["self", "place", "rope"])
    (o_cleared : Own P w K mg base CX0 "cleared" ["row", "other", "column"] 4 (spCleared K))
    (o_over : Own P w K mg base CX0 "over" ["one", "other"] 3 (spRat K (· ≠ 0) (· / ·))) :
    OwnM P w K mg base CX0 C.Bearing "take_place" ["self", "place", "rope"] 5 (spTake K C) := by
  refine D.own sc_Bearing_take_place (fun vs H Q E h => ?_) (fun f cdv A outer s H vs Q E hr h => ?_)
  · obtain ⟨a, _, _, _, _, _, _, rfl, _⟩ := h
    rfl
  · obtain ⟨v, ws, tb, H0, S, r, c, rfl, B, sz, sz', hr', hc, hp, k⟩ := h
    refine ⟨_, (pss_cons (ps_set (i := 3) sc_Bearing_take_place.nd rfl (Or.inr rfl) (pe_ix (ix_K (K := K) rfl) (pe_ix (ix_K (K := K) rfl) (pe_fldK (K := K) rfl (pv 0) rfl) (pv 1) (fun _ _ => rfl)) (pv 2) (fun _ _ => rfl)))
        (pss_cons (ps_set (i := 4) sc_Bearing_take_place.nd rfl (Or.inr rfl) (pe_comp (tg := ["cell"]) (cap := ["divisor"]) (caps := [3]) (CompSc.of_ok (by kernel_rfl)) rfl (gk_name (by decide)) (pi_listK (K := K) rfl (pe_ix (ix_K (K := K) rfl) (pe_fldK (K := K) rfl (pv 0) rfl) (pv 1) (fun _ _ => rfl))) (fun _ _ _ _ _ => (pg_name (i := 0) (show ((["cell"] : List Str) ++ (["divisor"] : List Str)).Nodup by decide +kernel) rfl (Or.inl rfl))) (fun _ _ _ _ _ => pts_nil) (fun _ _ _ _ _ => (pe_own o_over (hr.mono (by decide)) rfl pass0 (pa_cons (pv 0) (pa_cons (pv 1) pa_nil))))))
        (pss_cons (ps_fldK (K := K) rfl (pv 0) (pe_comp (tg := ["row"]) (cap := ["rope", "taken"]) (caps := [2, 4]) (CompSc.of_ok (by kernel_rfl)) rfl (gk_name (by decide)) (pi_listK (K := K) rfl (pe_fldK (K := K) rfl (pv 0) rfl)) (fun _ _ _ _ _ => (pg_name (i := 0) (show ((["row"] : List Str) ++ (["rope", "taken"] : List Str)).Nodup by decide +kernel) rfl (Or.inl rfl))) (fun _ _ _ _ _ => pts_nil) (fun _ _ _ _ _ => (pe_own o_cleared (hr.mono (by decide)) rfl pass0 (pa_cons (pv 0) (pa_cons (pv 2) (pa_cons (pv 1) pa_nil)))))) rfl)
        (pss_cons (ps_asg (pv 4) (pg_sub (pe_fldK (K := K) rfl (pv 0) rfl) (pv 1) set_list))
        (pss_cons (ps_fldK (K := K) rfl (pv 0) (pe_own o_cleared (hr.mono (by decide)) rfl pass0 (pa_cons (pe_fldK (K := K) rfl (pv 0) rfl) (pa_cons (pv 4) (pa_cons (pv 2) pa_nil)))) rfl)
        (pss_one (ps_asg (pv 2) (pg_sub (pe_fldK (K := K) rfl (pv 0) rfl) (pv 1) set_list)))))))), ?_⟩
    obtain ⟨⟨p, dx, a, b, w, rfl, n1, h1, n2, h2, h3, h4⟩, s0, ok⟩ := B
    have n4 := ok.n4
    have r5 := ok.r5
    have sl : (100 : Nat) ≤ sizeLine := by decide
    have ha := NewD.has _ h3
    have hw := NewD.has _ h4
    have bp : b ≠ p := ne_ins_lst h1 h2
    refine ⟨_, rfl, p, _, dx, _, _, rfl, h1, T.l_Bearing, T.n_rows, bf_row _ _ _ _, _, rfl, _, _, _, .inl ha, rfl, atI_nat (row_atD hr'), fun u hu => ?_⟩
    refine ⟨_, rfl, _, _, _, .inl hu, rfl, atI_nat (cell_atD (by omega)), fun dv hdv => ?_⟩
    refine ⟨_, rfl, p, _, dx, _, _, rfl, h1, T.l_Bearing, T.n_rows, bf_row _ _ _ _, _, rfl, _, _, _, .inl ha, rfl, atI_nat (row_atD hr'), fun u' hu' => ?_⟩
    obtain ⟨ar, xr, rfl, qr, dr⟩ := hu'.oflst
    have lr : xr.length = tb.length + ws.length + 1 := by rw [dr.len, List.length_map, frRow_len]
    refine ⟨ar, rfl, ⟨_, qr⟩, fun l1 hl1 => comp_listD (K := K) (ds := (frRow (tb.length + ws.length) fun j => S.T r j / S.T r c).map frD) qr (by rw [List.length_map, frRow_len, lr]) hl1 (by omega) ?_ ?_⟩
    · intro i x H3 d R ex ed S3 kk
      obtain ⟨d1, e1, hx⟩ := dr.at ex
      obtain ⟨hi, rfl⟩ := frD_at e1
      obtain ⟨_, rfl⟩ := frD_at ed
      exact ⟨_, rfl, _, rfl, _, _, S.T r i, S.T r c, rfl, hx.same S3, hdv.same S3, (sz r i hr' hi).mono (by decide), (sz r c hr' (by omega)).mono (by decide), hp, kk⟩
    · intro H1 S1 N1
      have h1a := S1 _ _ h1
      have h2a := S1 _ _ h2
      have haa := ha.same S1
      obtain ⟨a', xa, ea, qa, da⟩ := haa.oflst
      cases ea
      have la : xa.length = ws.length := by rw [da.len, List.length_map, List.length_range]
      have htk := NewD.has _ N1
      refine ⟨_, rfl, p, _, dx, _, _, rfl, h1a, T.l_Bearing, T.n_rows, bf_row _ _ _ _, a, rfl, ⟨_, qa⟩, fun l2 hl2 => comp_listG (K := K) (ds := (List.range ws.length).map fun i => frsD (frRow (tb.length + ws.length) fun j => S.T i j - S.T i c * (S.T r j / S.T r c))) qa (by rw [la]; simp) hl2 (by omega) ?_ ?_⟩
      · intro i x H3 d R ex ed S3 kk
        have hi : i < ws.length := by
          have := (List.getElem?_eq_some_iff.mp ex).1
          omega
        obtain ⟨d1, e1, hx⟩ := da.at ex
        rw [row_atD hi] at e1
        cases e1
        rw [List.getElem?_map, List.getElem?_range hi] at ed
        cases ed
        exact ⟨_, rfl, _, rfl, _, rfl, _, _, tb.length + ws.length, c, S.T i, fun j => S.T r j / S.T r c, rfl, hx.same S3, htk.same S3, by omega, by omega, fun j hj => (sz i j hi hj).mono (by decide), fun j hj => ((sz r j hr' hj).div (sz r c hr' (by omega)) hp).mono (by decide), kk⟩
      · intro H2 vs g
        have h1b := g.S _ _ h1a
        have h2b := g.S _ _ h2a
        have l2p : l2 ≠ p := ne_ins_lst h1b g.at_
        have l2b : l2 ≠ b := fun e => by rw [e, h2a] at hl2; cases hl2
        refine ⟨_, rfl, p, _, dx, _, rfl, h1b, T.l_Bearing, T.n_rows, (by show 4 < 1000; decide), ?_⟩
        rw [bf_setR]
        have J1 : NewD K (upd (upd H0 b (.lst [])) l2 (.lst [])) H1 _ _ := NewD.before hl2 (NewD.apart s0 h2 N1)
        have lv : vs.length = ws.length := by rw [g.d.len, List.length_map, List.length_range]
        refine ⟨_, rfl, _, rfl, p, _, dx, _, _, rfl, upd_same, T.l_Bearing, T.n_rows, bf_row _ _ _ _, _, rfl, l2, vs, _, r, rfl, rfl, by rw [upd_ne l2p]; exact g.at_, ixN_nat (by omega), ?_⟩
        generalize ho3 : HO.ins C.Bearing dx (bflds tb.length l2 b w) = o3
        have nt3 : NoTup ((upd H2 p o3) l2) := by rw [upd_ne l2p, g.at_]; exact noTup_lst
        have e3 : NewDs K (upd H1 l2 (.lst [])) (upd (upd H2 p o3) l2 (.lst (vs.set r (.ref l1)))) vs _ := (NewDs.ins h1b g.d).write (some_ne upd_same) nt3
        have J3 : NewD K (upd (upd H0 b (.lst [])) l2 (.lst [])) (upd (upd H2 p o3) l2 (.lst (vs.set r (.ref l1)))) _ _ := (NewD.ins h1b (NewD.later g.S J1)).write (some_ne upd_same) nt3
        have w3 : NewD K (upd (upd H0 b (.lst [])) l2 (.lst [])) (upd (upd H2 p o3) l2 (.lst (vs.set r (.ref l1)))) _ _ := (NewD.ins h1b (NewD.later g.S (NewD.before hl2 (h4.later S1)))).write (some_ne upd_same) nt3
        have s4 : Same H0 (upd (upd H2 p o3) l2 (.lst (vs.set r (.ref l1)))) := same_write (same_write ((s0.trans S1).trans g.S) n1) ((s0.trans S1).free hl2)
        have s01 : Same H0 H1 := s0.trans S1
        have rows4 : NewDs K (upd H0 b (.lst [])) (upd (upd H2 p o3) l2 (.lst (vs.set r (.ref l1)))) (vs.set r (.ref l1)) _ := NewDs.set r ((NewDs.drop1 (NewDs.go (J := upd (upd H0 b (.lst [])) l2 (.lst [])) (fun a xs n q => ⟨by
          by_cases e : a = l2
          · rw [e, upd_same] at n; cases n
          · rw [upd_ne e] at n ⊢
            rw [upd_ne (fun e' => by rw [e', h2a] at n; cases n)]
            exact s01.free n, q⟩) (fun _ _ q => q) _ e3))) (NewD.drop1 J3)
        generalize hH4 : upd (upd H2 p o3) l2 (.lst (vs.set r (.ref l1))) = H4 at *
        have at4 : H4 l2 = some (.lst (vs.set r (.ref l1))) := by rw [← hH4, upd_same]
        have p4 : H4 p = some o3 := by rw [← hH4, upd_ne l2p.symm, upd_same]
        have b4 : H4 b = some (.lst ((List.range ws.length).map fun i => V.int (S.b i : Nat))) := by rw [← hH4, upd_ne l2b.symm, upd_ne bp]; exact h2b
        subst ho3
        refine ⟨_, rfl, p, _, dx, _, _, rfl, p4, T.l_Bearing, T.n_way, bf_way _ _ _ _, _, rfl, _, rfl, _, _, tb.length + ws.length, c, S.z, fun j => S.T r j / S.T r c, rfl, NewD.has _ w3, NewD.has _ J3, by omega, by omega, fun j hj => (sz' j hj).mono (by decide), fun j hj => ((sz r j hr' hj).div (sz r c hr' (by omega)) hp).mono (by decide), fun y H5 S5 N5 => ?_⟩
        obtain ⟨w', xw, rfl, nw, qw, dw⟩ := N5.oflst
        have p5 := S5 _ _ p4
        refine ⟨_, rfl, p, _, dx, _, rfl, p5, T.l_Bearing, T.n_way, (by show 4 < 1000; decide), ?_⟩
        rw [bf_setW]
        have b5 := S5 _ _ b4
        refine ⟨_, rfl, _, rfl, p, _, dx, _, _, rfl, upd_same, T.l_Bearing, T.n_bearers, bf_bea _ _ _ _, _, rfl, b, _, _, r, rfl, rfl, by rw [upd_ne bp]; exact b5, ixN_nat (by simp; exact hr'), ?_⟩
        have b6 : (upd H5 p (.ins C.Bearing dx (bflds tb.length l2 b w'))) b = some (.lst ((List.range ws.length).map fun i => V.int (S.b i : Nat))) := by rw [upd_ne bp]; exact b5
        have nt6 : NoTup ((upd H5 p (.ins C.Bearing dx (bflds tb.length l2 b w'))) b) := by rw [b6]; exact noTup_lst
        have nb : (upd H0 b (.lst [])) b ≠ none := some_ne upd_same
        refine k _ ⟨⟨p, dx, l2, b, w', rfl, n1, by rw [upd_ne bp.symm, upd_same], n2, ?_, ?_, ?_⟩, same_write (same_write (s4.trans S5) n1) n2, ok⟩
        · rw [upd_same]
          congr 2
          refine List.ext_getElem? fun i => ?_
          rw [List.getElem?_set]
          by_cases e : r = i
          · subst e
            rw [if_pos rfl, if_pos (by simp; exact hr'), List.getElem?_map, List.getElem?_range hr']
            show _ = some (V.int ((if r = r then c else S.b r : Nat) : Int))
            rw [if_pos rfl]
          · rw [if_neg e, List.getElem?_map, List.getElem?_map]
            by_cases hi : i < ws.length
            · rw [List.getElem?_range hi]
              show some (V.int (S.b i : Nat)) = some (V.int ((if i = r then c else S.b i : Nat) : Int))
              rw [if_neg (fun z => e z.symm)]
            · rw [List.getElem?_eq_none (by simp; omega)]
              rfl
        · have r7 := ((NewDs.ins p5 (rows4.later S5)).write (o := .lst (((List.range ws.length).map fun i => V.int (S.b i : Nat)).set r (.int c))) nb nt6)
          refine .lst ?_ (by rw [upd_ne l2b, upd_ne l2p]; exact S5 _ _ at4) (cast ?_ r7)
          · rw [upd_ne l2b]
            exact s01.free hl2
          · congr 1
            refine List.ext_getElem? fun i => ?_
            rw [List.getElem?_set]
            by_cases e : r = i
            · subst e
              rw [if_pos rfl, if_pos (by simp; exact hr'), row_atD hr']
              rw [show frRow (tb.length + ws.length) (fun j => S.T r j / S.T r c) = frRow (tb.length + ws.length) ((S.piv r c).T r) from frRow_congr fun j _ => (if_pos rfl).symm]
              rfl
            · rw [if_neg e]
              by_cases hi : i < ws.length
              · rw [row_atD (T := fun i j => S.T i j - S.T i c * (S.T r j / S.T r c)) hi, row_atD (T := (S.piv r c).T) hi]
                rw [show frRow (tb.length + ws.length) (fun j => S.T i j - S.T i c * (S.T r j / S.T r c)) = frRow (tb.length + ws.length) ((S.piv r c).T i) from frRow_congr fun j _ => (if_neg fun z => e z.symm).symm]
              · rw [List.getElem?_eq_none (by simp; omega), List.getElem?_eq_none (by simp; omega)]
        · exact (NewD.ins p5 (NewD.apart s4 b4 N5)).write nb nt6
theorem sc_Bearing_settle : FnScope ["self", "rope"] ["self"] (defScope s_Bearing_settle) := ⟨rfl, rfl, rfl, by decide +kernel, rfl, by decide +kernel, by decide +kernel⟩
theorem ok_Bearing_settle {P : Program} {w : World} {K : PySem.W.Frag} {mg : Str → Option Value} {base : Heap} {C : Ad} (T : Txt K mg C) (D : DefM K C.Bearing "settle" "Bearing.settle" s_Bearing_settle ["self"])
    (o_Bearing_first_freed : OwnM P w K mg base CX0 C.Bearing "first_freed" ["self", "rope"] 5 (spFreed K C))
    (o_Bearing_short_rope : OwnM P w K mg base CX0 C.Bearing "short_rope" ["self"] 2 (spShort K C))
    (o_Bearing_take_place : OwnM P w K mg base CX0 C.Bearing "take_place" ["self", "place", "rope"] 5 (spTake K C)) :
    OwnM P w K mg base CX0 C.Bearing "settle" ["self"] 6 (spSettle K C) := by
  refine D.own sc_Bearing_settle (fun vs H Q E h => ?_) (fun f cdv A outer s H vs Q E hr h => ?_)
  · obtain ⟨a, _, _, _, _, _, _, rfl, _⟩ := h
    rfl
  · obtain ⟨v, ws, tb, H0, S, e, q, rfl, B, F, co, k⟩ := h
    refine ⟨_, (pss_cons (ps_set (i := 1) sc_Bearing_settle.nd rfl (Or.inl rfl) (pe_ownM0 o_Bearing_short_rope T.l_Bearing (hr.mono (by decide)) pass0 (pv 0)))
        (pss_one (ps_while PassesOwn.never (pt_cmpR op_notN (pv 1) pe_non (nomark _))
        (pss_cons (ps_expr (pe_ownM o_Bearing_take_place T.l_Bearing (hr.mono (by decide)) pass0 (pv 0) (pa_cons (pe_ownM o_Bearing_first_freed T.l_Bearing (hr.mono (by decide)) pass0 (pv 0) (pa_cons (pv 1) pa_nil)) (pa_cons (pv 1) pa_nil))))
        (pss_one (ps_set (i := 1) sc_Bearing_settle.nd rfl (Or.inl rfl) (pe_ownM0 o_Bearing_short_rope T.l_Bearing (hr.mono (by decide)) pass0 (pv 0)))))))), ?_⟩
    have ok := B.ok
    have q0 : 0 ≤ q := by rcases co.q01 with h | h <;> rw [h] <;> decide
    have e0 : ∀ j, j < tb.length + ws.length → 0 ≤ e j := fun j _ => by rcases co.e01 j with h | h <;> rw [h] <;> decide
    have szT : ∀ {S' : Tb}, Fine ws tb e q S' → SzT ws tb S' := fun F' i j hi hj => (F'.sz ok hi hj).mono (by decide)
    have ask : ∀ (S' : Tb) (H2 : Hp) (σ : St) (D : St → Hp → Prop), Fine ws tb e q S' → BearAt K C H0 H2 v ws tb S' → (∃ z, σ = [some v, z]) →
        (∀ H3 rv, BearAt K C H0 H3 v ws tb S' → ((rv = .non ∧ ∀ j, j < tb.length → 0 ≤ S'.z j) ∨ ∃ c : Nat, rv = .int c ∧ c < tb.length ∧ S'.z c < 0 ∧ ∀ j, j < c → 0 ≤ S'.z j) → D [some v, some rv] H3) →
        (tMeth C.Bearing (Str.ofString "short_rope") (spShort K C) [] E0 (tVar 0) tNil) σ H2 fun u H3 => D (σ.set 1 (some u)) H3 := by
      rintro S' H2 σ D F' B' ⟨z, rfl⟩ kk
      obtain ⟨p, dx, fs, ee, hp, hm⟩ := B'.meth (m := "short_rope") (by decide +kernel)
      exact ⟨_, rfl, p, dx, fs, ee, hp, hm, v, ws, tb, H0, S', rfl, B', fun j hj => (F'.zsz ok co (by omega)).mono (by decide),
        fun H3 c s hc h1 h2 => kk H3 _ (B'.later s) (.inr ⟨c, rfl, hc, h1, h2⟩), fun H3 s h => kk H3 _ (B'.later s) (.inl ⟨rfl, h⟩)⟩
    refine ask S H _ _ F B ⟨_, rfl⟩ fun H1 rv B1 hv => ?_
    refine ⟨fun mm σ H2 => ∃ (R : Nat → Tb) (L : Nat) (rv : V), Run ws.length tb.length (ratA ws tb) e q R L ∧ Fine ws tb e q (R L) ∧ (Clean ws tb S → Clean ws tb (R L)) ∧ mm = 2 ^ (tb.length + ws.length) - L ∧ BearAt K C H0 H2 v ws tb (R L) ∧ σ = [some v, some rv] ∧
      ((rv = .non ∧ ∀ j, j < tb.length → 0 ≤ (R L).z j) ∨ ∃ c : Nat, rv = .int c ∧ c < tb.length ∧ (R L).z c < 0 ∧ ∀ j, j < c → 0 ≤ (R L).z j), ⟨_, fun _ => S, 0, rv, Run.start F.toGood, F, id, rfl, B1, rfl, hv⟩, ?_⟩
    rintro mm σ H2 ⟨R, L, rv, run, F2, cl, rfl, B2, rfl, hv⟩
    refine ⟨_, rfl, rfl, _, rfl, ?_⟩
    rcases hv with ⟨rfl, fin⟩ | ⟨c, rfl, hc, neg, fst⟩
    · refine ifN (by decide) ?_
      exact k _ _ B2 F2 cl fin
    · refine ifP (by simp) ⟨fun σ' H' => ∃ m', m' < 2 ^ (tb.length + ws.length) - L ∧ ∃ (R : Nat → Tb) (L : Nat) (rv : V), Run ws.length tb.length (ratA ws tb) e q R L ∧ Fine ws tb e q (R L) ∧ (Clean ws tb S → Clean ws tb (R L)) ∧ m' = 2 ^ (tb.length + ws.length) - L ∧ BearAt K C H0 H' v ws tb (R L) ∧ σ' = [some v, some rv] ∧
        ((rv = .non ∧ ∀ j, j < tb.length → 0 ≤ (R L).z j) ∨ ∃ c : Nat, rv = .int c ∧ c < tb.length ∧ (R L).z c < 0 ∧ ∀ j, j < c → 0 ≤ (R L).z j), fun σ' H' h => h, ?_⟩
      obtain ⟨p, dx, fs, ee, hp, hm⟩ := B2.meth (m := "take_place") (by decide +kernel)
      obtain ⟨p', dx', fs', ee', hp', hm'⟩ := B2.meth (m := "first_freed") (by decide +kernel)
      refine ⟨_, rfl, p, dx, fs, ee, hp, hm, _, rfl, p', dx', fs', ee', hp', hm', _, rfl, v, ws, tb, H0, R L, c, rfl, B2, szT F2, hc, F2.toGood.freed q0 e0 hc neg, fun H3 r S3 hr1 hr2 hr3 => ?_⟩
      have tn : Turn ws.length tb.length (R L) r c := ⟨hc, neg, fst, hr1, hr2, fun i hi hp => by
        have h := hr3 i hi hp
        unfold sooner at h
        by_cases z : (R L).T r (tb.length + ws.length) / (R L).T r c < (R L).T i (tb.length + ws.length) / (R L).T i c
        · exact .inl z
        · by_cases z2 : (R L).T r (tb.length + ws.length) / (R L).T r c = (R L).T i (tb.length + ws.length) / (R L).T i c
          · exact .inr ⟨z2, Nat.le_of_not_lt fun y => h (.inr ⟨z2.symm, y⟩)⟩
          · exact (h (.inl (Rat.lt_of_le_of_ne (Rat.not_lt.mp z) fun y => z2 y.symm))).elim⟩
      have F3 := F2.turn ok tn
      have run3 := run.more tn
      have sh := run3.short
      refine ⟨_, rfl, v, ws, tb, H0, R L, r, c, rfl, B2.later S3, szT F2, fun j hj => (F2.zsz ok co hj).mono (by decide), hr1, hc, by grind, fun H4 B4 => ?_⟩
      refine ask ((R L).piv r c) H4 _ _ F3 B4 ⟨_, rfl⟩ fun H5 rv5 B5 hv5 => ?_
      have eL : (if L + 1 ≤ L then R (L + 1) else (R L).piv r c) = (R L).piv r c := if_neg (by omega)
      refine ⟨2 ^ (tb.length + ws.length) - (L + 1), by omega, _, L + 1, rv5, run3, ?_, ?_, rfl, ?_, rfl, ?_⟩
      · rw [eL]; exact F3
      · rw [eL]; exact fun h => (cl h).turn hc hr1 (by grind)
      · rw [eL]; exact B5
      · rw [eL]; exact hv5
theorem sc_Bearing___init__ : FnScope ["self", "hoist", "bodies"] ["self", "hoist"] (defScope s_Bearing___init__) := ⟨rfl, rfl, rfl, by decide +kernel, rfl, by decide +kernel, by decide +kernel⟩
theorem ok_Bearing___init__ {P : Program} {w : World} {K : PySem.W.Frag} {mg : Str → Option Value} {base : Heap} {C : Ad} (T : Txt K mg C) (D : DefI K C.Bearing "Bearing.__init__" s_Bearing___init__ ["self", "hoist"])
    (o_Bearing_settle : OwnM P w K mg base CX0 C.Bearing "settle" ["self"] 6 (spSettle K C))
    (o_Hoist_many_ropes : OwnM P w K mg base CX0 C.Hoist "many_ropes" ["self"] 1 (spManyRopes K C))
    (o_Hoist_weights : OwnM P w K mg base CX0 C.Hoist "weights" ["self"] 1 (spWeights K C))
    (o_first_row : Own P w K mg base CX0 "first_row" ["hoist", "body"] 5 (spFirstRow K C))
    (o_whole_way : Own P w K mg base CX0 "whole_way" ["hoist", "motion"] 6 (spWholeWay K C)) :
    OwnI P w K mg base CX0 C.Bearing ["self", "hoist"] 7 (spBearI K C) := by
  refine D.own sc_Bearing___init__ (fun vs H Q E h => ?_) (fun f cdv A outer s H vs Q E hr h => ?_)
  · obtain ⟨a, _, _, _, _, _, rfl, _⟩ := h
    rfl
  · obtain ⟨x, dx, v, ws, tb, H0, rfl, hx, S0, nx, hA, k⟩ := h
    refine ⟨_, (pss_cons (ps_set (i := 2) sc_Bearing___init__.nd rfl (Or.inl rfl) (pe_callB (call_lenK (K := K) rfl) rfl T.b_len bt_len (pa_cons (pe_ownM0 o_Hoist_weights T.l_Hoist (hr.mono (by decide)) pass0 (pv 1)) pa_nil)))
        (pss_cons (ps_fldK (K := K) rfl (pv 0) (pe_ownM0 o_Hoist_many_ropes T.l_Hoist (hr.mono (by decide)) pass0 (pv 1)) rfl)
        (pss_cons (ps_fldK (K := K) rfl (pv 0) (pe_comp (tg := ["body"]) (cap := ["hoist"]) (caps := [1]) (CompSc.of_ok (by kernel_rfl)) rfl (gk_name (by decide)) (pi_range1 rfl T.b_range (pa_cons (pv 2) pa_nil)) (fun _ _ _ _ _ => (pg_name (i := 0) (show ((["body"] : List Str) ++ (["hoist"] : List Str)).Nodup by decide +kernel) rfl (Or.inl rfl))) (fun _ _ _ _ _ => pts_nil) (fun _ _ _ _ _ => (pe_own o_first_row (hr.mono (by decide)) rfl pass0 (pa_cons (pv 1) (pa_cons (pv 0) pa_nil))))) rfl)
        (pss_cons (ps_fldK (K := K) rfl (pv 0) (pe_comp (tg := ["body"]) (cap := ["self"]) (caps := [0]) (CompSc.of_ok (by kernel_rfl)) rfl (gk_name (by decide)) (pi_range1 rfl T.b_range (pa_cons (pv 2) pa_nil)) (fun _ _ _ _ _ => (pg_name (i := 0) (show ((["body"] : List Str) ++ (["self"] : List Str)).Nodup by decide +kernel) rfl (Or.inl rfl))) (fun _ _ _ _ _ => pts_nil) (fun _ _ _ _ _ => (pe_op op_add (pe_fldK (K := K) rfl (pv 1) rfl) (pv 0)))) rfl)
        (pss_cons (ps_fldK (K := K) rfl (pv 0) (pe_own o_whole_way (hr.mono (by decide)) rfl pass0 (pa_cons (pv 1) (pa_cons (pe_op op_rep (pe_lst (pa_cons (pe_tup (pa_cons (pe_un un_neg pe_int) (pa_cons pe_int pa_nil))) pa_nil)) (pv 2)) pa_nil))) rfl)
        (pss_one (ps_expr (pe_ownM0 o_Bearing_settle T.l_Bearing (hr.mono (by decide)) pass0 (pv 0))))))))), ?_⟩
    have ok := hA.ok
    have n4 := ok.n4
    have r5 := ok.r5
    have sl : (100 : Nat) ≤ sizeLine := by decide
    have hA0 := hA.same S0
    obtain ⟨p, dh, fh, ee, hp, hm⟩ := hA0.meth (m := "weights") (by decide +kernel) (by decide +kernel)
    refine ⟨_, rfl, p, dh, fh, ee, hp, hm, v, ws, tb, rfl, hA0, fun u H1 S1 N1 => ⟨_, _, rfl, .inl (NewD.has _ N1), ?_⟩⟩
    rw [List.length_map]
    have hA1 := hA0.same S1
    have x1 := S1 _ _ hx
    obtain ⟨p, dh, fh, ee, hp, hm⟩ := hA1.meth (m := "many_ropes") (by decide +kernel) (by decide +kernel)
    refine ⟨_, rfl, p, dh, fh, ee, hp, hm, v, ws, tb, rfl, hA1, _, rfl, x, _, dx, _, rfl, x1, T.l_Bearing, T.n_ropes, by decide, ?_⟩
    have s2 : Same H0 (upd H1 x (.ins C.Bearing dx (putF "ropes" (.int tb.length) []))) := same_write (S0.trans S1) nx
    generalize hH2 : upd H1 x (.ins C.Bearing dx (putF "ropes" (.int tb.length) [])) = H2 at *
    have x2 : H2 x = some (.ins C.Bearing dx (putF "ropes" (.int tb.length) [])) := by rw [← hH2, upd_same]
    have hA2 := hA.same s2
    refine ⟨_, rfl, _, rfl, by omega, by omega, fun l hl => ?_⟩
    rw [Int.toNat_natCast]
    refine comp_rangeD (K := K) (ds := (List.range ws.length).map fun i => frsD (frRow (tb.length + ws.length) (ratA ws tb i))) (by simp) hl (by omega) ?_ ?_
    · intro i H3 d R ed S3 kk
      have hi : i < ws.length := by
        have := (List.getElem?_eq_some_iff.mp ed).1
        simpa using this
      rw [row_atD hi] at ed
      cases ed
      exact ⟨_, rfl, _, rfl, v, ws, tb, i, by rw [Int.zero_add]; rfl, hA2.same S3, hi, kk⟩
    · intro H3 S3 N3
      have x3 := S3 _ _ x2
      refine ⟨_, rfl, x, _, dx, _, rfl, x3, T.l_Bearing, T.n_rows, (by show 1 < 1000; decide), ?_⟩
      have r4 := NewD.ins (o := .ins C.Bearing dx (putF "rows" (.ref l) (putF "ropes" (.int tb.length) []))) x3 (NewD.wider s2 N3)
      have s4 : Same H0 (upd H3 x (.ins C.Bearing dx (putF "rows" (.ref l) (putF "ropes" (.int tb.length) [])))) := same_write (s2.trans S3) nx
      generalize hH4 : upd H3 x (.ins C.Bearing dx (putF "rows" (.ref l) (putF "ropes" (.int tb.length) []))) = H4 at *
      have x4 : H4 x = some (.ins C.Bearing dx (putF "rows" (.ref l) (putF "ropes" (.int tb.length) []))) := by rw [← hH4, upd_same]
      have lk : (putF "rows" (.ref l) (putF "ropes" (.int tb.length) [])).lookup ("ropes" : Str) = some (V.int tb.length) := by rw [lookup_putF, if_neg s_rows, lookup_putF, if_pos rfl]
      refine ⟨_, rfl, _, rfl, by omega, by omega, fun b hb => ?_⟩
      rw [Int.toNat_natCast]
      refine comp_rangeD (K := K) (ds := ((List.range ws.length).map fun i : Nat => (tb.length : Int) + (0 + (i : Int))).map PyData.int) (by simp) hb (by omega) ?_ ?_
      · intro i H5 d R ed S5 kk
        obtain ⟨hi, rfl⟩ := rngB_get ed
        exact ⟨_, rfl, x, _, dx, _, _, rfl, S5 _ _ x4, T.l_Bearing, T.n_ropes, lk, _, rfl, _, _, rfl, rfl, kk _ _ (Same.refl _) (.int _)⟩
      · intro H5 S5 N5
        have x5 := S5 _ _ x4
        obtain ⟨b', xb, eb, nb, qb, db⟩ := N5.oflst
        cases eb
        have exb := NewDs.ints.mp db
        refine ⟨_, rfl, x, _, dx, _, rfl, x5, T.l_Bearing, T.n_bearers, (by have a := putF_len "rows" (.ref l) (putF "ropes" (.int tb.length) []); have c := putF_len "ropes" (.int tb.length) []; simp at c; omega), ?_⟩
        have r5' : NewD K (upd H0 b (.lst [])) H5 _ _ := NewD.later S5 (NewD.before nb r4)
        have r6 := NewD.ins (o := .ins C.Bearing dx (putF "bearers" (.ref b) (putF "rows" (.ref l) (putF "ropes" (.int tb.length) [])))) x5 r5'
        have s6 : Same H0 (upd H5 x (.ins C.Bearing dx (putF "bearers" (.ref b) (putF "rows" (.ref l) (putF "ropes" (.int tb.length) []))))) := same_write (s4.trans S5) nx
        have b6 : (upd H5 x (.ins C.Bearing dx (putF "bearers" (.ref b) (putF "rows" (.ref l) (putF "ropes" (.int tb.length) []))))) b = some (.lst xb) := by rw [upd_ne (ne_ins_lst x5 qb)]; exact qb
        generalize hH6 : upd H5 x (.ins C.Bearing dx (putF "bearers" (.ref b) (putF "rows" (.ref l) (putF "ropes" (.int tb.length) [])))) = H6 at *
        have x6 : H6 x = some (.ins C.Bearing dx (putF "bearers" (.ref b) (putF "rows" (.ref l) (putF "ropes" (.int tb.length) [])))) := by rw [← hH6, upd_same]
        refine ⟨_, rfl, _, rfl, by show 2 ≤ sizeLine; decide, fun t ht => ⟨by show 1 ≤ sizeLine; decide, fun o1 ho1 => ⟨_, rfl, o1, _, _, rfl, rfl, upd_same, by omega, by omega, by show 1 * _ ≤ sizeLine; omega, fun o2 ho2 => ?_⟩⟩⟩
        have St := Same.upd ht (o := .tup [V.int (-1), V.int 1])
        have S1' := Same.upd ho1 (o := .lst [V.ref t])
        have eflat : (List.replicate ((ws.length : Nat) : Int).toNat [V.ref t]).flatten = List.replicate ws.length (V.ref t) := by rw [Int.toNat_natCast]; exact flat_rep _ _
        have S2' := Same.upd ho2 (o := .lst (List.replicate ((ws.length : Nat) : Int).toNat [V.ref t]).flatten)
        have s67 := (St.trans S1').trans S2'
        refine ⟨v, _, ws, tb, rfl, hA.same (s6.trans s67), ⟨o2, _, rfl, upd_same, ?_⟩, fun y H8 S8 N8 => ?_⟩
        · have hh := hasRep ws.length (fr_has (K := K) (q := -1) (SqT.of ((S1'.trans S2') _ _ upd_same)))
          rw [← eflat] at hh
          rw [List.map_replicate]
          exact hh
        · have s68 := s67.trans S8
          obtain ⟨w', xw, rfl, nw, qw, dw⟩ := N8.oflst
          have x8 := s68 _ _ x6
          refine ⟨_, rfl, x, _, dx, _, rfl, x8, T.l_Bearing, T.n_way, (by have z := putF_len "bearers" (.ref b) (putF "rows" (.ref l) (putF "ropes" (.int tb.length) [])); have a := putF_len "rows" (.ref l) (putF "ropes" (.int tb.length) []); have c := putF_len "ropes" (.int tb.length) []; simp at c; omega), ?_⟩
          rw [bf_put]
          have b8 := s68 _ _ b6
          have xb' : b ≠ x := ne_ins_lst x8 b8
          have BB : BearAt K C H0 (upd H8 x (.ins C.Bearing dx (bflds tb.length l b w'))) (.ref x) ws tb (tabS ws tb) := by
            refine ⟨⟨x, dx, l, b, w', rfl, nx, upd_same, (s4.free nb), ?_, ?_, ?_⟩, same_write (s6.trans s68) nx, ok⟩
            · rw [upd_ne xb', b8, exb, List.map_map]
              congr 2
              refine List.map_congr_left fun i _ => ?_
              show V.int ((tb.length : Int) + (0 + (i : Int))) = V.int ((tb.length + i : Nat) : Int)
              congr 1
              omega
            · exact NewD.ins x8 (NewD.later s68 r6)
            · exact NewD.ins x8 (NewD.apart (s6.trans s67) (s67 _ _ b6) N8)
          obtain ⟨p, dp, fp, ep, hpp, hmm⟩ := BB.meth (m := "settle") (by decide +kernel)
          exact ⟨_, rfl, p, dp, fp, ep, hpp, hmm, _, ws, tb, H0, tabS ws tb, _, _, rfl, BB, ⟨tabS_good ok, tabS_nz⟩, cost0, fun H9 S' B' F' _ fin => k _ _ B' F' fin⟩
theorem sc_judged : FnScope ["hoist", "bearing"] ["hoist"] (defScope s_judged) := ⟨rfl, rfl, rfl, by decide +kernel, rfl, by decide +kernel, by decide +kernel⟩
theorem ok_judged {P : Program} {w : World} {K : PySem.W.Frag} {mg : Str → Option Value} {base : Heap} {C : Ad} (T : Txt K mg C) (D : Def K mg "judged" "judged" s_judged ["hoist"])
    (o_Bearing___init__ : OwnI P w K mg base CX0 C.Bearing ["self", "hoist"] 7 (spBearI K C))
    (o_Bearing_motion : OwnM P w K mg base CX0 C.Bearing "motion" ["self"] 1 (spMotion K C))
    (o_Bearing_pulls : OwnM P w K mg base CX0 C.Bearing "pulls" ["self"] 1 (spPulls K C))
    (o_Bearing_sinks : OwnM P w K mg base CX0 C.Bearing "sinks" ["self"] 2 (spSinks K C)) :
    Own P w K mg base CX0 "judged" ["hoist"] 9 (spJudged K C) := by
  refine D.own sc_judged (fun vs H Q E h => ?_) (fun f cdv A outer s H vs Q E hr h => ?_)
  · obtain ⟨a, _, _, rfl, _⟩ := h
    rfl
  · obtain ⟨v, ws, tb, rfl, hA, k1, k2⟩ := h
    refine ⟨_, (pss_cons (ps_set (i := 1) sc_judged.nd rfl (Or.inl rfl) (pe_ownI o_Bearing___init__ (hr.mono (by decide)) rfl T.c_Bearing pass0 (pa_cons (pv 0) pa_nil)))
        (pss_cons (ps_if (pt_truth (pe_ownM0 o_Bearing_sinks T.l_Bearing (hr.mono (by decide)) pass0 (pv 1)) (fun _ => rfl))
        (pss_one (ps_ret (pe_tup (pa_cons pe_str (pa_cons (pe_ownM0 o_Bearing_motion T.l_Bearing (hr.mono (by decide)) pass0 (pv 1)) pa_nil)))))
        pss_nil)
        (pss_one (ps_ret (pe_tup (pa_cons pe_str (pa_cons (pe_ownM0 o_Bearing_pulls T.l_Bearing (hr.mono (by decide)) pass0 (pv 1)) pa_nil))))))), ?_⟩
    refine ⟨_, rfl, fun x dx nx nd ne => ?_⟩
    refine ⟨x, dx, v, ws, tb, H, rfl, upd_same, mkB_same nx nd ne, nx, hA, fun H2 S B F fin => ⟨rfl, ?_⟩⟩
    have ok := hA.ok
    obtain ⟨p, dx1, fs, ee, hp, hm⟩ := B.meth (m := "sinks") (by decide +kernel)
    refine ⟨_, rfl, p, dx1, fs, ee, hp, hm, _, ws, tb, H, S, rfl, B, (F.zsz ok cost0 (Nat.le_refl _)).mono (by decide), _, rfl, ?_⟩
    by_cases sk : S.z (tb.length + ws.length) < 0
    · refine ifP (decide_eq_true sk) ?_
      obtain ⟨p', dx', fs', ee', hp', hm'⟩ := B.meth (m := "motion") (by decide +kernel)
      refine ⟨_, rfl, p', dx', fs', ee', hp', hm', _, ws, tb, H, S, rfl, B, fun u H3 S3 N3 => ⟨by show 2 ≤ sizeLine; decide, fun t ht => ?_⟩⟩
      exact k1 S _ _ ((B.same.trans S3).trans (Same.upd ht)) (.tup (SqT.of upd_same) (.cons (.str _) (.cons ((N3.wider B.same).later (Same.upd ht)) .nil))) F fin sk
    · refine ifN (by rw [decide_eq_true_eq]; exact sk) ?_
      obtain ⟨p', dx', fs', ee', hp', hm'⟩ := B.meth (m := "pulls") (by decide +kernel)
      refine ⟨_, rfl, p', dx', fs', ee', hp', hm', _, ws, tb, H, S, rfl, B, F.toRws, fun u H3 S3 N3 => ⟨by show 2 ≤ sizeLine; decide, fun t ht => ?_⟩⟩
      exact k2 S _ _ ((B.same.trans S3).trans (Same.upd ht)) (.tup (SqT.of upd_same) (.cons (.str _) (.cons ((N3.wider B.same).later (Same.upd ht)) .nil))) F fin sk
def Prop0 (ws : List Int) (tb : List (List Int)) (S : Tb) : Prop := ∀ i, i < ws.length → tb.length ≤ S.b i → S.T i (tb.length + ws.length) = 0
def spLeave (K : PySem.W.Frag) (C : Ad) : Sp := fun vs H Q _ => ∃ (v : V) (ws : List Int) (tb : List (List Int)) (H0 : Hp) (S : Tb) (e : Nat → Rat) (q : Rat), vs = [v] ∧ BearAt K C H0 H v ws tb S ∧ Fine ws tb e q S ∧ Cost tb.length (tb.length + ws.length) e q ∧ Prop0 ws tb S ∧
  ∀ H' S', BearAt K C H0 H' v ws tb S' → Fine ws tb e q S' → Clean ws tb S' → Q .non H'
def spLessen (K : PySem.W.Frag) (C : Ad) : Sp := fun vs H Q _ => ∃ (v : V) (ws : List Int) (tb : List (List Int)) (H0 : Hp) (S : Tb) (e : Nat → Rat) (q : Rat) (r : Nat), vs = [v, .int r] ∧ BearAt K C H0 H v ws tb S ∧ Fine ws tb e q S ∧ Cost tb.length (tb.length + ws.length) e q ∧ Prop0 ws tb S ∧ r < tb.length ∧
  ∀ H' S', BearAt K C H0 H' v ws tb S' → Fine ws tb (unitE r) 0 S' → Clean ws tb S' → (∀ j, j < tb.length → 0 ≤ S'.z j) → Q .non H'
theorem Prop0.piv {ws : List Int} {tb : List (List Int)} {S : Tb} (h : Prop0 ws tb S) {r c : Nat} (hr : r < ws.length) (hc : c < tb.length) (hb : tb.length ≤ S.b r) : Prop0 ws tb (S.piv r c) := fun i hi hb' => by
  change tb.length ≤ (if i = r then c else S.b i) at hb'
  by_cases e : i = r
  · rw [if_pos e] at hb'
    omega
  · rw [if_neg e] at hb'
    show (if i = r then _ else S.T i (tb.length + ws.length) - S.T i c * (S.T r (tb.length + ws.length) / S.T r c)) = 0
    rw [if_neg e, h i hi hb', h r hr hb]
    grind
theorem fr_ne (a b : Rat) : (if true = true then !PyData.eqv (frD a) (frD b) else PyData.eqv (frD a) (frD b)) = decide (a ≠ b) := by
  by_cases h : a = b
  · subst h
    simp [eqv_self (plain_fr a)]
  · rw [eqv_not (plain_fr a) (plain_fr b) (fun e => h (frD_inj.mp e))]
    simp [h]
seal L2.PA L2.PE L2.PT L2.PS L2.PSs L2.PG L2.PI L2.PO L2.PW
theorem sc_Bearing_leave_props : FnScope ["self", "place", "rope"] ["self"] (defScope s_Bearing_leave_props) := ⟨rfl, rfl, rfl, by decide +kernel, rfl, by decide +kernel, by decide +kernel⟩
theorem ok_Bearing_leave_props {P : Program} {w : World} {K : PySem.W.Frag} {mg : Str → Option Value} {base : Heap} {C : Ad} (T : Txt K mg C) (D : DefM K C.Bearing "leave_props" "Bearing.leave_props" s_Bearing_leave_props ["self"])
    (o_Bearing_take_place : OwnM P w K mg base CX0 C.Bearing "take_place" ["self", "place", "rope"] 5 (spTake K C))
    (o_first_true : Own P w K mg base CX0 "first_true" ["answers"] 1 (spFirstTrue K)) :
    OwnM P w K mg base CX0 C.Bearing "leave_props" ["self"] 6 (spLeave K C) := by
  refine D.own sc_Bearing_leave_props (fun vs H Q E h => ?_) (fun f cdv A outer s H vs Q E hr h => ?_)
  · obtain ⟨a, _, _, _, _, _, _, rfl, _⟩ := h
    rfl
  · obtain ⟨v, ws, tb, H0, S, e, q, rfl, B, F, co, p0, k⟩ := h
    refine ⟨_, (pss_one (ps_for PassesOwn.never rfl (pi_range1 rfl T.b_range (pa_cons (pe_callB (call_lenK (K := K) rfl) rfl T.b_len bt_len (pa_cons (pe_fldK (K := K) rfl (pv 0) rfl) pa_nil)) pa_nil)) (pg_name (i := 1) sc_Bearing_leave_props.nd rfl (Or.inl rfl))
        (pss_cons (ps_set (i := 2) sc_Bearing_leave_props.nd rfl (Or.inl rfl) (pe_own o_first_true (hr.mono (by decide)) rfl pass0 (pa_cons (pe_comp (tg := ["cell"]) (cap := []) (caps := []) (CompSc.of_ok (by kernel_rfl)) rfl (gk_name (by decide)) (pi_listK (K := K) rfl (pe_slice (sl_listK (K := K) rfl) (pe_ix (ix_K (K := K) rfl) (pe_fldK (K := K) rfl (pv 0) rfl) (pv 1) (fun _ _ => rfl)) po_none (po_some (pe_fldK (K := K) rfl (pv 0) rfl)))) (fun _ _ _ _ _ => (pg_name (i := 0) (show ((["cell"] : List Str) ++ ([] : List Str)).Nodup by decide +kernel) rfl (Or.inl rfl))) (fun _ _ _ _ _ => pts_nil) (fun _ _ _ _ _ => (pe_cmpR (op_neK (K := K) rfl hr) (pv 0) (pe_glob (v := .ref C.NOUGHT) rfl T.g_NOUGHT rfl) (nomark _)))) pa_nil)))
        (pss_one (ps_if (PW.pt (pw_and (pt_cmpR op_ge (pe_ix (ix_K (K := K) rfl) (pe_fldK (K := K) rfl (pv 0) rfl) (pv 1) (fun _ _ => rfl)) (pe_fldK (K := K) rfl (pv 0) rfl) (nomark _)) (pw_and1 (pt_cmpR op_notN (pv 2) pe_non (nomark _)))))
        (pss_one (ps_expr (pe_ownM o_Bearing_take_place T.l_Bearing (hr.mono (by decide)) pass0 (pv 0) (pa_cons (pv 1) (pa_cons (pv 2) pa_nil)))))
        pss_nil))))), ?_⟩
    have ok := B.ok
    have n4 := ok.n4
    have r5 := ok.r5
    have sl : (100 : Nat) ≤ sizeLine := by decide
    have szT : ∀ {S' : Tb}, Fine ws tb e q S' → SzT ws tb S' := fun F' i j hi hj => (F'.sz ok hi hj).mono (by decide)
    obtain ⟨p, dx, a, b, w, rfl, h1, h2, h3, h4⟩ := B.rd
    refine ⟨_, rfl, p, _, dx, _, _, rfl, h1, T.l_Bearing, T.n_rows, bf_row _ _ _ _, _, _, rfl, .inl h2, _, rfl, by omega, by simp; omega, ?_⟩
    rw [Int.toNat_natCast, List.length_map, List.length_range]
    refine for_range (fun i σ H2 => ∃ S' z1 z2, BearAt K C H0 H2 (.ref p) ws tb S' ∧ Fine ws tb e q S' ∧ Prop0 ws tb S' ∧ (∀ k, k < i → tb.length ≤ S'.b k → ∀ j, j < tb.length → S'.T k j = 0) ∧ σ = [some (.ref p), z1, z2])
      ⟨S, _, _, B, F, p0, fun k hk => by omega, rfl⟩ ?_ ?_
    · rintro i σ H2 hi ⟨S', z1, z2, B2, F2, P2, cl, rfl⟩
      obtain ⟨p', dx', a', b', w', e', g1, g2, g3, g4⟩ := B2.rd
      cases e'
      refine ⟨_, rfl, p, _, dx', _, _, rfl, g1, T.l_Bearing, T.n_rows, bf_row _ _ _ _, _, rfl, _, _, _, .inl g2, rfl, by rw [Int.zero_add]; exact atI_nat (row_atD hi), fun u hu => ?_⟩
      obtain ⟨ua, ux, rfl, uq, ud⟩ := hu.oflst
      have lx : ux.length = tb.length + ws.length + 1 := by rw [ud.len, List.length_map, frRow_len]
      refine ⟨_, rfl, p, _, dx', _, _, rfl, g1, T.l_Bearing, T.n_ropes, bf_rop _ _ _ _, _, rfl, ua, ux, rfl, uq, fun l hl => ?_⟩
      rw [cut_to (by omega)]
      have Sl := Same.upd hl (o := .lst (ux.take tb.length))
      have hq : SqL K (upd H2 l (.lst (ux.take tb.length))) l (ux.take tb.length) := SqL.of upd_same
      refine ⟨l, rfl, ⟨_, hq⟩, fun l2 hl2 => ?_⟩
      refine comp_listD (K := K) (ds := (List.range tb.length).map fun j => .bool (decide (S'.T i j ≠ 0))) hq (by rw [List.length_take]; simp; omega) hl2 (by rw [List.length_take]; omega) ?_ ?_
      · intro j x H3 d R ex ed S3 kk
        rw [List.getElem?_map] at ed
        have hj : j < tb.length := by
          have := (List.getElem?_eq_some_iff.mp ex).1
          rw [List.length_take] at this
          omega
        rw [List.getElem?_range hj] at ed
        cases ed
        rw [List.getElem?_take_of_lt hj] at ex
        obtain ⟨d, e1, hx⟩ := ud.at ex
        obtain ⟨_, rfl⟩ := frD_at e1
        refine ⟨_, rfl, _, _, (hx.same Sl).same S3, fr_has (q := 0) (T.k_NOUGHT _), (lays_fr _).lay, (lays_fr _).lay, Nat.le_trans (lays_fr _).dep (by decide), ?_⟩
        rw [fr_ne]
        exact kk _ _ (Same.refl _) (.bl _)
      · intro H3 S3 N3
        have Sl3 := Sl.trans S3
        refine ⟨_, tb.length, fun j => decide (S'.T i j ≠ 0), rfl, by omega, NewD.has _ N3, fun H4 c s hc hg hb => ?_, fun H4 s hb => ?_⟩
        · have hp : S'.T i c ≠ 0 := of_decide_eq_true hg
          have S4 := Sl3.trans s
          have B4 := B2.later S4
          have g1' := S4 _ _ g1
          have g3' := g3.same S4
          have eb : ((List.range ws.length).map fun i => PyData.int (S'.b i : Nat))[i]? = some (.int (S'.b i : Nat)) := by rw [List.getElem?_map, List.getElem?_range hi]; rfl
          refine ⟨_, rfl, p, _, dx', _, _, rfl, g1', T.l_Bearing, T.n_bearers, bf_bea _ _ _ _, _, rfl, _, _, _, .inl g3', rfl, by rw [Int.zero_add]; exact atI_nat eb, fun u hu => ?_⟩
          rw [hu.ofint]
          refine ⟨_, rfl, p, _, dx', _, _, rfl, g1', T.l_Bearing, T.n_ropes, bf_rop _ _ _ _, _, _, rfl, rfl, _, rfl, ?_⟩
          by_cases hbn : tb.length ≤ S'.b i
          · refine ifP (by simp; omega) ?_
            refine ⟨_, rfl, rfl, _, rfl, ifP (by simp) ?_⟩
            obtain ⟨p5, dx5, fs, ee, hp5, hm⟩ := B4.meth (m := "take_place") (by decide +kernel)
            refine ⟨_, rfl, p5, dx5, fs, ee, hp5, hm, _, rfl, _, rfl, _, ws, tb, H0, S', i, c, by rw [Int.zero_add]; rfl, B4, szT F2, fun j hj => (F2.zsz ok co hj).mono (by decide), hi, hc, hp, fun H5 B5 => ?_⟩
            refine ⟨S'.piv i c, _, _, B5, F2.piv ok hi hc hp (P2 i hi hbn), P2.piv hi hc hbn, fun k hk hbk j hj => ?_, rfl⟩
            change tb.length ≤ (if k = i then c else S'.b k) at hbk
            by_cases ek : k = i
            · rw [if_pos ek] at hbk
              omega
            · rw [if_neg ek] at hbk
              show (if k = i then _ else S'.T k j - S'.T k c * (S'.T i j / S'.T i c)) = 0
              rw [if_neg ek, cl k (by omega) hbk j hj, cl k (by omega) hbk c hc]
              grind
          · refine ifN (by simp; omega) ?_
            refine ⟨S', _, _, B4, F2, P2, fun k hk hbk => ?_, rfl⟩
            by_cases ek : k = i
            · subst ek
              exact absurd hbk hbn
            · exact cl k (by omega) hbk
        · have S4 := Sl3.trans s
          have B4 := B2.later S4
          have g1' := S4 _ _ g1
          have g3' := g3.same S4
          have eb : ((List.range ws.length).map fun i => PyData.int (S'.b i : Nat))[i]? = some (.int (S'.b i : Nat)) := by rw [List.getElem?_map, List.getElem?_range hi]; rfl
          have fin : ∀ k, k < i + 1 → tb.length ≤ S'.b k → ∀ j, j < tb.length → S'.T k j = 0 := fun k hk hbk j hj => by
            by_cases ek : k = i
            · subst ek
              have := of_decide_eq_false (hb j hj)
              exact Classical.not_not.mp this
            · exact cl k (by omega) hbk j hj
          refine ⟨_, rfl, p, _, dx', _, _, rfl, g1', T.l_Bearing, T.n_bearers, bf_bea _ _ _ _, _, rfl, _, _, _, .inl g3', rfl, by rw [Int.zero_add]; exact atI_nat eb, fun u hu => ?_⟩
          rw [hu.ofint]
          refine ⟨_, rfl, p, _, dx', _, _, rfl, g1', T.l_Bearing, T.n_ropes, bf_rop _ _ _ _, _, _, rfl, rfl, _, rfl, ?_⟩
          by_cases hbn : tb.length ≤ S'.b i
          · refine ifP (by simp; omega) ?_
            refine ⟨_, rfl, rfl, _, rfl, ifN (by decide) ?_⟩
            exact ⟨S', _, _, B4, F2, P2, fin, rfl⟩
          · refine ifN (by simp; omega) ?_
            exact ⟨S', _, _, B4, F2, P2, fin, rfl⟩
    · rintro σ H2 ⟨S', z1, z2, B2, F2, P2, cl, rfl⟩
      exact k _ _ B2 F2 fun i hi hb => ⟨P2 i hi hb, cl i hi hb⟩
unseal L2.PA L2.PE L2.PT L2.PS L2.PSs L2.PG L2.PI L2.PO L2.PW
def wayK (S : Tb) (r i j : Nat) : Rat := unitE r j - sumN i fun k => unitE r (S.b k) * S.T k j
theorem wayK_at {ws : List Int} {tb : List (List Int)} {e : Nat → Rat} {q : Rat} {S : Tb} (F : Fine ws tb e q S) {r i : Nat} (hi : i < ws.length) : wayK S r i (S.b i) = unitE r (S.b i) := by
  unfold wayK
  rw [sumN_congr (g := fun _ => 0) fun k hk => by rw [F.unit k i (by omega) hi, if_neg (by omega), Rat.mul_zero], sumN_zero]
  grind
theorem wayK_step (S : Tb) (r i j : Nat) : wayK S r i j - unitE r (S.b i) * S.T i j = wayK S r (i + 1) j := by
  unfold wayK
  rw [sumN]
  grind
theorem unitE_sz (r j : Nat) : RSz 46 (unitE r j) := by
  unfold unitE
  split
  · exact RSz.int (i := 1) (by unfold Sz; decide)
  · exact .zero
theorem wayK_sz {ws : List Int} {tb : List (List Int)} {e : Nat → Rat} {q : Rat} {S : Tb} (F : Fine ws tb e q S) (ok : HOK ws tb) (r : Nat) {i j : Nat} (hi : i ≤ ws.length) (hj : j ≤ tb.length + ws.length) : RSz 300 (wayK S r i j) := by
  have b := RSz.sumN (m := 46) i (fun k => unitE r (S.b k) * S.T k j) fun k hk => by
    have t := F.sz ok (show k < ws.length by omega) hj
    show RSz 46 (unitE r (S.b k) * S.T k j)
    unfold unitE
    split
    · rw [Rat.one_mul]; exact t
    · rw [Rat.zero_mul]; exact .zero
  have h4 := ok.n4
  have : i * (46 + 1) ≤ 4 * 47 := Nat.mul_le_mul_right _ (by omega)
  exact ((unitE_sz r j).sub b).mono (by omega)
seal L2.PA L2.PE L2.PT L2.PS L2.PSs L2.PG L2.PI L2.PO L2.PW
theorem sc_Bearing_lessen : FnScope ["self", "rope", "way", "bearer", "row"] ["self", "rope"] (defScope s_Bearing_lessen) := ⟨rfl, rfl, rfl, by decide +kernel, rfl, by decide +kernel, by decide +kernel⟩
theorem ok_Bearing_lessen {P : Program} {w : World} {K : PySem.W.Frag} {mg : Str → Option Value} {base : Heap} {C : Ad} (T : Txt K mg C) (D : DefM K C.Bearing "lessen" "Bearing.lessen" s_Bearing_lessen ["self", "rope"])
    (o_Bearing_leave_props : OwnM P w K mg base CX0 C.Bearing "leave_props" ["self"] 6 (spLeave K C))
    (o_Bearing_settle : OwnM P w K mg base CX0 C.Bearing "settle" ["self"] 6 (spSettle K C))
    (o_cleared : Own P w K mg base CX0 "cleared" ["row", "other", "column"] 4 (spCleared K)) :
    OwnM P w K mg base CX0 C.Bearing "lessen" ["self", "rope"] 7 (spLessen K C) := by
  refine D.own sc_Bearing_lessen (fun vs H Q E h => ?_) (fun f cdv A outer s H vs Q E hr h => ?_)
  · obtain ⟨a, _, _, _, _, _, _, _, rfl, _⟩ := h
    rfl
  · obtain ⟨v, ws, tb, H0, S0, e, q, r, rfl, B0, F0, co, p0, hr', k⟩ := h
    refine ⟨_, (pss_cons (ps_expr (pe_ownM0 o_Bearing_leave_props T.l_Bearing (hr.mono (by decide)) pass0 (pv 0)))
        (pss_cons (ps_set (i := 2) sc_Bearing_lessen.nd rfl (Or.inl rfl) (pe_op op_rep (pe_lst (pa_cons (pe_glob (v := .ref C.NOUGHT) rfl T.g_NOUGHT rfl) pa_nil)) (pe_callB (call_lenK (K := K) rfl) rfl T.b_len bt_len (pa_cons (pe_fldK (K := K) rfl (pv 0) rfl) pa_nil))))
        (pss_cons (ps_asg (pe_glob (v := .ref C.ONE) rfl T.g_ONE rfl) (pg_sub (pv 2) (pv 1) set_list))
        (pss_cons (ps_for PassesOwn.never rfl (pi_zipK (K := K) rfl rfl T.b_zip (pa_cons (pe_fldK (K := K) rfl (pv 0) rfl) (pa_cons (pe_fldK (K := K) rfl (pv 0) rfl) pa_nil))) (pg_tupK (K := K) rfl rfl (pgs_cons (pg_name (i := 3) sc_Bearing_lessen.nd rfl (Or.inl rfl)) (pgs_cons (pg_name (i := 4) sc_Bearing_lessen.nd rfl (Or.inl rfl)) pgs_nil)))
        (pss_one (ps_set (i := 2) sc_Bearing_lessen.nd rfl (Or.inl rfl) (pe_own o_cleared (hr.mono (by decide)) rfl pass0 (pa_cons (pv 2) (pa_cons (pv 4) (pa_cons (pv 3) pa_nil)))))))
        (pss_cons (ps_fldK (K := K) rfl (pv 0) (pv 2) rfl)
        (pss_one (ps_expr (pe_ownM0 o_Bearing_settle T.l_Bearing (hr.mono (by decide)) pass0 (pv 0))))))))), ?_⟩
    have ok := B0.ok
    have n4 := ok.n4
    have r5 := ok.r5
    have sl : (100 : Nat) ≤ sizeLine := by decide
    obtain ⟨p, dx, fs, ee, hp, hm⟩ := B0.meth (m := "leave_props") (by decide +kernel)
    refine ⟨_, rfl, p, dx, fs, ee, hp, hm, v, ws, tb, H0, S0, e, q, rfl, B0, F0, co, p0, fun H1 S B F cl => ?_⟩
    clear hp hm ee
    obtain ⟨⟨p, dx, a, b, w, rfl, n1, h1, n2, h2, h3, h4⟩, s0, _⟩ := B
    have ha := NewD.has _ h3
    have hw := NewD.has _ h4
    have bp : b ≠ p := ne_ins_lst h1 h2
    obtain ⟨_, xa, ea, qa, da⟩ := ha.oflst
    cases ea
    have la : xa.length = ws.length := by rw [da.len, List.length_map, List.length_range]
    refine ⟨by show 1 ≤ sizeLine; decide, fun t ht => ?_⟩
    have St := Same.upd ht (o := .lst [V.ref C.NOUGHT])
    refine ⟨_, rfl, p, _, dx, _, _, rfl, St _ _ h1, T.l_Bearing, T.n_way, bf_way _ _ _ _, _, _, rfl, .inl (hw.same St), t, _, _, rfl, rfl, upd_same, by omega, by rw [List.length_map, frRow_len]; omega, by rw [List.length_map, frRow_len]; show 1 * _ ≤ sizeLine; omega, fun l hl => ?_⟩
    rw [List.length_map, frRow_len, Int.toNat_natCast, flat_rep]
    have hl0 : H1 l = none := St.free hl
    refine ⟨_, rfl, _, rfl, l, _, _, r, rfl, rfl, upd_same, ixN_nat (by rw [List.length_replicate]; omega), ?_⟩
    have S1 : Same H1 (upd (upd (upd H1 t (.lst [V.ref C.NOUGHT])) l (.lst (List.replicate (tb.length + ws.length + 1) (V.ref C.NOUGHT)))) l (.lst ((List.replicate (tb.length + ws.length + 1) (V.ref C.NOUGHT)).set r (.ref C.ONE)))) := same_write (St.trans (Same.upd hl)) hl0
    have N1 : NewD K H1 (upd (upd (upd H1 t (.lst [V.ref C.NOUGHT])) l (.lst (List.replicate (tb.length + ws.length + 1) (V.ref C.NOUGHT)))) l (.lst ((List.replicate (tb.length + ws.length + 1) (V.ref C.NOUGHT)).set r (.ref C.ONE)))) (.ref l) (frsD (frRow (tb.length + ws.length) (wayK S r 0))) := by
      refine .lst hl0 upd_same ?_
      have fr : flatDs (List.replicate (tb.length + ws.length + 1) (frD 0)) = true := by
        have := flatDs_map frD flat_fr1 (List.replicate (tb.length + ws.length + 1) 0)
        rwa [List.map_replicate] at this
      have hh := NewDs.set (H := H1) r (NewDs.flat _ fr (hasRep (tb.length + ws.length + 1) (fr_has (K := K) (q := 0) (T.k_NOUGHT (upd (upd (upd H1 t (.lst [V.ref C.NOUGHT])) l (.lst (List.replicate (tb.length + ws.length + 1) (V.ref C.NOUGHT)))) l (.lst ((List.replicate (tb.length + ws.length + 1) (V.ref C.NOUGHT)).set r (.ref C.ONE)))))))) (NewD.flat _ (flat_fr1 1) (fr_has (K := K) (q := 1) (T.k_ONE _)))
      refine cast ?_ hh
      congr 1
      refine List.ext_getElem? fun j => ?_
      rw [List.getElem?_set, List.getElem?_map]
      by_cases hj : j ≤ tb.length + ws.length
      · rw [frRow_get hj]
        show _ = some (frD (wayK S r 0 j))
        have ew : wayK S r 0 j = unitE r j := by unfold wayK; rw [sumN]; grind
        rw [ew]
        by_cases ej : r = j
        · rw [if_pos ej, if_pos (by rw [List.length_replicate]; omega)]
          unfold unitE
          rw [if_pos ej.symm]
        · rw [if_neg ej, List.getElem?_replicate, if_pos (by omega)]
          unfold unitE
          rw [if_neg (fun z => ej z.symm)]
      · rw [if_neg (by omega), List.getElem?_eq_none (by rw [List.length_replicate]; omega), List.getElem?_eq_none (by rw [frRow_len]; omega)]
        rfl
    generalize upd (upd (upd H1 t (.lst [V.ref C.NOUGHT])) l (.lst (List.replicate (tb.length + ws.length + 1) (V.ref C.NOUGHT)))) l (.lst ((List.replicate (tb.length + ws.length + 1) (V.ref C.NOUGHT)).set r (.ref C.ONE))) = H2 at *
    have qb : SqL K H1 b ((List.range ws.length).map fun i => V.int (S.b i : Nat)) := SqL.of h2
    refine ⟨_, rfl, p, _, dx, _, _, rfl, S1 _ _ h1, T.l_Bearing, T.n_bearers, bf_bea _ _ _ _, _, rfl, p, _, dx, _, _, rfl, S1 _ _ h1, T.l_Bearing, T.n_rows, bf_row _ _ _ _, b, a, rfl, ⟨_, S1.seq qb⟩, ⟨_, S1.seq qa⟩, ?_⟩
    refine for_zip (K := K) (a := b) (b := a) (xs := (List.range ws.length).map fun i => V.int (S.b i : Nat)) (ys := xa) (fun i σ H3 => ∃ y z1 z2, Same H1 H3 ∧ NewD K H1 H3 y (frsD (frRow (tb.length + ws.length) (wayK S r i))) ∧ σ = [some (.ref p), some (.int r), some y, z1, z2]) ⟨_, _, _, S1, N1, rfl⟩ (fun i σ H3 _ ⟨_, _, _, s, _⟩ => ⟨s.seq qb, s.seq qa⟩) ?_ ?_
    · rintro i x y t2 σ H3 hx hy ht2 ⟨yv, z1, z2, s3, N3, rfl⟩
      have hi : i < ws.length := by
        have := (List.getElem?_eq_some_iff.mp hx).1
        simpa using this
      rw [List.getElem?_map, List.getElem?_range hi] at hx
      cases hx
      obtain ⟨d2, e2, hy1⟩ := da.at hy
      rw [row_atD hi] at e2
      cases e2
      have S2 := Same.upd ht2 (o := .tup [V.int (S.b i : Nat), y])
      have s32 := s3.trans S2
      refine ⟨t2, _, rfl, SqT.of upd_same, rfl, _, _, rfl, _, _, rfl, rfl, ?_⟩
      have hb := F.bas i hi
      refine ⟨_, rfl, _, rfl, _, rfl, _, _, tb.length + ws.length, S.b i, wayK S r i, S.T i, rfl, (NewD.has _ N3).same S2, hy1.same s32, by omega, by omega, fun j hj => (wayK_sz F ok r (by omega) hj).mono (by decide), fun j hj => (F.sz ok hi hj).mono (by decide), fun u H4 S4 N4 => ?_⟩
      refine ⟨_, _, _, s32.trans S4, ?_, rfl⟩
      have N4' := NewD.wider s32 N4
      rw [frRow_congr (g := wayK S r (i + 1)) fun j _ => by rw [wayK_at F hi]; exact wayK_step S r i j] at N4'
      exact N4'
    · rintro σ H3 ⟨yv, z1, z2, s3, N3, rfl⟩
      rw [List.length_map, List.length_range, la, Nat.min_self] at N3
      obtain ⟨w', xw, rfl, nw, qw, dw⟩ := N3.oflst
      have h13 := s3 _ _ h1
      have h23 := s3 _ _ h2
      refine ⟨_, rfl, _, rfl, p, _, dx, _, rfl, h13, T.l_Bearing, T.n_way, (by show 4 < 1000; decide), ?_⟩
      rw [bf_setW]
      have BB : BearAt K C H0 (upd H3 p (.ins C.Bearing dx (bflds tb.length a b w'))) (.ref p) ws tb (S.less ws r) := by
        refine ⟨⟨p, dx, a, b, w', rfl, n1, upd_same, n2, ?_, ?_, ?_⟩, same_write (s0.trans s3) n1, ok⟩
        · rw [upd_ne bp]; exact h23
        · exact NewD.ins h13 (NewD.later s3 h3)
        · exact NewD.ins h13 (NewD.apart s0 h2 N3)
      obtain ⟨p', dp, fp, ep, hpp, hmm⟩ := BB.meth (m := "settle") (by decide +kernel)
      exact ⟨_, rfl, p', dp, fp, ep, hpp, hmm, _, ws, tb, H0, S.less ws r, _, _, rfl, BB, F.less hr', cost1 hr', fun H9 S' B' F' c' fin => k _ _ B' F' (c' cl) fin⟩
unseal L2.PA L2.PE L2.PT L2.PS L2.PSs L2.PG L2.PI L2.PO L2.PW
def spStillB (K : PySem.W.Frag) (C : Ad) : Sp := fun vs H Q E => ∃ (v : V) (ws : List Int) (tb : List (List Int)), vs = [v] ∧ HoistAt K C H v ws tb ∧
  (∀ S H' u, BearAt K C H H' u ws tb S → Fine ws tb (fun _ => 0) 1 S → (∀ j, j < tb.length → 0 ≤ S.z j) → ¬ S.z (tb.length + ws.length) < 0 → Q u H') ∧
  (∀ S H', Same H H' → Fine ws tb (fun _ => 0) 1 S → (∀ j, j < tb.length → 0 ≤ S.z j) → S.z (tb.length + ws.length) < 0 → E (.ref C.Sinks) none H')
seal L2.PA L2.PE L2.PT L2.PS L2.PSs L2.PG L2.PI L2.PO L2.PW
theorem sc_still_bearing : FnScope ["hoist", "bearing"] ["hoist"] (defScope s_still_bearing) := ⟨rfl, rfl, rfl, by decide +kernel, rfl, by decide +kernel, by decide +kernel⟩
theorem ok_still_bearing {P : Program} {w : World} {K : PySem.W.Frag} {mg : Str → Option Value} {base : Heap} {C : Ad} (T : Txt K mg C) (D : Def K mg "still_bearing" "still_bearing" s_still_bearing ["hoist"])
    (o_Bearing___init__ : OwnI P w K mg base CX0 C.Bearing ["self", "hoist"] 7 (spBearI K C))
    (o_Bearing_sinks : OwnM P w K mg base CX0 C.Bearing "sinks" ["self"] 2 (spSinks K C)) :
    Own P w K mg base (CXE P w) "still_bearing" ["hoist"] 9 (spStillB K C) := by
  refine D.ownE sc_still_bearing (fun vs H Q E h => ?_) (fun f cdv A outer s H vs Q E hr h => ?_)
  · obtain ⟨a, _, _, rfl, _⟩ := h
    rfl
  · obtain ⟨v, ws, tb, rfl, hA, k1, k2⟩ := h
    refine ⟨_, (pss_cons (ps_set (i := 1) sc_still_bearing.nd rfl (Or.inl rfl) (pe_ownI o_Bearing___init__ (hr.mono (by decide)) rfl T.c_Bearing pass0 (pa_cons (pv 0) pa_nil)))
        (pss_cons (ps_if (pt_truth (pe_ownM0 o_Bearing_sinks T.l_Bearing (hr.mono (by decide)) pass0 (pv 1)) (fun _ => rfl))
        (pss_one (ps_raise T.e_Sinks T.c_Sinks rfl (pa_cons pe_str pa_nil)))
        pss_nil)
        (pss_one (ps_ret (pv 1))))), ?_⟩
    refine ⟨_, rfl, fun x dx nx nd ne => ?_⟩
    refine ⟨x, dx, v, ws, tb, H, rfl, upd_same, mkB_same nx nd ne, nx, hA, fun H2 S B F fin => ⟨rfl, ?_⟩⟩
    have ok := hA.ok
    obtain ⟨p, dx1, fs, ee, hp, hm⟩ := B.meth (m := "sinks") (by decide +kernel)
    refine ⟨_, rfl, p, dx1, fs, ee, hp, hm, _, ws, tb, H, S, rfl, B, (F.zsz ok cost0 (Nat.le_refl _)).mono (by decide), _, rfl, ?_⟩
    by_cases sk : S.z (tb.length + ws.length) < 0
    · refine ifP (decide_eq_true sk) ?_
      exact ⟨by show 1 ≤ sizeLine; decide, k2 S _ B.same F fin sk⟩
    · refine ifN (by rw [decide_eq_true_eq]; exact sk) ?_
      exact ⟨_, rfl, k1 S _ _ B F fin sk⟩
unseal L2.PA L2.PE L2.PT L2.PS L2.PSs L2.PG L2.PI L2.PO L2.PW
def LD (ws : List Int) (tb : List (List Int)) (r : Nat) (S : Tb) : Prop := Fine ws tb (unitE r) 0 S ∧ Clean ws tb S ∧ ∀ j, j < tb.length → 0 ≤ S.z j
def lpD (ws : List Int) (tb : List (List Int)) (S : Tb) : PyData := .tuple [frsD ((List.range tb.length).map (xval ws.length tb.length S)), frsD ((List.range ws.length).map fun k => S.z (tb.length + k))]
def spLeast (K : PySem.W.Frag) (C : Ad) : Sp := fun vs H Q E => ∃ (v : V) (ws : List Int) (tb : List (List Int)) (r : Nat), vs = [v, .int r] ∧ HoistAt K C H v ws tb ∧ r < tb.length ∧
  (∀ S0 S H' u, Fine ws tb (fun _ => 0) 1 S0 → ¬ S0.z (tb.length + ws.length) < 0 → Same H H' → LD ws tb r S → NewD K H H' u (lpD ws tb S) → Q u H') ∧
  (∀ S H', Same H H' → Fine ws tb (fun _ => 0) 1 S → (∀ j, j < tb.length → 0 ≤ S.z j) → S.z (tb.length + ws.length) < 0 → E (.ref C.Sinks) none H')
seal L2.PA L2.PE L2.PT L2.PS L2.PSs L2.PG L2.PI L2.PO L2.PW
theorem sc_least_pull : FnScope ["hoist", "rope", "bearing"] ["hoist", "rope"] (defScope s_least_pull) := ⟨rfl, rfl, rfl, by decide +kernel, rfl, by decide +kernel, by decide +kernel⟩
theorem ok_least_pull {P : Program} {w : World} {K : PySem.W.Frag} {mg : Str → Option Value} {base : Heap} {C : Ad} (T : Txt K mg C) (D : Def K mg "least_pull" "least_pull" s_least_pull ["hoist", "rope"])
    (o_Bearing_lessen : OwnM P w K mg base CX0 C.Bearing "lessen" ["self", "rope"] 7 (spLessen K C))
    (o_Bearing_motion : OwnM P w K mg base CX0 C.Bearing "motion" ["self"] 1 (spMotion K C))
    (o_Bearing_pulls : OwnM P w K mg base CX0 C.Bearing "pulls" ["self"] 1 (spPulls K C))
    (o_check_rope : Own P w K mg base (CXE P w) "check_rope" ["hoist", "rope"] 2 (spCheckRope K C))
    (o_still_bearing : Own P w K mg base (CXE P w) "still_bearing" ["hoist"] 9 (spStillB K C)) :
    Own P w K mg base (CXE P w) "least_pull" ["hoist", "rope"] 10 (spLeast K C) := by
  refine D.ownE sc_least_pull (fun vs H Q E h => ?_) (fun f cdv A outer s H vs Q E hr h => ?_)
  · obtain ⟨a, _, _, _, rfl, _⟩ := h
    rfl
  · obtain ⟨v, ws, tb, r, rfl, hA, hr', k1, k2⟩ := h
    refine ⟨_, (pss_cons (ps_expr (pe_own o_check_rope (hr.mono (by decide)) rfl passE (pa_cons (pv 0) (pa_cons (pv 1) pa_nil))))
        (pss_cons (ps_set (i := 2) sc_least_pull.nd rfl (Or.inl rfl) (pe_own o_still_bearing (hr.mono (by decide)) rfl passE (pa_cons (pv 0) pa_nil)))
        (pss_cons (ps_expr (pe_ownM o_Bearing_lessen T.l_Bearing (hr.mono (by decide)) pass0 (pv 2) (pa_cons (pv 1) pa_nil)))
        (pss_one (ps_ret (pe_tup (pa_cons (pe_ownM0 o_Bearing_pulls T.l_Bearing (hr.mono (by decide)) pass0 (pv 2)) (pa_cons (pe_ownM0 o_Bearing_motion T.l_Bearing (hr.mono (by decide)) pass0 (pv 2)) pa_nil)))))))), ?_⟩
    have ok := hA.ok
    have r5 := ok.r5
    refine ⟨_, rfl, _, rfl, v, ws, tb, (r : Int), rfl, hA, small_nat (by omega), fun _ => ?_, fun z => absurd ⟨by omega, by omega⟩ z⟩
    refine ⟨_, rfl, v, ws, tb, rfl, hA, fun S0 H1 u B0 F0 fin0 st0 => ?_, k2⟩
    obtain ⟨p, dx1, fs, ee, hp, hm⟩ := B0.meth (m := "lessen") (by decide +kernel)
    refine ⟨_, rfl, p, dx1, fs, ee, hp, hm, _, rfl, u, ws, tb, H, S0, _, _, r, rfl, B0, F0, cost0, F0.props0 st0, hr', fun H2 S B F cl fin => ?_⟩
    obtain ⟨p, dx1, fs, ee, hp, hm⟩ := B.meth (m := "pulls") (by decide +kernel)
    refine ⟨_, rfl, p, dx1, fs, ee, hp, hm, _, ws, tb, H, S, rfl, B, F.toRws, fun u1 H3 S3 N3 => ?_⟩
    have B3 := B.later S3
    obtain ⟨p, dx1, fs, ee, hp, hm⟩ := B3.meth (m := "motion") (by decide +kernel)
    refine ⟨_, rfl, p, dx1, fs, ee, hp, hm, _, ws, tb, H, S, rfl, B3, fun u2 H4 S4 N4 => ⟨by show 2 ≤ sizeLine; decide, fun t ht => ?_⟩⟩
    exact k1 S0 S _ _ F0 st0 ((B3.same.trans S4).trans (Same.upd ht)) ⟨F, cl, fin⟩ (.tup (SqT.of upd_same) (.cons (((N3.wider B.same).later S4).later (Same.upd ht)) (.cons ((N4.wider B3.same).later (Same.upd ht)) .nil)))
unseal L2.PA L2.PE L2.PT L2.PS L2.PSs L2.PG L2.PI L2.PO L2.PW
def spCell (K : PySem.W.Frag) : Sp := fun vs H Q _ => ∃ (v : V) (ns : List Int) (k : Nat), vs = [v, .int k] ∧ HasD K H v (intsD ns) ∧ Q (.int (ns.getD k 0)) H
def spWhole : Sp := fun vs H Q _ => ∃ i : Int, vs = [.int i] ∧ Q (.bl true) H
def spLawPlus (K : PySem.W.Frag) : Sp := fun vs H Q _ => ∃ (v u : V) (p q : Int × Int), vs = [v, u] ∧ HasD K H v (pairD p) ∧ HasD K H u (pairD q) ∧ 0 < p.2 ∧ 0 < q.2 ∧ Sz 4000 p.1 ∧ Sz 4000 p.2 ∧ Sz 4000 q.1 ∧ Sz 4000 q.2 ∧ Res K H Q (frD (Rat.divInt p.1 p.2 + Rat.divInt q.1 q.2))
def spPart (K : PySem.W.Frag) : Sp := fun vs H Q _ => ∃ (v : V) (q : Rat), vs = [v] ∧ HasD K H v (frD q) ∧ RSz 9000 q ∧ ∀ H', Same H H' → Q (.bl true) H'
def spParts (K : PySem.W.Frag) : Sp := fun vs H Q _ => ∃ (v : V) (qs : List Rat) (n : Int), vs = [v, .int n] ∧ HasD K H v (frsD qs) ∧ n = qs.length ∧ qs.length ≤ 100 ∧ (∀ q ∈ qs, RSz 9000 q) ∧ ∀ H', Same H H' → Q (.bl true) H'
structure TOK (n : Nat) (tb : List (List Int)) : Prop where
  rl : ∀ row ∈ tb, row.length = n
  re : ∀ row ∈ tb, ∀ x ∈ row, x.natAbs ≤ 9
theorem TOK.hok {ws : List Int} {tb : List (List Int)} (t : TOK ws.length tb) (w : WOK ws) (h : tb.length ≤ 5) : HOK ws tb := ⟨w, h, t.rl, t.re⟩
theorem HOK.tok {ws : List Int} {tb : List (List Int)} (h : HOK ws tb) : TOK ws.length tb := ⟨h.rl, h.re⟩
def spTable (K : PySem.W.Frag) : Sp := fun vs H Q _ => ∃ (v : V) (ns : List Int) (first ropes bodies : Nat), vs = [v, .int first, .int ropes, .int bodies] ∧ HasD K H v (intsD ns) ∧ ropes ≤ 5 ∧ bodies ≤ 4 ∧
  ∀ tb, tb.length = ropes → TOK bodies tb → Res K H Q (tblD tb)
structure Tells (n : Nat) (tb : List (List Int)) (rs : List (List (Int × Int))) : Prop where
  ok : ∀ ps ∈ rs, ROK n ps
  is : (rs.map fun ps => sums ps n) = tb
def spRopes (K : PySem.W.Frag) : Sp := fun vs H Q _ => ∃ (v : V) (tb : List (List Int)) (c : Int) (n : Nat), vs = [v, .int c] ∧ HasD K H v (tblD tb) ∧ tb.length ≤ 5 ∧ 1 ≤ n ∧ n ≤ 4 ∧ TOK n tb ∧ ∀ rs, Tells n tb rs → Res K H Q (ropesD rs)
theorem sc__law_cell_at : FnScope ["script", "k"] ["script", "k"] (defScope s__law_cell_at) := ⟨rfl, rfl, rfl, by decide +kernel, rfl, by decide +kernel, by decide +kernel⟩
theorem ok__law_cell_at {P : Program} {w : World} {K : PySem.W.Frag} {mg : Str → Option Value} {base : Heap} {C : Ad} (T : Txt K mg C) (D : Def K mg "_law_cell_at" "_law_cell_at" s__law_cell_at ["script", "k"]) :
    Own P w K mg base CX0 "_law_cell_at" ["script", "k"] 1 (spCell K) := by
  refine D.own sc__law_cell_at (fun vs H Q E h => ?_) (fun f cdv A outer s H vs Q E hr h => ?_)
  · obtain ⟨a, ns, n, rfl, _⟩ := h
    rfl
  · obtain ⟨v, ns, n, rfl, hv, k⟩ := h
    refine ⟨_, (pss_cons (ps_if (pt_cmpR op_lt (pv 1) (pe_callB (call_lenK (K := K) rfl) rfl T.b_len bt_len (pa_cons (pv 0) pa_nil)) (nomark _))
        (pss_one (ps_ret (pe_ix (ix_K (K := K) rfl) (pv 0) (pv 1) (fun _ _ => rfl))))
        pss_nil)
        (pss_one (ps_ret pe_int))), ?_⟩
    refine ⟨_, rfl, _, rfl, _, _, rfl, .inl hv, _, _, rfl, rfl, _, rfl, ?_⟩
    rw [List.length_map]
    by_cases hn : n < ns.length
    · refine ifP (by simp <;> omega) ?_
      have e : (ns.map PyData.int)[n]? = some (.int (ns.getD n 0)) := by
        rw [List.getElem?_map, List.getD_eq_getElem?_getD, List.getElem?_eq_getElem hn]
        rfl
      refine ⟨_, rfl, _, rfl, _, _, _, .inl hv, rfl, atI_nat e, fun u hu => ?_⟩
      rw [hu.ofint]
      exact k
    · refine ifN (by simp <;> omega) ?_
      have e : ns.getD n 0 = 0 := by
        rw [List.getD_eq_getElem?_getD, List.getElem?_eq_none (by omega)]
        rfl
      rw [e] at k
      exact k
theorem sc__law_whole : FnScope ["found"] ["found"] (defScope s__law_whole) := ⟨rfl, rfl, rfl, by decide +kernel, rfl, by decide +kernel, by decide +kernel⟩
theorem ok__law_whole {P : Program} {w : World} {K : PySem.W.Frag} {mg : Str → Option Value} {base : Heap} {C : Ad} (T : Txt K mg C) (D : Def K mg "_law_whole" "_law_whole" s__law_whole ["found"]) :
    Own P w K mg base CX0 "_law_whole" ["found"] 1 (spWhole) := by
  refine D.own sc__law_whole (fun vs H Q E h => ?_) (fun f cdv A outer s H vs Q E hr h => ?_)
  · obtain ⟨i, rfl, _⟩ := h
    rfl
  · obtain ⟨i, rfl, k⟩ := h
    refine ⟨_, (pss_one (ps_ret (pe_and (pe_callB (call_isiD (K := K) rfl) rfl T.b_isinstance bt_isinstance (pa_cons (pv 0) (pa_cons (pe_bltn (v := .ty "int") rfl T.b_int bt_int rfl) pa_nil))) (pe_one (pe_not (pe_callB (call_isiD (K := K) rfl) rfl T.b_isinstance bt_isinstance (pa_cons (pv 0) (pa_cons (pe_bltn (v := .ty "bool") rfl T.b_bool bt_bool rfl) pa_nil)))))))), ?_⟩
    refine ⟨_, rfl, _, _, .int i, _, rfl, .int i, kit_ii K, _, rfl, iteT ?_⟩
    exact ⟨_, rfl, _, _, .int i, _, rfl, .int i, kit_ib K, _, rfl, k⟩
theorem sc__law_low : FnScope ["top", "bottom", "one", "other", "rest"] ["top", "bottom"] (defScope s__law_low) := ⟨rfl, rfl, rfl, by decide +kernel, rfl, by decide +kernel, by decide +kernel⟩
theorem ok__law_low {P : Program} {w : World} {K : PySem.W.Frag} {mg : Str → Option Value} {base : Heap} {C : Ad} (T : Txt K mg C) (D : Def K mg "_law_low" "_law_low" s__law_low ["top", "bottom"]) :
    Own P w K mg base CX0 "_law_low" ["top", "bottom"] 1 (spLow K) := by
  refine D.own sc__law_low (fun vs H Q E h => ?_) (fun f cdv A outer s H vs Q E hr h => ?_)
  · obtain ⟨a, b, rfl, _⟩ := h
    rfl
  · obtain ⟨a, b, rfl, hb, hs, k⟩ := h
    refine ⟨_, (pss_cons (ps_set (i := 2) sc__law_low.nd rfl (Or.inl rfl) (pe_callB (call_abs) rfl T.b_abs bt_abs (pa_cons (pv 0) pa_nil)))
        (pss_cons (ps_set (i := 3) sc__law_low.nd rfl (Or.inl rfl) (pv 1))
        (pss_cons (ps_while PassesOwn.never (pt_cmpR op_gt (pv 3) pe_int (nomark _))
        (pss_cons (ps_set (i := 4) sc__law_low.nd rfl (Or.inl rfl) (pe_op op_mod (pv 2) (pv 3)))
        (pss_cons (ps_set (i := 2) sc__law_low.nd rfl (Or.inl rfl) (pv 3))
        (pss_one (ps_set (i := 3) sc__law_low.nd rfl (Or.inl rfl) (pv 4))))))
        (pss_one (ps_ret (pe_tup (pa_cons (pe_op op_fdivL (pv 0) (pv 2)) (pa_cons (pe_op op_fdivL (pv 1) (pv 2)) pa_nil)))))))), ?_⟩
    refine ⟨_, rfl, a, rfl, ?_⟩
    refine ⟨_, rfl, ?_⟩
    refine while_by (fun σ H' => H' = H ∧ ∃ (d r : Int) (z : Option V), σ = [some (.int a), some (.int b), some (.int d), some (.int r), z] ∧ 0 ≤ d ∧ 0 ≤ r ∧ Int.gcd d r = Int.gcd a b)
      (fun σ _ => match σ with | [_, _, _, some (.int r), _] => r.toNat | _ => 0) ⟨rfl, _, _, _, rfl, ?_, ?_, ?_⟩ ?_ ?_
    · exact abs_nn a
    · omega
    · exact gcd_abs1 a b
    · rintro σ H' ⟨rfl, d, r, z, rfl, hd, hr', hg⟩
      refine ⟨_, rfl, _, _, rfl, rfl, _, rfl, ?_⟩
      by_cases hz : 0 < r
      · refine ifP (by simp [hz]) ?_
        refine ⟨_, rfl, _, rfl, _, _, rfl, rfl, hz, ?_⟩
        refine ⟨_, rfl, ?_⟩
        refine ⟨_, rfl, ?_⟩
        have h0 := Int.emod_nonneg d (show r ≠ 0 by omega)
        have h1 := Int.emod_lt_of_pos d hz
        refine ⟨⟨rfl, r, d % r, _, rfl, hr', h0, ?_⟩, ?_⟩
        · rw [gcd_turn, hg]
        · show (d % r).toNat < r.toNat
          omega
      · refine ifN (by simp [hz]) ?_
        obtain rfl : r = 0 := by omega
        have e : d = (Int.gcd a b : Int) := by rw [← hg, gcd_end hd]
        subst e
        have hb0 : b ≠ 0 := by omega
        have g0 := gpos a hb0
        have gs : Sz 9000 (Int.gcd a b : Int) := hs.of_le (gcd_le a hb0)
        have e := low_rat a hb
        have e1 : (Rat.divInt a b).num = (low a b).1 := by rw [e]
        have e2 : ((Rat.divInt a b).den : Int) = (low a b).2 := by rw [e]
        refine ⟨_, rfl, _, rfl, _, _, rfl, rfl, ⟨by omega, gs⟩, _, rfl, _, rfl, _, _, rfl, rfl, ⟨by omega, gs⟩, (by show 2 ≤ sizeLine; decide), fun p hp => ?_⟩
        refine k _ _ (Same.upd hp) (fr_new (SqT.of ?_))
        rw [e1, e2, ← fdiv_low1, ← fdiv_low2]
        exact upd_same
    · rintro σ H' Q1 Q2 hq ⟨v, e1, i, j, e2, e3, kk, e4, q⟩
      exact ⟨v, e1, i, j, e2, e3, kk, e4, hq _ _ q⟩
theorem sc__law_plus : FnScope ["one", "other"] ["one", "other"] (defScope s__law_plus) := ⟨rfl, rfl, rfl, by decide +kernel, rfl, by decide +kernel, by decide +kernel⟩
theorem ok__law_plus {P : Program} {w : World} {K : PySem.W.Frag} {mg : Str → Option Value} {base : Heap} {C : Ad} (T : Txt K mg C) (D : Def K mg "_law_plus" "_law_plus" s__law_plus ["one", "other"])
    (o__law_low : Own P w K mg base CX0 "_law_low" ["top", "bottom"] 1 (spLow K)) :
    Own P w K mg base CX0 "_law_plus" ["one", "other"] 2 (spLawPlus K) := by
  refine D.own sc__law_plus (fun vs H Q E h => ?_) (fun f cdv A outer s H vs Q E hr h => ?_)
  · obtain ⟨p, q, a, b, rfl, _⟩ := h
    rfl
  · obtain ⟨v, u, q, r, rfl, hv, hu, pb, pd, sa, sb, sc, sd, k⟩ := h
    obtain ⟨p, rfl, hp⟩ := has_pair hv
    obtain ⟨p', rfl, hq⟩ := has_pair hu
    refine ⟨_, (pss_one (ps_ret (pe_own o__law_low (hr.mono (by decide)) rfl pass0 (pa_cons (pe_op op_add (pe_op op_mulL (pe_ix (ix_tupK (K := K) rfl) (pv 0) pe_int (fun _ _ => rfl)) (pe_ix (ix_tupK (K := K) rfl) (pv 1) pe_int (fun _ _ => rfl))) (pe_op op_mulL (pe_ix (ix_tupK (K := K) rfl) (pv 1) pe_int (fun _ _ => rfl)) (pe_ix (ix_tupK (K := K) rfl) (pv 0) pe_int (fun _ _ => rfl)))) (pa_cons (pe_op op_mulL (pe_ix (ix_tupK (K := K) rfl) (pv 0) pe_int (fun _ _ => rfl)) (pe_ix (ix_tupK (K := K) rfl) (pv 1) pe_int (fun _ _ => rfl))) pa_nil))))), ?_⟩
    have l : ∀ {x : Int}, Sz 4000 x → Sz 9000 x := fun h => h.mono (by decide)
    refine ⟨_, rfl, p, _, _, _, rfl, rfl, hp, rfl, _, rfl, p', _, _, _, rfl, rfl, hq, rfl, _, _, rfl, rfl, ⟨l sa, l sd⟩,
      _, rfl, p', _, _, _, rfl, rfl, hq, rfl, _, rfl, p, _, _, _, rfl, rfl, hp, rfl, _, _, rfl, rfl, ⟨l sc, l sb⟩, _, _, rfl, rfl,
      _, rfl, p, _, _, _, rfl, rfl, hp, rfl, _, rfl, p', _, _, _, rfl, rfl, hq, rfl, _, _, rfl, rfl, ⟨l sb, l sd⟩, ?_⟩
    refine ⟨_, _, rfl, Int.mul_pos pb pd, (sb.mul sd).mono (by decide), ?_⟩
    rw [Rat.divInt_add_divInt _ _ (by omega) (by omega)] at k
    exact k
theorem sc__law_part : FnScope ["found"] ["found"] (defScope s__law_part) := ⟨rfl, rfl, rfl, by decide +kernel, rfl, by decide +kernel, by decide +kernel⟩
theorem ok__law_part {P : Program} {w : World} {K : PySem.W.Frag} {mg : Str → Option Value} {base : Heap} {C : Ad} (T : Txt K mg C) (D : Def K mg "_law_part" "_law_part" s__law_part ["found"])
    (o__law_low : Own P w K mg base CX0 "_law_low" ["top", "bottom"] 1 (spLow K))
    (o__law_whole : Own P w K mg base CX0 "_law_whole" ["found"] 1 (spWhole)) :
    Own P w K mg base CX0 "_law_part" ["found"] 2 (spPart K) := by
  refine D.own sc__law_part (fun vs H Q E h => ?_) (fun f cdv A outer s H vs Q E hr h => ?_)
  · obtain ⟨p, x, rfl, _⟩ := h
    rfl
  · obtain ⟨v, q, rfl, hv, ⟨s1, s2⟩, k⟩ := h
    refine ⟨_, (pss_cons (ps_if (PW.pt (pw_or (pt_not (pt_truth (pe_callB (call_isiD (K := K) rfl) rfl T.b_isinstance bt_isinstance (pa_cons (pv 0) (pa_cons (pe_bltn (v := .ty "tuple") rfl T.b_tuple bt_tuple rfl) pa_nil))) (fun _ => rfl))) (pw_or (pt_cmpR op_ne (pe_callB (call_lenK (K := K) rfl) rfl T.b_len bt_len (pa_cons (pv 0) pa_nil)) pe_int (nomark _)) (pw_or (pt_not (pt_truth (pe_own o__law_whole (hr.mono (by decide)) rfl pass0 (pa_cons (pe_ix (ix_K (K := K) rfl) (pv 0) pe_int (fun _ _ => rfl)) pa_nil)) (fun _ => rfl))) (pw_or1 (pt_not (pt_truth (pe_own o__law_whole (hr.mono (by decide)) rfl pass0 (pa_cons (pe_ix (ix_K (K := K) rfl) (pv 0) pe_int (fun _ _ => rfl)) pa_nil)) (fun _ => rfl))))))))
        (pss_one (ps_ret pe_bl))
        pss_nil)
        (pss_one (ps_ret (pe_and (pe_cmpR op_gt (pe_ix (ix_K (K := K) rfl) (pv 0) pe_int (fun _ _ => rfl)) pe_int (nomark _)) (pe_one (pe_cmpR (op_eqK (K := K) rfl hr) (pe_own o__law_low (hr.mono (by decide)) rfl pass0 (pa_cons (pe_ix (ix_K (K := K) rfl) (pv 0) pe_int (fun _ _ => rfl)) (pa_cons (pe_ix (ix_K (K := K) rfl) (pv 0) pe_int (fun _ _ => rfl)) pa_nil))) (pv 0) (nomark _))))))), ?_⟩
    have dp := den_pos q
    refine ⟨_, rfl, _, _, _, _, rfl, hv, kit_tt K, _, rfl, iteF ?_⟩
    refine ⟨_, rfl, _, _, rfl, .inr hv, rfl, _, rfl, iteF ?_⟩
    refine ⟨_, rfl, _, _, _, .inr hv, rfl, rfl, fun u hu => ?_⟩
    rw [hu.ofint]
    refine ⟨_, rfl, true, rfl, iteF ?_⟩
    refine ⟨_, rfl, _, _, _, .inr hv, rfl, rfl, fun u hu => ?_⟩
    rw [hu.ofint]
    refine ⟨_, rfl, true, rfl, iteF ?_⟩
    refine ⟨_, rfl, _, _, _, .inr hv, rfl, rfl, fun u hu => ?_⟩
    rw [hu.ofint]
    refine ⟨_, _, rfl, rfl, _, rfl, ?_⟩
    refine ifP (by simpa using dp) ?_
    refine ⟨_, rfl, _, _, _, .inr hv, rfl, rfl, fun u hu => ?_⟩
    rw [hu.ofint]
    refine ⟨_, rfl, _, _, _, .inr hv, rfl, rfl, fun u hu => ?_⟩
    rw [hu.ofint]
    refine ⟨_, _, rfl, dp, s2, fun r1 H1 S1 N1 => ?_⟩
    refine ⟨_, rfl, _, _, NewD.has _ N1, hv.same S1, (lays_fr _).lay, (lays_fr _).lay, Nat.le_trans (lays_fr _).dep (by decide), ?_⟩
    rw [Rat.num_divInt_den]
    show Q (V.bl (PyData.eqv (frD q) (frD q))) H1
    rw [(eqv_iff _ _ (plain_fr q) (plain_fr q)).mpr rfl]
    exact k _ S1
theorem sc__law_parts : FnScope ["found", "many", "part"] ["found", "many"] (defScope s__law_parts) := ⟨rfl, rfl, rfl, by decide +kernel, rfl, by decide +kernel, by decide +kernel⟩
theorem ok__law_parts {P : Program} {w : World} {K : PySem.W.Frag} {mg : Str → Option Value} {base : Heap} {C : Ad} (T : Txt K mg C) (D : Def K mg "_law_parts" "_law_parts" s__law_parts ["found", "many"])
    (o__law_part : Own P w K mg base CX0 "_law_part" ["found"] 2 (spPart K)) :
    Own P w K mg base CX0 "_law_parts" ["found", "many"] 3 (spParts K) := by
  refine D.own sc__law_parts (fun vs H Q E h => ?_) (fun f cdv A outer s H vs Q E hr h => ?_)
  · obtain ⟨p, x, _, rfl, _⟩ := h
    rfl
  · obtain ⟨v, qs, n, rfl, hv, rfl, hl, hs, k⟩ := h
    obtain ⟨a, xs, rfl, ha, hd⟩ := hv.oflst
    refine ⟨_, (pss_cons (ps_if (PW.pt (pw_or (pt_not (pt_truth (pe_callB (call_isiD (K := K) rfl) rfl T.b_isinstance bt_isinstance (pa_cons (pv 0) (pa_cons (pe_bltn (v := .ty "list") rfl T.b_list bt_list rfl) pa_nil))) (fun _ => rfl))) (pw_or1 (pt_cmpR op_ne (pe_callB (call_lenK (K := K) rfl) rfl T.b_len bt_len (pa_cons (pv 0) pa_nil)) (pv 1) (nomark _)))))
        (pss_one (ps_ret pe_bl))
        pss_nil)
        (pss_cons (ps_for PassesOwn.never rfl (pi_listK (K := K) rfl (pv 0)) (pg_name (i := 2) sc__law_parts.nd rfl (Or.inl rfl))
        (pss_one (ps_if (pt_not (pt_truth (pe_own o__law_part (hr.mono (by decide)) rfl pass0 (pa_cons (pv 2) pa_nil)) (fun _ => rfl)))
        (pss_one (ps_ret pe_bl))
        pss_nil)))
        (pss_one (ps_ret pe_bl)))), ?_⟩
    refine ⟨_, rfl, _, _, _, _, rfl, hv, kit_ll K, _, rfl, iteF ?_⟩
    refine ⟨_, rfl, _, _, rfl, .inl hv, _, rfl, rfl, _, rfl, ?_⟩
    refine ifN (by simp) ?_
    refine ⟨_, rfl, a, rfl, ⟨_, ha⟩, for_list (K := K) (a := a) (xs := xs) (fun i σ H2 => Same H H2 ∧ ∃ z, σ = [some (.ref a), some (.int qs.length), z]) ⟨Same.refl _, _, rfl⟩ (fun i σ H2 _ ⟨S, _⟩ => S.seq ha) ?_ ?_⟩
    · rintro i x σ H2 hi ⟨S, z, rfl⟩
      obtain ⟨d, e1, hx⟩ := hd.at hi
      rw [List.getElem?_map] at e1
      cases hq : qs[i]? with
      | none => rw [hq] at e1; cases e1
      | some q =>
        rw [hq] at e1
        cases e1
        refine ⟨_, rfl, _, q, rfl, hx.same S, hs q (List.mem_of_getElem? hq), fun H3 S3 => ?_⟩
        refine ⟨true, rfl, iteF ?_⟩
        exact ⟨S.trans S3, _, rfl⟩
    · rintro σ H2 ⟨S, z, rfl⟩
      exact k _ S
theorem menu_le : ∀ n ∈ ([0, 2, 1, 2, 0, -1, 1, 4, -2, 6, 0, 9, 1, -5, 2, -9] : List Int), n.natAbs ≤ 9 := by decide
theorem sc__law_table : FnScope ["script", "first", "ropes", "bodies", "table", "r", "cell", "row", "body"] ["script", "first", "ropes", "bodies"] (defScope s__law_table) := ⟨rfl, rfl, rfl, by decide +kernel, rfl, by decide +kernel, by decide +kernel⟩
theorem ok__law_table {P : Program} {w : World} {K : PySem.W.Frag} {mg : Str → Option Value} {base : Heap} {C : Ad} (T : Txt K mg C) (D : Def K mg "_law_table" "_law_table" s__law_table ["script", "first", "ropes", "bodies"])
    (o__law_cell_at : Own P w K mg base CX0 "_law_cell_at" ["script", "k"] 1 (spCell K)) :
    Own P w K mg base CX0 "_law_table" ["script", "first", "ropes", "bodies"] 2 (spTable K) := by
  refine D.own sc__law_table (fun vs H Q E h => ?_) (fun f cdv A outer s H vs Q E hr h => ?_)
  · obtain ⟨p, x, _, _, _, rfl, _⟩ := h
    rfl
  · obtain ⟨v, ns, first, ropes, bodies, rfl, hv, h5, h4, k⟩ := h
    have sl : (100 : Nat) ≤ sizeLine := by decide
    refine ⟨_, (pss_cons (ps_set (i := 4) sc__law_table.nd rfl (Or.inl rfl) (pe_lst pa_nil))
        (pss_cons (ps_for PassesOwn.never rfl (pi_range1 rfl T.b_range (pa_cons (pv 2) pa_nil)) (pg_name (i := 5) sc__law_table.nd rfl (Or.inl rfl))
        (pss_cons (ps_set (i := 6) sc__law_table.nd rfl (Or.inl rfl) (pe_own o__law_cell_at (hr.mono (by decide)) rfl pass0 (pa_cons (pv 0) (pa_cons (pe_op op_add (pv 1) (pv 5)) pa_nil))))
        (pss_cons (ps_set (i := 7) sc__law_table.nd rfl (Or.inl rfl) (pe_lst pa_nil))
        (pss_cons (ps_for PassesOwn.never rfl (pi_range1 rfl T.b_range (pa_cons (pv 3) pa_nil)) (pg_name (i := 8) sc__law_table.nd rfl (Or.inl rfl))
        (pss_cons (ps_expr (pe_bm PySem.F.plainAttrs_list PySem.F.slot_list_append PySem.F.type_list_append mt_append (pv 7) (pa_cons (pe_ix (ix_K (K := K) rfl) (pe_lst (pa_cons pe_int (pa_cons pe_int (pa_cons pe_int (pa_cons pe_int (pa_cons pe_int (pa_cons (pe_un un_neg pe_int) (pa_cons pe_int (pa_cons pe_int (pa_cons (pe_un un_neg pe_int) (pa_cons pe_int (pa_cons pe_int (pa_cons pe_int (pa_cons pe_int (pa_cons (pe_un un_neg pe_int) (pa_cons pe_int (pa_cons (pe_un un_neg pe_int) pa_nil))))))))))))))))) (pe_op op_mod (pv 6) pe_int) (fun _ _ => rfl)) pa_nil)))
        (pss_one (ps_set (i := 6) sc__law_table.nd rfl (Or.inl rfl) (pe_op op_fdivL (pv 6) pe_int)))))
        (pss_one (ps_expr (pe_bm PySem.F.plainAttrs_list PySem.F.slot_list_append PySem.F.type_list_append mt_append (pv 4) (pa_cons (pv 7) pa_nil))))))))
        (pss_one (ps_ret (pv 4))))), ?_⟩
    refine ⟨by show 0 ≤ sizeLine; decide, fun t0 n0 => ?_⟩
    refine ⟨_, rfl, _, rfl, by omega, by omega, ?_⟩
    rw [Int.toNat_natCast]
    refine for_range (fun i σ H2 => ∃ rows vs z1 z2 z3 z4, Grow K H t0 H2 vs (rows.map intsD) ∧ rows.length = i ∧ TOK bodies rows ∧ σ = [some v, some (.int first), some (.int ropes), some (.int bodies), some (.ref t0), z1, z2, z3, z4])
      ⟨[], [], _, _, _, _, Grow.start n0, rfl, ⟨fun _ h => (nomatch h), fun _ h => (nomatch h)⟩, rfl⟩ ?_ ?_
    · rintro i σ H2 hi ⟨rows, vs, z1, z2, z3, z4, G, hl, tok, rfl⟩
      have hvl : vs.length = i := by
        have := G.d.len
        rw [List.length_map] at this
        omega
      refine ⟨_, rfl, _, rfl, _, rfl, _, _, rfl, rfl, v, ns, first + i, by rw [Int.zero_add]; rfl, hv.same G.S, ?_⟩
      refine ⟨by show 0 ≤ sizeLine; decide, fun w0 nw => ?_⟩
      refine ⟨_, rfl, _, rfl, by omega, by omega, ?_⟩
      rw [Int.toNat_natCast]
      refine for_range (fun j σ H3 => ∃ (xs : List Int) (c : Int) (z : Option V), Same H2 H3 ∧ H3 w0 = some (.lst (xs.map V.int)) ∧ xs.length = j ∧ (∀ x ∈ xs, x.natAbs ≤ 9) ∧ σ = [some v, some (.int first), some (.int ropes), some (.int bodies), some (.ref t0), some (.int (0 + (i : Int))), some (.int c), some (.ref w0), z])
        ⟨[], _, _, Same.upd nw, upd_same, rfl, fun _ h => (nomatch h), rfl⟩ ?_ ?_
      · rintro j σ H3 hj ⟨xs, c, z, S3, at3, lx, hx, rfl⟩
        have m0 := Int.emod_nonneg c (show (16 : Int) ≠ 0 by decide)
        have m1 := Int.emod_lt_of_pos c (show (0 : Int) < 16 by decide)
        obtain ⟨b, hb, eb⟩ := atI_intsD (ns := [0, 2, 1, 2, 0, -1, 1, 4, -2, 6, 0, 9, 1, -5, 2, -9]) m0 m1
        refine ⟨_, rfl, .inl ⟨rfl, _, SqL.of at3⟩, ?_⟩
        refine ⟨_, rfl, _, rfl, _, rfl, _, rfl, by show 16 ≤ sizeLine; decide, fun l1 n1 => ?_⟩
        refine ⟨_, rfl, _, _, rfl, rfl, (by show (0 : Int) < 16; decide), _, _, _, .inl (HasD.lst (SqL.of upd_same) (HasDs.ints (ns := [0, 2, 1, 2, 0, -1, 1, 4, -2, 6, 0, 9, 1, -5, 2, -9]) |>.mpr rfl)), rfl, eb, fun u hu => ?_⟩
        rw [hu.ofint]
        have S4 : Same H3 (upd H3 l1 (.lst (([0, 2, 1, 2, 0, -1, 1, 4, -2, 6, 0, 9, 1, -5, 2, -9] : List Int).map V.int))) := Same.upd n1
        refine ⟨w0, _, _, rfl, rfl, S4 _ _ at3, by rw [List.length_map]; omega, ?_⟩
        refine ⟨_, rfl, _, _, rfl, rfl, ⟨by decide, (show Sz 20 16 by unfold Sz; decide).mono (by decide)⟩, ?_⟩
        refine ⟨xs ++ [b], _, _, same_write (S3.trans S4) nw, ?_, by simp [lx], fun x hx' => ?_, rfl⟩
        · rw [upd_same, List.map_append]
          rfl
        · rcases List.mem_append.mp hx' with h | h
          · exact hx x h
          · rw [List.mem_singleton.mp h]
            exact menu_le b hb
      · rintro σ H3 ⟨xs, c, z, S3, at3, lx, hx, rfl⟩
        refine ⟨_, rfl, .inl ⟨rfl, _, SqL.of (S3 _ _ G.at_)⟩, _, rfl, t0, _, _, rfl, rfl, S3 _ _ G.at_, by omega, ?_⟩
        have G' := G.push (K := K) S3 (ints_new (ns := xs) nw at3)
        refine ⟨rows ++ [xs], vs ++ [.ref w0], _, _, _, _, ?_, by simp [hl], ⟨fun row hrow => ?_, fun row hrow => ?_⟩, rfl⟩
        · rw [List.map_append]
          exact G'
        · rcases List.mem_append.mp hrow with h | h
          · exact tok.rl row h
          · rw [List.mem_singleton.mp h]
            exact lx
        · rcases List.mem_append.mp hrow with h | h
          · exact tok.re row h
          · rw [List.mem_singleton.mp h]
            exact hx
    · rintro σ H2 ⟨rows, vs, z1, z2, z3, z4, G, hl, tok, rfl⟩
      refine ⟨_, rfl, ?_⟩
      exact k rows hl tok _ _ G.S G.new
def bp (row : List Int) (n : Nat) : List (Int × Int) := (List.range n).filterMap fun b => if row.getD b 0 = 0 then none else some ((b : Int), row.getD b 0)
theorem bp_succ (row : List Int) (n : Nat) : bp row (n + 1) = bp row n ++ (if row.getD n 0 = 0 then [] else [((n : Int), row.getD n 0)]) := by
  unfold bp
  rw [List.range_succ, List.filterMap_append]
  congr 1
  by_cases h : row.getD n 0 = 0 <;> simp [-List.getD_eq_getElem?_getD, h]
theorem sumAt_app (ps qs : List (Int × Int)) (b : Int) : sumAt (ps ++ qs) b = sumAt ps b + sumAt qs b := by
  unfold sumAt
  rw [List.filter_append, List.map_append, List.sum_append]
theorem sumAt_one (p : Int × Int) (b : Int) : sumAt [p] b = if p.1 = b then p.2 else 0 := by
  unfold sumAt
  by_cases h : p.1 = b <;> simp [h]
theorem sumAt_nil (b : Int) : sumAt [] b = 0 := rfl
theorem sumAt_bp (row : List Int) (n b : Nat) : sumAt (bp row n) b = if b < n then row.getD b 0 else 0 := by
  induction n with
  | zero => simp [bp, sumAt]
  | succ n ih =>
    rw [bp_succ, sumAt_app, ih]
    by_cases h : row.getD n 0 = 0
    · rw [if_pos h, sumAt_nil]
      by_cases hb : b < n
      · rw [if_pos hb, if_pos (by omega)]
        omega
      · rw [if_neg hb]
        by_cases hn : b = n
        · subst hn
          rw [if_pos (by omega), h]
          rfl
        · rw [if_neg (by omega)]
          rfl
    · rw [if_neg h, sumAt_one]
      by_cases hn : b = n
      · subst hn
        rw [if_neg (by omega), if_pos rfl, if_pos (by omega)]
        omega
      · rw [if_neg (show ¬ (n : Int) = b by omega)]
        by_cases hb : b < n
        · rw [if_pos hb, if_pos (by omega)]
          omega
        · rw [if_neg hb, if_neg (by omega)]
          rfl
theorem bp_len (row : List Int) (n : Nat) : (bp row n).length ≤ n := by
  have := List.length_filterMap_le (fun b : Nat => if row.getD b 0 = 0 then none else some ((b : Int), row.getD b 0)) (List.range n)
  rw [List.length_range] at this
  exact this
theorem bp_each {row : List Int} {n : Nat} (h9 : ∀ x ∈ row, x.natAbs ≤ 9) : ∀ p ∈ bp row n, 0 ≤ p.1 ∧ p.1 < n ∧ p.2.natAbs ≤ 9 := fun p hp => by
  obtain ⟨b, hb, e⟩ := List.mem_filterMap.mp hp
  have hb' := List.mem_range.mp hb
  split at e
  · cases e
  · cases e
    refine ⟨by omega, by show (b : Int) < n; omega, ?_⟩
    show (row.getD b 0).natAbs ≤ 9
    rw [List.getD_eq_getElem?_getD]
    cases hr : row[b]? with
    | none => simp
    | some x =>
      exact h9 x (List.mem_of_getElem? hr)
theorem sumAt_rev (ps : List (Int × Int)) (b : Int) : sumAt ps.reverse b = sumAt ps b := by
  unfold sumAt
  rw [List.filter_reverse, List.map_reverse, List.sum_reverse]
structure PTell (n : Nat) (row : List Int) (m : Nat) (ps : List (Int × Int)) : Prop where
  len : ps.length ≤ m
  each : ∀ p ∈ ps, 0 ≤ p.1 ∧ p.1 < n ∧ p.2.natAbs ≤ 9
  is : ∀ b : Nat, b < n → sumAt ps b = row.getD b 0
theorem PTell.sums {n m : Nat} {row : List Int} {ps : List (Int × Int)} (h : PTell n row m ps) (hl : row.length = n) : sums ps n = row := by
  refine List.ext_getElem (by rw [sums_len, hl]) fun i h1 h2 => ?_
  have hi : i < n := by rw [sums_len] at h1; exact h1
  have e := h.is i hi
  simp only [Hw.sums, List.getElem_map, List.getElem_range]
  rw [e, List.getD_eq_getElem?_getD, List.getElem?_eq_getElem h2]
  rfl
theorem PTell.rok {n m : Nat} {row : List Int} {ps : List (Int × Int)} (h : PTell n row m ps) (hm : m ≤ 12) (hl : row.length = n) (h9 : ∀ x ∈ row, x.natAbs ≤ 9) : ROK n ps :=
  ⟨Nat.le_trans h.len hm, h.each, by rw [h.sums hl]; exact h9⟩
theorem PTell.ext {n : Nat} {row : List Int} {ps : List (Int × Int)} (h : PTell n row 4 ps) (hn : 1 ≤ n) : PTell n row 7 ([((n : Int) - 1, 0), (0, 1)] ++ ps ++ [(0, -1)]) := by
  refine ⟨?_, fun p hp => ?_, fun b hb => ?_⟩
  · have := h.len
    simp
    omega
  · rcases List.mem_append.mp hp with hp | hp
    · rcases List.mem_append.mp hp with hp | hp
      · simp at hp
        rcases hp with rfl | rfl
        · refine ⟨by omega, by omega, ?_⟩
          show (0 : Int).natAbs ≤ 9
          decide
        · refine ⟨by omega, by omega, ?_⟩
          show (1 : Int).natAbs ≤ 9
          decide
      · exact h.each p hp
    · simp at hp
      subst hp
      refine ⟨by omega, by omega, ?_⟩
      show (-1 : Int).natAbs ≤ 9
      decide
  · rw [sumAt_app, sumAt_app, show ([((n : Int) - 1, (0 : Int)), (0, 1)] : List (Int × Int)) = [((n : Int) - 1, 0)] ++ [(0, 1)] from rfl, sumAt_app, sumAt_one, sumAt_one, sumAt_one, h.is b hb]
    by_cases h0 : (0 : Int) = b
    · rw [if_pos h0, if_pos h0]
      split <;> simp <;> omega
    · rw [if_neg h0, if_neg h0]
      split <;> simp
theorem sc__law_ropes : FnScope ["table", "cell", "ropes", "row", "pairs", "body"] ["table", "cell"] (defScope s__law_ropes) := ⟨rfl, rfl, rfl, by decide +kernel, rfl, by decide +kernel, by decide +kernel⟩
theorem ok__law_ropes {P : Program} {w : World} {K : PySem.W.Frag} {mg : Str → Option Value} {base : Heap} {C : Ad} (T : Txt K mg C) (D : Def K mg "_law_ropes" "_law_ropes" s__law_ropes ["table", "cell"]) :
    Own P w K mg base CX0 "_law_ropes" ["table", "cell"] 1 (spRopes K) := by
  refine D.own sc__law_ropes (fun vs H Q E h => ?_) (fun f cdv A outer s H vs Q E hr h => ?_)
  · obtain ⟨p, x, _, _, rfl, _⟩ := h
    rfl
  · obtain ⟨v, tb, c, n, rfl, hv, h5, h1, h4, tok, k⟩ := h
    obtain ⟨at_, xt, rfl, hqt, hdt⟩ := hv.oflst
    have lt : xt.length = tb.length := by rw [hdt.len, List.length_map]
    have sl : (100 : Nat) ≤ sizeLine := by decide
    refine ⟨_, (pss_cons (ps_set (i := 2) sc__law_ropes.nd rfl (Or.inl rfl) (pe_lst pa_nil))
        (pss_cons (ps_for PassesOwn.never rfl (pi_listK (K := K) rfl (pv 0)) (pg_name (i := 3) sc__law_ropes.nd rfl (Or.inl rfl))
        (pss_cons (ps_set (i := 4) sc__law_ropes.nd rfl (Or.inl rfl) (pe_lst pa_nil))
        (pss_cons (ps_for PassesOwn.never rfl (pi_range1 rfl T.b_range (pa_cons (pe_callB (call_lenK (K := K) rfl) rfl T.b_len bt_len (pa_cons (pv 3) pa_nil)) pa_nil)) (pg_name (i := 5) sc__law_ropes.nd rfl (Or.inl rfl))
        (pss_one (ps_if (pt_cmpR op_ne (pe_ix (ix_K (K := K) rfl) (pv 3) (pv 5) (fun _ _ => rfl)) pe_int (nomark _))
        (pss_one (ps_expr (pe_bm PySem.F.plainAttrs_list PySem.F.slot_list_append PySem.F.type_list_append mt_append (pv 4) (pa_cons (pe_tup (pa_cons (pv 5) (pa_cons (pe_ix (ix_K (K := K) rfl) (pv 3) (pv 5) (fun _ _ => rfl)) pa_nil))) pa_nil))))
        pss_nil)))
        (pss_consJ (ps_if (pt_cmpR op_eq (pe_op op_mod (pv 1) pe_int) pe_int (nomark _))
        (pss_one (ps_expr (pe_bm0 PySem.F.plainAttrs_list PySem.F.slot_list_reverse PySem.F.type_list_reverse mt_reverse (pv 4))))
        pss_nil)
        (pss_consJ (ps_if (pt_cmpR op_eq (pe_op op_mod (pv 1) pe_int) pe_int (nomark _))
        (pss_one (ps_set (i := 4) sc__law_ropes.nd rfl (Or.inl rfl) (pe_op op_cat (pe_op op_cat (pe_lst (pa_cons (pe_tup (pa_cons (pe_op op_sub (pe_callB (call_lenK (K := K) rfl) rfl T.b_len bt_len (pa_cons (pv 3) pa_nil)) pe_int) (pa_cons pe_int pa_nil))) (pa_cons (pe_tup (pa_cons pe_int (pa_cons pe_int pa_nil))) pa_nil))) (pv 4)) (pe_lst (pa_cons (pe_tup (pa_cons pe_int (pa_cons (pe_un un_neg pe_int) pa_nil))) pa_nil)))))
        pss_nil)
        (pss_one (ps_expr (pe_bm PySem.F.plainAttrs_list PySem.F.slot_list_append PySem.F.type_list_append mt_append (pv 2) (pa_cons (pv 4) pa_nil)))))))))
        (pss_one (ps_ret (pv 2))))), ?_⟩
    refine ⟨by show 0 ≤ sizeLine; decide, fun t0 n0 => ?_⟩
    refine ⟨_, rfl, at_, rfl, ⟨_, (Same.upd n0).seq hqt⟩, ?_⟩
    refine for_list (K := K) (a := at_) (xs := xt) (fun i σ H2 => ∃ rs vs z1 z2 z3, Grow K H t0 H2 vs (rs.map pairsD) ∧ Tells n (tb.take i) rs ∧ σ = [some (.ref at_), some (.int c), some (.ref t0), z1, z2, z3])
      ⟨[], [], _, _, _, Grow.start n0, ⟨fun _ h => (nomatch h), by rw [List.take_zero]; rfl⟩, rfl⟩ (fun i σ H2 _ ⟨_, _, _, _, _, G, _⟩ => G.S.seq hqt) ?_ ?_
    · rintro i x σ H2 hi ⟨rs, vs, z1, z2, z3, G, tl, rfl⟩
      obtain ⟨d, e1, hx0⟩ := hdt.at hi
      have hi' : i < tb.length := by rw [← lt]; exact (List.getElem?_eq_some_iff.mp hi).1
      rw [List.getElem?_map, List.getElem?_eq_getElem hi'] at e1
      cases e1
      have hrow := List.getElem_mem hi'
      have lrow := tok.rl _ hrow
      have erow := tok.re _ hrow
      have etk : tb.take (i + 1) = tb.take i ++ [tb[i]] := by rw [List.take_succ_eq_append_getElem]
      generalize tb[i] = row at *
      have hx : HasD K H2 x (intsD row) := hx0.same G.S
      have hvl : vs.length ≤ 5 := by
        have h1 := G.d.len
        have h2 := congrArg List.length tl.is
        rw [List.length_map] at h1 h2
        rw [List.length_take] at h2
        omega
      refine ⟨by show 0 ≤ sizeLine; decide, fun w0 nw => ?_⟩
      refine ⟨_, rfl, _, _, rfl, .inl (hx.same (Same.upd nw)), _, rfl, by omega, by rw [List.length_map]; omega, ?_⟩
      rw [Int.toNat_natCast, List.length_map, lrow]
      refine for_range (fun j σ H3 => ∃ ws z, Grow K H2 w0 H3 ws ((bp row j).map pairD) ∧ σ = [some (.ref at_), some (.int c), some (.ref t0), some x, some (.ref w0), z])
        ⟨[], _, Grow.start nw, rfl⟩ ?_ ?_
      · rintro j σ H3 hj ⟨ws, z, Gw, rfl⟩
        have ej : (row.map PyData.int)[j]? = some (.int (row.getD j 0)) := by
          rw [List.getElem?_map, List.getD_eq_getElem?_getD, List.getElem?_eq_getElem (by omega)]
          rfl
        have hwl : ws.length ≤ 4 := by
          have h1 := Gw.d.len
          have h2 := bp_len row j
          rw [List.length_map] at h1
          omega
        refine ⟨_, rfl, _, rfl, _, _, _, .inl (hx.same Gw.S), rfl, by rw [Int.zero_add]; exact atI_nat ej, fun u hu => ?_⟩
        rw [hu.ofint]
        refine ⟨rfl, _, rfl, ?_⟩
        by_cases hz : row.getD j 0 = 0
        · refine ifN (by simp [-List.getD_eq_getElem?_getD, hz]) ?_
          refine ⟨ws, _, ?_, rfl⟩
          rw [bp_succ, if_pos hz, List.append_nil]
          exact Gw
        · refine ifP (by simp [-List.getD_eq_getElem?_getD, hz]) ?_
          refine ⟨_, rfl, .inl ⟨rfl, _, SqL.of Gw.at_⟩, _, rfl, _, rfl, _, rfl, _, _, _, .inl (hx.same Gw.S), rfl, by rw [Int.zero_add]; exact atI_nat ej, fun u hu => ?_⟩
          rw [hu.ofint]
          refine ⟨by show 2 ≤ sizeLine; decide, fun p np => ?_⟩
          have S4 : Same H3 (upd H3 p (.tup [V.int (0 + (j : Int)), V.int (row.getD j 0)])) := Same.upd np
          refine ⟨w0, _, _, rfl, rfl, S4 _ _ Gw.at_, by omega, ?_⟩
          refine ⟨ws ++ [.ref p], _, ?_, rfl⟩
          rw [bp_succ, if_neg hz, List.map_append]
          refine Gw.push S4 (pair_new (p := ((j : Int), row.getD j 0)) (SqT.of ?_))
          rw [upd_same, Int.zero_add]
      · rintro σ H3 ⟨ws, z, Gw, rfl⟩
        refine ⟨fun σ' H' => ∃ ps ws' z, Grow K H2 w0 H' ws' (ps.map pairD) ∧ PTell n row 4 ps ∧ σ' = [some (.ref at_), some (.int c), some (.ref t0), some x, some (.ref w0), z], ?_, ?_⟩
        · have base : PTell n row 4 (bp row n) := ⟨Nat.le_trans (bp_len _ _) h4, bp_each erow, fun b hb => by rw [sumAt_bp, if_pos hb]⟩
          refine ⟨_, rfl, _, _, rfl, rfl, (by show (0 : Int) < 3; decide), rfl, _, rfl, ?_⟩
          refine ite2 (fun _ => ?_) (fun _ => ?_)
          · refine ⟨_, rfl, .inl ⟨rfl, _, SqL.of Gw.at_⟩, w0, _, rfl, rfl, Gw.at_, ?_⟩
            refine ⟨(bp row n).reverse, ws.reverse, _, ?_, ⟨by rw [List.length_reverse]; exact base.len, fun p hp => base.each p (List.mem_reverse.mp hp), fun b hb => by rw [sumAt_rev]; exact base.is b hb⟩, rfl⟩
            rw [List.map_reverse]
            exact Gw.put Gw.d.rev
          · exact ⟨_, _, _, Gw, base, rfl⟩
        · rintro σ' H4 ⟨ps, ws', z', Gp, pt, rfl⟩
          refine ⟨fun σ' H' => ∃ w1 ps z, Same H2 H' ∧ NewD K H2 H' (.ref w1) (pairsD ps) ∧ PTell n row 7 ps ∧ σ' = [some (.ref at_), some (.int c), some (.ref t0), some x, some (.ref w1), z], ?_, ?_⟩
          · refine ⟨_, rfl, _, _, rfl, rfl, (by show (0 : Int) < 3; decide), rfl, _, rfl, ?_⟩
            refine ite2 (fun _ => ?_) (fun _ => ?_)
            · have hwl : ws'.length ≤ 4 := by
                have h1 := Gp.d.len
                rw [List.length_map] at h1
                have := pt.len
                omega
              refine ⟨_, rfl, _, _, rfl, .inl (hx.same Gp.S), _, _, rfl, rfl, by show 2 ≤ sizeLine; decide, fun p1 n1 => ?_⟩
              refine ⟨by show 2 ≤ sizeLine; decide, fun p2 n2 => ?_⟩
              refine ⟨by show 2 ≤ sizeLine; decide, fun l1 nl1 => ?_⟩
              have S1 := Same.upd n1 (o := .tup [V.int (((row.map PyData.int).length : Int) - 1), V.int 0])
              have S2 := Same.upd n2 (o := .tup [V.int 0, V.int 1])
              have S3 := Same.upd nl1 (o := .lst [V.ref p1, V.ref p2])
              have S123 := (S1.trans S2).trans S3
              refine ⟨_, rfl, l1, w0, _, _, rfl, rfl, upd_same, S123 _ _ Gp.at_, by simp; omega, fun l2 nl2 => ?_⟩
              refine ⟨_, rfl, by show 2 ≤ sizeLine; decide, fun p3 n3 => ?_⟩
              refine ⟨by show 1 ≤ sizeLine; decide, fun l3 nl3 => ?_⟩
              have S4 := Same.upd nl2 (o := .lst ([V.ref p1, V.ref p2] ++ ws'))
              have S5 := Same.upd n3 (o := .tup [V.int 0, V.int (-1)])
              have S6 := Same.upd nl3 (o := .lst [V.ref p3])
              refine ⟨l2, l3, _, _, rfl, rfl, (S5.trans S6) _ _ upd_same, upd_same, by simp; omega, fun l4 nl4 => ?_⟩
              have S7 := Same.upd nl4 (o := .lst ([V.ref p1, V.ref p2] ++ ws' ++ [V.ref p3]))
              have Sall := (((S123.trans S4).trans S5).trans S6).trans S7
              refine ⟨l4, [((n : Int) - 1, 0), (0, 1)] ++ ps ++ [(0, -1)], _, Gp.S.trans Sall, ?_, pt.ext h1, rfl⟩
              have nl : H2 l4 = none := (Gp.S.trans (((S123.trans S4).trans S5).trans S6)).free nl4
              refine .lst nl upd_same ?_
              rw [List.map_append, List.map_append]
              refine NewDs.app (NewDs.app ?_ ?_) ?_
              · refine .cons (pair_new (p := ((n : Int) - 1, 0)) (SqT.of ?_)) (.cons (pair_new (p := (0, 1)) (SqT.of ?_)) .nil)
                · refine ((((((S2.trans S3).trans S4).trans S5).trans S6).trans S7) p1 _ upd_same).trans ?_
                  rw [List.length_map, lrow]
                · exact ((((S3.trans S4).trans S5).trans S6).trans S7) p2 _ upd_same
              · exact (Gp.d.wider (Same.upd nw)).later Sall
              · refine .cons (pair_new (p := (0, -1)) (SqT.of ?_)) .nil
                exact (S6.trans S7) p3 _ upd_same
            · exact ⟨w0, ps, _, Gp.S, Gp.new, ⟨Nat.le_trans pt.len (by decide), pt.each, pt.is⟩, rfl⟩
          · rintro σ' H5 ⟨w1, ps1, z1, S5, N5, pt1, rfl⟩
            refine ⟨_, rfl, .inl ⟨rfl, _, SqL.of (S5 _ _ G.at_)⟩, _, rfl, t0, _, _, rfl, rfl, S5 _ _ G.at_, by omega, ?_⟩
            have G' := G.push S5 N5
            refine ⟨rs ++ [ps1], vs ++ [.ref w1], _, _, _, ?_, ⟨fun q hq => ?_, ?_⟩, rfl⟩
            · rw [List.map_append]
              exact G'
            · rcases List.mem_append.mp hq with h | h
              · exact tl.ok q h
              · rw [List.mem_singleton.mp h]
                exact pt1.rok (by decide) lrow erow
            · rw [etk, List.map_append, tl.is]
              congr 1
              show [sums ps1 n] = [row]
              rw [pt1.sums lrow]
    · rintro σ H2 ⟨rs, vs, z1, z2, z3, G, tl, rfl⟩
      refine ⟨_, rfl, ?_⟩
      rw [lt, List.take_length] at tl
      exact k rs tl _ _ G.S G.new
theorem rat_scale (c : Int) (q : Rat) : Rat.divInt (q.num * c) q.den = (c : Rat) * q := by
  have h := rat_mul (c : Rat) q
  rw [← h]
  show _ = Rat.divInt (c * q.num) (((1 : Nat) : Int) * q.den)
  rw [Int.mul_comm c, show (((1 : Nat) : Int) * q.den) = q.den from by omega]
theorem tok_cell {n : Nat} {tb : List (List Int)} (ok : TOK n tb) {r b : Nat} (hr : r < tb.length) (hb : b < n) : ∃ row, tb[r]? = some row ∧ row[b]? = some (cellT tb r b) ∧ (cellT tb r b).natAbs ≤ 9 := by
  have hl : b < tb[r].length := by
    rw [ok.rl _ (List.getElem_mem hr)]
    exact hb
  have e : tb[r][b]? = some (cellT tb r b) := by
    unfold cellT
    rw [List.getD_eq_getElem?_getD (l := tb), List.getElem?_eq_getElem hr]
    simp [List.getD_eq_getElem?_getD, List.getElem?_eq_getElem hl]
  exact ⟨tb[r], List.getElem?_eq_getElem hr, e, ok.re _ (List.getElem_mem hr) _ (List.mem_of_getElem? e)⟩
theorem ix_map {α : Type} {f : α → PyData} {xs : List α} {i : Nat} {x : α} (h : xs[i]? = some x) : atI (xs.map f) (i : Int) = some (f x) := atI_nat (by rw [List.getElem?_map, h]; rfl)
theorem sz12 {x : Int} (h : x.natAbs ≤ 9) : Sz 12 x := by
  unfold Sz
  omega
theorem tcol_sz {n : Nat} {tb : List (List Int)} (ok : TOK n tb) {b : Nat} (hb : b < n) : ∀ x ∈ col tb b, Sz 12 x := fun x hx => by
  obtain ⟨r, hr, rfl⟩ := List.mem_map.mp hx
  obtain ⟨_, _, _, h⟩ := tok_cell ok (List.mem_range.mp hr) hb
  exact sz12 h
theorem num_neg (q : Rat) : q.num < 0 ↔ q < 0 := by
  have h := Rat.num_nonneg (q := q)
  rw [← Rat.not_le, ← h]
  omega
def spSum (K : PySem.W.Frag) : Sp := fun vs H Q _ => ∃ (v u : V) (tb : List (List Int)) (qs : List Rat) (b n : Nat), vs = [v, u, .int b] ∧ HasD K H v (tblD tb) ∧ HasD K H u (frsD qs) ∧ qs.length = tb.length ∧ tb.length ≤ 9 ∧ TOK n tb ∧ b < n ∧ (∀ q ∈ qs, RSz 300 q) ∧ Res K H Q (frD (dot (col tb b) qs))
theorem sc__law_sum : FnScope ["table", "pulls", "body", "total", "r"] ["table", "pulls", "body"] (defScope s__law_sum) := ⟨rfl, rfl, rfl, by decide +kernel, rfl, by decide +kernel, by decide +kernel⟩
theorem ok__law_sum {P : Program} {w : World} {K : PySem.W.Frag} {mg : Str → Option Value} {base : Heap} {C : Ad} (T : Txt K mg C) (D : Def K mg "_law_sum" "_law_sum" s__law_sum ["table", "pulls", "body"])
    (o__law_plus : Own P w K mg base CX0 "_law_plus" ["one", "other"] 2 (spLawPlus K)) :
    Own P w K mg base CX0 "_law_sum" ["table", "pulls", "body"] 3 (spSum K) := by
  refine D.own sc__law_sum (fun vs H Q E h => ?_) (fun f cdv A outer s H vs Q E hr h => ?_)
  · obtain ⟨p, x, _, _, _, _, rfl, _⟩ := h
    rfl
  · obtain ⟨v, u, tb, qs, b, n, rfl, hv, hu, hl, h9, tok, hb, hq, k⟩ := h
    refine ⟨_, (pss_cons (ps_set (i := 3) sc__law_sum.nd rfl (Or.inl rfl) (pe_tup (pa_cons pe_int (pa_cons pe_int pa_nil))))
        (pss_cons (ps_for PassesOwn.never rfl (pi_range1 rfl T.b_range (pa_cons (pe_callB (call_lenK (K := K) rfl) rfl T.b_len bt_len (pa_cons (pv 0) pa_nil)) pa_nil)) (pg_name (i := 4) sc__law_sum.nd rfl (Or.inl rfl))
        (pss_one (ps_set (i := 3) sc__law_sum.nd rfl (Or.inl rfl) (pe_own o__law_plus (hr.mono (by decide)) rfl pass0 (pa_cons (pv 3) (pa_cons (pe_tup (pa_cons (pe_op op_mulL (pe_ix (ix_K (K := K) rfl) (pe_ix (ix_K (K := K) rfl) (pv 1) (pv 4) (fun _ _ => rfl)) pe_int (fun _ _ => rfl)) (pe_ix (ix_K (K := K) rfl) (pe_ix (ix_K (K := K) rfl) (pv 0) (pv 4) (fun _ _ => rfl)) (pv 2) (fun _ _ => rfl))) (pa_cons (pe_ix (ix_K (K := K) rfl) (pe_ix (ix_K (K := K) rfl) (pv 1) (pv 4) (fun _ _ => rfl)) pe_int (fun _ _ => rfl)) pa_nil))) pa_nil))))))
        (pss_one (ps_ret (pv 3))))), ?_⟩
    refine ⟨by show 2 ≤ sizeLine; decide, fun t0 n0 => ?_⟩
    have S0 := Same.upd n0 (o := .tup [V.int 0, V.int 1])
    refine ⟨_, rfl, _, _, rfl, .inl (hv.same S0), _, rfl, by omega, by rw [List.length_map]; omega, ?_⟩
    rw [Int.toNat_natCast, List.length_map]
    refine for_range (fun i σ H2 => Same H H2 ∧ ∃ t z, σ = [some v, some u, some (.int b), some t, z] ∧ HasD K H2 t (frD (dot ((col tb b).take i) (qs.take i))))
      ⟨S0, _, _, rfl, fr_has (q := 0) (SqT.of upd_same)⟩ ?_ ?_
    · rintro i σ H2 hi ⟨S, t, z, rfl, ht⟩
      have hiq : i < qs.length := by omega
      obtain ⟨row, e1, e2, c9⟩ := tok_cell tok hi hb
      have ec : (col tb b)[i]? = some (cellT tb i b) := by simp [col, hi]
      have eq : qs[i]? = some qs[i] := List.getElem?_eq_getElem hiq
      have sq := hq _ (List.getElem_mem hiq)
      generalize qs[i] = q at *
      refine ⟨_, rfl, _, rfl, _, rfl, _, _, _, .inl (hu.same S), rfl, by rw [Int.zero_add]; exact ix_map eq, fun u1 h1 => ?_⟩
      refine ⟨_, _, _, .inr h1, rfl, rfl, fun u2 h2 => ?_⟩
      rw [h2.ofint]
      refine ⟨_, rfl, _, rfl, _, _, _, .inl (hv.same S), rfl, by rw [Int.zero_add]; exact ix_map e1, fun u3 h3 => ?_⟩
      refine ⟨_, rfl, _, _, _, .inl h3, rfl, ix_map e2, fun u4 h4 => ?_⟩
      rw [h4.ofint]
      refine ⟨_, _, rfl, rfl, ⟨sq.1.mono (by decide), (sz12 c9).mono (by decide)⟩, ?_⟩
      refine ⟨_, rfl, _, rfl, _, _, _, .inl (hu.same S), rfl, by rw [Int.zero_add]; exact ix_map eq, fun u5 h5 => ?_⟩
      refine ⟨_, _, _, .inr h5, rfl, rfl, fun u6 h6 => ?_⟩
      rw [h6.ofint]
      refine ⟨by show 2 ≤ sizeLine; decide, fun p hp => ?_⟩
      have S3 := Same.upd hp (o := .tup [V.int (q.num * cellT tb i b), V.int q.den])
      have sd : RSz 4000 (dot ((col tb b).take i) (qs.take i)) := (RSz.dot (m := 300) _ _ (fun x hx => tcol_sz tok hb x (List.mem_of_mem_take hx)) (fun x hx => hq x (List.mem_of_mem_take hx))).mono (by
        rw [List.length_take, col_len]
        have h := Nat.mul_le_mul_right 313 (show min i tb.length ≤ 9 by omega)
        omega)
      have hx : HasD K (upd H2 p (.tup [V.int (q.num * cellT tb i b), V.int q.den])) (.ref p) (pairD (q.num * cellT tb i b, (q.den : Int))) := .tup (SqT.of upd_same) (HasDs.ints (ns := [q.num * cellT tb i b, (q.den : Int)]) |>.mpr rfl)
      refine ⟨_, _, (_, _), (_, _), rfl, ht.same S3, hx, den_pos _, den_pos _, sd.1, sd.2, (sq.1.mul (sz12 c9)).mono (by decide), sq.2.mono (by decide), fun r4 H4 S4 N4 => ?_⟩
      refine ⟨(S.trans S3).trans S4, r4, _, rfl, ?_⟩
      rw [dot_take (by rw [col_len, hl]) ec eq]
      have N4' := NewD.has _ N4
      rw [Rat.num_divInt_den, rat_scale] at N4'
      exact N4'
    · rintro σ H2 ⟨S, t, z, rfl, ht⟩
      refine ⟨_, rfl, ?_⟩
      have e1 : (col tb b).take tb.length = col tb b := List.take_of_length_le (by rw [col_len]; omega)
      have e2 : qs.take tb.length = qs := List.take_of_length_le (by omega)
      rw [e1, e2] at ht
      obtain ⟨p, rfl, hp⟩ := has_fr ht
      exact k _ _ S (fr_new hp)
def spHeld (K : PySem.W.Frag) : Sp := fun vs H Q _ => ∃ (v1 v2 v3 : V) (ws : List Int) (tb : List (List Int)) (qs : List Rat), vs = [v1, v2, v3] ∧ HasD K H v1 (intsD ws) ∧ HasD K H v2 (tblD tb) ∧ HasD K H v3 (frsD qs) ∧ qs.length = tb.length ∧ tb.length ≤ 9 ∧ ws.length ≤ 9 ∧ TOK ws.length tb ∧ (∀ q ∈ qs, RSz 300 q) ∧ Res K H Q (.bool (holdsT ws tb qs))
theorem sc__law_held : FnScope ["weights", "table", "pulls", "pull", "body"] ["weights", "table", "pulls"] (defScope s__law_held) := ⟨rfl, rfl, rfl, by decide +kernel, rfl, by decide +kernel, by decide +kernel⟩
theorem ok__law_held {P : Program} {w : World} {K : PySem.W.Frag} {mg : Str → Option Value} {base : Heap} {C : Ad} (T : Txt K mg C) (D : Def K mg "_law_held" "_law_held" s__law_held ["weights", "table", "pulls"])
    (o__law_sum : Own P w K mg base CX0 "_law_sum" ["table", "pulls", "body"] 3 (spSum K)) :
    Own P w K mg base CX0 "_law_held" ["weights", "table", "pulls"] 4 (spHeld K) := by
  refine D.own sc__law_held (fun vs H Q E h => ?_) (fun f cdv A outer s H vs Q E hr h => ?_)
  · obtain ⟨p, x, _, _, _, _, rfl, _⟩ := h
    rfl
  · obtain ⟨v1, v2, v3, ws, tb, qs, rfl, h1, h2, h3, hl, h9, h9', tok, hq, k⟩ := h
    obtain ⟨a, xs, rfl, ha, hd⟩ := h3.oflst
    have lx : xs.length = qs.length := by rw [hd.len, List.length_map]
    refine ⟨_, (pss_cons (ps_for PassesOwn.never rfl (pi_listK (K := K) rfl (pv 2)) (pg_name (i := 3) sc__law_held.nd rfl (Or.inl rfl))
        (pss_one (ps_if (pt_cmpR op_lt (pe_ix (ix_K (K := K) rfl) (pv 3) pe_int (fun _ _ => rfl)) pe_int (nomark _))
        (pss_one (ps_ret pe_bl))
        pss_nil)))
        (pss_cons (ps_for PassesOwn.never rfl (pi_range1 rfl T.b_range (pa_cons (pe_callB (call_lenK (K := K) rfl) rfl T.b_len bt_len (pa_cons (pv 0) pa_nil)) pa_nil)) (pg_name (i := 4) sc__law_held.nd rfl (Or.inl rfl))
        (pss_one (ps_if (pt_cmpR (op_neK (K := K) rfl hr) (pe_own o__law_sum (hr.mono (by decide)) rfl pass0 (pa_cons (pv 1) (pa_cons (pv 2) (pa_cons (pv 4) pa_nil)))) (pe_tup (pa_cons (pe_ix (ix_K (K := K) rfl) (pv 0) (pv 4) (fun _ _ => rfl)) (pa_cons pe_int pa_nil))) (nomark _))
        (pss_one (ps_ret pe_bl))
        pss_nil)))
        (pss_one (ps_ret pe_bl)))), ?_⟩
    refine ⟨_, rfl, a, rfl, ⟨_, ha⟩, for_list (K := K) (a := a) (xs := xs) (fun i σ H2 => Same H H2 ∧ (∀ q ∈ qs.take i, ¬ q < 0) ∧ ∃ z1 z2, σ = [some v1, some v2, some (.ref a), z1, z2]) ⟨Same.refl _, fun _ h => (by rw [List.take_zero] at h; cases h), _, _, rfl⟩ (fun i σ H2 _ ⟨S, _⟩ => S.seq ha) ?_ ?_⟩
    · rintro i x σ H2 hi ⟨S, hn, z1, z2, rfl⟩
      obtain ⟨d, e1, hx⟩ := hd.at hi
      rw [List.getElem?_map] at e1
      cases hqi : qs[i]? with
      | none => rw [hqi] at e1; cases e1
      | some q =>
        rw [hqi] at e1
        cases e1
        refine ⟨_, rfl, _, _, _, .inr (hx.same S), rfl, rfl, fun u hu => ?_⟩
        rw [hu.ofint]
        refine ⟨_, _, rfl, rfl, _, rfl, ?_⟩
        by_cases hz : q < 0
        · refine ifP (by simpa using (num_neg q).mpr hz) ?_
          refine k _ _ S ?_
          have e : nonneg qs = false := by
            unfold nonneg
            rw [List.all_eq_false]
            exact ⟨q, List.mem_of_getElem? hqi, by simpa using hz⟩
          unfold holdsT
          rw [e]
          exact .bl _
        · refine ifN (fun z => hz ((num_neg q).mp (by simpa using z))) ?_
          refine ⟨S, fun q' hq' => ?_, _, _, rfl⟩
          obtain ⟨hi', ei⟩ := List.getElem?_eq_some_iff.mp hqi
          rw [List.take_succ_eq_append_getElem hi', ei] at hq'
          rcases List.mem_append.mp hq' with h | h
          · exact hn q' h
          · rw [List.mem_singleton.mp h]
            exact hz
    · rintro σ H2 ⟨S, hn, z1, z2, rfl⟩
      rw [lx, List.take_length] at hn
      have en : nonneg qs = true := by
        unfold nonneg
        rw [List.all_eq_true]
        intro q hq'
        simpa using hn q hq'
      refine ⟨_, rfl, _, _, rfl, .inl (h1.same S), _, rfl, by omega, by rw [List.length_map]; omega, ?_⟩
      rw [Int.toNat_natCast, List.length_map]
      refine for_range (fun i σ H3 => Same H H3 ∧ (∀ (b : Nat) (w' : Int), b < i → ws[b]? = some w' → dot (col tb b) qs = w') ∧ ∃ z1 z2, σ = [some v1, some v2, some (.ref a), z1, z2]) ⟨S, fun _ _ h => by omega, _, _, rfl⟩ ?_ ?_
      · rintro i σ H3 hi ⟨S3, hb, z1, z2, rfl⟩
        have ew : ws[i]? = some ws[i] := List.getElem?_eq_getElem hi
        generalize ws[i] = w' at *
        refine ⟨_, rfl, _, rfl, _, rfl, _, _, tb, qs, i, ws.length, by rw [Int.zero_add]; rfl, h2.same S3, h3.same S3, hl, h9, tok, hi, hq, fun r4 H4 S4 N4 => ?_⟩
        refine ⟨_, rfl, _, rfl, _, _, _, .inl (h1.same (S3.trans S4)), rfl, by rw [Int.zero_add]; exact ix_map ew, fun u hu => ?_⟩
        rw [hu.ofint]
        refine ⟨by show 2 ≤ sizeLine; decide, fun p hp => ?_⟩
        have S5 := Same.upd hp (o := .tup [V.int w', V.int 1])
        refine ⟨_, frD (w' : Rat), (NewD.has _ N4).same S5, fr_has (q := (w' : Rat)) (SqT.of upd_same), (lays_fr _).lay, (lays_fr _).lay, Nat.le_trans (lays_fr _).dep (by decide), _, rfl, ?_⟩
        have Sx := (S3.trans S4).trans S5
        by_cases he : dot (col tb i) qs = w'
        · have e : PyData.eqv (frD (dot (col tb i) qs)) (frD (w' : Rat)) = true := (eqv_iff _ _ (plain_fr _) (plain_fr _)).mpr (by rw [he])
          refine ifN (by simp [e]) ?_
          refine ⟨Sx, fun b w2 hb' e2 => ?_, _, _, rfl⟩
          by_cases hbi : b = i
          · subst hbi
            rw [ew] at e2
            cases e2
            exact he
          · exact hb b w2 (by omega) e2
        · have e : PyData.eqv (frD (dot (col tb i) qs)) (frD (w' : Rat)) = false := by
            rw [Bool.eq_false_iff]
            intro z
            exact he (frD_inj.mp ((eqv_iff _ _ (plain_fr _) (plain_fr _)).mp z))
          refine ifP (by simp [e]) ?_
          refine k _ _ Sx ?_
          have ef : holdsT ws tb qs = false := by
            unfold holdsT
            rw [en, Bool.true_and, decide_eq_false_iff_not]
            intro z
            have z' : (liftT ws tb qs)[i]? = (ws.map fun w : Int => (w : Rat))[i]? := by rw [z]
            have e3 : (liftT ws tb qs)[i]? = some (dot (col tb i) qs) := by simp [liftT, hi]
            rw [List.getElem?_map, ew, e3] at z'
            exact he (Option.some.inj z')
          rw [ef]
          exact .bl _
      · rintro σ H3 ⟨S3, hb, z1, z2, rfl⟩
        refine k _ _ S3 ?_
        have ef : holdsT ws tb qs = true := by
          unfold holdsT
          rw [en, Bool.true_and, decide_eq_true_iff]
          refine List.ext_getElem (by simp [liftT]) fun i h1' h2' => ?_
          have hi : i < ws.length := by simpa [liftT] using h1'
          simp only [liftT, List.getElem_map, List.getElem_range]
          exact hb i ws[i] hi (List.getElem?_eq_getElem hi)
        rw [ef]
        exact .bl _
def spDrawn (K : PySem.W.Frag) : Sp := fun vs H Q _ => ∃ (v : V) (ns : List Int), vs = [v] ∧ HasD K H v (intsD ns) ∧ ∀ ws tb, HOK ws tb → Res K H Q (.tuple [intsD ws, tblD tb])
theorem menu5 : ∀ n ∈ ([21, 21, 4, 1001, 21] : List Int), 0 < n ∧ n ≤ 1001 := by decide
theorem sm9000 (x : Int) (h : x.natAbs < 1048576) : Sz 9000 x := (show Sz 20 x from h).mono (by decide)
def madeRow (tb : List (List Int)) (ns : List Int) (n b : Nat) : List Int := (List.range n).map fun r => cellT tb r b * ((ns.getD (7 + r) 0).fdiv 7 % 9)
theorem sc__law_drawn : FnScope ["script", "bodies", "ropes", "table", "weights", "body", "cell", "made"] ["script"] (defScope s__law_drawn) := ⟨rfl, rfl, rfl, by decide +kernel, rfl, by decide +kernel, by decide +kernel⟩
theorem ok__law_drawn {P : Program} {w : World} {K : PySem.W.Frag} {mg : Str → Option Value} {base : Heap} {C : Ad} (T : Txt K mg C) (D : Def K mg "_law_drawn" "_law_drawn" s__law_drawn ["script"])
    (o__law_cell_at : Own P w K mg base CX0 "_law_cell_at" ["script", "k"] 1 (spCell K))
    (o__law_table : Own P w K mg base CX0 "_law_table" ["script", "first", "ropes", "bodies"] 2 (spTable K)) :
    Own P w K mg base CX0 "_law_drawn" ["script"] 3 (spDrawn K) := by
  refine D.own sc__law_drawn (fun vs H Q E h => ?_) (fun f cdv A outer s H vs Q E hr h => ?_)
  · obtain ⟨c, _, rfl, _⟩ := h
    rfl
  · obtain ⟨v, ns, rfl, hv, k⟩ := h
    have sl : (100 : Nat) ≤ sizeLine := by decide
    refine ⟨_, (pss_cons (ps_set (i := 1) sc__law_drawn.nd rfl (Or.inl rfl) (pe_op op_add pe_int (pe_op op_mod (pe_own o__law_cell_at (hr.mono (by decide)) rfl pass0 (pa_cons (pv 0) (pa_cons pe_int pa_nil))) pe_int)))
        (pss_consJ (ps_set (i := 2) sc__law_drawn.nd rfl (Or.inl rfl) (pe_op op_mod (pe_op op_fdivL (pe_own o__law_cell_at (hr.mono (by decide)) rfl pass0 (pa_cons (pv 0) (pa_cons pe_int pa_nil))) pe_int) pe_int))
        (pss_cons (ps_set (i := 3) sc__law_drawn.nd rfl (Or.inr rfl) (pe_own o__law_table (hr.mono (by decide)) rfl pass0 (pa_cons (pv 0) (pa_cons pe_int (pa_cons (pv 2) (pa_cons (pv 1) pa_nil))))))
        (pss_cons (ps_set (i := 4) sc__law_drawn.nd rfl (Or.inl rfl) (pe_lst pa_nil))
        (pss_cons (ps_for PassesOwn.never rfl (pi_range1 rfl T.b_range (pa_cons (pv 1) pa_nil)) (pg_name (i := 5) sc__law_drawn.nd rfl (Or.inr rfl))
        (pss_cons (ps_set (i := 6) sc__law_drawn.nd rfl (Or.inl rfl) (pe_own o__law_cell_at (hr.mono (by decide)) rfl pass0 (pa_cons (pv 0) (pa_cons (pe_op op_add pe_int (pv 5)) pa_nil))))
        (pss_one (ps_expr (pe_bm PySem.F.plainAttrs_list PySem.F.slot_list_append PySem.F.type_list_append mt_append (pv 4) (pa_cons (pe_op op_mod (pe_op op_fdivL (pv 6) pe_int) (pe_ix (ix_K (K := K) rfl) (pe_lst (pa_cons pe_int (pa_cons pe_int (pa_cons pe_int (pa_cons pe_int (pa_cons pe_int pa_nil)))))) (pe_op op_mod (pv 6) pe_int) (fun _ _ => rfl))) pa_nil))))))
        (pss_consJ (ps_if (pt_cmpR op_gt (pe_op op_mod (pe_own o__law_cell_at (hr.mono (by decide)) rfl pass0 (pa_cons (pv 0) (pa_cons pe_int pa_nil))) pe_int) pe_int (nomark _))
        (pss_cons (ps_set (i := 7) sc__law_drawn.nd rfl (Or.inl rfl) (pe_lst pa_nil))
        (pss_cons (ps_for PassesOwn.never rfl (pi_range1 rfl T.b_range (pa_cons (pv 1) pa_nil)) (pg_name (i := 5) sc__law_drawn.nd rfl (Or.inr rfl))
        (pss_one (ps_expr (pe_bm PySem.F.plainAttrs_list PySem.F.slot_list_append PySem.F.type_list_append mt_append (pv 7) (pa_cons (pe_callB (call_sumK (K := K) rfl rfl) rfl T.b_sum bt_sum (pa_cons (pe_comp (tg := ["r"]) (cap := ["script", "table", "body"]) (caps := [0, 3, 5]) (CompSc.of_ok (by kernel_rfl)) rfl (gk_name (by decide)) (pi_range1 rfl T.b_range (pa_cons (pv 2) pa_nil)) (fun _ _ _ _ _ => (pg_name (i := 0) (show ((["r"] : List Str) ++ (["script", "table", "body"] : List Str)).Nodup by decide +kernel) rfl (Or.inl rfl))) (fun _ _ _ _ _ => pts_nil) (fun _ _ _ _ _ => (pe_op op_mulL (pe_ix (ix_K (K := K) rfl) (pe_ix (ix_K (K := K) rfl) (pv 2) (pv 0) (fun _ _ => rfl)) (pv 3) (fun _ _ => rfl)) (pe_op op_mod (pe_op op_fdivL (pe_own o__law_cell_at (hr.mono (by decide)) rfl pass0 (pa_cons (pv 1) (pa_cons (pe_op op_add pe_int (pv 0)) pa_nil))) pe_int) pe_int)))) pa_nil)) pa_nil)))))
        (pss_one (ps_if (PW.pt (pw_and (pt_cmpR op_ge (pe_callB (call_minK (K := K) rfl rfl) rfl T.b_min bt_min (pa_cons (pv 7) pa_nil)) pe_int (nomark _)) (pw_and1 (pt_cmpR op_le (pe_callB (call_maxK (K := K) rfl rfl) rfl T.b_max bt_max (pa_cons (pv 7) pa_nil)) pe_int (nomark _)))))
        (pss_one (ps_set (i := 4) sc__law_drawn.nd rfl (Or.inl rfl) (pv 7)))
        pss_nil))))
        pss_nil)
        (pss_one (ps_ret (pe_tup (pa_cons (pv 4) (pa_cons (pv 3) pa_nil))))))))))), ?_⟩
    refine ⟨_, rfl, v, ns, 0, rfl, hv, _, _, rfl, rfl, (by show (0 : Int) < 4; decide), _, _, rfl, rfl, ?_⟩
    refine ⟨fun σ' H' => H' = H ∧ ∃ nb nr : Nat, 1 ≤ nb ∧ nb ≤ 4 ∧ nr ≤ 5 ∧ σ' = [some v, some (.int nb), some (.int nr), none, none, none, none, none], ?_, ?_⟩
    · refine ⟨_, rfl, v, ns, 0, rfl, hv, _, _, rfl, rfl, ⟨by decide, sm9000 4 (by decide)⟩, _, _, rfl, rfl, (by show (0 : Int) < 6; decide), ?_⟩
      have a0 := Int.emod_nonneg (ns.getD 0 0) (show (4 : Int) ≠ 0 by decide)
      have a1 := Int.emod_lt_of_pos (ns.getD 0 0) (show (0 : Int) < 4 by decide)
      have b0 := Int.emod_nonneg ((ns.getD 0 0).fdiv 4) (show (6 : Int) ≠ 0 by decide)
      have b1 := Int.emod_lt_of_pos ((ns.getD 0 0).fdiv 4) (show (0 : Int) < 6 by decide)
      obtain ⟨nb, eb⟩ : ∃ nb : Nat, 1 + ns.getD 0 0 % 4 = nb := ⟨(1 + ns.getD 0 0 % 4).toNat, by omega⟩
      obtain ⟨nr, er⟩ : ∃ nr : Nat, (ns.getD 0 0).fdiv 4 % 6 = nr := ⟨((ns.getD 0 0).fdiv 4 % 6).toNat, by omega⟩
      exact ⟨rfl, nb, nr, by omega, by omega, by omega, by rw [← eb, ← er]; rfl⟩
    · rintro σ' H' ⟨rfl, nb, nr, hb1, hb4, hr5, rfl⟩
      refine ⟨_, rfl, _, rfl, _, rfl, v, ns, 2, nr, nb, rfl, hv, hr5, hb4, fun tb ltb tok t1 H1 S1 N1 => ?_⟩
      have ht1 := NewD.has _ N1
      refine ⟨by show 0 ≤ sizeLine; decide, fun w0 nw => ?_⟩
      have nwH : H' w0 = none := S1.free nw
      refine ⟨_, rfl, _, rfl, by omega, by omega, ?_⟩
      rw [Int.toNat_natCast]
      refine for_range (fun j σ H3 => ∃ (xs : List Int) (z1 z2 : Option V), Same H1 H3 ∧ H3 w0 = some (.lst (xs.map V.int)) ∧ xs.length = j ∧ (∀ x ∈ xs, 0 ≤ x ∧ x ≤ 1000) ∧ σ = [some v, some (.int nb), some (.int nr), some t1, some (.ref w0), z1, z2, none])
        ⟨[], _, _, Same.upd nw, upd_same, rfl, fun _ h => (nomatch h), rfl⟩ ?_ ?_
      · rintro j σ H3 hj ⟨xs, z1, z2, S3, at3, lx, hx, rfl⟩
        refine ⟨_, rfl, _, rfl, _, _, rfl, rfl, v, ns, 7 + j, by rw [Int.zero_add]; rfl, hv.same (S1.trans S3), ?_⟩
        generalize ns.getD (7 + j) 0 = c
        have m0 := Int.emod_nonneg c (show (5 : Int) ≠ 0 by decide)
        have m1 := Int.emod_lt_of_pos c (show (0 : Int) < 5 by decide)
        obtain ⟨b, hb, eb⟩ := atI_intsD (ns := [21, 21, 4, 1001, 21]) m0 m1
        have hb5 := menu5 b hb
        refine ⟨_, rfl, .inl ⟨rfl, _, SqL.of at3⟩, _, rfl, _, _, rfl, rfl, ⟨by decide, sm9000 5 (by decide)⟩, by show 5 ≤ sizeLine; decide, fun l1 n1 => ?_⟩
        refine ⟨_, rfl, _, _, rfl, rfl, (by show (0 : Int) < 5; decide), _, _, _, .inl (HasD.lst (SqL.of upd_same) (HasDs.ints (ns := [21, 21, 4, 1001, 21]) |>.mpr rfl)), rfl, eb, fun u hu => ?_⟩
        rw [hu.ofint]
        have S4 : Same H3 (upd H3 l1 (.lst (([21, 21, 4, 1001, 21] : List Int).map V.int))) := Same.upd n1
        refine ⟨_, _, rfl, rfl, hb5.1, w0, _, _, rfl, rfl, S4 _ _ at3, by rw [List.length_map]; omega, ?_⟩
        have q0 := Int.emod_nonneg (c.fdiv 5) (show b ≠ 0 by omega)
        have q1 := Int.emod_lt_of_pos (c.fdiv 5) hb5.1
        refine ⟨xs ++ [c.fdiv 5 % b], _, _, same_write (S3.trans S4) nw, ?_, by simp [lx], fun x hx' => ?_, rfl⟩
        · rw [upd_same, List.map_append]
          rfl
        · rcases List.mem_append.mp hx' with h | h
          · exact hx x h
          · rw [List.mem_singleton.mp h]
            omega
      · rintro σ H3 ⟨xs, z1, z2, S3, at3, lx, hx, rfl⟩
        have wok : WOK xs := ⟨by omega, by omega, hx⟩
        refine ⟨fun σ' H4 => ∃ (wv : V) (ws : List Int) (z1 z2 z3 : Option V), Same H1 H4 ∧ NewD K H' H4 wv (intsD ws) ∧ WOK ws ∧ ws.length = nb ∧ σ' = [some v, some (.int nb), some (.int nr), some t1, some wv, z1, z2, z3], ?_, ?_⟩
        · refine ⟨_, rfl, v, ns, 1, rfl, hv.same (S1.trans S3), _, _, rfl, rfl, (by show (0 : Int) < 3; decide), _, _, rfl, rfl, _, rfl, ?_⟩
          refine ite2 (fun _ => ?_) (fun _ => ?_)
          · -- made = []
            refine ⟨by show 0 ≤ sizeLine; decide, fun m0 nm => ?_⟩
            refine ⟨_, rfl, _, rfl, by omega, by omega, ?_⟩
            rw [Int.toNat_natCast]
            refine for_range (fun j σ H4 => ∃ (ms : List Int) (z1 z2 : Option V), Same H3 H4 ∧ H4 m0 = some (.lst (ms.map V.int)) ∧ ms.length = j ∧ σ = [some v, some (.int nb), some (.int nr), some t1, some (.ref w0), z1, z2, some (.ref m0)])
              ⟨[], _, _, Same.upd nm, upd_same, rfl, rfl⟩ ?_ ?_
            · rintro j σ H4 hj ⟨ms, z1, z2, S4, at4, lm, rfl⟩
              refine ⟨_, rfl, .inl ⟨rfl, _, SqL.of at4⟩, ?_⟩
              refine ⟨_, rfl, _, rfl, by omega, by omega, fun l hl => ?_⟩
              rw [Int.toNat_natCast]
              have S14 := S3.trans S4
              refine comp_rangeD (K := K) (ds := (madeRow tb ns nr j).map PyData.int) (by simp [madeRow]) hl (by omega) ?_ ?_
              · intro r H5 d R ed S5 kk
                have hr : r < nr := by
                  have := (List.getElem?_eq_some_iff.mp ed).1
                  simpa [madeRow] using this
                have ed' : PyData.int (cellT tb r j * ((ns.getD (7 + r) 0).fdiv 7 % 9)) = d := by
                  simp [-List.getD_eq_getElem?_getD, madeRow, hr] at ed
                  exact ed
                subst ed'
                obtain ⟨row, e1, e2, c9⟩ := tok_cell tok (r := r) (b := j) (by omega) hj
                have S15 := S14.trans S5
                refine ⟨_, rfl, _, rfl, _, _, _, .inl (ht1.same S15), rfl, by rw [Int.zero_add]; exact ix_map e1, fun u1 h1 => ?_⟩
                refine ⟨_, rfl, _, _, _, .inl h1, rfl, by rw [Int.zero_add]; exact ix_map e2, fun u2 h2 => ?_⟩
                rw [h2.ofint]
                refine ⟨_, rfl, _, rfl, _, _, rfl, rfl, v, ns, 7 + r, by rw [Int.zero_add]; rfl, hv.same (S1.trans S15), _, _, rfl, rfl, ⟨by decide, sm9000 7 (by decide)⟩, _, _, rfl, rfl, (by show (0 : Int) < 9; decide), ?_⟩
                generalize ns.getD (7 + r) 0 = c at *
                have q0 := Int.emod_nonneg (c.fdiv 7) (show (9 : Int) ≠ 0 by decide)
                have q1 := Int.emod_lt_of_pos (c.fdiv 7) (show (0 : Int) < 9 by decide)
                refine ⟨_, _, rfl, rfl, ⟨sm9000 _ (by omega), sm9000 _ (by omega)⟩, ?_⟩
                exact kk _ _ (Same.refl _) (.int _)
              · intro H5 S5 N5
                refine ⟨_, _, rfl, NewD.has _ N5, ?_⟩
                refine ⟨m0, _, _, rfl, rfl, S5 _ _ at4, by rw [List.length_map]; omega, ?_⟩
                refine ⟨ms ++ [(madeRow tb ns nr j).sum], _, _, same_write (S4.trans S5) nm, ?_, by simp [lm], rfl⟩
                rw [upd_same, List.map_append]
                rfl
            · rintro σ H4 ⟨ms, z1, z2, S4, at4, lm, rfl⟩
              have nmH : H' m0 = none := (S1.trans S3).free nm
              have hne : ms ≠ [] := fun z => by rw [z] at lm; simp at lm; omega
              have hm4 : HasD K H4 (.ref m0) (.list (ms.map PyData.int)) := .lst (SqL.of at4) (HasDs.ints.mpr rfl)
              refine ⟨_, rfl, _, ms, rfl, hm4, hne, fun lo hlo hmin => ?_⟩
              refine ⟨_, _, rfl, rfl, _, rfl, ?_⟩
              refine ite2 (fun h0 => ?_) (fun _ => ?_)
              · refine ⟨_, rfl, _, ms, rfl, hm4, hne, fun hi hhi hmax => ?_⟩
                refine ⟨_, _, rfl, rfl, _, rfl, ?_⟩
                refine ite2 (fun h1 => ?_) (fun _ => ?_)
                · refine ⟨_, rfl, ?_⟩
                  have h0' : 0 ≤ lo := by simpa using h0
                  have h1' : hi ≤ 1000 := by simpa using h1
                  exact ⟨_, ms, _, _, _, S3.trans S4, ints_new nmH at4, ⟨by omega, by omega, fun x hx => ⟨Int.le_trans h0' (hmin x hx), Int.le_trans (hmax x hx) h1'⟩⟩, lm, rfl⟩
                · exact ⟨_, xs, _, _, _, S3.trans S4, ints_new nwH (S4 _ _ at3), wok, lx, rfl⟩
              · exact ⟨_, xs, _, _, _, S3.trans S4, ints_new nwH (S4 _ _ at3), wok, lx, rfl⟩
          · exact ⟨_, xs, _, _, _, S3, ints_new nwH at3, wok, lx, rfl⟩
        · rintro σ' H4 ⟨wv, ws, z1, z2, z3, S4, N4, wk, lw, rfl⟩
          refine ⟨_, rfl, _, rfl, by show 2 ≤ sizeLine; decide, fun p hp => ?_⟩
          have S5 := Same.upd hp (o := .tup [wv, t1])
          refine k ws tb (TOK.hok (by rw [lw]; exact tok) wk (by omega)) _ _ ((S1.trans S4).trans S5) (.tup (SqT.of upd_same) (.cons (N4.later S5) (.cons (N1.later (S4.trans S5)) .nil)))
theorem mk_same {H : Hp} {x dx C : Addr} (nx : H x = none) (nd : H dx = none) (ne : dx ≠ x) : Same H (upd (upd H dx (.own x)) x (.ins C dx [])) :=
  (Same.upd nd).trans (Same.upd (by rw [upd_ne ne.symm]; exact nx))
theorem make_hoist {K : PySem.W.Frag} {C : Ad} {H2 : Hp} {vw vr : V} {ws : List Int} {tb : List (List Int)} {rs : List (List (Int × Int))} {Q : VK} {E : XK} {x dx : Addr} (nx : H2 x = none) (nd : H2 dx = none) (ne : dx ≠ x) (hw : HasD K H2 vw (intsD ws)) (hr : HasD K H2 vr (ropesD rs)) (ok : HOK ws tb) (tl : Tells ws.length tb rs)
    (k : ∀ H3, Same H2 H3 → HoistAt K C H3 (.ref x) ws tb → Q .non H3) : spHoistI K C [.ref x, vw, vr] (upd (upd H2 dx (.own x)) x (.ins C.Hoist dx [])) Q E := by
  have S := mk_same (C := C.Hoist) nx nd ne
  have lr : rs.length = tb.length := by rw [← tl.is, List.length_map]
  have h5 := ok.r5
  refine ⟨x, dx, vw, vr, ws, rs, rfl, upd_same, hw.same S, hr.same S, ok.toWOK, by omega, tl.ok, fun H3 kp hA => ?_⟩
  rw [tl.is] at hA
  exact k H3 (fun b o e => kp b o (S b o e) (ne_of_none e nx)) hA.at
theorem rng_get {α : Type} {f : Nat → α} {g : α → PyData} {n i : Nat} {d : PyData} (h : (((List.range n).map f).map g)[i]? = some d) : i < n ∧ g (f i) = d := by
  rw [List.map_map, List.getElem?_map] at h
  by_cases hi : i < n
  · rw [List.getElem?_range hi] at h
    exact ⟨hi, Option.some.inj h⟩
  · rw [List.getElem?_eq_none (by simp; omega)] at h
    cases h
def spLaw (K : PySem.W.Frag) : Sp := fun vs H Q _ => ∃ (a : Addr) (ns : List Int), vs = [.ref a] ∧ SqL K H a (ns.map V.int) ∧ ns.length ≤ 63 ∧ ∀ H', Q (.bl true) H'
theorem lift_get {ws : List Int} {tb : List (List Int)} {qs : List Rat} {b : Nat} (hb : b < ws.length) : (liftT ws tb qs).getD b 0 = dot (col tb b) qs := getD_of (by simp [liftT, hb])
theorem spare_get {ws : List Int} {tb : List (List Int)} {qs : List Rat} {r : Nat} (hr : r < tb.length) : (spareT ws tb qs).getD r 0 = dot (rowT tb ws.length r) qs := getD_of (by simp [spareT, hr])
theorem col_dot {tb : List (List Int)} {qs : List Rat} (hl : qs.length = tb.length) (b : Nat) : dot (col tb b) qs = sumN tb.length fun r => ((cellT tb r b : Int) : Rat) * qs.getD r 0 := by
  rw [dot_sumN (by rw [col_len, hl]), col_len]
  exact sumN_congr fun r hr => by rw [show (col tb b).getD r 0 = cellT tb r b from getD_of (by simp [col, hr])]
theorem row_dot {tb : List (List Int)} {n : Nat} {qs : List Rat} (hl : qs.length = n) (r : Nat) : dot (rowT tb n r) qs = sumN n fun b => ((cellT tb r b : Int) : Rat) * qs.getD b 0 := by
  rw [dot_sumN (by rw [rowT_len, hl]), rowT_len]
  exact sumN_congr fun b hb => by rw [show (rowT tb n r).getD b 0 = cellT tb r b from getD_of (by simp [rowT, hb])]
theorem pull_way {ws : List Int} {tb : List (List Int)} {p m : List Rat} (lp : p.length = tb.length) (lm : m.length = ws.length) :
    (sumN tb.length fun r => p.getD r 0 * (spareT ws tb m).getD r 0) = sumN ws.length fun b => (liftT ws tb p).getD b 0 * m.getD b 0 := by
  have e1 : (sumN tb.length fun r => p.getD r 0 * (spareT ws tb m).getD r 0) = sumN tb.length fun r => sumN ws.length fun b => p.getD r 0 * (((cellT tb r b : Int) : Rat) * m.getD b 0) :=
    sumN_congr fun r hr => by rw [spare_get hr, row_dot lm, ← sumN_mul]
  have e2 : (sumN ws.length fun b => (liftT ws tb p).getD b 0 * m.getD b 0) = sumN ws.length fun b => sumN tb.length fun r => p.getD r 0 * (((cellT tb r b : Int) : Rat) * m.getD b 0) :=
    sumN_congr fun b hb => by
      rw [lift_get hb, col_dot lp, ← sumN_mul']
      exact sumN_congr fun r _ => by grind
  rw [e1, e2, sumN_comm]
theorem nonneg_get {qs : List Rat} (h : nonneg qs = true) (i : Nat) : 0 ≤ qs.getD i 0 := by
  unfold nonneg at h
  rw [List.all_eq_true] at h
  cases e : qs[i]? with
  | none => rw [List.getD_eq_getElem?_getD, e]; exact Rat.le_refl
  | some q =>
    rw [getD_of e]
    have := h q (List.mem_of_getElem? e)
    simp at this
    exact Rat.not_lt.mp this
theorem gain_nonneg {ws : List Int} {tb : List (List Int)} {p m : List Rat} (lp : p.length = tb.length) (lm : m.length = ws.length) (h : holdsT ws tb p = true) (hl : nonneg (spareT ws tb m) = true) : 0 ≤ dot ws m := by
  unfold holdsT at h
  rw [Bool.and_eq_true, decide_eq_true_iff] at h
  have e : dot ws m = sumN ws.length fun b => (liftT ws tb p).getD b 0 * m.getD b 0 := by
    rw [dot_sumN lm.symm]
    refine sumN_congr fun b hb => ?_
    rw [h.2, show (ws.map fun w : Int => (w : Rat)).getD b 0 = ((ws.getD b 0 : Int) : Rat) from getD_of (by rw [List.getElem?_map, List.getElem?_eq_getElem hb, getD_of (List.getElem?_eq_getElem hb)]; rfl)]
  rw [e, ← pull_way lp lm]
  exact sumN_nonneg fun r _ => Rat.mul_nonneg (nonneg_get h.1 r) (nonneg_get hl r)
abbrev pulS (ws : List Int) (tb : List (List Int)) (S : Tb) : List Rat := (List.range tb.length).map (xval ws.length tb.length S)
abbrev motS (ws : List Int) (tb : List (List Int)) (S : Tb) : List Rat := (List.range ws.length).map fun k => S.z (tb.length + k)
theorem rngq_getD {n i : Nat} {f : Nat → Rat} (h : i < n) : ((List.range n).map f).getD i 0 = f i := getD_of (by simp [h])
theorem pul_sz {ws : List Int} {tb : List (List Int)} {e : Nat → Rat} {q : Rat} {S : Tb} (ok : HOK ws tb) (F : Fine ws tb e q S) : ∀ x ∈ pulS ws tb S, RSz 300 x := fun x hx => by
  obtain ⟨j, _, rfl⟩ := List.mem_map.mp hx
  by_cases h : inB ws.length S j
  · obtain ⟨i, hi, rfl⟩ := h
    rw [xval_at F.toRws hi]
    exact (F.sz ok hi (Nat.le_refl _)).mono (by decide)
  · rw [xval_no h]
    exact .zero
theorem tq_spare {ws : List Int} {tb : List (List Int)} {e : Nat → Rat} {q : Rat} {S : Tb} (F : Fine ws tb e q S) {r : Nat} (hr : r < tb.length) : dot (rowT tb ws.length r) (motS ws tb S) = S.z r - e r := by
  rw [row_dot (by simp)]
  have := F.spare hr
  rw [sumN_congr (g := fun k => S.z (tb.length + k) * ((cellT tb r k : Int) : Rat)) fun k hk => by rw [rngq_getD hk]; grind, this]
theorem tq_gain {ws : List Int} {tb : List (List Int)} {e : Nat → Rat} {q : Rat} {S : Tb} (F : Fine ws tb e q S) (c : Cost tb.length (tb.length + ws.length) e q) : dot ws (motS ws tb S) = S.z (tb.length + ws.length) := by
  rw [dot_sumN (by simp), ← F.gain c]
  exact sumN_congr fun k hk => by rw [rngq_getD hk]; grind
theorem tq_holds {ws : List Int} {tb : List (List Int)} {e : Nat → Rat} {q : Rat} {S : Tb} (F : Fine ws tb e q S) (p0 : ∀ i, i < ws.length → tb.length ≤ S.b i → S.T i (tb.length + ws.length) = 0) : holdsT ws tb (pulS ws tb S) = true := by
  unfold holdsT
  rw [Bool.and_eq_true]
  constructor
  · unfold nonneg
    rw [List.all_eq_true]
    intro q hq
    obtain ⟨j, _, rfl⟩ := List.mem_map.mp hq
    have := xval_nn F j
    simp only [Bool.not_eq_true', decide_eq_false_iff_not]
    exact Rat.not_lt.mpr this
  · rw [decide_eq_true_eq]
    refine List.ext_getElem? fun b => ?_
    by_cases hb : b < ws.length
    · unfold liftT
      rw [List.getElem?_map, List.getElem?_range hb, List.getElem?_map, List.getElem?_eq_getElem hb]
      show some (dot (col tb b) _) = some ((ws[b] : Int) : Rat)
      rw [col_dot (by simp), sumN_congr (g := fun j => ((cellT tb j b : Int) : Rat) * xval ws.length tb.length S j) fun j hj => by rw [rngq_getD hj], F.holds p0 hb, List.getD_eq_getElem?_getD, List.getElem?_eq_getElem hb]
      rfl
    · rw [List.getElem?_eq_none (by simp [liftT]; omega), List.getElem?_eq_none (by simp; omega)]
def StillP (ws : List Int) (tb : List (List Int)) : Prop := ∃ p : List Rat, p.length = tb.length ∧ holdsT ws tb p = true
def SinkP (ws : List Int) (tb : List (List Int)) : Prop := ∃ m : List Rat, m.length = ws.length ∧ nonneg (spareT ws tb m) = true ∧ dot ws m < 0
theorem still_sink {ws : List Int} {tb : List (List Int)} (h : StillP ws tb) (h' : SinkP ws tb) : False := by
  obtain ⟨p, lp, hp⟩ := h
  obtain ⟨m, lm, hm, hg⟩ := h'
  exact Rat.not_lt.mpr (gain_nonneg lp lm hp hm) hg
theorem still_of {ws : List Int} {tb : List (List Int)} {S : Tb} (F : Fine ws tb (fun _ => 0) 1 S) (h : ¬ S.z (tb.length + ws.length) < 0) : StillP ws tb := ⟨_, by simp, tq_holds F (F.props0 h)⟩
theorem nonneg_of {qs : List Rat} (h : ∀ q ∈ qs, 0 ≤ q) : nonneg qs = true := by
  unfold nonneg
  rw [List.all_eq_true]
  intro q hq
  simp only [Bool.not_eq_true', decide_eq_false_iff_not]
  exact Rat.not_lt.mpr (h q hq)
theorem sink_of {ws : List Int} {tb : List (List Int)} {S : Tb} (F : Fine ws tb (fun _ => 0) 1 S) (hz : ∀ j, j < tb.length → 0 ≤ S.z j) (h : S.z (tb.length + ws.length) < 0) : SinkP ws tb := ⟨motS ws tb S, by simp, nonneg_of fun q hq => by
  unfold spareT at hq
  obtain ⟨r, hr, rfl⟩ := List.mem_map.mp hq
  have hr' := List.mem_range.mp hr
  rw [tq_spare F hr']
  have := hz r hr'
  grind, by rw [tq_gain F cost0]; exact h⟩
theorem LD.holds {ws : List Int} {tb : List (List Int)} {r : Nat} {S : Tb} (h : LD ws tb r S) : holdsT ws tb (pulS ws tb S) = true := tq_holds h.1 fun i hi hb => (h.2.1 i hi hb).1
theorem holds_nn {ws : List Int} {tb : List (List Int)} {p : List Rat} (h : holdsT ws tb p = true) (i : Nat) : 0 ≤ p.getD i 0 := by
  unfold holdsT at h
  rw [Bool.and_eq_true] at h
  exact nonneg_get h.1 i
theorem LD.least {ws : List Int} {tb : List (List Int)} {r : Nat} {S : Tb} (h : LD ws tb r S) (hr : r < tb.length) {p : List Rat} (lp : p.length = tb.length) (hp : holdsT ws tb p = true) : xval ws.length tb.length S r ≤ p.getD r 0 := by
  obtain ⟨F, cl, hz⟩ := h
  have hp' := hp
  unfold holdsT at hp'
  rw [Bool.and_eq_true, decide_eq_true_iff] at hp'
  have e : dot ws (motS ws tb S) = sumN ws.length fun b => (liftT ws tb p).getD b 0 * (motS ws tb S).getD b 0 := by
    rw [dot_sumN (by simp)]
    refine sumN_congr fun b hb => ?_
    rw [hp'.2, show (ws.map fun w : Int => (w : Rat)).getD b 0 = ((ws.getD b 0 : Int) : Rat) from getD_of (by rw [List.getElem?_map, List.getElem?_eq_getElem hb, getD_of (List.getElem?_eq_getElem hb)]; rfl)]
  rw [← pull_way lp (by simp), tq_gain F (cost1 hr), F.pull hr] at e
  rw [sumN_congr (g := fun j => p.getD j 0 * S.z j - (if j = r then p.getD j 0 else 0)) fun j hj => by
    rw [spare_get hj, tq_spare F hj]
    unfold unitE
    split <;> grind, sumN_sub, sumN_one hr (fun j => if j = r then p.getD j 0 else 0) (fun j _ ne => if_neg ne), if_pos rfl] at e
  have nn : 0 ≤ sumN tb.length fun j => p.getD j 0 * S.z j := sumN_nonneg fun j hj => Rat.mul_nonneg (holds_nn hp j) (hz j hj)
  grind
theorem LD.same {ws : List Int} {tb : List (List Int)} {r : Nat} {S S' : Tb} (h : LD ws tb r S) (h' : LD ws tb r S') (hr : r < tb.length) : xval ws.length tb.length S r = xval ws.length tb.length S' r := by
  have a := h.least hr (by simp) h'.holds
  have b := h'.least hr (by simp) h.holds
  rw [rngq_getD hr] at a b
  exact Rat.le_antisymm a b
def toldP (tb : List (List Int)) (n ahead r : Nat) : List (Int × Int) := (List.range n).map fun b => (((ahead + b : Nat) : Int), cellT tb r b)
def toldR (tb : List (List Int)) (n ahead : Nat) : List (List (Int × Int)) := (List.range tb.length).map fun r => toldP tb n ahead r
def spToldP (K : PySem.W.Frag) (C : Ad) : Sp := fun vs H Q _ => ∃ v ws tb, ∃ r ahead : Nat, vs = [v, .int r, .int ahead] ∧ HoistAt K C H v ws tb ∧ r < tb.length ∧ Res K H Q (pairsD (toldP tb ws.length ahead r))
def spToldR (K : PySem.W.Frag) (C : Ad) : Sp := fun vs H Q _ => ∃ v ws tb, ∃ ahead : Nat, vs = [v, .int ahead] ∧ HoistAt K C H v ws tb ∧ Res K H Q (ropesD (toldR tb ws.length ahead))
theorem sumAt_told (f : Nat → Int) (ahead n b : Nat) : sumAt ((List.range n).map fun i => (((ahead + i : Nat) : Int), f i)) b = if ahead ≤ b ∧ b < ahead + n then f (b - ahead) else 0 := by
  induction n with
  | zero =>
    rw [if_neg (by omega)]
    rfl
  | succ n ih =>
    rw [List.range_succ, List.map_append, sumAt_app, ih]
    show _ + sumAt [(((ahead + n : Nat) : Int), f n)] b = _
    rw [sumAt_one]
    by_cases h : ahead + n = b
    · rw [if_neg (by omega), if_pos (by show ((ahead + n : Nat) : Int) = b; omega), if_pos (by omega), show b - ahead = n by omega]
      omega
    · rw [if_neg (show ¬ (((ahead + n : Nat) : Int), f n).1 = (b : Int) by show ¬ ((ahead + n : Nat) : Int) = b; omega)]
      by_cases h2 : ahead ≤ b ∧ b < ahead + n
      · rw [if_pos h2, if_pos (by omega)]
        omega
      · rw [if_neg h2, if_neg (by omega)]
        rfl
theorem sc_told_pairs : FnScope ["hoist", "rope", "ahead"] ["hoist", "rope", "ahead"] (defScope s_told_pairs) := ⟨rfl, rfl, rfl, by decide +kernel, rfl, by decide +kernel, by decide +kernel⟩
theorem ok_told_pairs {P : Program} {w : World} {K : PySem.W.Frag} {mg : Str → Option Value} {base : Heap} {C : Ad} (T : Txt K mg C) (D : Def K mg "told_pairs" "told_pairs" s_told_pairs ["hoist", "rope", "ahead"])
    (o_Hoist_strands : OwnM P w K mg base (CXE P w) C.Hoist "strands" ["self", "rope", "body"] 3 (spStrands K C))
    (o_Hoist_weights : OwnM P w K mg base CX0 C.Hoist "weights" ["self"] 1 (spWeights K C)) :
    Own P w K mg base CX0 "told_pairs" ["hoist", "rope", "ahead"] 4 (spToldP K C) := by
  refine D.own sc_told_pairs (fun vs H Q E h => ?_) (fun f cdv A outer s H vs Q E hr h => ?_)
  · obtain ⟨a, _, _, _, _, rfl, _⟩ := h
    rfl
  · obtain ⟨v, ws, tb, r, ahead, rfl, hA, hr', k⟩ := h
    have h4 := hA.ok.n4
    have h5 := hA.ok.r5
    have sl : (10 : Nat) ≤ sizeLine := by decide
    refine ⟨_, (pss_one (ps_ret (pe_comp (tg := ["body"]) (cap := ["hoist", "rope", "ahead"]) (caps := [0, 1, 2]) (CompSc.of_ok (by kernel_rfl)) rfl (gk_name (by decide)) (pi_range1 rfl T.b_range (pa_cons (pe_callB (call_lenK (K := K) rfl) rfl T.b_len bt_len (pa_cons (pe_ownM0 o_Hoist_weights T.l_Hoist (hr.mono (by decide)) pass0 (pv 0)) pa_nil)) pa_nil)) (fun _ _ _ _ _ => (pg_name (i := 0) (show ((["body"] : List Str) ++ (["hoist", "rope", "ahead"] : List Str)).Nodup by decide +kernel) rfl (Or.inl rfl))) (fun _ _ _ _ _ => pts_nil) (fun _ _ _ _ _ => (pe_tup (pa_cons (pe_op op_add (pv 3) (pv 0)) (pa_cons (pe_ownM o_Hoist_strands T.l_Hoist (hr.mono (by decide)) passN (pv 1) (pa_cons (pv 2) (pa_cons (pv 0) pa_nil))) pa_nil))))))), ?_⟩
    obtain ⟨p, dx, fs, e, hp, hm⟩ := hA.meth (m := "weights") (by decide +kernel) (by decide +kernel)
    refine ⟨_, rfl, p, dx, fs, e, hp, hm, v, ws, tb, rfl, hA, fun r1 H1 S1 N1 => ⟨_, _, rfl, .inl (NewD.has _ N1), _, rfl, by omega, by rw [List.length_map]; omega, fun l hl => ?_⟩⟩
    rw [Int.toNat_natCast, List.length_map]
    refine comp_rangeD (K := K) (ds := (toldP tb ws.length ahead r).map pairD) (by simp [toldP]) hl (by omega) ?_ ?_
    · intro i H2 d R ed S kk
      have hi : i < ws.length := by
        have := (List.getElem?_eq_some_iff.mp ed).1
        simpa [toldP] using this
      have ed' : pairD (((ahead + i : Nat) : Int), cellT tb r i) = d := by
        unfold toldP at ed
        rw [List.map_map, List.getElem?_map, List.getElem?_range hi] at ed
        exact Option.some.inj ed
      subst ed'
      have hA2 := (hA.same S1).same S
      obtain ⟨p, dx, fs, e, hp, hm⟩ := hA2.meth (m := "strands") (by decide +kernel) (by decide +kernel)
      refine ⟨_, rfl, _, rfl, _, _, rfl, rfl, _, rfl, p, dx, fs, e, hp, hm, _, rfl, _, rfl, v, ws, tb, (r : Int), (i : Int), by rw [Int.zero_add]; rfl, hA2, small_nat (by omega), small_nat (by omega), fun _ _ => ?_, fun z => absurd ⟨by omega, by omega⟩ z, fun _ z => absurd ⟨by omega, by omega⟩ z⟩
      refine ⟨by show 2 ≤ sizeLine; decide, fun t ht => ?_⟩
      refine kk _ _ (Same.upd ht) (pair_new (p := (((ahead + i : Nat) : Int), cellT tb r i)) (SqT.of ?_))
      rw [upd_same, Int.toNat_natCast, Int.toNat_natCast, Int.zero_add]
      rfl
    · intro H2 S N
      exact k _ _ (S1.trans S) (N.wider S1)
theorem sc_told_ropes : FnScope ["hoist", "ahead"] ["hoist", "ahead"] (defScope s_told_ropes) := ⟨rfl, rfl, rfl, by decide +kernel, rfl, by decide +kernel, by decide +kernel⟩
theorem ok_told_ropes {P : Program} {w : World} {K : PySem.W.Frag} {mg : Str → Option Value} {base : Heap} {C : Ad} (T : Txt K mg C) (D : Def K mg "told_ropes" "told_ropes" s_told_ropes ["hoist", "ahead"])
    (o_Hoist_many_ropes : OwnM P w K mg base CX0 C.Hoist "many_ropes" ["self"] 1 (spManyRopes K C))
    (o_told_pairs : Own P w K mg base CX0 "told_pairs" ["hoist", "rope", "ahead"] 4 (spToldP K C)) :
    Own P w K mg base CX0 "told_ropes" ["hoist", "ahead"] 5 (spToldR K C) := by
  refine D.own sc_told_ropes (fun vs H Q E h => ?_) (fun f cdv A outer s H vs Q E hr h => ?_)
  · obtain ⟨a, _, _, _, rfl, _⟩ := h
    rfl
  · obtain ⟨v, ws, tb, ahead, rfl, hA, k⟩ := h
    have h5 := hA.ok.r5
    have sl : (10 : Nat) ≤ sizeLine := by decide
    refine ⟨_, (pss_one (ps_ret (pe_comp (tg := ["rope"]) (cap := ["hoist", "ahead"]) (caps := [0, 1]) (CompSc.of_ok (by kernel_rfl)) rfl (gk_name (by decide)) (pi_range1 rfl T.b_range (pa_cons (pe_ownM0 o_Hoist_many_ropes T.l_Hoist (hr.mono (by decide)) pass0 (pv 0)) pa_nil)) (fun _ _ _ _ _ => (pg_name (i := 0) (show ((["rope"] : List Str) ++ (["hoist", "ahead"] : List Str)).Nodup by decide +kernel) rfl (Or.inl rfl))) (fun _ _ _ _ _ => pts_nil) (fun _ _ _ _ _ => (pe_own o_told_pairs (hr.mono (by decide)) rfl pass0 (pa_cons (pv 1) (pa_cons (pv 0) (pa_cons (pv 2) pa_nil)))))))), ?_⟩
    obtain ⟨p, dx, fs, e, hp, hm⟩ := hA.meth (m := "many_ropes") (by decide +kernel) (by decide +kernel)
    refine ⟨_, rfl, p, dx, fs, e, hp, hm, v, ws, tb, rfl, hA, _, rfl, by omega, by omega, fun l hl => ?_⟩
    rw [Int.toNat_natCast]
    refine comp_rangeD (K := K) (ds := (toldR tb ws.length ahead).map pairsD) (by simp [toldR]) hl (by omega) ?_ ?_
    · intro i H2 d R ed S kk
      obtain ⟨hi, rfl⟩ := rng_get ed
      exact ⟨_, rfl, _, rfl, _, rfl, v, ws, tb, i, ahead, by rw [Int.zero_add]; rfl, hA.same S, hi, kk⟩
    · intro H2 S N
      exact k _ _ S N
theorem told_rok {ws : List Int} {tb : List (List Int)} (ok : HOK ws tb) (r : Nat) : ROK ws.length (toldP tb ws.length 0 r) ∧ sums (toldP tb ws.length 0 r) ws.length = rowT tb ws.length r := by
  have e : sums (toldP tb ws.length 0 r) ws.length = rowT tb ws.length r := by
    refine List.ext_getElem (by simp [sums, rowT]) fun i h1 h2 => ?_
    have hi : i < ws.length := by simpa [sums] using h1
    simp only [sums, rowT, List.getElem_map, List.getElem_range]
    unfold toldP
    rw [sumAt_told (fun b => cellT tb r b) 0 ws.length i, if_pos (by omega)]
    rfl
  refine ⟨⟨by have := ok.n4; simp [toldP]; omega, fun p hp => ?_, fun s hs => ?_⟩, e⟩
  · obtain ⟨b, hb, rfl⟩ := List.mem_map.mp hp
    have := List.mem_range.mp hb
    refine ⟨by show (0 : Int) ≤ ((0 + b : Nat) : Int); omega, by show ((0 + b : Nat) : Int) < _; omega, cellT_le ok r b⟩
  · rw [e] at hs
    obtain ⟨b, _, rfl⟩ := List.mem_map.mp hs
    exact cellT_le ok r b
theorem toldR_tells {ws : List Int} {tb : List (List Int)} (ok : HOK ws tb) : Tells ws.length tb (toldR tb ws.length 0) := by
  refine ⟨fun ps hps => ?_, ?_⟩
  · obtain ⟨r, _, rfl⟩ := List.mem_map.mp hps
    exact (told_rok ok r).1
  · refine List.ext_getElem (by simp [toldR]) fun i h1 h2 => ?_
    simp only [toldR, List.getElem_map, List.getElem_range]
    rw [(told_rok ok i).2, rowT_eq ok h2]
theorem Tells.take {n : Nat} {tb : List (List Int)} {rs : List (List (Int × Int))} (h : Tells n tb rs) (r : Nat) : Tells n (tb.take r ++ tb.drop (r + 1)) (rs.take r ++ rs.drop (r + 1)) := by
  refine ⟨fun ps hps => ?_, by rw [List.map_append, List.map_take, List.map_drop, h.is]⟩
  rcases List.mem_append.mp hps with h1 | h1
  · exact h.ok ps (List.mem_of_mem_take h1)
  · exact h.ok ps (List.mem_of_mem_drop h1)
theorem HOK.without {ws : List Int} {tb : List (List Int)} (ok : HOK ws tb) (r : Nat) : HOK ws (tb.take r ++ tb.drop (r + 1)) := by
  have sub : ∀ row ∈ tb.take r ++ tb.drop (r + 1), row ∈ tb := fun row h => by
    rcases List.mem_append.mp h with h | h
    · exact List.mem_of_mem_take h
    · exact List.mem_of_mem_drop h
  refine ⟨ok.toWOK, ?_, fun row h => ok.rl row (sub row h), fun row h => ok.re row (sub row h)⟩
  have := ok.r5
  simp
  omega
def spWithout (K : PySem.W.Frag) (C : Ad) : Sp := fun vs H Q E => ∃ v ws tb r, vs = [v, .int r] ∧ HoistAt K C H v ws tb ∧ smallI r ∧ (0 ≤ r ∧ r < tb.length → ∀ p H', Same H H' → H p = none → HoistAt K C H' (.ref p) ws (tb.take r.toNat ++ tb.drop (r.toNat + 1)) → Q (.ref p) H') ∧ (¬ (0 ≤ r ∧ r < tb.length) → E (.ref C.NoRope) none H)
theorem sc_without : FnScope ["hoist", "rope", "ropes"] ["hoist", "rope"] (defScope s_without) := ⟨rfl, rfl, rfl, by decide +kernel, rfl, by decide +kernel, by decide +kernel⟩
theorem ok_without {P : Program} {w : World} {K : PySem.W.Frag} {mg : Str → Option Value} {base : Heap} {C : Ad} (T : Txt K mg C) (D : Def K mg "without" "without" s_without ["hoist", "rope"])
    (o_Hoist___init__ : OwnI P w K mg base CX0 C.Hoist ["self", "weights", "ropes"] 3 (spHoistI K C))
    (o_Hoist_weights : OwnM P w K mg base CX0 C.Hoist "weights" ["self"] 1 (spWeights K C))
    (o_check_rope : Own P w K mg base (CXE P w) "check_rope" ["hoist", "rope"] 2 (spCheckRope K C))
    (o_told_ropes : Own P w K mg base CX0 "told_ropes" ["hoist", "ahead"] 5 (spToldR K C)) :
    Own P w K mg base (CXE P w) "without" ["hoist", "rope"] 6 (spWithout K C) := by
  refine D.ownE sc_without (fun vs H Q E h => ?_) (fun f cdv A outer s H vs Q E hr h => ?_)
  · obtain ⟨a, _, _, _, rfl, _⟩ := h
    rfl
  · obtain ⟨v, ws, tb, r, rfl, hA, hs, k, ke⟩ := h
    have h5 := hA.ok.r5
    have sl : (10 : Nat) ≤ sizeLine := by decide
    refine ⟨_, (pss_cons (ps_expr (pe_own o_check_rope (hr.mono (by decide)) rfl passE (pa_cons (pv 0) (pa_cons (pv 1) pa_nil))))
        (pss_cons (ps_set (i := 2) sc_without.nd rfl (Or.inl rfl) (pe_own o_told_ropes (hr.mono (by decide)) rfl pass0 (pa_cons (pv 0) (pa_cons pe_int pa_nil))))
        (pss_one (ps_ret (pe_ownI o_Hoist___init__ (hr.mono (by decide)) rfl T.c_Hoist pass0 (pa_cons (pe_ownM0 o_Hoist_weights T.l_Hoist (hr.mono (by decide)) pass0 (pv 0)) (pa_cons (pe_op op_cat (pe_slice (sl_listK (K := K) rfl) (pv 2) po_none (po_some (pv 1))) (pe_slice (sl_listK (K := K) rfl) (pv 2) (po_some (pe_op op_add (pv 1) pe_int)) po_none)) pa_nil))))))), ?_⟩
    refine ⟨_, rfl, _, rfl, v, ws, tb, r, rfl, hA, hs, fun hr' => ?_, ke⟩
    obtain ⟨rn, rfl⟩ : ∃ rn : Nat, r = rn := ⟨r.toNat, by omega⟩
    refine ⟨_, rfl, v, ws, tb, 0, rfl, hA, fun r1 H1 S1 N1 => ?_⟩
    obtain ⟨ra, rxs, rfl, nra, hra, hrd⟩ := N1.oflst
    have lrx : rxs.length = tb.length := by rw [hrd.len, List.length_map]; simp [toldR]
    obtain ⟨p, dx, fs, e, hp, hm⟩ := (hA.same S1).meth (m := "weights") (by decide +kernel) (by decide +kernel)
    refine ⟨_, rfl, p, dx, fs, e, hp, hm, v, ws, tb, rfl, hA.same S1, fun r2 H2 S2 N2 => ?_⟩
    refine ⟨_, rfl, _, rfl, _, rfl, ra, rxs, rfl, SqL.of (S2 _ _ hra), fun l1 nl1 => ?_⟩
    have Sl1 := Same.upd nl1 (o := .lst (cutV rxs none (some (rn : Int))))
    refine ⟨_, rfl, _, rfl, _, _, rfl, rfl, _, rfl, ra, rxs, rfl, SqL.of ((S2.trans Sl1) _ _ hra), fun l2 nl2 => ?_⟩
    have Sl2 := Same.upd nl2 (o := .lst (cutV rxs (some ((rn : Int) + 1)) none))
    have e1 : cutV rxs none (some (rn : Int)) = rxs.take rn := cut_to (by omega)
    have e2 : cutV rxs (some ((rn : Int) + 1)) none = rxs.drop (rn + 1) := cut_from (r := rn + 1) (by omega)
    refine ⟨l1, l2, _, _, rfl, rfl, Sl2 _ _ upd_same, upd_same, ?_, fun l3 nl3 => ?_⟩
    · have := cutV_length rxs none (some (rn : Int))
      have := cutV_length rxs (some ((rn : Int) + 1)) none
      omega
    have Sl3 := Same.upd nl3 (o := .lst (cutV rxs none (some (rn : Int)) ++ cutV rxs (some ((rn : Int) + 1)) none))
    have Sx := ((S2.trans Sl1).trans Sl2).trans Sl3
    intro x dx nx nd ne
    refine make_hoist nx nd ne ((NewD.has _ N2).same ((Sl1.trans Sl2).trans Sl3)) (rs := (toldR tb ws.length 0).take rn ++ (toldR tb ws.length 0).drop (rn + 1)) (.lst (SqL.of upd_same) ?_) (hA.ok.without rn) ((toldR_tells hA.ok).take rn) fun H3 S3 hA3 => ⟨rfl, ?_⟩
    · rw [List.map_append, List.map_take, List.map_drop]
      have hd := (NewDs.has _ hrd).same Sx
      have hx := (hd.take rn).app (hd.drop (rn + 1))
      rw [← e1, ← e2] at hx
      exact hx
    · have Sf := (S1.trans Sx).trans S3
      exact k hr' x H3 Sf ((S1.trans Sx).free nx) hA3
open Classical in
noncomputable def stB (ws : List Int) (tb : List (List Int)) : Bool := decide (StillP ws tb)
theorem stB_yes {ws : List Int} {tb : List (List Int)} (h : StillP ws tb) : stB ws tb = true := by unfold stB; simp [h]
theorem stB_no {ws : List Int} {tb : List (List Int)} (h : SinkP ws tb) : stB ws tb = false := by
  unfold stB
  simp only [decide_eq_false_iff_not]
  exact fun z => still_sink z h
theorem stB_iff {ws : List Int} {tb : List (List Int)} : stB ws tb = true ↔ StillP ws tb := by unfold stB; simp
def leftT (tb : List (List Int)) (r : Nat) : List (List Int) := tb.take r ++ tb.drop (r + 1)
noncomputable def sparedN (ws : List Int) (tb : List (List Int)) (n : Nat) : List Nat := (List.range n).filter fun r => stB ws (leftT tb r)
theorem spared_succ (ws : List Int) (tb : List (List Int)) (n : Nat) : sparedN ws tb (n + 1) = sparedN ws tb n ++ if stB ws (leftT tb n) = true then [n] else [] := by
  unfold sparedN
  rw [List.range_succ, List.filter_append]
  congr 1
  by_cases h : stB ws (leftT tb n) = true <;> simp [h]
theorem spared_len (ws : List Int) (tb : List (List Int)) (n : Nat) : (sparedN ws tb n).length ≤ n := by
  have := List.length_filter_le (fun r => stB ws (leftT tb r)) (List.range n)
  rw [List.length_range] at this
  exact this
theorem spared_mem {ws : List Int} {tb : List (List Int)} {n r : Nat} : r ∈ sparedN ws tb n ↔ r < n ∧ stB ws (leftT tb r) = true := by
  unfold sparedN
  rw [List.mem_filter, List.mem_range]
theorem spared_small {ws : List Int} {tb : List (List Int)} {n : Nat} (h : n ≤ 5) : SmallS (sparedN ws tb n) :=
  ⟨List.Pairwise.filter _ List.pairwise_lt_range, fun x hx => by have := (spared_mem.mp hx).1; omega⟩
theorem natsV_snoc (xs : List Nat) (n : Nat) : natsV (xs ++ [n]) = natsV xs ++ [V.int (n : Nat)] := by simp [natsV]
theorem natsV_len (xs : List Nat) : (natsV xs).length = xs.length := by simp [natsV]
def natsD (xs : List Nat) : PyData := intsD (xs.map fun n => ((n : Nat) : Int))
def spCbs (K : PySem.W.Frag) (C : Ad) : Sp := fun vs H Q E => ∃ (v : V) (ws : List Int) (tb : List (List Int)), vs = [v] ∧ HoistAt K C H v ws tb ∧
  (StillP ws tb → ∀ l H', Same H H' → H l = none → H' l = some (.lst (natsV (sparedN ws tb tb.length))) → Q (.ref l) H') ∧ (SinkP ws tb → ∀ H', Same H H' → E (.ref C.Sinks) none H')
theorem pt_truthK {X : Cx} {K : PySem.W.Frag} {a : Expr} {ta : TE} (hK : X.K = K) (ha : PE X a ta) (he : ∀ whole, isTrue a X.env whole = (do let v ← whole; standAt a.pos; holding [v] (truthy v))) : PT X a (fun σ H Q => ta σ H fun x H' => ∃ k, TruV K x H' k ∧ Q k H') := by subst hK; exact pt_truth ha he
seal L2.PA L2.PE L2.PT L2.PS L2.PSs L2.PG L2.PI L2.PO L2.PW L2.PTs
theorem sc_can_be_spared : FnScope ["hoist"] ["hoist"] (defScope s_can_be_spared) := ⟨rfl, rfl, rfl, by decide +kernel, rfl, by decide +kernel, by decide +kernel⟩
theorem ok_can_be_spared {P : Program} {w : World} {K : PySem.W.Frag} {mg : Str → Option Value} {base : Heap} {C : Ad} (T : Txt K mg C) (D : Def K mg "can_be_spared" "can_be_spared" s_can_be_spared ["hoist"])
    (o_Bearing___init__ : OwnI P w K mg base CX0 C.Bearing ["self", "hoist"] 7 (spBearI K C))
    (o_Bearing_sinks : OwnM P w K mg base CX0 C.Bearing "sinks" ["self"] 2 (spSinks K C))
    (o_Hoist_many_ropes : OwnM P w K mg base CX0 C.Hoist "many_ropes" ["self"] 1 (spManyRopes K C))
    (o_still_bearing : Own P w K mg base (CXE P w) "still_bearing" ["hoist"] 9 (spStillB K C))
    (o_without : Own P w K mg base (CXE P w) "without" ["hoist", "rope"] 6 (spWithout K C)) :
    Own P w K mg base (CXE P w) "can_be_spared" ["hoist"] 10 (spCbs K C) := by
  refine D.ownE sc_can_be_spared (fun vs H Q E h => ?_) (fun f cdv A outer s H vs Q E hr h => ?_)
  · obtain ⟨a, _, _, rfl, _⟩ := h
    rfl
  · obtain ⟨v, ws, tb, rfl, hA, k1, k2⟩ := h
    refine ⟨_, (pss_cons (ps_expr (pe_own o_still_bearing (hr.mono (by decide)) rfl passE (pa_cons (pv 0) pa_nil)))
        (pss_one (ps_ret (pe_comp (tg := ["rope"]) (cap := ["hoist"]) (caps := [0]) (CompSc.of_ok (by kernel_rfl)) rfl (gk_name (by decide)) (pi_range1 rfl T.b_range (pa_cons (pe_ownM0 o_Hoist_many_ropes T.l_Hoist (hr.mono (by decide)) pass0 (pv 0)) pa_nil)) (fun _ _ _ _ _ => (pg_name (i := 0) (show ((["rope"] : List Str) ++ (["hoist"] : List Str)).Nodup by decide +kernel) rfl (Or.inl rfl))) (fun _ _ _ _ _ => (pts_one (pt_not (pt_truthK (K := K) rfl (pe_ownM0 o_Bearing_sinks T.l_Bearing (hr.mono (by decide)) pass0 (pe_ownI o_Bearing___init__ (hr.mono (by decide)) rfl T.c_Bearing pass0 (pa_cons (pe_own o_without (hr.mono (by decide)) rfl passN (pa_cons (pv 1) (pa_cons (pv 0) pa_nil))) pa_nil))) (fun _ => rfl))))) (fun _ _ _ _ _ => (pv 0)))))), ?_⟩
    have ok := hA.ok
    have r5 := ok.r5
    have sl : (100 : Nat) ≤ sizeLine := by decide
    refine ⟨_, rfl, v, ws, tb, rfl, hA, fun S0 H1 u B0 F0 fin0 st0 => ?_, fun S H1 S1 F fin sk => k2 (sink_of F fin sk) H1 S1⟩
    have S1 := B0.same
    have hA1 := hA.same S1
    obtain ⟨p, dx, fs, e, hp, hm⟩ := hA1.meth (m := "many_ropes") (by decide +kernel) (by decide +kernel)
    refine ⟨_, rfl, p, dx, fs, e, hp, hm, v, ws, tb, rfl, hA1, _, rfl, by omega, by omega, fun l hl => ?_⟩
    rw [Int.toNat_natCast]
    refine comp_range (fun i vs H2 => H2 l = some (.lst vs) ∧ Same H1 H2 ∧ vs = natsV (sparedN ws tb i)) ⟨upd_same, Same.upd hl, rfl⟩ (fun i vs H2 hi ⟨a, b, c⟩ => ⟨a, by rw [c, natsV_len]; exact spared_len _ _ _⟩) (by omega) ?_ ?_
    · rintro i vs H2 hi ⟨h1, h2, rfl⟩
      have hA2 := hA1.same h2
      refine ⟨_, rfl, _, rfl, v, ws, tb, (i : Int), by rw [Int.zero_add]; rfl, hA2, small_nat (by omega), fun _ p H3 S3 np hL => ?_, fun z => absurd ⟨by omega, by omega⟩ z⟩
      rw [Int.toNat_natCast] at hL
      intro x dx nx nd ne
      refine ⟨x, dx, .ref p, ws, leftT tb i, H3, rfl, upd_same, mkB_same nx nd ne, nx, hL, fun H4 S B F fin => ⟨rfl, ?_⟩⟩
      obtain ⟨p4, dx4, fs4, ee, hp4, hm4⟩ := B.meth (m := "sinks") (by decide +kernel)
      refine ⟨p4, dx4, fs4, ee, hp4, hm4, _, ws, leftT tb i, H3, S, rfl, B, (F.zsz hL.ok cost0 (Nat.le_refl _)).mono (by decide), _, rfl, ?_⟩
      have S24 := S3.trans B.same
      by_cases sk : S.z ((leftT tb i).length + ws.length) < 0
      · refine ifN (by simp [sk]) ?_
        refine ⟨S24 _ _ h1, h2.trans S24, ?_⟩
        rw [spared_succ, if_neg (by rw [stB_no (sink_of F fin sk)]; decide), List.append_nil]
      · refine ifP (by simp [sk]) ?_
        refine ⟨_, rfl, S24 _ _ h1, upd_same, same_write (h2.trans S24) hl, ?_⟩
        rw [spared_succ, if_pos (stB_yes (still_of F sk)), natsV_snoc, Int.zero_add]
    · rintro vs H2 ⟨h1, h2, rfl⟩
      exact k1 (still_of F0 st0) l H2 (S1.trans h2) (S1.free hl) h1
unseal L2.PA L2.PE L2.PT L2.PS L2.PSs L2.PG L2.PI L2.PO L2.PW L2.PTs
theorem sumN_split (f : Nat → Rat) (a : Nat) : ∀ b, sumN (a + b) f = sumN a f + sumN b fun r => f (a + r)
  | 0 => by
    show sumN a f = sumN a f + sumN 0 _
    rw [show sumN 0 (fun r => f (a + r)) = 0 from rfl]
    grind
  | b + 1 => by
    rw [← Nat.add_assoc, sumN, sumN_split f a b, sumN]
    grind
theorem holds_iff {ws : List Int} {tb : List (List Int)} {p : List Rat} (lp : p.length = tb.length) : holdsT ws tb p = true ↔ (∀ r, 0 ≤ p.getD r 0) ∧ ∀ b, b < ws.length → (sumN tb.length fun r => ((cellT tb r b : Int) : Rat) * p.getD r 0) = ((ws.getD b 0 : Int) : Rat) := by
  constructor
  · intro h
    refine ⟨holds_nn h, fun b hb => ?_⟩
    unfold holdsT at h
    rw [Bool.and_eq_true, decide_eq_true_iff] at h
    rw [← col_dot lp, ← lift_get (ws := ws) hb, h.2]
    exact getD_of (by rw [List.getElem?_map, List.getElem?_eq_getElem hb, getD_of (List.getElem?_eq_getElem hb)]; rfl)
  · rintro ⟨h1, h2⟩
    unfold holdsT
    rw [Bool.and_eq_true, decide_eq_true_iff]
    refine ⟨nonneg_of fun q hq => ?_, ?_⟩
    · obtain ⟨i, hi, rfl⟩ := List.getElem_of_mem hq
      have := h1 i
      rwa [getD_of (List.getElem?_eq_getElem hi)] at this
    · refine List.ext_getElem? fun b => ?_
      by_cases hb : b < ws.length
      · unfold liftT
        rw [List.getElem?_map, List.getElem?_range hb, List.getElem?_map, List.getElem?_eq_getElem hb]
        show some (dot (col tb b) _) = some ((ws[b] : Int) : Rat)
        rw [col_dot lp, h2 b hb, getD_of (List.getElem?_eq_getElem hb)]
      · rw [List.getElem?_eq_none (by simp [liftT]; omega), List.getElem?_eq_none (by simp; omega)]
theorem without_get {α : Type} {l : List α} {r : Nat} (hr : r < l.length) (j : Nat) (d : α) : (l.take r ++ l.drop (r + 1)).getD j d = if j < r then l.getD j d else l.getD (j + 1) d := by
  have lt : (l.take r).length = r := by rw [List.length_take]; omega
  by_cases h : j < r
  · rw [if_pos h, List.getD_eq_getElem?_getD, List.getElem?_append_left (by omega), List.getElem?_take_of_lt h, ← List.getD_eq_getElem?_getD]
  · rw [if_neg h, List.getD_eq_getElem?_getD, List.getElem?_append_right (by omega), lt, List.getElem?_drop, show r + 1 + (j - r) = j + 1 by omega, ← List.getD_eq_getElem?_getD]
theorem left_len {tb : List (List Int)} {r : Nat} (hr : r < tb.length) : (leftT tb r).length + 1 = tb.length := by
  unfold leftT
  rw [List.length_append, List.length_take, List.length_drop]
  omega
theorem left_cell {tb : List (List Int)} {r : Nat} (hr : r < tb.length) (j b : Nat) : cellT (leftT tb r) j b = if j < r then cellT tb j b else cellT tb (j + 1) b := by
  unfold cellT leftT
  rw [without_get hr]
  split <;> rfl
theorem left_holds {ws : List Int} {tb : List (List Int)} {p : List Rat} {r : Nat} (hr : r < tb.length) (lp : p.length = tb.length) (h0 : p.getD r 0 = 0) : holdsT ws tb p = true ↔ holdsT ws (leftT tb r) (p.take r ++ p.drop (r + 1)) = true := by
  have ll := left_len hr
  have hp : r < p.length := by omega
  have lq : (p.take r ++ p.drop (r + 1)).length = (leftT tb r).length := by
    rw [List.length_append, List.length_take, List.length_drop]
    omega
  have g := fun j => without_get hp j (0 : Rat)
  have es : ∀ b, (sumN tb.length fun j => ((cellT tb j b : Int) : Rat) * p.getD j 0) = sumN (leftT tb r).length fun j => ((cellT (leftT tb r) j b : Int) : Rat) * (p.take r ++ p.drop (r + 1)).getD j 0 := fun b => by
    obtain ⟨m, em⟩ : ∃ m, tb.length = r + 1 + m := ⟨tb.length - (r + 1), by omega⟩
    rw [em, show (leftT tb r).length = r + m by omega, sumN_split _ (r + 1) m, sumN_split _ r m]
    rw [show sumN (r + 1) (fun j => ((cellT tb j b : Int) : Rat) * p.getD j 0) = sumN r (fun j => ((cellT tb j b : Int) : Rat) * p.getD j 0) + ((cellT tb r b : Int) : Rat) * p.getD r 0 from rfl, h0]
    rw [sumN_congr (n := r) (f := fun j => ((cellT (leftT tb r) j b : Int) : Rat) * (p.take r ++ p.drop (r + 1)).getD j 0) (g := fun j => ((cellT tb j b : Int) : Rat) * p.getD j 0) fun j hj => by rw [left_cell hr, g, if_pos hj, if_pos hj]]
    rw [sumN_congr (n := m) (f := fun j => ((cellT (leftT tb r) (r + j) b : Int) : Rat) * (p.take r ++ p.drop (r + 1)).getD (r + j) 0) (g := fun j => ((cellT tb (r + 1 + j) b : Int) : Rat) * p.getD (r + 1 + j) 0) fun j hj => by rw [left_cell hr, g, if_neg (by omega), if_neg (by omega), show r + j + 1 = r + 1 + j by omega]]
    grind
  rw [holds_iff lp, holds_iff lq]
  refine and_congr ⟨fun h j => ?_, fun h j => ?_⟩ ⟨fun h b hb => by rw [← es]; exact h b hb, fun h b hb => by rw [es]; exact h b hb⟩
  · rw [g]
    split
    · exact h j
    · exact h (j + 1)
  · by_cases c : j < r
    · have := h j
      rw [g, if_pos c] at this
      exact this
    · by_cases e : j = r
      · rw [e, h0]
        exact Rat.le_refl
      · have := h (j - 1)
        rw [g, if_neg (by omega), show j - 1 + 1 = j by omega] at this
        exact this
theorem spare_iff {ws : List Int} {tb : List (List Int)} {r : Nat} {S : Tb} (hr : r < tb.length) (ld : LD ws tb r S) : xval ws.length tb.length S r = 0 ↔ StillP ws (leftT tb r) := by
  have ll := left_len hr
  constructor
  · intro h
    have lp : (pulS ws tb S).length = tb.length := by simp
    have := (left_holds hr lp (by rw [rngq_getD hr]; exact h)).mp ld.holds
    refine ⟨_, ?_, this⟩
    rw [List.length_append, List.length_take, List.length_drop]
    omega
  · rintro ⟨q, lq, hq⟩
    have lt : (q.take r).length = r := by rw [List.length_take]; omega
    have lp : (q.take r ++ 0 :: q.drop r).length = tb.length := by
      rw [List.length_append, lt, List.length_cons, List.length_drop]
      omega
    have g0 : (q.take r ++ 0 :: q.drop r).getD r 0 = 0 := by
      rw [List.getD_eq_getElem?_getD, List.getElem?_append_right (by omega), lt, Nat.sub_self]
      rfl
    have e : (q.take r ++ 0 :: q.drop r).take r ++ (q.take r ++ 0 :: q.drop r).drop (r + 1) = q := by
      rw [List.take_append_of_le_length (by omega), List.take_of_length_le (by omega), List.drop_append, List.drop_eq_nil_of_le (by omega), lt, show r + 1 - r = 1 by omega]
      show q.take r ++ q.drop r = q
      exact List.take_append_drop r q
    have hh := (left_holds (ws := ws) hr lp g0).mpr (by rw [e]; exact hq)
    have a := ld.least hr lp hh
    rw [g0] at a
    have b := holds_nn ld.holds r
    rw [rngq_getD hr] at b
    exact Rat.le_antisymm a b
theorem in_nats (r : Nat) (xs : List Nat) : inV (.int (r : Nat)) (natsV xs) = decide (r ∈ xs) := by
  unfold inV natsV
  induction xs with
  | nil => rfl
  | cons x l ih =>
    simp only [List.map_cons, List.any_cons, ih]
    have : eqV (V.int (x : Nat)) (V.int (r : Nat)) = decide (r = x) := by
      by_cases h : r = x
      · subst h
        simp [eqV]
      · simp [eqV, h]
        omega
    rw [this]
    simp
theorem flat_nats (xs : List Nat) : (natsV xs).all flatV = true := by
  unfold natsV
  simp [flatV]
def noD : PyData := .tuple [.none, .bool true]
def spTry9 (K : PySem.W.Frag) (C : Ad) : Sp := fun vs H Q _ => ∃ (v : V) (ws : List Int) (tb : List (List Int)), vs = [v] ∧ HoistAt K C H v ws tb ∧
  (StillP ws tb → ∀ l t H', Same H H' → H l = none → H' l = some (.lst (natsV (sparedN ws tb tb.length))) → SqT K H' t [.ref l, .bl false] → Q (.ref t) H') ∧ (SinkP ws tb → Res K H Q noD)
seal L2.PA L2.PE L2.PT L2.PS L2.PSs L2.PG L2.PI L2.PO L2.PW
theorem sc__law_tried : FnScope ["hoist", "found", "refused", "e"] ["hoist"] (defScope s__law_tried) := ⟨rfl, rfl, rfl, by decide +kernel, rfl, by decide +kernel, by decide +kernel⟩
theorem ok__law_tried {P : Program} {w : World} {K : PySem.W.Frag} {mg : Str → Option Value} {base : Heap} {C : Ad} (T : Txt K mg C) (D : Def K mg "_law_tried" "_law_tried" s__law_tried ["hoist"])
    (o_can_be_spared : Own P w K mg base (CXE P w) "can_be_spared" ["hoist"] 10 (spCbs K C)) :
    Own P w K mg base CX0 "_law_tried" ["hoist"] 11 (spTry9 K C) := by
  refine D.own sc__law_tried (fun vs H Q E h => ?_) (fun f cdv A outer s H vs Q E hr h => ?_)
  · obtain ⟨a, _, _, rfl, _⟩ := h
    rfl
  · obtain ⟨v, ws, tb, rfl, hA, k1, k2⟩ := h
    refine ⟨_, (pss_cons (ps_set (i := 1) sc__law_tried.nd rfl (Or.inl rfl) pe_non)
        (pss_cons (ps_set (i := 2) sc__law_tried.nd rfl (Or.inl rfl) pe_bl)
        (pss_consJ (ps_try (i := 3) rfl rfl rfl sc__law_tried.nd rfl rfl rfl T.c_HoistError
        (ptbs_cons (ptb_set (i := 1) sc__law_tried.nd rfl (Or.inl rfl) (pex_own o_can_be_spared (hr.mono (by decide)) rfl (pa_cons (pv 0) pa_nil))) ptbs_nil)
        (fun _ => (pss_one (ps_set (i := 2) sc__law_tried.nd rfl (Or.inl rfl) (pe_callB (call_isiXK (K := K) rfl) rfl T.b_isinstance bt_isinstance (pa_cons (pv 3) (pa_cons (pe_glob (v := .ref C.Sinks) rfl T.c_Sinks rfl) pa_nil)))))))
        (pss_one (ps_ret (pe_tup (pa_cons (pv 1) (pa_cons (pv 2) pa_nil)))))))), ?_⟩
    refine ⟨fun σ' H' => ∃ u b z, σ' = [some v, some u, some (.bl b), z] ∧ Same H H' ∧ ((StillP ws tb ∧ b = false ∧ ∃ l, u = .ref l ∧ H l = none ∧ H' l = some (.lst (natsV (sparedN ws tb tb.length)))) ∨ (SinkP ws tb ∧ u = .non ∧ b = true)), ?_, ?_⟩
    · refine ⟨_, rfl, v, ws, tb, rfl, hA, fun st l H1 S1 nl hl => ?_, fun sk H1 S1 => ⟨_, rfl, ?_⟩⟩
      · exact ⟨_, _, _, rfl, S1, .inl ⟨st, rfl, l, rfl, nl, hl⟩⟩
      · refine ⟨T.exm_Sinks, fun a na => ?_⟩
        refine ⟨_, rfl, a, C.Sinks, _, _, rfl, .inr ⟨_, rfl⟩, upd_same, T.i_Sinks, T.kit_Sinks_Sinks, ?_⟩
        exact ⟨_, _, _, rfl, S1.trans (Same.upd na), .inr ⟨sk, rfl, rfl⟩⟩
    · rintro σ' H1 ⟨u, b, z, rfl, S1, h⟩
      refine ⟨_, rfl, _, rfl, by show 2 ≤ sizeLine; decide, fun p np => ?_⟩
      have Sp := Same.upd np (o := .tup [u, .bl b])
      rcases h with ⟨st, rfl, l, rfl, nl, hl⟩ | ⟨sk, rfl, rfl⟩
      · exact k1 st l _ _ (S1.trans Sp) nl (Sp _ _ hl) (SqT.of upd_same)
      · exact k2 sk _ _ (S1.trans Sp) (.tup (SqT.of upd_same) (.cons .non (.cons (.bl _) .nil)))
unseal L2.PA L2.PE L2.PT L2.PS L2.PSs L2.PG L2.PI L2.PO L2.PW
theorem lay_still : (PyData.str "still").canLay0 = true := by first | rfl | decide +kernel | (unfold PyData.canLay0; decide +kernel)
theorem lay_sinks : (PyData.str "sinks").canLay0 = true := by first | rfl | decide +kernel | (unfold PyData.canLay0; decide +kernel)
theorem plain_str (x : Str) : plainD (.str x) = true := by rw [plainD]
theorem dep_str (x : Str) : (PyData.str x).depth ≤ 60 := by simp [PyData.depth]
def Told (ws : List Int) (tb : List (List Int)) (s : Str) (qs : List Rat) (b : Bool) : Prop := (s = "still" ∧ b = true ∧ holdsT ws tb qs = true ∧ qs.length = tb.length ∧ ∀ q ∈ qs, RSz 300 q) ∨ (s = "sinks" ∧ b = false)
def spLst (K : PySem.W.Frag) : Sp := fun vs H Q _ => ∃ (v1 v2 v3 : V) (ws : List Int) (tb : List (List Int)) (s : Str) (qs : List Rat) (b : Bool), vs = [v1, v2, v3] ∧ HasD K H v1 (intsD ws) ∧ HasD K H v2 (tblD tb) ∧ HasD K H v3 (.tuple [.str s, frsD qs]) ∧ HOK ws tb ∧ Told ws tb s qs b ∧ ∀ H', Same H H' → Q (.bl b) H'
seal L2.PA L2.PE L2.PT L2.PS L2.PSs L2.PG L2.PI L2.PO L2.PW
theorem sc__law_still : FnScope ["weights", "table", "told"] ["weights", "table", "told"] (defScope s__law_still) := ⟨rfl, rfl, rfl, by decide +kernel, rfl, by decide +kernel, by decide +kernel⟩
theorem ok__law_still {P : Program} {w : World} {K : PySem.W.Frag} {mg : Str → Option Value} {base : Heap} {C : Ad} (T : Txt K mg C) (D : Def K mg "_law_still" "_law_still" s__law_still ["weights", "table", "told"])
    (o__law_held : Own P w K mg base CX0 "_law_held" ["weights", "table", "pulls"] 4 (spHeld K))
    (o__law_parts : Own P w K mg base CX0 "_law_parts" ["found", "many"] 3 (spParts K)) :
    Own P w K mg base CX0 "_law_still" ["weights", "table", "told"] 5 (spLst K) := by
  refine D.own sc__law_still (fun vs H Q E h => ?_) (fun f cdv A outer s H vs Q E hr h => ?_)
  · obtain ⟨a, _, _, _, _, _, _, _, rfl, _⟩ := h
    rfl
  · obtain ⟨v1, v2, v3, ws, tb, s', qs, b, rfl, h1, h2, h3, ok, tl, k⟩ := h
    have n4 := ok.n4
    have r5 := ok.r5
    refine ⟨_, (pss_cons (ps_if (pt_cmpR (op_eqK (K := K) rfl hr) (pe_ix (ix_K (K := K) rfl) (pv 2) pe_int (fun _ _ => rfl)) pe_str (nomark _))
        (pss_one (ps_ret (pe_and (pe_own o__law_parts (hr.mono (by decide)) rfl pass0 (pa_cons (pe_ix (ix_K (K := K) rfl) (pv 2) pe_int (fun _ _ => rfl)) (pa_cons (pe_callB (call_lenK (K := K) rfl) rfl T.b_len bt_len (pa_cons (pv 1) pa_nil)) pa_nil))) (pe_one (pe_own o__law_held (hr.mono (by decide)) rfl pass0 (pa_cons (pv 0) (pa_cons (pv 1) (pa_cons (pe_ix (ix_K (K := K) rfl) (pv 2) pe_int (fun _ _ => rfl)) pa_nil))))))))
        pss_nil)
        (pss_one (ps_ret pe_bl))), ?_⟩
    refine ⟨_, rfl, _, _, _, .inr h3, rfl, rfl, fun x hx => ?_⟩
    rcases tl with ⟨rfl, rfl, hh, hl, hq⟩ | ⟨rfl, rfl⟩
    · refine ⟨.str "still", .str "still", hx, .str _, lay_still, lay_still, dep_str _, _, rfl, ifP (eq_yes (eqv_self (plain_str _))) ?_⟩
      refine ⟨_, rfl, _, _, _, .inr h3, rfl, rfl, fun u hu => ?_⟩
      refine ⟨_, rfl, _, _, rfl, .inl h2, _, qs, _, rfl, hu, by rw [List.length_map, hl], by omega, fun q h => (hq q h).mono (by decide), fun H1 S1 => ?_⟩
      refine ⟨_, rfl, ifP rfl ?_⟩
      refine ⟨_, rfl, _, rfl, _, rfl, _, _, _, .inr (h3.same S1), rfl, rfl, fun u2 hu2 => ?_⟩
      refine ⟨_, _, _, ws, tb, qs, rfl, h1.same S1, h2.same S1, hu2, hl, by omega, by omega, ok.tok, hq, fun c H2 S2 N2 => ?_⟩
      rw [N2.ofbl, hh]
      exact k _ (S1.trans S2)
    · refine ⟨.str "sinks", .str "still", hx, .str _, lay_sinks, lay_still, dep_str _, _, rfl, ifN (eq_no (eqv_not (plain_str _) (plain_str _) (fun z => by cases z))) ?_⟩
      exact k _ (Same.refl _)
unseal L2.PA L2.PE L2.PT L2.PS L2.PSs L2.PG L2.PI L2.PO L2.PW
theorem bt_set : bootBuiltins "set" = some (.type "set") := by decide +kernel
theorem noD_lay : Lays 10 noD := ⟨by decide, by decide⟩
theorem noD_eqv : PyData.eqv noD noD = true := by decide
theorem judged_told {K : PySem.W.Frag} {C : Ad} {H : Hp} {v : V} {ws : List Int} {tb : List (List Int)} {Q : VK} {E : XK} (hA : HoistAt K C H v ws tb)
    (k : ∀ (s : Str) (qs : List Rat) u H', Same H H' → HasD K H' u (.tuple [.str s, frsD qs]) → Told ws tb s qs (stB ws tb) → Q u H') : spJudged K C [v] H Q E :=
  ⟨v, ws, tb, rfl, hA, fun Sj H1 u S1 N1 Fj hz hs => k _ _ u H1 S1 (NewD.has _ N1) (.inr ⟨rfl, stB_no (sink_of Fj hz hs)⟩),
    fun Sj H1 u S1 N1 Fj hz hs => k _ _ u H1 S1 (NewD.has _ N1) (.inl ⟨rfl, stB_yes (still_of Fj hs), tq_holds Fj (Fj.props0 hs), by simp, pul_sz hA.ok Fj⟩)⟩
theorem nats_has {K : PySem.W.Frag} {H : Hp} {l : Addr} {xs : List Nat} (h : H l = some (.lst (natsV xs))) : HasD K H (.ref l) (natsD xs) := ints_has (SqL.of h)
theorem nats_at {xs : List Nat} {i : Nat} {x : V} (h : (natsV xs)[i]? = some x) : ∃ n, n ∈ xs ∧ x = .int (n : Nat) := by
  unfold natsV at h
  rw [List.getElem?_map, List.getElem?_map] at h
  cases e : xs[i]? with
  | none => rw [e] at h; cases h
  | some n =>
    rw [e] at h
    cases h
    exact ⟨n, List.mem_of_getElem? e, rfl⟩
theorem spared_dec {ws : List Int} {tb : List (List Int)} {r : Nat} (hr : r < tb.length) : decide (r ∈ sparedN ws tb tb.length) = stB ws (leftT tb r) := by
  rw [Bool.eq_iff_iff, decide_eq_true_eq, spared_mem]
  exact ⟨fun h => h.2, fun h => ⟨hr, h⟩⟩
theorem spared_num {ws : List Int} {tb : List (List Int)} {r : Nat} {S : Tb} (hr : r < tb.length) (ld : LD ws tb r S) : decide (V.int (xval ws.length tb.length S r).num = V.int 0) = stB ws (leftT tb r) := by
  rw [Bool.eq_iff_iff, decide_eq_true_eq, stB_iff, ← spare_iff hr ld]
  constructor
  · intro h
    injection h with h
    exact Rat.num_eq_zero.mp h
  · intro h
    rw [h]
    rfl
seal L2.PA L2.PE L2.PT L2.PS L2.PSs L2.PG L2.PI L2.PO L2.PW
theorem sc_law : FnScope ["script", "drawn", "weights", "table", "hoist", "tried", "found", "rope", "left", "told", "kept"] ["script"] (defScope s_law) := ⟨rfl, rfl, rfl, by decide +kernel, rfl, by decide +kernel, by decide +kernel⟩
theorem ok_law_f {P : Program} {w : World} {K : PySem.W.Frag} {mg : Str → Option Value} {base : Heap} {C : Ad} {f : Addr} {fd : FuncData} (T : Txt K mg C) (F : Fun K "law" "law" s_law f fd)
    (o_Hoist___init__ : OwnI P w K mg base CX0 C.Hoist ["self", "weights", "ropes"] 3 (spHoistI K C))
    (o__law_cell_at : Own P w K mg base CX0 "_law_cell_at" ["script", "k"] 1 (spCell K))
    (o__law_drawn : Own P w K mg base CX0 "_law_drawn" ["script"] 3 (spDrawn K))
    (o__law_ropes : Own P w K mg base CX0 "_law_ropes" ["table", "cell"] 1 (spRopes K))
    (o__law_still : Own P w K mg base CX0 "_law_still" ["weights", "table", "told"] 5 (spLst K))
    (o__law_tried : Own P w K mg base CX0 "_law_tried" ["hoist"] 11 (spTry9 K C))
    (o__law_whole : Own P w K mg base CX0 "_law_whole" ["found"] 1 (spWhole))
    (o_can_be_spared : Own P w K mg base (CXE P w) "can_be_spared" ["hoist"] 10 (spCbs K C))
    (o_judged : Own P w K mg base CX0 "judged" ["hoist"] 9 (spJudged K C))
    (o_least_pull : Own P w K mg base (CXE P w) "least_pull" ["hoist", "rope"] 10 (spLeast K C))
    (o_without : Own P w K mg base (CXE P w) "without" ["hoist", "rope"] 6 (spWithout K C)) :
    FnOk P w K mg base CX0 12 f fd ["script"] (spLaw K) := by
  refine F.ok sc_law (fun vs H Q E h => ?_) (fun cdv A outer s H vs Q E hr h => ?_)
  · obtain ⟨a, ns, rfl, _⟩ := h
    rfl
  · obtain ⟨a, ns, rfl, hS, hlen, k⟩ := h
    have hv : HasD K H (.ref a) (intsD ns) := ints_has hS
    have sl : (100 : Nat) ≤ sizeLine := by decide
    refine ⟨_, (pss_cons (ps_set (i := 1) sc_law.nd rfl (Or.inl rfl) (pe_own o__law_drawn (hr.mono (by decide)) rfl pass0 (pa_cons (pv 0) pa_nil)))
        (pss_cons (ps_set (i := 2) sc_law.nd rfl (Or.inl rfl) (pe_ix (ix_K (K := K) rfl) (pv 1) pe_int (fun _ _ => rfl)))
        (pss_cons (ps_set (i := 3) sc_law.nd rfl (Or.inl rfl) (pe_ix (ix_K (K := K) rfl) (pv 1) pe_int (fun _ _ => rfl)))
        (pss_cons (ps_set (i := 4) sc_law.nd rfl (Or.inl rfl) (pe_ownI o_Hoist___init__ (hr.mono (by decide)) rfl T.c_Hoist pass0 (pa_cons (pv 2) (pa_cons (pe_own o__law_ropes (hr.mono (by decide)) rfl pass0 (pa_cons (pv 3) (pa_cons (pe_own o__law_cell_at (hr.mono (by decide)) rfl pass0 (pa_cons (pv 0) (pa_cons pe_int pa_nil))) pa_nil))) pa_nil))))
        (pss_cons (ps_set (i := 5) sc_law.nd rfl (Or.inl rfl) (pe_own o__law_tried (hr.mono (by decide)) rfl pass0 (pa_cons (pv 4) pa_nil)))
        (pss_cons (ps_if (pt_cmpR (op_eqK (K := K) rfl hr) (pe_ix (ix_K (K := K) rfl) (pe_own o_judged (hr.mono (by decide)) rfl pass0 (pa_cons (pv 4) pa_nil)) pe_int (fun _ _ => rfl)) pe_str (nomark _))
        (pss_one (ps_ret (pe_cmpR (op_eqK (K := K) rfl hr) (pv 5) (pe_tup (pa_cons pe_non (pa_cons pe_bl pa_nil))) (nomark _))))
        pss_nil)
        (pss_cons (ps_set (i := 6) sc_law.nd rfl (Or.inl rfl) (pe_ix (ix_tupK (K := K) rfl) (pv 5) pe_int (fun _ _ => rfl)))
        (pss_cons (ps_if (PW.pt (pw_or (pt_truth (pe_ix (ix_tupK (K := K) rfl) (pv 5) pe_int (fun _ _ => rfl)) (fun _ => rfl)) (pw_or (pt_not (pt_truth (pe_callB (call_isiD (K := K) rfl) rfl T.b_isinstance bt_isinstance (pa_cons (pv 6) (pa_cons (pe_bltn (v := .ty "list") rfl T.b_list bt_list rfl) pa_nil))) (fun _ => rfl))) (pw_or1 (pt_cmpR (op_neK (K := K) rfl hr) (pv 6) (pe_callB (call_sortK (w := w) rfl rfl) rfl T.b_sorted bt_sorted (pa_cons (pe_callTy (call_setK (K := K) (w := w) rfl rfl rfl) rfl T.b_set bt_set (pa_cons (pv 6) pa_nil)) pa_nil)) (nomark _))))))
        (pss_one (ps_ret pe_bl))
        pss_nil)
        (pss_cons (ps_for PassesOwn.never rfl (pi_listK (K := K) rfl (pv 6)) (pg_name (i := 7) sc_law.nd rfl (Or.inl rfl))
        (pss_one (ps_if (PW.pt (pw_or (pt_not (pt_truth (pe_own o__law_whole (hr.mono (by decide)) rfl pass0 (pa_cons (pv 7) pa_nil)) (fun _ => rfl))) (pw_or1 (pt_not (pt_chain op_le op_lt pe_int (pv 7) (pe_callB (call_lenK (K := K) rfl) rfl T.b_len bt_len (pa_cons (pv 3) pa_nil)))))))
        (pss_one (ps_ret pe_bl))
        pss_nil)))
        (pss_cons (ps_for PassesOwn.never rfl (pi_range1 rfl T.b_range (pa_cons (pe_callB (call_lenK (K := K) rfl) rfl T.b_len bt_len (pa_cons (pv 3) pa_nil)) pa_nil)) (pg_name (i := 7) sc_law.nd rfl (Or.inl rfl))
        (pss_cons (ps_set (i := 8) sc_law.nd rfl (Or.inl rfl) (pe_op op_cat (pe_slice (sl_listK (K := K) rfl) (pv 3) po_none (po_some (pv 7))) (pe_slice (sl_listK (K := K) rfl) (pv 3) (po_some (pe_op op_add (pv 7) pe_int)) po_none)))
        (pss_cons (ps_set (i := 9) sc_law.nd rfl (Or.inl rfl) (pe_own o_judged (hr.mono (by decide)) rfl pass0 (pa_cons (pe_own o_without (hr.mono (by decide)) rfl passN (pa_cons (pv 4) (pa_cons (pv 7) pa_nil))) pa_nil)))
        (pss_cons (ps_if (pt_cmpR op_ne (pe_own o__law_still (hr.mono (by decide)) rfl pass0 (pa_cons (pv 2) (pa_cons (pv 8) (pa_cons (pv 9) pa_nil)))) (pe_cmpR (op_inK (K := K) rfl) (pv 7) (pv 6) (by with_unfolding_all rfl)) (nomark _))
        (pss_one (ps_ret pe_bl))
        pss_nil)
        (pss_one (ps_if (pt_cmpR op_ne (pe_cmpR op_eq (pe_ix (ix_K (K := K) rfl) (pe_ix (ix_K (K := K) rfl) (pe_ix (ix_K (K := K) rfl) (pe_own o_least_pull (hr.mono (by decide)) rfl passN (pa_cons (pv 4) (pa_cons (pv 7) pa_nil))) pe_int (fun _ _ => rfl)) (pv 7) (fun _ _ => rfl)) pe_int (fun _ _ => rfl)) pe_int (nomark _)) (pe_cmpR (op_inK (K := K) rfl) (pv 7) (pv 6) (by with_unfolding_all rfl)) (nomark _))
        (pss_one (ps_ret pe_bl))
        pss_nil))))))
        (pss_cons (ps_set (i := 10) sc_law.nd rfl (Or.inl rfl) (pe_callTy (call_listK (K := K) rfl) rfl T.b_list bt_list (pa_cons (pv 6) pa_nil)))
        (pss_cons (ps_expr (pe_bm PySem.F.plainAttrs_list PySem.F.slot_list_append PySem.F.type_list_append mt_append (pv 6) (pa_cons pe_int pa_nil)))
        (pss_one (ps_ret (pe_cmpR (op_eqK (K := K) rfl hr) (pe_own o_can_be_spared (hr.mono (by decide)) rfl passN (pa_cons (pv 4) pa_nil)) (pv 10) (nomark _)))))))))))))))), ?_⟩
    refine ⟨_, rfl, _, ns, rfl, hv, fun ws tb ok d1 H1 S1 N1 => ?_⟩
    have hD := NewD.has _ N1
    have n1 := ok.n1
    have n4 := ok.n4
    have r5 := ok.r5
    refine ⟨_, rfl, _, _, _, .inr hD, rfl, rfl, fun wv hw => ?_⟩
    refine ⟨_, rfl, _, _, _, .inr hD, rfl, rfl, fun tv ht => ?_⟩
    refine ⟨_, rfl, _, rfl, _, rfl, _, ns, 11, rfl, hv.same S1, _, tb, _, ws.length, rfl, ht, r5, n1, n4, ok.tok, fun rs tl r2 H2 S2 N2 => ?_⟩
    intro hp dx nh nd ne
    refine make_hoist nh nd ne (hw.same S2) (NewD.has _ N2) ok tl fun H3 S3 hA => ⟨rfl, ?_⟩
    have S13 := S2.trans S3
    have hw3 := hw.same S13
    have ht3 := ht.same S13
    refine ⟨_, rfl, _, ws, tb, rfl, hA, fun st lf t H4 S4 nlf qf qt => ?_, fun sk u H4 S4 N4 => ?_⟩
    · -- it hangs still
      refine ⟨_, rfl, _, ws, tb, rfl, hA.same S4, fun Sj H5 uj S5 N5 Fj hz hs => (still_sink st (sink_of Fj hz hs)).elim, fun Sj H5 uj S5 N5 Fj hz hs => ?_⟩
      refine ⟨_, _, _, .inr (NewD.has _ N5), rfl, rfl, fun x hx => ?_⟩
      refine ⟨.str "still", .str "sinks", hx, .str _, lay_still, lay_sinks, dep_str _, _, rfl, ifN (eq_no (eqv_not (plain_str _) (plain_str _) (fun z => by cases z))) ?_⟩
      have qt5 := S5.tup qt
      have qf5 := S5 _ _ qf
      have sm : SmallS (sparedN ws tb tb.length) := spared_small r5
      have lx := spared_len ws tb tb.length
      refine ⟨_, rfl, t, _, _, _, rfl, rfl, qt5, atI_nat' (i := 0) rfl, ?_⟩
      refine ⟨_, rfl, t, _, _, _, rfl, rfl, qt5, atI_nat' (i := 1) rfl, _, rfl, iteF ?_⟩
      refine ⟨_, rfl, _, _, _, _, rfl, nats_has qf5, kit_ll K, _, rfl, iteF ?_⟩
      refine ⟨_, rfl, _, rfl, lf, _, rfl, SqL.of qf5, sm, fun l1 nl1 => ⟨l1, _, rfl, upd_same, sm, fun l2 nl2 => ?_⟩⟩
      have S6 := (Same.upd nl1 (o := SetO w l1 (sparedN ws tb tb.length))).trans (Same.upd nl2 (o := .lst (natsV (sparedN ws tb tb.length))))
      refine ⟨natsD (sparedN ws tb tb.length), natsD (sparedN ws tb tb.length), (nats_has qf5).same S6, nats_has upd_same, (lays_ints _).lay, (lays_ints _).lay, Nat.le_trans (lays_ints _).dep (by decide), _, rfl, ?_⟩
      refine ifN (ne_no (eqv_self (plain_ints _))) ?_
      generalize upd (upd H5 l1 (SetO w l1 (sparedN ws tb tb.length))) l2 (.lst (natsV (sparedN ws tb tb.length))) = H6 at *
      have qf6 := S6 _ _ qf5
      have S46 := S5.trans S6
      have S36 := S4.trans S46
      have ht6 := ht3.same S36
      refine ⟨_, rfl, lf, rfl, ⟨_, SqL.of qf6⟩, for_list (K := K) (a := lf) (xs := natsV (sparedN ws tb tb.length)) (fun i σ H7 => H7 = H6 ∧ ∃ z, σ = [some (.ref a), some d1, some wv, some tv, some (.ref hp), some (.ref t), some (.ref lf), z, none, none, none]) ⟨rfl, _, rfl⟩ (fun i σ H7 _ ⟨e, _⟩ => by rw [e]; exact SqL.of qf6) ?_ ?_⟩
      · rintro i x σ H7 hi ⟨rfl, z, rfl⟩
        obtain ⟨n, mem, rfl⟩ := nats_at hi
        have hn := (spared_mem.mp mem).1
        refine ⟨_, rfl, _, rfl, true, rfl, iteF ?_⟩
        refine ⟨_, rfl, _, _, rfl, rfl, _, rfl, ifP (decide_eq_true (by omega)) ?_⟩
        refine ⟨_, rfl, _, _, rfl, .inl ht6, _, _, rfl, rfl, _, rfl, ?_⟩
        rw [List.length_map]
        refine ifN (by simp; omega) ?_
        exact ⟨rfl, _, rfl⟩
      · rintro σ H7 ⟨rfl, z, rfl⟩
        obtain ⟨ta, tx, rfl, hqt, hdt⟩ := ht6.oflst
        have lt : tx.length = tb.length := by rw [hdt.len, List.length_map]
        refine ⟨_, rfl, _, _, rfl, .inl ht6, _, rfl, by omega, by rw [List.length_map]; omega, ?_⟩
        rw [Int.toNat_natCast, List.length_map]
        refine for_range (fun i σ H8 => Same H7 H8 ∧ ∃ z1 z2 z3, σ = [some (.ref a), some d1, some wv, some (.ref ta), some (.ref hp), some (.ref t), some (.ref lf), z1, z2, z3, none]) ⟨Same.refl _, _, _, _, rfl⟩ ?_ ?_
        · rintro i σ H8 hi ⟨S8, z1, z2, z3, rfl⟩
          show gName 7 (V.int ((0 : Int) + (i : Int))) _ _ _
          rw [Int.zero_add]
          have S38 := S36.trans S8
          refine ⟨_, rfl, _, rfl, _, rfl, ta, tx, rfl, S8.seq hqt, fun l1 nl1 => ?_⟩
          have Sl1 := Same.upd nl1 (o := .lst (cutV tx none (some (i : Int))))
          refine ⟨_, rfl, _, rfl, _, _, rfl, rfl, _, rfl, ta, tx, rfl, (S8.trans Sl1).seq hqt, fun l2 nl2 => ?_⟩
          have Sl2 := Same.upd nl2 (o := .lst (cutV tx (some ((i : Int) + 1)) none))
          have e1 : cutV tx none (some (i : Int)) = tx.take i := cut_to (by omega)
          have e2 : cutV tx (some ((i : Int) + 1)) none = tx.drop (i + 1) := cut_from (r := i + 1) (by omega)
          refine ⟨l1, l2, _, _, rfl, rfl, Sl2 _ _ upd_same, upd_same, ?_, fun l3 nl3 => ?_⟩
          · have := cutV_length tx none (some (i : Int))
            have := cutV_length tx (some ((i : Int) + 1)) none
            omega
          have Sl3 := Same.upd nl3 (o := .lst (cutV tx none (some (i : Int)) ++ cutV tx (some ((i : Int) + 1)) none))
          have S89 := (Sl1.trans Sl2).trans Sl3
          have hleft : HasD K _ (.ref l3) (tblD (leftT tb i)) := .lst (SqL.of (upd_same (H := upd (upd H8 l1 (.lst (cutV tx none (some (i : Int))))) l2 (.lst (cutV tx (some ((i : Int) + 1)) none))) (a := l3) (o := .lst (cutV tx none (some (i : Int)) ++ cutV tx (some ((i : Int) + 1)) none)))) (by
            unfold leftT
            rw [List.map_append, List.map_take, List.map_drop]
            have hd := hdt.same (S8.trans S89)
            have hx := (hd.take i).app (hd.drop (i + 1))
            rw [← e1, ← e2] at hx
            exact hx)
          generalize upd (upd (upd H8 l1 (.lst (cutV tx none (some (i : Int))))) l2 (.lst (cutV tx (some ((i : Int) + 1)) none))) l3 (.lst (cutV tx none (some (i : Int)) ++ cutV tx (some ((i : Int) + 1)) none)) = H9 at *
          have S39 := S38.trans S89
          refine ⟨_, rfl, _, rfl, _, ws, tb, (i : Int), rfl, hA.same S39, small_nat (by omega), fun _ p H10 S10 np hL => ?_, fun z => absurd ⟨by omega, by omega⟩ z⟩
          rw [Int.toNat_natCast] at hL
          refine judged_told (E := fun _ _ _ => True) (tb := leftT tb i) hL fun s' qs uj H11 S11 hj tl => ?_
          have S9_11 := S10.trans S11
          refine ⟨_, rfl, _, rfl, _, rfl, _, _, _, ws, leftT tb i, s', qs, _, rfl, hw3.same (S39.trans S9_11), hleft.same S9_11, hj, hL.ok, tl, fun H12 S12 => ?_⟩
          have S8_12 := (S89.trans S9_11).trans S12
          have qf12 := (S8.trans S8_12) _ _ qf6
          refine ⟨_, rfl, _, rfl, lf, _, rfl, .inl (SqL.of qf12), rfl, flat_nats _, ?_⟩
          refine ⟨rfl, _, rfl, ifN ?_ ?_⟩
          · show ¬ ((!decide (V.bl (stB ws (leftT tb i)) = V.bl (inV (.int (i : Nat)) (natsV (sparedN ws tb tb.length))))) = true)
            rw [in_nats, spared_dec hi]
            simp
          refine ⟨_, rfl, _, rfl, _, ws, tb, i, rfl, hA.same (S38.trans S8_12), hi, fun Sa L H13 u Fa na S13 ld N13 => ?_, fun Sa H13 S13 F fin sk => (still_sink st (sink_of F fin sk)).elim⟩
          refine ⟨_, _, _, .inr (NewD.has _ N13), rfl, rfl, fun u1 h1 => ?_⟩
          have er : ((pulS ws tb L).map frD)[i]? = some (frD (xval ws.length tb.length L i)) := by simp [pulS, hi]
          refine ⟨_, rfl, _, _, _, .inl h1, rfl, atI_nat er, fun u2 h2 => ?_⟩
          refine ⟨_, _, _, .inr h2, rfl, rfl, fun u3 h3 => ?_⟩
          rw [h3.ofint]
          refine ⟨rfl, ?_⟩
          refine ⟨_, rfl, _, rfl, lf, _, rfl, .inl (SqL.of (S13 _ _ qf12)), rfl, flat_nats _, ?_⟩
          refine ⟨rfl, _, rfl, ifN ?_ ?_⟩
          · show ¬ ((!decide (V.bl (decide (V.int (xval ws.length tb.length L i).num = V.int 0)) = V.bl (inV (.int (i : Nat)) (natsV (sparedN ws tb tb.length))))) = true)
            rw [in_nats, spared_dec hi, spared_num hi ld]
            simp
          exact ⟨(S8.trans S8_12).trans S13, _, _, _, rfl⟩
        · rintro σ H8 ⟨S8, z1, z2, z3, rfl⟩
          have qf8 := S8 _ _ qf6
          refine ⟨_, rfl, lf, _, rfl, .inl (SqL.of qf8), fun lk nlk => ?_⟩
          have Sk := Same.upd nlk (o := .lst (natsV (sparedN ws tb tb.length)))
          have nlk' : lf ≠ lk := ne_of_none qf8 nlk
          have qk : (upd H8 lk (.lst (natsV (sparedN ws tb tb.length)))) lk = some (.lst (natsV (sparedN ws tb tb.length))) := upd_same
          have qf9 := Sk _ _ qf8
          generalize upd H8 lk (.lst (natsV (sparedN ws tb tb.length))) = H9 at *
          refine ⟨_, rfl, .inl ⟨rfl, _, SqL.of qf9⟩, lf, _, _, rfl, rfl, qf9, by rw [natsV_len]; omega, ?_⟩
          have S3_10 : Same H3 (upd H9 lf (.lst (natsV (sparedN ws tb tb.length) ++ [V.int 9]))) := same_write ((S36.trans S8).trans Sk) nlf
          have qk10 : (upd H9 lf (.lst (natsV (sparedN ws tb tb.length) ++ [V.int 9]))) lk = some (.lst (natsV (sparedN ws tb tb.length))) := by rw [upd_ne nlk'.symm]; exact qk
          generalize upd H9 lf (.lst (natsV (sparedN ws tb tb.length) ++ [V.int 9])) = H10 at *
          refine ⟨_, rfl, _, ws, tb, rfl, hA.same S3_10, fun _ l11 H11 S11 nl hl => ?_, fun sk => (still_sink st sk).elim⟩
          refine ⟨_, rfl, natsD (sparedN ws tb tb.length), natsD (sparedN ws tb tb.length), nats_has hl, nats_has (S11 _ _ qk10), (lays_ints _).lay, (lays_ints _).lay, Nat.le_trans (lays_ints _).dep (by decide), ?_⟩
          show Q (V.bl (PyData.eqv (natsD _) (natsD _))) _
          rw [show PyData.eqv (natsD (sparedN ws tb tb.length)) (natsD (sparedN ws tb tb.length)) = true from eqv_self (plain_ints _)]
          exact k _
    · -- it sinks
      refine ⟨_, rfl, _, ws, tb, rfl, hA.same S4, fun Sj H5 uj S5 N5 Fj hz hs => ?_, fun Sj H5 uj S5 N5 Fj hz hs => (still_sink (still_of Fj hs) sk).elim⟩
      refine ⟨_, _, _, .inr (NewD.has _ N5), rfl, rfl, fun x hx => ?_⟩
      refine ⟨.str "sinks", .str "sinks", hx, .str _, lay_sinks, lay_sinks, dep_str _, _, rfl, ifP (eq_yes (eqv_self (plain_str _))) ?_⟩
      refine ⟨_, rfl, by show 2 ≤ sizeLine; decide, fun tp ntp => ?_⟩
      refine ⟨noD, noD, (NewD.has _ N4).same (S5.trans (Same.upd ntp)), .tup (SqT.of upd_same) (.cons .non (.cons (.bl _) .nil)), noD_lay.lay, noD_lay.lay, Nat.le_trans noD_lay.dep (by decide), ?_⟩
      show Q (V.bl (PyData.eqv noD noD)) _
      rw [noD_eqv]
      exact k _
unseal L2.PA L2.PE L2.PT L2.PS L2.PSs L2.PG L2.PI L2.PO L2.PW
theorem all_mk {l : PySem.W.OpenLaw} {w : World} {K : PySem.W.Frag} {h : Heap} {mg : Str → Option Value} {fa : Addr} (X : K.In h) (G : h.Ns mainGlobals mg) (hfa : mg "law" = some (.ref fa))
    {c_Bearing c_Hoist c_HoistError c_NoHoist c_NoRope c_NoBody c_Sinks c_NOUGHT c_ONE : Addr}
    {t0_NOUGHT t1_NOUGHT : Tok} {n_NOUGHT : Nat} {d_NOUGHT : Option Addr} {sl_NOUGHT : Array (Option Value)}
    {t0_ONE t1_ONE : Tok} {n_ONE : Nat} {d_ONE : Option Addr} {sl_ONE : Array (Option Value)}
    {t_MOST_BODIES : Tok}
    {t_MOST_ROPES : Tok}
    {t_MOST_WEIGHT : Tok}
    {t_MOST_PAIRS : Tok}
    {t_MOST_STRANDS : Tok}
    {f0 : Addr} {od0 an0 : Option Addr} {sl0 : Array (Option Value)} {oc0 kV0 dc0 pm0 cd0 ct0 : Value}
    {f1 : Addr} {od1 an1 : Option Addr} {sl1 : Array (Option Value)} {oc1 kV1 dc1 pm1 cd1 ct1 : Value}
    {f2 : Addr} {od2 an2 : Option Addr} {sl2 : Array (Option Value)} {oc2 kV2 dc2 pm2 cd2 ct2 : Value}
    {f3 : Addr} {od3 an3 : Option Addr} {sl3 : Array (Option Value)} {oc3 kV3 dc3 pm3 cd3 ct3 : Value}
    {f4 : Addr} {od4 an4 : Option Addr} {sl4 : Array (Option Value)} {oc4 kV4 dc4 pm4 cd4 ct4 : Value}
    {f5 : Addr} {od5 an5 : Option Addr} {sl5 : Array (Option Value)} {oc5 kV5 dc5 pm5 cd5 ct5 : Value}
    {f6 : Addr} {od6 an6 : Option Addr} {sl6 : Array (Option Value)} {oc6 kV6 dc6 pm6 cd6 ct6 : Value}
    {f7 : Addr} {od7 an7 : Option Addr} {sl7 : Array (Option Value)} {oc7 kV7 dc7 pm7 cd7 ct7 : Value}
    {f8 : Addr} {od8 an8 : Option Addr} {sl8 : Array (Option Value)} {oc8 kV8 dc8 pm8 cd8 ct8 : Value}
    {f9 : Addr} {od9 an9 : Option Addr} {sl9 : Array (Option Value)} {oc9 kV9 dc9 pm9 cd9 ct9 : Value}
    {f10 : Addr} {od10 an10 : Option Addr} {sl10 : Array (Option Value)} {oc10 kV10 dc10 pm10 cd10 ct10 : Value}
    {f11 : Addr} {od11 an11 : Option Addr} {sl11 : Array (Option Value)} {oc11 kV11 dc11 pm11 cd11 ct11 : Value}
    {f12 : Addr} {od12 an12 : Option Addr} {sl12 : Array (Option Value)} {oc12 kV12 dc12 pm12 cd12 ct12 : Value}
    {f13 : Addr} {od13 an13 : Option Addr} {sl13 : Array (Option Value)} {oc13 kV13 dc13 pm13 cd13 ct13 : Value}
    {f14 : Addr} {od14 an14 : Option Addr} {sl14 : Array (Option Value)} {oc14 kV14 dc14 pm14 cd14 ct14 : Value}
    {f15 : Addr} {od15 an15 : Option Addr} {sl15 : Array (Option Value)} {oc15 kV15 dc15 pm15 cd15 ct15 : Value}
    {f16 : Addr} {od16 an16 : Option Addr} {sl16 : Array (Option Value)} {oc16 kV16 dc16 pm16 cd16 ct16 : Value}
    {f17 : Addr} {od17 an17 : Option Addr} {sl17 : Array (Option Value)} {oc17 kV17 dc17 pm17 cd17 ct17 : Value}
    {f18 : Addr} {od18 an18 : Option Addr} {sl18 : Array (Option Value)} {oc18 kV18 dc18 pm18 cd18 ct18 : Value}
    {f19 : Addr} {od19 an19 : Option Addr} {sl19 : Array (Option Value)} {oc19 kV19 dc19 pm19 cd19 ct19 : Value}
    {f20 : Addr} {od20 an20 : Option Addr} {sl20 : Array (Option Value)} {oc20 kV20 dc20 pm20 cd20 ct20 : Value}
    {f21 : Addr} {od21 an21 : Option Addr} {sl21 : Array (Option Value)} {oc21 kV21 dc21 pm21 cd21 ct21 : Value}
    {f22 : Addr} {od22 an22 : Option Addr} {sl22 : Array (Option Value)} {oc22 kV22 dc22 pm22 cd22 ct22 : Value}
    {f23 : Addr} {od23 an23 : Option Addr} {sl23 : Array (Option Value)} {oc23 kV23 dc23 pm23 cd23 ct23 : Value}
    {f24 : Addr} {od24 an24 : Option Addr} {sl24 : Array (Option Value)} {oc24 kV24 dc24 pm24 cd24 ct24 : Value}
    {f25 : Addr} {od25 an25 : Option Addr} {sl25 : Array (Option Value)} {oc25 kV25 dc25 pm25 cd25 ct25 : Value}
    {f26 : Addr} {od26 an26 : Option Addr} {sl26 : Array (Option Value)} {oc26 kV26 dc26 pm26 cd26 ct26 : Value}
    {f27 : Addr} {od27 an27 : Option Addr} {sl27 : Array (Option Value)} {oc27 kV27 dc27 pm27 cd27 ct27 : Value}
    {f28 : Addr} {od28 an28 : Option Addr} {sl28 : Array (Option Value)} {oc28 kV28 dc28 pm28 cd28 ct28 : Value}
    {f29 : Addr} {od29 an29 : Option Addr} {sl29 : Array (Option Value)} {oc29 kV29 dc29 pm29 cd29 ct29 : Value}
    {f30 : Addr} {od30 an30 : Option Addr} {sl30 : Array (Option Value)} {oc30 kV30 dc30 pm30 cd30 ct30 : Value}
    {f31 : Addr} {od31 an31 : Option Addr} {sl31 : Array (Option Value)} {oc31 kV31 dc31 pm31 cd31 ct31 : Value}
    {f32 : Addr} {od32 an32 : Option Addr} {sl32 : Array (Option Value)} {oc32 kV32 dc32 pm32 cd32 ct32 : Value}
    {f33 : Addr} {od33 an33 : Option Addr} {sl33 : Array (Option Value)} {oc33 kV33 dc33 pm33 cd33 ct33 : Value}
    {f34 : Addr} {od34 an34 : Option Addr} {sl34 : Array (Option Value)} {oc34 kV34 dc34 pm34 cd34 ct34 : Value}
    {f35 : Addr} {od35 an35 : Option Addr} {sl35 : Array (Option Value)} {oc35 kV35 dc35 pm35 cd35 ct35 : Value}
    {f36 : Addr} {od36 an36 : Option Addr} {sl36 : Array (Option Value)} {oc36 kV36 dc36 pm36 cd36 ct36 : Value}
    {f37 : Addr} {od37 an37 : Option Addr} {sl37 : Array (Option Value)} {oc37 kV37 dc37 pm37 cd37 ct37 : Value}
    {f38 : Addr} {od38 an38 : Option Addr} {sl38 : Array (Option Value)} {oc38 kV38 dc38 pm38 cd38 ct38 : Value}
    {f39 : Addr} {od39 an39 : Option Addr} {sl39 : Array (Option Value)} {oc39 kV39 dc39 pm39 cd39 ct39 : Value}
    {f40 : Addr} {od40 an40 : Option Addr} {sl40 : Array (Option Value)} {oc40 kV40 dc40 pm40 cd40 ct40 : Value}
    {f41 : Addr} {od41 an41 : Option Addr} {sl41 : Array (Option Value)} {oc41 kV41 dc41 pm41 cd41 ct41 : Value}
    {f42 : Addr} {od42 an42 : Option Addr} {sl42 : Array (Option Value)} {oc42 kV42 dc42 pm42 cd42 ct42 : Value}
    {f43 : Addr} {od43 an43 : Option Addr} {sl43 : Array (Option Value)} {oc43 kV43 dc43 pm43 cd43 ct43 : Value}
    {f44 : Addr} {od44 an44 : Option Addr} {sl44 : Array (Option Value)} {oc44 kV44 dc44 pm44 cd44 ct44 : Value}
    {f45 : Addr} {od45 an45 : Option Addr} {sl45 : Array (Option Value)} {oc45 kV45 dc45 pm45 cd45 ct45 : Value}
    {f46 : Addr} {od46 an46 : Option Addr} {sl46 : Array (Option Value)} {oc46 kV46 dc46 pm46 cd46 ct46 : Value}
    {f47 : Addr} {od47 an47 : Option Addr} {sl47 : Array (Option Value)} {oc47 kV47 dc47 pm47 cd47 ct47 : Value}
    {f48 : Addr} {od48 an48 : Option Addr} {sl48 : Array (Option Value)} {oc48 kV48 dc48 pm48 cd48 ct48 : Value}
    {f49 : Addr} {od49 an49 : Option Addr} {sl49 : Array (Option Value)} {oc49 kV49 dc49 pm49 cd49 ct49 : Value}
    {f50 : Addr} {od50 an50 : Option Addr} {sl50 : Array (Option Value)} {oc50 kV50 dc50 pm50 cd50 ct50 : Value}
    {f51 : Addr} {od51 an51 : Option Addr} {sl51 : Array (Option Value)} {oc51 kV51 dc51 pm51 cd51 ct51 : Value}
    {f52 : Addr} {od52 an52 : Option Addr} {sl52 : Array (Option Value)} {oc52 kV52 dc52 pm52 cd52 ct52 : Value}
    {f53 : Addr} {od53 an53 : Option Addr} {sl53 : Array (Option Value)} {oc53 kV53 dc53 pm53 cd53 ct53 : Value}
    {f54 : Addr} {od54 an54 : Option Addr} {sl54 : Array (Option Value)} {oc54 kV54 dc54 pm54 cd54 ct54 : Value}
    {f55 : Addr} {od55 an55 : Option Addr} {sl55 : Array (Option Value)} {oc55 kV55 dc55 pm55 cd55 ct55 : Value}
    (z_len : PySem.W.nsIn K mainGlobals "len" = some none)
    (z_abs : PySem.W.nsIn K mainGlobals "abs" = some none)
    (z_min : PySem.W.nsIn K mainGlobals "min" = some none)
    (z_max : PySem.W.nsIn K mainGlobals "max" = some none)
    (z_isinstance : PySem.W.nsIn K mainGlobals "isinstance" = some none)
    (z_sum : PySem.W.nsIn K mainGlobals "sum" = some none)
    (z_sorted : PySem.W.nsIn K mainGlobals "sorted" = some none)
    (z_int : PySem.W.nsIn K mainGlobals "int" = some none)
    (z_list : PySem.W.nsIn K mainGlobals "list" = some none)
    (z_tuple : PySem.W.nsIn K mainGlobals "tuple" = some none)
    (z_bool : PySem.W.nsIn K mainGlobals "bool" = some none)
    (z_range : PySem.W.nsIn K mainGlobals "range" = some none)
    (z_set : PySem.W.nsIn K mainGlobals "set" = some none)
    (z_zip : PySem.W.nsIn K mainGlobals "zip" = some none)
    (z_enumerate : PySem.W.nsIn K mainGlobals "enumerate" = some none)
    (z_ValueError : PySem.W.nsIn K mainGlobals "ValueError" = some none)
    (g_NOUGHT : PySem.W.nsIn K mainGlobals "NOUGHT" = some (some (.ref c_NOUGHT)))
    (k_NOUGHT : K.lookup c_NOUGHT = some ⟨.type "tuple", d_NOUGHT, .seq #[.int 0 t0_NOUGHT, .int 1 t1_NOUGHT] n_NOUGHT, sl_NOUGHT⟩)
    (g_ONE : PySem.W.nsIn K mainGlobals "ONE" = some (some (.ref c_ONE)))
    (k_ONE : K.lookup c_ONE = some ⟨.type "tuple", d_ONE, .seq #[.int 1 t0_ONE, .int 1 t1_ONE] n_ONE, sl_ONE⟩)
    (g_MOST_BODIES : PySem.W.nsIn K mainGlobals "MOST_BODIES" = some (some (.int 4 t_MOST_BODIES)))
    (g_MOST_ROPES : PySem.W.nsIn K mainGlobals "MOST_ROPES" = some (some (.int 5 t_MOST_ROPES)))
    (g_MOST_WEIGHT : PySem.W.nsIn K mainGlobals "MOST_WEIGHT" = some (some (.int 1000 t_MOST_WEIGHT)))
    (g_MOST_PAIRS : PySem.W.nsIn K mainGlobals "MOST_PAIRS" = some (some (.int 12 t_MOST_PAIRS)))
    (g_MOST_STRANDS : PySem.W.nsIn K mainGlobals "MOST_STRANDS" = some (some (.int 9 t_MOST_STRANDS)))
    (c_Bearing_ : PySem.W.nsIn K mainGlobals "Bearing" = some (some (.ref c_Bearing)))
    (pg_Bearing : PySem.W.plainGet K c_Bearing Str.empty = true)
    (hd_Bearing : PySem.W.hasDictIn K c_Bearing = true)
    (po_Bearing : PySem.W.plainOver K c_Bearing = true)
    (sa_Bearing : PySem.W.findIn K (.ref c_Bearing) "__setattr__" = some (some (.builtin "object.__setattr__")))
    (n_ropes : PySem.W.findIn K (.ref c_Bearing) "ropes" = some none)
    (n_rows : PySem.W.findIn K (.ref c_Bearing) "rows" = some none)
    (n_bearers : PySem.W.findIn K (.ref c_Bearing) "bearers" = some none)
    (n_way : PySem.W.findIn K (.ref c_Bearing) "way" = some none)
    (c_Hoist_ : PySem.W.nsIn K mainGlobals "Hoist" = some (some (.ref c_Hoist)))
    (pg_Hoist : PySem.W.plainGet K c_Hoist Str.empty = true)
    (hd_Hoist : PySem.W.hasDictIn K c_Hoist = true)
    (po_Hoist : PySem.W.plainOver K c_Hoist = true)
    (sa_Hoist : PySem.W.findIn K (.ref c_Hoist) "__setattr__" = some (some (.builtin "object.__setattr__")))
    (n_body_weights : PySem.W.findIn K (.ref c_Hoist) "body_weights" = some none)
    (n_rope_strands : PySem.W.findIn K (.ref c_Hoist) "rope_strands" = some none)
    (c_HoistError_ : PySem.W.nsIn K mainGlobals "HoistError" = some (some (.ref c_HoistError)))
    (c_NoHoist_ : PySem.W.nsIn K mainGlobals "NoHoist" = some (some (.ref c_NoHoist)))
    (c_NoRope_ : PySem.W.nsIn K mainGlobals "NoRope" = some (some (.ref c_NoRope)))
    (c_NoBody_ : PySem.W.nsIn K mainGlobals "NoBody" = some (some (.ref c_NoBody)))
    (c_Sinks_ : PySem.W.nsIn K mainGlobals "Sinks" = some (some (.ref c_Sinks)))
    (e_NoBody : PySem.W.excIn K c_NoBody bmV "ValueError.__new__" = true)
    (e_NoRope : PySem.W.excIn K c_NoRope bmV "ValueError.__new__" = true)
    (e_Sinks : PySem.W.excIn K c_Sinks bmV "ValueError.__new__" = true)
    (ig_Sinks : PySem.W.findIn K (.ref c_Sinks) "__getattribute__" = some (some (.builtin "BaseException.__getattribute__")))
    (in_Sinks : PySem.W.findIn K (.ref c_Sinks) "__getattr__" = some none)
    (ib_Sinks : PySem.W.mroIn K c_Sinks (.type "BaseException") = some true)
    (ic_Sinks : (PySem.W.clsIn K c_Sinks).isSome = true)
    (ia_Sinks : PySem.W.findIn K (.ref c_Sinks) "__class__" = some (some (.builtin "object.__class__")))
    (im_Sinks : PySem.W.mroIn K c_Sinks (.type "object") = some true)
    (kit_Sinks_HoistError : PySem.W.kitOne K (.ref c_Sinks) (.ref c_HoistError) = some true)
    (kit_Sinks_NoHoist : PySem.W.kitOne K (.ref c_Sinks) (.ref c_NoHoist) = some false)
    (kit_Sinks_NoRope : PySem.W.kitOne K (.ref c_Sinks) (.ref c_NoRope) = some false)
    (kit_Sinks_NoBody : PySem.W.kitOne K (.ref c_Sinks) (.ref c_NoBody) = some false)
    (kit_Sinks_Sinks : PySem.W.kitOne K (.ref c_Sinks) (.ref c_Sinks) = some true)
    (kit_Sinks_V : PySem.W.kitOne K (.ref c_Sinks) (.type "ValueError") = some true)
    (exm_Sinks : PySem.W.exmOne K (.ref c_Sinks) (.ref c_HoistError) = some true)
    (i_hn : PySem.W.specialIn K (.builtin "object.__class__") "__get__" = some (some (.builtin "getset_descriptor.__get__")))
    (i_ht : PySem.W.takesIn K (.builtin "object.__class__") = some true)
    (a0 : PySem.W.nsIn K mainGlobals "common_divisor" = some (some (.ref f0)))
    (l0 : K.lookup f0 = some ⟨oc0, od0, .func (PySem.W.fnOf "common_divisor" "common_divisor" (defArgs s_common_divisor) (defBody s_common_divisor) (defScope s_common_divisor) .none kV0 dc0 pm0 an0 cd0 ct0), sl0⟩)
    (cc0 : PySem.W.codeIn K cd0 "common_divisor" = true)
    (k0 : PySem.W.keepIn K (.ref f0) = true)
    (a1 : PySem.W.nsIn K mainGlobals "less" = some (some (.ref f1)))
    (l1 : K.lookup f1 = some ⟨oc1, od1, .func (PySem.W.fnOf "less" "less" (defArgs s_less) (defBody s_less) (defScope s_less) .none kV1 dc1 pm1 an1 cd1 ct1), sl1⟩)
    (cc1 : PySem.W.codeIn K cd1 "less" = true)
    (k1 : PySem.W.keepIn K (.ref f1) = true)
    (a2 : PySem.W.nsIn K mainGlobals "check_number" = some (some (.ref f2)))
    (l2 : K.lookup f2 = some ⟨oc2, od2, .func (PySem.W.fnOf "check_number" "check_number" (defArgs s_check_number) (defBody s_check_number) (defScope s_check_number) .none kV2 dc2 pm2 an2 cd2 ct2), sl2⟩)
    (cc2 : PySem.W.codeIn K cd2 "check_number" = true)
    (k2 : PySem.W.keepIn K (.ref f2) = true)
    (a3 : PySem.W.nsIn K mainGlobals "check_weights" = some (some (.ref f3)))
    (l3 : K.lookup f3 = some ⟨oc3, od3, .func (PySem.W.fnOf "check_weights" "check_weights" (defArgs s_check_weights) (defBody s_check_weights) (defScope s_check_weights) .none kV3 dc3 pm3 an3 cd3 ct3), sl3⟩)
    (cc3 : PySem.W.codeIn K cd3 "check_weights" = true)
    (k3 : PySem.W.keepIn K (.ref f3) = true)
    (a4 : PySem.W.findIn K (.ref c_Hoist) "weights" = some (some (.ref f4)))
    (l4 : K.lookup f4 = some ⟨oc4, od4, .func (PySem.W.fnOf "weights" "Hoist.weights" (defArgs s_Hoist_weights) (defBody s_Hoist_weights) (defScope s_Hoist_weights) .none kV4 dc4 pm4 an4 cd4 ct4), sl4⟩)
    (cc4 : PySem.W.codeIn K cd4 "Hoist.weights" = true)
    (k4 : PySem.W.keepIn K (.ref f4) = true)
    (i4 : PySem.W.isFn K (.ref f4) = true)
    (a5 : PySem.W.findIn K (.ref c_Hoist) "many_ropes" = some (some (.ref f5)))
    (l5 : K.lookup f5 = some ⟨oc5, od5, .func (PySem.W.fnOf "many_ropes" "Hoist.many_ropes" (defArgs s_Hoist_many_ropes) (defBody s_Hoist_many_ropes) (defScope s_Hoist_many_ropes) .none kV5 dc5 pm5 an5 cd5 ct5), sl5⟩)
    (cc5 : PySem.W.codeIn K cd5 "Hoist.many_ropes" = true)
    (k5 : PySem.W.keepIn K (.ref f5) = true)
    (i5 : PySem.W.isFn K (.ref f5) = true)
    (a6 : PySem.W.nsIn K mainGlobals "first_true" = some (some (.ref f6)))
    (l6 : K.lookup f6 = some ⟨oc6, od6, .func (PySem.W.fnOf "first_true" "first_true" (defArgs s_first_true) (defBody s_first_true) (defScope s_first_true) .none kV6 dc6 pm6 an6 cd6 ct6), sl6⟩)
    (cc6 : PySem.W.codeIn K cd6 "first_true" = true)
    (k6 : PySem.W.keepIn K (.ref f6) = true)
    (a7 : PySem.W.findIn K (.ref c_Bearing) "motion" = some (some (.ref f7)))
    (l7 : K.lookup f7 = some ⟨oc7, od7, .func (PySem.W.fnOf "motion" "Bearing.motion" (defArgs s_Bearing_motion) (defBody s_Bearing_motion) (defScope s_Bearing_motion) .none kV7 dc7 pm7 an7 cd7 ct7), sl7⟩)
    (cc7 : PySem.W.codeIn K cd7 "Bearing.motion" = true)
    (k7 : PySem.W.keepIn K (.ref f7) = true)
    (i7 : PySem.W.isFn K (.ref f7) = true)
    (a8 : PySem.W.findIn K (.ref c_Bearing) "pulls" = some (some (.ref f8)))
    (l8 : K.lookup f8 = some ⟨oc8, od8, .func (PySem.W.fnOf "pulls" "Bearing.pulls" (defArgs s_Bearing_pulls) (defBody s_Bearing_pulls) (defScope s_Bearing_pulls) .none kV8 dc8 pm8 an8 cd8 ct8), sl8⟩)
    (cc8 : PySem.W.codeIn K cd8 "Bearing.pulls" = true)
    (k8 : PySem.W.keepIn K (.ref f8) = true)
    (i8 : PySem.W.isFn K (.ref f8) = true)
    (a9 : PySem.W.nsIn K mainGlobals "_law_cell_at" = some (some (.ref f9)))
    (l9 : K.lookup f9 = some ⟨oc9, od9, .func (PySem.W.fnOf "_law_cell_at" "_law_cell_at" (defArgs s__law_cell_at) (defBody s__law_cell_at) (defScope s__law_cell_at) .none kV9 dc9 pm9 an9 cd9 ct9), sl9⟩)
    (cc9 : PySem.W.codeIn K cd9 "_law_cell_at" = true)
    (k9 : PySem.W.keepIn K (.ref f9) = true)
    (a10 : PySem.W.nsIn K mainGlobals "_law_whole" = some (some (.ref f10)))
    (l10 : K.lookup f10 = some ⟨oc10, od10, .func (PySem.W.fnOf "_law_whole" "_law_whole" (defArgs s__law_whole) (defBody s__law_whole) (defScope s__law_whole) .none kV10 dc10 pm10 an10 cd10 ct10), sl10⟩)
    (cc10 : PySem.W.codeIn K cd10 "_law_whole" = true)
    (k10 : PySem.W.keepIn K (.ref f10) = true)
    (a11 : PySem.W.nsIn K mainGlobals "_law_low" = some (some (.ref f11)))
    (l11 : K.lookup f11 = some ⟨oc11, od11, .func (PySem.W.fnOf "_law_low" "_law_low" (defArgs s__law_low) (defBody s__law_low) (defScope s__law_low) .none kV11 dc11 pm11 an11 cd11 ct11), sl11⟩)
    (cc11 : PySem.W.codeIn K cd11 "_law_low" = true)
    (k11 : PySem.W.keepIn K (.ref f11) = true)
    (a12 : PySem.W.nsIn K mainGlobals "_law_ropes" = some (some (.ref f12)))
    (l12 : K.lookup f12 = some ⟨oc12, od12, .func (PySem.W.fnOf "_law_ropes" "_law_ropes" (defArgs s__law_ropes) (defBody s__law_ropes) (defScope s__law_ropes) .none kV12 dc12 pm12 an12 cd12 ct12), sl12⟩)
    (cc12 : PySem.W.codeIn K cd12 "_law_ropes" = true)
    (k12 : PySem.W.keepIn K (.ref f12) = true)
    (a13 : PySem.W.nsIn K mainGlobals "lowest" = some (some (.ref f13)))
    (l13 : K.lookup f13 = some ⟨oc13, od13, .func (PySem.W.fnOf "lowest" "lowest" (defArgs s_lowest) (defBody s_lowest) (defScope s_lowest) .none kV13 dc13 pm13 an13 cd13 ct13), sl13⟩)
    (cc13 : PySem.W.codeIn K cd13 "lowest" = true)
    (k13 : PySem.W.keepIn K (.ref f13) = true)
    (a14 : PySem.W.nsIn K mainGlobals "check_rope" = some (some (.ref f14)))
    (l14 : K.lookup f14 = some ⟨oc14, od14, .func (PySem.W.fnOf "check_rope" "check_rope" (defArgs s_check_rope) (defBody s_check_rope) (defScope s_check_rope) .none kV14 dc14 pm14 an14 cd14 ct14), sl14⟩)
    (cc14 : PySem.W.codeIn K cd14 "check_rope" = true)
    (k14 : PySem.W.keepIn K (.ref f14) = true)
    (a15 : PySem.W.nsIn K mainGlobals "added_strands" = some (some (.ref f15)))
    (l15 : K.lookup f15 = some ⟨oc15, od15, .func (PySem.W.fnOf "added_strands" "added_strands" (defArgs s_added_strands) (defBody s_added_strands) (defScope s_added_strands) .none kV15 dc15 pm15 an15 cd15 ct15), sl15⟩)
    (cc15 : PySem.W.codeIn K cd15 "added_strands" = true)
    (k15 : PySem.W.keepIn K (.ref f15) = true)
    (a16 : PySem.W.findIn K (.ref c_Bearing) "sinks" = some (some (.ref f16)))
    (l16 : K.lookup f16 = some ⟨oc16, od16, .func (PySem.W.fnOf "sinks" "Bearing.sinks" (defArgs s_Bearing_sinks) (defBody s_Bearing_sinks) (defScope s_Bearing_sinks) .none kV16 dc16 pm16 an16 cd16 ct16), sl16⟩)
    (cc16 : PySem.W.codeIn K cd16 "Bearing.sinks" = true)
    (k16 : PySem.W.keepIn K (.ref f16) = true)
    (i16 : PySem.W.isFn K (.ref f16) = true)
    (a17 : PySem.W.findIn K (.ref c_Bearing) "short_rope" = some (some (.ref f17)))
    (l17 : K.lookup f17 = some ⟨oc17, od17, .func (PySem.W.fnOf "short_rope" "Bearing.short_rope" (defArgs s_Bearing_short_rope) (defBody s_Bearing_short_rope) (defScope s_Bearing_short_rope) .none kV17 dc17 pm17 an17 cd17 ct17), sl17⟩)
    (cc17 : PySem.W.codeIn K cd17 "Bearing.short_rope" = true)
    (k17 : PySem.W.keepIn K (.ref f17) = true)
    (i17 : PySem.W.isFn K (.ref f17) = true)
    (a18 : PySem.W.nsIn K mainGlobals "_law_plus" = some (some (.ref f18)))
    (l18 : K.lookup f18 = some ⟨oc18, od18, .func (PySem.W.fnOf "_law_plus" "_law_plus" (defArgs s__law_plus) (defBody s__law_plus) (defScope s__law_plus) .none kV18 dc18 pm18 an18 cd18 ct18), sl18⟩)
    (cc18 : PySem.W.codeIn K cd18 "_law_plus" = true)
    (k18 : PySem.W.keepIn K (.ref f18) = true)
    (a19 : PySem.W.nsIn K mainGlobals "_law_part" = some (some (.ref f19)))
    (l19 : K.lookup f19 = some ⟨oc19, od19, .func (PySem.W.fnOf "_law_part" "_law_part" (defArgs s__law_part) (defBody s__law_part) (defScope s__law_part) .none kV19 dc19 pm19 an19 cd19 ct19), sl19⟩)
    (cc19 : PySem.W.codeIn K cd19 "_law_part" = true)
    (k19 : PySem.W.keepIn K (.ref f19) = true)
    (a20 : PySem.W.nsIn K mainGlobals "_law_table" = some (some (.ref f20)))
    (l20 : K.lookup f20 = some ⟨oc20, od20, .func (PySem.W.fnOf "_law_table" "_law_table" (defArgs s__law_table) (defBody s__law_table) (defScope s__law_table) .none kV20 dc20 pm20 an20 cd20 ct20), sl20⟩)
    (cc20 : PySem.W.codeIn K cd20 "_law_table" = true)
    (k20 : PySem.W.keepIn K (.ref f20) = true)
    (a21 : PySem.W.nsIn K mainGlobals "plus" = some (some (.ref f21)))
    (l21 : K.lookup f21 = some ⟨oc21, od21, .func (PySem.W.fnOf "plus" "plus" (defArgs s_plus) (defBody s_plus) (defScope s_plus) .none kV21 dc21 pm21 an21 cd21 ct21), sl21⟩)
    (cc21 : PySem.W.codeIn K cd21 "plus" = true)
    (k21 : PySem.W.keepIn K (.ref f21) = true)
    (a22 : PySem.W.nsIn K mainGlobals "minus" = some (some (.ref f22)))
    (l22 : K.lookup f22 = some ⟨oc22, od22, .func (PySem.W.fnOf "minus" "minus" (defArgs s_minus) (defBody s_minus) (defScope s_minus) .none kV22 dc22 pm22 an22 cd22 ct22), sl22⟩)
    (cc22 : PySem.W.codeIn K cd22 "minus" = true)
    (k22 : PySem.W.keepIn K (.ref f22) = true)
    (a23 : PySem.W.nsIn K mainGlobals "times" = some (some (.ref f23)))
    (l23 : K.lookup f23 = some ⟨oc23, od23, .func (PySem.W.fnOf "times" "times" (defArgs s_times) (defBody s_times) (defScope s_times) .none kV23 dc23 pm23 an23 cd23 ct23), sl23⟩)
    (cc23 : PySem.W.codeIn K cd23 "times" = true)
    (k23 : PySem.W.keepIn K (.ref f23) = true)
    (a24 : PySem.W.nsIn K mainGlobals "over" = some (some (.ref f24)))
    (l24 : K.lookup f24 = some ⟨oc24, od24, .func (PySem.W.fnOf "over" "over" (defArgs s_over) (defBody s_over) (defScope s_over) .none kV24 dc24 pm24 an24 cd24 ct24), sl24⟩)
    (cc24 : PySem.W.codeIn K cd24 "over" = true)
    (k24 : PySem.W.keepIn K (.ref f24) = true)
    (a25 : PySem.W.findIn K (.ref c_Hoist) "strands" = some (some (.ref f25)))
    (l25 : K.lookup f25 = some ⟨oc25, od25, .func (PySem.W.fnOf "strands" "Hoist.strands" (defArgs s_Hoist_strands) (defBody s_Hoist_strands) (defScope s_Hoist_strands) .none kV25 dc25 pm25 an25 cd25 ct25), sl25⟩)
    (cc25 : PySem.W.codeIn K cd25 "Hoist.strands" = true)
    (k25 : PySem.W.keepIn K (.ref f25) = true)
    (i25 : PySem.W.isFn K (.ref f25) = true)
    (a26 : PySem.W.findIn K (.ref c_Hoist) "__init__" = some (some (.ref f26)))
    (l26 : K.lookup f26 = some ⟨oc26, od26, .func (PySem.W.fnOf "__init__" "Hoist.__init__" (defArgs s_Hoist___init__) (defBody s_Hoist___init__) (defScope s_Hoist___init__) .none kV26 dc26 pm26 an26 cd26 ct26), sl26⟩)
    (cc26 : PySem.W.codeIn K cd26 "Hoist.__init__" = true)
    (k26 : PySem.W.keepIn K (.ref f26) = true)
    (i26 : PySem.W.isFn K (.ref f26) = true)
    (m26 : PySem.W.makesIn K c_Hoist = true)
    (kc26 : PySem.W.keepIn K (.ref c_Hoist) = true)
    (a27 : PySem.W.nsIn K mainGlobals "_law_parts" = some (some (.ref f27)))
    (l27 : K.lookup f27 = some ⟨oc27, od27, .func (PySem.W.fnOf "_law_parts" "_law_parts" (defArgs s__law_parts) (defBody s__law_parts) (defScope s__law_parts) .none kV27 dc27 pm27 an27 cd27 ct27), sl27⟩)
    (cc27 : PySem.W.codeIn K cd27 "_law_parts" = true)
    (k27 : PySem.W.keepIn K (.ref f27) = true)
    (a28 : PySem.W.nsIn K mainGlobals "_law_sum" = some (some (.ref f28)))
    (l28 : K.lookup f28 = some ⟨oc28, od28, .func (PySem.W.fnOf "_law_sum" "_law_sum" (defArgs s__law_sum) (defBody s__law_sum) (defScope s__law_sum) .none kV28 dc28 pm28 an28 cd28 ct28), sl28⟩)
    (cc28 : PySem.W.codeIn K cd28 "_law_sum" = true)
    (k28 : PySem.W.keepIn K (.ref f28) = true)
    (a29 : PySem.W.nsIn K mainGlobals "_law_drawn" = some (some (.ref f29)))
    (l29 : K.lookup f29 = some ⟨oc29, od29, .func (PySem.W.fnOf "_law_drawn" "_law_drawn" (defArgs s__law_drawn) (defBody s__law_drawn) (defScope s__law_drawn) .none kV29 dc29 pm29 an29 cd29 ct29), sl29⟩)
    (cc29 : PySem.W.codeIn K cd29 "_law_drawn" = true)
    (k29 : PySem.W.keepIn K (.ref f29) = true)
    (a30 : PySem.W.nsIn K mainGlobals "strands_at" = some (some (.ref f30)))
    (l30 : K.lookup f30 = some ⟨oc30, od30, .func (PySem.W.fnOf "strands_at" "strands_at" (defArgs s_strands_at) (defBody s_strands_at) (defScope s_strands_at) .none kV30 dc30 pm30 an30 cd30 ct30), sl30⟩)
    (cc30 : PySem.W.codeIn K cd30 "strands_at" = true)
    (k30 : PySem.W.keepIn K (.ref f30) = true)
    (a31 : PySem.W.nsIn K mainGlobals "strands_of" = some (some (.ref f31)))
    (l31 : K.lookup f31 = some ⟨oc31, od31, .func (PySem.W.fnOf "strands_of" "strands_of" (defArgs s_strands_of) (defBody s_strands_of) (defScope s_strands_of) .none kV31 dc31 pm31 an31 cd31 ct31), sl31⟩)
    (cc31 : PySem.W.codeIn K cd31 "strands_of" = true)
    (k31 : PySem.W.keepIn K (.ref f31) = true)
    (a32 : PySem.W.nsIn K mainGlobals "added" = some (some (.ref f32)))
    (l32 : K.lookup f32 = some ⟨oc32, od32, .func (PySem.W.fnOf "added" "added" (defArgs s_added) (defBody s_added) (defScope s_added) .none kV32 dc32 pm32 an32 cd32 ct32), sl32⟩)
    (cc32 : PySem.W.codeIn K cd32 "added" = true)
    (k32 : PySem.W.keepIn K (.ref f32) = true)
    (a33 : PySem.W.nsIn K mainGlobals "cleared" = some (some (.ref f33)))
    (l33 : K.lookup f33 = some ⟨oc33, od33, .func (PySem.W.fnOf "cleared" "cleared" (defArgs s_cleared) (defBody s_cleared) (defScope s_cleared) .none kV33 dc33 pm33 an33 cd33 ct33), sl33⟩)
    (cc33 : PySem.W.codeIn K cd33 "cleared" = true)
    (k33 : PySem.W.keepIn K (.ref f33) = true)
    (a34 : PySem.W.findIn K (.ref c_Bearing) "freed_sooner" = some (some (.ref f34)))
    (l34 : K.lookup f34 = some ⟨oc34, od34, .func (PySem.W.fnOf "freed_sooner" "Bearing.freed_sooner" (defArgs s_Bearing_freed_sooner) (defBody s_Bearing_freed_sooner) (defScope s_Bearing_freed_sooner) .none kV34 dc34 pm34 an34 cd34 ct34), sl34⟩)
    (cc34 : PySem.W.codeIn K cd34 "Bearing.freed_sooner" = true)
    (k34 : PySem.W.keepIn K (.ref f34) = true)
    (i34 : PySem.W.isFn K (.ref f34) = true)
    (a35 : PySem.W.nsIn K mainGlobals "_law_held" = some (some (.ref f35)))
    (l35 : K.lookup f35 = some ⟨oc35, od35, .func (PySem.W.fnOf "_law_held" "_law_held" (defArgs s__law_held) (defBody s__law_held) (defScope s__law_held) .none kV35 dc35 pm35 an35 cd35 ct35), sl35⟩)
    (cc35 : PySem.W.codeIn K cd35 "_law_held" = true)
    (k35 : PySem.W.keepIn K (.ref f35) = true)
    (a36 : PySem.W.nsIn K mainGlobals "told_pairs" = some (some (.ref f36)))
    (l36 : K.lookup f36 = some ⟨oc36, od36, .func (PySem.W.fnOf "told_pairs" "told_pairs" (defArgs s_told_pairs) (defBody s_told_pairs) (defScope s_told_pairs) .none kV36 dc36 pm36 an36 cd36 ct36), sl36⟩)
    (cc36 : PySem.W.codeIn K cd36 "told_pairs" = true)
    (k36 : PySem.W.keepIn K (.ref f36) = true)
    (a37 : PySem.W.nsIn K mainGlobals "spare" = some (some (.ref f37)))
    (l37 : K.lookup f37 = some ⟨oc37, od37, .func (PySem.W.fnOf "spare" "spare" (defArgs s_spare) (defBody s_spare) (defScope s_spare) .none kV37 dc37 pm37 an37 cd37 ct37), sl37⟩)
    (cc37 : PySem.W.codeIn K cd37 "spare" = true)
    (k37 : PySem.W.keepIn K (.ref f37) = true)
    (a38 : PySem.W.nsIn K mainGlobals "gain" = some (some (.ref f38)))
    (l38 : K.lookup f38 = some ⟨oc38, od38, .func (PySem.W.fnOf "gain" "gain" (defArgs s_gain) (defBody s_gain) (defScope s_gain) .none kV38 dc38 pm38 an38 cd38 ct38), sl38⟩)
    (cc38 : PySem.W.codeIn K cd38 "gain" = true)
    (k38 : PySem.W.keepIn K (.ref f38) = true)
    (a39 : PySem.W.nsIn K mainGlobals "first_row" = some (some (.ref f39)))
    (l39 : K.lookup f39 = some ⟨oc39, od39, .func (PySem.W.fnOf "first_row" "first_row" (defArgs s_first_row) (defBody s_first_row) (defScope s_first_row) .none kV39 dc39 pm39 an39 cd39 ct39), sl39⟩)
    (cc39 : PySem.W.codeIn K cd39 "first_row" = true)
    (k39 : PySem.W.keepIn K (.ref f39) = true)
    (a40 : PySem.W.findIn K (.ref c_Bearing) "first_freed" = some (some (.ref f40)))
    (l40 : K.lookup f40 = some ⟨oc40, od40, .func (PySem.W.fnOf "first_freed" "Bearing.first_freed" (defArgs s_Bearing_first_freed) (defBody s_Bearing_first_freed) (defScope s_Bearing_first_freed) .none kV40 dc40 pm40 an40 cd40 ct40), sl40⟩)
    (cc40 : PySem.W.codeIn K cd40 "Bearing.first_freed" = true)
    (k40 : PySem.W.keepIn K (.ref f40) = true)
    (i40 : PySem.W.isFn K (.ref f40) = true)
    (a41 : PySem.W.findIn K (.ref c_Bearing) "take_place" = some (some (.ref f41)))
    (l41 : K.lookup f41 = some ⟨oc41, od41, .func (PySem.W.fnOf "take_place" "Bearing.take_place" (defArgs s_Bearing_take_place) (defBody s_Bearing_take_place) (defScope s_Bearing_take_place) .none kV41 dc41 pm41 an41 cd41 ct41), sl41⟩)
    (cc41 : PySem.W.codeIn K cd41 "Bearing.take_place" = true)
    (k41 : PySem.W.keepIn K (.ref f41) = true)
    (i41 : PySem.W.isFn K (.ref f41) = true)
    (a42 : PySem.W.nsIn K mainGlobals "told_ropes" = some (some (.ref f42)))
    (l42 : K.lookup f42 = some ⟨oc42, od42, .func (PySem.W.fnOf "told_ropes" "told_ropes" (defArgs s_told_ropes) (defBody s_told_ropes) (defScope s_told_ropes) .none kV42 dc42 pm42 an42 cd42 ct42), sl42⟩)
    (cc42 : PySem.W.codeIn K cd42 "told_ropes" = true)
    (k42 : PySem.W.keepIn K (.ref f42) = true)
    (a43 : PySem.W.nsIn K mainGlobals "_law_still" = some (some (.ref f43)))
    (l43 : K.lookup f43 = some ⟨oc43, od43, .func (PySem.W.fnOf "_law_still" "_law_still" (defArgs s__law_still) (defBody s__law_still) (defScope s__law_still) .none kV43 dc43 pm43 an43 cd43 ct43), sl43⟩)
    (cc43 : PySem.W.codeIn K cd43 "_law_still" = true)
    (k43 : PySem.W.keepIn K (.ref f43) = true)
    (a44 : PySem.W.nsIn K mainGlobals "whole_way" = some (some (.ref f44)))
    (l44 : K.lookup f44 = some ⟨oc44, od44, .func (PySem.W.fnOf "whole_way" "whole_way" (defArgs s_whole_way) (defBody s_whole_way) (defScope s_whole_way) .none kV44 dc44 pm44 an44 cd44 ct44), sl44⟩)
    (cc44 : PySem.W.codeIn K cd44 "whole_way" = true)
    (k44 : PySem.W.keepIn K (.ref f44) = true)
    (a45 : PySem.W.findIn K (.ref c_Bearing) "settle" = some (some (.ref f45)))
    (l45 : K.lookup f45 = some ⟨oc45, od45, .func (PySem.W.fnOf "settle" "Bearing.settle" (defArgs s_Bearing_settle) (defBody s_Bearing_settle) (defScope s_Bearing_settle) .none kV45 dc45 pm45 an45 cd45 ct45), sl45⟩)
    (cc45 : PySem.W.codeIn K cd45 "Bearing.settle" = true)
    (k45 : PySem.W.keepIn K (.ref f45) = true)
    (i45 : PySem.W.isFn K (.ref f45) = true)
    (a46 : PySem.W.findIn K (.ref c_Bearing) "leave_props" = some (some (.ref f46)))
    (l46 : K.lookup f46 = some ⟨oc46, od46, .func (PySem.W.fnOf "leave_props" "Bearing.leave_props" (defArgs s_Bearing_leave_props) (defBody s_Bearing_leave_props) (defScope s_Bearing_leave_props) .none kV46 dc46 pm46 an46 cd46 ct46), sl46⟩)
    (cc46 : PySem.W.codeIn K cd46 "Bearing.leave_props" = true)
    (k46 : PySem.W.keepIn K (.ref f46) = true)
    (i46 : PySem.W.isFn K (.ref f46) = true)
    (a47 : PySem.W.nsIn K mainGlobals "without" = some (some (.ref f47)))
    (l47 : K.lookup f47 = some ⟨oc47, od47, .func (PySem.W.fnOf "without" "without" (defArgs s_without) (defBody s_without) (defScope s_without) .none kV47 dc47 pm47 an47 cd47 ct47), sl47⟩)
    (cc47 : PySem.W.codeIn K cd47 "without" = true)
    (k47 : PySem.W.keepIn K (.ref f47) = true)
    (a48 : PySem.W.findIn K (.ref c_Bearing) "__init__" = some (some (.ref f48)))
    (l48 : K.lookup f48 = some ⟨oc48, od48, .func (PySem.W.fnOf "__init__" "Bearing.__init__" (defArgs s_Bearing___init__) (defBody s_Bearing___init__) (defScope s_Bearing___init__) .none kV48 dc48 pm48 an48 cd48 ct48), sl48⟩)
    (cc48 : PySem.W.codeIn K cd48 "Bearing.__init__" = true)
    (k48 : PySem.W.keepIn K (.ref f48) = true)
    (i48 : PySem.W.isFn K (.ref f48) = true)
    (m48 : PySem.W.makesIn K c_Bearing = true)
    (kc48 : PySem.W.keepIn K (.ref c_Bearing) = true)
    (a49 : PySem.W.findIn K (.ref c_Bearing) "lessen" = some (some (.ref f49)))
    (l49 : K.lookup f49 = some ⟨oc49, od49, .func (PySem.W.fnOf "lessen" "Bearing.lessen" (defArgs s_Bearing_lessen) (defBody s_Bearing_lessen) (defScope s_Bearing_lessen) .none kV49 dc49 pm49 an49 cd49 ct49), sl49⟩)
    (cc49 : PySem.W.codeIn K cd49 "Bearing.lessen" = true)
    (k49 : PySem.W.keepIn K (.ref f49) = true)
    (i49 : PySem.W.isFn K (.ref f49) = true)
    (a50 : PySem.W.nsIn K mainGlobals "judged" = some (some (.ref f50)))
    (l50 : K.lookup f50 = some ⟨oc50, od50, .func (PySem.W.fnOf "judged" "judged" (defArgs s_judged) (defBody s_judged) (defScope s_judged) .none kV50 dc50 pm50 an50 cd50 ct50), sl50⟩)
    (cc50 : PySem.W.codeIn K cd50 "judged" = true)
    (k50 : PySem.W.keepIn K (.ref f50) = true)
    (a51 : PySem.W.nsIn K mainGlobals "still_bearing" = some (some (.ref f51)))
    (l51 : K.lookup f51 = some ⟨oc51, od51, .func (PySem.W.fnOf "still_bearing" "still_bearing" (defArgs s_still_bearing) (defBody s_still_bearing) (defScope s_still_bearing) .none kV51 dc51 pm51 an51 cd51 ct51), sl51⟩)
    (cc51 : PySem.W.codeIn K cd51 "still_bearing" = true)
    (k51 : PySem.W.keepIn K (.ref f51) = true)
    (a52 : PySem.W.nsIn K mainGlobals "least_pull" = some (some (.ref f52)))
    (l52 : K.lookup f52 = some ⟨oc52, od52, .func (PySem.W.fnOf "least_pull" "least_pull" (defArgs s_least_pull) (defBody s_least_pull) (defScope s_least_pull) .none kV52 dc52 pm52 an52 cd52 ct52), sl52⟩)
    (cc52 : PySem.W.codeIn K cd52 "least_pull" = true)
    (k52 : PySem.W.keepIn K (.ref f52) = true)
    (a53 : PySem.W.nsIn K mainGlobals "can_be_spared" = some (some (.ref f53)))
    (l53 : K.lookup f53 = some ⟨oc53, od53, .func (PySem.W.fnOf "can_be_spared" "can_be_spared" (defArgs s_can_be_spared) (defBody s_can_be_spared) (defScope s_can_be_spared) .none kV53 dc53 pm53 an53 cd53 ct53), sl53⟩)
    (cc53 : PySem.W.codeIn K cd53 "can_be_spared" = true)
    (k53 : PySem.W.keepIn K (.ref f53) = true)
    (a54 : PySem.W.nsIn K mainGlobals "_law_tried" = some (some (.ref f54)))
    (l54 : K.lookup f54 = some ⟨oc54, od54, .func (PySem.W.fnOf "_law_tried" "_law_tried" (defArgs s__law_tried) (defBody s__law_tried) (defScope s__law_tried) .none kV54 dc54 pm54 an54 cd54 ct54), sl54⟩)
    (cc54 : PySem.W.codeIn K cd54 "_law_tried" = true)
    (k54 : PySem.W.keepIn K (.ref f54) = true)
    (a55 : PySem.W.nsIn K mainGlobals "law" = some (some (.ref f55)))
    (l55 : K.lookup f55 = some ⟨oc55, od55, .func (PySem.W.fnOf "law" "law" (defArgs s_law) (defBody s_law) (defScope s_law) .none kV55 dc55 pm55 an55 cd55 ct55), sl55⟩)
    (cc55 : PySem.W.codeIn K cd55 "law" = true)
    (k55 : PySem.W.keepIn K (.ref f55) = true) :
    ∃ fd : FuncData, (∀ (s : Shared) (v : Value), BindsTo s fd ⟨[v], []⟩ [("script", v)]) ∧ ∀ base : Heap, K.In base → base.Ns mainGlobals mg → FnOk l.prog w K mg base CX0 12 fa fd ["script"] (spLaw K) := by
  let AD : Ad := ⟨c_Bearing, c_Hoist, c_HoistError, c_NoHoist, c_NoRope, c_NoBody, c_Sinks, c_NOUGHT, c_ONE⟩
  have D0 : Def K mg "common_divisor" "common_divisor" s_common_divisor ["one", "other"] := ⟨f0, _, fun_mk (st := s_common_divisor) l0 cc0 k0, (fun_mk (st := s_common_divisor) l0 cc0 k0).binds (ps := ["one", "other"]) (fun _ _ _ _ _ _ us hl => match us, hl with | [_, _], _ => rfl), PySem.W.mg_of X G a0⟩
  have D1 : Def K mg "less" "less" s_less ["one", "other"] := ⟨f1, _, fun_mk (st := s_less) l1 cc1 k1, (fun_mk (st := s_less) l1 cc1 k1).binds (ps := ["one", "other"]) (fun _ _ _ _ _ _ us hl => match us, hl with | [_, _], _ => rfl), PySem.W.mg_of X G a1⟩
  have D2 : Def K mg "check_number" "check_number" s_check_number ["number"] := ⟨f2, _, fun_mk (st := s_check_number) l2 cc2 k2, (fun_mk (st := s_check_number) l2 cc2 k2).binds (ps := ["number"]) (fun _ _ _ _ _ _ us hl => match us, hl with | [_], _ => rfl), PySem.W.mg_of X G a2⟩
  have D3 : Def K mg "check_weights" "check_weights" s_check_weights ["weights"] := ⟨f3, _, fun_mk (st := s_check_weights) l3 cc3 k3, (fun_mk (st := s_check_weights) l3 cc3 k3).binds (ps := ["weights"]) (fun _ _ _ _ _ _ us hl => match us, hl with | [_], _ => rfl), PySem.W.mg_of X G a3⟩
  have D4 : DefM K AD.Hoist "weights" "Hoist.weights" s_Hoist_weights ["self"] := ⟨f4, _, fun_mk (st := s_Hoist_weights) l4 cc4 k4, (fun_mk (st := s_Hoist_weights) l4 cc4 k4).binds (ps := ["self"]) (fun _ _ _ _ _ _ us hl => match us, hl with | [_], _ => rfl), ⟨a4, i4, k4⟩⟩
  have D5 : DefM K AD.Hoist "many_ropes" "Hoist.many_ropes" s_Hoist_many_ropes ["self"] := ⟨f5, _, fun_mk (st := s_Hoist_many_ropes) l5 cc5 k5, (fun_mk (st := s_Hoist_many_ropes) l5 cc5 k5).binds (ps := ["self"]) (fun _ _ _ _ _ _ us hl => match us, hl with | [_], _ => rfl), ⟨a5, i5, k5⟩⟩
  have D6 : Def K mg "first_true" "first_true" s_first_true ["answers"] := ⟨f6, _, fun_mk (st := s_first_true) l6 cc6 k6, (fun_mk (st := s_first_true) l6 cc6 k6).binds (ps := ["answers"]) (fun _ _ _ _ _ _ us hl => match us, hl with | [_], _ => rfl), PySem.W.mg_of X G a6⟩
  have D7 : DefM K AD.Bearing "motion" "Bearing.motion" s_Bearing_motion ["self"] := ⟨f7, _, fun_mk (st := s_Bearing_motion) l7 cc7 k7, (fun_mk (st := s_Bearing_motion) l7 cc7 k7).binds (ps := ["self"]) (fun _ _ _ _ _ _ us hl => match us, hl with | [_], _ => rfl), ⟨a7, i7, k7⟩⟩
  have D8 : DefM K AD.Bearing "pulls" "Bearing.pulls" s_Bearing_pulls ["self"] := ⟨f8, _, fun_mk (st := s_Bearing_pulls) l8 cc8 k8, (fun_mk (st := s_Bearing_pulls) l8 cc8 k8).binds (ps := ["self"]) (fun _ _ _ _ _ _ us hl => match us, hl with | [_], _ => rfl), ⟨a8, i8, k8⟩⟩
  have D9 : Def K mg "_law_cell_at" "_law_cell_at" s__law_cell_at ["script", "k"] := ⟨f9, _, fun_mk (st := s__law_cell_at) l9 cc9 k9, (fun_mk (st := s__law_cell_at) l9 cc9 k9).binds (ps := ["script", "k"]) (fun _ _ _ _ _ _ us hl => match us, hl with | [_, _], _ => rfl), PySem.W.mg_of X G a9⟩
  have D10 : Def K mg "_law_whole" "_law_whole" s__law_whole ["found"] := ⟨f10, _, fun_mk (st := s__law_whole) l10 cc10 k10, (fun_mk (st := s__law_whole) l10 cc10 k10).binds (ps := ["found"]) (fun _ _ _ _ _ _ us hl => match us, hl with | [_], _ => rfl), PySem.W.mg_of X G a10⟩
  have D11 : Def K mg "_law_low" "_law_low" s__law_low ["top", "bottom"] := ⟨f11, _, fun_mk (st := s__law_low) l11 cc11 k11, (fun_mk (st := s__law_low) l11 cc11 k11).binds (ps := ["top", "bottom"]) (fun _ _ _ _ _ _ us hl => match us, hl with | [_, _], _ => rfl), PySem.W.mg_of X G a11⟩
  have D12 : Def K mg "_law_ropes" "_law_ropes" s__law_ropes ["table", "cell"] := ⟨f12, _, fun_mk (st := s__law_ropes) l12 cc12 k12, (fun_mk (st := s__law_ropes) l12 cc12 k12).binds (ps := ["table", "cell"]) (fun _ _ _ _ _ _ us hl => match us, hl with | [_, _], _ => rfl), PySem.W.mg_of X G a12⟩
  have D13 : Def K mg "lowest" "lowest" s_lowest ["top", "bottom"] := ⟨f13, _, fun_mk (st := s_lowest) l13 cc13 k13, (fun_mk (st := s_lowest) l13 cc13 k13).binds (ps := ["top", "bottom"]) (fun _ _ _ _ _ _ us hl => match us, hl with | [_, _], _ => rfl), PySem.W.mg_of X G a13⟩
  have D14 : Def K mg "check_rope" "check_rope" s_check_rope ["hoist", "rope"] := ⟨f14, _, fun_mk (st := s_check_rope) l14 cc14 k14, (fun_mk (st := s_check_rope) l14 cc14 k14).binds (ps := ["hoist", "rope"]) (fun _ _ _ _ _ _ us hl => match us, hl with | [_, _], _ => rfl), PySem.W.mg_of X G a14⟩
  have D15 : Def K mg "added_strands" "added_strands" s_added_strands ["rope", "many_bodies"] := ⟨f15, _, fun_mk (st := s_added_strands) l15 cc15 k15, (fun_mk (st := s_added_strands) l15 cc15 k15).binds (ps := ["rope", "many_bodies"]) (fun _ _ _ _ _ _ us hl => match us, hl with | [_, _], _ => rfl), PySem.W.mg_of X G a15⟩
  have D16 : DefM K AD.Bearing "sinks" "Bearing.sinks" s_Bearing_sinks ["self"] := ⟨f16, _, fun_mk (st := s_Bearing_sinks) l16 cc16 k16, (fun_mk (st := s_Bearing_sinks) l16 cc16 k16).binds (ps := ["self"]) (fun _ _ _ _ _ _ us hl => match us, hl with | [_], _ => rfl), ⟨a16, i16, k16⟩⟩
  have D17 : DefM K AD.Bearing "short_rope" "Bearing.short_rope" s_Bearing_short_rope ["self"] := ⟨f17, _, fun_mk (st := s_Bearing_short_rope) l17 cc17 k17, (fun_mk (st := s_Bearing_short_rope) l17 cc17 k17).binds (ps := ["self"]) (fun _ _ _ _ _ _ us hl => match us, hl with | [_], _ => rfl), ⟨a17, i17, k17⟩⟩
  have D18 : Def K mg "_law_plus" "_law_plus" s__law_plus ["one", "other"] := ⟨f18, _, fun_mk (st := s__law_plus) l18 cc18 k18, (fun_mk (st := s__law_plus) l18 cc18 k18).binds (ps := ["one", "other"]) (fun _ _ _ _ _ _ us hl => match us, hl with | [_, _], _ => rfl), PySem.W.mg_of X G a18⟩
  have D19 : Def K mg "_law_part" "_law_part" s__law_part ["found"] := ⟨f19, _, fun_mk (st := s__law_part) l19 cc19 k19, (fun_mk (st := s__law_part) l19 cc19 k19).binds (ps := ["found"]) (fun _ _ _ _ _ _ us hl => match us, hl with | [_], _ => rfl), PySem.W.mg_of X G a19⟩
  have D20 : Def K mg "_law_table" "_law_table" s__law_table ["script", "first", "ropes", "bodies"] := ⟨f20, _, fun_mk (st := s__law_table) l20 cc20 k20, (fun_mk (st := s__law_table) l20 cc20 k20).binds (ps := ["script", "first", "ropes", "bodies"]) (fun _ _ _ _ _ _ us hl => match us, hl with | [_, _, _, _], _ => rfl), PySem.W.mg_of X G a20⟩
  have D21 : Def K mg "plus" "plus" s_plus ["one", "other"] := ⟨f21, _, fun_mk (st := s_plus) l21 cc21 k21, (fun_mk (st := s_plus) l21 cc21 k21).binds (ps := ["one", "other"]) (fun _ _ _ _ _ _ us hl => match us, hl with | [_, _], _ => rfl), PySem.W.mg_of X G a21⟩
  have D22 : Def K mg "minus" "minus" s_minus ["one", "other"] := ⟨f22, _, fun_mk (st := s_minus) l22 cc22 k22, (fun_mk (st := s_minus) l22 cc22 k22).binds (ps := ["one", "other"]) (fun _ _ _ _ _ _ us hl => match us, hl with | [_, _], _ => rfl), PySem.W.mg_of X G a22⟩
  have D23 : Def K mg "times" "times" s_times ["one", "other"] := ⟨f23, _, fun_mk (st := s_times) l23 cc23 k23, (fun_mk (st := s_times) l23 cc23 k23).binds (ps := ["one", "other"]) (fun _ _ _ _ _ _ us hl => match us, hl with | [_, _], _ => rfl), PySem.W.mg_of X G a23⟩
  have D24 : Def K mg "over" "over" s_over ["one", "other"] := ⟨f24, _, fun_mk (st := s_over) l24 cc24 k24, (fun_mk (st := s_over) l24 cc24 k24).binds (ps := ["one", "other"]) (fun _ _ _ _ _ _ us hl => match us, hl with | [_, _], _ => rfl), PySem.W.mg_of X G a24⟩
  have D25 : DefM K AD.Hoist "strands" "Hoist.strands" s_Hoist_strands ["self", "rope", "body"] := ⟨f25, _, fun_mk (st := s_Hoist_strands) l25 cc25 k25, (fun_mk (st := s_Hoist_strands) l25 cc25 k25).binds (ps := ["self", "rope", "body"]) (fun _ _ _ _ _ _ us hl => match us, hl with | [_, _, _], _ => rfl), ⟨a25, i25, k25⟩⟩
  have D26 : DefI K AD.Hoist "Hoist.__init__" s_Hoist___init__ ["self", "weights", "ropes"] := ⟨f26, _, fun_mk (st := s_Hoist___init__) l26 cc26 k26, (fun_mk (st := s_Hoist___init__) l26 cc26 k26).binds (ps := ["self", "weights", "ropes"]) (fun _ _ _ _ _ _ us hl => match us, hl with | [_, _, _], _ => rfl), ⟨m26, a26, i26, kc26⟩⟩
  have D27 : Def K mg "_law_parts" "_law_parts" s__law_parts ["found", "many"] := ⟨f27, _, fun_mk (st := s__law_parts) l27 cc27 k27, (fun_mk (st := s__law_parts) l27 cc27 k27).binds (ps := ["found", "many"]) (fun _ _ _ _ _ _ us hl => match us, hl with | [_, _], _ => rfl), PySem.W.mg_of X G a27⟩
  have D28 : Def K mg "_law_sum" "_law_sum" s__law_sum ["table", "pulls", "body"] := ⟨f28, _, fun_mk (st := s__law_sum) l28 cc28 k28, (fun_mk (st := s__law_sum) l28 cc28 k28).binds (ps := ["table", "pulls", "body"]) (fun _ _ _ _ _ _ us hl => match us, hl with | [_, _, _], _ => rfl), PySem.W.mg_of X G a28⟩
  have D29 : Def K mg "_law_drawn" "_law_drawn" s__law_drawn ["script"] := ⟨f29, _, fun_mk (st := s__law_drawn) l29 cc29 k29, (fun_mk (st := s__law_drawn) l29 cc29 k29).binds (ps := ["script"]) (fun _ _ _ _ _ _ us hl => match us, hl with | [_], _ => rfl), PySem.W.mg_of X G a29⟩
  have D30 : Def K mg "strands_at" "strands_at" s_strands_at ["hoist", "body"] := ⟨f30, _, fun_mk (st := s_strands_at) l30 cc30 k30, (fun_mk (st := s_strands_at) l30 cc30 k30).binds (ps := ["hoist", "body"]) (fun _ _ _ _ _ _ us hl => match us, hl with | [_, _], _ => rfl), PySem.W.mg_of X G a30⟩
  have D31 : Def K mg "strands_of" "strands_of" s_strands_of ["hoist", "rope"] := ⟨f31, _, fun_mk (st := s_strands_of) l31 cc31 k31, (fun_mk (st := s_strands_of) l31 cc31 k31).binds (ps := ["hoist", "rope"]) (fun _ _ _ _ _ _ us hl => match us, hl with | [_, _], _ => rfl), PySem.W.mg_of X G a31⟩
  have D32 : Def K mg "added" "added" s_added ["numbers", "fractions"] := ⟨f32, _, fun_mk (st := s_added) l32 cc32 k32, (fun_mk (st := s_added) l32 cc32 k32).binds (ps := ["numbers", "fractions"]) (fun _ _ _ _ _ _ us hl => match us, hl with | [_, _], _ => rfl), PySem.W.mg_of X G a32⟩
  have D33 : Def K mg "cleared" "cleared" s_cleared ["row", "other", "column"] := ⟨f33, _, fun_mk (st := s_cleared) l33 cc33 k33, (fun_mk (st := s_cleared) l33 cc33 k33).binds (ps := ["row", "other", "column"]) (fun _ _ _ _ _ _ us hl => match us, hl with | [_, _, _], _ => rfl), PySem.W.mg_of X G a33⟩
  have D34 : DefM K AD.Bearing "freed_sooner" "Bearing.freed_sooner" s_Bearing_freed_sooner ["self", "place", "other", "rope"] := ⟨f34, _, fun_mk (st := s_Bearing_freed_sooner) l34 cc34 k34, (fun_mk (st := s_Bearing_freed_sooner) l34 cc34 k34).binds (ps := ["self", "place", "other", "rope"]) (fun _ _ _ _ _ _ us hl => match us, hl with | [_, _, _, _], _ => rfl), ⟨a34, i34, k34⟩⟩
  have D35 : Def K mg "_law_held" "_law_held" s__law_held ["weights", "table", "pulls"] := ⟨f35, _, fun_mk (st := s__law_held) l35 cc35 k35, (fun_mk (st := s__law_held) l35 cc35 k35).binds (ps := ["weights", "table", "pulls"]) (fun _ _ _ _ _ _ us hl => match us, hl with | [_, _, _], _ => rfl), PySem.W.mg_of X G a35⟩
  have D36 : Def K mg "told_pairs" "told_pairs" s_told_pairs ["hoist", "rope", "ahead"] := ⟨f36, _, fun_mk (st := s_told_pairs) l36 cc36 k36, (fun_mk (st := s_told_pairs) l36 cc36 k36).binds (ps := ["hoist", "rope", "ahead"]) (fun _ _ _ _ _ _ us hl => match us, hl with | [_, _, _], _ => rfl), PySem.W.mg_of X G a36⟩
  have D37 : Def K mg "spare" "spare" s_spare ["hoist", "motion"] := ⟨f37, _, fun_mk (st := s_spare) l37 cc37 k37, (fun_mk (st := s_spare) l37 cc37 k37).binds (ps := ["hoist", "motion"]) (fun _ _ _ _ _ _ us hl => match us, hl with | [_, _], _ => rfl), PySem.W.mg_of X G a37⟩
  have D38 : Def K mg "gain" "gain" s_gain ["hoist", "motion"] := ⟨f38, _, fun_mk (st := s_gain) l38 cc38 k38, (fun_mk (st := s_gain) l38 cc38 k38).binds (ps := ["hoist", "motion"]) (fun _ _ _ _ _ _ us hl => match us, hl with | [_, _], _ => rfl), PySem.W.mg_of X G a38⟩
  have D39 : Def K mg "first_row" "first_row" s_first_row ["hoist", "body"] := ⟨f39, _, fun_mk (st := s_first_row) l39 cc39 k39, (fun_mk (st := s_first_row) l39 cc39 k39).binds (ps := ["hoist", "body"]) (fun _ _ _ _ _ _ us hl => match us, hl with | [_, _], _ => rfl), PySem.W.mg_of X G a39⟩
  have D40 : DefM K AD.Bearing "first_freed" "Bearing.first_freed" s_Bearing_first_freed ["self", "rope"] := ⟨f40, _, fun_mk (st := s_Bearing_first_freed) l40 cc40 k40, (fun_mk (st := s_Bearing_first_freed) l40 cc40 k40).binds (ps := ["self", "rope"]) (fun _ _ _ _ _ _ us hl => match us, hl with | [_, _], _ => rfl), ⟨a40, i40, k40⟩⟩
  have D41 : DefM K AD.Bearing "take_place" "Bearing.take_place" s_Bearing_take_place ["self", "place", "rope"] := ⟨f41, _, fun_mk (st := s_Bearing_take_place) l41 cc41 k41, (fun_mk (st := s_Bearing_take_place) l41 cc41 k41).binds (ps := ["self", "place", "rope"]) (fun _ _ _ _ _ _ us hl => match us, hl with | [_, _, _], _ => rfl), ⟨a41, i41, k41⟩⟩
  have D42 : Def K mg "told_ropes" "told_ropes" s_told_ropes ["hoist", "ahead"] := ⟨f42, _, fun_mk (st := s_told_ropes) l42 cc42 k42, (fun_mk (st := s_told_ropes) l42 cc42 k42).binds (ps := ["hoist", "ahead"]) (fun _ _ _ _ _ _ us hl => match us, hl with | [_, _], _ => rfl), PySem.W.mg_of X G a42⟩
  have D43 : Def K mg "_law_still" "_law_still" s__law_still ["weights", "table", "told"] := ⟨f43, _, fun_mk (st := s__law_still) l43 cc43 k43, (fun_mk (st := s__law_still) l43 cc43 k43).binds (ps := ["weights", "table", "told"]) (fun _ _ _ _ _ _ us hl => match us, hl with | [_, _, _], _ => rfl), PySem.W.mg_of X G a43⟩
  have D44 : Def K mg "whole_way" "whole_way" s_whole_way ["hoist", "motion"] := ⟨f44, _, fun_mk (st := s_whole_way) l44 cc44 k44, (fun_mk (st := s_whole_way) l44 cc44 k44).binds (ps := ["hoist", "motion"]) (fun _ _ _ _ _ _ us hl => match us, hl with | [_, _], _ => rfl), PySem.W.mg_of X G a44⟩
  have D45 : DefM K AD.Bearing "settle" "Bearing.settle" s_Bearing_settle ["self"] := ⟨f45, _, fun_mk (st := s_Bearing_settle) l45 cc45 k45, (fun_mk (st := s_Bearing_settle) l45 cc45 k45).binds (ps := ["self"]) (fun _ _ _ _ _ _ us hl => match us, hl with | [_], _ => rfl), ⟨a45, i45, k45⟩⟩
  have D46 : DefM K AD.Bearing "leave_props" "Bearing.leave_props" s_Bearing_leave_props ["self"] := ⟨f46, _, fun_mk (st := s_Bearing_leave_props) l46 cc46 k46, (fun_mk (st := s_Bearing_leave_props) l46 cc46 k46).binds (ps := ["self"]) (fun _ _ _ _ _ _ us hl => match us, hl with | [_], _ => rfl), ⟨a46, i46, k46⟩⟩
  have D47 : Def K mg "without" "without" s_without ["hoist", "rope"] := ⟨f47, _, fun_mk (st := s_without) l47 cc47 k47, (fun_mk (st := s_without) l47 cc47 k47).binds (ps := ["hoist", "rope"]) (fun _ _ _ _ _ _ us hl => match us, hl with | [_, _], _ => rfl), PySem.W.mg_of X G a47⟩
  have D48 : DefI K AD.Bearing "Bearing.__init__" s_Bearing___init__ ["self", "hoist"] := ⟨f48, _, fun_mk (st := s_Bearing___init__) l48 cc48 k48, (fun_mk (st := s_Bearing___init__) l48 cc48 k48).binds (ps := ["self", "hoist"]) (fun _ _ _ _ _ _ us hl => match us, hl with | [_, _], _ => rfl), ⟨m48, a48, i48, kc48⟩⟩
  have D49 : DefM K AD.Bearing "lessen" "Bearing.lessen" s_Bearing_lessen ["self", "rope"] := ⟨f49, _, fun_mk (st := s_Bearing_lessen) l49 cc49 k49, (fun_mk (st := s_Bearing_lessen) l49 cc49 k49).binds (ps := ["self", "rope"]) (fun _ _ _ _ _ _ us hl => match us, hl with | [_, _], _ => rfl), ⟨a49, i49, k49⟩⟩
  have D50 : Def K mg "judged" "judged" s_judged ["hoist"] := ⟨f50, _, fun_mk (st := s_judged) l50 cc50 k50, (fun_mk (st := s_judged) l50 cc50 k50).binds (ps := ["hoist"]) (fun _ _ _ _ _ _ us hl => match us, hl with | [_], _ => rfl), PySem.W.mg_of X G a50⟩
  have D51 : Def K mg "still_bearing" "still_bearing" s_still_bearing ["hoist"] := ⟨f51, _, fun_mk (st := s_still_bearing) l51 cc51 k51, (fun_mk (st := s_still_bearing) l51 cc51 k51).binds (ps := ["hoist"]) (fun _ _ _ _ _ _ us hl => match us, hl with | [_], _ => rfl), PySem.W.mg_of X G a51⟩
  have D52 : Def K mg "least_pull" "least_pull" s_least_pull ["hoist", "rope"] := ⟨f52, _, fun_mk (st := s_least_pull) l52 cc52 k52, (fun_mk (st := s_least_pull) l52 cc52 k52).binds (ps := ["hoist", "rope"]) (fun _ _ _ _ _ _ us hl => match us, hl with | [_, _], _ => rfl), PySem.W.mg_of X G a52⟩
  have D53 : Def K mg "can_be_spared" "can_be_spared" s_can_be_spared ["hoist"] := ⟨f53, _, fun_mk (st := s_can_be_spared) l53 cc53 k53, (fun_mk (st := s_can_be_spared) l53 cc53 k53).binds (ps := ["hoist"]) (fun _ _ _ _ _ _ us hl => match us, hl with | [_], _ => rfl), PySem.W.mg_of X G a53⟩
  have D54 : Def K mg "_law_tried" "_law_tried" s__law_tried ["hoist"] := ⟨f54, _, fun_mk (st := s__law_tried) l54 cc54 k54, (fun_mk (st := s__law_tried) l54 cc54 k54).binds (ps := ["hoist"]) (fun _ _ _ _ _ _ us hl => match us, hl with | [_], _ => rfl), PySem.W.mg_of X G a54⟩
  have D55 : Def K mg "law" "law" s_law ["script"] := ⟨f55, _, fun_mk (st := s_law) l55 cc55 k55, (fun_mk (st := s_law) l55 cc55 k55).binds (ps := ["script"]) (fun _ _ _ _ _ _ us hl => match us, hl with | [_], _ => rfl), PySem.W.mg_of X G a55⟩
  have T : Txt K mg AD := ⟨PySem.W.mg_none_of X G z_len,
    PySem.W.mg_none_of X G z_abs,
    PySem.W.mg_none_of X G z_min,
    PySem.W.mg_none_of X G z_max,
    PySem.W.mg_none_of X G z_isinstance,
    PySem.W.mg_none_of X G z_sum,
    PySem.W.mg_none_of X G z_sorted,
    PySem.W.mg_none_of X G z_int,
    PySem.W.mg_none_of X G z_list,
    PySem.W.mg_none_of X G z_tuple,
    PySem.W.mg_none_of X G z_bool,
    PySem.W.mg_none_of X G z_range,
    PySem.W.mg_none_of X G z_set,
    PySem.W.mg_none_of X G z_zip,
    PySem.W.mg_none_of X G z_enumerate,
    PySem.W.mg_none_of X G z_ValueError,
    PySem.W.mg_of X G g_NOUGHT,
    fun H => .inr ⟨_, _, _, k_NOUGHT, rfl, rfl, by show 2 ≤ sizeLine; decide, .cons ⟨_, rfl⟩ (.cons ⟨_, rfl⟩ (.nil))⟩,
    PySem.W.mg_of X G g_ONE,
    fun H => .inr ⟨_, _, _, k_ONE, rfl, rfl, by show 2 ≤ sizeLine; decide, .cons ⟨_, rfl⟩ (.cons ⟨_, rfl⟩ (.nil))⟩,
    ⟨_, PySem.W.mg_of X G g_MOST_BODIES⟩,
    ⟨_, PySem.W.mg_of X G g_MOST_ROPES⟩,
    ⟨_, PySem.W.mg_of X G g_MOST_WEIGHT⟩,
    ⟨_, PySem.W.mg_of X G g_MOST_PAIRS⟩,
    ⟨_, PySem.W.mg_of X G g_MOST_STRANDS⟩,
    PySem.W.mg_of X G c_Bearing_,
    ⟨pg_Bearing, hd_Bearing, po_Bearing, sa_Bearing⟩,
    n_ropes,
    n_rows,
    n_bearers,
    n_way,
    PySem.W.mg_of X G c_Hoist_,
    ⟨pg_Hoist, hd_Hoist, po_Hoist, sa_Hoist⟩,
    n_body_weights,
    n_rope_strands,
    PySem.W.mg_of X G c_HoistError_,
    PySem.W.mg_of X G c_NoHoist_,
    PySem.W.mg_of X G c_NoRope_,
    PySem.W.mg_of X G c_NoBody_,
    PySem.W.mg_of X G c_Sinks_,
    ⟨e_NoBody⟩,
    ⟨e_NoRope⟩,
    ⟨e_Sinks⟩,
    ⟨ig_Sinks, in_Sinks, ib_Sinks, ic_Sinks, ia_Sinks, i_hn, i_ht, im_Sinks⟩,
    kit_Sinks_HoistError,
    kit_Sinks_NoHoist,
    kit_Sinks_NoRope,
    kit_Sinks_NoBody,
    kit_Sinks_Sinks,
    kit_Sinks_V,
    exm_Sinks⟩
  have e := hfa.symm.trans (PySem.W.mg_of X G a55)
  cases e
  refine ⟨PySem.W.fnOf "law" "law" (defArgs s_law) (defBody s_law) (defScope s_law) .none kV55 dc55 pm55 an55 cd55 ct55, fun s v => .of_eq rfl, fun base _ _ => ?_⟩
  have O_common_divisor : Own l.prog w K mg base CX0 "common_divisor" ["one", "other"] 1 (spGcd) := ok_common_divisor T D0
  have O_less : Own l.prog w K mg base CX0 "less" ["one", "other"] 1 (spLess K) := ok_less T D1
  have O_check_number : Own l.prog w K mg base CX0 "check_number" ["number"] 1 (spCheckNumber) := ok_check_number T D2
  have O_check_weights : Own l.prog w K mg base CX0 "check_weights" ["weights"] 1 (spCheckWeights K) := ok_check_weights T D3
  have O_Hoist_weights : OwnM l.prog w K mg base CX0 AD.Hoist "weights" ["self"] 1 (spWeights K AD) := ok_Hoist_weights T D4
  have O_Hoist_many_ropes : OwnM l.prog w K mg base CX0 AD.Hoist "many_ropes" ["self"] 1 (spManyRopes K AD) := ok_Hoist_many_ropes T D5
  have O_first_true : Own l.prog w K mg base CX0 "first_true" ["answers"] 1 (spFirstTrue K) := ok_first_true T D6
  have O_Bearing_motion : OwnM l.prog w K mg base CX0 AD.Bearing "motion" ["self"] 1 (spMotion K AD) := ok_Bearing_motion T D7
  have O_Bearing_pulls : OwnM l.prog w K mg base CX0 AD.Bearing "pulls" ["self"] 1 (spPulls K AD) := ok_Bearing_pulls T D8
  have O__law_cell_at : Own l.prog w K mg base CX0 "_law_cell_at" ["script", "k"] 1 (spCell K) := ok__law_cell_at T D9
  have O__law_whole : Own l.prog w K mg base CX0 "_law_whole" ["found"] 1 (spWhole) := ok__law_whole T D10
  have O__law_low : Own l.prog w K mg base CX0 "_law_low" ["top", "bottom"] 1 (spLow K) := ok__law_low T D11
  have O__law_ropes : Own l.prog w K mg base CX0 "_law_ropes" ["table", "cell"] 1 (spRopes K) := ok__law_ropes T D12
  have O_lowest : Own l.prog w K mg base CX0 "lowest" ["top", "bottom"] 2 (spLowest K) := ok_lowest T D13 O_common_divisor
  have O_check_rope : Own l.prog w K mg base (CXE l.prog w) "check_rope" ["hoist", "rope"] 2 (spCheckRope K AD) := ok_check_rope T D14 O_Hoist_many_ropes
  have O_added_strands : Own l.prog w K mg base CX0 "added_strands" ["rope", "many_bodies"] 2 (spAddedStrands K) := ok_added_strands T D15 O_check_number
  have O_Bearing_sinks : OwnM l.prog w K mg base CX0 AD.Bearing "sinks" ["self"] 2 (spSinks K AD) := ok_Bearing_sinks T D16 O_less
  have O_Bearing_short_rope : OwnM l.prog w K mg base CX0 AD.Bearing "short_rope" ["self"] 2 (spShort K AD) := ok_Bearing_short_rope T D17 O_first_true O_less
  have O__law_plus : Own l.prog w K mg base CX0 "_law_plus" ["one", "other"] 2 (spLawPlus K) := ok__law_plus T D18 O__law_low
  have O__law_part : Own l.prog w K mg base CX0 "_law_part" ["found"] 2 (spPart K) := ok__law_part T D19 O__law_low O__law_whole
  have O__law_table : Own l.prog w K mg base CX0 "_law_table" ["script", "first", "ropes", "bodies"] 2 (spTable K) := ok__law_table T D20 O__law_cell_at
  have O_plus : Own l.prog w K mg base CX0 "plus" ["one", "other"] 3 (spRat K (fun _ => True) (· + ·)) := ok_plus T D21 O_lowest
  have O_minus : Own l.prog w K mg base CX0 "minus" ["one", "other"] 3 (spRat K (fun _ => True) (· - ·)) := ok_minus T D22 O_lowest
  have O_times : Own l.prog w K mg base CX0 "times" ["one", "other"] 3 (spRat K (fun _ => True) (· * ·)) := ok_times T D23 O_lowest
  have O_over : Own l.prog w K mg base CX0 "over" ["one", "other"] 3 (spRat K (· ≠ 0) (· / ·)) := ok_over T D24 O_lowest
  have O_Hoist_strands : OwnM l.prog w K mg base (CXE l.prog w) AD.Hoist "strands" ["self", "rope", "body"] 3 (spStrands K AD) := ok_Hoist_strands T D25 O_check_rope
  have O_Hoist___init__ : OwnI l.prog w K mg base CX0 AD.Hoist ["self", "weights", "ropes"] 3 (spHoistI K AD) := ok_Hoist___init__ T D26 O_added_strands O_check_weights
  have O__law_parts : Own l.prog w K mg base CX0 "_law_parts" ["found", "many"] 3 (spParts K) := ok__law_parts T D27 O__law_part
  have O__law_sum : Own l.prog w K mg base CX0 "_law_sum" ["table", "pulls", "body"] 3 (spSum K) := ok__law_sum T D28 O__law_plus
  have O__law_drawn : Own l.prog w K mg base CX0 "_law_drawn" ["script"] 3 (spDrawn K) := ok__law_drawn T D29 O__law_cell_at O__law_table
  have O_strands_at : Own l.prog w K mg base CX0 "strands_at" ["hoist", "body"] 4 (spStrandsAt K AD) := ok_strands_at T D30 O_Hoist_many_ropes O_Hoist_strands
  have O_strands_of : Own l.prog w K mg base CX0 "strands_of" ["hoist", "rope"] 4 (spStrandsOf K AD) := ok_strands_of T D31 O_Hoist_strands O_Hoist_weights
  have O_added : Own l.prog w K mg base CX0 "added" ["numbers", "fractions"] 4 (spAdded K) := ok_added T D32 O_plus O_times
  have O_cleared : Own l.prog w K mg base CX0 "cleared" ["row", "other", "column"] 4 (spCleared K) := ok_cleared T D33 O_minus O_times
  have O_Bearing_freed_sooner : OwnM l.prog w K mg base CX0 AD.Bearing "freed_sooner" ["self", "place", "other", "rope"] 4 (spSooner K AD) := ok_Bearing_freed_sooner T D34 O_less O_over
  have O__law_held : Own l.prog w K mg base CX0 "_law_held" ["weights", "table", "pulls"] 4 (spHeld K) := ok__law_held T D35 O__law_sum
  have O_told_pairs : Own l.prog w K mg base CX0 "told_pairs" ["hoist", "rope", "ahead"] 4 (spToldP K AD) := ok_told_pairs T D36 O_Hoist_strands O_Hoist_weights
  have O_spare : Own l.prog w K mg base CX0 "spare" ["hoist", "motion"] 5 (spSpare K AD) := ok_spare T D37 O_Hoist_many_ropes O_added O_strands_of
  have O_gain : Own l.prog w K mg base CX0 "gain" ["hoist", "motion"] 5 (spGain K AD) := ok_gain T D38 O_Hoist_weights O_added
  have O_first_row : Own l.prog w K mg base CX0 "first_row" ["hoist", "body"] 5 (spFirstRow K AD) := ok_first_row T D39 O_Hoist_weights O_strands_at
  have O_Bearing_first_freed : OwnM l.prog w K mg base CX0 AD.Bearing "first_freed" ["self", "rope"] 5 (spFreed K AD) := ok_Bearing_first_freed T D40 O_Bearing_freed_sooner O_less
  have O_Bearing_take_place : OwnM l.prog w K mg base CX0 AD.Bearing "take_place" ["self", "place", "rope"] 5 (spTake K AD) := ok_Bearing_take_place T D41 O_cleared O_over
  have O_told_ropes : Own l.prog w K mg base CX0 "told_ropes" ["hoist", "ahead"] 5 (spToldR K AD) := ok_told_ropes T D42 O_Hoist_many_ropes O_told_pairs
  have O__law_still : Own l.prog w K mg base CX0 "_law_still" ["weights", "table", "told"] 5 (spLst K) := ok__law_still T D43 O__law_held O__law_parts
  have O_whole_way : Own l.prog w K mg base CX0 "whole_way" ["hoist", "motion"] 6 (spWholeWay K AD) := ok_whole_way T D44 O_gain O_spare
  have O_Bearing_settle : OwnM l.prog w K mg base CX0 AD.Bearing "settle" ["self"] 6 (spSettle K AD) := ok_Bearing_settle T D45 O_Bearing_first_freed O_Bearing_short_rope O_Bearing_take_place
  have O_Bearing_leave_props : OwnM l.prog w K mg base CX0 AD.Bearing "leave_props" ["self"] 6 (spLeave K AD) := ok_Bearing_leave_props T D46 O_Bearing_take_place O_first_true
  have O_without : Own l.prog w K mg base (CXE l.prog w) "without" ["hoist", "rope"] 6 (spWithout K AD) := ok_without T D47 O_Hoist___init__ O_Hoist_weights O_check_rope O_told_ropes
  have O_Bearing___init__ : OwnI l.prog w K mg base CX0 AD.Bearing ["self", "hoist"] 7 (spBearI K AD) := ok_Bearing___init__ T D48 O_Bearing_settle O_Hoist_many_ropes O_Hoist_weights O_first_row O_whole_way
  have O_Bearing_lessen : OwnM l.prog w K mg base CX0 AD.Bearing "lessen" ["self", "rope"] 7 (spLessen K AD) := ok_Bearing_lessen T D49 O_Bearing_leave_props O_Bearing_settle O_cleared
  have O_judged : Own l.prog w K mg base CX0 "judged" ["hoist"] 9 (spJudged K AD) := ok_judged T D50 O_Bearing___init__ O_Bearing_motion O_Bearing_pulls O_Bearing_sinks
  have O_still_bearing : Own l.prog w K mg base (CXE l.prog w) "still_bearing" ["hoist"] 9 (spStillB K AD) := ok_still_bearing T D51 O_Bearing___init__ O_Bearing_sinks
  have O_least_pull : Own l.prog w K mg base (CXE l.prog w) "least_pull" ["hoist", "rope"] 10 (spLeast K AD) := ok_least_pull T D52 O_Bearing_lessen O_Bearing_motion O_Bearing_pulls O_check_rope O_still_bearing
  have O_can_be_spared : Own l.prog w K mg base (CXE l.prog w) "can_be_spared" ["hoist"] 10 (spCbs K AD) := ok_can_be_spared T D53 O_Bearing___init__ O_Bearing_sinks O_Hoist_many_ropes O_still_bearing O_without
  have O__law_tried : Own l.prog w K mg base CX0 "_law_tried" ["hoist"] 11 (spTry9 K AD) := ok__law_tried T D54 O_can_be_spared
  exact ok_law_f T (fun_mk (st := s_law) l55 cc55 k55) O_Hoist___init__ O__law_cell_at O__law_drawn O__law_ropes O__law_still O__law_tried O__law_whole O_can_be_spared O_judged O_least_pull O_without
theorem walk {l : PySem.W.OpenLaw} {q : Program} {loose : List Str} {XP : (Str → Option Value) → Heap → Prop} {YP : World → Heap → Prop} {d : DefRec} {K : Params → PySem.W.Frag} (hn : l.most = some 63) (hdf : d.params.defaults = [])
    (hY : ∀ (w : World) (h : Heap), YP w h → (K w.params).In h)
    (F : ∀ (w : World) (mg : Str → Option Value) (fa : Addr) (h : Heap), (K w.params).In h → h.Ns mainGlobals mg → mg d.name = some (.ref fa) →
      ∃ fd : FuncData, (∀ (s : Shared) (u : Value), BindsTo s fd ⟨[u], []⟩ [("script", u)]) ∧ ∀ base : Heap, (K w.params).In base → base.Ns mainGlobals mg → FnOk l.prog w (K w.params) mg base CX0 12 fa fd ["script"] (spLaw (K w.params))) :
    PySem.W.WalkO q loose XP YP l.row.toRowW d [] (fun f vs => PySem.call f vs) :=
  L2.walk_of (n := 63) (k := 12) (x := "script") (CX := fun _ => CX0) (sp := fun w => spLaw (K w.params)) hn (by decide) hdf ⟨rfl, by decide, by decide⟩ hY F (fun _ _ a ns hl _ hS => ⟨a, ns, rfl, hS, hl, fun _ => rfl⟩) fun _ _ _ _ _ z => z
end Hw
def PySem.W.Fast.tw17451725017630436196 : Unit := ()
def PySem.W.Fast.tw4915072377581703908 : Unit := ()
def PySem.W.Fast.tw16814597853294110756 : Unit := ()
def PySem.W.Fast.tw15558424240450570031 : Unit := ()
def PySem.W.Fast.tw9437445010808472431 : Unit := ()
def PySem.W.Fast.tw3998193771572629921 : Unit := ()
def PySem.W.Fast.tw1047085537069554410 : Unit := ()
def PySem.W.Fast.tw5619060704343257749 : Unit := ()
def PySem.W.Fast.tw6431566718793448860 : Unit := ()
def PySem.W.Fast.tw2354661914221439879 : Unit := ()
def PySem.W.Fast.tw9125049269980021870 : Unit := ()
def PySem.W.Fast.tw4936588346240843566 : Unit := ()
def PySem.W.Fast.tw9453232219504209710 : Unit := ()
def PySem.W.Fast.tw16679129320442174873 : Unit := ()
def PySem.W.Fast.tw8301444104867296592 : Unit := ()
def PySem.W.Fast.tw110650907851632404 : Unit := ()
def PySem.W.Fast.tw9362029515835741222 : Unit := ()
def PySem.W.Fast.tw14375274492781800230 : Unit := ()
def PySem.W.Fast.tw13376655142901676849 : Unit := ()
def PySem.W.Fast.tw10815180614314168003 : Unit := ()
def PySem.W.Fast.tw12414038956064934179 : Unit := ()
def PySem.W.Fast.tw13352564357322836453 : Unit := ()
def PySem.W.Fast.tw13763487209297357356 : Unit := ()
def PySem.W.Fast.tw12533604008428049420 : Unit := ()
def PySem.W.Fast.tw13609656907882404759 : Unit := ()
def PySem.W.Fast.tw13064161623961450206 : Unit := ()
def PySem.W.Fast.tw9490027870007367038 : Unit := ()
def PySem.W.Fast.tw2411146437033293019 : Unit := ()
def PySem.W.Fast.tw15001017804510308639 : Unit := ()
def PySem.W.Fast.tw15794720940746744924 : Unit := ()
def PySem.W.Fast.tw12598590635170377050 : Unit := ()
def PySem.W.Fast.tw12212424438131772044 : Unit := ()
def PySem.W.Fast.tw4295598401235571378 : Unit := ()
def PySem.W.Fast.tw3056228056217269511 : Unit := ()
def PySem.W.Fast.tw10182673678393083162 : Unit := ()
def PySem.W.Fast.tw14981242323927845626 : Unit := ()
def PySem.W.Fast.tw9624505488455458799 : Unit := ()
def PySem.W.Fast.tw9293144781642971511 : Unit := ()
def PySem.W.Fast.tw8061186681545107434 : Unit := ()
def PySem.W.Fast.tw2026046222677424251 : Unit := ()
def PySem.W.Fast.tw13372948995724481787 : Unit := ()
def PySem.W.Fast.tw15199131888101645472 : Unit := ()
def PySem.W.Fast.tw15265664523594120000 : Unit := ()
def PySem.W.Fast.tw7021089123658195636 : Unit := ()
def PySem.W.Fast.tw13501006908403164999 : Unit := ()
def PySem.W.Fast.tw17272672064532688446 : Unit := ()
def PySem.W.Fast.tw3276729649728939645 : Unit := ()
def PySem.W.Fast.tw12795898961155314264 : Unit := ()
def PySem.W.Fast.tw272567166239249067 : Unit := ()
def PySem.W.Fast.tw11416775471417873082 : Unit := ()
def PySem.W.Fast.tw17623603779136612322 : Unit := ()
def PySem.W.Fast.tw7399922001028521961 : Unit := ()
def PySem.W.Fast.tw16962445231311632893 : Unit := ()
def PySem.W.Fast.tw13541423645332438411 : Unit := ()
def PySem.W.Fast.tw2894873930361436138 : Unit := ()
def PySem.W.Fast.tw8394910107312072959 : Unit := ()
def PySem.W.Fast.tw3560410581836528472 : Unit := ()
def PySem.W.Fast.tw10808006554490042752 : Unit := ()
def PySem.W.Fast.tw4266486318521417653 : Unit := ()
def PySem.W.Fast.tw5901400561846318988 : Unit := ()
def PySem.W.Fast.tw12331927218087434509 : Unit := ()
def PySem.W.Fast.tw5337653594932177362 : Unit := ()
def PySem.W.Fast.tw16288438182926544560 : Unit := ()
def PySem.W.Fast.tw4364052960165355785 : Unit := ()
def PySem.W.Fast.tw11247442236993217224 : Unit := ()
def PySem.W.Fast.tw6285228695063105902 : Unit := ()
def PySem.W.Fast.tw15224092169143498668 : Unit := ()
def PySem.W.Fast.tw13022106336040103886 : Unit := ()
def PySem.W.Fast.tw2796460372552788213 : Unit := ()
def PySem.W.Fast.tw4888250476315189873 : Unit := ()
def PySem.W.Fast.tw12591225582150202020 : Unit := ()
def PySem.W.Fast.tw17992849864947413791 : Unit := ()
def PySem.W.Fast.tw17015965397110042459 : Unit := ()
def PySem.W.Fast.tw9654339575668174031 : Unit := ()
def PySem.W.Fast.tw16641041182857928492 : Unit := ()
def PySem.W.Fast.tw9428680792139841076 : Unit := ()
def PySem.W.Fast.tw16981258411759901562 : Unit := ()
def PySem.W.Fast.tw7780070320888514998 : Unit := ()
def PySem.W.Fast.tw15894823956907454647 : Unit := ()
def PySem.W.Fast.tw8350848770852063564 : Unit := ()
def PySem.W.Fast.tw15021073897685992192 : Unit := ()
def PySem.W.Fast.tw16666983146569825871 : Unit := ()
def PySem.W.Fast.tw3967284131444426453 : Unit := ()
def PySem.W.Fast.tw2711233971175312212 : Unit := ()
def PySem.W.Fast.tw13096645169486218127 : Unit := ()
def PySem.W.Fast.tw3866683463835479439 : Unit := ()
def PySem.W.Fast.tw10089609439142850585 : Unit := ()
def PySem.W.Fast.tw14691291795599200290 : Unit := ()
def PySem.W.Fast.tw9713322952209878003 : Unit := ()
def PySem.W.Fast.tw1195938911912040435 : Unit := ()
def PySem.W.Fast.tw5809681006060438649 : Unit := ()
def PySem.W.Fast.tw7656690355759162140 : Unit := ()
def PySem.W.Fast.tw56325567587586738 : Unit := ()
def PySem.W.Fast.tw11890384311136446084 : Unit := ()
def PySem.W.Fast.tw15114062179644635391 : Unit := ()
def PySem.W.Fast.tw15514335574533725539 : Unit := ()
def PySem.W.Fast.tw7606759090877328384 : Unit := ()
def PySem.W.Fast.tw4046232925068330854 : Unit := ()
def PySem.W.Fast.tw8009021326350313257 : Unit := ()
def PySem.W.Fast.tw2504189805907512750 : Unit := ()
def PySem.W.Fast.tw11963948819603777379 : Unit := ()
def PySem.W.Fast.tw18159107438693076230 : Unit := ()
def PySem.W.Fast.tw1937386366792289523 : Unit := ()
def PySem.W.Fast.tw11816405384755049691 : Unit := ()
def PySem.W.Fast.tw4300321082975076310 : Unit := ()
def PySem.W.Fast.tw5259505646160182731 : Unit := ()
def PySem.W.Fast.tw7420384992710240722 : Unit := ()
def PySem.W.Fast.tw17947945923157345249 : Unit := ()
def PySem.W.Fast.tw2329802018052606370 : Unit := ()
def PySem.W.Fast.tw11883072643679662284 : Unit := ()
def PySem.W.Fast.tw15078500984928063949 : Unit := ()
open PySem PySem.W PyProof.Rows
set_option maxRecDepth 100000 in
set_option maxHeartbeats 0 in
theorem PySem.Challenge.cw_hoistworks_k09_whole_ropes_that_can_be_s_holds : PySem.Challenge.rw_hoistworks_k09_whole_ropes_that_can_be_s.Holds := by
  w_on; o_law; k_head; (case hw => w_witness2)
  k_fill
  refine Hw.walk (l := PySem.Challenge.rw_hoistworks_k09_whole_ropes_that_can_be_s) rfl rfl (fun w h Y => PySem.W.kIn_of Y) ?F
  case F =>
    intro w mg fa h KX G hmg
    refine' Hw.all_mk KX G hmg ?z_len ?z_abs ?z_min ?z_max ?z_isinstance ?z_sum ?z_sorted ?z_int ?z_list ?z_tuple ?z_bool ?z_range ?z_set ?z_zip ?z_enumerate ?z_ValueError ?g_NOUGHT ?k_NOUGHT ?g_ONE ?k_ONE ?g_MOST_BODIES ?g_MOST_ROPES ?g_MOST_WEIGHT ?g_MOST_PAIRS ?g_MOST_STRANDS ?c_Bearing_ ?pg_Bearing ?hd_Bearing ?po_Bearing ?sa_Bearing ?n_ropes ?n_rows ?n_bearers ?n_way ?c_Hoist_ ?pg_Hoist ?hd_Hoist ?po_Hoist ?sa_Hoist ?n_body_weights ?n_rope_strands ?c_HoistError_ ?c_NoHoist_ ?c_NoRope_ ?c_NoBody_ ?c_Sinks_ ?e_NoBody ?e_NoRope ?e_Sinks ?ig_Sinks ?in_Sinks ?ib_Sinks ?ic_Sinks ?ia_Sinks ?im_Sinks ?kit_Sinks_HoistError ?kit_Sinks_NoHoist ?kit_Sinks_NoRope ?kit_Sinks_NoBody ?kit_Sinks_Sinks ?kit_Sinks_V ?exm_Sinks ?i_hn ?i_ht ?a0 ?l0 ?cc0 ?k0 ?a1 ?l1 ?cc1 ?k1 ?a2 ?l2 ?cc2 ?k2 ?a3 ?l3 ?cc3 ?k3 ?a4 ?l4 ?cc4 ?k4 ?i4 ?a5 ?l5 ?cc5 ?k5 ?i5 ?a6 ?l6 ?cc6 ?k6 ?a7 ?l7 ?cc7 ?k7 ?i7 ?a8 ?l8 ?cc8 ?k8 ?i8 ?a9 ?l9 ?cc9 ?k9 ?a10 ?l10 ?cc10 ?k10 ?a11 ?l11 ?cc11 ?k11 ?a12 ?l12 ?cc12 ?k12 ?a13 ?l13 ?cc13 ?k13 ?a14 ?l14 ?cc14 ?k14 ?a15 ?l15 ?cc15 ?k15 ?a16 ?l16 ?cc16 ?k16 ?i16 ?a17 ?l17 ?cc17 ?k17 ?i17 ?a18 ?l18 ?cc18 ?k18 ?a19 ?l19 ?cc19 ?k19 ?a20 ?l20 ?cc20 ?k20 ?a21 ?l21 ?cc21 ?k21 ?a22 ?l22 ?cc22 ?k22 ?a23 ?l23 ?cc23 ?k23 ?a24 ?l24 ?cc24 ?k24 ?a25 ?l25 ?cc25 ?k25 ?i25 ?a26 ?l26 ?cc26 ?k26 ?i26 ?m26 ?kc26 ?a27 ?l27 ?cc27 ?k27 ?a28 ?l28 ?cc28 ?k28 ?a29 ?l29 ?cc29 ?k29 ?a30 ?l30 ?cc30 ?k30 ?a31 ?l31 ?cc31 ?k31 ?a32 ?l32 ?cc32 ?k32 ?a33 ?l33 ?cc33 ?k33 ?a34 ?l34 ?cc34 ?k34 ?i34 ?a35 ?l35 ?cc35 ?k35 ?a36 ?l36 ?cc36 ?k36 ?a37 ?l37 ?cc37 ?k37 ?a38 ?l38 ?cc38 ?k38 ?a39 ?l39 ?cc39 ?k39 ?a40 ?l40 ?cc40 ?k40 ?i40 ?a41 ?l41 ?cc41 ?k41 ?i41 ?a42 ?l42 ?cc42 ?k42 ?a43 ?l43 ?cc43 ?k43 ?a44 ?l44 ?cc44 ?k44 ?a45 ?l45 ?cc45 ?k45 ?i45 ?a46 ?l46 ?cc46 ?k46 ?i46 ?a47 ?l47 ?cc47 ?k47 ?a48 ?l48 ?cc48 ?k48 ?i48 ?m48 ?kc48 ?a49 ?l49 ?cc49 ?k49 ?i49 ?a50 ?l50 ?cc50 ?k50 ?a51 ?l51 ?cc51 ?k51 ?a52 ?l52 ?cc52 ?k52 ?a53 ?l53 ?cc53 ?k53 ?a54 ?l54 ?cc54 ?k54 ?a55 ?l55 ?cc55 ?k55
    (case z_len => k_is)
    (case z_abs => k_is)
    (case z_min => k_is)
    (case z_max => k_is)
    (case z_isinstance => k_is)
    (case z_sum => k_is)
    (case z_sorted => k_is)
    (case z_int => k_is)
    (case z_list => k_is)
    (case z_tuple => k_is)
    (case z_bool => k_is)
    (case z_range => k_is)
    (case z_set => k_is)
    (case z_zip => k_is)
    (case z_enumerate => k_is)
    (case z_ValueError => k_is)
    (case g_NOUGHT => k_is)
    (case k_NOUGHT => k_is)
    (case g_ONE => k_is)
    (case k_ONE => k_is)
    (case g_MOST_BODIES => k_is)
    (case g_MOST_ROPES => k_is)
    (case g_MOST_WEIGHT => k_is)
    (case g_MOST_PAIRS => k_is)
    (case g_MOST_STRANDS => k_is)
    (case c_Bearing_ => k_is)
    (case pg_Bearing => k_is)
    (case hd_Bearing => k_is)
    (case po_Bearing => k_is)
    (case sa_Bearing => k_is)
    (case n_ropes => k_is)
    (case n_rows => k_is)
    (case n_bearers => k_is)
    (case n_way => k_is)
    (case c_Hoist_ => k_is)
    (case pg_Hoist => k_is)
    (case hd_Hoist => k_is)
    (case po_Hoist => k_is)
    (case sa_Hoist => k_is)
    (case n_body_weights => k_is)
    (case n_rope_strands => k_is)
    (case c_HoistError_ => k_is)
    (case c_NoHoist_ => k_is)
    (case c_NoRope_ => k_is)
    (case c_NoBody_ => k_is)
    (case c_Sinks_ => k_is)
    (case e_NoBody => kernel_rfl)
    (case e_NoRope => kernel_rfl)
    (case e_Sinks => kernel_rfl)
    (case ig_Sinks => k_is)
    (case in_Sinks => k_is)
    (case ib_Sinks => k_is)
    (case ic_Sinks => kernel_rfl)
    (case ia_Sinks => k_is)
    (case im_Sinks => k_is)
    (case kit_Sinks_HoistError => kernel_rfl)
    (case kit_Sinks_NoHoist => kernel_rfl)
    (case kit_Sinks_NoRope => kernel_rfl)
    (case kit_Sinks_NoBody => kernel_rfl)
    (case kit_Sinks_Sinks => kernel_rfl)
    (case kit_Sinks_V => kernel_rfl)
    (case exm_Sinks => kernel_rfl)
    (case i_hn => k_is)
    (case i_ht => k_is)
    (case a0 => k_is)
    (case l0 => k_is)
    (case cc0 => k_is)
    (case k0 => k_is)
    (case a1 => k_is)
    (case l1 => k_is)
    (case cc1 => k_is)
    (case k1 => k_is)
    (case a2 => k_is)
    (case l2 => k_is)
    (case cc2 => k_is)
    (case k2 => k_is)
    (case a3 => k_is)
    (case l3 => k_is)
    (case cc3 => k_is)
    (case k3 => k_is)
    (case a4 => k_is)
    (case l4 => k_is)
    (case cc4 => k_is)
    (case k4 => k_is)
    (case i4 => k_is)
    (case a5 => k_is)
    (case l5 => k_is)
    (case cc5 => k_is)
    (case k5 => k_is)
    (case i5 => k_is)
    (case a6 => k_is)
    (case l6 => k_is)
    (case cc6 => k_is)
    (case k6 => k_is)
    (case a7 => k_is)
    (case l7 => k_is)
    (case cc7 => k_is)
    (case k7 => k_is)
    (case i7 => k_is)
    (case a8 => k_is)
    (case l8 => k_is)
    (case cc8 => k_is)
    (case k8 => k_is)
    (case i8 => k_is)
    (case a9 => k_is)
    (case l9 => k_is)
    (case cc9 => k_is)
    (case k9 => k_is)
    (case a10 => k_is)
    (case l10 => k_is)
    (case cc10 => k_is)
    (case k10 => k_is)
    (case a11 => k_is)
    (case l11 => k_is)
    (case cc11 => k_is)
    (case k11 => k_is)
    (case a12 => k_is)
    (case l12 => k_is)
    (case cc12 => k_is)
    (case k12 => k_is)
    (case a13 => k_is)
    (case l13 => k_is)
    (case cc13 => k_is)
    (case k13 => k_is)
    (case a14 => k_is)
    (case l14 => k_is)
    (case cc14 => k_is)
    (case k14 => k_is)
    (case a15 => k_is)
    (case l15 => k_is)
    (case cc15 => k_is)
    (case k15 => k_is)
    (case a16 => k_is)
    (case l16 => k_is)
    (case cc16 => k_is)
    (case k16 => k_is)
    (case i16 => k_is)
    (case a17 => k_is)
    (case l17 => k_is)
    (case cc17 => k_is)
    (case k17 => k_is)
    (case i17 => k_is)
    (case a18 => k_is)
    (case l18 => k_is)
    (case cc18 => k_is)
    (case k18 => k_is)
    (case a19 => k_is)
    (case l19 => k_is)
    (case cc19 => k_is)
    (case k19 => k_is)
    (case a20 => k_is)
    (case l20 => k_is)
    (case cc20 => k_is)
    (case k20 => k_is)
    (case a21 => k_is)
    (case l21 => k_is)
    (case cc21 => k_is)
    (case k21 => k_is)
    (case a22 => k_is)
    (case l22 => k_is)
    (case cc22 => k_is)
    (case k22 => k_is)
    (case a23 => k_is)
    (case l23 => k_is)
    (case cc23 => k_is)
    (case k23 => k_is)
    (case a24 => k_is)
    (case l24 => k_is)
    (case cc24 => k_is)
    (case k24 => k_is)
    (case a25 => k_is)
    (case l25 => k_is)
    (case cc25 => k_is)
    (case k25 => k_is)
    (case i25 => k_is)
    (case a26 => k_is)
    (case l26 => k_is)
    (case cc26 => k_is)
    (case k26 => k_is)
    (case i26 => k_is)
    (case m26 => k_is)
    (case kc26 => k_is)
    (case a27 => k_is)
    (case l27 => k_is)
    (case cc27 => k_is)
    (case k27 => k_is)
    (case a28 => k_is)
    (case l28 => k_is)
    (case cc28 => k_is)
    (case k28 => k_is)
    (case a29 => k_is)
    (case l29 => k_is)
    (case cc29 => k_is)
    (case k29 => k_is)
    (case a30 => k_is)
    (case l30 => k_is)
    (case cc30 => k_is)
    (case k30 => k_is)
    (case a31 => k_is)
    (case l31 => k_is)
    (case cc31 => k_is)
    (case k31 => k_is)
    (case a32 => k_is)
    (case l32 => k_is)
    (case cc32 => k_is)
    (case k32 => k_is)
    (case a33 => k_is)
    (case l33 => k_is)
    (case cc33 => k_is)
    (case k33 => k_is)
    (case a34 => k_is)
    (case l34 => k_is)
    (case cc34 => k_is)
    (case k34 => k_is)
    (case i34 => k_is)
    (case a35 => k_is)
    (case l35 => k_is)
    (case cc35 => k_is)
    (case k35 => k_is)
    (case a36 => k_is)
    (case l36 => k_is)
    (case cc36 => k_is)
    (case k36 => k_is)
    (case a37 => k_is)
    (case l37 => k_is)
    (case cc37 => k_is)
    (case k37 => k_is)
    (case a38 => k_is)
    (case l38 => k_is)
    (case cc38 => k_is)
    (case k38 => k_is)
    (case a39 => k_is)
    (case l39 => k_is)
    (case cc39 => k_is)
    (case k39 => k_is)
    (case a40 => k_is)
    (case l40 => k_is)
    (case cc40 => k_is)
    (case k40 => k_is)
    (case i40 => k_is)
    (case a41 => k_is)
    (case l41 => k_is)
    (case cc41 => k_is)
    (case k41 => k_is)
    (case i41 => k_is)
    (case a42 => k_is)
    (case l42 => k_is)
    (case cc42 => k_is)
    (case k42 => k_is)
    (case a43 => k_is)
    (case l43 => k_is)
    (case cc43 => k_is)
    (case k43 => k_is)
    (case a44 => k_is)
    (case l44 => k_is)
    (case cc44 => k_is)
    (case k44 => k_is)
    (case a45 => k_is)
    (case l45 => k_is)
    (case cc45 => k_is)
    (case k45 => k_is)
    (case i45 => k_is)
    (case a46 => k_is)
    (case l46 => k_is)
    (case cc46 => k_is)
    (case k46 => k_is)
    (case i46 => k_is)
    (case a47 => k_is)
    (case l47 => k_is)
    (case cc47 => k_is)
    (case k47 => k_is)
    (case a48 => k_is)
    (case l48 => k_is)
    (case cc48 => k_is)
    (case k48 => k_is)
    (case i48 => k_is)
    (case m48 => k_is)
    (case kc48 => k_is)
    (case a49 => k_is)
    (case l49 => k_is)
    (case cc49 => k_is)
    (case k49 => k_is)
    (case i49 => k_is)
    (case a50 => k_is)
    (case l50 => k_is)
    (case cc50 => k_is)
    (case k50 => k_is)
    (case a51 => k_is)
    (case l51 => k_is)
    (case cc51 => k_is)
    (case k51 => k_is)
    (case a52 => k_is)
    (case l52 => k_is)
    (case cc52 => k_is)
    (case k52 => k_is)
    (case a53 => k_is)
    (case l53 => k_is)
    (case cc53 => k_is)
    (case k53 => k_is)
    (case a54 => k_is)
    (case l54 => k_is)
    (case cc54 => k_is)
    (case k54 => k_is)
    (case a55 => k_is)
    (case l55 => k_is)
    (case cc55 => k_is)
    (case k55 => k_is)