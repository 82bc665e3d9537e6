import PyProof.Rows.All
import Wide.All
import OpenK.AllK
import Wide.FinOn
import Lean
import PyProof.EqAt
import PyProof.EqKinds
import PyProof.TupleCall
import PyProof.StrLawsRepr
import PyProof.NeKinds
import PySem.Challenge.RW_cardshop_k32_told_ahead
set_option Elab.async false
set_option linter.all false
set_option maxRecDepth 100000
set_option maxHeartbeats 4000000
-- CHANGE: your row's module here, as the last of these rows
/-! THE HAND LAYER, for ints, bools, texts, own classes, LISTS and tuples (index, slices, in, append, pop ..), calls, loops. Paste it whole ahead of your own text; what your proof does not reach may be deleted. -/
namespace L2
open PySem PySem.Spec PyProof.Rows

/-- a key: an int or a str -/
abbrev Key := Sum Int Str
def keyIs : Key → Value → Bool
  | .inl k, v => Value.isInt k v
  | .inr x, v => Value.isStrOf x v
def keyH (w : World) : Key → Int
  | .inl k => hashInt k
  | .inr x => hashStr w x
theorem keyIs_shape : ∀ {k : Key} {v : Value}, keyIs k v = true → (∃ i t, k = Sum.inl i ∧ v = Value.int i t) ∨ (∃ x t, k = Sum.inr x ∧ v = Value.str x t)
  | .inl i, v, h => by
    obtain ⟨t, e⟩ := Value.isInt_shape (k := i) (v := v) h
    exact .inl ⟨i, t, rfl, e⟩
  | .inr x, v, h => by
    obtain ⟨t, e⟩ := Value.isStrOf_shape (x := x) (v := v) h
    exact .inr ⟨x, t, rfl, e⟩
theorem keyIs_int (i : Int) (t : Tok) : keyIs (.inl i) (.int i t) = true := by simp [keyIs, Value.isInt]
theorem keyIs_str (x : Str) (t : Tok) : keyIs (.inr x) (.str x t) = true := by simp [keyIs, Value.isStrOf]
theorem key_ll (a b : Int) : decide ((Sum.inl a : Key) = Sum.inl b) = (a == b) := by
  by_cases e : a = b
  · subst e; simp
  · have h : ¬ (Sum.inl a : Key) = Sum.inl b := fun q => e (Sum.inl.inj q)
    rw [decide_eq_false h]
    exact (beq_eq_false_iff_ne.mpr e).symm
theorem key_rr (a b : Str) : decide ((Sum.inr a : Key) = Sum.inr b) = decide (a = b) := by
  by_cases e : a = b
  · subst e; simp
  · have h : ¬ (Sum.inr a : Key) = Sum.inr b := fun q => e (Sum.inr.inj q)
    rw [decide_eq_false h, decide_eq_false e]
theorem key_lr (a : Int) (b : Str) : decide ((Sum.inl a : Key) = Sum.inr b) = false := decide_eq_false (fun q => nomatch q)
theorem key_rl (a : Str) (b : Int) : decide ((Sum.inr a : Key) = Sum.inl b) = false := decide_eq_false (fun q => nomatch q)

def mixKind (prog : Program) (w : World) : PySem.KeyKind prog w Key where
  is := keyIs
  hash := keyH w
  inj := fun v a b ha hb => by
    rcases keyIs_shape ha with ⟨i, t, rfl, rfl⟩ | ⟨x, t, rfl, rfl⟩
    · rcases keyIs_shape hb with ⟨j, u, rfl, e⟩ | ⟨y, u, rfl, e⟩
      · injection e with e1 _; rw [e1]
      · exact nomatch e
    · rcases keyIs_shape hb with ⟨j, u, rfl, e⟩ | ⟨y, u, rfl, e⟩
      · exact nomatch e
      · injection e with e1 _; rw [e1]
  byValue := fun k v h => by
    rcases keyIs_shape h with ⟨i, t, rfl, rfl⟩ | ⟨x, t, rfl, rfl⟩ <;> rfl
  pyHash := fun hv h => by
    rcases keyIs_shape hv with ⟨i, t, rfl, rfl⟩ | ⟨x, t, rfl, rfl⟩
    · exact wpAny_pyHash_int h
    · exact wpAny_pyHash_str h
  eqBool := fun hu hv h => by
    rcases keyIs_shape hu with ⟨i, t, rfl, rfl⟩ | ⟨x, t, rfl, rfl⟩
    · rcases keyIs_shape hv with ⟨j, u, rfl, rfl⟩ | ⟨y, u, rfl, rfl⟩
      · rw [key_ll] at h; exact wpAny_eqBool_int h
      · rw [key_lr] at h; exact SeqAt.EqAt.int_str i t y u _ _ _ _ h
    · rcases keyIs_shape hv with ⟨j, u, rfl, rfl⟩ | ⟨y, u, rfl, rfl⟩
      · rw [key_rl] at h; exact SeqAt.EqAt.str_int x t j u _ _ _ _ h
      · rw [key_rr] at h; exact wpAny_eqBool_str h
  «strs» := fun k x t v h => by
    rcases keyIs_shape h with ⟨i, u, rfl, e⟩ | ⟨y, u, rfl, e⟩
    · exact nomatch e
    · injection e with e1 _
      subst e1
      cases v <;> rfl

theorem mixKind_is (prog : Program) (w : World) (k : Key) (v : Value) : (mixKind prog w).is k v = keyIs k v := rfl
theorem mixKind_int (prog : Program) (w : World) (i : Int) (t : Tok) : (mixKind prog w).is (.inl i) (.int i t) = true := keyIs_int i t
theorem mixKind_str (prog : Program) (w : World) (x : Str) (t : Tok) : (mixKind prog w).is (.inr x) (.str x t) = true := keyIs_str x t
end L2

namespace L2
open PySem PySem.Spec PyProof.Rows

/-- a value, without the heap -/
inductive V where
  | non | bl (b : Bool) | int (i : Int) | str (x : Str) | byt (b : Array UInt8) | flt (b : UInt64) | ref (a : Addr) | ty (n : String)
  deriving DecidableEq

def RelV : V → Value → Prop
  | .non, u => u = Value.none
  | .bl b, u => u = Value.bool b
  | .int i, u => ∃ t, u = Value.int i t
  | .str x, u => ∃ t, u = Value.str x t
  | .byt b, u => ∃ t, u = Value.bytes b t
  | .flt b, u => ∃ t, u = Value.float b t
  | .ref a, u => u = Value.ref a
  | .ty n, u => u = Value.type n

abbrev Vals : List V → List Value → Prop := Paired RelV
theorem Vals.length {xs : List V} {us : List Value} (r : Vals xs us) : xs.length = us.length := Paired.length r
theorem Vals.get : ∀ {xs : List V} {us : List Value} {i : Nat} {x : V}, Vals xs us → xs[i]? = some x → ∃ u, us[i]? = some u ∧ RelV x u
  | _, _, _, _, .nil, e => by simp at e
  | _, _, 0, _, .cons r _, e => by simp at e; subst e; exact ⟨_, rfl, r⟩
  | _, _, i + 1, x, .cons _ t, e => by
    obtain ⟨u, h1, h2⟩ := Vals.get (i := i) (x := x) t (by simpa using e)
    exact ⟨u, by simpa using h1, h2⟩
theorem Vals.set {x : V} {u : Value} (r : RelV x u) : ∀ {xs : List V} {us : List Value} (i : Nat), Vals xs us → Vals (xs.set i x) (us.set i u)
  | _, _, _, .nil => .nil
  | _, _, 0, .cons _ t => .cons r t
  | _, _, i + 1, .cons q t => .cons q (Vals.set r i t)
theorem Vals.append : ∀ {xs ys : List V} {us ws : List Value}, Vals xs us → Vals ys ws → Vals (xs ++ ys) (us ++ ws)
  | _, _, _, _, .nil, s => s
  | _, _, _, _, .cons r t, s => .cons r (Vals.append t s)
theorem Vals.take : ∀ {xs : List V} {us : List Value} (n : Nat), Vals xs us → Vals (xs.take n) (us.take n)
  | _, _, 0, _ => .nil
  | _, _, _ + 1, .nil => .nil
  | _, _, n + 1, .cons r t => .cons r (Vals.take n t)
theorem Vals.drop : ∀ {xs : List V} {us : List Value} (n : Nat), Vals xs us → Vals (xs.drop n) (us.drop n)
  | _, _, 0, r => r
  | _, _, _ + 1, .nil => .nil
  | _, _, n + 1, .cons _ t => Vals.drop n t
theorem Vals.none_of : ∀ {xs : List V} {us : List Value} {i : Nat}, Vals xs us → xs[i]? = none → us[i]? = none := fun {xs us i} r e => by
  have h1 := r.length
  have h2 : xs.length ≤ i := List.getElem?_eq_none_iff.mp e
  exact List.getElem?_eq_none_iff.mpr (by omega)

def RelO : Option V → Option Value → Prop
  | some v, some u => RelV v u
  | none, none => True
  | _, _ => False
def KV {κ : Type} : List (κ × V) → List (κ × Value) → Prop := Paired fun (p : κ × V) (q : κ × Value) => p.1 = q.1 ∧ RelV p.2 q.2

/-- a key of a dict (00_mix): an int or a text -/
def kV : Key → V
  | .inl i => .int i
  | .inr x => .str x

/-- what stands at a tracked address -/
inductive HO where
  /-- a list -/
  | lst (xs : List V)
  /-- a tuple (never changes) -/
  | tup (xs : List V)
  /-- a dict whose keys are ints and texts; one whose keys are tuples of ints and texts (the empty one is both) -/
  | dK (kvs : List (Key × V)) | dT (kvs : List (List Key × V))
  /-- a set of ints: its members, its size -/
  | set (S : Int → Bool) (n : Nat)
  /-- an instance of the class at C, its dict at dx, its attributes -/
  | ins (C dx : Addr) (fs : List (Str × V))
  /-- the dict of the instance at x -/
  | own (x : Addr)
  /-- the dict of an exception -/
  | xd (fs : List (Str × V))
  /-- a bound method, f of x -/
  | met (f x : Addr)
  /-- a range object lo, lo + 1, .. below hi -/
  | rng (lo hi : Int)
  /-- a thing that is known to the object (the script; a dict while a loop walks it): read, never written while it is so -/
  | frz (o : Obj) (u : HO)
  /-- a code object's table -/
  | tbl (ps : Array Value)
  /-- any other thing, by what is true of its one object (a def of one's own: SetO a S n := HO.ext fun h => ..) -/
  | ext (φ : Heap → Prop)

abbrev Hp := Addr → Option HO
def upd (H : Hp) (a : Addr) (o : HO) : Hp := fun b => if b = a then some o else H b
theorem upd_same {H : Hp} {a : Addr} {o : HO} : upd H a o a = some o := by unfold upd; rw [if_pos rfl]
theorem upd_ne {H : Hp} {a b : Addr} {o : HO} (h : b ≠ a) : upd H a o b = H b := by unfold upd; rw [if_neg h]
theorem upd_upd {H : Hp} {a : Addr} {o u : HO} : upd (upd H a o) a u = upd H a u := by
  funext b; unfold upd; split <;> rfl
/-- two objects of different content stand apart -/
theorem ne_of {H : Hp} {a b : Addr} {o u : HO} (h : H a = some o) (h' : H b = some u) (d : o ≠ u) : a ≠ b := by
  intro e; subst e; rw [h] at h'; exact d (Option.some.inj h')
theorem ne_of_none {H : Hp} {a b : Addr} {o : HO} (h : H a = some o) (h' : H b = none) : a ≠ b := by
  intro e; subst e; rw [h] at h'; cases h'

section
variable (P : Program) (w : World)
def ObjOk (H : Hp) (h : Heap) (a : Addr) : HO → Prop
  | .lst xs => xs.length ≤ sizeLine ∧ ∃ (its : List Value) (n : Nat), Vals xs its ∧ h.get? a = some { cls := .type "list", data := .seq its.toArray n }
  | .tup xs => xs.length ≤ sizeLine ∧ ∃ its : List Value, Vals xs its ∧ IsTup h a its.toArray
  | .dK kvs => kvs.length ≤ sizeLine ∧ (a == sysModules) = false ∧ ∃ vs, KV kvs vs ∧ h.DictOf (mixKind P w) a vs
  | .dT kvs => kvs.length ≤ sizeLine ∧ (a == sysModules) = false ∧ ∃ xs : List (List Key × Addr × Value),
      Paired (fun (p : List Key × V) (q : List Key × Addr × Value) => p.1 = q.1 ∧ H q.2.1 = some (.tup (p.1.map kV)) ∧ RelV p.2 q.2.2) kvs xs ∧
      ∃ o es ep, h.get? a = some o ∧ o.ExactDict ∧ o.data = .dict es ep ∧ es.toList = xs.map (entryOfKey (tupleKind (mixKind P w))) ∧ (xs.map (·.1)).Nodup
  | .set S n => h.SetOf (intKind P w) a S n
  | .ins C dx fs => H dx = some (.own a) ∧ fs.length ≤ 1000 ∧ dx ≠ a ∧ h.get? a = some (PySem.W.instObj C dx) ∧
      ∃ mA, h.Ns1 dx mA ∧ (∀ f, RelO (fs.lookup f) (mA f)) ∧ PySem.Within mA (fs.map (·.1))
  | .own _ => ∃ o, h.get? a = some o
  | .xd fs => ∃ mA, h.Ns1 a mA ∧ ∀ f, RelO (fs.lookup f) (mA f)
  | .rng lo hi => ∃ t u v, h.get? a = some { cls := .type "range", data := .fields #[.int lo t, .int hi u, .int 1 v] }
  | .frz o u => h.get? a = some o ∧ ObjOk H h a u
  | .tbl ps => h.get? a = some { cls := .none, data := .fields ps }
  | .met f x => h.get? a = some (PySem.W.methodObj (.ref f) (.ref x))
  | .ext φ => φ h ∧ (∃ o, h.get? a = some o) ∧ ∀ h1 h2 : Heap, φ h1 → (∀ o, h1.get? a = some o → h2.get? a = some o) → φ h2
/-- the abstract heap is held -/
def HOk (H : Hp) (h : Heap) : Prop := ∀ a o, H a = some o → ObjOk P w H h a o
end

section
variable {P : Program} {w : World} {H H' : Hp} {h h' : Heap} {a : Addr} {o : HO}
theorem ObjOk.lt (x : ObjOk P w H h a o) : a < h.objs.size := by
  cases o with
  | lst xs => obtain ⟨_, _, _, _, e⟩ := x; exact Heap.lt_size e
  | tup xs => obtain ⟨_, _, _, p⟩ := x; exact p.lt
  | dK kvs => obtain ⟨_, _, _, _, o, _, _, e, _⟩ := x; exact Heap.lt_size e
  | dT kvs => obtain ⟨_, _, _, _, o, _, _, e, _⟩ := x; exact Heap.lt_size e
  | set S n => obtain ⟨o, _, _, _, e, _⟩ := x; exact Heap.lt_size e
  | ins C dx fs => obtain ⟨_, _, _, e, _⟩ := x; exact Heap.lt_size e
  | own y => obtain ⟨_, e⟩ := x; exact Heap.lt_size e
  | xd fs => obtain ⟨_, ⟨_, _, _, e, _⟩, _⟩ := x; exact Heap.lt_size e
  | rng lo hi => obtain ⟨_, _, _, e⟩ := x; exact Heap.lt_size e
  | frz ob u => obtain ⟨e, _⟩ := x; exact Heap.lt_size e
  | tbl ps => exact Heap.lt_size (show h.get? a = some _ from x)
  | met f y => exact Heap.lt_size (show h.get? a = some _ from x)
  | ext φ => obtain ⟨_, ⟨_, e⟩, _⟩ := x; exact Heap.lt_size e
theorem Paired.mapP {α β : Type} {F G : α → β → Prop} : ∀ {l₁ : List α} {l₂ : List β}, Paired F l₁ l₂ → (∀ a b, F a b → G a b) → Paired G l₁ l₂
  | _, _, .nil, _ => .nil
  | _, _, .cons r t, f => .cons (f _ _ r) (Paired.mapP t f)
theorem Paired.imp' {α β : Type} {F G : α → β → Prop} (f : ∀ a b, F a b → G a b) {l₁ : List α} {l₂ : List β} (r : Paired F l₁ l₂) : Paired G l₁ l₂ := Paired.mapP r f
/-- what an object's description leans on: its own object, its own dict, the tuples -/
theorem ObjOk.stay (x : ObjOk P w H h a o) (k : ∀ b u, (b = a ∨ H b = some (.own a)) → h.get? b = some u → h'.get? b = some u)
    (ho : ∀ b, H b = some (.own a) → H' b = some (.own a)) (ht : ∀ b xs, H b = some (.tup xs) → H' b = some (.tup xs)) : ObjOk P w H' h' a o := by
  induction o with
  | lst xs => obtain ⟨z, its, n, r, e⟩ := x; exact ⟨z, its, n, r, k _ _ (.inl rfl) e⟩
  | tup xs => obtain ⟨z, its, r, ob, e, c⟩ := x; exact ⟨z, its, r, ob, k _ _ (.inl rfl) e, c⟩
  | dK kvs => obtain ⟨z, y, vs, r, ob, es, ep, e, c⟩ := x; exact ⟨z, y, vs, r, ob, es, ep, k _ _ (.inl rfl) e, c⟩
  | dT kvs =>
    obtain ⟨z, y, xs, r, ob, es, ep, e, c⟩ := x
    exact ⟨z, y, xs, Paired.mapP r fun p q z => ⟨z.1, ht _ _ z.2.1, z.2.2⟩, ob, es, ep, k _ _ (.inl rfl) e, c⟩
  | set S n => obtain ⟨ob, es, ep, t, e, c⟩ := x; exact ⟨ob, es, ep, t, k _ _ (.inl rfl) e, c⟩
  | ins C dx fs =>
    obtain ⟨d, z, ne, e, mA, ⟨od, es, ep, e2, c⟩, r⟩ := x
    exact ⟨ho _ d, z, ne, k _ _ (.inl rfl) e, mA, ⟨od, es, ep, k _ _ (.inr d) e2, c⟩, r⟩
  | own y => obtain ⟨ob, e⟩ := x; exact ⟨ob, k _ _ (.inl rfl) e⟩
  | xd fs => obtain ⟨mA, ⟨od, es, ep, e, c⟩, r⟩ := x; exact ⟨mA, ⟨od, es, ep, k _ _ (.inl rfl) e, c⟩, r⟩
  | rng lo hi => obtain ⟨t, u, v, e⟩ := x; exact ⟨t, u, v, k _ _ (.inl rfl) e⟩
  | frz ob u ih => obtain ⟨e, q⟩ := x; exact ⟨k _ _ (.inl rfl) e, ih q⟩
  | tbl ps =>
    have e : h.get? a = some { cls := .none, data := .fields ps } := x
    show h'.get? a = some { cls := .none, data := .fields ps }
    exact k a _ (.inl rfl) e
  | met f y =>
    have e : h.get? a = some (PySem.W.methodObj (.ref f) (.ref y)) := x
    show h'.get? a = some (PySem.W.methodObj (.ref f) (.ref y))
    exact k a _ (.inl rfl) e
  | ext φ => obtain ⟨p, ⟨o, e⟩, st⟩ := x; exact ⟨st _ _ p fun o q => k _ _ (.inl rfl) q, ⟨o, k _ _ (.inl rfl) e⟩, st⟩
theorem HOk.lt (x : HOk P w H h) (e : H a = some o) : a < h.objs.size := (x a o e).lt
theorem HOk.fresh (x : HOk P w H h) (e : h.objs.size ≤ a) : H a = none := by
  cases q : H a with
  | none => rfl
  | some u => exact absurd (Nat.lt_of_lt_of_le (x.lt q) e) (Nat.lt_irrefl _)
/-- every object of the heap is kept -/
theorem HOk.kept (x : HOk P w H h) (k : ∀ b u, h.get? b = some u → h'.get? b = some u) : HOk P w H h' := fun a o e =>
  (x a o e).stay (fun b u _ q => k b u q) (fun _ q => q) fun _ _ q => q
/-- a new object is laid and tracked -/
theorem HOk.laid (x : HOk P w H h) (k : ∀ b u, h.get? b = some u → h'.get? b = some u) (hp : h.objs.size ≤ a) (new : ObjOk P w (upd H a o) h' a o) : HOk P w (upd H a o) h' := fun b u e => by
  have hn := x.fresh hp
  by_cases hb : b = a
  · subst hb; rw [upd_same] at e; cases e; exact new
  · rw [upd_ne hb] at e
    exact (x b u e).stay (fun c v _ q => k c v q) (fun c q => by rw [upd_ne (ne_of_none q hn)]; exact q) fun c xs q => by rw [upd_ne (ne_of_none q hn)]; exact q
end

/-- what may be read as u: it is u, or a known u -/
def Rd (H : Hp) (a : Addr) (u : HO) : Prop := H a = some u ∨ ∃ o, H a = some (.frz o u)
theorem Rd.of {H : Hp} {a : Addr} {u : HO} (h : H a = some u) : Rd H a u := .inl h
theorem Rd.ok {P : Program} {w : World} {H : Hp} {h : Heap} {a : Addr} {u : HO} (r : Rd H a u) (x : HOk P w H h) : ObjOk P w H h a u := by
  rcases r with r | ⟨o, r⟩
  · exact x a u r
  · obtain ⟨_, q⟩ := x a _ r
    exact q
/-- what may be written -/
def Mut : Option HO → Prop
  | some (.lst _) => True
  | some (.dK _) => True
  | some (.dT _) => True
  | some (.set _ _) => True
  | some (.ins _ _ _) => True
  | some (.ext _) => True
  | _ => False
section
variable {P : Program} {w : World} {H : Hp} {h h' : Heap} {x e : Addr} {o' : HO}
/-- the object at e is changed: x itself, or the dict of the instance x -/
theorem HOk.write (ok : HOk P w H h) (mu : Mut (H x)) (he : e = x ∨ H e = some (.own x)) (k : ∀ b u, b ≠ e → h.get? b = some u → h'.get? b = some u) (heo : ∃ u, h'.get? e = some u)
    (new : ObjOk P w (upd H x o') h' x o') : HOk P w (upd H x o') h' := fun b u q => by
  have nown : ∀ c y, H c = some (.own y) → c ≠ x := fun c y r z => by subst z; rw [r] at mu; exact mu
  have ntup : ∀ c xs, H c = some (.tup xs) → c ≠ x := fun c xs r z => by subst z; rw [r] at mu; exact mu
  by_cases hb : b = x
  · subst hb; rw [upd_same] at q; cases q; exact new
  · rw [upd_ne hb] at q
    by_cases hbe : b = e
    · have q' : H b = some (.own x) := by
        rcases he with z | z
        · exact absurd (hbe.trans z) hb
        · rw [hbe]; exact z
      rw [q] at q'; cases q'
      obtain ⟨v, hv⟩ := heo
      exact ⟨v, by rw [hbe]; exact hv⟩
    · refine (ok b u q).stay (fun c v hc r => k c v ?_ r) (fun c r => by rw [upd_ne (nown c b r)]; exact r) fun c xs r => by rw [upd_ne (ntup c xs r)]; exact r
      rcases hc with rfl | hc
      · exact hbe
      · rintro rfl
        rcases he with z | z
        · exact nown c b hc z
        · rw [hc] at z; cases z; exact hb rfl
end

/-! ### kept unless tracked; of the frames at fs (the callers') the slots may change (an exception that passes writes there); of the records at ex (iterators) nothing is said -/
structure Un (fs ex : List Addr) (H H' : Hp) (h h' : Heap) : Prop where
  keep : ∀ b o, h.get? b = some o → H b = none → b ∉ fs → b ∉ ex → h'.get? b = some o
  slot : ∀ b o, h.get? b = some o → H b = none → b ∈ fs → b ∉ ex → ∃ sl, h'.get? b = some { o with slots := sl }
  free : ∀ b o, h.get? b = some o → H b = none → b ∉ ex → H' b = none
  there : ∀ b o, h.get? b = some o → b ∉ ex → ∃ o', h'.get? b = some o'
  tups : ∀ b xs, H b = some (.tup xs) → H' b = some (.tup xs)
  frzs : ∀ b o u, H b = some (.frz o u) → H' b = some (.frz o u)
  tbls : ∀ b ps, H b = some (.tbl ps) → ∃ more, H' b = some (.tbl (ps ++ more))
section
variable {fs fs' ex ex' : List Addr} {H H1 H2 : Hp} {h h1 h2 h' : Heap} {a x e : Addr} {o : HO}
theorem Un.any (u : Un fs ex H H1 h h1) {b : Addr} {ob : Obj} (q : h.get? b = some ob) (n : H b = none) (hx : b ∉ ex) : ∃ sl, h1.get? b = some { ob with slots := sl } := by
  by_cases hb : b ∈ fs
  · exact u.slot b ob q n hb hx
  · exact ⟨ob.slots, u.keep b ob q n hb hx⟩
theorem Un.trans (a : Un fs ex H H1 h h1) (b : Un fs ex H1 H2 h1 h2) : Un fs ex H H2 h h2 where
  keep := fun c ob q n hc hx => b.keep c ob (a.keep c ob q n hc hx) (a.free c ob q n hx) hc hx
  slot := fun c ob q n hc hx => by
    obtain ⟨sl, e1⟩ := a.slot c ob q n hc hx
    obtain ⟨sl', e2⟩ := b.slot c _ e1 (a.free c ob q n hx) hc hx
    exact ⟨sl', e2⟩
  free := fun c ob q n hx => by
    obtain ⟨o', e1⟩ := a.there c ob q hx
    exact b.free c o' e1 (a.free c ob q n hx) hx
  there := fun c ob q hx => by
    obtain ⟨o', e1⟩ := a.there c ob q hx
    exact b.there c o' e1 hx
  tups := fun c xs q => b.tups c xs (a.tups c xs q)
  frzs := fun c ob xs q => b.frzs c ob xs (a.frzs c ob xs q)
  tbls := fun c ps q => by
    obtain ⟨m1, e1⟩ := a.tbls c ps q
    obtain ⟨m2, e2⟩ := b.tbls c _ e1
    exact ⟨m1 ++ m2, by rw [e2, Array.append_assoc]⟩
theorem Un.kept (k : ∀ b u, h.get? b = some u → h'.get? b = some u) : Un fs ex H H h h' :=
  ⟨fun b ob q _ _ _ => k b ob q, fun b ob q _ _ _ => ⟨ob.slots, k b ob q⟩, fun _ _ _ n _ => n, fun b ob q _ => ⟨ob, k b ob q⟩, fun _ _ q => q, fun _ _ _ q => q, fun _ ps q => ⟨#[], by rw [q]; simp⟩⟩
theorem Un.refl : Un fs ex H H h h := Un.kept fun _ _ q => q
theorem Un.laid (k : ∀ b u, h.get? b = some u → h'.get? b = some u) (hp : h.objs.size ≤ a) (hn : H a = none) : Un fs ex H (upd H a o) h h' where
  keep := fun b u q _ _ _ => k b u q
  slot := fun b u q _ _ _ => ⟨u.slots, k b u q⟩
  free := fun b u q n _ => by rw [upd_ne (Nat.ne_of_lt (Nat.lt_of_lt_of_le (Heap.lt_size q) hp))]; exact n
  there := fun b u q _ => ⟨u, k b u q⟩
  tups := fun b xs q => by rw [upd_ne (ne_of_none q hn)]; exact q
  frzs := fun b u xs q => by rw [upd_ne (ne_of_none q hn)]; exact q
  tbls := fun b ps q => ⟨#[], by rw [upd_ne (ne_of_none q hn), q]; simp⟩
theorem Un.write (mu : Mut (H x)) (he : e = x ∨ H e = some (.own x)) (k : ∀ b u, b ≠ e → h.get? b = some u → h'.get? b = some u) (heo : ∃ u, h'.get? e = some u) : Un fs ex H (upd H x o) h h' := by
  have hx : ∀ b, H b = none → b ≠ x := fun b n z => by subst z; rw [n] at mu; exact mu
  have hb : ∀ b, H b = none → b ≠ e := fun b n z => by
    subst z
    rcases he with r | r
    · exact hx b n r
    · rw [n] at r; cases r
  have hm : ∀ b u, H b = some u → ¬ Mut (some u) → b ≠ x := fun b u q nm z => by subst z; rw [q] at mu; exact nm mu
  refine ⟨fun b u q n _ _ => k b u (hb b n) q, fun b u q n _ _ => ⟨u.slots, k b u (hb b n) q⟩, fun b u q n _ => by rw [upd_ne (hx b n)]; exact n, fun b u q _ => ?_,
    fun b xs q => by rw [upd_ne (hm b _ q fun z => z)]; exact q, fun b u xs q => by rw [upd_ne (hm b _ q fun z => z)]; exact q, fun b ps q => ⟨#[], by rw [upd_ne (hm b _ q fun z => z), q]; simp⟩⟩
  by_cases hbe : b = e
  · subst hbe; exact heo
  · exact ⟨u, k b u hbe q⟩
theorem Un.mono (u : Un fs ex H H1 h h1) (hs : ∀ b ∈ fs, b ∈ fs') (hx : ∀ b ∈ ex, b ∈ ex') : Un fs' ex' H H1 h h1 :=
  ⟨fun b ob q n hb he => u.keep b ob q n (fun z => hb (hs b z)) fun z => he (hx b z), fun _ _ q n _ he => u.any q n fun z => he (hx _ z), fun b ob q n he => u.free b ob q n fun z => he (hx b z), fun b ob q he => u.there b ob q fun z => he (hx b z), u.tups, u.frzs, u.tbls⟩
end

/-! ### the heap without what is tracked -/
def trk (h : Heap) (H : Hp) : List Addr := (List.range h.objs.size).filter fun a => (H a).isSome
def hidT (h : Heap) (H : Hp) : Heap := PySem.W.hideAll h (trk h H)
theorem hidT_size (h : Heap) (H : Hp) : (hidT h H).objs.size = h.objs.size := PySem.W.hideAll_size _ _
theorem hidT_get {h : Heap} {H : Hp} {b : Addr} {o : Obj} (e : h.get? b = some o) (n : H b = none) : (hidT h H).get? b = some o :=
  PySem.W.hideAll_get _ e fun hm => by
    have q : (H b).isSome = true := (List.mem_filter.mp hm).2
    rw [n] at q; simp at q
theorem of_hidT {h : Heap} {H : Hp} {b : Addr} {o : Obj} (e : (hidT h H).get? b = some o) : h.get? b = some o ∧ H b = none := by
  have e' : h.get? b = some o := PySem.W.of_hideAll (trk h H) e
  refine ⟨e', ?_⟩
  cases q : H b with
  | none => rfl
  | some x =>
    have hm : b ∈ trk h H := List.mem_filter.mpr ⟨List.mem_range.mpr (Heap.lt_size e'), by simp [q]⟩
    have z : (hidT h H).get? b = none := PySem.W.hideAll_none (trk h H) hm
    rw [z] at e; cases e

/-! ### OpenK's ledger, filled with every new object but one -/
def allNews (g h : Heap) (L : Addr) : List (Addr × Obj) := (List.range h.objs.size).filterMap fun a => if a = L ∨ (g.get? a).isSome = true then none else (h.get? a).map fun o => (a, o)
theorem mem_allNews {g h : Heap} {L a : Addr} {o : Obj} (h1 : a ≠ L) (h2 : g.get? a = none) (h3 : h.get? a = some o) : (a, o) ∈ allNews g h L :=
  List.mem_filterMap.mpr ⟨a, List.mem_range.mpr (Heap.lt_size h3), by simp [h1, h2, h3]⟩
theorem of_mem_allNews {g h : Heap} {L : Addr} {p : Addr × Obj} (hp : p ∈ allNews g h L) : p.1 ≠ L ∧ g.get? p.1 = none ∧ h.get? p.1 = some p.2 := by
  obtain ⟨b, _, e⟩ := List.mem_filterMap.mp hp
  split at e
  · cases e
  · rename_i hn
    cases q : h.get? b with
    | none => rw [q] at e; simp at e
    | some u =>
      rw [q] at e
      simp only [Option.map_some, Option.some.injEq] at e
      subst e
      refine ⟨fun z => hn (.inl z), ?_, q⟩
      show g.get? b = none
      cases r : g.get? b with
      | none => rfl
      | some v => exact (hn (.inr (by simp [r]))).elim
def rest (g h : Heap) (L d : Addr) : List (Addr × Obj) := (allNews g h L).filter fun p => decide (p.1 ≠ d)
theorem rest_ne {g h : Heap} {L d : Addr} : ∀ p ∈ rest g h L d, p.1 ≠ d := fun p hp => of_decide_eq_true (List.mem_filter.mp hp).2
theorem mem_rest {g h : Heap} {L d a : Addr} {o : Obj} (h1 : a ≠ L) (h2 : g.get? a = none) (h3 : h.get? a = some o) (h4 : a ≠ d) : (a, o) ∈ rest g h L d :=
  List.mem_filter.mpr ⟨mem_allNews h1 h2 h3, decide_eq_true h4⟩
theorem news_all {g h : Heap} {L : Addr} : News g L h (allNews g h L) := fun p hp => let ⟨a, b, c⟩ := of_mem_allNews hp; ⟨c, a, b⟩
theorem news_at {g h : Heap} {L d : Addr} {o : Obj} (h1 : d ≠ L) (h2 : g.get? d = none) (h3 : h.get? d = some o) : News g L h ((d, o) :: rest g h L d) := fun p hp => by
  rcases List.mem_cons.mp hp with rfl | hp
  · exact ⟨h3, h1, h2⟩
  · exact news_all p (List.mem_filter.mp hp).1
/-- behind a rule that changed d alone: all else but the frame is kept -/
theorem kept_of_news {g h h' : Heap} {L d : Addr} {m : Str → Option Value} (k : ∀ b o, g.get? b = some o → h.get? b = some o) (F : Fr g L h' m) (N : News g L h' (rest g h L d)) :
    ∀ b o, b ≠ L → b ≠ d → h.get? b = some o → h'.get? b = some o := fun b o h1 h2 e => by
  cases q : g.get? b with
  | some u =>
    have := k b u q
    rw [e] at this; cases this
    exact F.keep b _ q
  | none => exact (N (b, o) (mem_rest h1 q e h2)).1
end L2

namespace L2
open PySem PySem.Spec PyProof.Rows

/-- the module's facts, over the base: the heap at the law's entry without what is tracked there -/
structure Mod (K : PySem.W.Frag) (mg : Str → Option Value) (base : Heap) : Prop where
  kin : K.In base
  glob : base.Ns mainGlobals mg
  blt : ∃ mb, base.Ns builtinsNs mb ∧ ∀ x : Str, x ≠ "__name__" → mb x = bootBuiltins x
  nolimit : base.NoLimit

/-- the context: a def's body (or a comprehension's block) running. base: fixed through the whole law; s₀, H₀: the entry; outer: the frames whose slots others may change (a def's callers); stack: all frames that run;
   ex: iterators that were made ahead of the entry and are walked here (a comprehension's); fn: the names whose cells were made at the entry (a def: all; a comprehension's block: its own); calm: not within an except suite; pn: pins that every state bears; xe: what is wanted of an exception that leaves the code -/
structure Cx where
  prog : Program
  w : World
  K : PySem.W.Frag
  mg : Str → Option Value
  base : Heap
  A : Around
  N : List Str
  s₀ : Shared
  H₀ : Hp
  env : Env
  outer : List Env
  stack : List Env
  ex : List Addr
  fn : Str → Bool
  calm : Bool
  pn : List (Addr × Obj)
  xe : Value → Shared → Prop
/-- the callers' frames -/
def frs (l : List Env) : List Addr := l.filterMap (·.frame)
abbrev Cx.fs (X : Cx) : List Addr := frs X.outer

def Vis (sc : Scope) (x : Str) : Prop := sc.names.lookup x = some .local ∨ sc.names.lookup x = some .cell ∨ sc.names.lookup x = some .free
def Loc (sc : Scope) (x : Str) : Prop := sc.names.lookup x = some .local ∨ sc.names.lookup x = some .cell
def Look (env : Env) (h : Heap) (m : Str → Option Value) (x : Str) (u : Value) : Prop :=
  (env.kindOf x = some .local ∧ m x = some u) ∨ ((env.kindOf x = some .cell ∨ env.kindOf x = some .free) ∧ ∃ c, env.cells.lookup x = some c ∧ h.IsCell c (some u))

structure Cx.Ok (X : Cx) : Prop where
  mod : Mod X.K X.mg X.base
  kind : X.env.scope.kind = .function
  glob : X.env.globals = mainGlobals
  blt : X.env.builtins = builtinsNs
  above : X.s₀.heap.objs.size ≤ X.env.locals
  inj : ∀ x y c, X.env.cells.lookup x = some c → X.env.cells.lookup y = some c → x = y
  has : ∀ x, (X.env.kindOf x = some .cell ∨ X.env.kindOf x = some .free) → ∃ c, X.env.cells.lookup x = some c
  cab : ∀ x c, X.fn x = true → X.env.cells.lookup x = some c → X.s₀.heap.objs.size ≤ c
  hd : X.calm = true → X.A.handled = none
  frames : X.A.frames = some X.stack
  stk : X.stack = X.outer ∨ (X.stack = X.env :: X.outer ∧ X.env.frame = some X.env.locals)
  exf : ∀ b ∈ X.ex, b ≠ X.env.locals ∧ ∀ x c, X.env.cells.lookup x = some c → c ≠ b
  bs : ∀ b o, X.base.get? b = some o → X.s₀.heap.get? b = some o ∧ X.H₀ b = none
  bsz : X.base.objs.size ≤ X.s₀.heap.objs.size
  noex : ∀ b o, X.base.get? b = some o → b ∉ X.ex
  exfs : ∀ b ∈ X.ex, b ∉ X.fs
  funs : X.s₀.heap.FunFrames X.base X.outer
  frf : ∀ b ∈ X.fs, X.H₀ b = none

structure Inv (X : Cx) (pins : List (Addr × Obj)) (σ : List (Option V)) (H : Hp) (s : Shared) : Prop where
  ok : X.Ok
  os : s.os = X.s₀.os
  bare : AllBare s.gens
  base : Un X.fs X.ex X.H₀ H X.s₀.heap s.heap
  loc : ∃ m, s.heap.Ns X.env.locals m ∧ ∀ (i : Nat) (x : Str) (v : V), X.N[i]? = some x → σ[i]? = some (some v) → Vis X.env.scope x → ∃ u, RelV v u ∧ Look X.env s.heap m x u
  cell : ∀ x c, X.env.cells.lookup x = some c → ∃ v, s.heap.IsCell c v
  free : H X.env.locals = none
  freeC : ∀ x c, X.env.cells.lookup x = some c → H c = none
  pin : ∀ p ∈ X.pn ++ pins, s.heap.get? p.1 = some p.2 ∧ H p.1 = none ∧ p.1 ≠ X.env.locals ∧ p.1 ∉ X.fs ∧ ∀ v, p.2.data ≠ .cell v
  hok : HOk X.prog X.w H s.heap
  len : σ.length = X.N.length

section
variable {X : Cx} {pins : List (Addr × Obj)} {σ : List (Option V)} {H H' : Hp} {s : Shared} {h' : Heap}

theorem Cx.Ok.nofr (ok : X.Ok) {b : Addr} {o : Obj} (e : X.base.get? b = some o) : b ∉ X.fs := fun hb => by
  have := (ok.funs.mem hb).1
  rw [e] at this; cases this
theorem Inv.bs (I : Inv X pins σ H s) : ∀ b o, X.base.get? b = some o → s.heap.get? b = some o ∧ H b = none := fun b o e =>
  ⟨I.base.keep b o (I.ok.bs b o e).1 (I.ok.bs b o e).2 (I.ok.nofr e) (I.ok.noex b o e), I.base.free b o (I.ok.bs b o e).1 (I.ok.bs b o e).2 (I.ok.noex b o e)⟩
theorem Inv.bk (I : Inv X pins σ H s) : ∀ b o, X.base.get? b = some o → s.heap.get? b = some o := fun b o e => (I.bs b o e).1
theorem Inv.mod (I : Inv X pins σ H s) : Mod X.K X.mg X.base := I.ok.mod
theorem Inv.kIn (I : Inv X pins σ H s) : X.K.In s.heap := I.ok.mod.kin.keeps I.bk
theorem Inv.nolimit (I : Inv X pins σ H s) : s.heap.NoLimit := I.ok.mod.nolimit.keeps I.bk
/-- the frame over the base: for OpenK's rules (K.In X.base is I.mod.kin) -/
theorem Inv.fr (I : Inv X pins σ H s) : ∃ m, Fr X.base X.env.locals s.heap m :=
  let ⟨m, hn, _⟩ := I.loc
  ⟨m, hn, I.bk, Nat.le_trans I.ok.bsz I.ok.above⟩
theorem Inv.lt (I : Inv X pins σ H s) : X.env.locals < s.heap.objs.size := let ⟨_, hn, _⟩ := I.loc; hn.lt
theorem Inv.sz (I : Inv X pins σ H s) : X.s₀.heap.objs.size ≤ s.heap.objs.size := Nat.le_trans I.ok.above (Nat.le_of_lt I.lt)
theorem Inv.nofs (I : Inv X pins σ H s) {a : Addr} (h : s.heap.objs.size ≤ a) : a ∉ X.fs := fun hb => by
  obtain ⟨_, o, ho, _⟩ := I.ok.funs.mem hb
  exact absurd (Nat.lt_of_lt_of_le (Heap.lt_size ho) (Nat.le_trans I.sz h)) (Nat.lt_irrefl _)
theorem Inv.cne (I : Inv X pins σ H s) : ∀ x c, X.env.cells.lookup x = some c → c ≠ X.env.locals := fun x c e z => by
  obtain ⟨v, o, ho, hd⟩ := I.cell x c e
  obtain ⟨m, ⟨o', es, ep, ho', hd', _⟩, _⟩ := I.loc
  rw [z, ho'] at ho; cases ho; rw [hd'] at hd; cases hd
theorem Inv.funs (I : Inv X pins σ H s) : s.heap.FunFrames X.base X.outer := by
  have all : ∀ (l : List Env), (∀ b ∈ frs l, b ∈ X.fs) → X.s₀.heap.FunFrames X.base l → s.heap.FunFrames X.base l := by
    intro l
    induction l with
    | nil => intro _ _; trivial
    | cons env r ih =>
      intro hs hl
      obtain ⟨hk, ⟨L, o, hf, hn, ho, hd⟩, hr⟩ := hl
      have hL : L ∈ X.fs := hs L (by unfold frs; rw [List.filterMap_cons, hf]; exact List.mem_cons_self)
      obtain ⟨sl, e⟩ := I.base.slot L o ho (I.ok.frf L hL) hL fun z => I.ok.exfs L z hL
      exact ⟨hk, ⟨L, _, hf, hn, e, hd⟩, ih (fun b hb => hs b (by unfold frs; rw [List.filterMap_cons, hf]; exact List.mem_cons_of_mem _ hb)) hr⟩
  exact all X.outer (fun _ hb => hb) I.ok.funs

/-- the frames that run, for a call -/
theorem Inv.stack (I : Inv X pins σ H s) : s.heap.FunFrames X.base X.stack := by
  rcases I.ok.stk with e | ⟨e, hf⟩
  · rw [e]; exact I.funs
  · rw [e]
    obtain ⟨m, hn, _⟩ := I.loc
    refine .cons (by rw [I.ok.kind]; decide) hf hn ?_ I.funs
    exact Heap.get?_none_of_le (Nat.le_trans I.ok.bsz I.ok.above)
theorem Inv.stkSub (I : Inv X pins σ H s) : ∀ b ∈ frs X.stack, b ∈ X.env.locals :: X.fs := fun b hb => by
  rcases I.ok.stk with e | ⟨e, hf⟩
  · rw [e] at hb; exact List.mem_cons_of_mem _ hb
  · rw [e] at hb
    unfold frs at hb
    rw [List.filterMap_cons, hf] at hb
    exact hb
theorem Inv.stkFree (I : Inv X pins σ H s) : ∀ b ∈ frs X.stack, H b = none := fun b hb => by
  rcases List.mem_cons.mp (I.stkSub b hb) with e | hb
  · rw [e]; exact I.free
  · obtain ⟨_, o, ho, _⟩ := I.ok.funs.mem hb
    exact I.base.free b o ho (I.ok.frf b hb) fun z => I.ok.exfs b z hb

/-- THE STEP: the untracked objects but the frame and the records at ch are kept (the callers' frames up to slots), the frame's map is kept, the new abstract heap is held -/
theorem Inv.step {g' : Array GenState} {t' : Nat} {d' : Drawn} {ch : List Addr} (I : Inv X pins σ H s)
    (hch : ∀ b ∈ ch, (b ∈ X.ex ∨ X.s₀.heap.objs.size ≤ b) ∧ b ≠ X.env.locals ∧ (∀ x c, X.env.cells.lookup x = some c → c ≠ b) ∧ ∀ p ∈ X.pn ++ pins, p.1 ≠ b)
    (keep : ∀ b o, b ≠ X.env.locals → b ∉ X.fs → b ∉ ch → s.heap.get? b = some o → H b = none → h'.get? b = some o)
    (slot : ∀ b o, b ≠ X.env.locals → b ∈ X.fs → b ∉ ch → s.heap.get? b = some o → H b = none → ∃ sl, h'.get? b = some { o with slots := sl }) (free : ∀ b o, b ∉ ch → s.heap.get? b = some o → H b = none → H' b = none)
    (there : ∀ b o, b ∉ ch → s.heap.get? b = some o → ∃ o', h'.get? b = some o')
    (tups : ∀ b xs, H b = some (.tup xs) → H' b = some (.tup xs)) (frzs : ∀ b o u, H b = some (.frz o u) → H' b = some (.frz o u)) (tbls : ∀ b ps, H b = some (.tbl ps) → ∃ more, H' b = some (.tbl (ps ++ more)))
    (ns : ∀ m, s.heap.Ns X.env.locals m → h'.Ns X.env.locals m) (hok : HOk X.prog X.w H' h') (hg : AllBare g') :
    Inv X pins σ H' { s with heap := h', gens := g', drawn := d', toks := t' } := by
  have neL : ∀ b o, X.s₀.heap.get? b = some o → b ≠ X.env.locals := fun b o e => Nat.ne_of_lt (Nat.lt_of_lt_of_le (Heap.lt_size e) I.ok.above)
  have neC : ∀ b o, X.s₀.heap.get? b = some o → b ∉ X.ex → b ∉ ch := fun b o e hx hb => by
    rcases (hch b hb).1 with z | z
    · exact hx z
    · exact absurd (Nat.lt_of_lt_of_le (Heap.lt_size e) z) (Nat.lt_irrefl _)
  have cellK : ∀ x c, X.env.cells.lookup x = some c → ∀ v, s.heap.IsCell c v → h'.IsCell c v := fun x c e v ⟨o, ho, hd⟩ => by
    have nch : c ∉ ch := fun z => (hch c z).2.2.1 x c e rfl
    by_cases hc : c ∈ X.fs
    · obtain ⟨sl, q⟩ := slot c o (I.cne x c e) hc nch ho (I.freeC x c e)
      exact ⟨_, q, hd⟩
    · exact ⟨o, keep c o (I.cne x c e) hc nch ho (I.freeC x c e), hd⟩
  refine ⟨I.ok, I.os, hg, ⟨fun b o e n hb hx => ?_, fun b o e n hb hx => ?_, fun b o e n hx => ?_, fun b o e hx => ?_, fun b xs e => tups b xs (I.base.tups b xs e), fun b o xs e => frzs b o xs (I.base.frzs b o xs e), fun b ps e => ?_⟩, ?_, fun x c e => ?_, ?_, fun x c e => ?_, fun p hp => ?_, hok, I.len⟩
  · exact keep b o (neL b o e) hb (neC b o e hx) (I.base.keep b o e n hb hx) (I.base.free b o e n hx)
  · obtain ⟨sl, e1⟩ := I.base.slot b o e n hb hx
    obtain ⟨sl', e2⟩ := slot b _ (neL b o e) hb (neC b o e hx) e1 (I.base.free b o e n hx)
    exact ⟨sl', e2⟩
  · obtain ⟨o', e1⟩ := I.base.there b o e hx
    exact free b o' (neC b o e hx) e1 (I.base.free b o e n hx)
  · obtain ⟨o', e1⟩ := I.base.there b o e hx
    exact there b o' (neC b o e hx) e1
  · obtain ⟨m1, e1⟩ := I.base.tbls b ps e
    obtain ⟨m2, e2⟩ := tbls b _ e1
    exact ⟨m1 ++ m2, by rw [e2, Array.append_assoc]⟩
  · obtain ⟨m, hn, hl⟩ := I.loc
    refine ⟨m, ns m hn, fun i x v e1 e2 e3 => ?_⟩
    obtain ⟨u, r, l⟩ := hl i x v e1 e2 e3
    refine ⟨u, r, ?_⟩
    rcases l with l | ⟨k, c, e, z⟩
    · exact .inl l
    · exact .inr ⟨k, c, e, cellK x c e _ z⟩
  · obtain ⟨v, z⟩ := I.cell x c e
    exact ⟨v, cellK x c e v z⟩
  · obtain ⟨m, ⟨o, _, _, ho, _⟩, _⟩ := I.loc
    exact free _ o (fun z => (hch _ z).2.1 rfl) ho I.free
  · obtain ⟨v, o, ho, hd⟩ := I.cell x c e
    exact free c o (fun z => (hch c z).2.2.1 x c e rfl) ho (I.freeC x c e)
  · obtain ⟨e, n, ne, nf, d⟩ := I.pin p hp
    have nch : p.1 ∉ ch := fun z => (hch p.1 z).2.2.2 p hp rfl
    exact ⟨keep p.1 p.2 ne nf nch e n, free p.1 p.2 nch e n, ne, nf, d⟩
/-- .. where the frame's own object is kept too -/
theorem Inv.un {t' : Nat} (I : Inv X pins σ H s) (u : Un X.fs [] H H' s.heap h') (hok : HOk X.prog X.w H' h') : Inv X pins σ H' { s with heap := h', toks := t' } := by
  obtain ⟨m, ⟨o, es, ep, ho, r⟩, _⟩ := id I.loc
  obtain ⟨sl, hL⟩ := u.any ho I.free (by simp)
  exact I.step (g' := s.gens) (d' := s.drawn) (ch := []) (fun _ z => nomatch z) (fun b o _ hb _ e n => u.keep b o e n hb (by simp)) (fun b o _ hb _ e n => u.slot b o e n hb (by simp)) (fun b o _ e n => u.free b o e n (by simp)) (fun b o _ e => u.there b o e (by simp)) u.tups u.frzs u.tbls (fun m' hm => by
    obtain ⟨o', es', ep', ho', r'⟩ := hm
    rw [ho] at ho'; cases ho'
    exact ⟨_, es', ep', hL, r'⟩) hok I.bare
/-- behind a call (or a comprehension's block): the slots of this frame may have changed too, the records at ch may have turned -/
theorem Inv.call {g' : Array GenState} {t' : Nat} {d' : Drawn} {ch : List Addr} (I : Inv X pins σ H s) (u : Un (frs X.stack) ch H H' s.heap h') (hok : HOk X.prog X.w H' h') (hg : AllBare g')
    (hch : ∀ b ∈ ch, (b ∈ X.ex ∨ X.s₀.heap.objs.size ≤ b) ∧ b ≠ X.env.locals ∧ (∀ x c, X.env.cells.lookup x = some c → c ≠ b) ∧ ∀ p ∈ X.pn ++ pins, p.1 ≠ b) :
    Inv X pins σ H' { s with heap := h', gens := g', drawn := d', toks := t' } := by
  obtain ⟨m, ⟨o, es, ep, ho, r⟩, _⟩ := id I.loc
  obtain ⟨sl, hL⟩ := u.any ho I.free fun z => (hch _ z).2.1 rfl
  exact I.step (ch := ch) hch (fun b o hL hb hc e n => u.keep b o e n (fun z => (List.mem_cons.mp (I.stkSub b z)).elim hL hb) hc) (fun b o _ _ hc e n => u.any e n hc) (fun b o hc e n => u.free b o e n hc) (fun b o hc e => u.there b o e hc) u.tups u.frzs u.tbls (fun m' hm => by
    obtain ⟨o', es', ep', ho', r'⟩ := hm
    rw [ho] at ho'; cases ho'
    exact ⟨_, es', ep', hL, r'⟩) hok hg
/-- an untracked record of ours (an iterator) has turned -/
theorem Inv.turned {t' : Nat} {it : Addr} (I : Inv X pins σ H s) (k : ∀ b o, b ≠ it → s.heap.get? b = some o → h'.get? b = some o) (hn : H it = none) (hL : it ≠ X.env.locals)
    (h1 : it ∈ X.ex ∨ X.s₀.heap.objs.size ≤ it) (h2 : ∀ x c, X.env.cells.lookup x = some c → c ≠ it) (h3 : ∀ p ∈ X.pn ++ pins, p.1 ≠ it) : Inv X pins σ H { s with heap := h', toks := t' } := by
  have nit : ∀ b u, H b = some u → b ≠ it := fun b u e z => by rw [z, hn] at e; cases e
  refine I.step (g' := s.gens) (d' := s.drawn) (ch := [it]) (fun b hb => ?_) (fun b o _ _ hc e _ => k b o (fun z => hc (by simp [z])) e) (fun b o _ _ hc e _ => ⟨o.slots, k b o (fun z => hc (by simp [z])) e⟩) (fun _ _ _ _ n => n)
    (fun b o hc e => ⟨o, k b o (fun z => hc (by simp [z])) e⟩) (fun _ _ e => e) (fun _ _ _ e => e) (fun b ps e => ⟨#[], by rw [e]; simp⟩) (fun m hm => ?_) (fun b u e => ?_) I.bare
  · have e : b = it := by simpa using hb
    subst e
    exact ⟨h1, hL, h2, h3⟩
  · obtain ⟨o, es, ep, ho, r⟩ := hm
    exact ⟨o, es, ep, k _ o (Ne.symm hL) ho, r⟩
  · refine (I.hok b u e).stay (fun c v hc q => k c v ?_ q) (fun _ q => q) fun _ _ q => q
    rcases hc with z | z
    · rw [z]; exact nit b u e
    · exact nit c _ z
theorem Inv.tok (I : Inv X pins σ H s) (t : Nat) : Inv X pins σ H { s with toks := t } := I.un (h' := s.heap) (t' := t) Un.refl I.hok
/-- all objects kept -/
theorem Inv.kept {t' : Nat} (I : Inv X pins σ H s) (k : ∀ b u, s.heap.get? b = some u → h'.get? b = some u) : Inv X pins σ H { s with heap := h', toks := t' } := I.un (Un.kept k) (I.hok.kept k)
/-- a new object laid and tracked -/
theorem Inv.laid {a : Addr} {o : HO} {t' : Nat} (I : Inv X pins σ H s) (k : ∀ b u, s.heap.get? b = some u → h'.get? b = some u) (hp : s.heap.objs.size ≤ a) (new : ObjOk X.prog X.w (upd H a o) h' a o) :
    Inv X pins σ (upd H a o) { s with heap := h', toks := t' } := I.un (Un.laid k hp (I.hok.fresh hp)) (I.hok.laid k hp new)
/-- an object written -/
theorem Inv.write {x e : Addr} {o : HO} {t' : Nat} (I : Inv X pins σ H s) (mu : Mut (H x)) (he : e = x ∨ H e = some (.own x)) (k : ∀ b u, b ≠ e → s.heap.get? b = some u → h'.get? b = some u) (heo : ∃ u, h'.get? e = some u)
    (new : ObjOk X.prog X.w (upd H x o) h' x o) : Inv X pins σ (upd H x o) { s with heap := h', toks := t' } := I.un (Un.write mu he k heo) (I.hok.write mu he k heo new)
/-- forgetting slots, pins -/
theorem Inv.weak {σ' : List (Option V)} (I : Inv X pins σ H s) (hl : σ'.length = σ.length) (w : ∀ (i : Nat) v, σ'[i]? = some (some v) → σ[i]? = some (some v)) : Inv X pins σ' H s :=
  ⟨I.ok, I.os, I.bare, I.base, let ⟨m, hn, hl'⟩ := I.loc; ⟨m, hn, fun i x v e1 e2 e3 => hl' i x v e1 (w i v e2) e3⟩, I.cell, I.free, I.freeC, I.pin, I.hok, hl.trans I.len⟩
theorem Inv.pins_of {pins' : List (Addr × Obj)} (I : Inv X pins σ H s) (h : ∀ p ∈ pins', s.heap.get? p.1 = some p.2 ∧ H p.1 = none ∧ p.1 ≠ X.env.locals ∧ p.1 ∉ X.fs ∧ ∀ v, p.2.data ≠ .cell v) : Inv X pins' σ H s :=
  ⟨I.ok, I.os, I.bare, I.base, I.loc, I.cell, I.free, I.freeC, fun p hp => (List.mem_append.mp hp).elim (fun z => I.pin p (List.mem_append_left _ z)) (h p), I.hok, I.len⟩

theorem nodup_ix {N : List Str} (hN : N.Nodup) {i j : Nat} {x : Str} (a : N[i]? = some x) (b : N[j]? = some x) : i = j := by
  obtain ⟨h1, e1⟩ := List.getElem?_eq_some_iff.mp a
  obtain ⟨h2, e2⟩ := List.getElem?_eq_some_iff.mp b
  exact (List.getElem_inj hN).mp (e1.trans e2.symm)

/-- a name is stored; what changed -/
theorem store_ok2 {M : Model} {A : Around} {E : Value → Shared → Prop} {i : Nat} {x : Str} {v : V} {u : Value} {Q : Unit → Shared → Prop} (I : Inv X pins σ H s) (hN : X.N.Nodup) (hi : X.N[i]? = some x) (hx : Loc X.env.scope x) (r : RelV v u)
    (h : ∀ s', Inv X pins (σ.set i (some v)) H s' → (∃ a, Heap.SameBut a s.heap s'.heap ∧ (a = X.env.locals ∨ X.env.cells.lookup x = some a)) → Q () s') (hf : X.fn x = true ∨ X.env.scope.names.lookup x = some .local := by first | exact .inl rfl | exact .inr rfl | assumption) : wpAny M A (storeName X.env x u) Q E s := by
  obtain ⟨m, hn, hl⟩ := id I.loc
  have hcls : (X.env.scope.kind == .class || (X.env.scope.kind == .module && X.env.locals != X.env.globals)) = false := by rw [I.ok.kind]; rfl
  have hiσ : i < σ.length := by rw [I.len]; exact (List.getElem?_eq_some_iff.mp hi).1
  have cne := I.cne
  have tracked : ∀ {a : Addr} {h' : Heap}, (∃ o, s.heap.get? a = some o ∧ H a = none) → Heap.SameBut a s.heap h' → HOk X.prog X.w H h' := fun {a h'} ha hs b ob e => by
    obtain ⟨_, _, hfree⟩ := ha
    refine (I.hok b ob e).stay (fun c w' hc q => (hs.2 c ?_).trans q) (fun _ q => q) fun _ _ q => q
    rintro rfl
    rcases hc with rfl | hc
    · rw [hfree] at e; cases e
    · rw [hfree] at hc; cases hc
  rcases hx with hk | hk
  · refine wpAny_storeName_local hk hn (fun h' hn' hs => ?_) hcls
    obtain ⟨oL, _, _, hoL, _⟩ := id hn
    refine h _ ⟨I.ok, I.os, I.bare, ⟨fun b o e n hb hx => ?_, fun b o e n hb hx => ?_, I.base.free, fun b o e hx => ?_, I.base.tups, I.base.frzs, I.base.tbls⟩, ⟨_, hn', fun j y v' e1 e2 e3 => ?_⟩, fun y c e => ?_, I.free, I.freeC, fun p hp => ?_, tracked ⟨oL, hoL, I.free⟩ hs, by simpa using I.len⟩ ⟨_, hs, .inl rfl⟩
    · exact (hs.2 b (Nat.ne_of_lt (Nat.lt_of_lt_of_le (Heap.lt_size e) I.ok.above))).trans (I.base.keep b o e n hb hx)
    · obtain ⟨sl, e1⟩ := I.base.slot b o e n hb hx
      exact ⟨sl, (hs.2 b (Nat.ne_of_lt (Nat.lt_of_lt_of_le (Heap.lt_size e) I.ok.above))).trans e1⟩
    · obtain ⟨o', e1⟩ := I.base.there b o e hx
      exact ⟨o', (hs.2 b (Nat.ne_of_lt (Nat.lt_of_lt_of_le (Heap.lt_size e) I.ok.above))).trans e1⟩
    · by_cases hj : j = i
      · subst hj
        rw [hi] at e1; cases e1
        rw [List.getElem?_set_self hiσ] at e2
        cases e2
        exact ⟨u, r, .inl ⟨hk, by simp⟩⟩
      · rw [List.getElem?_set_ne (Ne.symm hj)] at e2
        obtain ⟨u', r', q⟩ := hl j y v' e1 e2 e3
        refine ⟨u', r', ?_⟩
        rcases q with ⟨k, e⟩ | ⟨k, c, e, z⟩
        · refine .inl ⟨k, ?_⟩
          have : y ≠ x := fun e => hj (nodup_ix hN e1 (e ▸ hi))
          simp [this, e]
        · exact .inr ⟨k, c, e, z.sameBut hs (cne y c e)⟩
    · obtain ⟨w', z⟩ := I.cell y c e
      exact ⟨w', z.sameBut hs (cne y c e)⟩
    · obtain ⟨e, n, ne, nf, d⟩ := I.pin p hp
      exact ⟨(hs.2 p.1 ne).trans e, n, ne, nf, d⟩
  · have hfn : X.fn x = true := by
      rcases hf with z | z
      · exact z
      · rw [z] at hk; cases hk
    obtain ⟨c, hc⟩ := I.ok.has x (.inl hk)
    obtain ⟨w', z⟩ := I.cell x c hc
    refine wpAny_storeName_cell I.ok.kind hk hc z (fun h' hc' hs => ?_)
    obtain ⟨oc, hoc, hocd⟩ := id z
    refine h { s with heap := h' } ⟨I.ok, I.os, I.bare, ⟨fun b o e n hb hx => ?_, fun b o e n hb hx => ?_, I.base.free, fun b o e hx => ?_, I.base.tups, I.base.frzs, I.base.tbls⟩, ⟨m, hn.sameBut hs (Ne.symm (cne x c hc)), fun j y v' e1 e2 e3 => ?_⟩, fun y c' e => ?_, I.free, I.freeC, fun p hp => ?_, tracked ⟨oc, hoc, I.freeC x c hc⟩ hs, by simpa using I.len⟩ ⟨c, hs, .inr hc⟩
    · exact (hs.2 b (Nat.ne_of_lt (Nat.lt_of_lt_of_le (Heap.lt_size e) (I.ok.cab x c hfn hc)))).trans (I.base.keep b o e n hb hx)
    · obtain ⟨sl, e1⟩ := I.base.slot b o e n hb hx
      exact ⟨sl, (hs.2 b (Nat.ne_of_lt (Nat.lt_of_lt_of_le (Heap.lt_size e) (I.ok.cab x c hfn hc)))).trans e1⟩
    · obtain ⟨o', e1⟩ := I.base.there b o e hx
      exact ⟨o', (hs.2 b (Nat.ne_of_lt (Nat.lt_of_lt_of_le (Heap.lt_size e) (I.ok.cab x c hfn hc)))).trans e1⟩
    · by_cases hj : j = i
      · subst hj
        rw [hi] at e1; cases e1
        rw [List.getElem?_set_self hiσ] at e2
        cases e2
        exact ⟨u, r, .inr ⟨.inl hk, c, hc, hc'⟩⟩
      · rw [List.getElem?_set_ne (Ne.symm hj)] at e2
        obtain ⟨u', r', q⟩ := hl j y v' e1 e2 e3
        refine ⟨u', r', ?_⟩
        rcases q with q | ⟨k, c', e, z'⟩
        · exact .inl q
        · refine .inr ⟨k, c', e, z'.sameBut hs ?_⟩
          rintro rfl
          exact hj (nodup_ix hN e1 (I.ok.inj _ _ _ e hc ▸ hi))
    · by_cases hcc : c' = c
      · subst hcc; exact ⟨_, hc'⟩
      · obtain ⟨w2, z2⟩ := I.cell y c' e
        exact ⟨w2, z2.sameBut hs hcc⟩
    · obtain ⟨e, n, ne, nf, d⟩ := I.pin p hp
      refine ⟨(hs.2 p.1 ?_).trans e, n, ne, nf, d⟩
      intro q
      rw [q, hoc] at e
      have q' : oc = p.2 := Option.some.inj e
      exact d w' (by rw [← q']; exact hocd)
theorem store_ok {M : Model} {A : Around} {E : Value → Shared → Prop} {i : Nat} {x : Str} {v : V} {u : Value} {Q : Unit → Shared → Prop} (I : Inv X pins σ H s) (hN : X.N.Nodup) (hi : X.N[i]? = some x) (hx : Loc X.env.scope x) (r : RelV v u)
    (h : ∀ s', Inv X pins (σ.set i (some v)) H s' → Q () s') (hf : X.fn x = true ∨ X.env.scope.names.lookup x = some .local := by first | exact .inl rfl | exact .inr rfl | assumption) : wpAny M A (storeName X.env x u) Q E s :=
  store_ok2 I hN hi hx r (fun s' I' _ => h s' I') hf
/-- behind a call or a block, the state as it is -/
theorem Inv.call' {s' : Shared} {ch : List Addr} (I : Inv X pins σ H s) (ho : s'.os = s.os) (u : Un (frs X.stack) ch H H' s.heap s'.heap) (hok : HOk X.prog X.w H' s'.heap) (hg : AllBare s'.gens)
    (hch : ∀ b ∈ ch, (b ∈ X.ex ∨ X.s₀.heap.objs.size ≤ b) ∧ b ≠ X.env.locals ∧ (∀ x c, X.env.cells.lookup x = some c → c ≠ b) ∧ ∀ p ∈ X.pn ++ pins, p.1 ≠ b) : Inv X pins σ H' s' := by
  obtain ⟨h', g', d', t', o'⟩ := s'
  have e : o' = s.os := ho
  subst e
  exact I.call (g' := g') (t' := t') (d' := d') u hok hg hch
end

/-! ### the judgements -/
/-- an exception: its class, its own dict's address (where it has one), the abstract heap behind it -/
abbrev XK := Value → Option Addr → Hp → Prop
abbrev St := List (Option V)
abbrev VK := V → Hp → Prop
/-- an expression's reading; a test's; an argument list's -/
abbrev TE := St → Hp → VK → Prop
abbrev TT := St → Hp → (Bool → Hp → Prop) → Prop
abbrev TA := St → Hp → (List V → Hp → Prop) → Prop
/-- what is wanted behind a statement -/
structure Ends where
  nx : St → Hp → Prop
  rt : VK
  bk : St → Hp → Prop := fun _ _ => False
  ct : St → Hp → Prop := fun _ _ => False
abbrev TS := Ends → St → Hp → Prop

def EP (X : Cx) (pins : List (Addr × Obj)) (σ : St) (Q : VK) (u : Value) (s' : Shared) : Prop := ∃ v H', Inv X pins σ H' s' ∧ RelV v u ∧ Q v H'
def TP (X : Cx) (pins : List (Addr × Obj)) (σ : St) (Q : Bool → Hp → Prop) (b : Bool) (s' : Shared) : Prop := ∃ H', Inv X pins σ H' s' ∧ Q b H'
def AP (X : Cx) (pins : List (Addr × Obj)) (σ : St) (Q : List V → Hp → Prop) (us : List Value) (s' : Shared) : Prop := ∃ vs H', Inv X pins σ H' s' ∧ Vals vs us ∧ Q vs H'
def SP (X : Cx) (pins : List (Addr × Obj)) (D : Ends) (f : Flow) (s' : Shared) : Prop :=
  match f with
  | .next => ∃ σ' H', Inv X pins σ' H' s' ∧ D.nx σ' H'
  | .brk => ∃ σ' H', Inv X pins σ' H' s' ∧ D.bk σ' H'
  | .cont => ∃ σ' H', Inv X pins σ' H' s' ∧ D.ct σ' H'
  | .ret u => ∃ v σ' H', Inv X pins σ' H' s' ∧ RelV v u ∧ D.rt v H'

def PE (X : Cx) (e : Expr) (t : TE) : Prop :=
  ∀ (pins : List (Addr × Obj)) (s : Shared) (σ : St) (H : Hp) (Q : VK), Inv X pins σ H s → t σ H Q → wpAny (model X.prog X.w) X.A (eval e X.env) (EP X pins σ Q) X.xe s
def PT (X : Cx) (e : Expr) (t : TT) : Prop :=
  ∀ (pins : List (Addr × Obj)) (s : Shared) (σ : St) (H : Hp) (Q : Bool → Hp → Prop), Inv X pins σ H s → t σ H Q → wpAny (model X.prog X.w) X.A (isTrue e X.env (eval e X.env)) (TP X pins σ Q) X.xe s
/-- a test whatever its 'whole' is (and, or) -/
def PW (X : Cx) (e : Expr) (t : TT) : Prop :=
  ∀ (whole : Sem Value) (pins : List (Addr × Obj)) (s : Shared) (σ : St) (H : Hp) (Q : Bool → Hp → Prop), Inv X pins σ H s → t σ H Q → wpAny (model X.prog X.w) X.A (isTrue e X.env whole) (TP X pins σ Q) X.xe s
theorem PW.pt {X : Cx} {e : Expr} {t : TT} (h : PW X e t) : PT X e t := h _
/-- an argument list (no star), from the left -/
def PA (X : Cx) (es : List Expr) (t : TA) : Prop :=
  ∀ (pos : Pos) (pins : List (Addr × Obj)) (s : Shared) (σ : St) (H : Hp) (Q : List V → Hp → Prop), Inv X pins σ H s → t σ H Q → wpAny (model X.prog X.w) X.A (spliced (backTo pos (starEach es X.env))) (AP X pins σ Q) X.xe s
def PS (X : Cx) (st : Stmt) (t : TS) : Prop :=
  ∀ (pins : List (Addr × Obj)) (s : Shared) (σ : St) (H : Hp) (D : Ends), Inv X pins σ H s → t D σ H → wpAny (model X.prog X.w) X.A (exec st X.env) (SP X pins D) X.xe s
def PSs (X : Cx) (st : List Stmt) (t : TS) : Prop :=
  ∀ (pins : List (Addr × Obj)) (s : Shared) (σ : St) (H : Hp) (D : Ends), Inv X pins σ H s → t D σ H → wpAny (model X.prog X.w) X.A (execs st X.env) (SP X pins D) X.xe s
/-- weaken the end -/
theorem thn {α : Type} {t : Sem α} {Q Q' : α → Shared → Prop} {M : Model} {A : Around} {E : Value → Shared → Prop} {s : Shared} (h : wpAny M A t Q E s) (hQ : ∀ a s, Q a s → Q' a s) : wpAny M A t Q' E s := wpAny_mono h hQ fun _ _ x => x
end L2

namespace L2
open PySem PySem.Spec PyProof.Rows
section
variable {X : Cx}

/-- two expressions in a row -/
theorem bin {a b : Expr} {ta tb : TE} (ha : PE X a ta) (hb : PE X b tb) {pins : List (Addr × Obj)} {s : Shared} {σ : St} {H : Hp} {R : V → V → Hp → Prop} (I : Inv X pins σ H s) (h : ta σ H fun x H1 => tb σ H1 fun y H2 => R x y H2)
    {α : Type} {Q : α → Shared → Prop} {f : Value → Value → Sem α}
    (hf : ∀ v u s2 x y H2, Inv X pins σ H2 s2 → RelV x v → RelV y u → R x y H2 → wpAny (model X.prog X.w) X.A (f v u) Q X.xe s2) :
    wpAny (model X.prog X.w) X.A (eval a X.env) (fun v s₁ => wpAny (model X.prog X.w) X.A (eval b X.env) (fun u s₂ => wpAny (model X.prog X.w) X.A (f v u) Q X.xe s₂) X.xe s₁) X.xe s := by
  refine thn (ha pins s σ H _ I h) fun v s1 ⟨x, H1, I1, r1, q1⟩ => ?_
  refine thn (hb pins s1 σ H1 _ I1 q1) fun u s2 ⟨y, H2, I2, r2, q2⟩ => ?_
  exact hf v u s2 x y H2 I2 r1 r2 q2

/-! ### names and constants -/
def tVar (i : Nat) : TE := fun σ H Q => ∃ v, σ[i]? = some (some v) ∧ Q v H
def tC (v : V) : TE := fun _ H Q => Q v H
theorem pe_var {i : Nat} {x : Str} {pos : Pos} (hN : X.N[i]? = some x) (hv : Vis X.env.scope x) (hd : (x == ("__debug__" : Str)) = false := by decide) (hcd : (x == ("__classdict__" : Str)) = false := by decide) : PE X (.Name x pos) (tVar i) := by
  intro pins s σ H Q I h
  obtain ⟨v, e, h⟩ := h
  obtain ⟨m, hn, hl⟩ := I.loc
  obtain ⟨u, r, l⟩ := hl i x v hN e hv
  have fin : EP X pins σ Q u s := ⟨v, H, I, r, h⟩
  rcases l with ⟨hk, hm⟩ | ⟨hk, c, hc, hcell⟩
  · exact wpAny_Name (wpAny_loadName_local I.ok.kind hk hn hm fin) hd
  · rcases hk with hk | hk
    · exact wpAny_Name (wpAny_loadName_cell I.ok.kind hk hc hcell fin) hd
    · exact wpAny_Name (wpAny_loadName_free I.ok.kind hk hc hcell fin hcd) hd
theorem pe_int {i j pos} : PE X (.Constant (.int i) j pos) (tC (.int i)) := fun _ _ _ H _ I h => wpAny_Constant_int ⟨.int i, H, I.tok _, ⟨_, rfl⟩, h⟩
theorem pe_bl {b j pos} : PE X (.Constant (.bool b) j pos) (tC (.bl b)) := fun _ _ _ H _ I h => Constant_bool ⟨.bl b, H, I, rfl, h⟩
theorem pe_non {j pos} : PE X (.Constant .none j pos) (tC .non) := fun _ _ _ H _ I h => Constant_none ⟨.non, H, I, rfl, h⟩
theorem pe_str {x j pos} : PE X (.Constant (.str x) j pos) (tC (.str x)) := fun _ _ _ H _ I h => Calls.Constant_str ⟨.str x, H, I.tok _, ⟨_, rfl⟩, h⟩

/-- a global name of the def -/
def Gl (X : Cx) (x : Str) : Prop := X.env.kindOf x = some .globalImplicit
theorem ld_glob {E : Value → Shared → Prop} {pins : List (Addr × Obj)} {s : Shared} {σ : St} {H : Hp} {x : Str} {u : Value} {pos : Pos} {Q : Value → Shared → Prop} (I : Inv X pins σ H s) (hg : Gl X x) (hm : X.mg x = some u) (h : Q u s)
    (hd : (x == ("__debug__" : Str)) = false := by decide) : wpAny (model X.prog X.w) X.A (eval (.Name x pos) X.env) Q E s :=
  Calls.Name_function_global I.ok.kind hg (Calls.loadGlobal_global (by rw [I.ok.glob]; exact I.mod.glob.keeps I.bk) hm h) hd
theorem ld_blt {E : Value → Shared → Prop} {pins : List (Addr × Obj)} {s : Shared} {σ : St} {H : Hp} {x : Str} {u : Value} {pos : Pos} {Q : Value → Shared → Prop} (I : Inv X pins σ H s) (hg : Gl X x) (hm : X.mg x = none) (hv : bootBuiltins x = some u) (h : Q u s)
    (hn : x ≠ "__name__" := by decide) (hd : (x == ("__debug__" : Str)) = false := by decide) : wpAny (model X.prog X.w) X.A (eval (.Name x pos) X.env) Q E s := by
  obtain ⟨mb, h1, h2⟩ := I.mod.blt
  exact Calls.Name_function_global I.ok.kind hg (Calls.loadGlobal_builtin (by rw [I.ok.glob]; exact I.mod.glob.keeps I.bk) hm (by rw [I.ok.blt]; exact h1.keeps I.bk) ((h2 x hn).trans hv) h) hd
/-- a module's constant, a class, a function, as a value -/
theorem pe_glob {x : Str} {v : V} {u : Value} {pos : Pos} (hg : Gl X x) (hm : X.mg x = some u) (r : RelV v u) (hd : (x == ("__debug__" : Str)) = false := by decide) : PE X (.Name x pos) (tC v) :=
  fun _ _ _ H _ I h => ld_glob I hg hm ⟨v, H, I, r, h⟩ hd
theorem pe_bltn {x : Str} {v : V} {u : Value} {pos : Pos} (hg : Gl X x) (hm : X.mg x = none) (hv : bootBuiltins x = some u) (r : RelV v u) (hn : x ≠ "__name__" := by decide) (hd : (x == ("__debug__" : Str)) = false := by decide) : PE X (.Name x pos) (tC v) :=
  fun _ _ _ H _ I h => ld_blt I hg hm hv ⟨v, H, I, r, h⟩ hn hd

/-! ### arithmetic -/
/-- two ints -/
def t2I (ta tb : TE) (k : Int → Int → Hp → Prop) : St → Hp → Prop := fun σ H => ta σ H fun x H1 => tb σ H1 fun y H2 => ∃ i j, x = .int i ∧ y = .int j ∧ k i j H2
def tAdd (ta tb : TE) : TE := fun σ H Q => t2I ta tb (fun i j H2 => Q (.int (i + j)) H2) σ H
def tSub (ta tb : TE) : TE := fun σ H Q => t2I ta tb (fun i j H2 => Q (.int (i - j)) H2) σ H
/-- the left factor below 2^64 -/
def tMul (ta tb : TE) : TE := fun σ H Q => t2I ta tb (fun i j H2 => (-(2 ^ 64) < i ∧ i < 2 ^ 64) ∧ Q (.int (i * j)) H2) σ H
variable {a b : Expr} {ta tb : TE} {pos : Pos}
theorem pe_add (ha : PE X a ta) (hb : PE X b tb) : PE X (.BinOp a .Add b pos) (tAdd ta tb) := by
  intro pins s σ H Q I h
  refine wpAny_BinOp (bin ha hb I h fun v u s2 x y H2 I2 rx ry q => ?_)
  obtain ⟨i, j, rfl, rfl, q⟩ := q
  obtain ⟨t, rfl⟩ := rx
  obtain ⟨t', rfl⟩ := ry
  exact add_int ⟨.int _, H2, I2.tok _, ⟨_, rfl⟩, q⟩
theorem pe_sub (ha : PE X a ta) (hb : PE X b tb) : PE X (.BinOp a .Sub b pos) (tSub ta tb) := by
  intro pins s σ H Q I h
  refine wpAny_BinOp (bin ha hb I h fun v u s2 x y H2 I2 rx ry q => ?_)
  obtain ⟨i, j, rfl, rfl, q⟩ := q
  obtain ⟨t, rfl⟩ := rx
  obtain ⟨t', rfl⟩ := ry
  exact sub_int ⟨.int _, H2, I2.tok _, ⟨_, rfl⟩, q⟩
theorem pe_mul (ha : PE X a ta) (hb : PE X b tb) : PE X (.BinOp a .Mult b pos) (tMul ta tb) := by
  intro pins s σ H Q I h
  refine wpAny_BinOp (bin ha hb I h fun v u s2 x y H2 I2 rx ry q => ?_)
  obtain ⟨i, j, rfl, rfl, ⟨q1, q2⟩, q⟩ := q
  obtain ⟨t, rfl⟩ := rx
  obtain ⟨t', rfl⟩ := ry
  exact mul_int ⟨.int _, H2, I2.tok _, ⟨_, rfl⟩, q⟩ (.of_left (intBits_le_64 q1 q2))

/-! ### comparisons -/
def PC (X : Cx) (op : CmpOp) (a b : Expr) (t : TE) : Prop :=
  ∀ (pins : List (Addr × Obj)) (s : Shared) (σ : St) (H : Hp) (Q : VK), Inv X pins σ H s → t σ H Q →
    wpAny (model X.prog X.w) X.A (eval a X.env) (fun v s₁ => wpAny (model X.prog X.w) X.A (eval b X.env) (fun u s₂ => wpAny (model X.prog X.w) X.A (compareOp op v u) (EP X pins σ Q) X.xe s₂) X.xe s₁) X.xe s
theorem nobehind (b : Expr) {op : CmpOp} (h : op ≠ .In) (h2 : op ≠ .NotIn) : behindInMarks op b = false := by
  have e1 : (op == CmpOp.In) = false := by cases op <;> first | rfl | exact absurd rfl h
  have e2 : (op == CmpOp.NotIn) = false := by cases op <;> first | rfl | exact absurd rfl h2
  cases b <;> simp [behindInMarks, e1, e2]
def tCmp (p : Int → Int → Bool) (ta tb : TE) : TE := fun σ H Q => t2I ta tb (fun i j H2 => Q (.bl (p i j)) H2) σ H
abbrev tLt : TE → TE → TE := tCmp fun i j => decide (i < j)
abbrev tLe : TE → TE → TE := tCmp fun i j => decide (i ≤ j)
abbrev tGt : TE → TE → TE := tCmp fun i j => decide (j < i)
abbrev tGe : TE → TE → TE := tCmp fun i j => decide (j ≤ i)
abbrev tEqI : TE → TE → TE := tCmp fun i j => decide (i = j)
abbrev tNeI : TE → TE → TE := tCmp fun i j => !decide (i = j)
/-- a comparison of two ints, by its rule -/
theorem pc_int {op : CmpOp} {p : Int → Int → Bool} (ha : PE X a ta) (hb : PE X b tb)
    (rule : ∀ (i j : Int) (t u : Tok) (Q : Value → Shared → Prop) (s : Shared), Q (.bool (p i j)) s → wpAny (model X.prog X.w) X.A (compareOp op (.int i t) (.int j u)) Q X.xe s) : PC X op a b (tCmp p ta tb) := by
  intro pins s σ H Q I h
  refine bin ha hb I h fun v u s2 x y H2 I2 rx ry q => ?_
  obtain ⟨i, j, rfl, rfl, q⟩ := q
  obtain ⟨t, rfl⟩ := rx
  obtain ⟨t', rfl⟩ := ry
  exact rule i j t t' _ s2 ⟨.bl _, H2, I2, rfl, q⟩
theorem pc_lt (ha : PE X a ta) (hb : PE X b tb) : PC X .Lt a b (tLt ta tb) := pc_int ha hb fun _ _ _ _ _ _ h => lt_int h
theorem pc_le (ha : PE X a ta) (hb : PE X b tb) : PC X .LtE a b (tLe ta tb) := pc_int ha hb fun _ _ _ _ _ _ h => le_int h
theorem pc_gt (ha : PE X a ta) (hb : PE X b tb) : PC X .Gt a b (tGt ta tb) := pc_int ha hb fun _ _ _ _ _ _ h => gt_int h
theorem pc_ge (ha : PE X a ta) (hb : PE X b tb) : PC X .GtE a b (tGe ta tb) := pc_int ha hb fun _ _ _ _ _ _ h => ge_int h
theorem pc_eqI (ha : PE X a ta) (hb : PE X b tb) : PC X .Eq a b (tEqI ta tb) := pc_int ha hb fun _ _ _ _ _ _ h => eq_int (by rw [Bool.beq_eq_decide_eq]; exact h)
theorem pc_neI (ha : PE X a ta) (hb : PE X b tb) : PC X .NotEq a b (tNeI ta tb) := pc_int ha hb fun _ _ _ _ _ _ h => ne_int (by rw [bne, Bool.beq_eq_decide_eq]; exact h)
/-- is None -/
def tIsN (ta : TE) : TE := fun σ H Q => ta σ H fun x H1 => Q (.bl (decide (x = .non))) H1
def tNotN (ta : TE) : TE := fun σ H Q => ta σ H fun x H1 => Q (.bl (!decide (x = .non))) H1
theorem RelV.none_iff {x : V} {v : Value} (r : RelV x v) : (v == Value.none) = decide (x = .non) := by
  cases x with
  | non => cases r; rfl
  | bl _ => cases r; rfl
  | int _ => obtain ⟨t, rfl⟩ := r; rfl
  | str _ => obtain ⟨t, rfl⟩ := r; rfl
  | byt _ => obtain ⟨t, rfl⟩ := r; rfl
  | flt _ => obtain ⟨t, rfl⟩ := r; rfl
  | ref _ => cases r; rfl
  | ty _ => cases r; rfl
theorem pc_isN {j pos'} (ha : PE X a ta) : PC X .Is a (.Constant .none j pos') (tIsN ta) := by
  intro pins s σ H Q I h
  refine thn (ha pins s σ H _ I h) fun v s1 ⟨x, H1, I1, r1, q1⟩ => ?_
  exact Constant_none (is_none_gen ⟨.bl _, H1, I1, by rw [r1.none_iff]; rfl, q1⟩)
theorem pc_notN {j pos'} (ha : PE X a ta) : PC X .IsNot a (.Constant .none j pos') (tNotN ta) := by
  intro pins s σ H Q I h
  refine thn (ha pins s σ H _ I h) fun v s1 ⟨x, H1, I1, r1, q1⟩ => ?_
  exact Constant_none (isnot_none_gen ⟨.bl _, H1, I1, by rw [r1.none_iff]; rfl, q1⟩)
/-- a comparison as a value, as a test -/
def tB (t : TE) : TT := fun σ H Q => t σ H fun x H1 => ∃ c, x = .bl c ∧ Q c H1
theorem pe_cmp {op : CmpOp} {t : TE} (h : PC X op a b t) (h1 : behindInMarks op b = false := by first | exact nobehind _ (by decide) (by decide) | rfl) : PE X (.Compare a [op] [b] pos) t := fun pins s σ H Q I hw => wpAny_Compare1 (h pins s σ H Q I hw) h1
theorem pt_cmp {op : CmpOp} {t : TE} (h : PC X op a b t) (h1 : behindInMarks op b = false := by first | exact nobehind _ (by decide) (by decide) | rfl) : PT X (.Compare a [op] [b] pos) (tB t) := by
  intro pins s σ H Q I hw
  refine wpAny_isTrue_Compare1 (thn (h pins s σ H _ I hw) fun v s1 h1 => thn h1 fun u s2 h2 => thn h2 fun c s3 ⟨x, H1, I1, r1, q1⟩ => ?_) h1
  obtain ⟨d, rfl, q⟩ := q1
  cases r1
  exact wpAny_truthy_bool ⟨H1, I1, q⟩
/-- an expression whose value is a bool, as a test -/
theorem pt_val {e : Expr} {t : TE} (h : PE X e t) (he : ∀ whole, isTrue e X.env whole = (do let v ← whole; standAt e.pos; holding [v] (truthy v)) := by intro _; rfl) : PT X e (tB t) := by
  intro pins s σ H Q I hw
  refine isTrue_plain (thn (h pins s σ H _ I hw) fun v s1 ⟨x, H1, I1, r1, q1⟩ => ?_) (he _)
  obtain ⟨d, rfl, q⟩ := q1
  cases r1
  exact wpAny_truthy_bool ⟨H1, I1, q⟩

/-! ### and, or, not -/
variable {tA tB' : TT} {rest : List Expr}
def tAnd (t u : TT) : TT := fun σ H Q => t σ H fun c H1 => if c = true then u σ H1 Q else Q false H1
def tOr (t u : TT) : TT := fun σ H Q => t σ H fun c H1 => if c = true then Q true H1 else u σ H1 Q
def tNot (t : TT) : TT := fun σ H Q => t σ H fun c H1 => Q (!c) H1
theorem pw_and1 (ha : PT X a tA) : PW X (.BoolOp .And [a] pos) tA := by
  intro wh pins s σ H Q I h
  refine isTrue_and (thn (ha pins s σ H Q I h) fun c s1 e => ?_)
  cases c with
  | true => exact isTrue_and_nil e
  | false => exact e
theorem pw_or1 (ha : PT X a tA) : PW X (.BoolOp .Or [a] pos) tA := by
  intro wh pins s σ H Q I h
  refine isTrue_or (thn (ha pins s σ H Q I h) fun c s1 e => ?_)
  cases c with
  | false => exact isTrue_or_nil e
  | true => exact e
theorem pw_and (ha : PT X a tA) (hb : PW X (.BoolOp .And (b :: rest) pos) tB') : PW X (.BoolOp .And (a :: b :: rest) pos) (tAnd tA tB') := by
  intro wh pins s σ H Q I h
  refine isTrue_and (thn (ha pins s σ H _ I h) fun c s1 ⟨H1, I1, q1⟩ => ?_)
  cases c with
  | true => exact hb wh pins s1 σ H1 Q I1 q1
  | false => exact ⟨H1, I1, q1⟩
theorem pw_or (ha : PT X a tA) (hb : PW X (.BoolOp .Or (b :: rest) pos) tB') : PW X (.BoolOp .Or (a :: b :: rest) pos) (tOr tA tB') := by
  intro wh pins s σ H Q I h
  refine isTrue_or (thn (ha pins s σ H _ I h) fun c s1 ⟨H1, I1, q1⟩ => ?_)
  cases c with
  | true => exact ⟨H1, I1, q1⟩
  | false => exact hb wh pins s1 σ H1 Q I1 q1
theorem pt_not (ha : PT X a tA) : PT X (.UnaryOp .Not a pos) (tNot tA) := by
  intro pins s σ H Q I h
  exact isTrue_not (ha pins s σ H (fun c H1 => Q (!c) H1) I h)
/-- .. as values (bools) -/
def tAndV (ta tb : TE) : TE := fun σ H Q => ta σ H fun x H1 => ∃ c, x = .bl c ∧ if c = true then tb σ H1 Q else Q (.bl false) H1
def tOrV (ta tb : TE) : TE := fun σ H Q => ta σ H fun x H1 => ∃ c, x = .bl c ∧ if c = true then Q (.bl true) H1 else tb σ H1 Q
def tNotV (ta : TE) : TE := fun σ H Q => ta σ H fun x H1 => ∃ c, x = .bl c ∧ Q (.bl (!c)) H1
theorem pe_one {op} {t : TE} (h : PE X a t) : PE X (.BoolOp op [a] pos) t := fun pins s σ H Q I hw => BoolOp_one (h pins s σ H Q I hw)
theorem pe_and (ha : PE X a ta) (hb : PE X (.BoolOp .And (b :: rest) pos) tb) : PE X (.BoolOp .And (a :: b :: rest) pos) (tAndV ta tb) := by
  intro pins s σ H Q I h
  refine BoolOp_and (thn (ha pins s σ H _ I h) fun v s1 ⟨x, H1, I1, r1, q1⟩ => ?_)
  obtain ⟨c, rfl, q1⟩ := q1
  cases r1
  refine wpAny_truthy_bool ?_
  cases c with
  | true => exact hb pins s1 σ H1 Q I1 q1
  | false => exact ⟨.bl false, H1, I1, rfl, q1⟩
theorem pe_or (ha : PE X a ta) (hb : PE X (.BoolOp .Or (b :: rest) pos) tb) : PE X (.BoolOp .Or (a :: b :: rest) pos) (tOrV ta tb) := by
  intro pins s σ H Q I h
  refine BoolOp_or (thn (ha pins s σ H _ I h) fun v s1 ⟨x, H1, I1, r1, q1⟩ => ?_)
  obtain ⟨c, rfl, q1⟩ := q1
  cases r1
  refine wpAny_truthy_bool ?_
  cases c with
  | false => exact hb pins s1 σ H1 Q I1 q1
  | true => exact ⟨.bl true, H1, I1, rfl, q1⟩
theorem pe_not (ha : PE X a ta) : PE X (.UnaryOp .Not a pos) (tNotV ta) := by
  intro pins s σ H Q I h
  refine UnaryOp_ (thn (ha pins s σ H _ I h) fun v s1 ⟨x, H1, I1, r1, q1⟩ => ?_)
  obtain ⟨c, rfl, q1⟩ := q1
  cases r1
  exact not_of (wpAny_truthy_bool ⟨.bl (!c), H1, I1, rfl, q1⟩)
/-- a if t else b -/
def tIf (t : TT) (ta tb : TE) : TE := fun σ H Q => t σ H fun c H1 => if c = true then ta σ H1 Q else tb σ H1 Q
theorem pe_ifExp {c : Expr} (hc : PT X c tA) (ha : PE X a ta) (hb : PE X b tb) : PE X (.IfExp c a b pos) (tIf tA ta tb) := by
  intro pins s σ H Q I h
  refine wpAny_IfExp (thn (hc pins s σ H _ I h) fun d s1 ⟨H1, I1, q1⟩ => ?_)
  cases d with
  | true => exact ha pins s1 σ H1 Q I1 q1
  | false => exact hb pins s1 σ H1 Q I1 q1
end
end L2

namespace L2
open PySem PySem.Spec PyProof.Rows

/-! ### a list, a tuple that is read: tracked, frozen, or an object of the module -/
def SqL (K : PySem.W.Frag) (H : Hp) (a : Addr) (xs : List V) : Prop :=
  Rd H a (.lst xs) ∨
    ∃ (o : Obj) (its : Array Value) (n : Nat), K.lookup a = some o ∧ o.cls = .type "list" ∧ o.dict = none ∧ o.data = .seq its n ∧ its.size ≤ sizeLine ∧ Vals xs its.toList
def SqT (K : PySem.W.Frag) (H : Hp) (a : Addr) (xs : List V) : Prop :=
  Rd H a (.tup xs) ∨
    ∃ (o : Obj) (its : Array Value) (n : Nat), K.lookup a = some o ∧ o.cls = .type "tuple" ∧ o.data = .seq its n ∧ its.size ≤ sizeLine ∧ Vals xs its.toList
def absV : Value → Option V
  | .none => some .non
  | .bool b => some (.bl b)
  | .int i _ => some (.int i)
  | .str x _ => some (.str x)
  | .bytes b _ => some (.byt b)
  | .float b _ => some (.flt b)
  | .ref a => some (.ref a)
  | .type n => some (.ty n)
  | _ => none
theorem RelV.abs {x : V} {u : Value} (r : RelV x u) : absV u = some x := by
  cases x with
  | non => cases r; rfl
  | bl _ => cases r; rfl
  | int _ => obtain ⟨t, rfl⟩ := r; rfl
  | str _ => obtain ⟨t, rfl⟩ := r; rfl
  | byt _ => obtain ⟨t, rfl⟩ := r; rfl
  | flt _ => obtain ⟨t, rfl⟩ := r; rfl
  | ref _ => cases r; rfl
  | ty _ => cases r; rfl
theorem RelV.inj {x y : V} {u : Value} (r : RelV x u) (q : RelV y u) : x = y := Option.some.inj (r.abs.symm.trans q.abs)
theorem Vals.inj : ∀ {xs ys : List V} {us : List Value}, Vals xs us → Vals ys us → xs = ys
  | _, _, _, .nil, .nil => rfl
  | _, _, _, .cons r t, .cons r' t' => by rw [r.inj r', Vals.inj t t']
section
variable {X : Cx} {pins : List (Addr × Obj)} {σ : St} {H : Hp} {s : Shared} {a : Addr} {xs ys : List V}
theorem SqL.of {K : PySem.W.Frag} (h : H a = some (.lst xs)) : SqL K H a xs := .inl (.inl h)
theorem SqT.of {K : PySem.W.Frag} (h : H a = some (.tup xs)) : SqT K H a xs := .inl (.inl h)
theorem Inv.list (I : Inv X pins σ H s) (h : SqL X.K H a xs) : ∃ its : List Value, Vals xs its ∧ PlainL s.heap a its.toArray ∧ xs.length ≤ sizeLine := by
  rcases h with h | ⟨o, its, n, hk, hc, hd, hs, hz, r⟩
  · obtain ⟨z, its, n, r, e⟩ := h.ok I.hok
    exact ⟨its, r, ⟨_, n, e, rfl, rfl, rfl⟩, z⟩
  · refine ⟨its.toList, r, ⟨o, n, I.kIn a o hk, hc, hd, by simpa using hs⟩, ?_⟩
    have e := r.length
    simp only [Array.length_toList] at e
    omega
theorem Inv.tuple (I : Inv X pins σ H s) (h : SqT X.K H a xs) : ∃ its : List Value, Vals xs its ∧ IsTup s.heap a its.toArray ∧ xs.length ≤ sizeLine := by
  rcases h with h | ⟨o, its, n, hk, hc, hs, hz, r⟩
  · obtain ⟨z, its, r, p⟩ := h.ok I.hok
    exact ⟨its, r, p, z⟩
  · refine ⟨its.toList, r, ⟨o, I.kIn a o hk, hc, n, by simpa using hs⟩, ?_⟩
    have e := r.length
    simp only [Array.length_toList] at e
    omega
theorem Inv.list_inj (I : Inv X pins σ H s) (h : SqL X.K H a xs) (h' : SqL X.K H a ys) : xs = ys := by
  obtain ⟨its, r, ⟨o, n, e, _, _, d⟩, _⟩ := I.list h
  obtain ⟨its', r', ⟨o', n', e', _, _, d'⟩, _⟩ := I.list h'
  rw [e] at e'; cases e'
  rw [d] at d'
  injection d' with d1 _
  have : its = its' := by simpa using congrArg Array.toList d1
  subst this
  exact r.inj r'
theorem Inv.tuple_inj (I : Inv X pins σ H s) (h : SqT X.K H a xs) (h' : SqT X.K H a ys) : xs = ys := by
  obtain ⟨its, r, ⟨o, e, _, n, d⟩, _⟩ := I.tuple h
  obtain ⟨its', r', ⟨o', e', _, n', d'⟩, _⟩ := I.tuple h'
  rw [e] at e'; cases e'
  rw [d] at d'
  injection d' with d1 _
  have : its = its' := by simpa using congrArg Array.toList d1
  subst this
  exact r.inj r'
end

/-! ### another wish about exceptions -/
abbrev Cx.wish (X : Cx) (E : Value → Shared → Prop) : Cx := { X with xe := E }
/-- no exception leaves -/
abbrev Cx.nox (X : Cx) : Cx := X.wish fun _ _ => False
theorem Cx.Ok.wish {X : Cx} (ok : X.Ok) (E : Value → Shared → Prop) : (X.wish E).Ok :=
  ⟨ok.mod, ok.kind, ok.glob, ok.blt, ok.above, ok.inj, ok.has, ok.cab, ok.hd, ok.frames, ok.stk, ok.exf, ok.bs, ok.bsz, ok.noex, ok.exfs, ok.funs, ok.frf⟩
theorem Cx.Ok.unwish {X : Cx} {E : Value → Shared → Prop} (ok : (X.wish E).Ok) : X.Ok :=
  ⟨ok.mod, ok.kind, ok.glob, ok.blt, ok.above, ok.inj, ok.has, ok.cab, ok.hd, ok.frames, ok.stk, ok.exf, ok.bs, ok.bsz, ok.noex, ok.exfs, ok.funs, ok.frf⟩
section
variable {X : Cx} {pins : List (Addr × Obj)} {σ : St} {H : Hp} {s : Shared} {E : Value → Shared → Prop}
theorem Inv.wish (I : Inv X pins σ H s) (E : Value → Shared → Prop) : Inv (X.wish E) pins σ H s := ⟨I.ok.wish E, I.os, I.bare, I.base, I.loc, I.cell, I.free, I.freeC, I.pin, I.hok, I.len⟩
theorem Inv.unwish (I : Inv (X.wish E) pins σ H s) : Inv X pins σ H s := ⟨I.ok.unwish, I.os, I.bare, I.base, I.loc, I.cell, I.free, I.freeC, I.pin, I.hok, I.len⟩
theorem SP.unwish {D : Ends} {f : Flow} {s' : Shared} (h : SP (X.wish E) pins D f s') : SP X pins D f s' := by
  cases f with
  | next => obtain ⟨σ', H', I, q⟩ := h; exact ⟨σ', H', I.unwish, q⟩
  | brk => obtain ⟨σ', H', I, q⟩ := h; exact ⟨σ', H', I.unwish, q⟩
  | cont => obtain ⟨σ', H', I, q⟩ := h; exact ⟨σ', H', I.unwish, q⟩
  | ret u => obtain ⟨v, σ', H', I, r, q⟩ := h; exact ⟨v, σ', H', I.unwish, r, q⟩
theorem PE.nox {e : Expr} {t : TE} (h : PE X.nox e t) : PE X e t := fun pins s σ H Q I hw =>
  wpAny_mono (h pins s σ H Q (I.wish _) hw) (fun _ _ ⟨v, H', I', r, q⟩ => ⟨v, H', I'.unwish, r, q⟩) fun _ _ z => False.elim z
theorem PT.nox {e : Expr} {t : TT} (h : PT X.nox e t) : PT X e t := fun pins s σ H Q I hw =>
  wpAny_mono (h pins s σ H Q (I.wish _) hw) (fun _ _ ⟨H', I', q⟩ => ⟨H', I'.unwish, q⟩) fun _ _ z => False.elim z
theorem PSs.nox {st : List Stmt} {t : TS} (h : PSs X.nox st t) : PSs X st t := fun pins s σ H D I hw =>
  wpAny_mono (h pins s σ H D (I.wish _) hw) (fun _ _ q => q.unwish) fun _ _ z => False.elim z
end

/-! ### blocks and small statements -/
section
variable {X : Cx} {st : Stmt} {rest : List Stmt} {t u : TS} {e : Expr} {te : TE} {pos : Pos}
def tNext : TS := fun D σ H => D.nx σ H
def tSeq (t u : TS) : TS := fun D σ H => t { D with nx := u D } σ H
theorem pss_nil : PSs X [] tNext := fun _ _ σ H _ I h => wpAny_execs_nil ⟨σ, H, I, h⟩
theorem pss_cons (h1 : PS X st t) (h2 : PSs X rest u) : PSs X (st :: rest) (tSeq t u) := by
  intro pins s σ H D I h
  refine wpAny_execs_cons (thn (h1 pins s σ H { D with nx := u D } I h) fun f s1 q => ?_)
  cases f with
  | next =>
    obtain ⟨σ', H', I', q⟩ := q
    exact h2 pins s1 σ' H' D I' q
  | ret v => exact q
  | brk => exact q
  | cont => exact q
theorem pss_one (h1 : PS X st t) : PSs X [st] t := by
  intro pins s σ H D I h
  refine wpAny_execs_cons (thn (h1 pins s σ H D I h) fun f s1 q => ?_)
  cases f with
  | next => exact wpAny_execs_nil q
  | ret v => exact q
  | brk => exact q
  | cont => exact q
def tBreak : TS := fun D σ H => D.bk σ H
def tCont : TS := fun D σ H => D.ct σ H
theorem ps_pass : PS X (.Pass pos) tNext := fun _ _ σ H _ I h => wpAny_Pass ⟨σ, H, I, h⟩
theorem ps_break : PS X (.Break pos) tBreak := fun _ _ σ H _ I h => wpAny_Break ⟨σ, H, I, h⟩
theorem ps_continue : PS X (.Continue pos) tCont := fun _ _ σ H _ I h => wpAny_Continue ⟨σ, H, I, h⟩
/-- in a def's body nothing is shown -/
theorem Inv.quiet {pins : List (Addr × Obj)} {σ : St} {H : Hp} {s : Shared} (I : Inv X pins σ H s) : interactive X.env = false := by simp [interactive, I.ok.kind]
/-- a docstring -/
theorem ps_doc {x j pos pos'} : PS X (.Expr (.Constant (.str x) j pos) pos') tNext := fun _ s σ H _ I h => wpAny_Expr (Calls.Constant_str (show SP X _ _ .next { s with toks := s.toks + 1 } from ⟨σ, H, I.tok _, h⟩)) I.quiet
/-- an expression whose value is dropped -/
def tDrop (te : TE) : TS := fun D σ H => te σ H fun _ H1 => D.nx σ H1
theorem ps_expr (he : PE X e te) (hs : swapsWith e none pos.line X.env = pure false := by rfl) : PS X (.Expr e pos) (tDrop te) := by
  intro pins s σ H D I h
  exact wpAny_Expr_any (thn (he pins s σ H _ I h) fun v s1 ⟨x, H1, I1, r1, q1⟩ => ⟨σ, H1, I1, q1⟩) I.quiet hs
def tRet (te : TE) : TS := fun D σ H => te σ H D.rt
theorem ps_ret (he : PE X e te) : PS X (.Return (some e) pos) (tRet te) := by
  intro pins s σ H D I h
  exact wpAny_Return_some (thn (he pins s σ H _ I h) fun v s1 ⟨x, H1, I1, r1, q1⟩ => ⟨x, σ, H1, I1, r1, q1⟩)
def tRetN : TS := fun D _ H => D.rt .non H
theorem ps_retN : PS X (.Return none pos) tRetN := fun _ _ σ H _ I h => wpAny_Return_none ⟨.non, σ, H, I, rfl, h⟩
def tIfS (c : TT) (t u : TS) : TS := fun D σ H => c σ H fun b H1 => if b = true then t D σ H1 else u D σ H1
theorem ps_if {c : Expr} {a b : List Stmt} {tc : TT} (hc : PT X c tc) (ha : PSs X a t) (hb : PSs X b u) : PS X (.If c a b pos) (tIfS tc t u) := by
  intro pins s σ H D I h
  refine wpAny_If (thn (hc pins s σ H _ I h) fun d s1 ⟨H1, I1, q1⟩ => ?_)
  cases d with
  | true => exact ha pins s1 σ H1 D I1 q1
  | false => exact hb pins s1 σ H1 D I1 q1
/-- code that the proof never comes to -/
def tNever : TS := fun _ _ _ => False
theorem ps_never : PS X st tNever := fun _ _ _ _ _ _ h => h.elim
theorem pss_never {sts : List Stmt} : PSs X sts tNever := fun _ _ _ _ _ _ h => h.elim
end

/-! ### targets -/
abbrev TG := V → St → Hp → (St → Hp → Prop) → Prop
abbrev TGs := List V → St → Hp → (St → Hp → Prop) → Prop
def PG (X : Cx) (target : Expr) (t : TG) : Prop :=
  ∀ (pins : List (Addr × Obj)) (s : Shared) (σ : St) (H : Hp) (v : V) (u : Value) (Q : St → Hp → Prop), Inv X pins σ H s → RelV v u → t v σ H Q →
    wpAny (model X.prog X.w) X.A (assign target X.env u) (fun _ s' => ∃ σ' H', Inv X pins σ' H' s' ∧ Q σ' H') X.xe s
/-- several targets, one after another -/
def PGs (X : Cx) (ts : List Expr) (t : TGs) : Prop :=
  ∀ (pins : List (Addr × Obj)) (s : Shared) (σ : St) (H : Hp) (vs : List V) (us : List Value) (Q : St → Hp → Prop), Inv X pins σ H s → Vals vs us → t vs σ H Q →
    wpAny (model X.prog X.w) X.A (assignInOrder ((assignEach ts X.env).map (·.2)) us) (fun _ s' => ∃ σ' H', Inv X pins σ' H' s' ∧ Q σ' H') X.xe s
/-- o[i] = v, by values -/
abbrev TSet := V → V → V → Hp → (Hp → Prop) → Prop
def PSet (X : Cx) (t : TSet) : Prop :=
  ∀ (pins : List (Addr × Obj)) (s : Shared) (σ : St) (H : Hp) (o i v : V) (ov iv u : Value) (Q : Hp → Prop), Inv X pins σ H s → RelV o ov → RelV i iv → RelV v u → t o i v H Q →
    wpAny (model X.prog X.w) X.A (setItem ov iv u) (fun _ s' => ∃ H', Inv X pins σ H' s' ∧ Q H') X.xe s
/-- a op= b, by values -/
abbrev TIp := V → V → Hp → VK → Prop
def PIp (X : Cx) (op : Operator) (t : TIp) : Prop :=
  ∀ (pins : List (Addr × Obj)) (s : Shared) (σ : St) (H : Hp) (x y : V) (v u : Value) (Q : VK), Inv X pins σ H s → RelV x v → RelV y u → t x y H Q →
    wpAny (model X.prog X.w) X.A (inplaceOp op v u) (EP X pins σ Q) X.xe s
section
variable {X : Cx} {pos : Pos}
def gName (i : Nat) : TG := fun v σ H Q => Q (σ.set i (some v)) H
theorem pg_name {i : Nat} {x : Str} (hN : X.N.Nodup) (hi : X.N[i]? = some x) (hx : Loc X.env.scope x) (hf : X.fn x = true ∨ X.env.scope.names.lookup x = some .local := by first | exact .inl rfl | exact .inr rfl | assumption) : PG X (.Name x pos) (gName i) := by
  intro pins s σ H v u Q I r h
  exact wpAny_assign_Name (store_ok I hN hi hx r (fun s' I' => ⟨_, H, I', h⟩) hf)
def gNil : TGs := fun vs σ H Q => vs = [] ∧ Q σ H
def gCons (t : TG) (u : TGs) : TGs := fun vs σ H Q => ∃ v r, vs = v :: r ∧ t v σ H fun σ' H' => u r σ' H' Q
theorem pgs_nil : PGs X [] gNil := by
  intro pins s σ H vs us Q I r h
  obtain ⟨e, h⟩ := h
  subst e
  cases r
  exact assignInOrder_nil ⟨σ, H, I, h⟩
theorem pgs_cons {e : Expr} {es : List Expr} {t : TG} {u : TGs} (h1 : PG X e t) (h2 : PGs X es u)
    (hs : (assignEach (e :: es) X.env).map (·.2) = assign e X.env :: (assignEach es X.env).map (·.2) := by rfl) : PGs X (e :: es) (gCons t u) := by
  intro pins s σ H vs us Q I r h
  obtain ⟨v, vr, e1, h⟩ := h
  subst e1
  cases r with
  | cons r rr =>
    rw [hs]
    refine assignInOrder_cons (thn (h1 pins s σ H _ _ _ I r h) fun _ s1 ⟨σ1, H1, I1, q1⟩ => ?_)
    exact h2 pins s1 σ1 H1 _ _ Q I1 rr q1
/-- (a, b, ..) = a tuple of that length -/
def gTup (K : PySem.W.Frag) (n : Nat) (t : TGs) : TG := fun v σ H Q => ∃ a xs, v = .ref a ∧ SqT K H a xs ∧ xs.length = n ∧ t xs σ H Q
theorem pg_tup {es : List Expr} {k : Nat} {t : TGs} {n : Nat} (hc : X.calm = true) (h : PGs X es t)
    (hn : (assignEach es X.env).length = n := by rfl) (hst : (assignEach es X.env).findIdx? (·.1) = none := by rfl) : PG X (.Tuple es k pos) (gTup X.K n t) := by
  intro pins s σ H v u Q I r hw
  obtain ⟨a, xs, e1, hq, hl, hw⟩ := hw
  subst e1
  cases r
  obtain ⟨its, rv, ht, hz⟩ := I.tuple hq
  refine assign_Tuple_tuple (I.ok.hd hc) ht (by simp [hn, ← hl, rv.length]) hst fun h' hx => ?_
  have I1 : Inv X pins σ H { s with heap := h' } := I.kept (t' := s.toks) fun b o e => hx b o (Nat.ne_of_lt (Heap.lt_size e)) e
  exact h pins _ σ H xs _ Q I1 (by simpa using rv) hw
/-- o[i] = .. -/
def gSub (to ti : TE) (t : TSet) : TG := fun v σ H Q => to σ H fun o H1 => ti σ H1 fun i H2 => t o i v H2 fun H3 => Q σ H3
theorem pg_sub {o i : Expr} {to ti : TE} {t : TSet} (ho : PE X o to) (hi : PE X i ti) (hs : PSet X t)
    (ha : ∀ v, assign (.Subscript o i pos) X.env v = (do
      let ov ← holding [v] (eval o X.env)
      let iv ← holding [v, ov] (eval i X.env)
      standAt pos
      holding [v, ov, iv] (setItem ov iv v)
      release [v, ov, iv] []) := by intro _; rfl) : PG X (.Subscript o i pos) (gSub to ti t) := by
  intro pins s σ H v u Q I r h
  rw [ha]
  refine wpAny_bind (wpAny_holding (thn (ho pins s σ H _ I h) fun ov s1 ⟨x, H1, I1, r1, q1⟩ => ?_))
  refine wpAny_bind (wpAny_holding (thn (hi pins s1 σ H1 _ I1 q1) fun iv s2 ⟨y, H2, I2, r2, q2⟩ => ?_))
  refine wpAny_bind (wpAny_standAt (wpAny_bind (wpAny_holding (thn (hs pins s2 σ H2 x y v ov iv u _ I2 r1 r2 r q2) fun _ s3 ⟨H3, I3, q3⟩ => ?_))))
  exact wpAny_release ⟨σ, H3, I3, q3⟩
/-- target = value -/
def tAsg (te : TE) (g : TG) : TS := fun D σ H => te σ H fun x H1 => g x σ H1 D.nx
theorem ps_asg {tg e : Expr} {te : TE} {g : TG} (he : PE X e te) (hg : PG X tg g) (hs : swapsWithSole [tg] e pos.line X.env = pure false := by rfl) (hw : swappedStores [tg] e X.env = pure none := by rfl)
    (h1 : (assignEach [tg] X.env).map (·.2) = [assign tg X.env] := by rfl) : PS X (.Assign [tg] e pos) (tAsg te g) := by
  intro pins s σ H D I h
  refine wpAny_Assign_stores (thn (he pins s σ H _ I h) fun v s1 ⟨x, H1, I1, r1, q1⟩ => ?_) hs hw
  rw [h1]
  exact thn (hg pins s1 σ H1 x v _ I1 r1 q1) fun _ s2 q => q
/-- name = value -/
theorem ps_set {i : Nat} {x : Str} {e : Expr} {te : TE} {pos' : Pos} (hN : X.N.Nodup) (hi : X.N[i]? = some x) (hx : Loc X.env.scope x) (he : PE X e te) (hs : swapsWith e (some (.Name x pos')) pos.line X.env = pure false := by rfl) (hf : X.fn x = true ∨ X.env.scope.names.lookup x = some .local := by first | exact .inl rfl | exact .inr rfl | assumption) :
    PS X (.Assign [.Name x pos'] e pos) (tAsg te (gName i)) := by
  intro pins s σ H D I h
  refine wpAny_Assign_Name (thn (he pins s σ H _ I h) fun v s1 ⟨y, H1, I1, r1, q1⟩ => ?_) hs
  exact store_ok I1 hN hi hx r1 (fun s2 I2 => ⟨_, H1, I2, q1⟩) hf
/-- a, b = x, y with plain local names: stored from the right; the pair itself is not tracked (the opening rows as in PyProof/Rows/TupAssign.lean:23) -/
def tPar (i j : Nat) (ta : TA) : TS := fun D σ H => ta σ H fun vs H1 => ∃ v w, vs = [v, w] ∧ D.nx ((σ.set i (some v)).set j (some w)) H1
theorem ps_par {i j : Nat} {x y : Str} {a b : Expr} {ta : TA} {px py pt : Pos} {kt k2 pt2} (hc : X.calm = true) (hN : X.N.Nodup) (hi : X.N[i]? = some x) (hj : X.N[j]? = some y) (hij : i ≠ j)
    (hx : X.env.scope.names.lookup x = some .local) (hy : X.env.scope.names.lookup y = some .local) (ha : PA X [a, b] ta)
    (hw : swappedStores [.Tuple [.Name x px, .Name y py] kt pt] (.Tuple [a, b] k2 pt2) X.env = pure (some [x, y]))
    (hs : swapsWithSole [.Tuple [.Name x px, .Name y py] kt pt] (.Tuple [a, b] k2 pt2) pos.line X.env = pure false := by rfl) :
    PS X (.Assign [.Tuple [.Name x px, .Name y py] kt pt] (.Tuple [a, b] k2 pt2) pos) (tPar i j ta) := by
  intro pins s σ H D I h
  rw [exec_Assign_arm]
  refine wpAny_bind (wpAny_standAt ?_)
  rw [hs]
  refine wpAny_bind (wpAny_pure ?_)
  rw [if_neg (by decide)]
  refine wpAny_bind (Tuple_ (thn (ha _ pins s σ H _ I h) fun us s1 ⟨vs, H1, I1, r1, q1⟩ => ?_))
  obtain ⟨v, w, e1, q1⟩ := q1
  subst e1
  obtain ⟨u1, u2, rfl, rv, rw'⟩ : ∃ u1 u2, us = [u1, u2] ∧ RelV v u1 ∧ RelV w u2 := by
    cases r1 with
    | cons p q =>
      cases q with
      | cons p' q' =>
        cases q'
        exact ⟨_, _, rfl, p, p'⟩
  refine wpAny_newObj_type ?_ (by show 2 ≤ sizeLine; decide)
  have I2 : Inv X pins σ H1 { s1 with heap := s1.heap.push { cls := .type "tuple", data := .seq [u1, u2].toArray } } := I1.kept (t' := s1.toks) fun b o e => Heap.get?_push_of_some _ e
  rw [hw]
  refine wpAny_bind (wpAny_pure ?_)
  show wpAny (model X.prog X.w) X.A (do rule "assign.swapped-stores"; let items ← unpackItems (.ref s1.heap.objs.size) 2 none; assignInOrder [fun v => bindName X.env y v, fun v => bindName X.env x v] items.reverse; pure Flow.next) _ _ _
  refine wpAny_bind (wpAny_rule (wpAny_bind (unpackItems_tuple (items := #[u1, u2]) (I.ok.hd hc) (IsTup.new s1.heap _) fun h' hx' => ?_)))
  have I3 := I2.kept (h' := h') (t' := s1.toks) fun b o e => hx' b o (Nat.ne_of_lt (Heap.lt_size e)) e
  show wpAny _ _ (assignInOrder [fun v => bindName X.env y v, fun v => bindName X.env x v] [u2, u1] >>= fun _ => pure Flow.next) _ _ _
  refine wpAny_bind (assignInOrder_cons (wpAny_bindName (store_ok I3 hN hj (.inl hy) rw' (fun s2 I4 => ?_) (.inr hy))))
  refine assignInOrder_cons (wpAny_bindName (store_ok I4 hN hi (.inl hx) rv (fun s3 I5 => assignInOrder_nil (wpAny_pure ?_)) (.inr hx)))
  rw [List.set_comm _ _ (Ne.symm hij)] at I5
  exact ⟨_, H1, I5, q1⟩
/-- name op= e -/
def tAug (i : Nat) (te : TE) (ti : TIp) : TS := fun D σ H => ∃ x, σ[i]? = some (some x) ∧ te σ H fun y H1 => ti x y H1 fun z H2 => D.nx (σ.set i (some z)) H2
theorem ps_aug {i : Nat} {x : Str} {e : Expr} {te : TE} {op : Operator} {ti : TIp} {pos' : Pos} (hN : X.N.Nodup) (hi : X.N[i]? = some x) (hx : Loc X.env.scope x) (he : PE X e te) (ho : PIp X op ti) (hf : X.fn x = true ∨ X.env.scope.names.lookup x = some .local := by first | exact .inl rfl | exact .inr rfl | assumption) :
    PS X (.AugAssign (.Name x pos') op e pos) (tAug i te ti) := by
  intro pins s σ H D I h
  obtain ⟨v, e1, h⟩ := h
  obtain ⟨m, hn, hl⟩ := I.loc
  have vis : Vis X.env.scope x := by rcases hx with k | k; exact .inl k; exact .inr (.inl k)
  obtain ⟨u, r, l⟩ := hl i x v hi e1 vis
  refine wpAny_AugAssign_Name ?_
  have go : wpAny (model X.prog X.w) X.A (eval e X.env) (fun w s₂ => wpAny (model X.prog X.w) X.A (inplaceOp op u w) (fun r s₃ => wpAny (model X.prog X.w) X.A (storeName X.env x r) (fun _ => SP X pins D .next) X.xe s₃) X.xe s₂) X.xe s := by
    refine thn (he pins s σ H _ I h) fun w s1 ⟨y, H1, I1, r1, q1⟩ => ?_
    refine thn (ho pins s1 σ H1 v y u w _ I1 r r1 q1) fun z s2 ⟨zv, H2, I2, r2, q2⟩ => ?_
    exact store_ok I2 hN hi hx r2 (fun s3 I3 => ⟨_, H2, I3, q2⟩) hf
  rcases l with ⟨hk, hm⟩ | ⟨hk, c, hc, hcell⟩
  · exact wpAny_loadName_local I.ok.kind hk hn hm go
  · rcases hk with hk | hk
    · exact wpAny_loadName_cell I.ok.kind hk hc hcell go
    · rcases hx with k | k
      · have : X.env.scope.names.lookup x = some .free := hk
        rw [k] at this; cases this
      · have : X.env.scope.names.lookup x = some .free := hk
        rw [k] at this; cases this
/-- o[i] op= e -/
def tAugS (to ti te : TE) (tget : V → V → Hp → VK → Prop) (tip : TIp) (tset : TSet) : TS := fun D σ H => to σ H fun o H1 => ti σ H1 fun i H2 => tget o i H2 fun x H3 => te σ H3 fun y H4 => tip x y H4 fun z H5 => tset o i z H5 fun H6 => D.nx σ H6
/-- o[i], by values -/
def PGet (X : Cx) (t : V → V → Hp → VK → Prop) : Prop :=
  ∀ (pins : List (Addr × Obj)) (s : Shared) (σ : St) (H : Hp) (o i : V) (ov iv : Value) (Q : VK), Inv X pins σ H s → RelV o ov → RelV i iv → t o i H Q →
    wpAny (model X.prog X.w) X.A (getItem ov iv) (EP X pins σ Q) X.xe s
theorem ps_augS {o i e : Expr} {to ti te : TE} {tget : V → V → Hp → VK → Prop} {tip : TIp} {tset : TSet} {op : Operator} {tpos : Pos} (ho : PE X o to) (hi : PE X i ti) (hg : PGet X tget) (he : PE X e te) (hp : PIp X op tip) (hs : PSet X tset)
    (ha : ∀ ov iv new, augStore i ov iv new = (do holding [new, ov, iv] (setItem ov iv new); release [new, ov, iv] []; pure .next) := by intros; rfl) : PS X (.AugAssign (.Subscript o i tpos) op e pos) (tAugS to ti te tget tip tset) := by
  intro pins s σ H D I h
  refine wpAny_AugAssign_SubscriptAny (thn (ho pins s σ H _ I h) fun ov s1 ⟨x1, H1, I1, r1, q1⟩ => ?_) ha
  refine thn (hi pins s1 σ H1 _ I1 q1) fun iv s2 ⟨x2, H2, I2, r2, q2⟩ => ?_
  refine thn (hg pins s2 σ H2 x1 x2 ov iv _ I2 r1 r2 q2) fun old s3 ⟨x3, H3, I3, r3, q3⟩ => ?_
  refine thn (he pins s3 σ H3 _ I3 q3) fun v s4 ⟨x4, H4, I4, r4, q4⟩ => ?_
  refine thn (hp pins s4 σ H4 x3 x4 old v _ I4 r3 r4 q4) fun new s5 ⟨x5, H5, I5, r5, q5⟩ => ?_
  exact thn (hs pins s5 σ H5 x1 x2 x5 ov iv new _ I5 r1 r2 r5 q5) fun _ s6 ⟨H6, I6, q6⟩ => ⟨σ, H6, I6, q6⟩
/-- ints -/
def ipI (f : Int → Int → Int) : TIp := fun x y H Q => ∃ i j, x = .int i ∧ y = .int j ∧ Q (.int (f i j)) H
theorem ip_add : PIp X .Add (ipI fun i j => i + j) := by
  intro pins s σ H x y v u Q I r1 r2 h
  obtain ⟨i, j, e1, e2, q⟩ := h
  subst e1; subst e2
  obtain ⟨t, rfl⟩ := r1
  obtain ⟨t', rfl⟩ := r2
  exact iadd_int ⟨.int _, H, I.tok _, ⟨_, rfl⟩, q⟩
theorem ip_sub : PIp X .Sub (ipI fun i j => i - j) := by
  intro pins s σ H x y v u Q I r1 r2 h
  obtain ⟨i, j, e1, e2, q⟩ := h
  subst e1; subst e2
  obtain ⟨t, rfl⟩ := r1
  obtain ⟨t', rfl⟩ := r2
  exact isub_int ⟨.int _, H, I.tok _, ⟨_, rfl⟩, q⟩
end

/-! ### while -/
section
variable {X : Cx} {pos : Pos}
/-- the invariant W with its measure -/
def tWhile (c : TT) (tb : TS) : TS := fun D σ H => ∃ W : Nat → St → Hp → Prop, (∃ m, W m σ H) ∧ ∀ m σ H, W m σ H →
  c σ H fun b H1 => if b = true then ∃ N : St → Hp → Prop, (∀ σ' H', N σ' H' → ∃ m', m' < m ∧ W m' σ' H') ∧ tb { D with nx := N, ct := N, bk := D.nx } σ H1 else D.nx σ H1
theorem ps_while {c : Expr} {body : List Stmt} {tc : TT} {tb : TS} (hp : PassesOwn (model X.prog X.w) X.A X.env X.xe) (hc : PT X c tc) (hb : PSs X body tb) : PS X (.While c body [] pos) (tWhile tc tb) := by
  intro pins s σ H D I h
  obtain ⟨W, ⟨m0, w0⟩, turn⟩ := h
  refine wpAny_While (codeAny_whileLoop (fun n s' => ∃ σ' H', Inv X pins σ' H' s' ∧ W n σ' H') ?_ m0 ⟨σ, H, I, w0⟩)
  rintro n s1 ⟨σ1, H1, I1, w1⟩
  refine wpAny_passesOwn hp (thn (hc pins s1 σ1 H1 _ I1 (turn n σ1 H1 w1)) fun b s2 ⟨H2, I2, q2⟩ => ?_)
  cases b with
  | true =>
    obtain ⟨N, hN, q2⟩ := q2
    rw [if_pos rfl]
    refine wpAny_passesOwn hp (thn (hb pins s2 σ1 H2 _ I2 q2) fun f s3 q3 => ?_)
    cases f with
    | next =>
      obtain ⟨σ3, H3, I3, n3⟩ := q3
      obtain ⟨m', hm, w3⟩ := hN σ3 H3 n3
      exact ⟨m', hm, σ3, H3, I3, w3⟩
    | cont =>
      obtain ⟨σ3, H3, I3, n3⟩ := q3
      obtain ⟨m', hm, w3⟩ := hN σ3 H3 n3
      exact ⟨m', hm, σ3, H3, I3, w3⟩
    | brk => exact q3
    | ret v => exact q3
  | false =>
    rw [if_neg Bool.false_ne_true]
    exact wpAny_execs_nil ⟨σ1, H2, I2, q2⟩
end

/-! ### what a loop or a comprehension walks -/
/-- at turn i: it yields x (the heap may grow), or it stops -/
structure It where
  go : Nat → Hp → Prop
  yld : Nat → Hp → V → Hp → Prop
  stop : Nat → Hp → Prop
/-- the iterator's own objects may turn: they are not the frame's, not pinned, younger than the entry (or a comprehension's own) -/
def FpOk (X : Cx) (pins : List (Addr × Obj)) (H : Hp) (b : Addr) : Prop :=
  H b = none ∧ b ≠ X.env.locals ∧ b ∉ X.fs ∧ (b ∈ X.ex ∨ X.s₀.heap.objs.size ≤ b) ∧ (∀ x c, X.env.cells.lookup x = some c → c ≠ b) ∧ ∀ p ∈ X.pn ++ pins, p.1 ≠ b
theorem Inv.fpOk {X : Cx} {pins : List (Addr × Obj)} {σ : St} {H H' : Hp} {s : Shared} {b : Addr} (I : Inv X pins σ H s) (hb : s.heap.objs.size ≤ b) (hn : H' b = none) : FpOk X pins H' b := by
  refine ⟨hn, Nat.ne_of_gt (Nat.lt_of_lt_of_le I.lt hb), I.nofs hb, .inr (Nat.le_trans I.sz hb), fun x c e z => ?_, fun p hp z => ?_⟩
  · obtain ⟨v, q⟩ := I.cell x c e
    exact absurd (Nat.lt_of_lt_of_le q.lt (by rw [z]; exact hb)) (Nat.lt_irrefl _)
  · exact absurd (Nat.lt_of_lt_of_le (Heap.lt_size (I.pin p hp).1) (by rw [z]; exact hb)) (Nat.lt_irrefl _)
structure Turn (P : Program) (w : World) (K : PySem.W.Frag) (tg : Expr) (J : It) (fp : List Addr) (it : Addr) (tn : Nat → Heap → Prop) : Prop where
  mem : it ∈ fp
  obj : ∀ i h, tn i h → ∀ b ∈ fp, ∃ o, h.get? b = some o ∧ ∀ v, o.data ≠ .cell v
  keep : ∀ i h h', tn i h → (∀ b ∈ fp, ∀ o, h.get? b = some o → h'.get? b = some o) → tn i h'
  item : ∀ (X : Cx), X.prog = P → X.w = w → X.K = K → X.calm = true → ∀ (i : Nat) (pins : List (Addr × Obj)) (s : Shared) (σ : St) (H : Hp) (E : Value → Shared → Prop), Inv X pins σ H s → (∀ b ∈ fp, FpOk X pins H b) → tn i s.heap → J.go i H →
    wpAny (model P w) X.A (pyNext (.ref it)) (fun r s1 => ∃ u, r = some u ∧
      wpAny (model P w) X.A (letOwnedTupleGo tg (.ref it) u) (fun _ s2 => ∃ x H', Inv X pins σ H' s2 ∧ RelV x u ∧ J.yld i H x H' ∧ tn (i + 1) s2.heap ∧ ∀ b ∈ fp, H' b = none) E s1) E s
  done : ∀ (X : Cx), X.prog = P → X.w = w → X.K = K → X.calm = true → ∀ (i : Nat) (pins : List (Addr × Obj)) (s : Shared) (σ : St) (H : Hp) (E : Value → Shared → Prop), Inv X pins σ H s → (∀ b ∈ fp, FpOk X pins H b) → tn i s.heap → J.stop i H →
    wpAny (model P w) X.A (pyNext (.ref it)) (fun r s1 => r = none ∧ Inv X pins σ H s1) E s
  self : ∀ (A : Around) (i : Nat) (s : Shared) (Q : Value → Shared → Prop) (E : Value → Shared → Prop), tn i s.heap → Q (.ref it) s → wpAny (model P w) A (pyIter (.ref it)) Q E s
abbrev TI := St → Hp → (It → Hp → Prop) → Prop
/-- an iterator has come -/
def PIE (X : Cx) (pins : List (Addr × Obj)) (σ : St) (tg : Expr) (R : It → Hp → Prop) (itv : Value) (s2 : Shared) : Prop :=
  ∃ (it : Addr) (fp : List Addr) (tn : Nat → Heap → Prop) (J : It) (H' : Hp), itv = .ref it ∧ Inv X pins σ H' s2 ∧ Turn X.prog X.w X.K tg J fp it tn ∧ tn 0 s2.heap ∧ (∀ b ∈ fp, FpOk X pins H' b) ∧ R J H'
def PI (X : Cx) (tg iter : Expr) (wi : TI) : Prop :=
  ∀ (pins : List (Addr × Obj)) (s : Shared) (σ : St) (H : Hp) (R : It → Hp → Prop), Inv X pins σ H s → wi σ H R →
    wpAny (model X.prog X.w) X.A (eval iter X.env) (fun v s1 => wpAny (model X.prog X.w) X.A (pyIter v) (PIE X pins σ tg R) X.xe s1) X.xe s

/-- the step ahead of the store is nothing for an iterator that keeps no tuple -/
theorem go_of {M : Model} {A : Around} {E : Value → Shared → Prop} {s : Shared} {tg : Expr} {it : Addr} {u : Value} {o : Obj} {n : String} {vs : Array Value} {Q : Unit → Shared → Prop} (ho : s.heap.get? it = some o) (hc : o.cls = .type n) (hd : o.data = .fields vs)
    (hn : ["enumerate", "zip", "dict_itemiterator", "dict_reverseitemiterator", "odict_iterator", "itertools.zip_longest", "itertools.pairwise"].contains n = false) (hQ : Q () s) : wpAny M A (letOwnedTupleGo tg (.ref it) u) Q E s := by
  unfold letOwnedTupleGo
  cases tg <;> first
    | exact wpAny_pure hQ
    | (cases u <;> first
        | exact wpAny_pure hQ
        | (refine wpAny_bind (wpAny_load ho ?_)
           rw [hc, hd]
           show wpAny M A (if (["enumerate", "zip", "dict_itemiterator", "dict_reverseitemiterator", "odict_iterator", "itertools.zip_longest", "itertools.pairwise"].contains n && vs[0]? == some (rawInt _)) = true then _ else _) Q E s
           rw [if_neg (by intro h; rw [hn, Bool.false_and] at h; cases h)]
           exact wpAny_pure hQ))

/-- the list at a, as it stands at each turn (a loop may append to it) -/
def Itl (K : PySem.W.Frag) (a : Addr) : It :=
  ⟨fun i H => ∃ xs x, SqL K H a xs ∧ xs[i]? = some x, fun i H x H' => H' = H ∧ ∀ xs, SqL K H a xs → xs[i]? = some x, fun i H => ∃ xs, SqL K H a xs ∧ xs.length ≤ i⟩
def Itt (K : PySem.W.Frag) (a : Addr) : It :=
  ⟨fun i H => ∃ xs x, SqT K H a xs ∧ xs[i]? = some x, fun i H x H' => H' = H ∧ ∀ xs, SqT K H a xs → xs[i]? = some x, fun i H => ∃ xs, SqT K H a xs ∧ xs.length ≤ i⟩
/-- lo, lo + 1, .. (n of them) -/
def Itr (lo : Int) (n : Nat) : It := ⟨fun i _ => i < n, fun i H x H' => H' = H ∧ x = .int (lo + i), fun i _ => n ≤ i⟩
theorem turn_list {P : Program} {w : World} {K : PySem.W.Frag} {tg : Expr} (a it : Addr) : Turn P w K tg (Itl K a) [it] it (fun i h => h.IsListIter it a i) where
  mem := by simp
  obj := fun i h st b hb => by
    have e : b = it := by simpa using hb
    subst e
    obtain ⟨o, e, c, d⟩ := st
    exact ⟨o, e, fun v z => by rw [d] at z; cases z⟩
  keep := fun i h h' st k => st.at fun o e => k it (by simp) o e
  item := by
    intro X hP hw hK hc i pins s σ H E I hf st hg
    subst hP hw hK
    obtain ⟨xs, x, hq, hx⟩ := hg
    obtain ⟨its, rv, p, hz⟩ := I.list hq
    obtain ⟨u, hu, ru⟩ := rv.get hx
    obtain ⟨f0, f1, f2, f3, f4, f5⟩ := hf it (by simp)
    refine wpAny_pyNext_list_item st p.isList (x := u) (by simpa using hu) fun h' st' sb => ?_
    have I1 : Inv X pins σ H { s with heap := h' } := I.turned (t' := s.toks) (fun b o hb e => (sb.2 b hb).trans e) f0 f1 f3 f4 f5
    obtain ⟨o, e, c, d⟩ := id st'
    exact ⟨u, rfl, go_of (s := { s with heap := h' }) e c d (by decide) ⟨x, H, I1, ru, ⟨rfl, fun ys hy => by rw [I.list_inj hy hq]; exact hx⟩, st', fun b hb => (hf b hb).1⟩⟩
  done := by
    intro X hP hw hK hc i pins s σ H E I hf st hg
    subst hP hw hK
    obtain ⟨xs, hq, hx⟩ := hg
    obtain ⟨its, rv, p, hz⟩ := I.list hq
    obtain ⟨f0, f1, f2, f3, f4, f5⟩ := hf it (by simp)
    have hl := rv.length
    exact wpAny_pyNext_list_end (I.ok.hd hc) st p.isList (by simp; omega) fun h' eb => ⟨rfl, I.turned (t' := s.toks) (fun b o hb e => eb b o hb e) f0 f1 f3 f4 f5⟩
  self := fun _ _ _ _ _ st h => wpAny_pyIter_listiter st h
theorem turn_tuple {P : Program} {w : World} {K : PySem.W.Frag} {tg : Expr} (a it : Addr) : Turn P w K tg (Itt K a) [it] it (fun i h => h.IsTupleIter it a i) where
  mem := by simp
  obj := fun i h st b hb => by
    have e : b = it := by simpa using hb
    subst e
    obtain ⟨o, e, c, d⟩ := st
    exact ⟨o, e, fun v z => by rw [d] at z; cases z⟩
  keep := fun i h h' st k => st.at fun o e => k it (by simp) o e
  item := by
    intro X hP hw hK hc i pins s σ H E I hf st hg
    subst hP hw hK
    obtain ⟨xs, x, hq, hx⟩ := hg
    obtain ⟨its, rv, p, hz⟩ := I.tuple hq
    obtain ⟨u, hu, ru⟩ := rv.get hx
    obtain ⟨f0, f1, f2, f3, f4, f5⟩ := hf it (by simp)
    refine wpAny_pyNext_tuple_item st (show s.heap.IsTuple a its.toArray from p) (x := u) (by simpa using hu) fun h' st' sb => ?_
    have I1 : Inv X pins σ H { s with heap := h' } := I.turned (t' := s.toks) (fun b o hb e => (sb.2 b hb).trans e) f0 f1 f3 f4 f5
    obtain ⟨o, e, c, d⟩ := id st'
    exact ⟨u, rfl, go_of (s := { s with heap := h' }) e c d (by decide) ⟨x, H, I1, ru, ⟨rfl, fun ys hy => by rw [I.tuple_inj hy hq]; exact hx⟩, st', fun b hb => (hf b hb).1⟩⟩
  done := by
    intro X hP hw hK hc i pins s σ H E I hf st hg
    subst hP hw hK
    obtain ⟨xs, hq, hx⟩ := hg
    obtain ⟨its, rv, p, hz⟩ := I.tuple hq
    obtain ⟨f0, f1, f2, f3, f4, f5⟩ := hf it (by simp)
    have hl := rv.length
    exact wpAny_pyNext_tuple_end (I.ok.hd hc) st (show s.heap.IsTuple a its.toArray from p) (by simp; omega) fun h' eb => ⟨rfl, I.turned (t' := s.toks) (fun b o hb e => eb b o hb e) f0 f1 f3 f4 f5⟩
  self := fun _ _ _ _ _ st h => wpAny_pyIter_tupleiter st h
theorem turn_range {P : Program} {w : World} {K : PySem.W.Frag} {tg : Expr} (it : Addr) (lo : Int) (n : Nat) : Turn P w K tg (Itr lo n) [it] it (fun i h => IsRangeIter h it (lo + (i : Nat) * 1) ((n : Int) - (i : Nat)) 1) where
  mem := by simp
  obj := fun i h st b hb => by
    have e : b = it := by simpa using hb
    subst e
    exact ⟨_, st, fun v z => by
      have z' : Data.fields _ = Data.cell v := z
      cases z'⟩
  keep := fun i h h' st k => k it (by simp) _ st
  item := by
    intro X hP hw hK hc i pins s σ H E I hf st hg
    subst hP hw hK
    obtain ⟨f0, f1, f2, f3, f4, f5⟩ := hf it (by simp)
    have W := Walks.range (prog := X.prog) (w := X.w) (I.ok.hd hc) it lo 1 n
    refine W.item i s _ _ hg st fun v h' tk hv st' kk => ?_
    obtain ⟨t, rfl⟩ := hv
    have I1 : Inv X pins σ H { s with heap := h', toks := tk } := I.turned (fun b o hb e => kk b o (by simpa using hb) e) f0 f1 f3 f4 f5
    refine ⟨_, rfl, go_of (s := { s with heap := h', toks := tk }) (n := "range_iterator") st' rfl rfl (by decide) ⟨.int (lo + i), H, I1, ⟨t, ?_⟩, ⟨rfl, rfl⟩, st', fun b hb => (hf b hb).1⟩⟩
    rw [Int.mul_one]
  done := by
    intro X hP hw hK hc i pins s σ H E I hf st hg
    subst hP hw hK
    obtain ⟨f0, f1, f2, f3, f4, f5⟩ := hf it (by simp)
    exact wpAny_pyNext_range_end (I.ok.hd hc) st (by have : n ≤ i := hg; omega) fun h' eb => ⟨rfl, I.turned (t' := s.toks) (fun b o hb e => eb b o hb e) f0 f1 f3 f4 f5⟩
  self := fun _ _ _ _ _ st h => wpAny_pyIter_rangeiter st h
end L2

namespace L2
open PySem PySem.Spec PyProof.Rows
section
variable {X : Cx} {tg : Expr}
def iList (K : PySem.W.Frag) (tl : TE) : TI := fun σ H R => tl σ H fun x H1 => ∃ a, x = .ref a ∧ (∃ xs, SqL K H1 a xs) ∧ R (Itl K a) H1
def iTup (K : PySem.W.Frag) (tl : TE) : TI := fun σ H R => tl σ H fun x H1 => ∃ a, x = .ref a ∧ (∃ xs, SqT K H1 a xs) ∧ R (Itt K a) H1
theorem pi_list {l : Expr} {tl : TE} (hl : PE X l tl) : PI X tg l (iList X.K tl) := by
  intro pins s σ H R I h
  refine thn (hl pins s σ H _ I h) fun v s1 ⟨x, H1, I1, r1, q1⟩ => ?_
  obtain ⟨a, e, ⟨xs, hq⟩, q⟩ := q1
  subst e
  cases r1
  obtain ⟨its, rv, p, hz⟩ := I1.list hq
  refine wpAny_pyIter_list p.isList ?_
  refine ⟨s1.heap.objs.size, [s1.heap.objs.size], _, _, H1, rfl, I1.kept (t' := s1.toks) fun b o e => Heap.get?_push_of_some _ e, turn_list a _, ⟨_, Heap.get?_push_size _ rfl, rfl, rfl⟩, fun b hb => ?_, q⟩
  have e : b = s1.heap.objs.size := by simpa using hb
  subst e
  exact I1.fpOk (Nat.le_refl _) (I1.hok.fresh (Nat.le_refl _))
theorem pi_tup {l : Expr} {tl : TE} (hl : PE X l tl) : PI X tg l (iTup X.K tl) := by
  intro pins s σ H R I h
  refine thn (hl pins s σ H _ I h) fun v s1 ⟨x, H1, I1, r1, q1⟩ => ?_
  obtain ⟨a, e, ⟨xs, hq⟩, q⟩ := q1
  subst e
  cases r1
  obtain ⟨its, rv, p, hz⟩ := I1.tuple hq
  refine wpAny_pyIter_tuple (show s1.heap.IsTuple a its.toArray from p) ?_
  refine ⟨s1.heap.objs.size, [s1.heap.objs.size], _, _, H1, rfl, I1.kept (t' := s1.toks) fun b o e => Heap.get?_push_of_some _ e, turn_tuple a _, ⟨_, Heap.get?_push_size _ rfl, rfl, rfl⟩, fun b hb => ?_, q⟩
  have e : b = s1.heap.objs.size := by simpa using hb
  subst e
  exact I1.fpOk (Nat.le_refl _) (I1.hok.fresh (Nat.le_refl _))
/-- a range object just made, walked -/
theorem range_it {pins : List (Addr × Obj)} {σ : St} {H : Hp} {s : Shared} {R : It → Hp → Prop} {E : Value → Shared → Prop} {lo hi : Int} {t u v : Tok} {tk : Nat} (I : Inv X pins σ H s) (h1 : -(2 ^ 62) ≤ lo) (h2 : lo < 2 ^ 62) (h3 : -(2 ^ 62) ≤ hi) (h4 : hi < 2 ^ 62)
    (q : R (Itr lo (hi - lo).toNat) H) : wpAny (model X.prog X.w) X.A (pyIter (.ref s.heap.objs.size)) (PIE X pins σ tg R) E { s with heap := s.heap.push { cls := .type "range", data := .fields #[.int lo t, .int hi u, .int 1 v] }, toks := tk } := by
  refine wpAny_pyIter_range (IsRange.new ..) (small_one h1 h2 h3 h4) ?_
  have I1 : Inv X pins σ H { s with heap := s.heap.push { cls := .type "range", data := .fields #[.int lo t, .int hi u, .int 1 v] }, toks := tk } := I.kept fun b o e => Heap.get?_push_of_some _ e
  refine ⟨(s.heap.push { cls := .type "range", data := .fields #[.int lo t, .int hi u, .int 1 v] }).objs.size, [(s.heap.push { cls := .type "range", data := .fields #[.int lo t, .int hi u, .int 1 v] }).objs.size], _, _, H, rfl,
    I1.kept (t' := tk) fun b o e => Heap.get?_push_of_some _ e, turn_range _ lo (hi - lo).toNat, ?_, fun b hb => ?_, q⟩
  · have e1 : lo + ((0 : Nat) : Int) * 1 = lo := by simp
    have e2 : (((hi - lo).toNat : Nat) : Int) - ((0 : Nat) : Int) = Builtin.Range.rangeSize lo hi 1 := by rw [rangeSize_one]; split <;> omega
    show IsRangeIter _ _ (lo + ((0 : Nat) : Int) * 1) ((((hi - lo).toNat : Nat) : Int) - ((0 : Nat) : Int)) 1
    rw [e1, e2]
    exact Heap.get?_push_size _ rfl
  · have e : b = (s.heap.push { cls := .type "range", data := .fields #[.int lo t, .int hi u, .int 1 v] }).objs.size := by simpa using hb
    subst e
    exact I1.fpOk (Nat.le_refl _) (I1.hok.fresh (Nat.le_refl _))
def iRng1 (ta : TA) : TI := fun σ H R => ta σ H fun vs H1 => ∃ j : Int, vs = [.int j] ∧ -(2 ^ 62) ≤ j ∧ j < 2 ^ 62 ∧ R (Itr 0 j.toNat) H1
def iRng2 (ta : TA) : TI := fun σ H R => ta σ H fun vs H1 => ∃ i j : Int, vs = [.int i, .int j] ∧ (-(2 ^ 62) ≤ i ∧ i < 2 ^ 62 ∧ -(2 ^ 62) ≤ j ∧ j < 2 ^ 62) ∧ R (Itr i (j - i).toNat) H1
theorem pi_range1 {a : Expr} {ta : TA} {p pos : Pos} (hg : Gl X "range") (hm : X.mg "range" = none) (ha : PA X [a] ta) (hs : starEach [a] X.env = [(false, eval a X.env)] := by rfl) : PI X tg (.Call (.Name "range" p) [a] [] pos) (iRng1 ta) := by
  intro pins s σ H R I h
  refine Call_ (ld_blt I hg hm boot_range (PyProof.Rows.callWith_type1 (thn (ha pos pins s σ H _ I h) fun us s1 ⟨vs, H1, I1, r1, q1⟩ => ?_) hs rfl))
  obtain ⟨j, e, q1, q2, q⟩ := q1
  subst e
  cases r1 with
  | cons r rr =>
    cases rr
    obtain ⟨t, rfl⟩ := r
    exact call_range_1 (range_it I1 (by omega) (by omega) q1 q2 (by simpa using q))
theorem pi_range2 {a b : Expr} {ta : TA} {p pos : Pos} (hg : Gl X "range") (hm : X.mg "range" = none) (ha : PA X [a, b] ta) (hs : starEach [a, b] X.env = [(false, eval a X.env), (false, eval b X.env)] := by rfl) (hs2 : starEach [b] X.env = [(false, eval b X.env)] := by rfl) :
    PI X tg (.Call (.Name "range" p) [a, b] [] pos) (iRng2 ta) := by
  intro pins s σ H R I h
  refine Call_ (ld_blt I hg hm boot_range (PyProof.Rows.callWith_type1 (thn (ha pos pins s σ H _ I h) fun us s1 ⟨vs, H1, I1, r1, q1⟩ => ?_) (by rw [hs, hs2]) (by rw [hs2]; rfl)))
  obtain ⟨i, j, e, ⟨q1, q2, q3, q4⟩, q⟩ := q1
  subst e
  cases r1 with
  | cons r rr =>
    cases rr with
    | cons r' rr =>
      cases rr
      obtain ⟨t, rfl⟩ := r
      obtain ⟨t', rfl⟩ := r'
      exact call_range_2 (range_it I1 q1 q2 q3 q4 q)

/-! ### for -/
/-- W: the invariant by the turn and a measure; N: what the body is to reach -/
def tFor (wi : TI) (g : TG) (tb : TS) : TS := fun D σ H => wi σ H fun J H1 => ∃ W : Nat → Nat → St → Hp → Prop, (∃ m, W 0 m σ H1) ∧ ∀ i m σ H, W i m σ H →
  (J.stop i H ∧ D.nx σ H) ∨ (J.go i H ∧ ∃ N : St → Hp → Prop, (∀ σ' H', N σ' H' → ∃ m', m' < m ∧ W (i + 1) m' σ' H') ∧ ∀ x H', J.yld i H x H' → g x σ H' fun σ2 H2 => tb { D with nx := N, ct := N, bk := D.nx } σ2 H2)
/-- the records at fp as they stand -/
def pinsAt (fp : List Addr) (h : Heap) : List (Addr × Obj) := fp.filterMap fun b => (h.get? b).map fun o => (b, o)
theorem mem_pinsAt {fp : List Addr} {h : Heap} {b : Addr} {o : Obj} (hb : b ∈ fp) (e : h.get? b = some o) : (b, o) ∈ pinsAt fp h := List.mem_filterMap.mpr ⟨b, hb, by rw [e]; rfl⟩
theorem of_pinsAt {fp : List Addr} {h : Heap} {p : Addr × Obj} (hp : p ∈ pinsAt fp h) : p.1 ∈ fp ∧ h.get? p.1 = some p.2 := by
  obtain ⟨b, hb, e⟩ := List.mem_filterMap.mp hp
  cases q : h.get? b with
  | none => rw [q] at e; cases e
  | some o =>
    rw [q] at e
    have e' : (b, o) = p := Option.some.inj e
    subst e'
    exact ⟨hb, q⟩
theorem Inv.pinned {pins : List (Addr × Obj)} {σ : St} {H : Hp} {s : Shared} {fp : List Addr} (I : Inv X pins σ H s) (hf : ∀ b ∈ fp, FpOk X pins H b) (ho : ∀ b ∈ fp, ∃ o, s.heap.get? b = some o ∧ ∀ v, o.data ≠ .cell v) : Inv X (pins ++ pinsAt fp s.heap) σ H s :=
  I.pins_of fun p hp => (List.mem_append.mp hp).elim (fun z => I.pin p (List.mem_append_right _ z)) fun z => by
    obtain ⟨hb, e⟩ := of_pinsAt z
    obtain ⟨f0, f1, f2, _⟩ := hf p.1 hb
    obtain ⟨o, e', d⟩ := ho p.1 hb
    rw [e] at e'; cases e'
    exact ⟨e, f0, f1, f2, d⟩
theorem Inv.unpinned {pins pl : List (Addr × Obj)} {σ : St} {H : Hp} {s : Shared} (I : Inv X (pins ++ pl) σ H s) : Inv X pins σ H s := I.pins_of fun p hp => I.pin p (List.mem_append_right _ (List.mem_append_left _ hp))
theorem ps_for {iter : Expr} {body : List Stmt} {wi : TI} {g : TG} {tb : TS} {pos : Pos} (hp : PassesOwn (model X.prog X.w) X.A X.env X.xe) (hc : X.calm = true) (hi : PI X tg iter wi) (hg : PG X tg g) (hb : PSs X body tb)
    (hs : ∀ x, foldedSetIterable iter X.env x = pure x := by intro _; rfl) : PS X (.For tg iter body [] pos) (tFor wi g tb) := by
  intro pins s σ H D I h
  refine wpAny_For (thn (hi pins s σ H _ I h) fun v s1 h1 => thn h1 fun itv s2 h2 => ?_) hs
  obtain ⟨it, fp, tn, J, H2, e, I2, T, st2, f2, W, ⟨m0, w0⟩, turn⟩ := h2
  subst e
  -- what stays true of the iterator's objects through the loop
  have stat : ∀ {H' : Hp}, (∀ b ∈ fp, H' b = none) → ∀ b ∈ fp, FpOk X pins H' b := fun hn b hb => ⟨hn b hb, (f2 b hb).2⟩
  refine codeAny_forLoop_any (fun n s' => ∃ i σ' H', Inv X pins σ' H' s' ∧ tn i s'.heap ∧ (∀ b ∈ fp, H' b = none) ∧ W i n σ' H') ?_ m0 ⟨0, σ, H2, I2, st2, fun b hb => (f2 b hb).1, w0⟩
  rintro n s3 ⟨i, σ3, H3, I3, st3, fr3, w3⟩
  rcases turn i n σ3 H3 w3 with ⟨stop, qn⟩ | ⟨go, N, hN, step⟩
  · refine wpAny_passesOwn hp (thn (T.done X rfl rfl rfl hc i pins s3 σ3 H3 X.xe I3 (stat fr3) st3 stop) fun r s4 ⟨hr, I4⟩ => ?_)
    subst hr
    exact wpAny_execs_nil ⟨σ3, H3, I4, qn⟩
  · refine wpAny_passesOwn hp (thn (T.item X rfl rfl rfl hc i pins s3 σ3 H3 X.xe I3 (stat fr3) st3 go) fun r s4 ⟨u, hr, h4⟩ => ?_)
    subst hr
    refine wpAny_passesOwn hp (thn h4 fun _ s5 ⟨x, H5, I5, r5, y5, st5, fr5⟩ => ?_)
    have I5' := I5.pinned (stat fr5) (T.obj _ _ st5)
    refine wpAny_passesOwn hp (thn (hg _ s5 σ3 H5 x u _ I5' r5 (step x H5 y5)) fun _ s6 ⟨σ6, H6, I6, q6⟩ => ?_)
    refine wpAny_passesOwn hp (thn (hb _ s6 σ6 H6 _ I6 q6) fun f s7 q7 => ?_)
    have again : ∀ {σ7 : St} {H7 : Hp}, Inv X (pins ++ pinsAt fp s5.heap) σ7 H7 s7 → N σ7 H7 → ∃ m, m < n ∧ ∃ i σ' H', Inv X pins σ' H' s7 ∧ tn i s7.heap ∧ (∀ b ∈ fp, H' b = none) ∧ W i m σ' H' := fun {σ7 H7} I7 n7 => by
      obtain ⟨m', hm, w7⟩ := hN σ7 H7 n7
      refine ⟨m', hm, i + 1, σ7, H7, I7.unpinned, T.keep _ _ _ st5 fun b hb o e => (I7.pin (b, o) (List.mem_append_right _ (List.mem_append_right _ (mem_pinsAt hb e)))).1, fun b hb => ?_, w7⟩
      obtain ⟨o, e, d⟩ := T.obj _ _ st5 b hb
      exact (I7.pin (b, o) (List.mem_append_right _ (List.mem_append_right _ (mem_pinsAt hb e)))).2.1
    cases f with
    | next => obtain ⟨σ7, H7, I7, n7⟩ := q7; exact again I7 n7
    | cont => obtain ⟨σ7, H7, I7, n7⟩ := q7; exact again I7 n7
    | brk => obtain ⟨σ7, H7, I7, q7⟩ := q7; exact ⟨σ7, H7, I7.unpinned, q7⟩
    | ret v => obtain ⟨x7, σ7, H7, I7, r7, q7⟩ := q7; exact ⟨x7, σ7, H7, I7.unpinned, r7, q7⟩
end

/-! ### the forms one uses -/
/-- over a list that the body leaves as it is -/
theorem for_list {K : PySem.W.Frag} {a : Addr} {xs : List V} {g : TG} {tb : TS} {D : Ends} {σ : St} {H : Hp} (Pv : Nat → St → Hp → Prop) (h0 : Pv 0 σ H) (hl : ∀ i σ H, i ≤ xs.length → Pv i σ H → SqL K H a xs)
    (hs : ∀ i x σ H, xs[i]? = some x → Pv i σ H → g x σ H fun σ2 H2 => tb { D with nx := Pv (i + 1), ct := Pv (i + 1), bk := D.nx } σ2 H2) (hd : ∀ σ H, Pv xs.length σ H → D.nx σ H) :
    ∃ W : Nat → Nat → St → Hp → Prop, (∃ m, W 0 m σ H) ∧ ∀ i m σ H, W i m σ H →
      ((Itl K a).stop i H ∧ D.nx σ H) ∨ ((Itl K a).go i H ∧ ∃ N : St → Hp → Prop, (∀ σ' H', N σ' H' → ∃ m', m' < m ∧ W (i + 1) m' σ' H') ∧ ∀ x H', (Itl K a).yld i H x H' → g x σ H' fun σ2 H2 => tb { D with nx := N, ct := N, bk := D.nx } σ2 H2) := by
  refine ⟨fun i m σ H => m = xs.length - i ∧ i ≤ xs.length ∧ Pv i σ H, ⟨xs.length, by simp, Nat.zero_le _, h0⟩, ?_⟩
  rintro i m σ H ⟨rfl, hi, p⟩
  have q := hl i σ H hi p
  by_cases hlt : i < xs.length
  · refine .inr ⟨⟨xs, xs[i], q, by simp [hlt]⟩, Pv (i + 1), fun σ' H' p' => ⟨xs.length - (i + 1), by omega, rfl, hlt, p'⟩, fun x H' y => ?_⟩
    obtain ⟨e, y⟩ := y
    subst e
    exact hs i x σ _ (y xs q) p
  · have e : i = xs.length := by omega
    subst e
    exact .inl ⟨⟨xs, q, Nat.le_refl _⟩, hd σ H p⟩
theorem for_tup {K : PySem.W.Frag} {a : Addr} {xs : List V} {g : TG} {tb : TS} {D : Ends} {σ : St} {H : Hp} (Pv : Nat → St → Hp → Prop) (h0 : Pv 0 σ H) (hl : ∀ i σ H, i ≤ xs.length → Pv i σ H → SqT K H a xs)
    (hs : ∀ i x σ H, xs[i]? = some x → Pv i σ H → g x σ H fun σ2 H2 => tb { D with nx := Pv (i + 1), ct := Pv (i + 1), bk := D.nx } σ2 H2) (hd : ∀ σ H, Pv xs.length σ H → D.nx σ H) :
    ∃ W : Nat → Nat → St → Hp → Prop, (∃ m, W 0 m σ H) ∧ ∀ i m σ H, W i m σ H →
      ((Itt K a).stop i H ∧ D.nx σ H) ∨ ((Itt K a).go i H ∧ ∃ N : St → Hp → Prop, (∀ σ' H', N σ' H' → ∃ m', m' < m ∧ W (i + 1) m' σ' H') ∧ ∀ x H', (Itt K a).yld i H x H' → g x σ H' fun σ2 H2 => tb { D with nx := N, ct := N, bk := D.nx } σ2 H2) := by
  refine ⟨fun i m σ H => m = xs.length - i ∧ i ≤ xs.length ∧ Pv i σ H, ⟨xs.length, by simp, Nat.zero_le _, h0⟩, ?_⟩
  rintro i m σ H ⟨rfl, hi, p⟩
  have q := hl i σ H hi p
  by_cases hlt : i < xs.length
  · refine .inr ⟨⟨xs, xs[i], q, by simp [hlt]⟩, Pv (i + 1), fun σ' H' p' => ⟨xs.length - (i + 1), by omega, rfl, hlt, p'⟩, fun x H' y => ?_⟩
    obtain ⟨e, y⟩ := y
    subst e
    exact hs i x σ _ (y xs q) p
  · have e : i = xs.length := by omega
    subst e
    exact .inl ⟨⟨xs, q, Nat.le_refl _⟩, hd σ H p⟩
theorem for_range {lo : Int} {n : Nat} {g : TG} {tb : TS} {D : Ends} {σ : St} {H : Hp} (Pv : Nat → St → Hp → Prop) (h0 : Pv 0 σ H)
    (hs : ∀ i σ H, i < n → Pv i σ H → g (.int (lo + i)) σ H fun σ2 H2 => tb { D with nx := Pv (i + 1), ct := Pv (i + 1), bk := D.nx } σ2 H2) (hd : ∀ σ H, Pv n σ H → D.nx σ H) :
    ∃ W : Nat → Nat → St → Hp → Prop, (∃ m, W 0 m σ H) ∧ ∀ i m σ H, W i m σ H →
      ((Itr lo n).stop i H ∧ D.nx σ H) ∨ ((Itr lo n).go i H ∧ ∃ N : St → Hp → Prop, (∀ σ' H', N σ' H' → ∃ m', m' < m ∧ W (i + 1) m' σ' H') ∧ ∀ x H', (Itr lo n).yld i H x H' → g x σ H' fun σ2 H2 => tb { D with nx := N, ct := N, bk := D.nx } σ2 H2) := by
  refine ⟨fun i m σ H => m = n - i ∧ i ≤ n ∧ Pv i σ H, ⟨n, by simp, Nat.zero_le _, h0⟩, ?_⟩
  rintro i m σ H ⟨rfl, hi, p⟩
  by_cases hlt : i < n
  · refine .inr ⟨hlt, Pv (i + 1), fun σ' H' p' => ⟨n - (i + 1), by omega, rfl, hlt, p'⟩, fun x H' y => ?_⟩
    obtain ⟨e, y⟩ := y
    subst e y
    exact hs i σ _ hlt p
  · have e : i = n := by omega
    subst e
    exact .inl ⟨Nat.le_refl _, hd σ H p⟩
/-- while, by a word and a measure of the state -/
theorem while_by {c : TT} {tb : TS} {D : Ends} {σ : St} {H : Hp} (Pv : St → Hp → Prop) (μ : St → Hp → Nat) (h0 : Pv σ H)
    (hs : ∀ σ H, Pv σ H → c σ H fun b H1 => if b = true then tb { D with nx := fun σ' H' => Pv σ' H' ∧ μ σ' H' < μ σ H, ct := fun σ' H' => Pv σ' H' ∧ μ σ' H' < μ σ H, bk := D.nx } σ H1 else D.nx σ H1)
    (mono : ∀ σ H Q Q', (∀ b H1, Q b H1 → Q' b H1) → c σ H Q → c σ H Q') : tWhile c tb D σ H := by
  refine ⟨fun m σ H => m = μ σ H ∧ Pv σ H, ⟨_, rfl, h0⟩, ?_⟩
  rintro m σ H ⟨rfl, p⟩
  refine mono σ H _ _ (fun b H1 q => ?_) (hs σ H p)
  cases b with
  | true => exact ⟨_, fun σ' H' ⟨p', l⟩ => ⟨_, l, rfl, p'⟩, q⟩
  | false => exact q
end L2

namespace L2
open PySem PySem.Spec PyProof.Rows

abbrev R2 := V → V → Hp → VK → Prop
/-- a two-place operation on values: f is binaryOp op, inplaceOp op or compareOp op -/
def OpR (X : Cx) (f : Value → Value → Sem Value) (r : R2) : Prop :=
  ∀ (pins : List (Addr × Obj)) (s : Shared) (σ : St) (H : Hp) (x y : V) (v u : Value) (Q : VK), Inv X pins σ H s → RelV x v → RelV y u → r x y H Q →
    wpAny (model X.prog X.w) X.A (f v u) (EP X pins σ Q) X.xe s
/-- a one-place operation -/
def UnR (X : Cx) (f : Value → Sem Value) (r : V → Hp → VK → Prop) : Prop :=
  ∀ (pins : List (Addr × Obj)) (s : Shared) (σ : St) (H : Hp) (x : V) (v : Value) (Q : VK), Inv X pins σ H s → RelV x v → r x H Q →
    wpAny (model X.prog X.w) X.A (f v) (EP X pins σ Q) X.xe s
/-- a call of a value that is known (a builtin, a type) with values -/
def CallR (X : Cx) (f : Value) (r : List V → Hp → VK → Prop) : Prop :=
  ∀ (pins : List (Addr × Obj)) (s : Shared) (σ : St) (H : Hp) (xs : List V) (us : List Value) (Q : VK), Inv X pins σ H s → Vals xs us → r xs H Q →
    wpAny (model X.prog X.w) X.A (call f us) (EP X pins σ Q) X.xe s
/-- a value's truth -/
def TruR (X : Cx) (r : V → Hp → (Bool → Hp → Prop) → Prop) : Prop :=
  ∀ (pins : List (Addr × Obj)) (s : Shared) (σ : St) (H : Hp) (x : V) (v : Value) (Q : Bool → Hp → Prop), Inv X pins σ H s → RelV x v → r x H Q →
    wpAny (model X.prog X.w) X.A (truthy v) (TP X pins σ Q) X.xe s

def tOp (r : R2) (ta tb : TE) : TE := fun σ H Q => ta σ H fun x H1 => tb σ H1 fun y H2 => r x y H2 Q
def tUn (r : V → Hp → VK → Prop) (ta : TE) : TE := fun σ H Q => ta σ H fun x H1 => r x H1 Q
/-- ints in, under C, and a value out -/
def rI (C : Int → Int → Prop) (g : Int → Int → V) : R2 := fun x y H Q => ∃ i j, x = .int i ∧ y = .int j ∧ C i j ∧ Q (g i j) H
def rI0 (g : Int → Int → V) : R2 := fun x y H Q => ∃ i j, x = .int i ∧ y = .int j ∧ Q (g i j) H
def rU (g : Int → V) : V → Hp → VK → Prop := fun x H Q => ∃ i, x = .int i ∧ Q (g i) H

section
variable {X : Cx} {a b c : Expr} {ta tb tc : TE} {pos : Pos}

theorem binT (ha : PE X a ta) (hb : PE X b tb) {pins : List (Addr × Obj)} {s : Shared} {σ : St} {H : Hp} {R : V → V → Hp → Prop} (I : Inv X pins σ H s)
    (h : ta σ H fun x H1 => tb σ H1 fun y H2 => R x y H2) {Q : Value → Shared → Prop} {f : Value → Value → Sem Value}
    (hf : ∀ v u s2 x y H2, Inv X pins σ H2 s2 → RelV x v → RelV y u → R x y H2 → wpAny (model X.prog X.w) X.A (f v u) Q X.xe s2) :
    wpAny (model X.prog X.w) X.A (eval a X.env) (fun v s₁ => wpAny (model X.prog X.w) X.A (eval b X.env) (fun u s₂ => wpAny (model X.prog X.w) X.A (f v u) Q X.xe s₂) X.xe s₁) X.xe s := by
  refine thn (ha pins s σ H _ I h) fun v s1 ⟨x, H1, I1, r1, q1⟩ => ?_
  refine thn (hb pins s1 σ H1 _ I1 q1) fun u s2 ⟨y, H2, I2, r2, q2⟩ => ?_
  exact hf v u s2 x y H2 I2 r1 r2 q2

theorem pe_op {op : Operator} {r : R2} (ho : OpR X (binaryOp op) r) (ha : PE X a ta) (hb : PE X b tb) : PE X (.BinOp a op b pos) (tOp r ta tb) := by
  intro pins s σ H Q I h
  exact wpAny_BinOp (binT ha hb I h fun v u s2 x y H2 I2 rx ry q => ho pins s2 σ H2 x y v u Q I2 rx ry q)
theorem pe_un {op : UnaryOp} {r : V → Hp → VK → Prop} (ho : UnR X (unaryOp op) r) (ha : PE X a ta) : PE X (.UnaryOp op a pos) (tUn r ta) := by
  intro pins s σ H Q I h
  exact UnaryOp_ (thn (ha pins s σ H _ I h) fun v s1 ⟨x, H1, I1, r1, q1⟩ => ho pins s1 σ H1 x v Q I1 r1 q1)
/-- a op= e at a name: the name's slot i -/
theorem augR {op : Operator} {r : R2} (ho : OpR X (inplaceOp op) r) {pins : List (Addr × Obj)} {s : Shared} {σ : St} {H : Hp} {x y : V} {v u : Value} {Q : VK} (I : Inv X pins σ H s)
    (rx : RelV x v) (ry : RelV y u) (q : r x y H Q) : wpAny (model X.prog X.w) X.A (inplaceOp op v u) (EP X pins σ Q) X.xe s := ho pins s σ H x y v u Q I rx ry q

/-! ### ints -/
theorem opI {f : Value → Value → Sem Value} {C : Int → Int → Prop} {g : Int → Int → Int}
    (rule : ∀ (i j : Int) (t u : Tok) (s : Shared) (Q : Value → Shared → Prop) (E : Value → Shared → Prop), C i j → Q (.int (g i j) s.toks) { s with toks := s.toks + 1 } → wpAny (model X.prog X.w) X.A (f (.int i t) (.int j u)) Q E s) :
    OpR X f (rI C fun i j => .int (g i j)) := by
  intro pins s σ H x y v u Q I rx ry h
  obtain ⟨i, j, rfl, rfl, hc, q⟩ := h
  obtain ⟨t, rfl⟩ := rx
  obtain ⟨t', rfl⟩ := ry
  exact rule i j t t' s _ _ hc ⟨.int (g i j), H, I.tok _, ⟨_, rfl⟩, q⟩
theorem opI0 {f : Value → Value → Sem Value} {g : Int → Int → Int}
    (rule : ∀ (i j : Int) (t u : Tok) (s : Shared) (Q : Value → Shared → Prop) (E : Value → Shared → Prop), Q (.int (g i j) s.toks) { s with toks := s.toks + 1 } → wpAny (model X.prog X.w) X.A (f (.int i t) (.int j u)) Q E s) :
    OpR X f (rI0 fun i j => .int (g i j)) := by
  intro pins s σ H x y v u Q I rx ry h
  obtain ⟨i, j, rfl, rfl, q⟩ := h
  obtain ⟨t, rfl⟩ := rx
  obtain ⟨t', rfl⟩ := ry
  exact rule i j t t' s _ _ ⟨.int (g i j), H, I.tok _, ⟨_, rfl⟩, q⟩
theorem opB0 {f : Value → Value → Sem Value} {g : Int → Int → Bool}
    (rule : ∀ (i j : Int) (t u : Tok) (s : Shared) (Q : Value → Shared → Prop) (E : Value → Shared → Prop), Q (.bool (g i j)) s → wpAny (model X.prog X.w) X.A (f (.int i t) (.int j u)) Q E s) :
    OpR X f (rI0 fun i j => .bl (g i j)) := by
  intro pins s σ H x y v u Q I rx ry h
  obtain ⟨i, j, rfl, rfl, q⟩ := h
  obtain ⟨t, rfl⟩ := rx
  obtain ⟨t', rfl⟩ := ry
  exact rule i j t t' s _ _ ⟨.bl (g i j), H, I, rfl, q⟩

def CDiv (i j : Int) : Prop := 0 < j ∧ j < 1073741824
def CDivN (i j : Int) : Prop := j ≠ 0 ∧ j.natAbs < 1073741824
def CPow (i j : Int) : Prop := 0 ≤ j ∧ j ≤ 1000000 ∧ i.natAbs < 2 ^ 64
def CMul (i j : Int) : Prop := (-(2 ^ 64) < i ∧ i < 2 ^ 64) ∨ (-(2 ^ 64) < j ∧ j < 2 ^ 64)
theorem CMul.ok {i j : Int} (h : CMul i j) : IntMulOk i j := by
  rcases h with ⟨h1, h2⟩ | ⟨h1, h2⟩
  · exact .of_left (intBits_le_64 h1 h2)
  · exact .of_right (intBits_le_64 h1 h2)
theorem two_pow_nn (k : Nat) : (0 : Int) ≤ 2 ^ k := by
  rw [two_pow_cast]
  exact Int.natCast_nonneg _

theorem op_add : OpR X (binaryOp .Add) (rI0 fun i j => .int (i + j)) := opI0 fun _ _ _ _ _ _ _ q => add_int q
theorem op_sub : OpR X (binaryOp .Sub) (rI0 fun i j => .int (i - j)) := opI0 fun _ _ _ _ _ _ _ q => sub_int q
theorem op_mul : OpR X (binaryOp .Mult) (rI CMul fun i j => .int (i * j)) := opI fun _ _ _ _ _ _ _ hc q => mul_int q hc.ok
/-- // by a positive divisor -/
theorem op_fdiv : OpR X (binaryOp .FloorDiv) (rI CDiv fun i j => .int (i / j)) := opI fun i j _ _ _ _ _ hc q => by
  have h1 : (0 : Int) < j := hc.1
  have h2 : j < 1073741824 := hc.2
  exact floordiv_int (by omega) (by rw [Int.fdiv_eq_ediv_of_nonneg i (by omega)]; exact q) (.inl (PyProof.noPylong_small (by omega)))
theorem op_fdivN : OpR X (binaryOp .FloorDiv) (rI CDivN fun i j => .int (i.fdiv j)) := opI fun _ _ _ _ _ _ _ hc q => floordiv_int hc.1 q (.inl (PyProof.noPylong_small hc.2))
/-- % by a positive divisor of any size -/
theorem op_mod : OpR X (binaryOp .Mod) (rI (fun _ j => 0 < j) fun i j => .int (i % j)) := opI fun i j _ _ _ _ _ hc q => by
  have h1 : (0 : Int) < j := hc
  exact mod_int' (by omega) (by rw [Int.fmod_eq_emod_of_nonneg i (by omega)]; exact q)
theorem op_modN : OpR X (binaryOp .Mod) (rI (fun _ j => j ≠ 0) fun i j => .int (i.fmod j)) := opI fun _ _ _ _ _ _ _ hc q => mod_int' hc q
theorem op_pow : OpR X (binaryOp .Pow) (rI CPow fun i j => .int (i ^ j.toNat)) := opI fun _ _ _ _ _ _ _ hc q => pow_int_small hc.1 hc.2.1 hc.2.2 q
theorem op_shl : OpR X (binaryOp .LShift) (rI CPow fun i j => .int (i * 2 ^ j.toNat)) := opI fun _ _ _ _ _ _ _ hc q => lshift_int_small hc.1 hc.2.1 hc.2.2 q
theorem op_shr : OpR X (binaryOp .RShift) (rI (fun _ j => 0 ≤ j) fun i j => .int (i / 2 ^ j.toNat)) := opI fun i j _ _ _ _ _ hc q =>
  rshift_int hc (by rw [Int.fdiv_eq_ediv_of_nonneg i (two_pow_nn _)]; exact q)
theorem op_and : OpR X (binaryOp .BitAnd) (rI0 fun i j => .int (Builtin.bitAnd i j)) := opI0 fun _ _ _ _ _ _ _ q => and_int q
theorem op_or : OpR X (binaryOp .BitOr) (rI0 fun i j => .int (Builtin.bitOr i j)) := opI0 fun _ _ _ _ _ _ _ q => or_int q
theorem op_xor : OpR X (binaryOp .BitXor) (rI0 fun i j => .int (Builtin.bitXor i j)) := opI0 fun _ _ _ _ _ _ _ q => xor_int q

theorem iop_add : OpR X (inplaceOp .Add) (rI0 fun i j => .int (i + j)) := opI0 fun _ _ _ _ _ _ _ q => iadd_int q
theorem iop_sub : OpR X (inplaceOp .Sub) (rI0 fun i j => .int (i - j)) := opI0 fun _ _ _ _ _ _ _ q => isub_int q
theorem iop_mul : OpR X (inplaceOp .Mult) (rI CMul fun i j => .int (i * j)) := opI fun _ _ _ _ _ _ _ hc q => imul_int q hc.ok
theorem iop_fdiv : OpR X (inplaceOp .FloorDiv) (rI CDiv fun i j => .int (i / j)) := opI fun i j _ _ _ _ _ hc q => by
  have h1 : (0 : Int) < j := hc.1
  have h2 : j < 1073741824 := hc.2
  exact ifloordiv_int (by omega) (by rw [Int.fdiv_eq_ediv_of_nonneg i (by omega)]; exact q) (.inl (PyProof.noPylong_small (by omega)))
theorem iop_mod : OpR X (inplaceOp .Mod) (rI (fun _ j => 0 < j) fun i j => .int (i % j)) := opI fun i j _ _ _ _ _ hc q => by
  have h1 : (0 : Int) < j := hc
  exact imod_int (by omega) (by rw [Int.fmod_eq_emod_of_nonneg i (by omega)]; exact q)
theorem iop_shl : OpR X (inplaceOp .LShift) (rI CPow fun i j => .int (i * 2 ^ j.toNat)) := opI fun _ _ _ _ _ _ _ hc q => ilshift_int_small hc.1 hc.2.1 hc.2.2 q
theorem iop_shr : OpR X (inplaceOp .RShift) (rI (fun _ j => 0 ≤ j) fun i j => .int (i / 2 ^ j.toNat)) := opI fun i j _ _ _ _ _ hc q =>
  irshift_int hc (by rw [Int.fdiv_eq_ediv_of_nonneg i (two_pow_nn _)]; exact q)
theorem iop_and : OpR X (inplaceOp .BitAnd) (rI0 fun i j => .int (Builtin.bitAnd i j)) := opI0 fun _ _ _ _ _ _ _ q => iand_int q
theorem iop_or : OpR X (inplaceOp .BitOr) (rI0 fun i j => .int (Builtin.bitOr i j)) := opI0 fun _ _ _ _ _ _ _ q => ior_int q
theorem iop_xor : OpR X (inplaceOp .BitXor) (rI0 fun i j => .int (Builtin.bitXor i j)) := opI0 fun _ _ _ _ _ _ _ q => ixor_int q

theorem unI {f : Value → Sem Value} {g : Int → Int}
    (rule : ∀ (i : Int) (t : Tok) (s : Shared) (Q : Value → Shared → Prop) (E : Value → Shared → Prop), Q (.int (g i) s.toks) { s with toks := s.toks + 1 } → wpAny (model X.prog X.w) X.A (f (.int i t)) Q E s) :
    UnR X f (rU fun i => .int (g i)) := by
  intro pins s σ H x v Q I rx h
  obtain ⟨i, rfl, q⟩ := h
  obtain ⟨t, rfl⟩ := rx
  exact rule i t s _ _ ⟨.int (g i), H, I.tok _, ⟨_, rfl⟩, q⟩
theorem un_neg : UnR X (unaryOp .USub) (rU fun i => .int (-i)) := unI fun _ _ _ _ _ q => neg_int q
theorem un_inv : UnR X (unaryOp .Invert) (rU fun i => .int (Builtin.bitNot i)) := unI fun _ _ _ _ _ q => invert_int q

/-! ### bools among ints: n += (a < b) -/
theorem op_add_ib : OpR X (binaryOp .Add) (fun x y H Q => ∃ i k, x = .int i ∧ y = .bl k ∧ Q (.int (i + b2i k)) H) := by
  intro pins s σ H x y v u Q I rx ry h
  obtain ⟨i, k, rfl, rfl, q⟩ := h
  obtain ⟨t, rfl⟩ := rx
  cases ry
  exact add_int_bool ⟨.int (i + b2i k), H, I.tok _, ⟨_, rfl⟩, q⟩
end

/-! ### comparisons -/
/-- the scalars that == tells apart as data does -/
def scal : V → V → Bool
  | .non, .non => true | .non, .int _ => true | .int _, .non => true | .non, .bl _ => true | .bl _, .non => true | .non, .str _ => true | .str _, .non => true
  | .int _, .int _ => true | .bl _, .bl _ => true | .str _, .str _ => true | .byt _, .byt _ => true
  | .int _, .str _ => true | .str _, .int _ => true | .bl _, .str _ => true | .str _, .bl _ => true
  | _, _ => false
def rEq : R2 := fun x y H Q => scal x y = true ∧ Q (.bl (decide (x = y))) H
def rNe : R2 := fun x y H Q => scal x y = true ∧ Q (.bl (!decide (x = y))) H

theorem dec_int {i j : Int} : decide (V.int i = V.int j) = (i == j) := by
  rw [Bool.eq_iff_iff]
  simp
theorem dec_bl {i j : Bool} : decide (V.bl i = V.bl j) = (i == j) := by
  rw [Bool.eq_iff_iff]
  simp
theorem dec_str {i j : Str} : decide (V.str i = V.str j) = (i == j) := by
  rw [Bool.eq_iff_iff]
  simp
theorem dec_byt {i j : Array UInt8} : decide (V.byt i = V.byt j) = (i.toList == j.toList) := by
  rw [Bool.eq_iff_iff]
  cases i
  cases j
  simp

section
variable {X : Cx} {a b c : Expr} {ta tb tc : TE} {pos : Pos}
theorem fin_bl {pins : List (Addr × Obj)} {σ : St} {H : Hp} {s : Shared} {Q : VK} {k k' : Bool} (I : Inv X pins σ H s) (q : Q (.bl k) H) (e : k = k') : EP X pins σ Q (.bool k') s := by
  subst e
  exact ⟨.bl k, H, I, rfl, q⟩
theorem op_eq : OpR X (compareOp .Eq) rEq := by
  intro pins s σ H x y v u Q I rx ry h
  obtain ⟨hs, q⟩ := h
  cases x with
  | non =>
    cases rx
    cases y with
    | non => cases ry; exact PySem.EqNone.eq_none_none (fin_bl I q (by simp))
    | bl j => cases ry; exact PySem.EqNone.eq_none_bool (fin_bl I q (by simp))
    | int j => obtain ⟨t', rfl⟩ := ry; exact PySem.EqNone.eq_none_int (fin_bl I q (by simp))
    | str j => obtain ⟨t', rfl⟩ := ry; exact PySem.EqNone.eq_none_str (fin_bl I q (by simp))
    | _ => exact absurd (show false = true from hs) Bool.false_ne_true
  | bl i =>
    cases rx
    cases y with
    | non => cases ry; exact PySem.EqNone.eq_bool_none (fin_bl I q (by simp))
    | bl j => cases ry; exact eq_bool (fin_bl I q dec_bl)
    | str j => obtain ⟨t', rfl⟩ := ry; exact PySem.EqMixed.eq_bool_str (fin_bl I q (by simp))
    | _ => exact absurd (show false = true from hs) Bool.false_ne_true
  | int i =>
    obtain ⟨t, rfl⟩ := rx
    cases y with
    | non => cases ry; exact PySem.EqNone.eq_int_none (fin_bl I q (by simp))
    | int j => obtain ⟨t', rfl⟩ := ry; exact eq_int (fin_bl I q dec_int)
    | str j => obtain ⟨t', rfl⟩ := ry; exact PySem.EqMixed.eq_int_str (fin_bl I q (by simp))
    | _ => exact absurd (show false = true from hs) Bool.false_ne_true
  | str i =>
    obtain ⟨t, rfl⟩ := rx
    cases y with
    | non => cases ry; exact PySem.EqNone.eq_str_none (fin_bl I q (by simp))
    | bl j => cases ry; exact PySem.EqMixed.eq_str_bool (fin_bl I q (by simp))
    | int j => obtain ⟨t', rfl⟩ := ry; exact PySem.EqMixed.eq_str_int (fin_bl I q (by simp))
    | str j => obtain ⟨t', rfl⟩ := ry; exact eq_str (fin_bl I q dec_str)
    | _ => exact absurd (show false = true from hs) Bool.false_ne_true
  | byt i =>
    obtain ⟨t, rfl⟩ := rx
    cases y with
    | byt j => obtain ⟨t', rfl⟩ := ry; exact PySem.W.eq_bytes (fin_bl I q dec_byt)
    | _ => exact absurd (show false = true from hs) Bool.false_ne_true
  | _ => cases y <;> exact absurd (show false = true from hs) Bool.false_ne_true
theorem op_ne : OpR X (compareOp .NotEq) rNe := by
  intro pins s σ H x y v u Q I rx ry h
  obtain ⟨hs, q⟩ := h
  cases x with
  | non =>
    cases rx
    cases y with
    | non => cases ry; exact PySem.EqNone.ne_none_none (fin_bl I q (by simp))
    | bl j => cases ry; exact PySem.EqNone.ne_none_bool (fin_bl I q (by simp))
    | int j => obtain ⟨t', rfl⟩ := ry; exact PySem.EqNone.ne_none_int (fin_bl I q (by simp))
    | str j => obtain ⟨t', rfl⟩ := ry; exact PySem.EqNone.ne_none_str (fin_bl I q (by simp))
    | _ => exact absurd (show false = true from hs) Bool.false_ne_true
  | bl i =>
    cases rx
    cases y with
    | non => cases ry; exact PySem.EqNone.ne_bool_none (fin_bl I q (by simp))
    | bl j => cases ry; exact ne_bool (fin_bl I q (congrArg not dec_bl))
    | str j => obtain ⟨t', rfl⟩ := ry; exact PySem.EqMixed.ne_bool_str (fin_bl I q (by simp))
    | _ => exact absurd (show false = true from hs) Bool.false_ne_true
  | int i =>
    obtain ⟨t, rfl⟩ := rx
    cases y with
    | non => cases ry; exact PySem.EqNone.ne_int_none (fin_bl I q (by simp))
    | int j => obtain ⟨t', rfl⟩ := ry; exact ne_int (fin_bl I q (congrArg not dec_int))
    | str j => obtain ⟨t', rfl⟩ := ry; exact PySem.EqMixed.ne_int_str (fin_bl I q (by simp))
    | _ => exact absurd (show false = true from hs) Bool.false_ne_true
  | str i =>
    obtain ⟨t, rfl⟩ := rx
    cases y with
    | non => cases ry; exact PySem.EqNone.ne_str_none (fin_bl I q (by simp))
    | bl j => cases ry; exact PySem.EqMixed.ne_str_bool (fin_bl I q (by simp))
    | int j => obtain ⟨t', rfl⟩ := ry; exact PySem.EqMixed.ne_str_int (fin_bl I q (by simp))
    | str j => obtain ⟨t', rfl⟩ := ry; exact ne_str (fin_bl I q (congrArg not dec_str))
    | _ => exact absurd (show false = true from hs) Bool.false_ne_true
  | byt i =>
    obtain ⟨t, rfl⟩ := rx
    cases y with
    | byt j => obtain ⟨t', rfl⟩ := ry; exact PySem.W.ne_bytes (fin_bl I q (congrArg not dec_byt))
    | _ => exact absurd (show false = true from hs) Bool.false_ne_true
  | _ => cases y <;> exact absurd (show false = true from hs) Bool.false_ne_true

theorem op_lt : OpR X (compareOp .Lt) (rI0 fun i j => .bl (decide (i < j))) := opB0 fun _ _ _ _ _ _ _ q => lt_int q
theorem op_le : OpR X (compareOp .LtE) (rI0 fun i j => .bl (decide (i ≤ j))) := opB0 fun _ _ _ _ _ _ _ q => le_int q
theorem op_gt : OpR X (compareOp .Gt) (rI0 fun i j => .bl (decide (j < i))) := opB0 fun _ _ _ _ _ _ _ q => gt_int q
theorem op_ge : OpR X (compareOp .GtE) (rI0 fun i j => .bl (decide (j ≤ i))) := opB0 fun _ _ _ _ _ _ _ q => ge_int q
theorem op_lt_str : OpR X (compareOp .Lt) (fun x y H Q => ∃ i j, x = .str i ∧ y = .str j ∧ Q (.bl (decide (i.cps.toList < j.cps.toList))) H) := by
  intro pins s σ H x y v u Q I rx ry h
  obtain ⟨i, j, rfl, rfl, q⟩ := h
  obtain ⟨t, rfl⟩ := rx
  obtain ⟨t', rfl⟩ := ry
  exact lt_str (fin_bl I q rfl)
/-- the one string within the other -/
theorem op_in_str : OpR X (compareOp .In) (fun x y H Q => ∃ i j, x = .str i ∧ y = .str j ∧ Q (.bl (!(Builtin.Str.occurrences j i 0 j.length 1).isEmpty)) H) := by
  intro pins s σ H x y v u Q I rx ry h
  obtain ⟨i, j, rfl, rfl, q⟩ := h
  obtain ⟨t, rfl⟩ := rx
  obtain ⟨t', rfl⟩ := ry
  exact in_str (fin_bl I q rfl)

/-- is None, is not None: the right side a value none -/
theorem op_isN : OpR X (compareOp .Is) (fun x y H Q => y = .non ∧ Q (.bl (decide (x = .non))) H) := by
  intro pins s σ H x y v u Q I rx ry h
  obtain ⟨rfl, q⟩ := h
  cases ry
  refine is_none_gen (fin_bl I q ?_)
  cases x <;> first
    | (cases rx; rfl)
    | (obtain ⟨t, rfl⟩ := rx; rfl)
theorem op_notN : OpR X (compareOp .IsNot) (fun x y H Q => y = .non ∧ Q (.bl (!decide (x = .non))) H) := by
  intro pins s σ H x y v u Q I rx ry h
  obtain ⟨rfl, q⟩ := h
  cases ry
  refine isnot_none_gen (fin_bl I q ?_)
  cases x <;> first
    | (cases rx; rfl)
    | (obtain ⟨t, rfl⟩ := rx; rfl)

theorem op_notin_str : OpR X (compareOp .NotIn) (fun x y H Q => ∃ i j, x = .str i ∧ y = .str j ∧ Q (.bl (!(!(Builtin.Str.occurrences j i 0 j.length 1).isEmpty))) H) := by
  intro pins s σ H x y v u Q I rx ry h
  obtain ⟨i, j, rfl, rfl, q⟩ := h
  obtain ⟨t, rfl⟩ := rx
  obtain ⟨t', rfl⟩ := ry
  exact notIn_str (fin_bl I q rfl)
/-- is, is not of two objects that are tracked lists or instances -/
def isObj : HO → Bool
  | .lst _ => true
  | .ins _ _ _ => true
  | _ => false
theorem obj_there {pins : List (Addr × Obj)} {s : Shared} {σ : St} {H : Hp} {a : Addr} {o : HO} (I : Inv X pins σ H s) (h : H a = some o) (p : isObj o = true) : ∃ ob, s.heap.get? a = some ob ∧ ob.cls ≠ .type "tuple" := by
  cases o with
  | lst xs =>
    obtain ⟨_, its, n, _, e⟩ : xs.length ≤ sizeLine ∧ ∃ (its : List Value) (n : Nat), Vals xs its ∧ s.heap.get? a = some { cls := .type "list", data := .seq its.toArray n } := I.hok a _ h
    exact ⟨_, e, (by show Value.type "list" ≠ .type "tuple"; decide +kernel)⟩
  | ins C dx fs =>
    have x := I.hok a _ h
    obtain ⟨_, _, _, e, _⟩ := x
    exact ⟨_, e, (by show Value.ref C ≠ .type "tuple"; exact fun z => by cases z)⟩
  | _ => exact absurd (show false = true from p) Bool.false_ne_true
theorem op_is_ref : OpR X (compareOp .Is) (fun x y H Q => ∃ a b oa ob, x = .ref a ∧ y = .ref b ∧ H a = some oa ∧ isObj oa = true ∧ H b = some ob ∧ isObj ob = true ∧ Q (.bl (decide (a = b))) H) := by
  intro pins s σ H x y v u Q I rx ry h
  obtain ⟨a, b, oa, ob, rfl, rfl, ha, pa, hb, pb, q⟩ := h
  cases rx
  cases ry
  obtain ⟨o1, e1, n1⟩ := obj_there I ha pa
  obtain ⟨o2, e2, _⟩ := obj_there I hb pb
  by_cases z : a = b
  · subst z
    exact wpAny_is_ref_self (fin_bl I q (by simp))
  · exact wpAny_is_ref_other z e1 e2 n1 (fin_bl I q (by simp [z]))
theorem op_isnot_ref : OpR X (compareOp .IsNot) (fun x y H Q => ∃ a b oa ob, x = .ref a ∧ y = .ref b ∧ H a = some oa ∧ isObj oa = true ∧ H b = some ob ∧ isObj ob = true ∧ Q (.bl (!decide (a = b))) H) := by
  intro pins s σ H x y v u Q I rx ry h
  obtain ⟨a, b, oa, ob, rfl, rfl, ha, pa, hb, pb, q⟩ := h
  cases rx
  cases ry
  obtain ⟨o1, e1, n1⟩ := obj_there I ha pa
  obtain ⟨o2, e2, _⟩ := obj_there I hb pb
  by_cases z : a = b
  · subst z
    exact wpAny_isNot_ref_self (fin_bl I q (by simp))
  · exact wpAny_isNot_ref_other z e1 e2 n1 (fin_bl I q (by simp [z]))

/-- two rules for one operation: by cases -/
theorem OpR.or {f : Value → Value → Sem Value} {r r' : R2} (h : OpR X f r) (h' : OpR X f r') : OpR X f (fun x y H Q => r x y H Q ∨ r' x y H Q) := by
  intro pins s σ H x y v u Q I rx ry q
  rcases q with q | q
  · exact h pins s σ H x y v u Q I rx ry q
  · exact h' pins s σ H x y v u Q I rx ry q

theorem nomark (b : Expr) {op : CmpOp} (h : op ≠ .In := by decide) (h2 : op ≠ .NotIn := by decide) : behindInMarks op b = false := by
  have e1 : (op == CmpOp.In) = false := by cases op <;> first | rfl | exact absurd rfl h
  have e2 : (op == CmpOp.NotIn) = false := by cases op <;> first | rfl | exact absurd rfl h2
  cases b <;> simp [behindInMarks, e1, e2]
/-- a comparison as a value; hm: nomark b, or (for in, not in) by with_unfolding_all rfl -/
theorem pe_cmpR {op : CmpOp} {r : R2} (ho : OpR X (compareOp op) r) (ha : PE X a ta) (hb : PE X b tb) (hm : behindInMarks op b = false) : PE X (.Compare a [op] [b] pos) (tOp r ta tb) := by
  intro pins s σ H Q I h
  exact wpAny_Compare1 (binT ha hb I h fun v u s2 x y H2 I2 rx ry q => ho pins s2 σ H2 x y v u Q I2 rx ry q) hm
/-- a reading of a value as a test -/
def tTest (t : TE) : TT := fun σ H Q => t σ H fun x H' => ∃ k, x = .bl k ∧ Q k H'
theorem pt_cmpR {op : CmpOp} {r : R2} (ho : OpR X (compareOp op) r) (ha : PE X a ta) (hb : PE X b tb) (hm : behindInMarks op b = false) : PT X (.Compare a [op] [b] pos) (tTest (tOp r ta tb)) := by
  intro pins s σ H Q I h
  refine wpAny_isTrue_Compare1 (thn (ha pins s σ H _ I h) fun v s1 ⟨x, H1, I1, r1, q1⟩ => thn (hb pins s1 σ H1 _ I1 q1) fun u s2 ⟨y, H2, I2, r2, q2⟩ =>
    thn (ho pins s2 σ H2 x y v u _ I2 r1 r2 q2) fun c s3 ⟨z, H3, I3, r3, k, e, q3⟩ => ?_) hm
  subst e
  cases r3
  exact wpAny_truthy_bool ⟨H3, I3, q3⟩
/-- a op1 b op2 c -/
def tChain (r r' : R2) (ta tb tc : TE) : TE := fun σ H Q => ta σ H fun x H1 => tb σ H1 fun y H2 => r x y H2 fun z H3 => ∃ k, z = .bl k ∧
  (if k = true then tc σ H3 fun w' H4 => r' y w' H4 Q else Q (.bl false) H3)
theorem pe_chain {op op' : CmpOp} {r r' : R2} (ho : OpR X (compareOp op) r) (ho' : OpR X (compareOp op') r') (ha : PE X a ta) (hb : PE X b tb) (hc : PE X c tc)
    (hm : lastMarks [op, op'] [b, c] = false := by with_unfolding_all rfl) : PE X (.Compare a [op, op'] [b, c] pos) (tChain r r' ta tb tc) := by
  intro pins s σ H Q I h
  refine Compare_chain (thn (ha pins s σ H _ I h) fun v s1 ⟨x, H1, I1, r1, q1⟩ => chain_link (thn (hb pins s1 σ H1 _ I1 q1) fun u s2 ⟨y, H2, I2, r2, q2⟩ =>
    thn (ho pins s2 σ H2 x y v u _ I2 r1 r2 q2) fun d s3 ⟨z, H3, I3, r3, k, e, q3⟩ => ?_)) hm
  subst e
  cases r3
  refine wpAny_truthy_bool ?_
  cases k with
  | false => exact ite_ff ⟨.bl false, H3, I3, rfl, q3⟩
  | true => exact ite_tt (chain_last (thn (hc pins s3 σ H3 _ I3 q3) fun w' s4 ⟨z', H4, I4, r4, q4⟩ => ho' pins s4 σ H4 y z' u w' Q I4 r2 r4 q4))
theorem pt_chain {op op' : CmpOp} {r r' : R2} (ho : OpR X (compareOp op) r) (ho' : OpR X (compareOp op') r') (ha : PE X a ta) (hb : PE X b tb) (hc : PE X c tc)
    (hm : lastMarks [op, op'] [b, c] = false := by with_unfolding_all rfl) : PT X (.Compare a [op, op'] [b, c] pos) (tTest (tChain r r' ta tb tc)) := by
  intro pins s σ H Q I h
  refine isTrue_chain (thn (ha pins s σ H _ I h) fun v s1 ⟨x, H1, I1, r1, q1⟩ => test_link (thn (hb pins s1 σ H1 _ I1 q1) fun u s2 ⟨y, H2, I2, r2, q2⟩ =>
    thn (ho pins s2 σ H2 x y v u _ I2 r1 r2 q2) fun d s3 ⟨z, H3, I3, r3, k, e, q3⟩ => ?_)) hm
  subst e
  cases r3
  refine wpAny_truthy_bool ?_
  cases k with
  | false =>
    obtain ⟨k', e', q'⟩ := q3
    cases e'
    exact ite_ff ⟨H3, I3, q'⟩
  | true =>
    refine ite_tt (test_last (thn (hc pins s3 σ H3 _ I3 q3) fun w' s4 ⟨z', H4, I4, r4, q4⟩ => thn (ho' pins s4 σ H4 y z' u w' _ I4 r2 r4 q4) fun d' s5 ⟨z2, H5, I5, r5, k2, e2, q5⟩ => ?_))
    subst e2
    cases r5
    exact wpAny_truthy_bool ⟨H5, I5, q5⟩

/-! ### truth -/
/-- a value's truth by the abstract heap -/
def TruV (K : PySem.W.Frag) (x : V) (H : Hp) (k : Bool) : Prop :=
  match x with
  | .non => k = false
  | .bl b => k = b
  | .int i => k = (i != 0)
  | .str y => y.length ≤ sizeLine ∧ k = ((y.length : Int) != 0)
  | .byt y => y.size ≤ sizeLine ∧ k = ((y.size : Int) != 0)
  | .ref p => (∃ xs, SqL K H p xs ∧ k = !xs.isEmpty) ∨ (∃ xs, SqT K H p xs ∧ k = !xs.isEmpty) ∨ ∃ kvs, H p = some (.dK kvs) ∧ k = !kvs.isEmpty
  | _ => False
theorem isEmpty_kv {κ : Type} {kvs : List (κ × V)} {vs : List (κ × Value)} (r : KV kvs vs) : (!vs.isEmpty) = !kvs.isEmpty := by
  cases r <;> rfl
theorem isEmpty_of {xs : List V} {its : List Value} (r : Vals xs its) : (!its.toArray.isEmpty) = !xs.isEmpty := by
  cases r <;> simp
theorem line63 : (sizeLine : Nat) < 2 ^ 63 := by rw [sizeLine_eq]; decide
theorem tru_ok : TruR X (fun x H Q => ∃ k, TruV X.K x H k ∧ Q k H) := by
  intro pins s σ H x v Q I rx h
  obtain ⟨k, e, q⟩ := h
  have hl := line63
  have hs : sizeLine = 16777216 := sizeLine_eq
  cases x with
  | non =>
    cases rx
    have e' : k = false := e
    subst e'
    exact truthy_none ⟨H, I, q⟩
  | bl b =>
    cases rx
    have e' : k = b := e
    subst e'
    exact wpAny_truthy_bool ⟨H, I, q⟩
  | int i =>
    obtain ⟨t, rfl⟩ := rx
    have e' : k = (i != 0) := e
    subst e'
    exact PySem.P.truthy_int ⟨H, I, q⟩
  | str y =>
    obtain ⟨t, rfl⟩ := rx
    obtain ⟨hy, e'⟩ : y.length ≤ sizeLine ∧ k = ((y.length : Int) != 0) := e
    subst e'
    exact PySem.P.truthy_str (by omega) ⟨H, I.tok _, q⟩
  | byt y =>
    obtain ⟨t, rfl⟩ := rx
    obtain ⟨hy, e'⟩ : y.size ≤ sizeLine ∧ k = ((y.size : Int) != 0) := e
    subst e'
    exact PySem.W.truthy_bytes (by omega) ⟨H, I.tok _, q⟩
  | ref p =>
    cases rx
    have e' : (∃ xs, SqL X.K H p xs ∧ k = !xs.isEmpty) ∨ (∃ xs, SqT X.K H p xs ∧ k = !xs.isEmpty) ∨ ∃ kvs, H p = some (.dK kvs) ∧ k = !kvs.isEmpty := e
    rcases e' with ⟨xs, hx, e'⟩ | ⟨xs, hx, e'⟩ | ⟨kvs, hx, e'⟩
    · subst e'
      obtain ⟨its, r, pl, hz⟩ := I.list hx
      have hlen := r.length
      exact wpAny_truthy_list pl.isList (by simp only [List.size_toArray]; omega) ⟨H, I.tok _, by rw [isEmpty_of r]; exact q⟩
    · subst e'
      obtain ⟨its, r, pl, hz⟩ := I.tuple hx
      have hlen := r.length
      exact truthy_tuple pl (by simp only [List.size_toArray]; omega) ⟨H, I.tok _, by rw [isEmpty_of r]; exact q⟩
    · subst e'
      obtain ⟨hz, hS, vs, r, m⟩ : kvs.length ≤ sizeLine ∧ (p == sysModules) = false ∧ ∃ vs, KV kvs vs ∧ s.heap.DictOf (mixKind X.prog X.w) p vs := I.hok p _ hx
      have hlen : kvs.length = vs.length := Paired.length r
      exact wpAny_truthy_dict hS m (by omega) ⟨H, I.tok _, by rw [isEmpty_kv r]; exact q⟩
  | _ => exact (show False from e).elim
/-- any expression whose test is its value's truth (a name, a call, a subscript, a field ..: he by fun _ => rfl) -/
theorem pt_truth (ha : PE X a ta) (he : ∀ whole, isTrue a X.env whole = (do let v ← whole; standAt a.pos; holding [v] (truthy v))) :
    PT X a (fun σ H Q => ta σ H fun x H' => ∃ k, TruV X.K x H' k ∧ Q k H') := by
  intro pins s σ H Q I h
  exact isTrue_plain (thn (ha pins s σ H _ I h) fun v s1 ⟨x, H1, I1, r1, q1⟩ => tru_ok pins s1 σ H1 x v Q I1 r1 q1) (he _)

/-! ### strs and bytes -/
theorem pe_byt {x : List UInt8} {k : Nat} : PE X (.Constant (.bytes x) k pos) (fun _ H Q => Q (.byt x.toArray) H) := fun _ _ _ H _ I h => PySem.W.Constant_bytes ⟨.byt x.toArray, H, I.tok _, ⟨_, rfl⟩, h⟩
theorem op_add_str : OpR X (binaryOp .Add) (fun x y H Q => ∃ i j, x = .str i ∧ y = .str j ∧ i.length + j.length ≤ sizeLine ∧ Q (.str (i ++ j)) H) := by
  intro pins s σ H x y v u Q I rx ry h
  obtain ⟨i, j, rfl, rfl, hz, q⟩ := h
  obtain ⟨t, rfl⟩ := rx
  obtain ⟨t', rfl⟩ := ry
  exact add_str (fun t' tk => ⟨.str (i ++ j), H, I.tok _, ⟨_, rfl⟩, q⟩) hz
theorem iop_add_str : OpR X (inplaceOp .Add) (fun x y H Q => ∃ i j, x = .str i ∧ y = .str j ∧ i.length + j.length ≤ sizeLine ∧ Q (.str (i ++ j)) H) := by
  intro pins s σ H x y v u Q I rx ry h
  obtain ⟨i, j, rfl, rfl, hz, q⟩ := h
  obtain ⟨t, rfl⟩ := rx
  obtain ⟨t', rfl⟩ := ry
  exact iadd_str (fun t' tk => ⟨.str (i ++ j), H, I.tok _, ⟨_, rfl⟩, q⟩) hz
theorem op_add_byt : OpR X (binaryOp .Add) (fun x y H Q => ∃ i j, x = .byt i ∧ y = .byt j ∧ i.size + j.size ≤ 16777216 ∧ Q (.byt (i ++ j)) H) := by
  intro pins s σ H x y v u Q I rx ry h
  obtain ⟨i, j, rfl, rfl, hz, q⟩ := h
  obtain ⟨t, rfl⟩ := rx
  obtain ⟨t', rfl⟩ := ry
  exact PySem.W.KBy.add_bytes hz (fun t' tk => ⟨.byt (i ++ j), H, I.tok _, ⟨_, rfl⟩, q⟩)

def PlainIxT (b : Expr) : Prop := ∀ o i, subscripted b false o i = operate [o, i] (getItem o i)
/-- s[i], 0 ≤ i < len -/
theorem pe_item_str (ha : PE X a ta) (hb : PE X b tb) (hs : PlainIxT b) :
    PE X (.Subscript a b pos) (tOp (fun x y H Q => ∃ z i c, x = .str z ∧ y = .int i ∧ 0 ≤ i ∧ i < 2 ^ 63 ∧ i < z.length ∧ z.cps[i.toNat]? = some c ∧ Q (.str ⟨#[c]⟩) H) ta tb) := by
  intro pins s σ H Q I h
  refine Subscript_ (binT ha hb I h fun v u s2 x y H2 I2 rx ry q => ?_)
  obtain ⟨z, i, c, rfl, rfl, h0, h63, h1, hc, q⟩ := q
  obtain ⟨t, rfl⟩ := rx
  obtain ⟨t', rfl⟩ := ry
  have e : seqIndex? i z.length = some i.toNat := PySem.StrLaws.seqIndex_nonneg h0 h1
  exact tail_any (typeIs_str s2 z t) slot_str_getitem.lookup (getItem_str (c := c) (by
    have e1 : decide (i < -(2 ^ 63 : Int)) = false := decide_eq_false (by omega)
    have e2 : decide (i ≥ 2 ^ 63) = false := decide_eq_false (by omega)
    rw [e1, e2] <;> rfl) (by rw [e]; exact hc) ⟨.str ⟨#[c]⟩, H2, I2.tok _, ⟨_, rfl⟩, q⟩) (hs _ _)
/-- b[i], 0 ≤ i < len -/
theorem pe_item_byt (ha : PE X a ta) (hb : PE X b tb) (hs : PlainIxT b) :
    PE X (.Subscript a b pos) (tOp (fun x y H Q => ∃ (z : List UInt8) (i : Int), x = .byt z.toArray ∧ y = .int i ∧ z.length ≤ sizeLine ∧ 0 ≤ i ∧ i < z.length ∧ Q (.int ((z.getD i.toNat 0).toNat : Nat)) H) ta tb) := by
  intro pins s σ H Q I h
  refine Subscript_ (binT ha hb I h fun v u s2 x y H2 I2 rx ry q => ?_)
  obtain ⟨z, i, rfl, rfl, hz, h0, h1, q⟩ := q
  obtain ⟨t, rfl⟩ := rx
  obtain ⟨t', rfl⟩ := ry
  have hl : sizeLine = 16777216 := sizeLine_eq
  exact tail_any (PySem.W.typeIs_bytes s2 z.toArray t) PySem.W.FB.slot_bytes_getitem.lookup (PySem.W.getItem_bytes (by omega) h0 h1 ⟨.int ((z.getD i.toNat 0).toNat : Nat), H2, I2.tok _, ⟨_, rfl⟩, q⟩) (hs _ _)

/-! ### scalar builtins, by CallR -/
theorem vals1 {x : V} {us : List Value} (r : Vals [x] us) : ∃ u, us = [u] ∧ RelV x u := by
  cases r with
  | cons r1 r2 => cases r2; exact ⟨_, rfl, r1⟩
theorem vals2 {x y : V} {us : List Value} (r : Vals [x, y] us) : ∃ u w', us = [u, w'] ∧ RelV x u ∧ RelV y w' := by
  cases r with
  | cons r1 r2 =>
    cases r2 with
    | cons r3 r4 => cases r4; exact ⟨_, _, rfl, r1, r3⟩
theorem call_abs : CallR X (.builtin "abs") (fun xs H Q => ∃ i, xs = [.int i] ∧ Q (.int (if i < 0 then -i else i)) H) := by
  intro pins s σ H xs us Q I r h
  obtain ⟨i, rfl, q⟩ := h
  obtain ⟨u, rfl, t, rfl⟩ := vals1 r
  exact call_abs_int fun u tk => ⟨.int (if i < 0 then -i else i), H, I.tok _, ⟨_, rfl⟩, q⟩
theorem call_max2 (hc : X.calm = true) : CallR X (.builtin "max") (fun xs H Q => ∃ i j, xs = [.int i, .int j] ∧ Q (.int (if j > i then j else i)) H) := by
  intro pins s σ H xs us Q I r h
  obtain ⟨i, j, rfl, q⟩ := h
  obtain ⟨u, w', rfl, ⟨t, rfl⟩, ⟨t', rfl⟩⟩ := vals2 r
  refine max_two_ints (I.ok.hd hc) fun h' tk k => ⟨_, H, I.kept k, ?_, q⟩
  by_cases hj : j > i
  · rw [if_pos hj, if_pos hj]; exact ⟨_, rfl⟩
  · rw [if_neg hj, if_neg hj]; exact ⟨_, rfl⟩
theorem call_min2 (hc : X.calm = true) : CallR X (.builtin "min") (fun xs H Q => ∃ i j, xs = [.int i, .int j] ∧ Q (.int (if j < i then j else i)) H) := by
  intro pins s σ H xs us Q I r h
  obtain ⟨i, j, rfl, q⟩ := h
  obtain ⟨u, w', rfl, ⟨t, rfl⟩, ⟨t', rfl⟩⟩ := vals2 r
  refine min_two_ints (I.ok.hd hc) fun h' tk k => ⟨_, H, I.kept k, ?_, q⟩
  by_cases hj : j < i
  · rw [if_pos hj, if_pos hj]; exact ⟨_, rfl⟩
  · rw [if_neg hj, if_neg hj]; exact ⟨_, rfl⟩
theorem call_int1 : CallR X (.type "int") (fun xs H Q => (∃ i, xs = [.int i] ∧ Q (.int i) H) ∨ ∃ k, xs = [.bl k] ∧ Q (.int (if k then 1 else 0)) H) := by
  intro pins s σ H xs us Q I r h
  rcases h with ⟨i, rfl, q⟩ | ⟨k, rfl, q⟩
  · obtain ⟨u, rfl, t, rfl⟩ := vals1 r
    exact call_int_int ⟨.int i, H, I, ⟨_, rfl⟩, q⟩
  · obtain ⟨u, rfl, r1⟩ := vals1 r
    cases r1
    exact call_int_bool ⟨.int (if k then 1 else 0), H, I.tok _, ⟨_, rfl⟩, q⟩
theorem call_bool1 : CallR X (.type "bool") (fun xs H Q => (∃ i, xs = [.int i] ∧ Q (.bl (i != 0)) H) ∨ ∃ k, xs = [.bl k] ∧ Q (.bl k) H) := by
  intro pins s σ H xs us Q I r h
  rcases h with ⟨i, rfl, q⟩ | ⟨k, rfl, q⟩
  · obtain ⟨u, rfl, t, rfl⟩ := vals1 r
    exact call_bool_int ⟨.bl (i != 0), H, I, rfl, q⟩
  · obtain ⟨u, rfl, r1⟩ := vals1 r
    cases r1
    exact call_bool_bool ⟨.bl k, H, I, rfl, q⟩
theorem call_str_int : CallR X (.type "str") (fun xs H Q => ∃ i, xs = [.int i] ∧ i.natAbs.log2 < 1920 ∧ Q (.str (toString i)) H) := by
  intro pins s σ H xs us Q I r h
  obtain ⟨i, rfl, hz, q⟩ := h
  obtain ⟨u, rfl, t, rfl⟩ := vals1 r
  exact PySem.P.str_of_int hz ⟨.str _, H, I.tok _, ⟨_, rfl⟩, q⟩
theorem call_ord : CallR X (.builtin "ord") (fun xs H Q => ∃ x, xs = [.str x] ∧ x.length = 1 ∧ Q (.int (x.cps.getD 0 0 : Nat)) H) := by
  intro pins s σ H xs us Q I r h
  obtain ⟨x, rfl, hz, q⟩ := h
  obtain ⟨u, rfl, t, rfl⟩ := vals1 r
  exact ord_of_one hz ⟨.int _, H, I.tok _, ⟨_, rfl⟩, q⟩
theorem call_chr : CallR X (.builtin "chr") (fun xs H Q => ∃ i, xs = [.int i] ∧ 0 ≤ i ∧ i ≤ 1114111 ∧ Q (.str ⟨#[i.toNat]⟩) H) := by
  intro pins s σ H xs us Q I r h
  obtain ⟨i, rfl, h0, h1, q⟩ := h
  obtain ⟨u, rfl, t, rfl⟩ := vals1 r
  exact chr_of_range h0 h1 ⟨.str _, H, I.tok _, ⟨_, rfl⟩, q⟩
/-- len of a str, a bytes, a list, a tuple -/
def LenV (K : PySem.W.Frag) (x : V) (H : Hp) (n : Nat) : Prop :=
  match x with
  | .str y => y.length ≤ sizeLine ∧ n = y.length
  | .byt y => y.size ≤ sizeLine ∧ n = y.size
  | .ref p => (∃ xs, SqL K H p xs ∧ n = xs.length) ∨ ∃ xs, SqT K H p xs ∧ n = xs.length
  | _ => False
theorem call_len : CallR X (.builtin "len") (fun xs H Q => ∃ x n, xs = [x] ∧ LenV X.K x H n ∧ Q (.int n) H) := by
  intro pins s σ H xs us Q I r h
  obtain ⟨x, n, rfl, e, q⟩ := h
  obtain ⟨u, rfl, rx⟩ := vals1 r
  have hl := line63
  have hs : sizeLine = 16777216 := sizeLine_eq
  cases x with
  | str y =>
    obtain ⟨t, rfl⟩ := rx
    obtain ⟨hy, e'⟩ : y.length ≤ sizeLine ∧ n = y.length := e
    subst e'
    exact len_str (by omega) ⟨.int _, H, I.tok _, ⟨_, rfl⟩, q⟩
  | byt y =>
    obtain ⟨t, rfl⟩ := rx
    obtain ⟨hy, e'⟩ : y.size ≤ sizeLine ∧ n = y.size := e
    subst e'
    exact PySem.W.len_bytes (by omega) ⟨.int _, H, I.tok _, ⟨_, rfl⟩, q⟩
  | ref p =>
    cases rx
    have e' : (∃ xs, SqL X.K H p xs ∧ n = xs.length) ∨ ∃ xs, SqT X.K H p xs ∧ n = xs.length := e
    rcases e' with ⟨xs, hx, e'⟩ | ⟨xs, hx, e'⟩
    · subst e'
      obtain ⟨its, r', pl, hz⟩ := I.list hx
      have hlen := r'.length
      exact Calls.call_len_list pl.isList (by simp only [List.size_toArray]; omega) ⟨.int xs.length, H, I.tok _, ⟨_, by simp only [List.size_toArray]; rw [hlen]⟩, q⟩
    · subst e'
      obtain ⟨its, r', pl, hz⟩ := I.tuple hx
      have hlen := r'.length
      exact len_tuple pl (by simp only [List.size_toArray]; omega) ⟨.int xs.length, H, I.tok _, ⟨_, by simp only [List.size_toArray]; rw [hlen]⟩, q⟩
  | _ => exact (show False from e).elim
/-- divmod: a new tuple -/
theorem call_divmod : CallR X (.builtin "divmod") (fun xs H Q => ∃ i j, xs = [.int i, .int j] ∧ CDiv i j ∧ ∀ p, H p = none → Q (.ref p) (upd H p (.tup [.int (i / j), .int (i % j)]))) := by
  intro pins s σ H xs us Q I r h
  obtain ⟨i, j, rfl, ⟨h1, h2⟩, q⟩ := h
  obtain ⟨u, w', rfl, ⟨t, rfl⟩, ⟨t', rfl⟩⟩ := vals2 r
  refine divmod_int (by omega) ?_ (.inl (PyProof.noPylong_small (by omega)))
  rw [Int.fdiv_eq_ediv_of_nonneg i (by omega), Int.fmod_eq_emod_of_nonneg i (by omega)]
  have hn : H s.heap.objs.size = none := I.hok.fresh (Nat.le_refl _)
  refine ⟨.ref s.heap.objs.size, _, ?_, rfl, q _ hn⟩
  refine I.laid (fun b o e => Heap.get?_push_of_some _ e) (Nat.le_refl _) ⟨by simp only [List.length_cons, List.length_nil]; rw [sizeLine_eq]; decide, [.int (i / j) s.toks, .int (i % j) (s.toks + 1)], .cons ⟨_, rfl⟩ (.cons ⟨_, rfl⟩ .nil), ?_⟩
  exact ⟨_, Heap.get?_push_size s.heap rfl, rfl, 0, rfl⟩
end
end L2

namespace L2
open PySem PySem.Spec PyProof.Rows

/-! ### an instance, its attributes a map -/
structure ObjM (h : Heap) (x dx C : Addr) (mA : Str → Option Value) : Prop where
  obj : h.get? x = some (PySem.W.instObj C dx)
  ns : h.Ns1 dx mA
  ne : dx ≠ x

theorem lookIn_ns {h : Heap} {dx : Addr} {mA : Str → Option Value} (n : h.Ns1 dx mA) : ∃ od, h.get? dx = some od ∧ ∀ name, PySem.W.lookIn name od = some (mA name) := by
  obtain ⟨o, es, ep, ho, hd, hk, _, hm⟩ := n
  refine ⟨o, ho, fun name => ?_⟩
  have e := hm name
  unfold nsFind findBy at e
  rw [← Array.find?_toList] at e
  unfold PySem.W.lookIn
  rw [hd]
  dsimp only
  split
  · rename_i y q
    rw [q] at e
    exact congrArg some e
  · rename_i q
    rw [q] at e
    have a : es.toList.any (·.refKey) = false := by
      rw [List.any_eq_false]
      intro y hy
      obtain ⟨z, t, hkey⟩ := hk y (Array.mem_toList_iff.mp hy)
      simp [DictEntry.refKey, hkey]
    have a' : ¬ es.toList.any (·.refKey) = true := by rw [a]; exact Bool.false_ne_true
    rw [if_neg a']
    exact congrArg some e

theorem ObjM.look {h : Heap} {x dx C : Addr} {mA : Str → Option Value} (I : ObjM h x dx C mA) : ∃ od, PySem.W.InstAt h x (PySem.W.instObj C dx) C (some od) ∧ ∀ name, PySem.W.lookIn name od = some (mA name) :=
  let ⟨od, ho, hl⟩ := lookIn_ns I.ns
  ⟨od, ⟨I.obj, rfl, rfl, ho⟩, hl⟩

section
variable {prog : Program} {w : World} {A : Around} {E : Value → Shared → Prop} {s : Shared} {K : PySem.W.Frag} {x dx C f : Addr} {mA : Str → Option Value} {name : Str} {v : Value}

theorem get_map {expr : Bool} {Q : Value → Shared → Prop} (X : K.In s.heap) (I : ObjM s.heap x dx C mA) (hg : PySem.W.plainGet K C name = true) (hh : PySem.W.hasDictIn K C = true)
    (ha : PySem.W.findIn K (.ref C) name = some none) (hv : mA name = some v) (hv' : PySem.W.handedIn v = true) (h : Q v { s with toks := s.toks + 1 }) :
    wpAny (model prog w) A (getAttr (.ref x) name expr) Q E s := by
  obtain ⟨od, J, hl⟩ := I.look
  exact PySem.W.get_value X J (PySem.W.plainGet_of hg).1 (PySem.W.findObj_own hh ha rfl (by rw [hl, hv])) hv' h

theorem get_const {expr : Bool} {a : Value} {Q : Value → Shared → Prop} (X : K.In s.heap) (I : ObjM s.heap x dx C mA) (hg : PySem.W.plainGet K C name = true) (hh : PySem.W.hasDictIn K C = true)
    (ha : PySem.W.findIn K (.ref C) name = some (some a)) (hn : PySem.W.specialIn K a "__get__" = some none) (hc : PySem.W.copiedNames.contains name = false) (hv : mA name = none) (hv' : PySem.W.handedIn a = true)
    (h : Q a { s with toks := s.toks + 1 }) : wpAny (model prog w) A (getAttr (.ref x) name expr) Q E s := by
  obtain ⟨od, J, hl⟩ := I.look
  exact PySem.W.get_value X J (PySem.W.plainGet_of hg).1 (PySem.W.findObj_cls hh ha hn hv' hc (by rw [hl, hv])) hv' h

theorem get_meth {pl : Sem Bool} {Q : Value × List Value → Shared → Prop} (X : K.In s.heap) (I : ObjM s.heap x dx C mA) (hg : PySem.W.plainGet K C name = true)
    (hf : PySem.W.findIn K (.ref C) name = some (some (.ref f))) (ht : PySem.W.isFn K (.ref f) = true) (hv : mA name = none) (h : Q (.ref f, [.ref x]) s) :
    wpAny (model prog w) A (getMethod (.ref x) name pl) Q E s := by
  obtain ⟨od, J, hl⟩ := I.look
  exact PySem.W.method_fn X J (PySem.W.plainGet_of hg).1 (PySem.W.plainGet_of hg).2 hf (beq_iff_eq.mp ht) (by show (PySem.W.lookIn name od).map (·.isSome) = some false; rw [hl, hv]; rfl) h

theorem set_map {ns : List Str} {Q : Unit → Shared → Prop} (X : K.In s.heap) (I : ObjM s.heap x dx C mA)
    (hs : PySem.W.findIn K (.ref C) "__setattr__" = some (some (.builtin "object.__setattr__"))) (hp : PySem.W.plainOver K C = true) (ht : PySem.W.takerIn K C name = some none) (hh : PySem.W.hasDictIn K C = true)
    (hw : PySem.Within mA ns) (hsz : ns.length ≤ sizeLine)
    (h : ∀ h', ObjM h' x dx C (fun y => if y = name then some v else mA y) → Heap.SameBut dx s.heap h' → Q () { s with heap := h', toks := s.toks + 2 }) :
    wpAny (model prog w) A (setAttr (.ref x) name v) Q E s := by
  obtain ⟨od, J, hl⟩ := I.look
  refine PySem.W.set_plain X J hs (PySem.W.osa_open (s := { s with toks := s.toks + 1 }) (r := none) X J hp ht fun b => ?_)
  obtain ⟨cd, hc, hd'⟩ := PySem.W.any_some hh
  have hx : s.heap.get? x = some ⟨.ref C, some dx, .plain, #[]⟩ := I.obj
  refine wpAny_bind (wpAny_pure (wpAny_bind (wpAny_bind (wpAny_loadPart hx (wpAny_bind (PySem.W.Looks.here (s := { s with toks := s.toks + 1 }) (PySem.W.looks_clsIn X hc) ?_))))))
  rw [hd']
  refine wpAny_pure (a := some dx) (wpAny_bind (wpAny_pure (wpAny_bind ?_)))
  refine wpAny_nsSet1 (s := { s with toks := s.toks + 1 }) I.ns fun h' hn2 hs2 => ?_
  obtain ⟨oD, esD, epD, hoD, hdD, hcD⟩ := hn2.count (PySem.Within.cons name v hw)
  refine wpAny_bind (wpAny_lookBehind hoD (by rw [hdD]; exact pastItsLine_dict (Nat.le_trans hcD (by rw [List.length_cons]; omega))) ?_)
  exact wpAny_pure (h _ ⟨(hs2.2 _ (Ne.symm I.ne)).trans I.obj, hn2, I.ne⟩ hs2)

/-- C(..): the dict at the heap's end, the instance behind it; then its __init__ -/
theorem make_map {R : Result → Shared → Prop} {vs : List Value} {kw : List (Str × Value)} (X : K.In s.heap) (hm : PySem.W.makesIn K C = true)
    (hi : PySem.W.findIn K (.ref C) "__init__" = some (some (.ref f))) (hf : PySem.W.typeIn K (.ref f) = some (.type "function"))
    (h : codeAny (model prog w) (A.under (.builtin "type.__call__" ⟨.ref C :: vs, kw⟩)) (.call (.ref f) ⟨.ref (s.heap.objs.size + 1) :: vs, kw⟩) (PySem.W.InitBack (s.heap.objs.size + 1) R)
      { s with heap := (s.heap.push PySem.W.emptyDict).push (PySem.W.instObj C s.heap.objs.size) }) :
    codeAny (model prog w) A (.call (.ref C) ⟨vs, kw⟩) R s := by
  obtain ⟨hh, g, d, t, os⟩ := s
  exact PySem.W.make_core (PySem.W.makes_of X hm) (PySem.W.looks_findIn X hi) (fun self => PySem.W.bind_fn X self hf) (.inl rfl) h
/-- C() where there is no __init__ but object's -/
theorem make_map0 {R : Result → Shared → Prop} (X : K.In s.heap) (hm : PySem.W.makesIn K C = true)
    (hi : PySem.W.findIn K (.ref C) "__init__" = some (some (.builtin "object.__init__")))
    (hb : ∀ self, PySem.W.Looks (model prog w) s.heap (bindSpecial (.builtin "object.__init__") self) (.builtin "object.__init__", [self]))
    (h : codeAny (model prog w) (A.under (.builtin "type.__call__" ⟨[.ref C], []⟩)) (.call (.builtin "object.__init__") ⟨[.ref (s.heap.objs.size + 1)], []⟩) (PySem.W.InitBack (s.heap.objs.size + 1) R)
      { s with heap := (s.heap.push PySem.W.emptyDict).push (PySem.W.instObj C s.heap.objs.size) }) :
    codeAny (model prog w) A (.call (.ref C) ⟨[], []⟩) R s := by
  obtain ⟨hh, g, d, t, os⟩ := s
  exact PySem.W.make_core (PySem.W.makes_of X hm) (PySem.W.looks_findIn X hi) hb (.inr ⟨rfl, rfl⟩) h
end

/-! ### the attributes as a list of pairs -/
def putF (f : Str) (v : V) : List (Str × V) → List (Str × V)
  | [] => [(f, v)]
  | (g, x) :: r => if g = f then (g, v) :: r else (g, x) :: putF f v r
theorem lookup_putF (f g : Str) (v : V) : ∀ fs : List (Str × V), (putF f v fs).lookup g = if g = f then some v else fs.lookup g
  | [] => by
    show List.lookup g [(f, v)] = _
    by_cases h : g = f
    · have hb : (g == f) = true := beq_iff_eq.mpr h
      simp only [List.lookup, hb, if_pos h]
    · have hb : (g == f) = false := beq_eq_false_iff_ne.mpr h
      simp only [List.lookup, hb, if_neg h]
  | (k, x) :: r => by
    have ih := lookup_putF f g v r
    rw [show putF f v ((k, x) :: r) = (if k = f then (k, v) :: r else (k, x) :: putF f v r) from rfl]
    by_cases hk : k = f
    · rw [if_pos hk]
      by_cases h : g = k
      · have hb : (g == k) = true := beq_iff_eq.mpr h
        simp only [List.lookup, hb, if_pos (h.trans hk)]
      · have hb : (g == k) = false := beq_eq_false_iff_ne.mpr h
        simp only [List.lookup, hb, if_neg (fun e : g = f => h (e.trans hk.symm))]
    · rw [if_neg hk]
      by_cases h : g = k
      · have hb : (g == k) = true := beq_iff_eq.mpr h
        simp only [List.lookup, hb, if_neg (fun e : g = f => hk (h.symm.trans e))]
      · have hb : (g == k) = false := beq_eq_false_iff_ne.mpr h
        simp only [List.lookup, hb]
        exact ih
theorem keys_putF (f : Str) (v : V) : ∀ fs : List (Str × V), f ∈ (putF f v fs).map (·.1) ∧ ∀ g, g ∈ fs.map (·.1) → g ∈ (putF f v fs).map (·.1)
  | [] => ⟨by simp [putF], fun g h => by simp at h⟩
  | (k, x) :: r => by
    obtain ⟨i1, i2⟩ := keys_putF f v r
    rw [show putF f v ((k, x) :: r) = (if k = f then (k, v) :: r else (k, x) :: putF f v r) from rfl]
    by_cases hk : k = f
    · rw [if_pos hk]
      subst hk
      exact ⟨by simp, fun g h => by simpa using h⟩
    · rw [if_neg hk]
      refine ⟨?_, fun g h => ?_⟩
      · rw [List.map_cons]
        exact List.mem_cons_of_mem _ i1
      · rw [List.map_cons] at h ⊢
        rcases List.mem_cons.mp h with e | e
        · exact List.mem_cons.mpr (.inl e)
        · exact List.mem_cons_of_mem _ (i2 g e)
theorem length_putF (f : Str) (v : V) : ∀ fs : List (Str × V), (putF f v fs).length ≤ fs.length + 1
  | [] => by simp [putF]
  | (k, x) :: r => by
    have ih := length_putF f v r
    rw [show putF f v ((k, x) :: r) = (if k = f then (k, v) :: r else (k, x) :: putF f v r) from rfl]
    by_cases hk : k = f
    · rw [if_pos hk, List.length_cons, List.length_cons]; omega
    · rw [if_neg hk, List.length_cons, List.length_cons]; omega

theorem RelO.some_of {v : V} {o : Option Value} (r : RelO (some v) o) : ∃ u, o = some u ∧ RelV v u := by
  cases o with
  | none => exact (show False from r).elim
  | some u => exact ⟨u, rfl, r⟩
theorem RelO.none_of {o : Option Value} (r : RelO none o) : o = none := by
  cases o with
  | none => rfl
  | some u => exact (show False from r).elim
theorem handed_of {v : V} {u : Value} (r : RelV v u) : PySem.W.handedIn u = true := by
  cases v with
  | non => cases (show u = Value.none from r); rfl
  | bl b => cases (show u = Value.bool b from r); rfl
  | int i => obtain ⟨t, e⟩ := (show ∃ t, u = Value.int i t from r); cases e; rfl
  | str x => obtain ⟨t, e⟩ := (show ∃ t, u = Value.str x t from r); cases e; rfl
  | byt b => obtain ⟨t, e⟩ := (show ∃ t, u = Value.bytes b t from r); cases e; rfl
  | flt b => obtain ⟨t, e⟩ := (show ∃ t, u = Value.float b t from r); cases e; rfl
  | ref a => cases (show u = Value.ref a from r); rfl
  | ty n => cases (show u = Value.type n from r); rfl

section
variable {P : Program} {w : World} {H H' : Hp} {h h' : Heap} {a C dx : Addr} {fs fs' : List (Str × V)}
theorem ins_get (hok : HOk P w H h) (e : H a = some (.ins C dx fs)) : ∃ mA, ObjM h a dx C mA ∧ (∀ f, RelO (fs.lookup f) (mA f)) ∧ PySem.Within mA (fs.map (·.1)) ∧ fs.length ≤ 1000 ∧ H dx = some (.own a) := by
  obtain ⟨d, z, ne, ob, mA, n, r, q⟩ := (show ObjOk P w H h a (.ins C dx fs) from hok a _ e)
  exact ⟨mA, ⟨ob, n, ne⟩, r, q, z, d⟩
end

/-! ### what of the text a class must have -/
structure Cls (K : PySem.W.Frag) (C : Addr) : Prop where
  pg : PySem.W.plainGet K C Str.empty = true
  hd : PySem.W.hasDictIn K C = true
  po : PySem.W.plainOver K C = true
  sa : PySem.W.findIn K (.ref C) "__setattr__" = some (some (.builtin "object.__setattr__"))
theorem Cls.get {K : PySem.W.Frag} {C : Addr} (c : Cls K C) (f : Str) : PySem.W.plainGet K C f = true := c.pg
/-- no class of it has the name -/
def NoAttr (K : PySem.W.Frag) (C : Addr) (f : Str) : Prop := PySem.W.findIn K (.ref C) f = some none
theorem NoAttr.taker {K : PySem.W.Frag} {C : Addr} {f : Str} (n : NoAttr K C f) : PySem.W.takerIn K C f = some none := by
  unfold PySem.W.takerIn
  rw [show PySem.W.findIn K (.ref C) f = some none from n]
  rfl
/-- a constant of the class -/
structure Con (K : PySem.W.Frag) (C : Addr) (f : Str) (v : V) (u : Value) : Prop where
  at_ : PySem.W.findIn K (.ref C) f = some (some u)
  rel : RelV v u
  get : PySem.W.specialIn K u "__get__" = some none
  cp : PySem.W.copiedNames.contains f = false
/-- a method: a plain def of the class or of one above it -/
structure Meth (K : PySem.W.Frag) (C : Addr) (m : Str) (f : Addr) : Prop where
  at_ : PySem.W.findIn K (.ref C) m = some (some (.ref f))
  fn : PySem.W.isFn K (.ref f) = true
  kp : PySem.W.keepIn K (.ref f) = true

section
variable {X : Cx} {pins : List (Addr × Obj)} {σ : St} {H : Hp} {s : Shared} {a C dx : Addr} {fs : List (Str × V)} {f : Str} {v : V} {A : Around} {E : Value → Shared → Prop}

theorem getattr_ok {b : Bool} {Q : Value → Shared → Prop} (I : Inv X pins σ H s) (e : H a = some (.ins C dx fs)) (c : Cls X.K C) (n : NoAttr X.K C f) (l : fs.lookup f = some v)
    (h : ∀ u s', Inv X pins σ H s' → RelV v u → Q u s') : wpAny (model X.prog X.w) A (getAttr (.ref a) f b) Q E s := by
  obtain ⟨mA, O, r, _, _, _⟩ := ins_get I.hok e
  obtain ⟨u, hu, ru⟩ := RelO.some_of (v := v) (o := mA f) (by rw [← l]; exact r f)
  exact get_map I.kIn O (c.get f) c.hd n hu (handed_of ru) (h u _ (I.tok _) ru)

theorem getcon_ok {b : Bool} {u : Value} {Q : Value → Shared → Prop} (I : Inv X pins σ H s) (e : H a = some (.ins C dx fs)) (c : Cls X.K C) (k : Con X.K C f v u) (l : fs.lookup f = none)
    (h : ∀ s', Inv X pins σ H s' → Q u s') : wpAny (model X.prog X.w) A (getAttr (.ref a) f b) Q E s := by
  obtain ⟨mA, O, r, _, _, _⟩ := ins_get I.hok e
  have hn : mA f = none := RelO.none_of (by rw [← l]; exact r f)
  exact get_const I.kIn O (c.get f) c.hd k.at_ k.get k.cp hn (handed_of k.rel) (h _ (I.tok _))

theorem getmeth_ok {m : Str} {g : Addr} {pl : Sem Bool} {Q : Value × List Value → Shared → Prop} (I : Inv X pins σ H s) (e : H a = some (.ins C dx fs)) (c : Cls X.K C) (k : Meth X.K C m g) (l : fs.lookup m = none)
    (h : Q (.ref g, [.ref a]) s) : wpAny (model X.prog X.w) A (getMethod (.ref a) m pl) Q E s := by
  obtain ⟨mA, O, r, _, _, _⟩ := ins_get I.hok e
  have hn : mA m = none := RelO.none_of (by rw [← l]; exact r m)
  exact get_meth I.kIn O (c.get m) k.at_ k.fn hn h

theorem setattr_ok {y : V} {u : Value} {Q : Unit → Shared → Prop} (I : Inv X pins σ H s) (e : H a = some (.ins C dx fs)) (c : Cls X.K C) (n : NoAttr X.K C f) (hl : fs.length < 1000) (ry : RelV y u)
    (h : ∀ s', Inv X pins σ (upd H a (.ins C dx (putF f y fs))) s' → Q () s') : wpAny (model X.prog X.w) A (setAttr (.ref a) f u) Q E s := by
  obtain ⟨mA, O, r, wi, _, ho⟩ := ins_get I.hok e
  have hz : (fs.map (·.1)).length ≤ sizeLine := by rw [List.length_map, sizeLine_eq]; omega
  refine set_map I.kIn O c.sa c.po n.taker c.hd wi hz fun h' O' sb => h _ ?_
  have hd : ∃ o, h'.get? dx = some o := let ⟨o, _, _, e', _⟩ := O'.ns; ⟨o, e'⟩
  refine I.write (x := a) (e := dx) (by rw [e]; exact True.intro) (.inr ho) (fun b q hb z => (sb.2 b hb).trans z) hd ?_
  refine ⟨by rw [upd_ne O.ne]; exact ho, ?_, O.ne, O'.obj, _, O'.ns, fun g => ?_, fun g hg => ?_⟩
  · have := length_putF f y fs; omega
  · show RelO ((putF f y fs).lookup g) (if g = f then some u else mA g)
    rw [lookup_putF]
    by_cases q : g = f
    · rw [if_pos q, if_pos q]; exact ry
    · rw [if_neg q, if_neg q]; exact r g
  · by_cases q : g = f
    · rw [q]; exact (keys_putF f y fs).1
    · refine (keys_putF f y fs).2 g (wi g fun z => hg ?_)
      show (if g = f then some u else mA g) = none
      rw [if_neg q]; exact z

/-- a new instance, tracked, without attributes -/
theorem Inv.made (I : Inv X pins σ H s) : Inv X pins σ (upd (upd H s.heap.objs.size (.own (s.heap.objs.size + 1))) (s.heap.objs.size + 1) (.ins C s.heap.objs.size []))
    { s with heap := (s.heap.push PySem.W.emptyDict).push (PySem.W.instObj C s.heap.objs.size) } := by
  have e1 : (s.heap.push PySem.W.emptyDict).get? s.heap.objs.size = some PySem.W.emptyDict := Heap.get?_push_size s.heap rfl
  have e2 : ((s.heap.push PySem.W.emptyDict).push (PySem.W.instObj C s.heap.objs.size)).get? (s.heap.objs.size + 1) = some (PySem.W.instObj C s.heap.objs.size) := by
    have := Heap.get?_push_size (s.heap.push PySem.W.emptyDict) (o := PySem.W.instObj C s.heap.objs.size) rfl
    rwa [Heap.size_push] at this
  have e3 : (s.heap.push PySem.W.emptyDict).Ns s.heap.objs.size (fun _ => none) := ⟨PySem.W.emptyDict, #[], _, e1, rfl, (fun e he => absurd he (by simp)), fun _ => rfl⟩
  have I1 := I.laid (a := s.heap.objs.size) (o := .own (s.heap.objs.size + 1)) (h' := s.heap.push PySem.W.emptyDict) (t' := s.toks) (fun b u q => Heap.get?_push_of_some _ q) (Nat.le_refl _) ⟨_, e1⟩
  refine I1.laid (a := s.heap.objs.size + 1) (o := .ins C s.heap.objs.size []) (t' := s.toks) (fun b u q => Heap.get?_push_of_some _ q) (Nat.le_of_eq (Heap.size_push _ _)) ?_
  have ne : s.heap.objs.size ≠ s.heap.objs.size + 1 := Nat.ne_of_lt (Nat.lt_succ_self _)
  refine ⟨by rw [upd_ne ne, upd_same], Nat.zero_le _, ne, e2, fun _ => none, (Heap.Ns1.of_empty e3).at fun o q => Heap.get?_push_of_some _ q, fun _ => True.intro, fun y hy => absurd rfl hy⟩

/-- e.f where nothing but the object is asked: through attributeBase (super) and the last hold -/
theorem attr_of {prog : Program} {w : World} {env : Env} {e : Expr} {f : Str} {pos : Pos} {s : Shared} {Q : Value → Shared → Prop} (hb : attributeBase e f env (eval e env) = eval e env)
    (h : wpAny (model prog w) A (eval e env) (fun o s₁ => wpAny (model prog w) A (getAttr o f true) Q E s₁) E s) : wpAny (model prog w) A (eval (.Attribute e f pos) env) Q E s :=
  Attribute_any_ h (by rw [arm_eval_Attribute, hb])
end

/-! ### readings and rules -/
/-- e.f, an attribute of the instance -/
def tFld (K : PySem.W.Frag) (ta : TE) (f : Str) : TE := fun σ H Q => ta σ H fun x H1 => ∃ a C dx fs v, x = .ref a ∧ H1 a = some (.ins C dx fs) ∧ Cls K C ∧ NoAttr K C f ∧ fs.lookup f = some v ∧ Q v H1
/-- e.f, a constant of the class -/
def tCon (K : PySem.W.Frag) (ta : TE) (f : Str) : TE := fun σ H Q => ta σ H fun x H1 => ∃ a C dx fs v u, x = .ref a ∧ H1 a = some (.ins C dx fs) ∧ Cls K C ∧ Con K C f v u ∧ fs.lookup f = none ∧ Q v H1
/-- e.f = value -/
def sFld (K : PySem.W.Frag) (ta tv : TE) (f : Str) : TS := fun D σ H => tv σ H fun y H1 => ta σ H1 fun x H2 => ∃ a C dx fs, x = .ref a ∧ H2 a = some (.ins C dx fs) ∧ Cls K C ∧ NoAttr K C f ∧ fs.length < 1000 ∧
  D.nx σ (upd H2 a (.ins C dx (putF f y fs)))
/-- an augmented operator on two values -/
def InOp (X : Cx) (op : Operator) (rd : V → V → Hp → VK → Prop) : Prop :=
  ∀ (pins : List (Addr × Obj)) (s : Shared) (σ : St) (H : Hp) (x y : V) (u v : Value) (Q : VK), Inv X pins σ H s → RelV x u → RelV y v → rd x y H Q → wpAny (model X.prog X.w) X.A (inplaceOp op u v) (EP X pins σ Q) X.xe s
/-- e.f op= value -/
def sFldAug (K : PySem.W.Frag) (ta tv : TE) (rd : V → V → Hp → VK → Prop) (f : Str) : TS := fun D σ H => ta σ H fun x H1 => ∃ a C dx fs v, x = .ref a ∧ H1 a = some (.ins C dx fs) ∧ Cls K C ∧ NoAttr K C f ∧ fs.lookup f = some v ∧
  tv σ H1 fun y H2 => rd v y H2 fun z H3 => ∃ dx' fs', H3 a = some (.ins C dx' fs') ∧ fs'.length < 1000 ∧ D.nx σ (upd H3 a (.ins C dx' (putF f z fs')))

section
variable {X : Cx} {o e value : Expr} {f : Str} {pos pos' tpos : Pos} {ta tv : TE}
theorem pe_fld (he : PE X e ta) (hb : attributeBase e f X.env (eval e X.env) = eval e X.env) : PE X (.Attribute e f pos) (tFld X.K ta f) := by
  intro pins s σ H Q I h
  refine attr_of hb (thn (he pins s σ H _ I h) fun u s1 ⟨x, H1, I1, rx, a, C, dx, fs, v, ex, ea, c, n, l, q⟩ => ?_)
  subst ex
  obtain rfl : u = Value.ref a := rx
  exact getattr_ok I1 ea c n l fun u' s2 I2 ru => ⟨v, H1, I2, ru, q⟩
theorem pe_con (he : PE X e ta) (hb : attributeBase e f X.env (eval e X.env) = eval e X.env) : PE X (.Attribute e f pos) (tCon X.K ta f) := by
  intro pins s σ H Q I h
  refine attr_of hb (thn (he pins s σ H _ I h) fun u s1 ⟨x, H1, I1, rx, a, C, dx, fs, v, u0, ex, ea, c, k, l, q⟩ => ?_)
  subst ex
  obtain rfl : u = Value.ref a := rx
  exact getcon_ok I1 ea c k l fun s2 I2 => ⟨v, H1, I2, k.rel, q⟩
theorem ps_fld (ha : PE X o ta) (hv : PE X value tv) (hs : swapsWith value (some (.Attribute o f pos')) pos.line X.env = pure false) : PS X (.Assign [.Attribute o f pos'] value pos) (sFld X.K ta tv f) := by
  intro pins s σ H D I h
  refine plainObj_wpAny_Assign_Attribute (thn (hv pins s σ H _ I h) fun u s1 ⟨y, H1, I1, ry, q⟩ => thn (ha pins s1 σ H1 _ I1 q) fun ov s2 ⟨x, H2, I2, rx, a, C, dx, fs, ex, ea, c, n, l, q2⟩ => ?_) hs
  subst ex
  obtain rfl : ov = Value.ref a := rx
  exact setattr_ok I2 ea c n l ry fun s3 I3 => ⟨σ, _, I3, q2⟩
theorem ps_fldaug {op : Operator} {rd : V → V → Hp → VK → Prop} (ha : PE X o ta) (hv : PE X value tv) (hop : InOp X op rd) : PS X (.AugAssign (.Attribute o f tpos) op value pos) (sFldAug X.K ta tv rd f) := by
  intro pins s σ H D I h
  refine wpAny_AugAssign_AttributeAny (thn (ha pins s σ H _ I h) fun ov s1 ⟨x, H1, I1, rx, a, C, dx, fs, v, ex, ea, c, n, l, q⟩ => ?_)
  subst ex
  obtain rfl : ov = Value.ref a := rx
  refine getattr_ok I1 ea c n l fun u s2 I2 ru => thn (hv pins s2 σ H1 _ I2 q) fun w3 s3 ⟨y, H2, I3, ry, q3⟩ => thn (hop pins s3 σ H2 v y u w3 _ I3 ru ry q3) fun w4 s4 ⟨z, H3, I4, rz, dx', fs', ea', l', q4⟩ => ?_
  exact setattr_ok I4 ea' c n l' rz fun s5 I5 => ⟨σ, _, I5, q4⟩
def rAdd : V → V → Hp → VK → Prop := fun x y H Q => ∃ i j, x = .int i ∧ y = .int j ∧ Q (.int (i + j)) H
def rSub : V → V → Hp → VK → Prop := fun x y H Q => ∃ i j, x = .int i ∧ y = .int j ∧ Q (.int (i - j)) H
theorem in_add : InOp X .Add rAdd := by
  rintro pins s σ H x y u v Q I rx ry ⟨i, j, rfl, rfl, q⟩
  obtain ⟨t, rfl⟩ := (show ∃ t, u = Value.int i t from rx)
  obtain ⟨t', rfl⟩ := (show ∃ t', v = Value.int j t' from ry)
  exact PyProof.Rows.iadd_int ⟨.int (i + j), H, I.tok _, ⟨_, rfl⟩, q⟩
theorem in_sub : InOp X .Sub rSub := by
  rintro pins s σ H x y u v Q I rx ry ⟨i, j, rfl, rfl, q⟩
  obtain ⟨t, rfl⟩ := (show ∃ t, u = Value.int i t from rx)
  obtain ⟨t', rfl⟩ := (show ∃ t', v = Value.int j t' from ry)
  exact PyProof.Rows.isub_int ⟨.int (i - j), H, I.tok _, ⟨_, rfl⟩, q⟩

/-- what is between an instance and its method: the tree of a method call -/
theorem methcall_of {pl : Sem Bool} {m : Str} {apos : Pos} {args : List Expr} {pins : List (Addr × Obj)} {s : Shared} {σ : St} {H : Hp} {Q : Value → Shared → Prop} {te : TE} (he : PE X e te) (I : Inv X pins σ H s)
    (h : te σ H fun x H1 => ∃ a C dx fs g, x = .ref a ∧ H1 a = some (.ins C dx fs) ∧ Cls X.K C ∧ Meth X.K C m g ∧ fs.lookup m = none ∧
      ∀ s1, Inv X pins σ H1 s1 → wpAny (model X.prog X.w) X.A (callWith pos (.ref g) [.ref a] (backTo pos (starEach args X.env)) (backToKw pos (keywordEach [] X.env))) Q X.xe s1)
    (ht : eval (.Call (.Attribute e m apos) args [] pos) X.env = (do
      let ov ← eval e X.env
      standAt apos.atName
      let (f, first) ← holding [ov] (getMethod ov m pl)
      callWith pos f first (backTo pos (starEach args X.env)) (backToKw pos (keywordEach [] X.env)))) :
    wpAny (model X.prog X.w) X.A (eval (.Call (.Attribute e m apos) args [] pos) X.env) Q X.xe s := by
  refine PySem.W.methodCall_KW (pl := pl) (thn (he pins s σ H _ I h) fun u s1 ⟨x, H1, I1, rx, a, C, dx, fs, g, ex, ea, c, k, l, q⟩ => ?_) ht
  subst ex
  obtain rfl : u = Value.ref a := rx
  exact getmeth_ok I1 ea c k l (q s1 I1)
end

/-! ### isinstance -/
section
variable {X : Cx} {pins : List (Addr × Obj)} {σ : St} {H : Hp} {s : Shared} {A : Around} {E : Value → Shared → Prop} {Q : Value → Shared → Prop} {c : Value} {b : Bool}
/-- the type of a value, as the fragment's deciders take it; for an instance its class -/
inductive TyOf (K : PySem.W.Frag) (H : Hp) : V → Value → Prop where
  | non : TyOf K H .non (.type "NoneType")
  | bl (x : Bool) : TyOf K H (.bl x) (.type "bool")
  | int (i : Int) : TyOf K H (.int i) (.type "int")
  | str (x : Str) : TyOf K H (.str x) (.type "str")
  | flt (x : UInt64) : TyOf K H (.flt x) (.type "float")
  | lst {a : Addr} {xs : List V} (e : H a = some (.lst xs)) : TyOf K H (.ref a) (.type "list")
  | frz {a : Addr} {o : Obj} {xs : List V} (e : H a = some (.frz o (.lst xs))) : TyOf K H (.ref a) (.type "list")
  | tup {a : Addr} {xs : List V} (e : H a = some (.tup xs)) : TyOf K H (.ref a) (.type "tuple")
  | dK {a : Addr} {kvs : List (Key × V)} (e : H a = some (.dK kvs)) : TyOf K H (.ref a) (.type "dict")
  | dT {a : Addr} {kvs : List (List Key × V)} (e : H a = some (.dT kvs)) : TyOf K H (.ref a) (.type "dict")
  | ins {a C dx : Addr} {fs : List (Str × V)} (e : H a = some (.ins C dx fs)) (cl : Cls K C) (ha : PySem.W.findIn K (.ref C) "__class__" = some (some (.builtin "object.__class__")))
      (hn : PySem.W.specialIn K (.builtin "object.__class__") "__get__" = some (some (.builtin "getset_descriptor.__get__"))) (htk : PySem.W.takesIn K (.builtin "object.__class__") = some true)
      (hm : PySem.W.mroIn K C (.type "object") = some true) : TyOf K H (.ref a) (.ref C)
/-- isinstance(x, c) for one class c, a built-in or an own one: kitOne's answer -/
theorem isinst_ok {x : V} {u t : Value} (I : Inv X pins σ H s) (rx : RelV x u) (ty : TyOf X.K H x t) (e : PySem.W.kitOne X.K t c = some b) (h : ∀ tk, Q (.bool b) { s with toks := tk }) :
    wpAny (model X.prog X.w) A (call (.builtin "isinstance") [u, c]) Q E s := by
  cases ty with
  | non => cases (show u = Value.none from rx); exact PySem.W.kia_one PySem.W.kitx_none I.kIn True.intro e (fun z => nomatch z) h
  | bl y => cases (show u = Value.bool y from rx); exact PySem.W.kia_one PySem.W.kitx_bool I.kIn True.intro e (fun z => nomatch z) h
  | int i => obtain ⟨t, q⟩ := (show ∃ t, u = Value.int i t from rx); cases q; exact PySem.W.kia_one PySem.W.kitx_int I.kIn True.intro e (fun z => nomatch z) h
  | str y => obtain ⟨t, q⟩ := (show ∃ t, u = Value.str y t from rx); cases q; exact PySem.W.kia_one PySem.W.kitx_str I.kIn True.intro e (fun z => nomatch z) h
  | flt y => obtain ⟨t, q⟩ := (show ∃ t, u = Value.float y t from rx); cases q; exact PySem.W.kia_one PySem.W.kitx_float I.kIn True.intro e (fun z => nomatch z) h
  | @lst a xs ea =>
    cases (show u = Value.ref a from rx)
    obtain ⟨_, _, n, _, h1⟩ := (show ObjOk X.prog X.w H s.heap a (.lst xs) from I.hok a _ ea)
    exact PySem.W.kia_one PySem.W.kitx_list I.kIn ⟨_, h1, rfl⟩ e (fun z => nomatch z) h
  | @frz a ob xs ea =>
    cases (show u = Value.ref a from rx)
    obtain ⟨_, _, _, n, _, h1⟩ := (show ObjOk X.prog X.w H s.heap a (.frz ob (.lst xs)) from I.hok a _ ea)
    exact PySem.W.kia_one PySem.W.kitx_list I.kIn ⟨_, h1, rfl⟩ e (fun z => nomatch z) h
  | @tup a xs ea =>
    cases (show u = Value.ref a from rx)
    obtain ⟨_, _, _, p⟩ := (show ObjOk X.prog X.w H s.heap a (.tup xs) from I.hok a _ ea)
    obtain ⟨o, h1, h2, _⟩ := p
    exact PySem.W.kia_one PySem.W.kitx_tuple I.kIn ⟨o, h1, h2⟩ e (fun z => nomatch z) h
  | @dK a kvs ea =>
    cases (show u = Value.ref a from rx)
    obtain ⟨_, _, vs, _, p⟩ := (show ObjOk X.prog X.w H s.heap a (.dK kvs) from I.hok a _ ea)
    obtain ⟨o, es, ep, h1, h2, _⟩ := p
    exact PySem.W.kia_one PySem.W.kitx_dict I.kIn ⟨o, h1, h2.1⟩ e (fun z => nomatch z) h
  | @dT a kvs ea =>
    cases (show u = Value.ref a from rx)
    obtain ⟨_, _, xs, _, o, es, ep, h1, h2, _⟩ := (show ObjOk X.prog X.w H s.heap a (.dT kvs) from I.hok a _ ea)
    exact PySem.W.kia_one PySem.W.kitx_dict I.kIn ⟨o, h1, h2.1⟩ e (fun z => nomatch z) h
  | @ins a C dx fs ea cl ha hn htk hm =>
    cases (show u = Value.ref a from rx)
    obtain ⟨mA, O, _⟩ := ins_get I.hok ea
    obtain ⟨od, J, _⟩ := O.look
    exact PySem.W.kia_one (PySem.W.kitx_own (cl.get _) cl.hd ha hn htk hm) I.kIn J e (fun z => nomatch z) h
end
end L2

namespace L2
open PySem PySem.Spec PyProof.Rows

/-! ### room -/
structure Room (k : Nat) (A : Around) : Prop where
  hd : A.handled = none
  dp : A.depth + 3 * k + 5 < recursionLimit
  un : A.units + 16 * k + 200 < cLine
theorem Room.mono {j k : Nat} {A : Around} (r : Room k A) (h : j ≤ k) : Room j A := ⟨r.hd, by have := r.dp; omega, by have := r.un; omega⟩
theorem Room.deeper {k : Nat} {A : Around} (r : Room (k + 1) A) (env : Env) : Room k (A.deeper env) :=
  ⟨r.hd, by have := r.dp; show A.depth + 1 + 3 * k + 5 < _; omega, by have := r.un; show A.units + 3 + 16 * k + 200 < _; omega⟩
theorem Room.in1 {k : Nat} {A : Around} (r : Room (k + 1) A) : Room k A.in1 :=
  ⟨r.hd, by have := r.dp; show A.depth + 3 * k + 5 < _; omega, by have := r.un; show A.units + 1 + 16 * k + 200 < _; omega⟩
theorem make_depth {A : Around} {C : Addr} {us : List Value} {kw : List (Str × Value)} : (A.under (.builtin "type.__call__" ⟨.ref C :: us, kw⟩)).depth = A.depth + 1 := by
  first | rfl | simp [Around.under, Code.weight, Code.isCreation, Code.isGuard, Code.isCaller, Code.frames, Code.isFrame, guardIds]
theorem make_units {A : Around} {C : Addr} {us : List Value} {kw : List (Str × Value)} : (A.under (.builtin "type.__call__" ⟨.ref C :: us, kw⟩)).units = A.units + 1 := by
  first | rfl | simp [Around.under, Code.cUnits, Code.frames, Code.isFrame]
theorem Room.make {k : Nat} {A : Around} (r : Room (k + 1) A) (C : Addr) (us : List Value) (kw : List (Str × Value)) : Room k (A.under (.builtin "type.__call__" ⟨.ref C :: us, kw⟩)) :=
  ⟨r.hd, by have := r.dp; rw [make_depth]; omega, by have := r.un; rw [make_units]; omega⟩
theorem Room.depth {k : Nat} {A : Around} (r : Room k A) : A.depth < recursionLimit := by have := r.dp; omega
theorem Room.units {k : Nat} {A : Around} (r : Room k A) : A.units + 64 < cLine := by have := r.un; omega
theorem Room.units0 {k : Nat} {A : Around} (r : Room k A) : A.units < cLine := by have := r.un; omega

/-! ### argument lists and displays -/
def tNil : TA := fun _ H Q => Q [] H
def tCons (ta : TE) (tr : TA) : TA := fun σ H Q => ta σ H fun x H1 => tr σ H1 fun xs H2 => Q (x :: xs) H2
section
variable {X : Cx} {e : Expr} {es : List Expr} {te : TE} {t : TA} {pos : Pos}
theorem pa_nil : PA X [] tNil := fun _ _ _ _ H Q I h => Calls.spliced_nil ⟨[], H, I, .nil, h⟩
theorem pa_cons (ha : PE X e te) (hr : PA X es t) (hs : starEach (e :: es) X.env = (false, eval e X.env) :: starEach es X.env := by rfl) : PA X (e :: es) (tCons te t) := by
  intro pos pins s σ H Q I h
  rw [hs]
  show wpAny _ _ (spliced ((false, eval e X.env) :: backTo pos (starEach es X.env))) _ _ s
  refine Calls.spliced_cons (thn (ha pins s σ H _ I h) fun u s1 ⟨x, H1, I1, r1, q1⟩ => ?_)
  exact thn (hr pos pins s1 σ H1 _ I1 q1) fun us s2 ⟨xs, H2, I2, r2, q2⟩ => ⟨x :: xs, H2, I2, .cons r1 r2, q2⟩

/-- a tuple, a list of written items -/
def tTup (t : TA) : TE := fun σ H Q => t σ H fun xs H1 => xs.length ≤ sizeLine ∧ ∀ p, H1 p = none → Q (.ref p) (upd H1 p (.tup xs))
def tLst (t : TA) : TE := fun σ H Q => t σ H fun xs H1 => xs.length ≤ sizeLine ∧ ∀ p, H1 p = none → Q (.ref p) (upd H1 p (.lst xs))
theorem pe_tup {x1} (h : PA X es t) : PE X (.Tuple es x1 pos) (tTup t) := by
  intro pins s σ H Q I hq
  refine wpAny_Tuple_spliced (thn (h pos pins s σ H _ I hq) fun us s1 ⟨xs, H1, I1, r, z, q⟩ => ⟨by rw [← r.length]; exact z, ?_⟩)
  have hf : H1 s1.heap.objs.size = none := I1.hok.fresh (Nat.le_refl _)
  refine ⟨.ref s1.heap.objs.size, upd H1 s1.heap.objs.size (.tup xs), I1.laid (t' := s1.toks) (fun b u e => Heap.get?_push_of_some _ e) (Nat.le_refl _) ?_, rfl, q _ hf⟩
  exact ⟨z, us, r, ⟨_, Heap.get?_push_size _ rfl, rfl, _, rfl⟩⟩
theorem pe_lst (h : PA X es t) : PE X (.List es pos) (tLst t) := by
  intro pins s σ H Q I hq
  refine wpAny_List_spliced (thn (h pos pins s σ H _ I hq) fun us s1 ⟨xs, H1, I1, r, z, q⟩ => ⟨by rw [← r.length]; exact z, ?_⟩)
  have hf : H1 s1.heap.objs.size = none := I1.hok.fresh (Nat.le_refl _)
  refine ⟨.ref s1.heap.objs.size, upd H1 s1.heap.objs.size (.lst xs), I1.laid (t' := s1.toks) (fun b u e => Heap.get?_push_of_some _ e) (Nat.le_refl _) ?_, rfl, q _ hf⟩
  exact ⟨z, us, 0, r, Heap.get?_push_size _ rfl⟩
end

/-! ### what a def promises -/
/-- a def's promise: the bound arguments in the parameters' order, the heap, the wanted end, the wanted exception -/
abbrev Sp := List V → Hp → VK → XK → Prop
/-- how an exception lies behind a call (file 08 gives it): the callers' frames, abstract heap and state ahead of the call, the wish, the exception, the state -/
abbrev CXT := List Env → Hp → Shared → XK → Value → Shared → Prop

/-- the state at a call -/
structure Env0 (P : Program) (w : World) (K : PySem.W.Frag) (mg : Str → Option Value) (base : Heap) (A : Around) (outer : List Env) (s : Shared) (H : Hp) : Prop where
  frames : A.frames = some outer
  mod : Mod K mg base
  bs : ∀ b o, base.get? b = some o → s.heap.get? b = some o ∧ H b = none
  bsz : base.objs.size ≤ s.heap.objs.size
  funs : s.heap.FunFrames base outer
  frf : ∀ b ∈ frs outer, H b = none
  hok : HOk P w H s.heap
  bare : AllBare s.gens
/-- a call's end -/
def CE (outer : List Env) (P : Program) (w : World) (H : Hp) (s : Shared) (Q : VK) (u : Value) (s' : Shared) : Prop :=
  ∃ v H', s'.os = s.os ∧ AllBare s'.gens ∧ Un (frs outer) [] H H' s.heap s'.heap ∧ HOk P w H' s'.heap ∧ RelV v u ∧ Q v H'
def CR (CX : CXT) (outer : List Env) (P : Program) (w : World) (H : Hp) (s : Shared) (Q : VK) (E : XK) (r : Result) (s' : Shared) : Prop :=
  match r with
  | .ok (.ret u) => CE outer P w H s Q u s'
  | .ok _ => False
  | .error e => CX outer H s E e s'
structure FnOk (P : Program) (w : World) (K : PySem.W.Frag) (mg : Str → Option Value) (base : Heap) (CX : CXT) (k : Nat) (f : Addr) (fd : FuncData) (ps : List Str) (sp : Sp) : Prop where
  len : ∀ vs H Q E, sp vs H Q E → vs.length = ps.length
  run : ∀ (A : Around) (outer : List Env) (s : Shared) (H : Hp) (args : Args) (us : List Value) (vs : List V) (Q : VK) (E : XK), Room k A → Env0 P w K mg base A outer s H → BindsTo s fd args (ps.zip us) → Vals vs us → sp vs H Q E →
    codeAny (model P w) A (.call (.ref f) args) (CR CX outer P w H s Q E) s
theorem FnOk.mono {P : Program} {w : World} {K : PySem.W.Frag} {mg : Str → Option Value} {base : Heap} {CX : CXT} {j k : Nat} {f : Addr} {fd : FuncData} {ps : List Str} {sp : Sp} (F : FnOk P w K mg base CX j f fd ps sp) (h : j ≤ k) :
    FnOk P w K mg base CX k f fd ps sp := ⟨F.len, fun A outer s H args us vs Q E hr => F.run A outer s H args us vs Q E (hr.mono h)⟩
/-- a weaker promise -/
theorem FnOk.imp {P : Program} {w : World} {K : PySem.W.Frag} {mg : Str → Option Value} {base : Heap} {CX : CXT} {k : Nat} {f : Addr} {fd : FuncData} {ps : List Str} {sp sp' : Sp} (F : FnOk P w K mg base CX k f fd ps sp)
    (h : ∀ vs H Q E, sp' vs H Q E → sp vs H Q E) : FnOk P w K mg base CX k f fd ps sp' :=
  ⟨fun vs H Q E q => F.len vs H Q E (h _ _ _ _ q), fun A outer s H args us vs Q E hr he hb hv hs => F.run A outer s H args us vs Q E hr he hb hv (h _ _ _ _ hs)⟩

theorem Env0.make {P : Program} {w : World} {K : PySem.W.Frag} {mg : Str → Option Value} {base : Heap} {A : Around} {outer : List Env} {s : Shared} {H : Hp} (e : Env0 P w K mg base A outer s H) (C : Addr) (us : List Value) (kw : List (Str × Value)) :
    Env0 P w K mg base (A.under (.builtin "type.__call__" ⟨.ref C :: us, kw⟩)) outer s H := ⟨by first | exact e.frames | (simpa [Around.under, Code.envs, Code.isFrame, pushEnvs] using e.frames), e.mod, e.bs, e.bsz, e.funs, e.frf, e.hok, e.bare⟩
theorem Env0.in1 {P : Program} {w : World} {K : PySem.W.Frag} {mg : Str → Option Value} {base : Heap} {A : Around} {outer : List Env} {s : Shared} {H : Hp} (e : Env0 P w K mg base A outer s H) :
    Env0 P w K mg base A.in1 outer s H := ⟨e.frames, e.mod, e.bs, e.bsz, e.funs, e.frf, e.hok, e.bare⟩

section
variable {X : Cx} {pins : List (Addr × Obj)} {σ : St} {H : Hp} {s s' : Shared}
/-- from a body: what a callee wants -/
theorem Inv.env0 (I : Inv X pins σ H s) : Env0 X.prog X.w X.K X.mg X.base X.A X.stack s H :=
  ⟨I.ok.frames, I.ok.mod, I.bs, Nat.le_trans I.ok.bsz I.sz, I.stack, I.stkFree, I.hok, I.bare⟩
/-- behind a call -/
theorem Inv.after {Q : VK} {u : Value} (I : Inv X pins σ H s) (h : CE X.stack X.prog X.w H s Q u s') : EP X pins σ Q u s' := by
  obtain ⟨v, H', os, bare, un, hok, r, q⟩ := h
  obtain ⟨hh, g, d, t, os'⟩ := s'
  obtain rfl : os' = s.os := os
  exact ⟨v, H', I.call (h' := hh) (g' := g) (d' := d) (t' := t) (ch := []) un hok bare (fun b z => absurd z (by simp)), r, q⟩
end

/-! ### calls -/
/-- f(..): the written arguments, then the defaults dvs; E: what is wanted of an exception -/
def tCall (sp : Sp) (dvs : List V) (E : XK) (t : TA) : TE := fun σ H Q => t σ H fun vs H1 => sp (vs ++ dvs) H1 Q E
/-- o.m(..) of an instance of the class at C -/
def tMeth (C : Addr) (m : Str) (sp : Sp) (dvs : List V) (E : XK) (ta : TE) (t : TA) : TE := fun σ H Q => ta σ H fun x H1 => ∃ a dx fs, x = .ref a ∧ H1 a = some (.ins C dx fs) ∧ fs.lookup m = none ∧
  t σ H1 fun vs H2 => sp (x :: (vs ++ dvs)) H2 Q E
/-- C(..): a new instance and its dict, then __init__ -/
def tMake (C : Addr) (sp : Sp) (dvs : List V) (E : XK) (t : TA) : TE := fun σ H Q => t σ H fun vs H1 => ∀ x dx, H1 x = none → H1 dx = none → dx ≠ x →
  sp (.ref x :: (vs ++ dvs)) (upd (upd H1 dx (.own x)) x (.ins C dx [])) (fun v H2 => v = .non ∧ Q (.ref x) H2) E

/-- how the parameters are bound: us the positional arguments, kw the keywords' values by name, ds the defaults that fill up -/
def Binds (K : PySem.W.Frag) (fd : FuncData) (ps : List Str) (ds : List Value) : Prop :=
  ∀ (s : Shared) (us : List Value), K.In s.heap → (us ++ ds).length = ps.length → BindsTo s fd ⟨us, []⟩ (ps.zip (us ++ ds))
/-- every parameter is given -/
theorem Binds.all {K : PySem.W.Frag} {fd : FuncData} {ps : List Str} (h : ∀ us : List Value, us.length = ps.length → bindArgs fd ⟨us, []⟩ = pure (ps.zip us)) : Binds K fd ps [] := fun s us _ hl => by
  rw [List.append_nil] at hl ⊢
  exact .of_eq (h us hl)

/-- an exception of a callee reaches what this body wants of exceptions -/
def Passes (CX : CXT) (X : Cx) (E : XK) : Prop := ∀ (pins : List (Addr × Obj)) (σ : St) (H : Hp) (s : Shared) (e : Value) (s' : Shared), Inv X pins σ H s → CX X.stack H s E e s' → X.xe e s'

section
variable {X : Cx} {CX : CXT} {k : Nat} {f C : Addr} {fd : FuncData} {ps : List Str} {sp : Sp} {dvs : List V} {ds : List Value} {E : XK} {x m : Str} {p pos apos : Pos} {e o : Expr} {es : List Expr} {ta : TE} {t : TA}

/-- the callee runs -/
theorem run_fn {pins : List (Addr × Obj)} {σ : St} {H : Hp} {s : Shared} {Q : VK} {us : List Value} {vs : List V} (F : FnOk X.prog X.w X.K X.mg X.base CX k f fd ps sp) (hr : Room k X.A) (hb : Binds X.K fd ps ds) (hd : Vals dvs ds) (hx : Passes CX X E)
    (I : Inv X pins σ H s) (r : Vals vs us) (h : sp (vs ++ dvs) H Q E) : wpAny (model X.prog X.w) X.A (call (.ref f) us) (EP X pins σ Q) X.xe s := by
  have r2 : Vals (vs ++ dvs) (us ++ ds) := r.append hd
  have hl : (us ++ ds).length = ps.length := by rw [← r2.length]; exact F.len _ _ _ _ h
  refine wpAny_call (codeAny_mono (F.run X.A X.stack s H ⟨us, []⟩ (us ++ ds) (vs ++ dvs) Q E hr I.env0 (hb s us I.kIn hl) r2 h) fun r s' hq => ?_)
  cases r with
  | error e => exact hx pins σ H s e s' I hq
  | ok fl =>
    cases fl with
    | ret u => exact I.after hq
    | next => exact False.elim hq
    | brk => exact False.elim hq
    | cont => exact False.elim hq

theorem pe_call (F : FnOk X.prog X.w X.K X.mg X.base CX k f fd ps sp) (hr : Room k X.A) (hg : Gl X x) (hm : X.mg x = some (.ref f)) (hk : PySem.W.keepIn X.K (.ref f) = true) (hb : Binds X.K fd ps ds) (hd : Vals dvs ds) (hx : Passes CX X E)
    (ha : PA X (e :: es) t) (hdb : (x == ("__debug__" : Str)) = false := by decide) (he : starEach (e :: es) X.env = (false, eval e X.env) :: starEach es X.env := by rfl) (hpl : (backTo pos (starEach es X.env)).any (·.1) = false := by rfl) :
    PE X (.Call (.Name x p) (e :: es) [] pos) (tCall sp dvs E t) := by
  intro pins s σ H Q I h
  refine wpAny_Call_Name_kw (ld_glob I hg hm ?_ hdb)
  refine PySem.W.callWith_K (h₀ := X.base) I.ok.mod.kin hk (thn (ha pos pins s σ H _ I h) fun us s1 ⟨vs, H1, I1, r, q⟩ => ⟨I1.kIn, ?_⟩) he hpl
  exact run_fn F hr hb hd hx I1 r q
theorem pe_call0 (F : FnOk X.prog X.w X.K X.mg X.base CX k f fd ps sp) (hr : Room k X.A) (hg : Gl X x) (hm : X.mg x = some (.ref f)) (hk : PySem.W.keepIn X.K (.ref f) = true) (hb : Binds X.K fd ps ds) (hd : Vals dvs ds) (hx : Passes CX X E)
    (hdb : (x == ("__debug__" : Str)) = false := by decide) : PE X (.Call (.Name x p) [] [] pos) (tCall sp dvs E tNil) := by
  intro pins s σ H Q I h
  refine wpAny_Call_Name_kw (ld_glob I hg hm ?_ hdb)
  exact PySem.W.callWith_K0 I.kIn hk (run_fn (us := []) F hr hb hd hx I .nil h)

/-- o.m(e, ..) -/
theorem pe_meth {pl : Sem Bool} (he : PE X o ta) (c : Cls X.K C) (hm : Meth X.K C m f) (F : FnOk X.prog X.w X.K X.mg X.base CX k f fd ps sp) (hr : Room k X.A) (hb : Binds X.K fd ps ds) (hd : Vals dvs ds) (hx : Passes CX X E) (ha : PA X (e :: es) t)
    (hst : starEach (e :: es) X.env = (false, eval e X.env) :: starEach es X.env := by rfl) (hpl : (backTo pos (starEach es X.env)).any (·.1) = false := by rfl)
    (ht : eval (.Call (.Attribute o m apos) (e :: es) [] pos) X.env = (do
      let ov ← eval o X.env
      standAt apos.atName
      let (f, first) ← holding [ov] (getMethod ov m pl)
      callWith pos f first (backTo pos (starEach (e :: es) X.env)) (backToKw pos (keywordEach [] X.env))) := by rfl) :
    PE X (.Call (.Attribute o m apos) (e :: es) [] pos) (tMeth C m sp dvs E ta t) := by
  intro pins s σ H Q I h
  refine PySem.W.methodCall_KW (pl := pl) (thn (he pins s σ H _ I h) fun u s1 ⟨x, H1, I1, rx, a, dx, fs, ex, ea, l, q⟩ => ?_) ht
  subst ex
  obtain rfl : u = Value.ref a := rx
  refine getmeth_ok I1 ea c hm l ?_
  refine PySem.W.callWith_K (first := [.ref a]) (h₀ := X.base) I.ok.mod.kin hm.kp (thn (ha pos pins s1 σ H1 _ I1 q) fun us s2 ⟨vs, H2, I2, r, q2⟩ => ⟨I2.kIn, ?_⟩) hst hpl
  exact run_fn (us := .ref a :: us) (vs := .ref a :: vs) F hr hb hd hx I2 (.cons rfl r) q2
/-- o.m() -/
theorem pe_meth0 {pl : Sem Bool} (he : PE X o ta) (c : Cls X.K C) (hm : Meth X.K C m f) (F : FnOk X.prog X.w X.K X.mg X.base CX k f fd ps sp) (hr : Room k X.A) (hb : Binds X.K fd ps ds) (hd : Vals dvs ds) (hx : Passes CX X E)
    (ht : eval (.Call (.Attribute o m apos) [] [] pos) X.env = (do
      let ov ← eval o X.env
      standAt apos.atName
      let (f, first) ← holding [ov] (getMethod ov m pl)
      callWith pos f first (backTo pos (starEach [] X.env)) (backToKw pos (keywordEach [] X.env))) := by rfl) :
    PE X (.Call (.Attribute o m apos) [] [] pos) (tMeth C m sp dvs E ta tNil) := by
  intro pins s σ H Q I h
  refine PySem.W.methodCall_KW (pl := pl) (thn (he pins s σ H _ I h) fun u s1 ⟨x, H1, I1, rx, a, dx, fs, ex, ea, l, q⟩ => ?_) ht
  subst ex
  obtain rfl : u = Value.ref a := rx
  refine getmeth_ok I1 ea c hm l ?_
  exact PySem.W.callWith_K0 (first := [.ref a]) I1.kIn hm.kp (run_fn (us := [.ref a]) (vs := [.ref a]) F hr hb hd hx I1 (.cons rfl .nil) q)

/-- what a class must have to be made -/
structure Mk (K : PySem.W.Frag) (C f : Addr) : Prop where
  makes : PySem.W.makesIn K C = true
  init : PySem.W.findIn K (.ref C) "__init__" = some (some (.ref f))
  fn : PySem.W.isFn K (.ref f) = true
  kp : PySem.W.keepIn K (.ref C) = true

theorem run_make {pins : List (Addr × Obj)} {σ : St} {H : Hp} {s : Shared} {Q : VK} {us : List Value} {vs : List V} (M : Mk X.K C f) (F : FnOk X.prog X.w X.K X.mg X.base CX k f fd ps sp) (hr : Room (k + 1) X.A) (hb : Binds X.K fd ps ds) (hd : Vals dvs ds)
    (hx : Passes CX X E) (I : Inv X pins σ H s) (r : Vals vs us)
    (h : ∀ x dx, H x = none → H dx = none → dx ≠ x → sp (.ref x :: (vs ++ dvs)) (upd (upd H dx (.own x)) x (.ins C dx [])) (fun v H2 => v = .non ∧ Q (.ref x) H2) E) :
    wpAny (model X.prog X.w) X.A (call (.ref C) us) (EP X pins σ Q) X.xe s := by
  have hq := h (s.heap.objs.size + 1) s.heap.objs.size (I.hok.fresh (Nat.le_succ _)) (I.hok.fresh (Nat.le_refl _)) (Nat.ne_of_lt (Nat.lt_succ_self _))
  have I2 := Inv.made (C := C) I
  have r2 : Vals (V.ref (s.heap.objs.size + 1) :: (vs ++ dvs)) (Value.ref (s.heap.objs.size + 1) :: (us ++ ds)) := .cons rfl (r.append hd)
  have hl : (Value.ref (s.heap.objs.size + 1) :: us ++ ds).length = ps.length := by
    have e := r2.length
    rw [F.len _ _ _ _ hq] at e
    exact e.symm
  refine wpAny_call (make_map (f := f) I.kIn M.makes M.init (beq_iff_eq.mp M.fn) (codeAny_mono (F.run _ X.stack _ _ ⟨Value.ref (s.heap.objs.size + 1) :: us, []⟩ (Value.ref (s.heap.objs.size + 1) :: (us ++ ds)) _ _ E (hr.make C us [])
    (I2.env0.make C us []) (hb _ (Value.ref (s.heap.objs.size + 1) :: us) I2.kIn hl) r2 hq) fun r s' hq' => ?_))
  cases r with
  | error e => exact hx pins σ _ _ e s' I2 hq'
  | ok fl =>
    cases fl with
    | ret u =>
      obtain ⟨v, H', I3, rv, ev, q3⟩ := I2.after hq'
      subst ev
      exact ⟨rv, ⟨V.ref (s.heap.objs.size + 1), H', I3, rfl, q3⟩⟩
    | next => exact False.elim hq'
    | brk => exact False.elim hq'
    | cont => exact False.elim hq'
theorem pe_make (M : Mk X.K C f) (F : FnOk X.prog X.w X.K X.mg X.base CX k f fd ps sp) (hr : Room (k + 1) X.A) (hg : Gl X x) (hm : X.mg x = some (.ref C)) (hb : Binds X.K fd ps ds) (hd : Vals dvs ds) (hx : Passes CX X E)
    (ha : PA X (e :: es) t) (hdb : (x == ("__debug__" : Str)) = false := by decide) (he : starEach (e :: es) X.env = (false, eval e X.env) :: starEach es X.env := by rfl) (hpl : (backTo pos (starEach es X.env)).any (·.1) = false := by rfl) :
    PE X (.Call (.Name x p) (e :: es) [] pos) (tMake C sp dvs E t) := by
  intro pins s σ H Q I h
  refine wpAny_Call_Name_kw (ld_glob I hg hm ?_ hdb)
  refine PySem.W.callWith_K (h₀ := X.base) I.ok.mod.kin M.kp (thn (ha pos pins s σ H _ I h) fun us s1 ⟨vs, H1, I1, r, q⟩ => ⟨I1.kIn, ?_⟩) he hpl
  exact run_make M F hr hb hd hx I1 r q
theorem pe_make0 (M : Mk X.K C f) (F : FnOk X.prog X.w X.K X.mg X.base CX k f fd ps sp) (hr : Room (k + 1) X.A) (hg : Gl X x) (hm : X.mg x = some (.ref C)) (hb : Binds X.K fd ps ds) (hd : Vals dvs ds) (hx : Passes CX X E)
    (hdb : (x == ("__debug__" : Str)) = false := by decide) : PE X (.Call (.Name x p) [] [] pos) (tMake C sp dvs E tNil) := by
  intro pins s σ H Q I h
  refine wpAny_Call_Name_kw (ld_glob I hg hm ?_ hdb)
  exact PySem.W.callWith_K0 I.kIn M.kp (run_make (us := []) M F hr hb hd hx I .nil h)
end

/-! ### keywords -/
/-- the values of the keywords, from the left -/
def PK (X : Cx) (kws : List Keyword) (t : TA) : Prop :=
  ∀ (pos : Pos) (pins : List (Addr × Obj)) (s : Shared) (σ : St) (H : Hp) (Q : List V → Hp → Prop), Inv X pins σ H s → t σ H Q → wpAny (model X.prog X.w) X.A (evalAll ((backToKw pos (keywordEach kws X.env)).map (·.2))) (AP X pins σ Q) X.xe s
section
variable {X : Cx} {CX : CXT} {k : Nat} {f C : Addr} {fd : FuncData} {ps ks : List Str} {sp : Sp} {E : XK} {x m : Str} {p pos apos kpos : Pos} {e o : Expr} {es : List Expr} {kws : List Keyword} {te ta : TE} {t tk : TA} {nm : Option Str}
theorem pk_nil : PK X [] tNil := fun _ _ _ _ H Q I h => wpAny_evalAll_nil ⟨[], H, I, .nil, h⟩
theorem pk_cons (ha : PE X e te) (hr : PK X kws t) : PK X (⟨nm, e, kpos⟩ :: kws) (tCons te t) := by
  intro pos pins s σ H Q I h
  show wpAny _ _ (evalAll ((do let v ← eval e X.env; standAt pos; pure v) :: (backToKw pos (keywordEach kws X.env)).map (·.2))) _ _ s
  refine wpAny_evalAll_cons (wpAny_bind (thn (ha pins s σ H _ I h) fun u s1 ⟨x, H1, I1, r1, q1⟩ => wpAny_bind (wpAny_standAt (wpAny_pure ?_))))
  exact thn (hr pos pins s1 σ H1 _ I1 q1) fun us s2 ⟨xs, H2, I2, r2, q2⟩ => ⟨x :: xs, H2, I2, .cons r1 r2, q2⟩

/-- how a call with keywords binds: g puts the positional values us and the keywords' values ws (names ks) in the parameters' order, defaults among them -/
structure KBinds (K : PySem.W.Frag) (fd : FuncData) (ps ks : List Str) (g : List Value → List Value → List Value) (gV : List V → List V → List V) : Prop where
  to : ∀ (s : Shared) (us ws : List Value), K.In s.heap → (g us ws).length = ps.length → BindsTo s fd ⟨us, ks.zip ws⟩ (ps.zip (g us ws))
  rel : ∀ {vs : List V} {us : List Value} {zs : List V} {ws : List Value}, Vals vs us → Vals zs ws → Vals (gV vs zs) (g us ws)
def tCallK (sp : Sp) (gV : List V → List V → List V) (E : XK) (t tk : TA) : TE := fun σ H Q => t σ H fun vs H1 => tk σ H1 fun zs H2 => sp (gV vs zs) H2 Q E
variable {g : List Value → List Value → List Value} {gV : List V → List V → List V}
theorem run_fnk {pins : List (Addr × Obj)} {σ : St} {H : Hp} {s : Shared} {Q : VK} {us ws : List Value} {vs zs : List V} (F : FnOk X.prog X.w X.K X.mg X.base CX k f fd ps sp) (hr : Room k X.A) (hb : KBinds X.K fd ps ks g gV) (hx : Passes CX X E)
    (I : Inv X pins σ H s) (r : Vals vs us) (rz : Vals zs ws) (h : sp (gV vs zs) H Q E) : wpAny (model X.prog X.w) X.A (call (.ref f) us (ks.zip ws)) (EP X pins σ Q) X.xe s := by
  have r2 := hb.rel r rz
  have hl : (g us ws).length = ps.length := by rw [← r2.length]; exact F.len _ _ _ _ h
  refine wpAny_call (codeAny_mono (F.run X.A X.stack s H ⟨us, ks.zip ws⟩ (g us ws) (gV vs zs) Q E hr I.env0 (hb.to s us ws I.kIn hl) r2 h) fun r s' hq => ?_)
  cases r with
  | error e => exact hx pins σ H s e s' I hq
  | ok fl =>
    cases fl with
    | ret u => exact I.after hq
    | next => exact False.elim hq
    | brk => exact False.elim hq
    | cont => exact False.elim hq
/-- f(e, .., k = v, ..) -/
theorem pe_callK (F : FnOk X.prog X.w X.K X.mg X.base CX k f fd ps sp) (hr : Room k X.A) (hg : Gl X x) (hm : X.mg x = some (.ref f)) (hk : PySem.W.keepIn X.K (.ref f) = true) (hb : KBinds X.K fd ps ks g gV) (hx : Passes CX X E)
    (ha : PA X (e :: es) t) (hkw : PK X kws tk) (hall : (backToKw pos (keywordEach kws X.env)).all (·.1.isSome) = true := by rfl) (hks : (backToKw pos (keywordEach kws X.env)).filterMap (·.1) = ks := by rfl)
    (hdb : (x == ("__debug__" : Str)) = false := by decide) (he : starEach (e :: es) X.env = (false, eval e X.env) :: starEach es X.env := by rfl)
    (hpl : ((backTo pos (starEach (e :: es) X.env)).any (·.1) || (backToKw pos (keywordEach kws X.env)).any (·.1.isNone)) = false := by rfl) :
    PE X (.Call (.Name x p) (e :: es) kws pos) (tCallK sp gV E t tk) := by
  intro pins s σ H Q I h
  refine wpAny_Call_Name_kw (ld_glob I hg hm ?_ hdb)
  refine PySem.W.callWith_KW (h₀ := X.base) I.ok.mod.kin hk hall (thn (ha pos pins s σ H _ I h) fun us s1 ⟨vs, H1, I1, r, q⟩ => ?_) hpl he
  refine thn (hkw pos pins s1 σ H1 _ I1 q) fun ws s2 ⟨zs, H2, I2, rz, q2⟩ => ⟨I2.kIn, ?_⟩
  rw [hks]
  exact run_fnk F hr hb hx I2 r rz q2
end

/-! ### a def's body keeps its promise -/
/-- names: the parameters first -/
structure FnScope (N P : List Str) (sc : Scope) : Prop where
  kind : sc.kind = .function
  co : sc.isCoroutine = false
  gen : sc.isGenerator = false
  nd : N.Nodup
  pre : N.take P.length = P
  par : ∀ x ∈ P, sc.names.lookup x = some .local ∨ sc.names.lookup x = some .cell
  nofree : ∀ y ∈ sc.names, y.2 ≠ .free

theorem bindL_out {kindOf : Str → Option NameKind} {x : Str} : ∀ {binds : List (Str × Value)} {m : Str → Option Value}, (∀ v, (x, v) ∉ binds) → bindL kindOf binds m x = m x
  | [], _, _ => rfl
  | (n, v) :: r, m, h => by
    unfold bindL
    rw [bindL_out fun w hw => h w (List.mem_cons_of_mem _ hw)]
    split
    · have : x ≠ n := by rintro rfl; exact h v List.mem_cons_self
      simp [this]
    · rfl
theorem bindC_out {kindOf : Str → Option NameKind} {x : Str} : ∀ {binds : List (Str × Value)} {m : Str → Option Value}, (∀ v, (x, v) ∉ binds) → bindC kindOf binds m x = m x
  | [], _, _ => rfl
  | (n, v) :: r, m, h => by
    unfold bindC
    rw [bindC_out fun w hw => h w (List.mem_cons_of_mem _ hw)]
    split
    · rfl
    · have : x ≠ n := by rintro rfl; exact h v List.mem_cons_self
      simp [this]
theorem bindL_get {kindOf : Str → Option NameKind} {x : Str} {v : Value} : ∀ {P : List Str} {vs : List Value} {i : Nat} {m : Str → Option Value}, P.Nodup → P[i]? = some x → vs[i]? = some v → kindOf x = some .local →
    bindL kindOf (P.zip vs) m x = some v
  | [], _, _, _, _, h, _, _ => by simp at h
  | _ :: _, [], _, _, _, _, h, _ => by simp at h
  | p :: P, w :: vs, 0, m, nd, h1, h2, hk => by
    simp at h1 h2; subst h1; subst h2
    show bindL kindOf ((p, w) :: P.zip vs) m p = _
    unfold bindL
    rw [bindL_out fun v hv => (List.nodup_cons.mp nd).1 (List.of_mem_zip hv).1, if_pos hk]
    simp
  | p :: P, w :: vs, i + 1, m, nd, h1, h2, hk => by
    show bindL kindOf ((p, w) :: P.zip vs) m x = _
    unfold bindL
    exact bindL_get (i := i) (List.nodup_cons.mp nd).2 (by simpa using h1) (by simpa using h2) hk
theorem bindC_get {kindOf : Str → Option NameKind} {x : Str} {v : Value} : ∀ {P : List Str} {vs : List Value} {i : Nat} {m : Str → Option Value}, P.Nodup → P[i]? = some x → vs[i]? = some v → kindOf x ≠ some .local →
    bindC kindOf (P.zip vs) m x = some v
  | [], _, _, _, _, h, _, _ => by simp at h
  | _ :: _, [], _, _, _, _, h, _ => by simp at h
  | p :: P, w :: vs, 0, m, nd, h1, h2, hk => by
    simp at h1 h2; subst h1; subst h2
    show bindC kindOf ((p, w) :: P.zip vs) m p = _
    unfold bindC
    rw [bindC_out fun v hv => (List.nodup_cons.mp nd).1 (List.of_mem_zip hv).1, if_neg hk]
    simp
  | p :: P, w :: vs, i + 1, m, nd, h1, h2, hk => by
    show bindC kindOf ((p, w) :: P.zip vs) m x = _
    unfold bindC
    exact bindC_get (i := i) (List.nodup_cons.mp nd).2 (by simpa using h1) (by simpa using h2) hk

/-- the names' values at the entry -/
def start (N : List Str) (vs : List V) : St := vs.map some ++ List.replicate (N.length - vs.length) none

/-- the context of a def's body, at its entry; an exception leaves the frame, then lies as CX says -/
def cxOf (CX : CXT) (P : Program) (w : World) (K : PySem.W.Frag) (mg : Str → Option Value) (base : Heap) (N : List Str) (qual : Str) (scope : Scope) (f : Addr) (cd : Value) (A : Around) (outer : List Env) (s : Shared) (H : Hp) (E : XK) : Cx where
  prog := P
  w := w
  K := K
  mg := mg
  base := base
  A := A.deeper (envOfC qual scope s.heap.objs.size f cd)
  N := N
  s₀ := s
  H₀ := H
  env := envOfC qual scope s.heap.objs.size f cd
  outer := outer
  stack := envOfC qual scope s.heap.objs.size f cd :: outer
  ex := []
  calm := true
  fn := fun _ => true
  pn := []
  xe := fun e s' => wpAny (model P w) (A.deeper (envOfC qual scope s.heap.objs.size f cd)) (leaving (envOfC qual scope s.heap.objs.size f cd) e) (fun _ s'' => CX outer H s E e s'') (fun e' s'' => CX outer H s E e' s'') s'

theorem cell_has {sc : Scope} {n : Nat} {x : Str} (h : sc.names.lookup x = some .cell) : ∃ c, (cellsFrom n sc.names []).lookup x = some c := by
  have q := PySem.W.cellsFrom_some sc.names n [] (.inl h)
  exact Option.isSome_iff_exists.mp q

theorem inv_start {CX : CXT} {P : Program} {w : World} {K : PySem.W.Frag} {mg : Str → Option Value} {base : Heap} {N ps : List Str} {qual : Str} {scope : Scope} {f : Addr} {cd : Value} {A : Around} {outer : List Env} {s s1 : Shared} {H : Hp} {E : XK} {us : List Value} {vs : List V}
    (S : FnScope N ps scope) (hd : A.handled = none) (e0 : Env0 P w K mg base A outer s H) (hl : vs.length = ps.length) (r : Vals vs us)
    (x : InCallC s s.heap.objs.size (bindL (envOfC qual scope s.heap.objs.size f cd).kindOf (ps.zip us) fun _ => none) (cellsFrom (s.heap.objs.size + 1) scope.names []) (bindC (envOfC qual scope s.heap.objs.size f cd).kindOf (ps.zip us) fun _ => none) s1) :
    Inv (cxOf CX P w K mg base N qual scope f cd A outer s H E) [] (start N vs) H s1 := by
  have hpl : ps.length ≤ N.length := by have := congrArg List.length S.pre; rw [List.length_take] at this; omega
  obtain ⟨h1, tk, rfl, hk⟩ := x.done
  have noA : ∀ b : Addr, b ∉ (cxOf CX P w K mg base N qual scope f cd A outer s H E).ex := fun b z => absurd (show b ∈ ([] : List Addr) from z) (by simp)
  refine ⟨⟨e0.mod, S.kind, rfl, rfl, Nat.le_refl _, fun y z c h1 h2 => ?_, fun y hy => ?_, fun y c _ h => ?_, fun _ => hd, Around.frames_deeper e0.frames, .inr ⟨rfl, rfl⟩, fun b z => absurd z (noA b), e0.bs, e0.bsz, fun b _ _ => noA b, fun b z => absurd z (noA b), e0.funs, e0.frf⟩,
    rfl, e0.bare, Un.kept hk, ⟨_, x.toInCall.ns, fun i y v h1 h2 h3 => ?_⟩, fun y c h => ⟨_, x.cell y c h⟩, e0.hok.fresh (Nat.le_refl _), fun y c h => ?_, fun p hp => absurd (show p ∈ ([] : List (Addr × Obj)) from hp) (by simp), e0.hok.kept hk, ?_⟩
  · exact name_of_addr x.apart (PySem.mem_of_lookup h1) (PySem.mem_of_lookup h2)
  · have hy : scope.names.lookup y = some .cell ∨ scope.names.lookup y = some .free := hy
    rcases hy with hy | hy
    · exact cell_has hy
    · exact absurd rfl (S.nofree _ (PySem.mem_of_lookup hy))
  · exact Nat.le_of_lt (x.above y c (PySem.mem_of_lookup h))
  · have hi : i < vs.length := by
      unfold start at h2
      by_cases hi : i < vs.length
      · exact hi
      · rw [List.getElem?_append_right (by simpa using hi)] at h2
        rw [List.getElem?_replicate] at h2
        split at h2 <;> cases h2
    have ha : vs[i]? = some v := by
      unfold start at h2
      rw [List.getElem?_append_left (by simpa using hi), List.getElem?_map] at h2
      cases e : vs[i]? with
      | none => rw [e] at h2; cases h2
      | some a => rw [e] at h2; cases h2; rfl
    obtain ⟨u, hu, rv⟩ := r.get ha
    have hp : ps[i]? = some y := by
      rw [← S.pre, List.getElem?_take_of_lt (by omega)]; exact h1
    have ndP : ps.Nodup := by rw [← S.pre]; exact S.nd.sublist (List.take_sublist _ _)
    refine ⟨u, rv, ?_⟩
    rcases S.par y (List.mem_of_getElem? hp) with k | k
    · exact .inl ⟨k, bindL_get ndP hp hu k⟩
    · obtain ⟨c, e⟩ := cell_has (n := s.heap.objs.size + 1) k
      refine .inr ⟨.inl k, c, e, ?_⟩
      have q := x.cell y c e
      rw [bindC_get ndP hp hu (by show scope.names.lookup y ≠ _; rw [k]; decide)] at q
      exact q
  · exact e0.hok.fresh (Nat.le_of_lt (x.above y c (PySem.mem_of_lookup h)))
  · unfold start
    show _ = N.length
    rw [List.length_append, List.length_map, List.length_replicate]
    omega

/-- THE RULE: a def (or a method) of the text, by its body. The body's reading t is chosen for each entry; it is run at the parameters' values -/
theorem fn_of {CX : CXT} {P : Program} {w : World} {K : PySem.W.Frag} {mg : Str → Option Value} {base : Heap} {k : Nat} {f : Addr} {name qual : Str} {params : Arguments} {body : List Stmt} {scope : Scope} {dV kV doc pm cdv ct oc : Value} {an od : Option Addr}
    {osl : Array (Option Value)} {N ps : List Str} {sp : Sp} (lk : K.lookup f = some ⟨oc, od, .func (PySem.W.fnOf name qual params body scope dV kV doc pm an cdv ct), osl⟩) (hcd : PySem.W.codeIn K cdv qual = true) (S : FnScope N ps scope)
    (len : ∀ vs H Q E, sp vs H Q E → vs.length = ps.length)
    (hbody : ∀ (A : Around) (outer : List Env) (s : Shared) (H : Hp) (vs : List V) (Q : VK) (E : XK), Room k (A.deeper (envOfC qual scope s.heap.objs.size f cdv)) → sp vs H Q E →
      ∃ t, PSs (cxOf CX P w K mg base N qual scope f cdv A outer s H E) body t ∧ t { nx := fun _ H' => Q .non H', rt := Q } (start N vs) H) :
    FnOk P w K mg base CX (k + 1) f (PySem.W.fnOf name qual params body scope dV kV doc pm an cdv ct) ps sp := by
  refine ⟨len, fun A outer s H args us vs Q E hr e0 hb r hsp => ?_⟩
  have hl := len _ _ _ _ hsp
  have KX : K.In s.heap := e0.mod.kin.keeps fun b o e => (e0.bs b o e).1
  have lim : s.heap.NoLimit := e0.mod.nolimit.keeps fun b o e => (e0.bs b o e).1
  have hkind : ∀ y ∈ ps.zip us, scope.names.lookup y.1 = some .local ∨ (scope.names.lookup y.1 = some .cell ∧ ((cellsFrom (s.heap.objs.size + 1) scope.names []).lookup y.1).isSome = true) := fun ⟨n, v⟩ hy => by
    rcases S.par n (List.of_mem_zip hy).1 with q | q
    · exact .inl q
    · exact .inr ⟨q, PySem.W.cellsFrom_some _ _ _ (.inl q)⟩
  refine codeAny_call_function hr.depth (KX _ _ lk) rfl S.co S.gen rfl (PySem.W.codeRec_of KX hcd) (hb _ _ _ _ ?_)
  refine wpAny_newFunctionEnv_cells S.kind hkind fun env he s1 x => ?_
  subst he
  refine ⟨lim.keeps x.toInCall.keep, codeAny_func ?_⟩
  obtain ⟨t, ht, hq⟩ := hbody A outer s H vs Q E (hr.deeper _) hsp
  have I : Inv (cxOf CX P w K mg base N qual scope f cdv A outer s H E) [] (start N vs) H s1 := inv_start S hr.hd e0 hl r x
  refine wpAny_mono (ht [] s1 (start N vs) H _ I hq) (fun fl s' hs => ?_) fun e s' hs => hs
  have fin : ∀ {σ' : St} {H' : Hp} {v : V} {u : Value}, Inv (cxOf CX P w K mg base N qual scope f cdv A outer s H E) [] σ' H' s' → RelV v u → Q v H' → CE outer P w H s Q u s' :=
    fun {σ' H' v u} J rv q => ⟨v, H', J.os, J.bare, J.base, J.hok, rv, q⟩
  cases fl with
  | ret u =>
    obtain ⟨v, σ', H', J, rv, q⟩ := hs
    exact fin J rv q
  | next =>
    obtain ⟨σ', H', J, q⟩ := hs
    exact fin (v := V.non) (u := Value.none) J rfl q
  | brk =>
    obtain ⟨_, _, _, q⟩ := hs
    exact False.elim q
  | cont =>
    obtain ⟨_, _, _, q⟩ := hs
    exact False.elim q
end L2

namespace L2
open PySem PySem.Spec PyProof.Rows
section
variable {X : Cx} {x : Str} {p pos : Pos} {e : Expr} {es : List Expr} {t : TA} {id T : String} {r : List V → Hp → VK → Prop}

def tCB (r : List V → Hp → VK → Prop) (t : TA) : TE := fun σ H Q => t σ H fun vs H1 => r vs H1 Q
/-- f(e, ..), f a built-in function -/
theorem pe_callB (hc : CallR X (.builtin id) r) (hg : Gl X x) (hm : X.mg x = none) (hv : bootBuiltins x = some (.builtin id)) (ha : PA X (e :: es) t) (hn : x ≠ "__name__" := by decide) (hdb : (x == ("__debug__" : Str)) = false := by decide)
    (he : starEach (e :: es) X.env = (false, eval e X.env) :: starEach es X.env := by rfl) (hpl : (backTo pos (starEach es X.env)).any (·.1) = false := by rfl) : PE X (.Call (.Name x p) (e :: es) [] pos) (tCB r t) := by
  intro pins s σ H Q I h
  refine wpAny_Call_Name_kw (ld_blt I hg hm hv ?_ hn hdb)
  exact PyProof.Rows.callWith_builtin1 (thn (ha pos pins s σ H _ I h) fun us s1 ⟨vs, H1, I1, r1, q1⟩ => hc pins s1 σ H1 vs us Q I1 r1 q1) he hpl
/-- T(e, ..), T a built-in type -/
theorem pe_callTy (hc : CallR X (.type T) r) (hg : Gl X x) (hm : X.mg x = none) (hv : bootBuiltins x = some (.type T)) (ha : PA X (e :: es) t) (hn : x ≠ "__name__" := by decide) (hdb : (x == ("__debug__" : Str)) = false := by decide)
    (he : starEach (e :: es) X.env = (false, eval e X.env) :: starEach es X.env := by rfl) (hpl : (backTo pos (starEach es X.env)).any (·.1) = false := by rfl) : PE X (.Call (.Name x p) (e :: es) [] pos) (tCB r t) := by
  intro pins s σ H Q I h
  refine wpAny_Call_Name_kw (ld_blt I hg hm hv ?_ hn hdb)
  exact PyProof.Rows.callWith_type1 (thn (ha pos pins s σ H _ I h) fun us s1 ⟨vs, H1, I1, r1, q1⟩ => hc pins s1 σ H1 vs us Q I1 r1 q1) he hpl
/-- T() -/
theorem pe_callTy0 (hc : CallR X (.type T) r) (hg : Gl X x) (hm : X.mg x = none) (hv : bootBuiltins x = some (.type T)) (hn : x ≠ "__name__" := by decide) (hdb : (x == ("__debug__" : Str)) = false := by decide) :
    PE X (.Call (.Name x p) [] [] pos) (tCB r tNil) := by
  intro pins s σ H Q I h
  refine wpAny_Call_Name_kw (ld_blt I hg hm hv ?_ hn hdb)
  exact PyProof.Rows.callWith_type0 (hc pins s σ H [] [] Q I .nil h)
end
end L2

namespace HT
open PySem PyProof.Rows

/-- t < u of tuples of ints -/
def lexLt : List Int → List Int → Bool
  | [], [] => false
  | [], _ :: _ => true
  | _ :: _, [] => false
  | x :: xs, y :: ys => if x = y then lexLt xs ys else decide (x < y)
theorem lexLt_cons (x y : Int) (xs ys : List Int) : lexLt (x :: xs) (y :: ys) = if x = y then lexLt xs ys else decide (x < y) := rfl
theorem lexLt_nil_nil : lexLt [] [] = false := rfl
theorem lexLt_nil_cons (y : Int) (ys : List Int) : lexLt [] (y :: ys) = true := rfl
theorem lexLt_cons_nil (x : Int) (xs : List Int) : lexLt (x :: xs) [] = false := rfl

theorem eqAt_int (A : Around) (s : Shared) (a : Int) (t : Tok) (c : Int) (u : Tok) : ∃ e, SeqAt.EqAt A s (.int a t) (.int c u) e ∧ (e = true ↔ a = c) :=
  ⟨(a == c), SeqAt.EqAt.int_int a t c u, by simp⟩
theorem rcLt_int (A : Around) (s : Shared) (a : Int) (t : Tok) (c : Int) (u : Tok) (prog : Program) (w : World) (E : Value → Shared → Prop) (Q : Value → Shared → Prop) (h : Q (.bool (decide (a < c))) s) :
    wpAny (model prog w) A (richCompare .Lt (.int a t) (.int c u)) Q E s :=
  (PyProof.Rows.lt_int h : wpAny (model prog w) A (compareOp .Lt (.int a t) (.int c u)) Q E s)

section
open PySem.SeqAt
open PySem.AutoSeq1 (wpAny_loadPart')
open PySem.MeetsSeq PySem.MeetsSeq2 PySem.MeetsSeq3

theorem tuple_lt_ints (l b : Addr) (items items2 : Array Value) (n n2 : Nat) (dd dd2 : Option Addr) (sl sl2 : Array (Option Value)) (ns ms : List Int) (hi : IntsAre items.toList ns) (hj : IntsAre items2.toList ms) :
    Meets (Builtin.«tuple.__lt__» ⟨[.ref l, .ref b], []⟩)
      (fun _ R s => s.heap.get? l = some { cls := .type "tuple", dict := dd, data := .seq items n, slots := sl } ∧ s.heap.get? b = some { cls := .type "tuple", dict := dd2, data := .seq items2 n2, slots := sl2 } ∧
        R (.ok (.ret (.bool (lexLt ns ms)))) s) :=
  .of_wp fun prog w A R s h => by
    obtain ⟨hp, g, d, tk, os⟩ := s; obtain ⟨hl, hb, h⟩ := h
    have f2 := AutoSeq1.sub_tuple_tuple
    have z1 : items.size = ns.length := by rw [← hi.length]; simp
    have z2 : items2.size = ms.length := by rw [← hj.length]; simp
    wp_walk using wpAny_loadPart' hl, wpAny_loadPart' hb, wpAny_forIn_list _ (fun rest b s' => b.1 = none ∧ s' = ⟨hp, g, d, tk, os⟩ ∧ ∃ (vs ws : List Value) (ns' ms' : List Int), rest = vs.zip ws ∧
      IntsAre vs ns' ∧ IntsAre ws ms' ∧ ns'.length + items2.size = ms'.length + items.size ∧ R (.ok (.ret (.bool (lexLt ns' ms')))) ⟨hp, g, d, tk, os⟩) _
    case turn =>
      rintro ⟨y, x⟩ rest b s' ⟨hb', rfl, vs, ws, ns', ms', hz, hvi, hwi, hlen, hR⟩
      cases hvi with
      | nil => rw [List.zip_nil_left] at hz; cases hz
      | cons a t hvi' =>
        cases hwi with
        | nil => rw [List.zip_nil_right] at hz; cases hz
        | cons c u hwi' =>
          rw [List.zip_cons_cons] at hz
          injection hz with hyx hrest
          injection hyx with hy hx
          subst hy hx
          rw [lexLt_cons] at hR
          simp only [List.length_cons] at hlen
          obtain ⟨e, he, hiff⟩ := eqAt_int A.in1 ⟨hp, g, d, tk, os⟩ a t c u
          refine wpAny_bind (he prog w _ _ ?_)
          cases e with
          | true =>
            rw [if_pos (hiff.mp rfl)] at hR
            wp_walk
            exact ⟨rfl, rfl, _, _, _, _, hrest, hvi', hwi', by omega, hR⟩
          | false =>
            rw [if_neg (fun q => absurd (hiff.mpr q) Bool.false_ne_true)] at hR
            have hri := rcLt_int A.in1 ⟨hp, g, d, tk, os⟩ a t c u prog w
            wp_walk using hri
            exact ⟨_, rfl, by simpa using hR⟩
    case fin =>
      rintro ⟨b1, b2⟩ s' ⟨hb', rfl, vs, ws, ns', ms', hz, hvi, hwi, hlen, hR⟩
      simp only at hb'
      subst hb'
      have hv : lexLt ns' ms' = decide (items.size < items2.size) := by
        cases hvi with
        | nil =>
          cases hwi with
          | nil =>
            simp only [List.length_nil] at hlen
            rw [lexLt_nil_nil]
            exact (decide_eq_false (by omega)).symm
          | cons c u hw =>
            simp only [List.length_nil, List.length_cons] at hlen
            rw [lexLt_nil_cons]
            exact (decide_eq_true (by omega)).symm
        | cons a t hv =>
          cases hwi with
          | nil =>
            simp only [List.length_nil, List.length_cons] at hlen
            rw [lexLt_cons_nil]
            exact (decide_eq_false (by omega)).symm
          | cons c u hw =>
            rw [List.zip_cons_cons] at hz
            cases hz
      rw [hv] at hR
      wp_walk
      exact ⟨_, rfl, by simpa [Builtin.Tuple.tupleCompareSizes] using hR⟩
    case h =>
      exact ⟨rfl, rfl, items.toList, items2.toList, ns, ms, rfl, hi, hj, by omega, h⟩
end

section
variable {prog : Program} {w : World} {A : Around} {E : Value → Shared → Prop} {s : Shared}

theorem lt_tupInts {l b : Addr} {items items2 : Array Value} {ns ms : List Int} {Q : Value → Shared → Prop} (hl : IsTup s.heap l items) (hb : IsTup s.heap b items2) (hi : IntsAre items.toList ns) (hj : IntsAre items2.toList ms)
    (hu : A.units < cLine) (h : Q (.bool (lexLt ns ms)) s) : wpAny (model prog w) A (compareOp .Lt (.ref l) (.ref b)) Q E s := by
  obtain ⟨⟨cls, dd, data, sl⟩, ho, hc, n, hd⟩ := id hl
  obtain ⟨⟨cls2, dd2, data2, sl2⟩, ho2, hc2, n2, hd2⟩ := id hb
  simp only at hc hd hc2 hd2
  subst hc hd hc2 hd2
  exact richCompare_meets_room (op := .Lt) ⟨_, ho, rfl⟩ ⟨_, ho2, rfl⟩ PySem.F.slot_tuple_lt PySem.F.entry_tuple_lt (PySem.F.args_tuple_lt_2 _ _) (tuple_lt_ints l b items items2 n n2 dd dd2 sl sl2 ns ms hi hj)
    ⟨ho, ho2, show Value.bool (lexLt ns ms) ≠ Value.notImplemented ∧ Q (.bool (lexLt ns ms)) s from ⟨(fun x => nomatch x), h⟩⟩ hu

/-- t + u, t not empty -/
theorem cat_tup {t b : Addr} {vs ws : List Value} {Q : Value → Shared → Prop} (ht : IsTup s.heap t vs.toArray) (hb : IsTup s.heap b ws.toArray) (hv : vs ≠ [])
    (h1 : ws = [] → Q (.ref t) s) (h2 : ws ≠ [] → Q (.ref s.heap.objs.size) { s with heap := s.heap.push { cls := .type "tuple", data := .seq (vs ++ ws).toArray } })
    (hsz : vs.length + ws.length ≤ sizeLine) : wpAny (model prog w) A (binaryOp .Add (.ref t) (.ref b)) Q E s := by
  obtain ⟨⟨cls, dd, data, sl⟩, ho, hc, n, hd⟩ := id ht
  obtain ⟨⟨cls2, dd2, data2, sl2⟩, ho2, hc2, n2, hd2⟩ := id hb
  simp only at hc hd hc2 hd2
  subst hc hd hc2 hd2
  have e : vs.toArray ++ ws.toArray = (vs ++ ws).toArray := by simp
  by_cases hw : ws = []
  · exact concat_meets ⟨_, ho, rfl⟩ ⟨_, ho2, rfl⟩ noFill_tuple_add seq_tuple_add PySem.F.slot_tuple_add PySem.F.entry_tuple_add (PySem.F.args_tuple_add_2 _ _)
      (tuple_addW1 t b vs.toArray ws.toArray n n2 dd dd2 sl sl2 (by simpa using hv) (by simp [hw])) ⟨ho, ho2, h1 hw⟩
  · refine concat_meets ⟨_, ho, rfl⟩ ⟨_, ho2, rfl⟩ noFill_tuple_add seq_tuple_add PySem.F.slot_tuple_add PySem.F.entry_tuple_add (PySem.F.args_tuple_add_2 _ _)
      (tuple_addW2 t b vs.toArray ws.toArray n n2 dd dd2 sl sl2 (by simpa using hv) (by simpa using hw) (by rw [List.size_toArray, List.size_toArray]; exact hsz)) ⟨ho, ho2, ?_⟩
    rw [e]
    exact h2 hw

/-! ### t[a:b], not the whole -/
/-- a slice's bound as a place among n (d where it is left out) -/
def sIx (n d : Nat) : Option Int → Nat
  | none => d
  | some v => if v < 0 then (v + (n : Int)).toNat else min v.toNat n
theorem sIx_none (n d : Nat) : sIx n d none = d := rfl
theorem sIx_nat (n d k : Nat) : sIx n d (some (k : Int)) = min k n := by
  show (if (k : Int) < 0 then ((k : Int) + (n : Int)).toNat else min (k : Int).toNat n) = min k n
  rw [if_neg (by omega), Int.toNat_natCast]
theorem sIx_le (n d : Nat) (hd : d ≤ n) (o : Option Int) : sIx n d o ≤ n := by
  cases o with
  | none => exact hd
  | some v =>
    show (if v < 0 then (v + (n : Int)).toNat else min v.toNat n) ≤ n
    by_cases hv : v < 0
    · rw [if_pos hv]; omega
    · rw [if_neg hv]; exact Nat.min_le_right _ _
theorem clip_eq (v : Int) (n d : Nat) : (if v < 0 then max (v + (n : Int)) 0 else min v (n : Int)) = ((sIx n d (some v) : Nat) : Int) := by
  show (if v < 0 then max (v + (n : Int)) 0 else min v (n : Int)) = (((if v < 0 then (v + (n : Int)).toNat else min v.toNat n) : Nat) : Int)
  by_cases hv : v < 0
  · simp only [if_pos hv]; omega
  · simp only [if_neg hv]; omega
theorem adjust_gen (lo hi : Option Int) (n : Nat) : Builtin.Slice.sliceAdjust lo hi 1 (n : Int) = (((sIx n 0 lo : Nat) : Int), ((sIx n n hi : Nat) : Int)) := by
  have h1 : ¬ ((1 : Int) < 0) := by omega
  unfold Builtin.Slice.sliceAdjust
  simp only [h1, if_false]
  refine Prod.ext ?_ ?_
  · cases lo with
    | none => rfl
    | some v => exact clip_eq v n 0
  · cases hi with
    | none => rfl
    | some v => exact clip_eq v n n
theorem places_gen (i j : Nat) : Builtin.Slice.slicePlaces (i : Int) (j : Int) 1 = j - i := by
  unfold Builtin.Slice.slicePlaces
  have h1 : (1 : Int) > 0 := by omega
  simp only [h1, if_true, Int.ediv_one]
  split <;> omega
theorem slicePart_ {v : Value} {o : Option Int} {Q : Option Int → Shared → Prop} (p : IsPart v o) (h : Q o s) : wpAny (model prog w) A (Builtin.Slice.slicePartIndex v) Q E s := by
  cases p with
  | none => exact slicePart_none h
  | int i t => exact slicePart_int h
theorem sliceApplied_gen {sl : Addr} {vl vu : Value} {lo hi : Option Int} {n : Nat} {Q : Int × Int × Nat → Shared → Prop} (hs : s.heap.IsSliceOf sl vl vu .none) (pl : IsPart vl lo) (pu : IsPart vu hi)
    (h : Q (((sIx n 0 lo : Nat) : Int), 1, sIx n n hi - sIx n 0 lo) s) : wpAny (model prog w) A (Builtin.Slice.sliceApplied (.ref sl) (pure (n : Int))) Q E s := by
  obtain ⟨os, hos, hcs, hds⟩ := id hs
  unfold Builtin.Slice.sliceApplied Builtin.Slice.sliceFields
  refine wpAny_bind (wpAny_bind (wpAny_field hos hds (x := vl) rfl (wpAny_bind (wpAny_field hos hds (x := vu) rfl (wpAny_bind (wpAny_field hos hds (x := .none) rfl (wpAny_pure ?_)))))))
  refine wpAny_bind (slicePart_none ?_)
  show wpAny _ _ (if ((1 : Int) == 0) = true then _ else _) _ _ s
  rw [if_neg (by decide)]
  refine wpAny_bind (slicePart_ pl (wpAny_bind (slicePart_ pu (wpAny_bind (wpAny_pure ?_)))))
  show wpAny _ _ (match Builtin.Slice.sliceAdjust lo hi 1 (n : Int) with | (lo, hi) => pure (lo, (1 : Int), Builtin.Slice.slicePlaces lo hi 1)) _ _ s
  rw [adjust_gen lo hi n]
  show wpAny _ _ (pure (((sIx n 0 lo : Nat) : Int), (1 : Int), Builtin.Slice.slicePlaces ((sIx n 0 lo : Nat) : Int) ((sIx n n hi : Nat) : Int) 1)) _ _ s
  rw [places_gen]
  exact wpAny_pure h
theorem pick_gen (xs : Array Value) (i k : Nat) : ((List.range k).filterMap fun (m : Nat) => xs[((i : Int) + (m : Int) * 1).toNat]?).toArray = ((xs.toList.drop i).take k).toArray := by
  have e : (fun (m : Nat) => xs[((i : Int) + (m : Int) * 1).toNat]?) = fun m => xs[i + m]? := by
    funext m
    have : ((i : Int) + (m : Int) * 1).toNat = i + m := by omega
    rw [this]
  rw [e]
  have := pick_run xs i k
  rw [List.filterMap_map] at this
  have e2 : ((fun x => xs[x]?) ∘ fun x => i + x) = fun m => xs[i + m]? := rfl
  rw [e2] at this
  rw [this]

theorem getItem_tuple_cut {t sl : Addr} {items : Array Value} {vl vu : Value} {lo hi : Option Int} {Q : Value → Shared → Prop} (ht : IsTup s.heap t items) (hs : s.heap.IsSliceOf sl vl vu .none) (pl : IsPart vl lo) (pu : IsPart vu hi)
    (hw : ¬ (sIx items.size 0 lo = 0 ∧ sIx items.size items.size hi = items.size))
    (h : Q (.ref s.heap.objs.size) { s with heap := s.heap.push { cls := .type "tuple", data := .seq ((items.toList.drop (sIx items.size 0 lo)).take (sIx items.size items.size hi - sIx items.size 0 lo)).toArray } })
    (hsz : items.size ≤ sizeLine) : wpAny (model prog w) A (getItem (.ref t) (.ref sl)) Q E s := by
  have htake : sizeOk (.seq ((items.toList.drop (sIx items.size 0 lo)).take (sIx items.size items.size hi - sIx items.size 0 lo)).toArray) := by
    show ((items.toList.drop (sIx items.size 0 lo)).take (sIx items.size items.size hi - sIx items.size 0 lo)).toArray.size ≤ sizeLine
    rw [List.size_toArray, List.length_take, List.length_drop, Array.length_toList]
    omega
  have hj : sIx items.size items.size hi ≤ items.size := sIx_le _ _ (Nat.le_refl _) hi
  obtain ⟨os, hos, hcs, hds⟩ := id hs
  have hTs : s.TypeIs (.ref sl) "slice" := ⟨os, hos, hcs⟩
  unfold getItem
  try with_reducible refine wpAny_holding ?_
  first | refine wpAny_bind (wpAny_pure ?_) | skip
  refine wpAny_bind (wpAny_sequenceKey ht.typeIs (by decide) ?_)
  refine wpAny_bind (wpAny_callSpecial?_slot (name := Str.ofString "__getitem__") ht.typeIs PyProof.Rows.slot_tuple_getitem
    (wpAny_call_entry PyProof.Rows.slot_tuple_getitem ht.typeIs entry_tuple_getitem ?_ (args_tuple_getitem _ _)))
  show wpAny _ _ (Builtin.Tuple.tupleItemsOf (.ref t) >>= _) _ _ s
  refine wpAny_bind (tupleItemsOf_ ht ?_)
  refine wpAny_bind (wpAny_typeOf hTs ?_)
  rw [if_pos (by decide)]
  refine wpAny_bind (sliceApplied_gen hs pl pu ?_)
  have hno : ¬ ((((sIx items.size 0 lo : Nat) : Int) == 0 && (1 : Int) == 1 && (sIx items.size items.size hi - sIx items.size 0 lo) == items.size) = true) := by
    intro q
    rw [Bool.and_eq_true, Bool.and_eq_true] at q
    have q1 : ((sIx items.size 0 lo : Nat) : Int) = 0 := eq_of_beq q.1.1
    have q2 : sIx items.size items.size hi - sIx items.size 0 lo = items.size := eq_of_beq q.2
    exact hw ⟨by omega, by omega⟩
  show wpAny _ _ (if (((sIx items.size 0 lo : Nat) : Int) == 0 && (1 : Int) == 1 && (sIx items.size items.size hi - sIx items.size 0 lo) == items.size) = true then _ else _) _ _ s
  rw [if_neg hno, pick_gen]
  first
    | exact wpAny_bind (m := Builtin.Tuple.tupleExact _) (wpAny_newObj_type (wpAny_pure ⟨_, rfl, wpAny_pure h⟩) htake)
    | exact wpAny_bind (m := Builtin.Tuple.tupleExact _) (wpAny_newObj_type (wpAny_bind (wpAny_pure (wpAny_pure ⟨_, rfl, wpAny_pure h⟩))) htake)
    | exact wpAny_bind (wpAny_bind (m := Builtin.Tuple.tupleExact _) (wpAny_newObj_type (wpAny_pure (wpAny_pure ⟨_, rfl, wpAny_pure h⟩)) htake))
    | exact wpAny_bind (wpAny_bind (m := Builtin.Tuple.tupleExact _) (wpAny_newObj_type (wpAny_pure ⟨_, rfl, wpAny_pure h⟩) htake))
end
end HT

namespace L2
open PySem PySem.Spec PyProof.Rows

/-! ### the parts of a slice -/
abbrev TO := St → Hp → (Option Int → Hp → Prop) → Prop
/-- a slice's part (left out, or an int) -/
def PO (X : Cx) (e : Option Expr) (t : TO) : Prop :=
  ∀ (pins : List (Addr × Obj)) (s : Shared) (σ : St) (H : Hp) (Q : Option Int → Hp → Prop), Inv X pins σ H s → t σ H Q →
    wpAny (model X.prog X.w) X.A (evalPart e X.env) (fun u s' => ∃ o H', Inv X pins σ H' s' ∧ IsPart u o ∧ Q o H') X.xe s
def tNoPart : TO := fun _ H Q => Q none H
def tPart (t : TE) : TO := fun σ H Q => t σ H fun x H1 => ∃ i, x = .int i ∧ Q (some i) H1

theorem intsAre_of {ns : List Int} : ∀ {us : List Value}, Vals (ns.map V.int) us → IntsAre us ns := by
  induction ns with
  | nil => intro us r; rw [List.map_nil] at r; cases r; exact .nil
  | cons n ns ih =>
    intro us r
    rw [List.map_cons] at r
    cases r with
    | cons r1 r2 =>
      obtain ⟨t, e⟩ := r1
      subst e
      exact .cons n t (ih r2)

section
variable {X : Cx} {e : Expr} {te : TE} {lo hi : Option Expr} {tl th : TO} {pos p2 : Pos}

theorem po_none : PO X none tNoPart := by
  intro pins s σ H Q I h
  rw [evalPart_none]
  exact wpAny_pure ⟨none, H, I, .none, h⟩
theorem po_some (h : PE X e te) : PO X (some e) (tPart te) := by
  intro pins s σ H Q I hw
  rw [evalPart_some]
  refine thn (h pins s σ H _ I hw) fun u s1 ⟨x, H1, I1, r1, q1⟩ => ?_
  obtain ⟨i, rfl, q⟩ := q1
  obtain ⟨t, rfl⟩ := r1
  exact ⟨some i, H1, I1, .int i t, q⟩

/-- what a slice of a value is, by values: the slice object stands at sl -/
def SlR (X : Cx) (r : V → Option Int → Option Int → Hp → VK → Prop) : Prop :=
  ∀ (pins : List (Addr × Obj)) (s : Shared) (σ : St) (H : Hp) (x : V) (v vl vu : Value) (lo hi : Option Int) (sl : Addr) (Q : VK), Inv X pins σ H s → RelV x v → s.heap.IsSliceOf sl vl vu .none → IsPart vl lo → IsPart vu hi → r x lo hi H Q →
    ∃ T id, typeLookup (.type T) "__getitem__" = pure (some (.builtin id)) ∧ s.TypeIs v T ∧ wpAny (model X.prog X.w) X.A (getItem v (.ref sl)) (EP X pins σ Q) X.xe s
theorem SlR.or {r r' : V → Option Int → Option Int → Hp → VK → Prop} (h : SlR X r) (h' : SlR X r') : SlR X (fun x lo hi H Q => r x lo hi H Q ∨ r' x lo hi H Q) := by
  intro pins s σ H x v vl vu lo hi sl Q I rx hs pl pu q
  rcases q with q | q
  · exact h pins s σ H x v vl vu lo hi sl Q I rx hs pl pu q
  · exact h' pins s σ H x v vl vu lo hi sl Q I rx hs pl pu q
def tSl (r : V → Option Int → Option Int → Hp → VK → Prop) (te : TE) (tl th : TO) : TE := fun σ H Q => te σ H fun x H1 => tl σ H1 fun l H2 => th σ H2 fun u H3 => r x l u H3 Q
/-- a[lo:hi], any a -/
theorem pe_slice {r : V → Option Int → Option Int → Hp → VK → Prop} (hr : SlR X r) (he : PE X e te) (hl : PO X lo tl) (hu : PO X hi th) : PE X (.Subscript e (.Slice lo hi none p2) pos) (tSl r te tl th) := by
  intro pins s σ H Q I h
  refine Subscript_ (thn (he pins s σ H _ I h) fun v s1 ⟨x, H1, I1, r1, q1⟩ => ?_)
  refine wpAny_Slice (thn (hl pins s1 σ H1 _ I1 q1) fun vl s2 ⟨l, H2, I2, pl, q2⟩ => thn (hu pins s2 σ H2 _ I2 q2) fun vu s3 ⟨u, H3, I3, pu, q3⟩ => ?_)
  rw [evalPart_none]
  refine wpAny_pure ?_
  have I4 : Inv X pins σ H3 { s3 with heap := s3.heap.push { cls := .type "slice", data := .fields #[vl, vu, .none] } } := I3.kept (t' := s3.toks) fun b ob q => Heap.get?_push_of_some _ q
  obtain ⟨T, id, hT, ht, hg⟩ := hr pins { s3 with heap := s3.heap.push { cls := .type "slice", data := .fields #[vl, vu, .none] } } σ H3 x v vl vu l u s3.heap.objs.size Q I4 r1 (Heap.IsSliceOf.new ..) pl pu q3
  show wpAny (model X.prog X.w) X.A (subscriptTail e (.Slice lo hi none p2) v (.ref s3.heap.objs.size)) (EP X pins σ Q) X.xe { s3 with heap := s3.heap.push { cls := .type "slice", data := .fields #[vl, vu, .none] } }
  exact tail_any (ops := [.ref s3.heap.objs.size, v]) ht hT hg (by with_unfolding_all rfl)

/-- the items of xs[lo:hi] -/
def cutV (xs : List V) (lo hi : Option Int) : List V := (xs.drop (HT.sIx xs.length 0 lo)).take (HT.sIx xs.length xs.length hi - HT.sIx xs.length 0 lo)
theorem cutV_length (xs : List V) (lo hi : Option Int) : (cutV xs lo hi).length ≤ xs.length := by
  unfold cutV
  rw [List.length_take, List.length_drop]
  omega
/-- t[lo:hi], not the whole of it (the whole would be t itself) -/
def rSlT (K : PySem.W.Frag) : V → Option Int → Option Int → Hp → VK → Prop := fun x lo hi H Q => ∃ a xs, x = .ref a ∧ SqT K H a xs ∧
  ¬ (HT.sIx xs.length 0 lo = 0 ∧ HT.sIx xs.length xs.length hi = xs.length) ∧ ∀ p, H p = none → Q (.ref p) (upd H p (.tup (cutV xs lo hi)))
theorem sl_tup : SlR X (rSlT X.K) := by
  intro pins s σ H x v vl vu lo hi sl Q I rx hs pl pu h
  obtain ⟨a, xs, rfl, hx, hw, q⟩ := h
  cases rx
  obtain ⟨its, r, ht, hz⟩ := I.tuple hx
  have hlen : its.toArray.size = xs.length := by rw [List.size_toArray]; exact r.length.symm
  refine ⟨"tuple", _, PyProof.Rows.slot_tuple_getitem.lookup, ht.typeIs, ?_⟩
  refine HT.getItem_tuple_cut ht hs pl pu (by rw [hlen]; exact hw) ?_ (by rw [hlen]; exact hz)
  rw [hlen]
  refine ⟨.ref s.heap.objs.size, _, I.laid (t' := s.toks) (o := .tup (cutV xs lo hi)) (fun b ob q => Heap.get?_push_of_some _ q) (Nat.le_refl _) ?_, rfl, q _ (I.hok.fresh (Nat.le_refl _))⟩
  exact ⟨Nat.le_trans (cutV_length xs lo hi) hz, _, (r.drop (HT.sIx xs.length 0 lo)).take (HT.sIx xs.length xs.length hi - HT.sIx xs.length 0 lo), IsTup.new _ _⟩

/-! ### t < u, t + u -/
def rLtT (K : PySem.W.Frag) : R2 := fun x y H Q => ∃ a b ns ms, x = .ref a ∧ y = .ref b ∧ SqT K H a (ns.map V.int) ∧ SqT K H b (ms.map V.int) ∧ Q (.bl (HT.lexLt ns ms)) H
theorem op_ltT (hu : X.A.units < cLine) : OpR X (compareOp .Lt) (rLtT X.K) := by
  intro pins s σ H x y v u Q I rx ry h
  obtain ⟨a, b, ns, ms, rfl, rfl, ha, hb, q⟩ := h
  cases rx
  cases ry
  obtain ⟨its, r1, p1, _⟩ := I.tuple ha
  obtain ⟨its2, r2, p2, _⟩ := I.tuple hb
  have i1 : IntsAre its.toArray.toList ns := intsAre_of r1
  have i2 : IntsAre its2.toArray.toList ms := intsAre_of r2
  exact HT.lt_tupInts p1 p2 i1 i2 hu ⟨.bl (HT.lexLt ns ms), H, I, rfl, q⟩
/-- t + u, t not empty: u empty gives t itself -/
def rCatT (K : PySem.W.Frag) : R2 := fun x y H Q => ∃ a b xs ys, x = .ref a ∧ y = .ref b ∧ SqT K H a xs ∧ SqT K H b ys ∧ xs ≠ [] ∧ xs.length + ys.length ≤ sizeLine ∧
  (ys = [] → Q (.ref a) H) ∧ (ys ≠ [] → ∀ p, H p = none → Q (.ref p) (upd H p (.tup (xs ++ ys))))
theorem Vals.nil_iff {xs : List V} {us : List Value} (r : Vals xs us) : us = [] ↔ xs = [] := by
  cases r with
  | nil => simp
  | cons _ _ => simp
theorem op_catT : OpR X (binaryOp .Add) (rCatT X.K) := by
  intro pins s σ H x y v u Q I rx ry h
  obtain ⟨a, b, xs, ys, rfl, rfl, ha, hb, hx, hz, q1, q2⟩ := h
  cases rx
  cases ry
  obtain ⟨its, r1, p1, _⟩ := I.tuple ha
  obtain ⟨its2, r2, p2, _⟩ := I.tuple hb
  refine HT.cat_tup p1 p2 (fun z => hx (r1.nil_iff.mp z)) (fun z => ⟨.ref a, H, I, rfl, q1 (r2.nil_iff.mp z)⟩) (fun z => ?_) (by rw [← r1.length, ← r2.length]; exact hz)
  refine ⟨.ref s.heap.objs.size, _, I.laid (t' := s.toks) (o := .tup (xs ++ ys)) (fun b ob q => Heap.get?_push_of_some _ q) (Nat.le_refl _) ?_, rfl, q2 (fun w => z (r2.nil_iff.mpr w)) _ (I.hok.fresh (Nat.le_refl _))⟩
  exact ⟨by rw [List.length_append]; exact hz, _, r1.append r2, IsTup.new _ _⟩
/-- tuple(t) -/
theorem call_tupleT : CallR X (.type "tuple") (fun xs H Q => ∃ a ys, xs = [.ref a] ∧ SqT X.K H a ys ∧ Q (.ref a) H) := by
  intro pins s σ H xs us Q I r h
  obtain ⟨a, ys, rfl, ha, q⟩ := h
  obtain ⟨u, rfl, ru⟩ := vals1 r
  cases ru
  obtain ⟨its, _, p1, _⟩ := I.tuple ha
  exact call_tuple_same (items := its.toArray) p1 ⟨.ref a, H, I, rfl, q⟩
end
end L2

namespace L2
open PySem PySem.Spec PyProof.Rows

/-! ### places -/
/-- the place that an index of any sign means -/
def ixN (n : Nat) (i : Int) : Option Nat := if 0 ≤ i then (if i < n then some i.toNat else none) else if -(n : Int) ≤ i then some (i + n).toNat else none
def atI {α : Type} (xs : List α) (i : Int) : Option α := (ixN xs.length i).bind fun j => xs[j]?
theorem ixN_seq {n : Nat} {i : Int} {j : Nat} (h : ixN n i = some j) : seqIndex? i n = some j ∧ j < n ∧ -(n : Int) ≤ i ∧ i < n := by
  unfold ixN at h
  by_cases h0 : 0 ≤ i
  · rw [if_pos h0] at h
    by_cases h1 : i < n
    · rw [if_pos h1] at h
      have e : i.toNat = j := Option.some.inj h
      exact ⟨by rw [seqIndex_of h0 h1, e], by omega, by omega, h1⟩
    · rw [if_neg h1] at h; cases h
  · rw [if_neg h0] at h
    by_cases h1 : -(n : Int) ≤ i
    · rw [if_pos h1] at h
      have e : (i + n).toNat = j := Option.some.inj h
      exact ⟨by rw [seqIndex_neg (by omega) h1, e], by omega, h1, by omega⟩
    · rw [if_neg h1] at h; cases h
theorem atI_get {α : Type} {xs : List α} {i : Int} {v : α} (h : atI xs i = some v) : ∃ j, seqIndex? i xs.length = some j ∧ xs[j]? = some v ∧ j < xs.length ∧ -(xs.length : Int) ≤ i ∧ i < xs.length := by
  unfold atI at h
  cases e : ixN xs.length i with
  | none => rw [e] at h; cases h
  | some j =>
    rw [e] at h
    obtain ⟨h1, h2, h3, h4⟩ := ixN_seq e
    exact ⟨j, h1, h, h2, h3, h4⟩
theorem atI_nat {α : Type} {xs : List α} {j : Nat} {v : α} (h : xs[j]? = some v) : atI xs (j : Int) = some v := by
  have hj : j < xs.length := (List.getElem?_eq_some_iff.mp h).1
  have e : ixN xs.length (j : Int) = some j := by
    unfold ixN
    rw [if_pos (by omega), if_pos (by omega)]; simp
  unfold atI; rw [e]; exact h
theorem atI_last {α : Type} (xs : List α) (v : α) : atI (xs ++ [v]) (-1) = some v := by
  have hl : (xs ++ [v]).length = xs.length + 1 := by simp
  have e : ixN (xs ++ [v]).length (-1) = some xs.length := by
    unfold ixN
    rw [hl, if_neg (by decide), if_pos (by omega)]
    congr 1
    omega
  unfold atI
  rw [e]
  show (xs ++ [v])[xs.length]? = some v
  simp

/-! ### what may be subscripted -/
/-- what stands as an index of a plain subscript -/
def PlainIx (b : Expr) : Prop := ∀ o i, subscripted b false o i = operate [o, i] (getItem o i)
/-- a subscript by values -/
def IxR (X : Cx) (r : R2) : Prop :=
  ∀ (value slice : Expr) (pins : List (Addr × Obj)) (s : Shared) (σ : St) (H : Hp) (x y : V) (v u : Value) (Q : VK), Inv X pins σ H s → RelV x v → RelV y u → r x y H Q →
    subscripted slice false v u = operate [v, u] (getItem v u) → wpAny (model X.prog X.w) X.A (subscriptTail value slice v u) (EP X pins σ Q) X.xe s
/-- a call of a builtin's method by values: the receiver, the arguments -/
def MtR (X : Cx) (id : String) (r : V → List V → Hp → VK → Prop) : Prop :=
  ∀ (pins : List (Addr × Obj)) (s : Shared) (σ : St) (H : Hp) (x : V) (xs : List V) (v : Value) (us : List Value) (Q : VK), Inv X pins σ H s → RelV x v → Vals xs us → r x xs H Q →
    wpAny (model X.prog X.w) X.A (call (.builtin id) (v :: us)) (EP X pins σ Q) X.xe s
section
variable {X : Cx} {a b : Expr} {ta tb : TE} {pos : Pos}
theorem IxR.or {r r' : R2} (h : IxR X r) (h' : IxR X r') : IxR X (fun x y H Q => r x y H Q ∨ r' x y H Q) := by
  intro value slice pins s σ H x y v u Q I rx ry q hs
  rcases q with q | q
  · exact h value slice pins s σ H x y v u Q I rx ry q hs
  · exact h' value slice pins s σ H x y v u Q I rx ry q hs
theorem MtR.or {id : String} {r r' : V → List V → Hp → VK → Prop} (h : MtR X id r) (h' : MtR X id r') : MtR X id (fun x xs H Q => r x xs H Q ∨ r' x xs H Q) := by
  intro pins s σ H x xs v us Q I rx rs q
  rcases q with q | q
  · exact h pins s σ H x xs v us Q I rx rs q
  · exact h' pins s σ H x xs v us Q I rx rs q
/-- a[b] -/
theorem pe_ix {r : R2} (hr : IxR X r) (ha : PE X a ta) (hb : PE X b tb) (hs : PlainIx b) : PE X (.Subscript a b pos) (tOp r ta tb) := by
  intro pins s σ H Q I h
  exact Subscript_ (binT ha hb I h fun v u s2 x y H2 I2 rx ry q => hr a b pins s2 σ H2 x y v u Q I2 rx ry q (hs _ _))

def rIxL (K : PySem.W.Frag) : R2 := fun x y H Q => ∃ p xs i v, x = .ref p ∧ y = .int i ∧ SqL K H p xs ∧ atI xs i = some v ∧ Q v H
def rIxT (K : PySem.W.Frag) : R2 := fun x y H Q => ∃ p xs i v, x = .ref p ∧ y = .int i ∧ SqT K H p xs ∧ atI xs i = some v ∧ Q v H
def rIxS : R2 := fun x y H Q => ∃ z i c, x = .str z ∧ y = .int i ∧ z.length ≤ sizeLine ∧ atI z.cps.toList i = some c ∧ Q (.str ⟨#[c]⟩) H
theorem ix_list : IxR X (rIxL X.K) := by
  intro value slice pins s σ H x y v u Q I rx ry h hs
  obtain ⟨p, xs, i, z, rfl, rfl, hq, he, q⟩ := h
  cases rx
  obtain ⟨t, rfl⟩ := ry
  obtain ⟨its, r, pl, hz⟩ := I.list hq
  obtain ⟨j, h1, h2, h3, h4, h5⟩ := atI_get he
  obtain ⟨w, ew, rw'⟩ := r.get h2
  have hl := r.length
  have hn := line63
  have fin : EP X pins σ Q w s := ⟨z, H, I, rw', q⟩
  by_cases h0 : 0 ≤ i
  · have hj : i.toNat = j := by
      rw [seqIndex_of h0 h5] at h1
      exact Option.some.inj h1
    exact item_listR pl.isList h0 (by omega) (by rw [hj]; simpa using ew) fin hs
  · have hj : (i + (its.toArray.size : Int)).toNat = j := by
      rw [seqIndex_neg (by omega) h4] at h1
      rw [List.size_toArray, ← hl]
      exact Option.some.inj h1
    exact subscriptTail_builtinR (x := w) pl.isList.typeIs slot_list_getitem.lookup
      (wpAny_getItem_list_neg (Q := fun r s' => r = w ∧ EP X pins σ Q r s') pl.isList (by omega) (by rw [List.size_toArray] <;> omega) (by omega) (by rw [hj]; simpa using ew) ⟨rfl, fin⟩) hs
theorem ix_tup : IxR X (rIxT X.K) := by
  intro value slice pins s σ H x y v u Q I rx ry h hs
  obtain ⟨p, xs, i, z, rfl, rfl, hq, he, q⟩ := h
  cases rx
  obtain ⟨t, rfl⟩ := ry
  obtain ⟨its, r, pl, hz⟩ := I.tuple hq
  obtain ⟨j, h1, h2, h3, h4, h5⟩ := atI_get he
  obtain ⟨w, ew, rw'⟩ := r.get h2
  have hl := r.length
  have hn := line63
  have fin : EP X pins σ Q w s := ⟨z, H, I, rw', q⟩
  exact subscriptTail_builtinR (x := w) pl.typeIs slot_tuple_getitem.lookup
    (getItem_tuple (j := j) (Q := fun r s' => r = w ∧ EP X pins σ Q r s') pl (by omega) (by omega) (by rw [List.size_toArray, ← hl]; exact h1) (by simpa using ew) ⟨rfl, fin⟩) hs
theorem ix_str : IxR X rIxS := by
  intro value slice pins s σ H x y v u Q I rx ry h hs
  obtain ⟨z, i, c, rfl, rfl, hz, he, q⟩ := h
  obtain ⟨t, rfl⟩ := rx
  obtain ⟨t', rfl⟩ := ry
  obtain ⟨j, h1, h2, h3, h4, h5⟩ := atI_get he
  have hl : z.cps.toList.length = z.length := by simp [Str.length]
  rw [hl] at h1 h4 h5
  have hn := line63
  exact tail_any (typeIs_str s z t) slot_str_getitem.lookup (getItem_str (c := c) (by
    have e1 : decide (i < -(2 ^ 63 : Int)) = false := decide_eq_false (by omega)
    have e2 : decide (i ≥ 2 ^ 63) = false := decide_eq_false (by omega)
    rw [e1, e2, Bool.or_false]) (by rw [h1]; simpa using h2) ⟨.str ⟨#[c]⟩, H, I.tok _, ⟨_, rfl⟩, q⟩) hs
/-- list, tuple or str -/
def rIx (K : PySem.W.Frag) : R2 := fun x y H Q => rIxL K x y H Q ∨ rIxT K x y H Q ∨ rIxS x y H Q
theorem ix_seq : IxR X (rIx X.K) := ix_list.or (ix_tup.or ix_str)

/-! ### xs[i] = v, any sign -/
/-- the list's object behind a store -/
theorem mapSeq_set (its : List Value) (n j : Nat) (u : Value) : Obj.mapSeq (·.setIfInBounds j u) { cls := .type "list", data := .seq its.toArray n } = { cls := .type "list", data := .seq (its.set j u).toArray n } := by
  simp [Obj.mapSeq]
theorem Inv.lst {pins : List (Addr × Obj)} {σ : St} {H : Hp} {s : Shared} {p : Addr} {xs : List V} (I : Inv X pins σ H s) (h : H p = some (.lst xs)) :
    ∃ (its : List Value) (n : Nat), Vals xs its ∧ s.heap.get? p = some { cls := .type "list", data := .seq its.toArray n } ∧ xs.length ≤ sizeLine := by
  obtain ⟨z, its, n, r, e⟩ := I.hok p _ h
  exact ⟨its, n, r, e, z⟩
/-- the list at p is written by an update of its object -/
theorem Inv.lstUpd {pins : List (Addr × Obj)} {σ : St} {H : Hp} {s : Shared} {p : Addr} {xs ys : List V} {its its' : List Value} {n n' : Nat} {f : Obj → Obj} (I : Inv X pins σ H s) (h : H p = some (.lst xs))
    (ho : s.heap.get? p = some { cls := .type "list", data := .seq its.toArray n }) (hf : f { cls := .type "list", data := .seq its.toArray n } = { cls := .type "list", data := .seq its'.toArray n' }) (r : Vals ys its') (hz : ys.length ≤ sizeLine) (t : Nat) :
    Inv X pins σ (upd H p (.lst ys)) { s with heap := s.heap.update p f, toks := t } := by
  have e : (s.heap.update p f).get? p = some { cls := .type "list", data := .seq its'.toArray n' } := by
    rw [Heap.get?_update_self f ho (by rw [hf] <;> rfl), hf]
  refine I.write (x := p) (e := p) (by rw [h]; trivial) (.inl rfl) (fun b u hb q => (Heap.get?_update_other _ _ (Ne.symm hb)).trans q) ⟨_, e⟩ ?_
  exact ⟨hz, its', n', r, e⟩
def rSetL : V → V → V → Hp → (Hp → Prop) → Prop := fun o i v H Q => ∃ p xs k j, o = .ref p ∧ i = .int k ∧ H p = some (.lst xs) ∧ ixN xs.length k = some j ∧ Q (upd H p (.lst (xs.set j v)))
theorem set_list : PSet X rSetL := by
  intro pins s σ H o i v ov iv u Q I ro ri rv h
  obtain ⟨p, xs, k, j, rfl, rfl, hp, hj, q⟩ := h
  cases ro
  obtain ⟨t, rfl⟩ := ri
  obtain ⟨its, n, r, ho, hz⟩ := I.lst hp
  obtain ⟨h1, h2, h3, h4⟩ := ixN_seq hj
  have hl := r.length
  have hn := line63
  have I' : Inv X pins σ (upd H p (.lst (xs.set j v))) { s with heap := s.heap.update p (Obj.mapSeq (·.setIfInBounds j u)) } :=
    I.lstUpd hp ho (mapSeq_set its n j u) (r.set rv j) (by rw [List.length_set]; exact hz) s.toks
  by_cases h0 : 0 ≤ k
  · have hk : k.toNat = j := by
      rw [seqIndex_of h0 h4] at h1
      exact Option.some.inj h1
    exact PySem.W.ki_setAt ho h0 (by omega) (by rw [List.size_toArray, ← hl]; exact h4) (by rw [hk]; exact ⟨_, I', q⟩)
  · have hk : (k + (its.toArray.size : Int)).toNat = j := by
      rw [seqIndex_neg (by omega) h3] at h1
      rw [List.size_toArray, ← hl]
      exact Option.some.inj h1
    exact PySem.W.ki_setBack ho (by omega) (by rw [List.size_toArray, ← hl]; exact h3) (by omega) (by rw [hk]; exact ⟨_, I', q⟩)

/-! ### slices -/
theorem slice_bounds (lo hi : Option Int) (n : Nat) : (sliceBounds lo hi none n).1 = ((HT.sIx n 0 lo : Nat) : Int) ∧ (sliceBounds lo hi none n).2.1 = ((HT.sIx n n hi : Nat) : Int) ∧ (sliceBounds lo hi none n).2.2 = 1 := by
  refine ⟨?_, ?_, rfl⟩
  · cases lo with
    | none => simp [sliceBounds, HT.sIx]
    | some i =>
      simp only [sliceBounds, HT.sIx, Option.getD_none, show (1 : Int) > 0 by decide, if_true]
      by_cases h : i < 0
      · simp only [h, if_true] <;> omega
      · simp only [h, if_false] <;> omega
  · cases hi with
    | none => simp [sliceBounds, HT.sIx]
    | some i =>
      simp only [sliceBounds, HT.sIx, Option.getD_none, show (1 : Int) > 0 by decide, if_true]
      by_cases h : i < 0
      · simp only [h, if_true] <;> omega
      · simp only [h, if_false] <;> omega
theorem slicePick_cut (its : List Value) (lo hi : Option Int) : slicePick its.toArray lo hi none = ((its.drop (HT.sIx its.length 0 lo)).take (HT.sIx its.length its.length hi - HT.sIx its.length 0 lo)).toArray := by
  obtain ⟨h1, h2, h3⟩ := slice_bounds lo hi its.toArray.size
  unfold slicePick
  rw [h1, h2, h3]
  simp only [sliceRange_one, pick_run, List.size_toArray] <;> rfl
/-- xs[lo:hi] of a list: a new list -/
def rSlL (K : PySem.W.Frag) : V → Option Int → Option Int → Hp → VK → Prop := fun x lo hi H Q => ∃ a xs, x = .ref a ∧ SqL K H a xs ∧ ∀ p, H p = none → Q (.ref p) (upd H p (.lst (cutV xs lo hi)))
theorem sl_list : SlR X (rSlL X.K) := by
  intro pins s σ H x v vl vu lo hi sl Q I rx hs pl pu h
  obtain ⟨a, xs, rfl, hx, q⟩ := h
  cases rx
  obtain ⟨its, r, ht, hz⟩ := I.list hx
  have hlen := r.length
  refine ⟨"list", _, slot_list_getitem.lookup, ht.isList.typeIs, ?_⟩
  refine wpAny_getItem_list_slice ht.isList hs pl pu .none (by simp) ?_ (by rw [List.size_toArray] <;> omega)
  rw [slicePick_cut, ← hlen]
  refine ⟨.ref s.heap.objs.size, _, I.laid (t' := s.toks) (o := .lst (cutV xs lo hi)) (fun b ob q => Heap.get?_push_of_some _ q) (Nat.le_refl _) ?_, rfl, q _ (I.hok.fresh (Nat.le_refl _))⟩
  exact ⟨Nat.le_trans (cutV_length xs lo hi) hz, _, 0, (r.drop (HT.sIx xs.length 0 lo)).take (HT.sIx xs.length xs.length hi - HT.sIx xs.length 0 lo), Heap.get?_push_size _ rfl⟩

/-! ### in, not in: flat items -/
def flatV : V → Bool
  | .non => true
  | .bl _ => true
  | .int _ => true
  | .str _ => true
  | _ => false
/-- == of flat values -/
def eqV : V → V → Bool
  | .non, .non => true
  | .bl a, .bl b => a == b
  | .bl a, .int b => (if a then 1 else 0) == b
  | .int a, .bl b => a == (if b then 1 else 0)
  | .int a, .int b => a == b
  | .str a, .str b => a == b
  | _, _ => false
theorem eqAt_V {A : Around} {s : Shared} {y x : V} {u v : Value} (ry : RelV y u) (rx : RelV x v) (fy : flatV y = true) (fx : flatV x = true) : SeqAt.EqAt A s u v (eqV y x) := by
  cases y with
  | non =>
    cases ry
    cases x with
    | non => cases rx; exact SeqAt.EqAt.same _
    | bl b => cases rx; exact SeqAt.EqAt.none_bool b
    | int b => obtain ⟨t, rfl⟩ := rx; exact SeqAt.EqAt.none_int b t
    | str b => obtain ⟨t, rfl⟩ := rx; exact SeqAt.EqAt.none_str b t
    | _ => exact absurd (show false = true from fx) Bool.false_ne_true
  | bl a =>
    cases ry
    cases x with
    | non => cases rx; exact SeqAt.EqAt.bool_none a
    | bl b => cases rx; exact SeqAt.EqAt.bool_bool a b
    | int b => obtain ⟨t, rfl⟩ := rx; exact SeqAt.EqAt.bool_int a b t
    | str b => obtain ⟨t, rfl⟩ := rx; exact SeqAt.EqAt.bool_str a b t
    | _ => exact absurd (show false = true from fx) Bool.false_ne_true
  | int a =>
    obtain ⟨t', rfl⟩ := ry
    cases x with
    | non => cases rx; exact SeqAt.EqAt.int_none a t'
    | bl b => cases rx; exact SeqAt.EqAt.int_bool a t' b
    | int b => obtain ⟨t, rfl⟩ := rx; exact SeqAt.EqAt.int_int a t' b t
    | str b => obtain ⟨t, rfl⟩ := rx; exact SeqAt.EqAt.int_str a t' b t
    | _ => exact absurd (show false = true from fx) Bool.false_ne_true
  | str a =>
    obtain ⟨t', rfl⟩ := ry
    cases x with
    | non => cases rx; exact SeqAt.EqAt.str_none a t'
    | bl b => cases rx; exact SeqAt.EqAt.str_bool a t' b
    | int b => obtain ⟨t, rfl⟩ := rx; exact SeqAt.EqAt.str_int a t' b t
    | str b => obtain ⟨t, rfl⟩ := rx; exact SeqAt.EqAt.str_str a t' b t
    | _ => exact absurd (show false = true from fx) Bool.false_ne_true
  | _ => exact absurd (show false = true from fy) Bool.false_ne_true
/-- the items' answers, read off the values (a value's own answer does not lean on its token) -/
def eqU (x : V) (u : Value) : Bool := match u with
  | .none => eqV .non x
  | .bool b => eqV (.bl b) x
  | .int i _ => eqV (.int i) x
  | .str z _ => eqV (.str z) x
  | _ => false
theorem eqU_of {x y : V} {u : Value} (r : RelV y u) (f : flatV y = true) : eqU x u = eqV y x := by
  cases y with
  | non => cases r; rfl
  | bl b => cases r; rfl
  | int i => obtain ⟨t, rfl⟩ := r; rfl
  | str z => obtain ⟨t, rfl⟩ := r; rfl
  | _ => exact absurd (show false = true from f) Bool.false_ne_true
theorem any_eqU {x : V} : ∀ {xs : List V} {us : List Value}, Vals xs us → xs.all flatV = true → us.any (eqU x) = xs.any fun y => eqV y x
  | _, _, .nil, _ => rfl
  | y :: xs, u :: us, .cons r t, f => by
    rw [List.all_cons, Bool.and_eq_true] at f
    rw [List.any_cons, List.any_cons, eqU_of r f.1, any_eqU t f.2]
theorem mem_eqAt {A : Around} {s : Shared} {x : V} {v : Value} (rx : RelV x v) (fx : flatV x = true) : ∀ {xs : List V} {us : List Value}, Vals xs us → xs.all flatV = true → ∀ u ∈ us, SeqAt.EqAt A s u v (eqU x u)
  | _, _, .nil, _ => fun u hu => by cases hu
  | y :: xs, u :: us, .cons r t, f => fun u' hu => by
    rw [List.all_cons, Bool.and_eq_true] at f
    rcases List.mem_cons.mp hu with rfl | hu
    · rw [eqU_of r f.1]; exact eqAt_V r rx f.1 fx
    · exact mem_eqAt rx fx t f.2 u' hu
def inV (x : V) (xs : List V) : Bool := xs.any fun y => eqV y x
/-- x in a list or tuple of flat items -/
def rIn (K : PySem.W.Frag) (neg : Bool) : R2 := fun x y H Q => ∃ p xs, y = .ref p ∧ (SqL K H p xs ∨ SqT K H p xs) ∧ flatV x = true ∧ xs.all flatV = true ∧ Q (.bl (if neg then !inV x xs else inV x xs)) H
theorem op_in_seq : OpR X (compareOp .In) (rIn X.K false) := by
  intro pins s σ H x y v u Q I rx ry h
  obtain ⟨p, xs, rfl, hq, fx, fs, q⟩ := h
  cases ry
  rcases hq with hq | hq
  · obtain ⟨its, r, pl, hz⟩ := I.list hq
    refine SeqAt.in_listAt (eqU x) pl.isList (fun w hw => mem_eqAt rx fx r fs w (by simpa using hw)) ⟨.bl _, H, I, rfl, ?_⟩
    rw [show its.toArray.any (eqU x) = its.any (eqU x) by simp, any_eqU r fs]
    exact q
  · obtain ⟨its, r, pl, hz⟩ := I.tuple hq
    refine SeqAt.in_tupleAt (eqU x) pl (fun w hw => mem_eqAt rx fx r fs w (by simpa using hw)) ⟨.bl _, H, I, rfl, ?_⟩
    rw [show its.toArray.any (eqU x) = its.any (eqU x) by simp, any_eqU r fs]
    exact q
theorem op_notIn_seq : OpR X (compareOp .NotIn) (rIn X.K true) := by
  intro pins s σ H x y v u Q I rx ry h
  obtain ⟨p, xs, rfl, hq, fx, fs, q⟩ := h
  cases ry
  rcases hq with hq | hq
  · obtain ⟨its, r, pl, hz⟩ := I.list hq
    refine SeqAt.notIn_listAt (eqU x) pl.isList (fun w hw => mem_eqAt rx fx r fs w (by simpa using hw)) ⟨.bl _, H, I, rfl, ?_⟩
    rw [show its.toArray.any (eqU x) = its.any (eqU x) by simp, any_eqU r fs]
    exact q
  · obtain ⟨its, r, pl, hz⟩ := I.tuple hq
    refine SeqAt.notIn_tupleAt (eqU x) pl (fun w hw => mem_eqAt rx fx r fs w (by simpa using hw)) ⟨.bl _, H, I, rfl, ?_⟩
    rw [show its.toArray.any (eqU x) = its.any (eqU x) by simp, any_eqU r fs]
    exact q
theorem op_notIn_str : OpR X (compareOp .NotIn) (fun x y H Q => ∃ i j, x = .str i ∧ y = .str j ∧ Q (.bl (!(!(Builtin.Str.occurrences j i 0 j.length 1).isEmpty))) H) := by
  intro pins s σ H x y v u Q I rx ry h
  obtain ⟨i, j, rfl, rfl, q⟩ := h
  obtain ⟨t, rfl⟩ := rx
  obtain ⟨t', rfl⟩ := ry
  exact notIn_str ⟨.bl _, H, I, rfl, q⟩

/-! ### len, list(x), tuple(x) of any list or tuple that is read -/
theorem call_len_seq : CallR X (.builtin "len") (fun xs H Q => ∃ p ys, xs = [.ref p] ∧ (SqL X.K H p ys ∨ SqT X.K H p ys) ∧ Q (.int ys.length) H) := by
  intro pins s σ H xs us Q I r h
  obtain ⟨p, ys, rfl, hq, q⟩ := h
  obtain ⟨u, rfl, rx⟩ := vals1 r
  cases rx
  have hn := line63
  rcases hq with hq | hq
  · obtain ⟨its, r', pl, hz⟩ := I.list hq
    have hlen := r'.length
    exact Calls.call_len_list pl.isList (by simp only [List.size_toArray] <;> omega) ⟨.int ys.length, H, I.tok _, ⟨s.toks + 1, by rw [List.size_toArray, hlen]⟩, q⟩
  · obtain ⟨its, r', pl, hz⟩ := I.tuple hq
    have hlen := r'.length
    exact len_tuple pl (by simp only [List.size_toArray] <;> omega) ⟨.int ys.length, H, I.tok _, ⟨s.toks + 1, by rw [List.size_toArray, hlen]⟩, q⟩
theorem call_len_str : CallR X (.builtin "len") (fun xs H Q => ∃ z, xs = [.str z] ∧ z.length ≤ sizeLine ∧ Q (.int z.length) H) := by
  intro pins s σ H xs us Q I r h
  obtain ⟨z, rfl, hz, q⟩ := h
  obtain ⟨u, rfl, t, rfl⟩ := vals1 r
  have hn := line63
  exact len_str (by omega) ⟨.int z.length, H, I.tok _, ⟨_, rfl⟩, q⟩
theorem CallR.or {f : Value} {r r' : List V → Hp → VK → Prop} (h : CallR X f r) (h' : CallR X f r') : CallR X f (fun xs H Q => r xs H Q ∨ r' xs H Q) := by
  intro pins s σ H xs us Q I rs q
  rcases q with q | q
  · exact h pins s σ H xs us Q I rs q
  · exact h' pins s σ H xs us Q I rs q
theorem call_list_of : CallR X (.type "list") (fun xs H Q => ∃ p ys, xs = [.ref p] ∧ (SqL X.K H p ys ∨ SqT X.K H p ys) ∧ ∀ l, H l = none → Q (.ref l) (upd H l (.lst ys))) := by
  intro pins s σ H xs us Q I r h
  obtain ⟨p, ys, rfl, hq, q⟩ := h
  obtain ⟨u, rfl, rx⟩ := vals1 r
  cases rx
  have fin : ∀ (its : List Value), Vals ys its → ys.length ≤ sizeLine → ∀ (h' : Heap) (c' : Nat), (∀ b o', s.heap.get? b = some o' → h'.get? b = some o') →
      h'.get? s.heap.objs.size = some { cls := .type "list", dict := none, data := .seq its.toArray c', slots := #[] } → EP X pins σ Q (.ref s.heap.objs.size) { s with heap := h' } := fun its r' hz h' c' kp e =>
    ⟨.ref s.heap.objs.size, _, I.laid (t' := s.toks) kp (Nat.le_refl _) (show ObjOk X.prog X.w _ h' _ (.lst ys) from ⟨hz, its, c', r', e⟩), rfl, q _ (I.hok.fresh (Nat.le_refl _))⟩
  rcases hq with hq | hq
  · obtain ⟨its, r', pl, hz⟩ := I.list hq
    have hlen := r'.length
    obtain ⟨o, ho, hc, n, hd⟩ := pl.isList
    exact call_list_seq p (.inl rfl) ho hc hd (fun h' c' kp e => fin its r' hz h' c' kp e) (by simp only [List.size_toArray] <;> omega)
  · obtain ⟨its, r', pl, hz⟩ := I.tuple hq
    have hlen := r'.length
    obtain ⟨o, ho, hc, n, hd⟩ := pl
    exact call_list_seq p (.inr rfl) ho hc hd (fun h' c' kp e => fin its r' hz h' c' kp e) (by simp only [List.size_toArray] <;> omega)
theorem call_tuple_of : CallR X (.type "tuple") (fun xs H Q => ∃ p ys, xs = [.ref p] ∧ ((SqL X.K H p ys ∧ ∀ l, H l = none → Q (.ref l) (upd H l (.tup ys))) ∨ (SqT X.K H p ys ∧ Q (.ref p) H))) := by
  intro pins s σ H xs us Q I r h
  obtain ⟨p, ys, rfl, h⟩ := h
  obtain ⟨u, rfl, rx⟩ := vals1 r
  cases rx
  rcases h with ⟨hq, q⟩ | ⟨hq, q⟩
  · obtain ⟨its, r', pl, hz⟩ := I.list hq
    have hlen := r'.length
    refine call_tuple_list pl.isList (fun h' kp => ?_) (by simp only [List.size_toArray] <;> omega)
    have I1 : Inv X pins σ H { s with heap := h' } := I.kept (t' := s.toks) kp
    have I2 : Inv X pins σ (upd H h'.objs.size (.tup ys)) { s with heap := h'.push { cls := .type "tuple", data := .seq its.toArray } } :=
      I1.laid (t' := s.toks) (fun b o e => Heap.get?_push_of_some _ e) (Nat.le_refl _) (show ObjOk X.prog X.w _ _ _ (.tup ys) from ⟨hz, its, r', IsTup.new _ _⟩)
    exact ⟨.ref h'.objs.size, _, I2, rfl, q _ (I1.hok.fresh (Nat.le_refl _))⟩
  · obtain ⟨its, r', pl, hz⟩ := I.tuple hq
    exact call_tuple_same pl ⟨.ref p, H, I, rfl, q⟩

/-! ### the call of a builtin's method: o.m(..) -/
/-- the value is of that builtin type -/
def tyV (K : PySem.W.Frag) (T : String) (x : V) (H : Hp) : Prop := match x with
  | .str _ => T = "str"
  | .int _ => T = "int"
  | .ref p => (T = "list" ∧ ∃ xs, SqL K H p xs) ∨ (T = "tuple" ∧ ∃ o, K.lookup p = some o ∧ o.cls = .type "tuple" ∧ o.dict = none) ∨
      (T = "dict" ∧ ((∃ kvs, H p = some (.dK kvs)) ∨ ∃ kvs, H p = some (.dT kvs))) ∨ (T = "set" ∧ ∃ S n, H p = some (.set S n))
  | _ => False
theorem tyV_is {pins : List (Addr × Obj)} {σ : St} {H : Hp} {s : Shared} {T : String} {x : V} {v : Value} (I : Inv X pins σ H s) (r : RelV x v) (ty : tyV X.K T x H) :
    s.TypeIs v T ∧ ∀ a, v = .ref a → ∃ ob, s.heap.get? a = some ob ∧ ob.dict = none := by
  cases x with
  | str z =>
    obtain ⟨t, rfl⟩ := r
    cases (show T = "str" from ty)
    exact ⟨typeIs_str s z t, fun _ e => nomatch e⟩
  | int i =>
    obtain ⟨t, rfl⟩ := r
    cases (show T = "int" from ty)
    exact ⟨typeIs_int s i t, fun _ e => nomatch e⟩
  | ref p =>
    cases r
    rcases ty with ⟨rfl, xs, hq⟩ | ⟨rfl, o, hk, hc, hd⟩ | ⟨rfl, hk⟩ | ⟨rfl, S, n, hk⟩
    · obtain ⟨its, _, pl, _⟩ := I.list hq
      refine ⟨pl.isList.typeIs, fun a e => ?_⟩
      cases e
      obtain ⟨o, n, e, c, hd, _⟩ := pl
      exact ⟨o, e, hd⟩
    · refine ⟨⟨o, I.kIn p o hk, hc⟩, fun a e => ?_⟩
      cases e
      exact ⟨o, I.kIn _ o hk, hd⟩
    · have z : ∃ o, s.heap.get? p = some o ∧ o.ExactDict := by
        rcases hk with ⟨kvs, hk⟩ | ⟨kvs, hk⟩
        · obtain ⟨_, _, _, _, o, _, _, e, ex, _⟩ := I.hok p _ hk
          exact ⟨o, e, ex⟩
        · obtain ⟨_, _, _, _, o, _, _, e, ex, _⟩ := I.hok p _ hk
          exact ⟨o, e, ex⟩
      obtain ⟨o, e, ex⟩ := z
      refine ⟨⟨o, e, ex.1⟩, fun a e2 => ?_⟩
      cases e2
      exact ⟨o, e, ex.2.1⟩
    · obtain ⟨o, _, _, _, e, ex, _⟩ := I.hok p _ hk
      refine ⟨⟨o, e, ex.1⟩, fun a e2 => ?_⟩
      cases e2
      exact ⟨o, e, ex.2.1⟩
  | _ => exact False.elim ty
def tBM0 (K : PySem.W.Frag) (T : String) (r : V → List V → Hp → VK → Prop) (to : TE) : TE := fun σ H Q => to σ H fun x H1 => tyV K T x H1 ∧ r x [] H1 Q
def tBM (K : PySem.W.Frag) (T : String) (r : V → List V → Hp → VK → Prop) (to : TE) (t : TA) : TE := fun σ H Q => to σ H fun x H1 => tyV K T x H1 ∧ t σ H1 fun xs H2 => r x xs H2 Q
variable {o e : Expr} {es : List Expr} {to : TE} {t : TA} {name : Str} {apos cpos : Pos} {T id : String} {r : V → List V → Hp → VK → Prop}
theorem pe_bm0 (pa : PlainAttrs T) (slot : Slot T name id) (hty : typeOf (.builtin id) = pure (.type "method_descriptor")) (hm : MtR X id r) (ho : PE X o to)
    (hbase : attributeBase o name X.env (eval o X.env) = eval o X.env := by rfl) (hline : (apos.endLine == cpos.line) = true := by rfl) : PE X (.Call (.Attribute o name apos) [] [] cpos) (tBM0 X.K T r to) := by
  intro pins s σ H Q I h
  refine wpAny_Call_method0_late hbase hline (thn (ho pins s σ H _ I h) fun v s1 ⟨x, H1, I1, r1, ty, q1⟩ => ?_)
  obtain ⟨h1, h2⟩ := tyV_is I1 r1 ty
  exact ⟨T, id, pa, slot, hty, h1, h2, Calls.callWith_builtin rfl (PySem.evalArgs_none (hm pins s1 σ H1 x [] v [] Q I1 r1 .nil q1))⟩
theorem pe_bm (pa : PlainAttrs T) (slot : Slot T name id) (hty : typeOf (.builtin id) = pure (.type "method_descriptor")) (hm : MtR X id r) (ho : PE X o to) (ha : PA X (e :: es) t)
    (hbase : attributeBase o name X.env (eval o X.env) = eval o X.env := by rfl)
    (hfew : ((backTo cpos (starEach (e :: es) X.env)).all (fun x => !x.1) && (backToKw cpos (keywordEach [] X.env)).all (fun x => x.1.isSome)
      && decide ((e :: es).length + ([] : List Keyword).length + (if ([] : List Keyword).isEmpty then 0 else 1) < 30)) = true := by rfl)
    (hline : (apos.endLine == cpos.line) = true := by rfl) (hs : starEach (e :: es) X.env = (false, eval e X.env) :: starEach es X.env := by rfl) (hplain : (backTo cpos (starEach es X.env)).any (·.1) = false := by rfl) :
    PE X (.Call (.Attribute o name apos) (e :: es) [] cpos) (tBM X.K T r to t) := by
  intro pins s σ H Q I h
  refine wpAny_Call_method_late hbase hfew hline rfl (thn (ho pins s σ H _ I h) fun v s1 ⟨x, H1, I1, r1, ty, q1⟩ => ?_)
  obtain ⟨h1, h2⟩ := tyV_is I1 r1 ty
  refine ⟨T, id, pa, slot, hty, h1, h2, ?_⟩
  have hA := ha cpos pins s1 σ H1 _ I1 q1
  rw [hs] at hA ⊢
  refine Calls.callWith_builtin (by show (false || (backTo cpos (starEach es X.env)).any (·.1)) = false; rw [hplain] <;> rfl) (Calls.evalArgs_plain ?_)
  exact thn hA fun us s2 ⟨vs, H2, I2, r2, q2⟩ => hm pins s2 σ H2 x vs v us Q I2 r1 r2 q2
/- xs.append(e), list.index on a module's tuple .. are MtR facts of 06m -/
end
end L2

namespace L2
open PySem PySem.Spec PyProof.Rows

def MtM (X : Cx) (id : String) (r : V → List V → Hp → VK → Prop) : Prop :=
  ∀ (pins : List (Addr × Obj)) (s : Shared) (σ : St) (H : Hp) (x : V) (xs : List V) (v : Value) (us : List Value) (Q : VK), Inv X pins σ H s → RelV x v → Vals xs us → r x xs H Q →
    wpAny (model X.prog X.w) X.A (call (.builtin id) (v :: us)) (EP X pins σ Q) X.xe s

/-! ### lists of values -/
theorem Vals.one : ∀ {x : V} {us : List Value}, Vals [x] us → ∃ u, us = [u] ∧ RelV x u
  | _, _, .cons r .nil => ⟨_, rfl, r⟩
theorem Vals.two : ∀ {x y : V} {us : List Value}, Vals [x, y] us → ∃ u v, us = [u, v] ∧ RelV x u ∧ RelV y v
  | _, _, _, .cons r (.cons q .nil) => ⟨_, _, rfl, r, q⟩
theorem Vals.zero : ∀ {us : List Value}, Vals [] us → us = []
  | _, .nil => rfl
theorem Vals.dropLast {xs : List V} {us : List Value} (h : Vals xs us) : Vals xs.dropLast us.dropLast := by
  induction h with
  | nil => exact .nil
  | cons r t ih =>
    cases t with
    | nil => exact .nil
    | cons q t' => exact .cons r ih
theorem Vals.eraseIdx : ∀ {xs : List V} {us : List Value} (i : Nat), Vals xs us → Vals (xs.eraseIdx i) (us.eraseIdx i)
  | _, _, _, .nil => .nil
  | _, _, 0, .cons _ t => t
  | _, _, i + 1, .cons r t => .cons r (Vals.eraseIdx i t)
theorem Vals.reverse {xs : List V} {us : List Value} (h : Vals xs us) : Vals xs.reverse us.reverse := by
  induction h with
  | nil => exact .nil
  | cons r t ih => rw [List.reverse_cons, List.reverse_cons]; exact Vals.append ih (.cons r .nil)
theorem Vals.rep {xs : List V} {us : List Value} (h : Vals xs us) : ∀ k : Nat, Vals (List.replicate k xs).flatten (List.replicate k us).flatten
  | 0 => .nil
  | k + 1 => by
    rw [List.replicate_succ, List.replicate_succ, List.flatten_cons, List.flatten_cons]
    exact Vals.append h (Vals.rep h k)
theorem erase_last {α : Type} (l : List α) : l.eraseIdx (l.length - 1) = l.dropLast := by
  induction l with
  | nil => rfl
  | cons a r ih =>
    cases r with
    | nil => rfl
    | cons b r =>
      have e : (a :: b :: r).length - 1 = ((b :: r).length - 1) + 1 := by
        have h1 : (a :: b :: r).length = r.length + 2 := rfl
        have h2 : (b :: r).length = r.length + 1 := rfl
        omega
      rw [e, List.eraseIdx_cons_succ, ih]
      all_goals rfl
theorem len_erase {α : Type} : ∀ (l : List α) (i : Nat), (l.eraseIdx i).length ≤ l.length
  | [], _ => Nat.le_refl _
  | _ :: _, 0 => Nat.le_succ _
  | _ :: r, i + 1 => Nat.succ_le_succ (len_erase r i)
theorem foldl_rep (its : List Value) : ∀ (k : Nat) (acc : List Value),
    List.foldl (fun x1 x2 => x1 ++ x2) acc.toArray (List.replicate k its.toArray) = (acc ++ (List.replicate k its).flatten).toArray
  | 0, acc => by simp
  | k + 1, acc => by
    have e : acc.toArray ++ its.toArray = (acc ++ its).toArray := by simp
    have e2 : (acc ++ its) ++ (List.replicate k its).flatten = acc ++ (List.replicate (k + 1) its).flatten := by
      rw [List.replicate_succ, List.flatten_cons, List.append_assoc]
    rw [← e2, ← foldl_rep its k (acc ++ its), ← e, List.replicate_succ, List.foldl_cons]

section
variable {X : Cx} {pins : List (Addr × Obj)} {σ : St} {H : Hp} {s : Shared} {l b : Addr} {xs ys zs : List V}

/-! ### the two steps: a tracked list is rewritten, a new list is laid -/
theorem Inv.lset {its its' : List Value} {n : Nat} {f : Array Value → Array Value} {t' : Nat} (I : Inv X pins σ H s) (hH : H l = some (.lst xs))
    (e : s.heap.get? l = some { cls := .type "list", data := .seq its.toArray n }) (hf : f its.toArray = its'.toArray) (hv : Vals ys its') (hz : ys.length ≤ sizeLine) :
    Inv X pins σ (upd H l (.lst ys)) { s with heap := s.heap.update l (Obj.mapSeq f), toks := t' } := by
  have q := PySem.IsL.update e f
  rw [hf] at q
  refine I.write (x := l) (e := l) (by rw [hH]; exact trivial) (.inl rfl) (fun b' u hb hu => (Heap.get?_update_other s.heap (Obj.mapSeq f) (Ne.symm hb)).trans hu) ⟨_, q⟩ ?_
  exact ⟨hz, its', _, hv, q⟩
theorem Inv.lnew {its : List Value} {t' : Nat} (I : Inv X pins σ H s) (hv : Vals ys its) (hz : ys.length ≤ sizeLine) :
    Inv X pins σ (upd H s.heap.objs.size (.lst ys)) { s with heap := s.heap.push { cls := .type "list", data := .seq its.toArray }, toks := t' } :=
  I.laid (fun _ _ q => Heap.get?_push_of_some _ q) (Nat.le_refl _) ⟨hz, its, 0, hv, Heap.get?_push_size _ rfl⟩
theorem Inv.fresh (I : Inv X pins σ H s) : H s.heap.objs.size = none := I.hok.fresh (Nat.le_refl _)
theorem Inv.lstM (I : Inv X pins σ H s) (hH : H l = some (.lst xs)) : xs.length ≤ sizeLine ∧ ∃ (its : List Value) (n : Nat), Vals xs its ∧ xs.length = its.length ∧ s.heap.get? l = some { cls := .type "list", data := .seq its.toArray n } := by
  obtain ⟨z, its, n, r, e⟩ := I.hok l _ hH
  exact ⟨z, its, n, r, r.length, e⟩

theorem notLongL {n : Nat} (h : n ≤ sizeLine) : Builtin.List.listTooLong n = false := by
  unfold Builtin.List.listTooLong
  exact decide_eq_false (by omega)
end

section
variable {X : Cx}

/-! ### methods -/
def rAppend : V → List V → Hp → VK → Prop := fun x vs H Q => ∃ l xs y, x = .ref l ∧ vs = [y] ∧ H l = some (.lst xs) ∧ xs.length < sizeLine ∧ Q .non (upd H l (.lst (xs ++ [y])))
theorem mt_append : MtM X "list.append" rAppend := by
  intro pins s σ H x vs v us Q I rx rv h
  obtain ⟨l, xs, y, rfl, rfl, hH, hz, q⟩ := h
  cases rx
  obtain ⟨u, rfl, ru⟩ := rv.one
  obtain ⟨z, its, n, r, hl, e⟩ := I.lstM hH
  refine call_meets F.slot_list_append ⟨_, e, rfl⟩ F.entry_list_append (F.args_list_append_2 _ _) (PySem.list_append l its.toArray n u (by rw [List.size_toArray]; omega)) ⟨e, ?_⟩
  refine ⟨.non, _, I.lset (its' := its ++ [u]) hH e (by simp) (r.append (.cons ru .nil)) ?_, rfl, q⟩
  rw [List.length_append, List.length_singleton]
  omega

def rExtend : V → List V → Hp → VK → Prop := fun x vs H Q => ∃ l b xs zs, x = .ref l ∧ vs = [.ref b] ∧ H l = some (.lst xs) ∧ H b = some (.lst zs) ∧ xs.length + zs.length ≤ sizeLine ∧ Q .non (upd H l (.lst (xs ++ zs)))
theorem mt_extend : MtM X "list.extend" rExtend := by
  intro pins s σ H x vs v us Q I rx rv h
  obtain ⟨l, b, xs, zs, rfl, rfl, hH, hB, hz, q⟩ := h
  cases rx
  obtain ⟨u, rfl, ru⟩ := rv.one
  cases ru
  obtain ⟨z, its, n, r, hl, e⟩ := I.lstM hH
  obtain ⟨z2, its2, n2, r2, hl2, e2⟩ := I.lstM hB
  have hsz : its.toArray.size + its2.toArray.size ≤ sizeLine := by rw [List.size_toArray, List.size_toArray]; omega
  have hlong : ¬ (!its.toArray.isEmpty && Builtin.List.listTooLong (its.toArray.size + its2.toArray.size)) = true := by
    rw [notLongL hsz, Bool.and_false]
    exact Bool.false_ne_true
  refine call_meets F.slot_list_extend ⟨_, e, rfl⟩ F.entry_list_extend (F.args_list_extend_2 _ _)
    (AutoSeq1.list_extend_list_list_0 l its.toArray n b its2.toArray n2 hlong (by rw [List.size_toArray]; omega) (by omega)) ⟨e, e2, ?_⟩
  refine ⟨.non, _, I.lset (its' := its ++ its2) hH e (by simp) (r.append r2) ?_, rfl, q⟩
  rw [List.length_append]
  omega

def rPop : V → List V → Hp → VK → Prop := fun x vs H Q => ∃ l xs y, x = .ref l ∧ vs = [] ∧ H l = some (.lst xs) ∧ xs[xs.length - 1]? = some y ∧ Q y (upd H l (.lst xs.dropLast))
theorem mt_pop : MtM X "list.pop" rPop := by
  intro pins s σ H x vs v us Q I rx rv h
  obtain ⟨l, xs, y, rfl, rfl, hH, hy, q⟩ := h
  cases rx
  have hus := rv.zero
  subst hus
  obtain ⟨z, its, n, r, hl, e⟩ := I.lstM hH
  obtain ⟨u, hu, ru⟩ := r.get hy
  have hy' : its.toArray[its.toArray.size - 1]? = some u := by
    show its.toArray[its.length - 1]? = some u
    rw [← Array.getElem?_toList, ← hl]
    exact hu
  refine call_meets F.slot_list_pop ⟨_, e, rfl⟩ F.entry_list_pop (F.args_list_pop_1 _) (MeetsSeq.list_pop_last l its.toArray n u hy' (by rw [List.size_toArray]; omega)) ⟨e, ?_⟩
  refine ⟨y, _, I.lset (its' := its.dropLast) hH e ?_ r.dropLast ?_, ru, q⟩
  · show its.toArray.eraseIdxIfInBounds (its.toArray.size - 1) = its.dropLast.toArray
    rw [List.size_toArray, List.eraseIdxIfInBounds_toArray, erase_last]
  · rw [List.length_dropLast]
    omega

def rPopAt : V → List V → Hp → VK → Prop := fun x vs H Q => ∃ l xs i k y, x = .ref l ∧ vs = [.int i] ∧ H l = some (.lst xs) ∧ -(2 ^ 63) ≤ i ∧ i < 2 ^ 63 ∧ seqIndex? i xs.length = some k ∧ xs[k]? = some y ∧ Q y (upd H l (.lst (xs.eraseIdx k)))
theorem mt_popAt : MtM X "list.pop" rPopAt := by
  intro pins s σ H x vs v us Q I rx rv h
  obtain ⟨l, xs, i, k, y, rfl, rfl, hH, h1, h2, hk, hy, q⟩ := h
  cases rx
  obtain ⟨u, rfl, ru⟩ := rv.one
  obtain ⟨t, rfl⟩ := ru
  obtain ⟨z, its, n, r, hl, e⟩ := I.lstM hH
  obtain ⟨w, hw, rw'⟩ := r.get hy
  refine call_meets F.slot_list_pop ⟨_, e, rfl⟩ F.entry_list_pop (F.args_list_pop_2 _ _)
    (MeetsSeq.list_pop_at l its.toArray n i t k w (fitsIndex_both h1 h2) (by rw [List.size_toArray, ← hl]; exact hk) (by rw [← Array.getElem?_toList]; exact hw) (by rw [List.size_toArray]; omega)) ⟨e, ?_⟩
  refine ⟨y, _, I.lset (its' := its.eraseIdx k) hH e ?_ (r.eraseIdx k) ?_, rw', q⟩
  · show its.toArray.eraseIdxIfInBounds k = (its.eraseIdx k).toArray
    rw [List.eraseIdxIfInBounds_toArray]
  · have := len_erase xs k
    omega

def rReverse : V → List V → Hp → VK → Prop := fun x vs H Q => ∃ l xs, x = .ref l ∧ vs = [] ∧ H l = some (.lst xs) ∧ Q .non (upd H l (.lst xs.reverse))
theorem mt_reverse : MtM X "list.reverse" rReverse := by
  intro pins s σ H x vs v us Q I rx rv h
  obtain ⟨l, xs, rfl, rfl, hH, q⟩ := h
  cases rx
  have hus := rv.zero
  subst hus
  obtain ⟨z, its, n, r, hl, e⟩ := I.lstM hH
  refine call_meets F.slot_list_reverse ⟨_, e, rfl⟩ F.entry_list_reverse (F.args_list_reverse_1 _) (AutoSeq1.list_reverse_list_0 l its.toArray n (by rw [List.size_toArray]; omega)) ⟨e, ?_⟩
  refine ⟨.non, _, I.lset (its' := its.reverse) hH e (by simp) r.reverse ?_, rfl, q⟩
  rw [List.length_reverse]
  omega

def rClear : V → List V → Hp → VK → Prop := fun x vs H Q => ∃ l xs, x = .ref l ∧ vs = [] ∧ H l = some (.lst xs) ∧ Q .non (upd H l (.lst []))
theorem mt_clear : MtM X "list.clear" rClear := by
  intro pins s σ H x vs v us Q I rx rv h
  obtain ⟨l, xs, rfl, rfl, hH, q⟩ := h
  cases rx
  have hus := rv.zero
  subst hus
  obtain ⟨z, its, n, r, hl, e⟩ := I.lstM hH
  refine call_meets F.slot_list_clear ⟨_, e, rfl⟩ F.entry_list_clear (F.args_list_clear_1 _) (AutoSeq1.list_clear_list_0 l its.toArray n (by rw [List.size_toArray]; omega)) ⟨e, ?_⟩
  exact ⟨.non, _, I.lset (its' := []) (ys := []) hH e rfl .nil (Nat.zero_le _), rfl, q⟩

/-! ### list + list, list += list, list * int -/
def rCat : R2 := fun x y H Q => ∃ l b xs zs, x = .ref l ∧ y = .ref b ∧ H l = some (.lst xs) ∧ H b = some (.lst zs) ∧ xs.length + zs.length ≤ sizeLine ∧ ∀ p, H p = none → Q (.ref p) (upd H p (.lst (xs ++ zs)))
theorem op_cat : OpR X (binaryOp .Add) rCat := by
  intro pins s σ H x y v u Q I rx ry h
  obtain ⟨l, b, xs, zs, rfl, rfl, hH, hB, hz, q⟩ := h
  cases rx
  cases ry
  obtain ⟨z, its, n, r, hl, e⟩ := I.lstM hH
  obtain ⟨z2, its2, n2, r2, hl2, e2⟩ := I.lstM hB
  refine PySem.P.add_list e e2 ?_ (by rw [List.size_toArray, List.size_toArray]; omega)
  have ea : its.toArray ++ its2.toArray = (its ++ its2).toArray := by simp
  rw [ea]
  exact ⟨.ref _, _, I.lnew (t' := s.toks) (r.append r2) (by rw [List.length_append]; omega), rfl, q _ I.fresh⟩
/-- a list times an int (a negative one is nothing) -/
def rRep : R2 := fun x y H Q => ∃ l k xs, x = .ref l ∧ y = .int k ∧ H l = some (.lst xs) ∧ -(2 ^ 63) ≤ k ∧ k < 2 ^ 63 ∧ xs.length * k.toNat ≤ sizeLine ∧
  ∀ p, H p = none → Q (.ref p) (upd H p (.lst (List.replicate k.toNat xs).flatten))
theorem len_rep {α : Type} (xs : List α) (k : Nat) : (List.replicate k xs).flatten.length = k * xs.length := by
  induction k with
  | zero => simp
  | succ k ih => rw [List.replicate_succ, List.flatten_cons, List.length_append, ih, Nat.succ_mul, Nat.add_comm]
theorem op_rep : OpR X (binaryOp .Mult) rRep := by
  intro pins s σ H x y v u Q I rx ry h
  obtain ⟨l, k, xs, rfl, rfl, hH, h1, h2, hz, q⟩ := h
  cases rx
  obtain ⟨t, rfl⟩ := ry
  obtain ⟨z, its, n, r, hl, e⟩ := I.lstM hH
  have hlen : its.toArray.size * k.toNat ≤ sizeLine := by rw [List.size_toArray, ← hl]; exact hz
  have hcap : ¬ its.toArray.size * k.toNat > (2 ^ 63 - 1) / 8 := by
    have : (sizeLine : Nat) ≤ (2 ^ 63 - 1) / 8 := by decide
    omega
  have hfit : ¬ (!Builtin.List.listFitsIndex k) = true := by
    rw [fitsIndex_both h1 h2]
    exact Bool.false_ne_true
  have hlong : ¬ Builtin.List.listTooLong (its.toArray.size * k.toNat) = true := by
    rw [notLongL hlen]
    exact Bool.false_ne_true
  have hnew : List.foldl (fun x1 x2 => x1 ++ x2) #[] (List.replicate (if its.toArray.isEmpty = true then 0 else k.toNat) its.toArray) = (List.replicate k.toNat its).flatten.toArray := by
    have f0 : ∀ m : Nat, List.foldl (fun x1 x2 => x1 ++ x2) #[] (List.replicate m its.toArray) = (List.replicate m its).flatten.toArray := fun m => by
      have := foldl_rep its m []
      rw [List.nil_append] at this
      exact this
    rw [f0]
    cases its with
    | nil => simp
    | cons a r' => rw [if_neg (by simp)]
  refine wpAny_binaryOp_repeat_ref (T := "list") (U := "int") (by decide) ⟨_, e, rfl⟩ (fun s' => typeIs_int s' k t) noFill_list_mul F.fills_int_mul F.slot_int_rmul repeat_list F.slot_int_index.lookup
    (call_meets F.slot_int_rmul (typeIs_int s k t) F.entry_int_rmul (F.args_int_rmul_2 _ _) (int___rmul___int_list k t l its.toArray n)
      ⟨e, rfl, ⟨_, e, rfl⟩, call_meets F.slot_list_mul ⟨_, e, rfl⟩ F.entry_list_mul (F.args_list_mul_2 _ _) (AutoListH.list___mul___list_int_3 l its.toArray n k t hfit hcap hlong) ⟨e, ?_⟩⟩)
  rw [hnew]
  exact ⟨.ref _, _, I.lnew (t' := s.toks) (r.rep k.toNat) (by rw [len_rep, Nat.mul_comm]; exact hz), rfl, q _ I.fresh⟩

/-! ### del xs[i] -/
theorem del_list {pins : List (Addr × Obj)} {s : Shared} {σ : St} {H : Hp} {l : Addr} {xs : List V} {i : Int} {t : Tok} {k : Nat} {Q : Unit → Shared → Prop} (I : Inv X pins σ H s) (hH : H l = some (.lst xs))
    (h1 : -(2 ^ 63) ≤ i) (h2 : i < 2 ^ 63) (hk : seqIndex? i xs.length = some k) (h : ∀ s', Inv X pins σ (upd H l (.lst (xs.eraseIdx k))) s' → Q () s') :
    wpAny (model X.prog X.w) X.A (delItem (.ref l) (.int i t)) Q X.xe s := by
  obtain ⟨z, its, n, r, hl, e⟩ := I.lstM hH
  refine PySem.P.delItem_list (k := k) e (fitsIndex_both h1 h2) (by rw [List.size_toArray, ← hl]; exact hk) (h _ ?_) (by rw [List.size_toArray]; omega)
  refine I.lset (its' := its.eraseIdx k) (t' := s.toks) hH e ?_ (r.eraseIdx k) ?_
  · show its.toArray.eraseIdxIfInBounds k = (its.eraseIdx k).toArray
    rw [List.eraseIdxIfInBounds_toArray]
  · have := len_erase xs k
    omega
end

/-! ### xs[a:b] = ys -/
section
variable {prog : Program} {w : World} {A : Around} {E : Value → Shared → Prop} {s : Shared}
theorem splice_eq (its its2 : List Value) (a c : Nat) : its.toArray.extract 0 a ++ its2.toArray ++ its.toArray.extract c its.toArray.size = (its.take a ++ its2 ++ its.drop c).toArray := by
  apply Array.toList_inj.mp
  first
    | (simp
       exact List.take_of_length_le (by simp))
    | simp [List.take_of_length_le]
    | simp
theorem bounds_run {a c n : Nat} (hac : a ≤ c) (hc : c ≤ n) : sliceBounds (some (a : Int)) (some (c : Int)) none n = ((a : Int), (c : Int), 1) := by
  simp only [sliceBounds, Option.getD_none]
  have h1 : ¬ ((a : Int) < 0) := by omega
  have h2 : ¬ ((c : Int) < 0) := by omega
  simp only [h1, h2, if_false, show (1 : Int) > 0 by decide, if_true]
  congr 1
  · omega
  · congr 1; omega
set_option maxRecDepth 100000 in
/-- list.__setitem__ with a slice of step one and another list -/
theorem setItem_slice {l b sl : Addr} {items new : Array Value} {n n2 : Nat} {vl vu : Value} {a c : Nat} {Q : Unit → Shared → Prop}
    (e : s.heap.get? l = some { cls := .type "list", data := .seq items n }) (e2 : s.heap.get? b = some { cls := .type "list", data := .seq new n2 }) (hne : l ≠ b)
    (hs : s.heap.IsSliceOf sl vl vu .none) (pl : IsPart vl (some (a : Int))) (pu : IsPart vu (some (c : Int))) (hac : a ≤ c) (hc : c ≤ items.size)
    (hsz : items.size + new.size ≤ sizeLine) (h : Q () { s with heap := s.heap.update l (Obj.mapSeq fun xs => xs.extract 0 a ++ new ++ xs.extract c xs.size) }) :
    wpAny (model prog w) A (setItem (.ref l) (.ref sl) (.ref b)) Q E s := by
  have hl : s.heap.IsList l items := PySem.IsL.isList e
  have hb : s.heap.IsList b new := PySem.IsL.isList e2
  obtain ⟨os, hos, hcs, hds⟩ := id hs
  have hTs : s.TypeIs (.ref sl) "slice" := ⟨os, hos, hcs⟩
  have hstep : ¬ ((rawPart none == rawInt 0) = true) := Bool.false_ne_true
  have hsame : Builtin.List.listSameRef (.ref l) (.ref b) = false := by
    unfold Builtin.List.listSameRef
    exact beq_eq_false_iff_ne.mpr hne
  have hmax : (max (a : Int) (c : Int)).toNat = c := by omega
  have hz' : ((fun xs : Array Value => xs.extract 0 a ++ new ++ xs.extract c xs.size) items).size ≤ sizeLine + 1 := by
    simp only [Array.size_append, Array.size_extract]
    omega
  unfold setItem
  try with_reducible refine wpAny_holding ?_
  first | refine wpAny_bind (wpAny_pure ?_) | skip
  refine wpAny_bind (wpAny_sequenceKey hl.typeIs (by decide) ?_)
  refine wpAny_bind (wpAny_callSpecial?_slot (name := Str.ofString "__setitem__") hl.typeIs slot_list_setitem
    (wpAny_call_entry slot_list_setitem hl.typeIs entry_list_setitem ?_ (args_list_setitem _ _ _)))
  show wpAny _ _ (Builtin.List.listSubscript? (.ref sl) >>= _) _ _ s
  refine wpAny_bind ?_
  unfold Builtin.List.listSubscript?
  refine wpAny_bind (wpAny_specialOf hTs slice_no_index ?_)
  simp only [Option.isNone_none, if_true]
  refine wpAny_pure ?_
  show wpAny _ _ (typeOf (.ref sl) >>= _) _ _ s
  refine wpAny_bind (wpAny_typeOf hTs ?_)
  first
    | rw [if_neg (by decide)]
    | refine PySem.W.KFB.if_not (by decide) ?_
  rw [listSliceParts_eq]
  refine wpAny_bind (wpAny_bind (wpAny_field hos hds (x := .none) rfl (wpAny_bind (wpAny_listPart .none ?_))))
  rw [if_neg hstep]
  refine wpAny_bind (wpAny_field hos hds (x := vl) rfl (wpAny_bind (wpAny_listPart pl ?_)))
  refine wpAny_bind (wpAny_field hos hds (x := vu) rfl (wpAny_bind (wpAny_listPart pu (wpAny_pure ?_))))
  first
    | simp only [hsame, Bool.false_eq_true, if_false]
    | refine PySem.W.KFB.if_not hsame ?_
    | (dsimp only
       rw [if_neg (by rw [hsame]; exact Bool.false_ne_true)])
  refine wpAny_bind (m := Builtin.List.listAllItems (.ref b) "must assign iterable to extended slice") ?_
  unfold Builtin.List.listAllItems
  refine wpAny_bind (wpAny_typeOf hb.typeIs ?_)
  first
    | refine PySem.W.KFB.if_so (by decide) ?_
    | rw [if_pos (by decide)]
    | simp only [beq_self_eq_true, Bool.true_or, if_true]
  unfold Builtin.List.listItems
  refine wpAny_bind (wpAny_seqItems e2 rfl (wpAny_pure ?_))
  refine wpAny_bind (wpAny_bind (wpAny_seqItems e rfl (wpAny_pure ?_)))
  refine wpAny_bind (wpAny_of_eq ((sliceIndices_raw (some (a : Int)) (some (c : Int)) none items.size (by simp)).trans (congrArg (pure : Int × Int × Int → Sem (Int × Int × Int)) (bounds_run hac hc))) ?_)
  show wpAny _ _ (if ((1 : Int) == 1) = true then _ else _) _ _ s
  rw [if_pos (by decide)]
  refine wpAny_bind (wpAny_rule ?_)
  first
    | simp only [notLongL hsz, Bool.false_eq_true, if_false]
    | refine PySem.W.KFB.if_not (notLongL hsz) ?_
  first | refine wpAny_bind (wpAny_pure ?_) | skip
  show wpAny _ _ (updateSeq l (fun xs => xs.extract 0 ((a : Int)).toNat ++ new ++ xs.extract (max (a : Int) (c : Int)).toNat xs.size) >>= _) _ _ s
  rw [hmax, Int.toNat_natCast]
  refine wpAny_bind (wpAny_updateSeq (hz := Nat.le_trans (Nat.le_add_right _ _) hsz) (_hz' := hz') e rfl ?_)
  refine wpAny_bind (wpAny_letGo ?_)
  first
    | exact wpAny_bind (wpAny_pure (wpAny_pure ⟨.none, rfl, wpAny_pure h⟩))
    | exact wpAny_pure ⟨.none, rfl, wpAny_pure h⟩
end

section
variable {X : Cx}
/-- xs[a:c] = ys of another list, at the value level: sl is the slice object that was just made -/
theorem set_slice {pins : List (Addr × Obj)} {s : Shared} {σ : St} {H : Hp} {l b sl : Addr} {xs ys : List V} {a c : Int} {vl vu : Value} {Q : Unit → Shared → Prop} (I : Inv X pins σ H s)
    (hH : H l = some (.lst xs)) (hB : H b = some (.lst ys)) (hne : l ≠ b) (hs : s.heap.IsSliceOf sl vl vu .none) (ra : RelV (.int a) vl) (rc : RelV (.int c) vu) (h0 : 0 ≤ a) (hac : a ≤ c) (hc : c ≤ xs.length)
    (hz : xs.length + ys.length ≤ sizeLine) (h : ∀ s', Inv X pins σ (upd H l (.lst (xs.take a.toNat ++ ys ++ xs.drop c.toNat))) s' → Q () s') :
    wpAny (model X.prog X.w) X.A (setItem (.ref l) (.ref sl) (.ref b)) Q X.xe s := by
  obtain ⟨ta, rfl⟩ := ra
  obtain ⟨tc, rfl⟩ := rc
  obtain ⟨z, its, n, r, hl, e⟩ := I.lstM hH
  obtain ⟨z2, its2, n2, r2, hl2, e2⟩ := I.lstM hB
  obtain ⟨a', rfl⟩ := Int.eq_ofNat_of_zero_le h0
  obtain ⟨c', rfl⟩ := Int.eq_ofNat_of_zero_le (Int.le_trans h0 hac)
  simp only [Int.toNat_natCast] at h
  refine setItem_slice (a := a') (c := c') e e2 hne hs (.int _ _) (.int _ _) (by omega) (by rw [List.size_toArray]; omega) (by rw [List.size_toArray, List.size_toArray]; omega) (h _ ?_)
  refine I.lset (its' := its.take a' ++ its2 ++ its.drop c') (t' := s.toks) hH e ?_ (Vals.append (Vals.append (r.take _) r2) (r.drop _)) ?_
  · exact splice_eq its its2 a' c'
  · rw [List.length_append, List.length_append, List.length_take, List.length_drop]
    omega
end
end L2

namespace Att
open PySem PySem.W PySem.Calls PyProof.Rows

/-! ### the script -/
theorem ints_of_wellAll {P : Params} {h : Heap} : ∀ (ns : List Int) (vs : List Value), WellAll P h vs (ns.map WData.int) → IntsAre vs ns := by
  intro ns
  induction ns with
  | nil =>
    intro vs w
    rw [List.map_nil] at w
    cases w
    exact .nil
  | cons n ns ih =>
    intro vs w
    rw [List.map_cons] at w
    cases w with
    | cons a b =>
      cases a
      exact .cons _ _ (ih _ b)

theorem script_of {l : OpenLaw} {n : Nat} (hn : l.most = some n) {P : Params} {h : Heap} {args : List WData} {vals : List Value}
    (hpre : l.row.toRowW.claim.pre args = true) (hwl : WellAll P h vals args) :
    ∃ a vs ns, vals = [Value.ref a] ∧ args = [WData.list (ns.map WData.int)] ∧ h.get? a = some { cls := .type "list", data := .seq vs.toArray } ∧ IntsAre vs ns ∧ ns.length ≤ n := by
  have hsh : WShape.hasAll [] args [.list .int] = true := (pre_splitW hpre).1
  have hc : l.pre.holds [] { args := args } = true := (pre_splitW hpre).2
  obtain ⟨d, r, rfl, h1, h2⟩ := hasAllW_cons hsh
  obtain rfl := hasAllW_nil h2
  obtain ⟨xs, rfl, h3⟩ := hasW_list h1
  obtain ⟨ns, rfl⟩ := items_int h3
  have hlen : ns.length ≤ n := by
    unfold OpenLaw.pre at hc
    have h4 : (WTm.not (.lt (.lit (.int (n : Int))) (.len (.arg 0)))).holds [] { args := [.list (ns.map .int)] } = true := by
      have h4 := (holds_andW hc).1
      rw [hn] at h4
      exact h4
    have h5 := condW_of h4 (w_not (w_lt w_lit (w_len_list (w_arg rfl))))
    rw [List.length_map] at h5
    refine Nat.le_of_not_lt fun q => ?_
    have q' : (n : Int) < ((ns.length : Nat) : Int) := by omega
    first
      | (rw [decide_eq_true q'] at h5; exact absurd h5 (by decide))
      | (simp at h5; omega)
  cases hwl with
  | cons w1 w2 =>
    cases w2
    cases w1 with
    | list ho hall => exact ⟨_, _, ns, rfl, rfl, ho, ints_of_wellAll ns _ hall, hlen⟩

theorem post_true (l : OpenLaw) (args : List WData) : l.row.toRowW.claim.post args (.bool true) args = true :=
  postW_of (r := l.row.toRowW) (X := (true == true))
    (show WShape.has [] (.bool true) .bool = true by first | rfl | decide | simp [WShape.has, WShape.arms, WShape.armsAll])
    (show (WTm.eq .res (.lit (.bool true))).value [] { args := args, res := some (.bool true), after := args } = some (.bool (true == true)) from w_eq_bool (w_res rfl) w_lit) rfl

/-! ### the attachment: holds_open's last premise (the goal 'hc' behind k_head) from a wpAny of the law's body -/
theorem attach {l : OpenLaw} {n : Nat} {q : Program} {loose : List Str} {XP : (Str → Option Value) → Heap → Prop} {YP : World → Heap → Prop} {d : DefRec} {x : Str}
    (hn : l.most = some n) (hdf : d.params.defaults = [])
    (hbind : ∀ pm cd doc v : Value, bindArgs (docDef d.name d.params d.body d.scope pm cd doc) ⟨[v], []⟩ = pure [(x, v)])
    (hx : d.scope.names.lookup x = some .local ∨ d.scope.names.lookup x = some .cell)
    (hk : d.scope.kind = .function) (hco : d.scope.isCoroutine = false) (hgen : d.scope.isGenerator = false)
    (body : ∀ (w : World) (s₀ s₁ s : Shared) (mg mb : Str → Option Value) (fa : Addr) (o : Obj) (pm cd doc : Value) (a : Addr) (vs : List Value) (ns : List Int),
      Ground q loose [] XP w s₀ mg mb s₁.heap → YP w s₁.heap →
      s₁.heap.get? fa = some o → o.data = .func (docDef d.name d.params d.body d.scope pm cd doc) → s₁.heap.CodeRec cd d.name → mg d.name = some (.ref fa) →
      s₁.heap.get? a = some { cls := .type "list", data := .seq vs.toArray } → IntsAre vs ns → ns.length ≤ n →
      s.gens = #[] → s.os = s₁.os →
      Fr s₁.heap s₁.heap.objs.size s.heap (bindL (envOfC d.name d.scope s₁.heap.objs.size fa cd).kindOf [(x, .ref a)] fun _ => none) →
      Cl s₁.heap.objs.size (cellsFrom (s₁.heap.objs.size + 1) d.scope.names []) s.heap (bindC (envOfC d.name d.scope s₁.heap.objs.size fa cd).kindOf [(x, .ref a)] fun _ => none) →
      wpAny (model l.prog w) (callerA.deeper (envOfC d.name d.scope s₁.heap.objs.size fa cd)) (execs d.body (envOfC d.name d.scope s₁.heap.objs.size fa cd))
        (fun f s' => f = .ret (.bool true) ∧ OldK s₁.heap s'.heap ∧ s'.os = s₁.os ∧ AllBare s'.gens) (fun _ _ => False) s) :
    WalkO q loose XP YP l.row.toRowW d [] (fun f vs => PySem.call f vs) := by
  intro w s₀ s₁ mg mb G Y fa o pm cd doc dV kV ho hd hcd hD hmg hg args vals as hpre hlay hrd hwl hlo
  obtain rfl : dV = .none := Dflts.none hD hdf
  obtain rfl : kV = .none := Dflts.noKw hD
  obtain ⟨a, vs, ns, rfl, rfl, hobj, hints, hlen⟩ := script_of hn hpre hwl
  refine enter_call ?_
  refine call_cells_ret (o := o) (by rw [depth_caller]; decide) ho (fd_plain hd) G.T.nolimit hcd (hbind pm cd doc (.ref a)) (fun y hy => ?_) (fun h₁ tk F X => ?_) hco hgen hk
  · obtain rfl : y = (x, Value.ref a) := List.mem_singleton.mp hy
    rcases hx with e | e
    · exact .inl e
    · exact .inr ⟨e, cellsFrom_some _ _ _ (.inl e)⟩
  · refine wpAny_mono (body w s₀ s₁ { s₁ with heap := h₁, toks := tk } mg mb fa o pm cd doc a vs ns G Y ho (fd_plain hd) hcd hmg hobj hints hlen hg rfl F X) (fun f s' hq => ?_) (fun _ _ hq => hq)
    obtain ⟨rfl, h2, h3, h4⟩ := hq
    exact ⟨.inl ⟨.bool true, .bool true, [], rfl, fun _ => rfl, .bool true, post_true l _, fun _ => ⟨List.Pairwise.nil, fun _ hm => (nomatch hm)⟩⟩, h2, h3, h4⟩

/-- the same from a codeAny of the CALL (for a layer whose function contracts speak of calls) -/
theorem attach_call {l : OpenLaw} {n : Nat} {q : Program} {loose : List Str} {XP : (Str → Option Value) → Heap → Prop} {YP : World → Heap → Prop} {d : DefRec}
    (hn : l.most = some n) (hdf : d.params.defaults = [])
    (call : ∀ (w : World) (s₀ s₁ : Shared) (mg mb : Str → Option Value) (fa : Addr) (o : Obj) (pm cd doc : Value) (a : Addr) (vs : List Value) (ns : List Int),
      Ground q loose [] XP w s₀ mg mb s₁.heap → YP w s₁.heap →
      s₁.heap.get? fa = some o → o.data = .func (docDef d.name d.params d.body d.scope pm cd doc) → s₁.heap.CodeRec cd d.name → mg d.name = some (.ref fa) →
      s₁.heap.get? a = some { cls := .type "list", data := .seq vs.toArray } → IntsAre vs ns → ns.length ≤ n → s₁.gens = #[] →
      codeAny (model l.prog w) callerA (.call (.ref fa) ⟨[.ref a], []⟩) (fun r s' => r = .ok (.ret (.bool true)) ∧ OldK s₁.heap s'.heap ∧ s'.os = s₁.os ∧ AllBare s'.gens) s₁) :
    WalkO q loose XP YP l.row.toRowW d [] (fun f vs => PySem.call f vs) := by
  intro w s₀ s₁ mg mb G Y fa o pm cd doc dV kV ho hd hcd hD hmg hg args vals as hpre hlay hrd hwl hlo
  obtain rfl : dV = .none := Dflts.none hD hdf
  obtain rfl : kV = .none := Dflts.noKw hD
  obtain ⟨a, vs, ns, rfl, rfl, hobj, hints, hlen⟩ := script_of hn hpre hwl
  refine enter_call (codeAny_mono (call w s₀ s₁ mg mb fa o pm cd doc a vs ns G Y ho (fd_plain hd) hcd hmg hobj hints hlen hg) fun r s' hq => ?_)
  obtain ⟨rfl, h2, h3, h4⟩ := hq
  exact ⟨.inl ⟨.bool true, .bool true, [], rfl, fun _ => rfl, .bool true, post_true l _, fun _ => ⟨List.Pairwise.nil, fun _ hm => (nomatch hm)⟩⟩, h2, h3, h4⟩

/-- the same where the top left finished generators (o_head chose holds_openN): nothing may have changed at all and no generator may be left -/
theorem attachN {l : OpenLaw} {n : Nat} {q : Program} {loose : List Str} {XP : (Str → Option Value) → Heap → Prop} {YP : World → Heap → Prop} {d : DefRec} {x : Str}
    (hn : l.most = some n) (hdf : d.params.defaults = [])
    (hbind : ∀ pm cd doc v : Value, bindArgs (docDef d.name d.params d.body d.scope pm cd doc) ⟨[v], []⟩ = pure [(x, v)])
    (hx : d.scope.names.lookup x = some .local ∨ d.scope.names.lookup x = some .cell)
    (hk : d.scope.kind = .function) (hco : d.scope.isCoroutine = false) (hgen : d.scope.isGenerator = false)
    (body : ∀ (w : World) (s₀ s₁ s : Shared) (mg mb : Str → Option Value) (fa : Addr) (o : Obj) (pm cd doc : Value) (a : Addr) (vs : List Value) (ns : List Int),
      Ground q loose [] XP w s₀ mg mb s₁.heap → YP w s₁.heap →
      s₁.heap.get? fa = some o → o.data = .func (docDef d.name d.params d.body d.scope pm cd doc) → s₁.heap.CodeRec cd d.name → mg d.name = some (.ref fa) →
      s₁.heap.get? a = some { cls := .type "list", data := .seq vs.toArray } → IntsAre vs ns → ns.length ≤ n →
      s.gens = #[] → s.os = s₁.os →
      Fr s₁.heap s₁.heap.objs.size s.heap (bindL (envOfC d.name d.scope s₁.heap.objs.size fa cd).kindOf [(x, .ref a)] fun _ => none) →
      Cl s₁.heap.objs.size (cellsFrom (s₁.heap.objs.size + 1) d.scope.names []) s.heap (bindC (envOfC d.name d.scope s₁.heap.objs.size fa cd).kindOf [(x, .ref a)] fun _ => none) →
      wpAny (model l.prog w) (callerA.deeper (envOfC d.name d.scope s₁.heap.objs.size fa cd)) (execs d.body (envOfC d.name d.scope s₁.heap.objs.size fa cd))
        (fun f s' => f = .ret (.bool true) ∧ (∀ b o, s₁.heap.get? b = some o → s'.heap.get? b = some o) ∧ s'.os = s₁.os ∧ s'.gens = #[]) (fun _ _ => False) s) :
    WalkN q loose XP YP l.row.toRowW d [] (fun f vs => PySem.call f vs) := by
  intro w s₀ s₁ mg mb G Y fa o pm cd doc dV kV ho hd hcd hD hmg hg args vals as hpre hlay hrd hwl hlo
  obtain rfl : dV = .none := Dflts.none hD hdf
  obtain rfl : kV = .none := Dflts.noKw hD
  obtain ⟨a, vs, ns, rfl, rfl, hobj, hints, hlen⟩ := script_of hn hpre hwl
  refine enter_callW ?_
  refine call_cells_ret (o := o) (by rw [depth_caller]; decide) ho (fd_plain hd) G.T.nolimit hcd (hbind pm cd doc (.ref a)) (fun y hy => ?_) (fun h₁ tk F X => ?_) hco hgen hk
  · obtain rfl : y = (x, Value.ref a) := List.mem_singleton.mp hy
    rcases hx with e | e
    · exact .inl e
    · exact .inr ⟨e, cellsFrom_some _ _ _ (.inl e)⟩
  · refine wpAny_mono (body w s₀ s₁ { s₁ with heap := h₁, toks := tk } mg mb fa o pm cd doc a vs ns G Y ho (fd_plain hd) hcd hmg hobj hints hlen hg rfl F X) (fun f s' hq => ?_) (fun _ _ hq => hq)
    obtain ⟨rfl, h2, h3, h4⟩ := hq
    exact ⟨.inl ⟨.bool true, .bool true, [], rfl, fun _ => rfl, .bool true, post_true l _, fun _ => ⟨List.Pairwise.nil, fun _ hm => (nomatch hm)⟩⟩, h2, h3, h4⟩

/-! ### rules over ANY heap (no ledger) from facts about the written part K: the library's own take a ledger (News) for what they write -/
section
variable {prog : Program} {w : World} {A : Around} {E : Value → Shared → Prop} {s : Shared} {K : Frag}

/-- a def of the module, or a method (qual 'C.m'), entered: the frame is the next address; cells behind it -/
theorem call_fn {R : Result → Shared → Prop} {name qual : Str} {params : Arguments} {body : List Stmt} {scope : Scope} {dV kV doc pm cdv ct oc : Value} {an od : Option Addr} {osl : Array (Option Value)} {f : Addr} {args : Args} {binds : List (Str × Value)}
    (X : K.In s.heap) (hlim : s.heap.NoLimit) (ho : K.lookup f = some ⟨oc, od, .func (fnOf name qual params body scope dV kV doc pm an cdv ct), osl⟩) (hcd : codeIn K cdv qual = true) (hroom : A.depth < recursionLimit)
    (hbind : BindsTo s (fnOf name qual params body scope dV kV doc pm an cdv ct) args binds)
    (hkind : (binds.all fun y => scope.names.lookup y.1 == some .local || scope.names.lookup y.1 == some .cell) = true)
    (h : ∀ s₁, InCallC s s.heap.objs.size (bindL (envOfC qual scope s.heap.objs.size f cdv).kindOf binds fun _ => none) (cellsFrom (s.heap.objs.size + 1) scope.names [])
        (bindC (envOfC qual scope s.heap.objs.size f cdv).kindOf binds fun _ => none) s₁ →
      wpAny (model prog w) (A.deeper (envOfC qual scope s.heap.objs.size f cdv)) (execs body (envOfC qual scope s.heap.objs.size f cdv))
        (fun fl s' => R (.ok (.ret (match fl with | .ret v => v | _ => .none))) s')
        (fun e s' => wpAny (model prog w) (A.deeper (envOfC qual scope s.heap.objs.size f cdv)) (leaving (envOfC qual scope s.heap.objs.size f cdv) e) (fun _ s'' => R (.error e) s'') (fun e' s'' => R (.error e') s'') s') s₁)
    (hco : scope.isCoroutine = false) (hgen : scope.isGenerator = false) (hk : scope.kind = .function) : codeAny (model prog w) A (.call (.ref f) args) R s := by
  refine codeAny_call_function hroom (X _ _ ho) rfl hco hgen rfl (codeRec_of X hcd) (hbind _ _ _ _ ?_)
  refine wpAny_newFunctionEnv_cells hk (kindsX hkind _) fun env he s₁ x => ?_
  subst he
  exact ⟨hlim.keeps x.toInCall.keep, codeAny_func (h s₁ x)⟩

/-- C(..): dict at size, instance at size + 1, then __init__ -/
theorem make_obj {R : Result → Shared → Prop} {C fI : Addr} {rest : List Value} {kw : List (Str × Value)}
    (X : K.In s.heap) (hm : makesIn K C = true) (hi : findIn K (.ref C) "__init__" = some (some (.ref fI))) (hf : isFn K (.ref fI) = true)
    (h : codeAny (model prog w) (A.under (.builtin "type.__call__" ⟨.ref C :: rest, kw⟩)) (.call (.ref fI) ⟨.ref (s.heap.objs.size + 1) :: rest, kw⟩) (InitBack (s.heap.objs.size + 1) R)
      { s with heap := (s.heap.push emptyDict).push (instObj C s.heap.objs.size) }) : codeAny (model prog w) A (.call (.ref C) ⟨rest, kw⟩) R s := by
  obtain ⟨hh, g, d, t, os⟩ := s
  exact make_core (makes_of X hm) (looks_findIn X hi) (fun self => bind_fn X self (beq_iff_eq.mp hf)) (.inl rfl) h

/-- x.name where the instance's dict holds the name and the class does not -/
theorem get_field {x C : Addr} {ox : Obj} {es : List DictEntry} {n : Nat} {name : Str} {expr : Bool} {v : Value} {Q : Value → Shared → Prop}
    (X : K.In s.heap) (I : PySem.W.InstAt s.heap x ox C (some (dictOf es n))) (hg : plainGet K C name = true) (hh : hasDictIn K C = true) (ha : findIn K (.ref C) name = some none)
    (hl : getL name es = some (some v)) (hv : handedIn v = true) (h : Q v { s with toks := s.toks + 1 }) : wpAny (model prog w) A (getAttr (.ref x) name expr) Q E s :=
  get_value X I (plainGet_of hg).1 (findObj_own hh ha rfl hl) hv h

/-- x.m(..): the method found in the class -/
theorem get_method {x C f : Addr} {ox : Obj} {es : List DictEntry} {n : Nat} {name : Str} {pl : Sem Bool} {Q : Value × List Value → Shared → Prop}
    (X : K.In s.heap) (I : PySem.W.InstAt s.heap x ox C (some (dictOf es n))) (hg : plainGet K C name = true) (hf : findIn K (.ref C) name = some (some (.ref f))) (ht : isFn K (.ref f) = true)
    (hl : getL name es = some none) (h : Q (.ref f, [.ref x]) s) : wpAny (model prog w) A (getMethod (.ref x) name pl) Q E s :=
  method_fn X I (plainGet_of hg).1 (plainGet_of hg).2 hf (beq_iff_eq.mp ht) (by show (lookIn name (dictOf es n)).map _ = _; rw [lookIn_dict, hl]; rfl) h

/-! the whole heap as the ledger: makes every rule that writes through a ledger a rule over any heap -/
def noObjs (h : Heap) : Heap := { h with objs := #[] }
theorem noObjs_get (h : Heap) (b : Addr) : (noObjs h).get? b = none := by
  cases e : (noObjs h).get? b with
  | none => rfl
  | some o => exact absurd (Heap.lt_size e) (Nat.not_lt_zero _)
def ledger (h : Heap) (L d : Addr) : List (Addr × Obj) := (List.range h.objs.size).filterMap fun a => if a = L ∨ a = d then none else (h.get? a).map fun o => (a, o)
theorem mem_ledger {h : Heap} {L d a : Addr} {o : Obj} : (a, o) ∈ ledger h L d ↔ a ≠ L ∧ a ≠ d ∧ h.get? a = some o := by
  unfold ledger
  rw [List.mem_filterMap]
  constructor
  · rintro ⟨b, _, e⟩
    split at e
    · cases e
    · rename_i hb
      obtain ⟨o', ho, e'⟩ := Option.map_eq_some_iff.mp e
      cases e'
      exact ⟨fun q => hb (.inl q), fun q => hb (.inr q), ho⟩
  · rintro ⟨n1, n2, ho⟩
    refine ⟨a, List.mem_range.mpr (Heap.lt_size ho), ?_⟩
    rw [if_neg (show ¬ (a = L ∨ a = d) from fun q => q.elim n1 n2), ho] <;> rfl
theorem news_ledger {h : Heap} {L d : Addr} {od : Obj} (hne : d ≠ L) (ho : h.get? d = some od) : News (noObjs h) L h ([] ++ (d, od) :: ledger h L d) := by
  rintro ⟨a, o⟩ hp
  rcases List.mem_cons.mp hp with e | hp
  · cases e
    exact ⟨ho, hne, noObjs_get _ _⟩
  · obtain ⟨n1, n2, e⟩ := mem_ledger.mp hp
    exact ⟨e, n1, noObjs_get _ _⟩
theorem fr_all {h : Heap} {L : Addr} {m : Str → Option Value} (n : h.Ns L m) : Fr (noObjs h) L h m :=
  ⟨n, fun b o e => (by rw [noObjs_get] at e; cases e), Nat.zero_le _⟩
/-- Upd of the head entry (for append_K, setItem_K ..) -/
theorem upd_ledger {h : Heap} {L d : Addr} {o o' : Obj} : Upd d o o' ((d, o) :: ledger h L d) ((d, o') :: ledger h L d) :=
  .head fun ⟨_, _⟩ hp => (mem_ledger.mp hp).2.1

/-- x.name = v over any heap: L is any namespace of the heap (the frame's, say): its map stays, its object is not told; all else but the dict stays -/
theorem set_field {x C dx L : Addr} {ox : Obj} {m : Str → Option Value} {es es' : List DictEntry} {n n' : Nat} {name : Str} {v : Value} {Q : Unit → Shared → Prop}
    (X : K.In s.heap) (I : PySem.W.InstAt s.heap x ox C (some (dictOf es n))) (hd : ox.dict = some dx) (hL : s.heap.Ns L m) (hne : dx ≠ L)
    (hs : findIn K (.ref C) "__setattr__" = some (some (.builtin "object.__setattr__"))) (hp : plainOver K C = true) (ht : takerIn K C name = some none) (hh : hasDictIn K C = true) (hl : (getL name es).isSome = true)
    (e : (putL name (PyData.keyHash w.params name) (.str name (s.toks + 1)) v es, putN name es n) = (es', n')) (hz : es'.length ≤ 1000)
    (h : ∀ h' : Heap, h'.Ns L m → h'.get? dx = some (dictOf es' n') → (∀ b o, b ≠ dx → b ≠ L → s.heap.get? b = some o → h'.get? b = some o) → Q () { s with heap := h', toks := s.toks + 2 }) :
    wpAny (model prog w) A (setAttr (.ref x) name v) Q E s := by
  obtain ⟨e1, e2⟩ := Prod.mk.inj e
  have hdx : s.heap.get? dx = some (dictOf es n) := by
    have := I.dict
    rw [hd] at this
    exact this
  refine set_plain X I hs (osa_dict (s := { s with toks := s.toks + 1 }) (h₀ := noObjs s.heap) (L := L) (m := m) (od := dictOf es n) (od' := dictOf es' n') (es := es') (n := n') (pre := []) (post := ledger s.heap L dx)
    (fr_all hL) (news_ledger hne hdx) X I hd hp ht hh hl (fun _ q => nomatch q) (fun ⟨_, _⟩ q => (mem_ledger.mp q).2.1) (by rw [putName_dict, e1, e2]) rfl hz fun h' F' N' => ?_)
  exact h h' F'.ns (N'.get (List.Mem.head _)) fun b o n1 n2 ho => N'.get (List.Mem.tail _ (mem_ledger.mpr ⟨n2, n1, ho⟩))
end
end Att

namespace L2
open PySem PySem.Spec PyProof.Rows

theorem vals_ints : ∀ {vs : List Value} {ns : List Int}, IntsAre vs ns → Vals (ns.map V.int) vs
  | _, _, .nil => .nil
  | _, _, .cons n t h => .cons ⟨t, rfl⟩ (vals_ints h)

/-- nothing is tracked but the script, known to the object (or it is an object of the module) -/
def Only (H : Hp) : Prop := ∀ b, H b = none ∨ ∃ o xs, H b = some (.frz o (.lst xs))

/-- THE HEAD: the law's promise, at the heap behind the top. F, the promise of the law's def, may use that base is part of the heap (so K.In base, base.Ns mainGlobals mg stand in Mod) -/
theorem law_call {P : Program} {w : World} {K : PySem.W.Frag} {mg mb : Str → Option Value} {CX : CXT} {k : Nat} {fa a : Addr} {fd : FuncData} {x : Str} {sp : Sp} {s₁ : Shared} {vs : List Value} {ns : List Int}
    (KX : K.In s₁.heap) (hns : s₁.heap.Ns mainGlobals mg) (hb : s₁.heap.Ns builtinsNs mb) (hbb : ∀ x : Str, x ≠ "__name__" → mb x = bootBuiltins x) (hlim : s₁.heap.NoLimit) (hg : s₁.gens = #[])
    (ha : s₁.heap.get? a = some { cls := .type "list", data := .seq vs.toArray }) (hi : IntsAre vs ns) (hl : ns.length ≤ sizeLine) (hr : Room k callerA)
    (F : ∀ base : Heap, K.In base → base.Ns mainGlobals mg → FnOk P w K mg base CX k fa fd [x] sp) (hbind : ∀ (s : Shared) (u : Value), BindsTo s fd ⟨[u], []⟩ [(x, u)])
    (hsp : ∀ H : Hp, Only H → SqL K H a (ns.map V.int) → sp [.ref a] H (fun v _ => v = .bl true) fun _ _ _ => False)
    (hCX : ∀ H e s', CX [] H s₁ (fun _ _ _ => False) e s' → False) :
    codeAny (model P w) callerA (.call (.ref fa) ⟨[.ref a], []⟩) (fun r s' => r = .ok (.ret (.bool true)) ∧ OldK s₁.heap s'.heap ∧ s'.os = s₁.os ∧ AllBare s'.gens) s₁ := by
  have rv := vals_ints hi
  have lenV := hi.length
  -- from an abstract heap in which nothing but the script may be tracked
  have core : ∀ H : Hp, Only H → SqL K H a (ns.map V.int) → HOk P w H s₁.heap → (∀ b, H b ≠ none → b = a) → (H a ≠ none → K.lookup a = none) →
      codeAny (model P w) callerA (.call (.ref fa) ⟨[.ref a], []⟩) (fun r s' => r = .ok (.ret (.bool true)) ∧ OldK s₁.heap s'.heap ∧ s'.os = s₁.os ∧ AllBare s'.gens) s₁ := by
    intro H hO hS hok hA hK
    have base_of : ∀ {b : Addr} {o : Obj}, s₁.heap.get? b = some o → H b = none → (hidT s₁.heap H).get? b = some o := fun e n => hidT_get e n
    have noA : ∀ {b : Addr} {o : Obj} {es : Array DictEntry} {ep : Nat}, s₁.heap.get? b = some o → o.data = .dict es ep → H b = none := fun {b o es ep} e d => by
      cases q : H b with
      | none => rfl
      | some u =>
        have e' : b = a := hA b (by rw [q]; simp)
        subst e'
        rw [ha] at e; cases e
        have d' : Data.seq vs.toArray _ = Data.dict es ep := d
        cases d'
    have nsK : ∀ {b : Addr} {m : Str → Option Value}, s₁.heap.Ns b m → (hidT s₁.heap H).Ns b m := fun {b m} ⟨o, es, ep, e, d, r⟩ => ⟨o, es, ep, base_of e (noA e d), d, r⟩
    have hKb : K.In (hidT s₁.heap H) := fun b o e => base_of (KX b o e) (by
      cases q : H b with
      | none => rfl
      | some u =>
        have e' : b = a := hA b (by rw [q]; simp)
        subst e'
        rw [hK (by rw [q]; simp)] at e; cases e)
    have hM : Mod K mg (hidT s₁.heap H) := ⟨hKb, nsK hns, ⟨mb, nsK hb, hbb⟩, let ⟨mc, h1, h2⟩ := hlim; ⟨mc, nsK h1, h2⟩⟩
    have e0 : Env0 P w K mg (hidT s₁.heap H) callerA [] s₁ H := ⟨rfl, hM, fun b o e => of_hidT e, Nat.le_of_eq (hidT_size _ _), trivial, fun b hb => absurd (show b ∈ ([] : List Addr) from hb) (by simp), hok, .of_eq hg⟩
    refine codeAny_mono ((F _ hKb (nsK hns)).run callerA [] s₁ H ⟨[.ref a], []⟩ [.ref a] [.ref a] _ _ hr e0 (hbind s₁ (.ref a)) (.cons rfl .nil) (hsp H hO hS)) fun r s' h => ?_
    cases r with
    | error e => exact (hCX H e s' h).elim
    | ok fl =>
      cases fl with
      | next => exact False.elim h
      | brk => exact False.elim h
      | cont => exact False.elim h
      | ret u =>
        obtain ⟨v, H', os, bare, un, hok', r', q⟩ := h
        have q' : v = .bl true := q
        subst q'
        obtain rfl : u = Value.bool true := r'
        refine ⟨rfl, OldK.of_keep fun b o e => ?_, os, bare⟩
        cases q : H b with
        | none => exact un.keep b o e q (by intro z; exact absurd (show b ∈ ([] : List Addr) from z) (by simp)) (by simp)
        | some u =>
          rcases hO b with z | ⟨ob, xs, z⟩
          · rw [q] at z; cases z
          · have z2 := un.frzs b ob _ z
            obtain ⟨e1, _⟩ := hok b _ z
            obtain ⟨e2, _⟩ := hok' b _ z2
            rw [e] at e1; cases e1
            exact e2
  cases hk : K.lookup a with
  | some o =>
    -- the script is one of the module's own objects
    have e := KX a o hk
    rw [ha] at e
    cases e
    refine core (fun _ => none) (fun _ => .inl rfl) (.inr ⟨_, vs.toArray, _, hk, rfl, rfl, rfl, by rw [List.size_toArray, lenV]; exact hl, by simpa using rv⟩) (fun b u z => by have z' : (none : Option HO) = some u := z; cases z') (fun b z => absurd rfl z) fun z => absurd rfl z
  | none =>
    refine core (fun b => if b = a then some (.frz { cls := .type "list", data := .seq vs.toArray } (.lst (ns.map V.int))) else none) (fun b => ?_) (.inl (.inr ⟨{ cls := .type "list", data := .seq vs.toArray }, if_pos rfl⟩)) (fun b u z => ?_) (fun b z => ?_) fun _ => hk
    · by_cases hb : b = a
      · exact .inr ⟨_, _, if_pos hb⟩
      · exact .inl (if_neg hb)
    · by_cases hb : b = a
      · have z' := (if_pos hb).symm.trans z
        cases z'
        subst hb
        exact ⟨ha, by rw [List.length_map]; exact hl, vs, _, rv, ha⟩
      · have z' := (if_neg hb).symm.trans z
        cases z'
    · by_cases hb : b = a
      · exact hb
      · exact absurd (if_neg hb) z
end L2

namespace L2
open PySem PySem.Spec PyProof.Rows

abbrev KOf {K : PySem.W.Frag} {h : Heap} (_ : K.In h) : PySem.W.Frag := K

/-- the goal that k_head leaves (case hc), from the law's promise. F gives the function object fd (K's own) once, then the promise over every base -/
theorem walk_of {l : PySem.W.OpenLaw} {n k : Nat} {q : Program} {loose : List Str} {XP : (Str → Option Value) → Heap → Prop} {YP : World → Heap → Prop} {d : DefRec} {K : Params → PySem.W.Frag} {CX : World → CXT} {sp : World → Sp} {x : Str}
    (hn : l.most = some n) (hn2 : n ≤ sizeLine) (hdf : d.params.defaults = []) (hr : Room k callerA)
    (hY : ∀ (w : World) (h : Heap), YP w h → (K w.params).In h)
    (F : ∀ (w : World) (mg : Str → Option Value) (fa : Addr) (h : Heap), (K w.params).In h → h.Ns mainGlobals mg → mg d.name = some (.ref fa) →
      ∃ fd : FuncData, (∀ (s : Shared) (u : Value), BindsTo s fd ⟨[u], []⟩ [(x, u)]) ∧
        ∀ base : Heap, (K w.params).In base → base.Ns mainGlobals mg → FnOk l.prog w (K w.params) mg base (CX w) k fa fd [x] (sp w))
    (hsp : ∀ (w : World) (H : Hp) (a : Addr) (ns : List Int), ns.length ≤ n → Only H → SqL (K w.params) H a (ns.map V.int) → sp w [.ref a] H (fun v _ => v = .bl true) fun _ _ _ => False)
    (hCX : ∀ (w : World) (H : Hp) (s : Shared) (e : Value) (s' : Shared), CX w [] H s (fun _ _ _ => False) e s' → False) :
    PySem.W.WalkO q loose XP YP l.row.toRowW d [] (fun f vs => PySem.call f vs) := by
  refine Att.attach_call hn hdf fun w s₀ s₁ mg mb fa o pm cd doc a vs ns G Y ho hd hcd hmg hobj hints hlen hg => ?_
  have KX := hY w _ Y
  obtain ⟨fd, hb, hF⟩ := F w mg fa _ KX G.T.g hmg
  exact law_call KX G.T.g G.T.b G.T.builtins G.T.nolimit hg hobj hints (Nat.le_trans hlen hn2) hr hF hb (fun H hO hS => hsp w H a ns hlen hO hS) fun H e s' => hCX w H s₁ e s'
/-- the same where the promise hangs on the written part alone: (sp := My.sp_law), no hole under a binder -/
theorem walk_ofK {l : PySem.W.OpenLaw} {n k : Nat} {q : Program} {loose : List Str} {XP : (Str → Option Value) → Heap → Prop} {YP : World → Heap → Prop} {d : DefRec} {K : Params → PySem.W.Frag} {CX : CXT} {sp : PySem.W.Frag → Sp} {x : Str}
    (hn : l.most = some n) (hn2 : n ≤ sizeLine) (hdf : d.params.defaults = []) (hr : Room k callerA)
    (hY : ∀ (w : World) (h : Heap), YP w h → (K w.params).In h)
    (F : ∀ (w : World) (mg : Str → Option Value) (fa : Addr) (h : Heap), (K w.params).In h → h.Ns mainGlobals mg → mg d.name = some (.ref fa) →
      ∃ fd : FuncData, (∀ (s : Shared) (u : Value), BindsTo s fd ⟨[u], []⟩ [(x, u)]) ∧
        ∀ base : Heap, (K w.params).In base → base.Ns mainGlobals mg → FnOk l.prog w (K w.params) mg base CX k fa fd [x] (sp (K w.params)))
    (hsp : ∀ (K : PySem.W.Frag) (H : Hp) (a : Addr) (ns : List Int), ns.length ≤ n → Only H → SqL K H a (ns.map V.int) → sp K [.ref a] H (fun v _ => v = .bl true) fun _ _ _ => False)
    (hCX : ∀ (H : Hp) (s : Shared) (e : Value) (s' : Shared), CX [] H s (fun _ _ _ => False) e s' → False) :
    PySem.W.WalkO q loose XP YP l.row.toRowW d [] (fun f vs => PySem.call f vs) :=
  walk_of (K := K) (CX := fun _ => CX) (sp := fun w => sp (K w.params)) hn hn2 hdf hr hY F (fun w H a ns h1 h2 h3 => hsp (K w.params) H a ns h1 h2 h3) fun _ H s e s' => hCX H s e s'
end L2

/- THE LAST THEOREM (shape; LID, My.* are yours):
   My.Adr: a structure of the addresses that your layer names (classes, functions); My.Txt K t: a structure (Prop) of the equations over K;
   My.txt_mk : {K} {implicit addresses ..} (e1 : nsIn K mainGlobals "law" = some (some (.ref f))) (e2 : K.lookup f = some ⟨oc, od, .func (fnOf "law" "law" params body scope dV kV doc pm an cdv ct), sl⟩) (e3 : codeIn K cdv "law" = true) .. : ∃ t, My.Txt K t

set_option maxRecDepth 100000 in
set_option maxHeartbeats 0 in
theorem PySem.Challenge.cw_LID_holds : PySem.Challenge.rw_LID.Holds := by
  w_on; o_law; k_head; (case hw => w_witness2)
  k_fill
  refine L2.walk_of (l := PySem.Challenge.rw_LID) (n := 63) (k := 40) (x := "script") (CX := fun w => ..) (sp := fun _ => My.sp_law) rfl (by decide) rfl ⟨rfl, by decide, by decide⟩ (fun w h Y => PySem.W.kIn_of Y) ?F ?S ?C
  case F =>
    intro w mg fa h KX G hmg
    have T : ∃ t, My.Txt (L2.KOf KX) t := by
      dsimp only [L2.KOf]                          -- K must stand as «<heap const> w.params» for k_is
      refine' My.txt_mk ?e1 ?e2 ?e3 ..
      (case e1 => PySem.W.k_is)                    -- in the order: a name -> its address -> its object -> its parts
      (case e2 => PySem.W.k_is)
      ..
    obtain ⟨t, T⟩ := T
    have e0 := hmg.symm.trans (PySem.W.mg_of KX G T.law)
    cases e0                                       -- fa is the law's own address
    exact ⟨_, fun s u => .of_eq rfl, fun base kb nb => My.law_fn T kb nb⟩     -- if «.of_eq rfl» comes too early: refine' ⟨_, ?b, fun base kb nb => My.law_fn T kb nb⟩; exact fun s u => .of_eq rfl
  case S => exact fun w H a ns hl hO hS => ..
  case C => exact ..
(the tactic k_is has no namespace: write k_is) -/

/-! SHORT WORDS over the layer: a def of the text, its body, what a loop and a test want. -/
namespace L2
open PySem PySem.Spec PyProof.Rows

/-! ### the text by places -/
/-- the j-th statement of a class's body -/
def inClass (s : Stmt) (j : Nat) : Stmt := match s with
  | .ClassDef _ _ _ body _ _ _ _ _ _ _ => body.getD j (.Pass ⟨0, 0, 0, 0⟩)
  | _ => .Pass ⟨0, 0, 0, 0⟩
def defArgs (s : Stmt) : Arguments := match s with
  | .FunctionDef _ a _ _ _ _ _ _ _ _ => a
  | _ => { posonlyargs := [], args := [], vararg := none, kwonlyargs := [], kw_defaults := [], kwarg := none, defaults := [] }
def defBody (s : Stmt) : List Stmt := match s with
  | .FunctionDef _ _ b _ _ _ _ _ _ _ => b
  | _ => []
def defScope (s : Stmt) : Scope := match s with
  | .FunctionDef _ _ _ _ _ _ sc _ _ _ => sc
  | _ => { kind := .function, names := [], isGenerator := false, isCoroutine := false }

/-! ### no exception leaves a def -/
abbrev CX0 : CXT := fun _ _ _ _ _ _ => False
abbrev E0 : XK := fun _ _ _ => False
theorem pass0 {X : Cx} : Passes CX0 X E0 := fun _ _ _ _ _ _ _ h => h.elim

/-! ### a def (or method) of the text as it stands behind the top -/
structure Fun (K : PySem.W.Frag) (x qual : Str) (st : Stmt) (f : Addr) (fd : FuncData) : Prop where
  ex : ∃ (oc : Value) (od : Option Addr) (kV doc pm : Value) (an : Option Addr) (cdv ct : Value) (osl : Array (Option Value)),
    fd = PySem.W.fnOf x qual (defArgs st) (defBody st) (defScope st) .none kV doc pm an cdv ct ∧ K.lookup f = some ⟨oc, od, .func fd, osl⟩ ∧ PySem.W.codeIn K cdv qual = true
  kp : PySem.W.keepIn K (.ref f) = true
section
variable {P : Program} {w : World} {K : PySem.W.Frag} {mg : Str → Option Value} {base : Heap}
/-- THE RULE for a def: its body as a term of rules, and the reading of that term -/
theorem Fun.ok {x qual : Str} {st : Stmt} {f : Addr} {fd : FuncData} {N ps : List Str} {k : Nat} {sp : Sp} (F : Fun K x qual st f fd) (S : FnScope N ps (defScope st)) (len : ∀ vs H Q E, sp vs H Q E → vs.length = ps.length)
    (hbody : ∀ (cdv : Value) (A : Around) (outer : List Env) (s : Shared) (H : Hp) (vs : List V) (Q : VK) (E : XK), Room k (A.deeper (envOfC qual (defScope st) s.heap.objs.size f cdv)) → sp vs H Q E →
      ∃ t, PSs (cxOf CX0 P w K mg base N qual (defScope st) f cdv A outer s H E).nox (defBody st) t ∧ t { nx := fun _ H' => Q .non H', rt := Q } (start N vs) H) : FnOk P w K mg base CX0 (k + 1) f fd ps sp := by
  obtain ⟨oc, od, kV, doc, pm, an, cdv, ct, osl, rfl, lk, hcd⟩ := F.ex
  refine fn_of lk hcd S len fun A outer s H vs Q E hr hsp => ?_
  obtain ⟨t, h, q⟩ := hbody cdv A outer s H vs Q E hr hsp
  exact ⟨t, h.nox, q⟩
/-- how its arguments bind (no defaults): h is «fun _ _ _ _ _ _ us hl => match us, hl with | [_, _], _ => rfl», one _ a parameter -/
theorem Fun.binds {x qual : Str} {st : Stmt} {f : Addr} {fd : FuncData} {ps : List Str} (F : Fun K x qual st f fd)
    (h : ∀ (kV doc pm : Value) (an : Option Addr) (cdv ct : Value) (us : List Value), us.length = ps.length → bindArgs (PySem.W.fnOf x qual (defArgs st) (defBody st) (defScope st) .none kV doc pm an cdv ct) ⟨us, []⟩ = pure (ps.zip us)) : Binds K fd ps [] := by
  obtain ⟨oc, od, kV, doc, pm, an, cdv, ct, osl, rfl, lk, hcd⟩ := F.ex
  exact .all (h kV doc pm an cdv ct)
theorem fun_mk {x qual : Str} {st : Stmt} {f : Addr} {oc : Value} {od an : Option Addr} {osl : Array (Option Value)} {kV doc pm cdv ct : Value} (l : K.lookup f = some ⟨oc, od, .func (PySem.W.fnOf x qual (defArgs st) (defBody st) (defScope st) .none kV doc pm an cdv ct), osl⟩)
    (c : PySem.W.codeIn K cdv qual = true) (k : PySem.W.keepIn K (.ref f) = true) : Fun K x qual st f (PySem.W.fnOf x qual (defArgs st) (defBody st) (defScope st) .none kV doc pm an cdv ct) := ⟨⟨oc, od, kV, doc, pm, an, cdv, ct, osl, rfl, l, c⟩, k⟩
end
theorem hu_of {A : Around} {k : Nat} (hr : Room k A) : A.units + 1 < cLine := Nat.lt_of_le_of_lt (Nat.add_le_add_left (by decide : 1 ≤ 64) _) hr.units
theorem small1000 {n : Nat} (h : n ≤ 1000) : n < sizeLine := Nat.lt_of_le_of_lt h (by decide)

/-! ### expressions in short: the name that stands in the i-th slot -/
section
variable {X : Cx}
theorem pv (i : Nat) {x : Str} {pos : Pos} (hN : X.N[i]? = some x := by rfl) (hv : Vis X.env.scope x := by first | exact Or.inl rfl | exact Or.inr (Or.inl rfl) | exact Or.inr (Or.inr rfl)) (hd : (x == ("__debug__" : Str)) = false := by decide)
    (hcd : (x == ("__classdict__" : Str)) = false := by decide) : PE X (.Name x pos) (tVar i) := pe_var hN hv hd hcd
end

/-! ### tests -/
theorem iteF {A B : Prop} (h : B) : if false = true then A else B := by
  rw [if_neg Bool.false_ne_true]
  exact h
theorem iteT {A B : Prop} (h : A) : if true = true then A else B := by
  rw [if_pos rfl]
  exact h
theorem ite2 {c A B : Prop} [Decidable c] (h1 : c → A) (h2 : ¬ c → B) : if c then A else B := by
  by_cases h : c
  · rw [if_pos h]
    exact h1 h
  · rw [if_neg h]
    exact h2 h
theorem iteNS {c A B : Prop} [Decidable c] (hc : c) (h : B) : if (!decide c) = true then A else B := by
  rw [decide_eq_true hc]
  exact iteF h

/-! ### heaps -/
/-- all that was tracked is as it was -/
def Same (H H' : Hp) : Prop := ∀ b o, H b = some o → H' b = some o
theorem Same.refl (H : Hp) : Same H H := fun _ _ h => h
theorem Same.trans {H H1 H2 : Hp} (a : Same H H1) (b : Same H1 H2) : Same H H2 := fun c o h => b c o (a c o h)
theorem Same.free {H H' : Hp} (e : Same H H') {l : Addr} (h : H' l = Option.none) : H l = Option.none := by
  cases q : H l with
  | none => rfl
  | some o =>
    rw [e l o q] at h
    cases h
theorem Same.seq {K : PySem.W.Frag} {H H' : Hp} {a : Addr} {xs : List V} (e : Same H H') (h : SqL K H a xs) : SqL K H' a xs := by
  rcases h with (h | ⟨o, h⟩) | h
  · exact .inl (.inl (e _ _ h))
  · exact .inl (.inr ⟨o, e _ _ h⟩)
  · exact .inr h

end L2

namespace L2
open PySem PySem.Spec PyProof.Rows

/-! ### walks over a text, over enumerate -/
/-- n items, the i-th is f i -/
def Itp (n : Nat) (f : Nat → V) : It := ⟨fun i _ => i < n, fun i H x H' => H' = H ∧ x = f i, fun i _ => n ≤ i⟩
def ownTups : List String := ["enumerate", "zip", "dict_itemiterator", "dict_reverseitemiterator", "odict_iterator", "itertools.zip_longest", "itertools.pairwise"]
theorem turn_pure {P : Program} {w : World} {K : PySem.W.Frag} {tg : Expr} {it : Addr} {n : Nat} {f : Nat → V} {Pw : Nat → Value → Prop} {St : Nat → Heap → Prop}
    (W : ∀ A : Around, A.handled = none → Walks P w A it [it] [it] n Pw St) (hv : ∀ i v, i < n → Pw i v → RelV (f i) v)
    (ho : ∀ i h, St i h → ∃ o nm vs, h.get? it = some o ∧ o.cls = .type nm ∧ o.data = .fields vs ∧ ownTups.contains nm = false)
    (hself : ∀ (A : Around) (i : Nat) (s : Shared) (Q : Value → Shared → Prop) (E : Value → Shared → Prop), St i s.heap → Q (.ref it) s → wpAny (model P w) A (pyIter (.ref it)) Q E s)
    (hkeep : ∀ i h h', St i h → (∀ b ∈ [it], ∀ o, h.get? b = some o → h'.get? b = some o) → St i h') :
    Turn P w K tg (Itp n f) [it] it (fun i h => i ≤ n ∧ St i h) where
  mem := by simp
  obj := fun i h st b hb => by
    have e : b = it := by simpa using hb
    subst e
    obtain ⟨o, nm, vs, e, c, d, _⟩ := ho i h st.2
    exact ⟨o, e, fun v z => by rw [d] at z; cases z⟩
  keep := fun i h h' st k => ⟨st.1, hkeep i h h' st.2 k⟩
  item := by
    intro X hP hw hK hc i pins s σ H E I hf st hg
    subst hP hw hK
    obtain ⟨f0, f1, f2, f3, f4, f5⟩ := hf it (by simp)
    have hi : i < n := hg
    refine (W X.A (I.ok.hd hc)).item i s _ _ hi st.2 fun v h' tk hv' st' kk => ?_
    have I1 : Inv X pins σ H { s with heap := h', toks := tk } := I.turned (fun b o hb e => kk b o (by simpa using hb) e) f0 f1 f3 f4 f5
    obtain ⟨o, nm, vs, e, c, d, hn⟩ := ho _ _ st'
    exact ⟨_, rfl, go_of (s := { s with heap := h', toks := tk }) (n := nm) e c d hn ⟨f i, H, I1, hv i v hi hv', ⟨rfl, rfl⟩, ⟨hi, st'⟩, fun b hb => (hf b hb).1⟩⟩
  done := by
    intro X hP hw hK hc i pins s σ H E I hf st hg
    subst hP hw hK
    obtain ⟨f0, f1, f2, f3, f4, f5⟩ := hf it (by simp)
    have hi : n ≤ i := hg
    have e : i = n := Nat.le_antisymm st.1 hi
    subst e
    exact (W X.A (I.ok.hd hc)).done s _ _ st.2 fun h' tk kk => ⟨rfl, I.turned (fun b o hb e => kk b o (by simpa using hb) e) f0 f1 f3 f4 f5⟩
  self := fun A i s Q E st h => hself A i s Q E st.2 h

/-- the signs of a text, one by one -/
def sgn (x : Str) (i : Nat) : V := .str ⟨#[x.cps.getD i 0]⟩
theorem walks_str {P : Program} {w : World} {it : Addr} {x : Str} {t : Tok} (A : Around) (hA : A.handled = none) : Walks P w A it [it] [it] x.cps.size (SignAt x) (fun i h => h.IsStrIter it (strIterType x) x t i) := by
  cases ha : x.cps.all (· < 128)
  · have e : strIterType x = "str_iterator" := by simp [strIterType, ha]
    rw [e]; exact Walks.strWide hA it x t
  · have e : strIterType x = "str_ascii_iterator" := by simp [strIterType, ha]
    rw [e]; exact Walks.strAscii hA it x t
theorem signAt_rel {x : Str} {i : Nat} {v : Value} (h : SignAt x i v) : RelV (sgn x i) v := by
  obtain ⟨c, u, e, rfl⟩ := h
  refine ⟨u, ?_⟩
  have : x.cps.getD i 0 = c := by simp [Array.getD_eq_getD_getElem?, e]
  rw [this]
theorem strIterType_no (x : Str) : ownTups.contains (strIterType x) = false := by
  unfold strIterType; split <;> decide
theorem turn_str {P : Program} {w : World} {K : PySem.W.Frag} {tg : Expr} (it : Addr) (x : Str) (t : Tok) : Turn P w K tg (Itp x.cps.size (sgn x)) [it] it (fun i h => i ≤ x.cps.size ∧ h.IsStrIter it (strIterType x) x t i) := by
  refine turn_pure (Pw := SignAt x) (fun A hA => walks_str A hA) (fun i v _ h => signAt_rel h) (fun i h st => ?_) (fun A i s Q E st h => ?_) (fun i h h' st k => ?_)
  · obtain ⟨o, e, c, d⟩ := st
    exact ⟨o, _, _, e, c, d, strIterType_no x⟩
  · cases ha : x.cps.all (· < 128)
    · have e : strIterType x = "str_iterator" := by simp [strIterType, ha]
      rw [e] at st; exact wpAny_pyIter_striter_wide st h
    · have e : strIterType x = "str_ascii_iterator" := by simp [strIterType, ha]
      rw [e] at st; exact wpAny_pyIter_striter_ascii st h
  · obtain ⟨o, e, r⟩ := st
    exact ⟨o, k it (by simp) o e, r⟩
section
variable {X : Cx} {tg : Expr}
def iStr (tl : TE) : TI := fun σ H R => tl σ H fun x H1 => ∃ z, x = .str z ∧ R (Itp z.cps.size (sgn z)) H1
theorem pi_str {l : Expr} {tl : TE} (hl : PE X l tl) : PI X tg l (iStr tl) := by
  intro pins s σ H R I h
  refine thn (hl pins s σ H _ I h) fun v s1 ⟨x, H1, I1, r1, q1⟩ => ?_
  obtain ⟨z, e, q⟩ := q1
  subst e
  obtain ⟨t, rfl⟩ := r1
  refine wpAny_pyIter_strU ?_
  refine ⟨s1.heap.objs.size, [s1.heap.objs.size], _, _, H1, rfl, I1.kept (t' := s1.toks) fun b o e => Heap.get?_push_of_some _ e, turn_str _ z t, ⟨Nat.zero_le _, ⟨_, Heap.get?_push_size _ rfl, rfl, rfl⟩⟩, fun b hb => ?_, q⟩
  have e : b = s1.heap.objs.size := by simpa using hb
  subst e
  exact I1.fpOk (Nat.le_refl _) (I1.hok.fresh (Nat.le_refl _))
end
/-- over items that the body can't change -/
theorem for_pure {n : Nat} {f : Nat → V} {g : TG} {tb : TS} {D : Ends} {σ : St} {H : Hp} (Pv : Nat → St → Hp → Prop) (h0 : Pv 0 σ H)
    (hs : ∀ i σ H, i < n → Pv i σ H → g (f i) σ H fun σ2 H2 => tb { D with nx := Pv (i + 1), ct := Pv (i + 1), bk := D.nx } σ2 H2) (hd : ∀ σ H, Pv n σ H → D.nx σ H) :
    ∃ W : Nat → Nat → St → Hp → Prop, (∃ m, W 0 m σ H) ∧ ∀ i m σ H, W i m σ H →
      ((Itp n f).stop i H ∧ D.nx σ H) ∨ ((Itp n f).go i H ∧ ∃ N : St → Hp → Prop, (∀ σ' H', N σ' H' → ∃ m', m' < m ∧ W (i + 1) m' σ' H') ∧ ∀ x H', (Itp n f).yld i H x H' → g x σ H' fun σ2 H2 => tb { D with nx := N, ct := N, bk := D.nx } σ2 H2) := by
  refine ⟨fun i m σ H => m = n - i ∧ i ≤ n ∧ Pv i σ H, ⟨n, by simp, Nat.zero_le _, h0⟩, ?_⟩
  rintro i m σ H ⟨rfl, hi, p⟩
  by_cases hlt : i < n
  · refine .inr ⟨hlt, Pv (i + 1), fun σ' H' p' => ⟨n - (i + 1), by omega, rfl, hlt, p'⟩, fun x H' y => ?_⟩
    obtain ⟨e, y⟩ := y
    subst e y
    exact hs i σ _ hlt p
  · have e : i = n := by omega
    subst e
    exact .inl ⟨Nat.le_refl _, hd σ H p⟩
end L2

namespace L2
open PySem PySem.Spec PyProof.Rows

theorem Inv.turnedL {X : Cx} {pins : List (Addr × Obj)} {σ : St} {H : Hp} {s : Shared} {h' : Heap} {t' : Nat} {ch : List Addr} (I : Inv X pins σ H s) (k : ∀ b o, b ∉ ch → s.heap.get? b = some o → h'.get? b = some o)
    (hf : ∀ b ∈ ch, FpOk X pins H b) : Inv X pins σ H { s with heap := h', toks := t' } := by
  have nit : ∀ b u, H b = some u → b ∉ ch := fun b u e z => by rw [(hf b z).1] at e; cases e
  refine I.step (g' := s.gens) (d' := s.drawn) (ch := ch) (fun b hb => ?_) (fun b o _ _ hc e _ => k b o hc e) (fun b o _ _ hc e _ => ⟨o.slots, k b o hc e⟩) (fun _ _ _ _ n => n)
    (fun b o hc e => ⟨o, k b o hc e⟩) (fun _ _ e => e) (fun _ _ _ e => e) (fun b ps e => ⟨#[], by rw [e]; simp⟩) (fun m hm => ?_) (fun b u e => ?_) I.bare
  · obtain ⟨f0, f1, f2, f3, f4, f5⟩ := hf b hb
    exact ⟨f3, f1, f4, f5⟩
  · obtain ⟨o, es, ep, ho, r⟩ := hm
    exact ⟨o, es, ep, k _ o (fun z => (hf _ z).2.1 rfl) ho, r⟩
  · refine (I.hok b u e).stay (fun c v hc q => k c v ?_ q) (fun _ q => q) fun _ _ q => q
    rcases hc with z | z
    · rw [z]; exact nit b u e
    · exact nit c _ z

/-- behind pyNext of an enumerate: its tuple is tracked, then let go -/
theorem enum_step {X : Cx} {pins : List (Addr × Obj)} {σ : St} {H : Hp} {s : Shared} {h1 : Heap} {tk : Nat} {tk' : Tok} {e it : Addr} {i : Nat} {x : Value} {y : V} {St : Heap → Prop} {elts : List Expr} {kk : Nat} {pos : Pos} {E : Value → Shared → Prop}
    (I : Inv X pins σ H s) (hf : ∀ b ∈ [e, it], FpOk X pins H b) (he : e < s.heap.objs.size) (hit : it < s.heap.objs.size) (hei : e ≠ it) (heo : IsEnumOut h1 e it ((i : Int) + 1) x s.heap.objs.size) (ry : RelV y x)
    (ht : h1.get? s.heap.objs.size = some { cls := .type "tuple", data := .seq #[.int i tk', x] }) (hz : h1.objs.size = s.heap.objs.size + 1) (hk : ∀ b o, b ≠ e → b ≠ it → s.heap.get? b = some o → h1.get? b = some o)
    (hSt : ∀ h2, Heap.SameBut e h1 h2 → St h2) :
    wpAny (model X.prog X.w) X.A (letOwnedTupleGo (.Tuple elts kk pos) (.ref e) (.ref s.heap.objs.size)) (fun _ s2 => ∃ z H', Inv X pins σ H' s2 ∧ RelV z (.ref s.heap.objs.size) ∧
      (∃ p, H p = none ∧ z = .ref p ∧ H' = upd H p (.tup [.int i, y])) ∧ (IsEnum s2.heap e it ((i + 1 : Nat) : Int) x ∧ St s2.heap) ∧ ∀ b ∈ [e, it], H' b = none) E { s with heap := h1, toks := tk } := by
  refine wpAny_letOwnedTupleGo_enum heo fun h2 he2 hs2 => ?_
  replace hs2 : Heap.SameBut e h1 h2 := hs2
  have hp : H s.heap.objs.size = none := I.hok.fresh (Nat.le_refl _)
  have hne : s.heap.objs.size ≠ e := Nat.ne_of_gt he
  have hni : s.heap.objs.size ≠ it := Nat.ne_of_gt hit
  -- the tuple
  have I1 : Inv X pins σ (upd H s.heap.objs.size (.tup [.int i, y])) { s with heap := s.heap.push { cls := .type "tuple", data := .seq #[.int i tk', x] }, toks := tk } := by
    refine I.laid (fun b u q => Heap.get?_push_of_some _ q) (Nat.le_refl _) ⟨?_, [.int i tk', x], .cons ⟨_, rfl⟩ (.cons ry .nil), ⟨_, Heap.get?_push_size _ rfl, rfl, _, rfl⟩⟩
    show 2 ≤ sizeLine
    decide
  have hf1 : ∀ b ∈ [e, it], FpOk X pins (upd H s.heap.objs.size (.tup [.int i, y])) b := fun b hb => by
    obtain ⟨f0, r⟩ := hf b hb
    refine ⟨?_, r⟩
    rw [upd_ne (by rcases List.mem_cons.mp hb with rfl | hb; exact hne.symm; rcases List.mem_cons.mp hb with rfl | hb; exact hni.symm; cases hb)]
    exact f0
  have I2 : Inv X pins σ (upd H s.heap.objs.size (.tup [.int i, y])) { s with heap := h2, toks := tk } := by
    refine Inv.turnedL (s := { s with heap := s.heap.push { cls := .type "tuple", data := .seq #[.int i tk', x] }, toks := tk }) (ch := [e, it]) I1 (fun b o hb q => ?_) hf1
    have nbe : b ≠ e := fun z => hb (by simp [z])
    have nbi : b ≠ it := fun z => hb (by simp [z])
    refine (hs2.2 b nbe).trans ?_
    rcases Heap.get?_push_cases q with ⟨rfl, rfl⟩ | q'
    · exact ht
    · exact hk b o nbe nbi q'
  refine ⟨.ref s.heap.objs.size, _, I2, rfl, ⟨s.heap.objs.size, hp, rfl, rfl⟩, ⟨?_, hSt h2 hs2⟩, fun b hb => (hf1 b hb).1⟩
  have : ((i + 1 : Nat) : Int) = (i : Int) + 1 := by push_cast; rfl
  rw [this]; exact he2

/-- enumerate of a list that the loop leaves -/
def Ite (K : PySem.W.Frag) (l : Addr) : It :=
  ⟨fun i H => ∃ xs x, SqL K H l xs ∧ xs[i]? = some x, fun i H y H' => ∃ p x, (∀ xs, SqL K H l xs → xs[i]? = some x) ∧ H p = none ∧ y = .ref p ∧ H' = upd H p (.tup [.int i, x]), fun i H => ∃ xs, SqL K H l xs ∧ xs.length ≤ i⟩
theorem turn_enumL {P : Program} {w : World} {K : PySem.W.Frag} {elts : List Expr} {kk : Nat} {pos : Pos} (e it l : Addr) (hei : e ≠ it) :
    Turn P w K (.Tuple elts kk pos) (Ite K l) [e, it] e (fun i h => (∃ old, IsEnum h e it (i : Nat) old) ∧ h.IsListIter it l i) where
  mem := by simp
  obj := fun i h st b hb => by
    obtain ⟨⟨old, he⟩, o, ho, c, d⟩ := st
    rcases List.mem_cons.mp hb with rfl | hb
    · exact ⟨_, he, fun v z => by cases z⟩
    · have e : b = it := by simpa using hb
      subst e
      exact ⟨o, ho, fun v z => by rw [d] at z; cases z⟩
  keep := fun i h h' st k => by
    obtain ⟨⟨old, he⟩, hit⟩ := st
    exact ⟨⟨old, k e (by simp) _ he⟩, hit.at fun o q => k it (by simp) o q⟩
  item := by
    intro X hP hw hK hc i pins s σ H E I hf st hg
    subst hP hw hK
    obtain ⟨xs, x, hq, hx⟩ := hg
    obtain ⟨its, rv, p, hz⟩ := I.list hq
    obtain ⟨u, hu, ru⟩ := rv.get hx
    obtain ⟨⟨old, he⟩, hit⟩ := st
    refine wpAny_pyNext_enum_item he hit p.isList (x := u) (by simpa using hu) hei fun h1 heo hit1 ht1 hz1 hk1 => ?_
    refine ⟨_, rfl, ?_⟩
    have hel : e < s.heap.objs.size := Heap.lt_size he
    have hil : it < s.heap.objs.size := by obtain ⟨o, ho, _⟩ := id hit; exact Heap.lt_size ho
    refine thn (enum_step (St := fun h2 => h2.IsListIter it l (i + 1)) I hf hel hil hei heo ru ht1 hz1 hk1 fun h2 hs => hit1.extBut hs.extBut hei.symm) fun _ s2 q => ?_
    obtain ⟨z, H', I2, rz, ⟨p, hp, rfl, rfl⟩, ⟨he2, hit2⟩, fr⟩ := q
    exact ⟨.ref p, _, I2, rz, ⟨p, x, fun ys hy => by rw [I.list_inj hy hq]; exact hx, hp, rfl, rfl⟩, ⟨⟨u, he2⟩, hit2⟩, fr⟩
  done := by
    intro X hP hw hK hc i pins s σ H E I hf st hg
    subst hP hw hK
    obtain ⟨xs, hq, hx⟩ := hg
    obtain ⟨its, rv, p, hz⟩ := I.list hq
    obtain ⟨⟨old, he⟩, hit⟩ := st
    have hl := rv.length
    obtain ⟨f0, f1, f2, f3, f4, f5⟩ := hf it (by simp)
    exact wpAny_pyNext_enum_end (I.ok.hd hc) he hit p.isList (by simp; omega) fun h' eb => ⟨rfl, I.turned (t' := s.toks) (fun b o hb e => eb b o hb e) f0 f1 f3 f4 f5⟩
  self := fun _ _ _ _ _ st h => by
    obtain ⟨⟨old, he⟩, _⟩ := st
    exact wpAny_pyIter_enum he h

theorem draws_str {P : Program} {w : World} {it : Addr} {x : Str} {t : Tok} (A : Around) (hA : A.handled = none) : Draws P w A it [it] x.cps.size (fun i v => ∃ c u, x.cps[i]? = some c ∧ v = .str ⟨#[c]⟩ u) (fun i h => h.IsStrIter it (strIterType x) x t i) := by
  cases ha : x.cps.all (· < 128)
  · have e : strIterType x = "str_iterator" := by simp [strIterType, ha]
    rw [e]; exact Draws.strWide hA it x t
  · have e : strIterType x = "str_ascii_iterator" := by simp [strIterType, ha]
    rw [e]; exact Draws.strAscii hA it x t
/-- enumerate of a text -/
def Ites (n : Nat) (f : Nat → V) : It :=
  ⟨fun i _ => i < n, fun i H y H' => ∃ p, H p = none ∧ y = .ref p ∧ H' = upd H p (.tup [.int i, f i]), fun i _ => n ≤ i⟩
theorem turn_enumS {P : Program} {w : World} {K : PySem.W.Frag} {elts : List Expr} {kk : Nat} {pos : Pos} (e it : Addr) (x : Str) (t : Tok) (hei : e ≠ it) :
    Turn P w K (.Tuple elts kk pos) (Ites x.cps.size (sgn x)) [e, it] e (fun i h => (∃ old, IsEnum h e it (i : Nat) old) ∧ i ≤ x.cps.size ∧ h.IsStrIter it (strIterType x) x t i) where
  mem := by simp
  obj := fun i h st b hb => by
    obtain ⟨⟨old, he⟩, _, o, ho, c, d⟩ := st
    rcases List.mem_cons.mp hb with rfl | hb
    · exact ⟨_, he, fun v z => by cases z⟩
    · have e : b = it := by simpa using hb
      subst e
      exact ⟨o, ho, fun v z => by rw [d] at z; cases z⟩
  keep := fun i h h' st k => by
    obtain ⟨⟨old, he⟩, hn, o, ho, r⟩ := st
    exact ⟨⟨old, k e (by simp) _ he⟩, hn, o, k it (by simp) o ho, r⟩
  item := by
    intro X hP hw hK hc i pins s σ H E I hf st hg
    subst hP hw hK
    obtain ⟨⟨old, he⟩, hn, hit⟩ := st
    have hi : i < x.cps.size := hg
    refine wpAny_pyNext_enum_itemD (draws_str X.A.in1 (I.ok.hd hc)) he hit hi hei (by simpa using hei) fun u h1 tk hP heo hit1 ht1 hz1 hk1 => ?_
    refine ⟨_, rfl, ?_⟩
    have hel : e < s.heap.objs.size := Heap.lt_size he
    have hil : it < s.heap.objs.size := by obtain ⟨o, ho, _⟩ := id hit; exact Heap.lt_size ho
    have ru : RelV (sgn x i) u := signAt_rel hP
    refine thn (enum_step (St := fun h2 => h2.IsStrIter it (strIterType x) x t (i + 1)) I hf hel hil hei heo ru ht1 hz1 hk1 fun h2 hs => ?_) fun _ s2 q => ?_
    · obtain ⟨o, ho, r⟩ := hit1
      exact ⟨o, (hs.2 it hei.symm).trans ho, r⟩
    · obtain ⟨z, H', I2, rz, ⟨p, hp, rfl, rfl⟩, ⟨he2, hit2⟩, fr⟩ := q
      exact ⟨.ref p, _, I2, rz, ⟨p, hp, rfl, rfl⟩, ⟨⟨u, he2⟩, hi, hit2⟩, fr⟩
  done := by
    intro X hP hw hK hc i pins s σ H E I hf st hg
    subst hP hw hK
    obtain ⟨⟨old, he⟩, hn, hit⟩ := st
    have hi : x.cps.size ≤ i := hg
    have ei : i = x.cps.size := Nat.le_antisymm hn hi
    subst ei
    obtain ⟨f0, f1, f2, f3, f4, f5⟩ := hf it (by simp)
    exact wpAny_pyNext_enum_endD (draws_str X.A.in1 (I.ok.hd hc)) he hit fun h' eb => ⟨rfl, I.turned (t' := s.toks) (fun b o hb e => eb b o hb e) f0 f1 f3 f4 f5⟩
  self := fun _ _ _ _ _ st h => by
    obtain ⟨⟨old, he⟩, _⟩ := st
    exact wpAny_pyIter_enum he h
section
variable {X : Cx} {elts : List Expr} {kk : Nat} {tpos : Pos}
def iEnumL (K : PySem.W.Frag) (ta : TA) : TI := fun σ H R => ta σ H fun vs H1 => ∃ a, vs = [.ref a] ∧ (∃ xs, SqL K H1 a xs) ∧ R (Ite K a) H1
theorem pi_enumL {a : Expr} {ta : TA} {p pos : Pos} (hg : Gl X "enumerate") (hm : X.mg "enumerate" = none) (ha : PA X [a] ta) (hs : starEach [a] X.env = [(false, eval a X.env)] := by rfl) :
    PI X (.Tuple elts kk tpos) (.Call (.Name "enumerate" p) [a] [] pos) (iEnumL X.K ta) := by
  intro pins s σ H R I h
  refine Call_ (ld_blt I hg hm (u := .type "enumerate") (by rfl) (PyProof.Rows.callWith_type1 (thn (ha pos pins s σ H _ I h) fun us s1 ⟨vs, H1, I1, r1, q1⟩ => ?_) hs rfl))
  obtain ⟨l, e, ⟨xs, hq⟩, q⟩ := q1
  subst e
  cases r1 with
  | cons r rr =>
    cases rr
    cases r
    obtain ⟨its, rv, p, hz⟩ := I1.list hq
    refine call_enumerate_list p.isList fun h' he hit hsz hk => ?_
    refine wpAny_pyIter_enum (s := { s1 with heap := h' }) he ?_
    have I2 : Inv X pins σ H1 { s1 with heap := h' } := I1.kept (t' := s1.toks) hk
    refine ⟨s1.heap.objs.size + 1, [s1.heap.objs.size + 1, s1.heap.objs.size], _, _, H1, rfl, I2, turn_enumL _ _ l (by simp), ⟨⟨_, he⟩, hit⟩, fun b hb => ?_, q⟩
    have hb' : s1.heap.objs.size ≤ b := by
      rcases List.mem_cons.mp hb with rfl | hb
      · exact Nat.le_succ _
      · have e : b = s1.heap.objs.size := by simpa using hb
        subst e; exact Nat.le_refl _
    exact I1.fpOk hb' (I1.hok.fresh hb')
def iEnumS (ta : TA) : TI := fun σ H R => ta σ H fun vs H1 => ∃ z, vs = [.str z] ∧ R (Ites z.cps.size (sgn z)) H1
theorem pi_enumS {a : Expr} {ta : TA} {p pos : Pos} (hg : Gl X "enumerate") (hm : X.mg "enumerate" = none) (ha : PA X [a] ta) (hs : starEach [a] X.env = [(false, eval a X.env)] := by rfl) :
    PI X (.Tuple elts kk tpos) (.Call (.Name "enumerate" p) [a] [] pos) (iEnumS ta) := by
  intro pins s σ H R I h
  refine Call_ (ld_blt I hg hm (u := .type "enumerate") (by rfl) (PyProof.Rows.callWith_type1 (thn (ha pos pins s σ H _ I h) fun us s1 ⟨vs, H1, I1, r1, q1⟩ => ?_) hs rfl))
  obtain ⟨z, e, q⟩ := q1
  subst e
  cases r1 with
  | cons r rr =>
    cases rr
    obtain ⟨t, rfl⟩ := r
    refine call_enumerate_str fun h' he hit hsz hk => ?_
    refine wpAny_pyIter_enum (s := { s1 with heap := h' }) he ?_
    have I2 : Inv X pins σ H1 { s1 with heap := h' } := I1.kept (t' := s1.toks) hk
    refine ⟨s1.heap.objs.size + 1, [s1.heap.objs.size + 1, s1.heap.objs.size], _, _, H1, rfl, I2, turn_enumS _ _ z t (by simp), ⟨⟨_, he⟩, Nat.zero_le _, hit⟩, fun b hb => ?_, q⟩
    have hb' : s1.heap.objs.size ≤ b := by
      rcases List.mem_cons.mp hb with rfl | hb
      · exact Nat.le_succ _
      · have e : b = s1.heap.objs.size := by simpa using hb
        subst e; exact Nat.le_refl _
    exact I1.fpOk hb' (I1.hok.fresh hb')
end
/-- the loop's form: over enumerate of a list -/
theorem for_enumL {K : PySem.W.Frag} {a : Addr} {xs : List V} {g : TG} {tb : TS} {D : Ends} {σ : St} {H : Hp} (Pv : Nat → St → Hp → Prop) (h0 : Pv 0 σ H) (hl : ∀ i σ H, i ≤ xs.length → Pv i σ H → SqL K H a xs)
    (hs : ∀ i x σ H p, xs[i]? = some x → Pv i σ H → H p = none → g (.ref p) σ (upd H p (.tup [.int i, x])) fun σ2 H2 => tb { D with nx := Pv (i + 1), ct := Pv (i + 1), bk := D.nx } σ2 H2) (hd : ∀ σ H, Pv xs.length σ H → D.nx σ H) :
    ∃ W : Nat → Nat → St → Hp → Prop, (∃ m, W 0 m σ H) ∧ ∀ i m σ H, W i m σ H →
      ((Ite K a).stop i H ∧ D.nx σ H) ∨ ((Ite K a).go i H ∧ ∃ N : St → Hp → Prop, (∀ σ' H', N σ' H' → ∃ m', m' < m ∧ W (i + 1) m' σ' H') ∧ ∀ x H', (Ite K a).yld i H x H' → g x σ H' fun σ2 H2 => tb { D with nx := N, ct := N, bk := D.nx } σ2 H2) := by
  refine ⟨fun i m σ H => m = xs.length - i ∧ i ≤ xs.length ∧ Pv i σ H, ⟨xs.length, by simp, Nat.zero_le _, h0⟩, ?_⟩
  rintro i m σ H ⟨rfl, hi, p⟩
  have q := hl i σ H hi p
  by_cases hlt : i < xs.length
  · refine .inr ⟨⟨xs, xs[i], q, by simp [hlt]⟩, Pv (i + 1), fun σ' H' p' => ⟨xs.length - (i + 1), by omega, rfl, hlt, p'⟩, fun x H' y => ?_⟩
    obtain ⟨pp, z, hy, hp, rfl, rfl⟩ := y
    exact hs i z σ _ pp (hy xs q) p hp
  · have e : i = xs.length := by omega
    subst e
    exact .inl ⟨⟨xs, q, Nat.le_refl _⟩, hd σ H p⟩
theorem for_enumS {n : Nat} {f : Nat → V} {g : TG} {tb : TS} {D : Ends} {σ : St} {H : Hp} (Pv : Nat → St → Hp → Prop) (h0 : Pv 0 σ H)
    (hs : ∀ i σ H p, i < n → Pv i σ H → H p = none → g (.ref p) σ (upd H p (.tup [.int i, f i])) fun σ2 H2 => tb { D with nx := Pv (i + 1), ct := Pv (i + 1), bk := D.nx } σ2 H2) (hd : ∀ σ H, Pv n σ H → D.nx σ H) :
    ∃ W : Nat → Nat → St → Hp → Prop, (∃ m, W 0 m σ H) ∧ ∀ i m σ H, W i m σ H →
      ((Ites n f).stop i H ∧ D.nx σ H) ∨ ((Ites n f).go i H ∧ ∃ N : St → Hp → Prop, (∀ σ' H', N σ' H' → ∃ m', m' < m ∧ W (i + 1) m' σ' H') ∧ ∀ x H', (Ites n f).yld i H x H' → g x σ H' fun σ2 H2 => tb { D with nx := N, ct := N, bk := D.nx } σ2 H2) := by
  refine ⟨fun i m σ H => m = n - i ∧ i ≤ n ∧ Pv i σ H, ⟨n, by simp, Nat.zero_le _, h0⟩, ?_⟩
  rintro i m σ H ⟨rfl, hi, p⟩
  by_cases hlt : i < n
  · refine .inr ⟨hlt, Pv (i + 1), fun σ' H' p' => ⟨n - (i + 1), by omega, rfl, hlt, p'⟩, fun x H' y => ?_⟩
    obtain ⟨pp, hp, rfl, rfl⟩ := y
    exact hs i σ _ pp hlt p hp
  · have e : i = n := by omega
    subst e
    exact .inl ⟨Nat.le_refl _, hd σ H p⟩
end L2

namespace L2
open PySem PySem.Spec PyProof.Rows

/-! ### list comprehensions -/
section
variable {prog : Program} {w : World} {A : Around} {R : Result → Shared → Prop} {s : Shared}
theorem compLoop_go {elt target iter : Expr} {ifs : List Expr} {scope : Scope} {pos : Pos} {it acc : Value} {env : Env} (I : Nat → Shared → Prop)
    (turn : ∀ n s, I n s → wpAny (model prog w) A (pyNext it) (fun r s₁ => match r with
      | none => R (.ok .next) s₁
      | some v => wpAny (model prog w) A (letOwnedTupleGo target it v) (fun _ s₂ => wpAny (model prog w) A (assign target env v) (fun _ s₃ =>
          wpAny (model prog w) A (forIn ifs true fun c r => if r = true then do let ok ← isTrue c env (eval c env); pure (ForInStep.yield ok) else pure (ForInStep.yield r)) (fun ok s₄ =>
            if ok = true then wpAny (model prog w) A (eval elt env) (fun x s₅ =>
              wpAny (model prog w) A (call (.builtin "list.append") [acc, x]) (fun _ s₆ => ∃ m, m < n ∧ I m s₆) (fun _ _ => False) s₅) (fun _ _ => False) s₄
            else ∃ m, m < n ∧ I m s₄) (fun _ _ => False) s₃) (fun _ _ => False) s₂) (fun _ _ => False) s₁) (fun _ _ => False) s)
    (n : Nat) (h : I n s) :
    codeAny (model prog w) A (.compLoop (.ListComp elt [⟨target, iter, ifs, 0⟩] scope pos) 0 it acc env) R s := by
  refine codeAny_loop rfl I (fun n s hI => ?_) n h
  show wpAny _ A ((compTurn (.ListComp elt [⟨target, iter, ifs, 0⟩] scope pos) 0 it acc env).onRaise (fun x => do noteFrame x env; theTreesLotGoes x)) _ _ s
  refine wpAny_noted ?_
  rw [compTurn_list]
  refine wpAny_bind (wpAny_standAt (wpAny_bind (wpAny_mono (turn n s hI) (fun r s₁ h₁ => ?_) fun _ _ h' => h'.elim)))
  cases r with
  | none => exact wpAny_pure h₁
  | some v =>
    refine wpAny_bind (wpAny_mono h₁ (fun _ s₂ h₂ => ?_) fun _ _ h' => h'.elim)
    refine wpAny_bind (wpAny_mono h₂ (fun _ s₃ h₃ => wpAny_bind (wpAny_mono h₃ (fun ok s₄ h₄ => ?_) fun _ _ h' => h'.elim)) fun _ _ h' => h'.elim)
    cases ok with
    | false => exact wpAny_pure ⟨rfl, h₄⟩
    | true =>
      exact wpAny_bind (wpAny_bind (wpAny_mono h₄ (fun x s₅ h₅ => wpAny_bind (wpAny_mono h₅ (fun _ s₆ h₆ => wpAny_pure (wpAny_pure ⟨rfl, h₆⟩)) fun _ _ h' => h'.elim)) fun _ _ h' => h'.elim))
end

/-- the cells that a comprehension captures -/
def closeL (cells : List (Str × Addr)) : List (Str × NameKind) → List (Str × Addr) → Option (List (Str × Addr))
  | [], acc => some acc
  | (n, k) :: r, acc => if (k == .free) = true then (match cells.lookup n with | some c => closeL cells r ((n, c) :: acc) | none => none) else closeL cells r acc
theorem closeL_run {env : Env} {f : Str × NameKind → List (Str × Addr) → Sem (ForInStep (List (Str × Addr)))}
    (hf : ∀ n k cs, f (n, k) cs = if (k == NameKind.free) = true then (do let c ← cellOf env n; pure (ForInStep.yield ((n, c) :: cs))) else pure (ForInStep.yield cs)) :
    ∀ (names : List (Str × NameKind)) (acc cl : List (Str × Addr)), closeL env.cells names acc = some cl → (forIn names acc f : Sem (List (Str × Addr))) = pure cl
  | [], acc, cl, h => by cases h; rfl
  | (n, k) :: r, acc, cl, h => by
    rw [List.forIn_cons, hf]
    unfold closeL at h
    by_cases hk : (k == NameKind.free) = true
    · rw [if_pos hk] at h
      rw [if_pos hk]
      cases hc : env.cells.lookup n with
      | none => rw [hc] at h; cases h
      | some c =>
        rw [hc] at h
        have e : cellOf env n = pure c := by unfold cellOf; rw [hc]
        rw [e]
        simp only [pure_bind]
        exact closeL_run hf r _ cl h
    · rw [if_neg hk] at h
      rw [if_neg hk]
      simp only [pure_bind]
      exact closeL_run hf r _ cl h
theorem closeL_ok {env : Env} {scope : Scope} {cl : List (Str × Addr)} (h : closeL env.cells scope.names [] = some cl) : closureFor scope env = pure cl := by
  unfold closureFor
  dsimp only
  rw [closeL_run (env := env) (fun n k cs => rfl) scope.names [] cl h]
  rfl
theorem closeL_get {cells : List (Str × Addr)} : ∀ (names : List (Str × NameKind)) (acc cl : List (Str × Addr)), closeL cells names acc = some cl → (∀ x c, acc.lookup x = some c → cells.lookup x = some c) →
    (∀ x c, cl.lookup x = some c → cells.lookup x = some c)
  | [], acc, cl, h, ha => by cases h; exact ha
  | (n, k) :: r, acc, cl, h, ha => by
    unfold closeL at h
    by_cases hk : (k == NameKind.free) = true
    · rw [if_pos hk] at h
      cases hc : cells.lookup n with
      | none => rw [hc] at h; cases h
      | some c =>
        rw [hc] at h
        refine closeL_get r _ cl h fun x c' e => ?_
        rw [List.lookup_cons] at e
        cases hx : x == n with
        | true => rw [hx] at e; cases e; rw [eq_of_beq hx]; exact hc
        | false => rw [hx] at e; exact ha x c' e
    · rw [if_neg hk] at h
      exact closeL_get r _ cl h ha
theorem closeL_has {cells : List (Str × Addr)} : ∀ (names : List (Str × NameKind)) (acc cl : List (Str × Addr)), closeL cells names acc = some cl → ∀ x, ((x, NameKind.free) ∈ names ∨ ∃ c, acc.lookup x = some c) → ∃ c, cl.lookup x = some c
  | [], acc, cl, h, x, hx => by
    cases h
    rcases hx with hx | hx
    · cases hx
    · exact hx
  | (n, k) :: r, acc, cl, h, x, hx => by
    unfold closeL at h
    by_cases hk : (k == NameKind.free) = true
    · rw [if_pos hk] at h
      cases hc : cells.lookup n with
      | none => rw [hc] at h; cases h
      | some c =>
        rw [hc] at h
        refine closeL_has r _ cl h x ?_
        rcases hx with hx | ⟨c', e⟩
        · rcases List.mem_cons.mp hx with e | hx
          · cases e; exact .inr ⟨c, by rw [List.lookup_cons, beq_self_eq_true]⟩
          · exact .inl hx
        · refine .inr ?_
          rw [List.lookup_cons]
          cases hxn : x == n with
          | true => exact ⟨c, rfl⟩
          | false => exact ⟨c', e⟩
    · rw [if_neg hk] at h
      refine closeL_has r _ cl h x ?_
      rcases hx with hx | hx
      · rcases List.mem_cons.mp hx with e | hx
        · cases e; exact absurd rfl hk
        · exact .inl hx
      · exact .inr hx
theorem mem_relabel {scope : Scope} {env : Env} {x : Str} {k : NameKind} (h : (relabel scope env).names.lookup x = some k) (hk : k = .cell ∨ k = .free) (hcell : ∀ y ∈ scope.names, y.2 ≠ .cell) : (x, NameKind.free) ∈ scope.names := by
  have m := PySem.mem_of_lookup h
  obtain ⟨⟨n, k0⟩, hm, e⟩ := List.mem_map.mp m
  dsimp only at e
  split at e
  · rename_i hc
    cases e
    have : k0 = .free := by
      simp only [Bool.and_eq_true, beq_iff_eq] at hc
      exact hc.1.1
    subst this; exact hm
  · cases e
    rcases hk with rfl | rfl
    · exact absurd rfl (hcell _ hm)
    · exact hm

/-- the context of a comprehension's block -/
def cxComp (X : Cx) (scope : Scope) (cl : List (Str × Addr)) (C : Addr) (N : List Str) (fp : List Addr) (s2 : Shared) (H2 : Hp) : Cx where
  prog := X.prog
  w := X.w
  K := X.K
  mg := X.mg
  base := X.base
  A := X.A
  N := N
  s₀ := s2
  H₀ := H2
  env := compEnvC scope cl C X.env
  outer := X.stack
  stack := X.stack
  ex := fp
  fn := fun _ => false
  calm := X.calm
  pn := []
  xe := fun _ _ => False

/-- what a comprehension's scope must be: lv its own names, fr the captured ones with their places outside -/
structure CScope (X : Cx) (scope : Scope) (cl : List (Str × Addr)) (lv : List Str) (fr : List (Str × Nat)) : Prop where
  clos : closeL X.env.cells scope.names [] = some cl
  cell : ∀ y ∈ scope.names, y.2 ≠ .cell
  kind : scope.kind = .function
  names : ∀ z ∈ scope.names, z.2 = .local → scope.names.lookup z.1 = some .local
  fr : ∀ q ∈ fr, X.N[q.2]? = some q.1 ∧ (q.1, NameKind.free) ∈ scope.names ∧ (X.env.kindOf q.1 = some .cell ∨ X.env.kindOf q.1 = some .free) ∧
    ((relabel scope X.env).names.lookup q.1 = some .cell ∨ (relabel scope X.env).names.lookup q.1 = some .free)
def cN (lv : List Str) (fr : List (Str × Nat)) : List Str := lv ++ fr.map (·.1)
def cS (lv : List Str) (fr : List (Str × Nat)) (σ : St) : St := lv.map (fun _ => none) ++ fr.map fun q => (σ[q.2]?).join

theorem inv_comp {X : Cx} {pins : List (Addr × Obj)} {σ : St} {H2 : Hp} {s2 : Shared} {scope : Scope} {cl : List (Str × Addr)} {lv : List Str} {fr : List (Str × Nat)} {fp : List Addr} {h4 : Heap} {tk : Nat} {m : Str → Option Value} {n : Nat}
    (I : Inv X pins σ H2 s2) (S : CScope X scope cl lv fr) (hf : ∀ b ∈ fp, FpOk X pins H2 b) (hlt : ∀ b ∈ fp, b < s2.heap.objs.size) (hC : h4.Ns (s2.heap.objs.size + 1) m) (hD : h4.get? s2.heap.objs.size = some { cls := .type "list", data := .seq #[] n })
    (hk : ∀ b o, s2.heap.get? b = some o → h4.get? b = some o) :
    Inv (cxComp X scope cl (s2.heap.objs.size + 1) (cN lv fr) fp s2 H2) [] (cS lv fr σ) (upd H2 s2.heap.objs.size (.lst [])) { s2 with heap := h4, toks := tk } := by
  have hcl := closeL_get scope.names [] cl S.clos (fun x c e => by cases e)
  have hhas := closeL_has scope.names [] cl S.clos
  have hDn : H2 s2.heap.objs.size = none := I.hok.fresh (Nat.le_refl _)
  have hCn : H2 (s2.heap.objs.size + 1) = none := I.hok.fresh (Nat.le_succ _)
  have hCD : s2.heap.objs.size + 1 ≠ s2.heap.objs.size := Nat.ne_of_gt (Nat.lt_succ_self _)
  have fpC : ∀ b ∈ fp, (b ∈ X.ex ∨ X.s₀.heap.objs.size ≤ b) := fun b hb => (hf b hb).2.2.2.1
  have cellLt : ∀ x c, cl.lookup x = some c → c < s2.heap.objs.size := fun x c e => by
    obtain ⟨v, o, ho, _⟩ := I.cell x c (hcl x c e)
    exact Heap.lt_size ho
  refine ⟨⟨I.ok.mod, S.kind, I.ok.glob, I.ok.blt, Nat.le_succ _, fun x y c h1 h2 => I.ok.inj x y c (hcl x c h1) (hcl y c h2), fun x hx => ?_, fun x c hfn => (by cases hfn), I.ok.hd, I.ok.frames, .inl rfl, fun b hb => ?_, I.bs, Nat.le_trans I.ok.bsz I.sz, fun b o e hb => ?_, fun b hb z => ?_, I.stack, I.stkFree⟩,
    rfl, I.bare, ?_, ⟨m, hC, fun i x v h1 h2 h3 => ?_⟩, fun x c e => ?_, ?_, fun x c e => ?_, fun p hp => absurd (show p ∈ ([] : List (Addr × Obj)) from hp) (by simp), ?_, ?_⟩
  · -- has
    have hx' : (relabel scope X.env).names.lookup x = some .cell ∨ (relabel scope X.env).names.lookup x = some .free := hx
    have hm : (x, NameKind.free) ∈ scope.names := hx'.elim (fun z => mem_relabel z (.inl rfl) S.cell) fun z => mem_relabel z (.inr rfl) S.cell
    exact hhas x (.inl hm)
  · -- exf
    obtain ⟨f0, f1, f2, f3, f4, f5⟩ := hf b hb
    refine ⟨fun z => ?_, fun x c e => f4 x c (hcl x c e)⟩
    have z' : b = s2.heap.objs.size + 1 := z
    have := hlt b hb
    rw [z'] at this
    exact absurd this (Nat.not_lt.mpr (Nat.le_succ _))
  · rcases fpC b hb with z | z
    · exact I.ok.noex b o e z
    · exact absurd (Nat.lt_of_lt_of_le (Nat.lt_of_lt_of_le (Heap.lt_size e) I.ok.bsz) z) (Nat.lt_irrefl _)
  · obtain ⟨f0, f1, f2, _⟩ := hf b hb
    rcases List.mem_cons.mp (I.stkSub b z) with q | q
    · exact f1 q
    · exact f2 q
  · exact Un.laid hk (Nat.le_refl _) hDn
  · -- loc
    have h1' : (lv ++ fr.map (·.1))[i]? = some x := h1
    have h2' : (lv.map (fun _ => none) ++ fr.map fun q => (σ[q.2]?).join : St)[i]? = some (some v) := h2
    by_cases hi : i < lv.length
    · rw [List.getElem?_append_left (by simpa using hi), List.getElem?_map] at h2'
      cases hq : lv[i]? with
      | none => rw [hq] at h2'; cases h2'
      | some z => rw [hq] at h2'; cases h2'
    · rw [List.getElem?_append_right (by simpa using hi), List.getElem?_map] at h2'
      rw [List.getElem?_append_right (by omega), List.getElem?_map] at h1'
      simp only [List.length_map] at h2'
      cases hq : fr[i - lv.length]? with
      | none => rw [hq] at h1'; cases h1'
      | some q =>
        rw [hq] at h1' h2'
        have e1 : q.1 = x := Option.some.inj h1'
        have e2 : (σ[q.2]?).join = some v := Option.some.inj h2'
        have e3 : σ[q.2]? = some (some v) := by
          cases hz : σ[q.2]? with
          | none => rw [hz] at e2; cases e2
          | some z => rw [hz] at e2; exact congrArg some e2
        obtain ⟨g1, g2, g3, g4⟩ := S.fr q (List.mem_of_getElem? hq)
        obtain ⟨m0, hn0, hl0⟩ := I.loc
        have vis : Vis X.env.scope q.1 := by
          rcases g3 with g3 | g3
          · exact .inr (.inl g3)
          · exact .inr (.inr g3)
        obtain ⟨u, r, l⟩ := hl0 q.2 q.1 v g1 e3 vis
        refine ⟨u, r, .inr ⟨?_, ?_⟩⟩
        · rw [← e1]; exact g4
        · rcases l with ⟨lk, _⟩ | ⟨_, c, ec, ic⟩
          · rcases g3 with g3 | g3 <;> (rw [lk] at g3; cases g3)
          · obtain ⟨c', ec'⟩ := hhas q.1 (.inl g2)
            have : c' = c := by
              have := hcl q.1 c' ec'
              rw [ec] at this; exact (Option.some.inj this).symm
            subst this
            obtain ⟨o, ho, hd⟩ := ic
            exact ⟨c', by rw [← e1]; exact ec', o, hk _ _ ho, hd⟩
  · obtain ⟨v, o, ho, hd⟩ := I.cell x c (hcl x c e)
    exact ⟨v, o, hk _ _ ho, hd⟩
  · show upd H2 _ _ (s2.heap.objs.size + 1) = none
    rw [upd_ne hCD]; exact hCn
  · have := cellLt x c e
    rw [upd_ne (Nat.ne_of_lt this)]
    exact I.freeC x c (hcl x c e)
  · exact I.hok.laid hk (Nat.le_refl _) ⟨Nat.zero_le _, [], n, .nil, hD⟩
  · show (cS lv fr σ).length = (cN lv fr).length
    simp [cS, cN]
end L2

namespace L2
open PySem PySem.Spec PyProof.Rows

/-- a comprehension's tests -/
def PIf (X : Cx) (ifs : List Expr) (t : TT) : Prop :=
  ∀ (pins : List (Addr × Obj)) (s : Shared) (σ : St) (H : Hp) (Q : Bool → Hp → Prop), Inv X pins σ H s → t σ H Q →
    wpAny (model X.prog X.w) X.A (forIn ifs true fun c r => if r = true then do let ok ← isTrue c X.env (eval c X.env); pure (ForInStep.yield ok) else pure (ForInStep.yield r)) (TP X pins σ Q) X.xe s
def tTrue : TT := fun _ H Q => Q true H
theorem pif_nil {X : Cx} : PIf X [] tTrue := fun pins s σ H Q I h => wpAny_tests_nil ⟨H, I, h⟩
theorem pif_one {X : Cx} {c : Expr} {t : TT} (h : PT X c t) : PIf X [c] t := fun pins s σ H Q I hw => wpAny_tests_one (h pins s σ H Q I hw)

/-- a comprehension's reading: W by the turn, a measure, the list so far, the names, the heap -/
def tCompR (J : It) (g : TG) (tt : TT) (te : TE) (σ0 : St) (H1 : Hp) (Q : VK) : Prop :=
  ∀ D, H1 D = none → ∃ W : Nat → Nat → List V → St → Hp → Prop, (∃ m, W 0 m [] σ0 (upd H1 D (.lst []))) ∧ ∀ i m ys σ H, W i m ys σ H →
    (J.stop i H ∧ Q (.ref D) H) ∨ (J.go i H ∧ ∃ N : List V → St → Hp → Prop, (∀ ys' σ' H', N ys' σ' H' → ∃ m', m' < m ∧ W (i + 1) m' ys' σ' H') ∧
      ∀ x H', J.yld i H x H' → g x σ H' fun σ2 H2 => tt σ2 H2 fun b H3 => if b = true then te σ2 H3 fun v H4 => H4 D = some (.lst ys) ∧ ys.length < sizeLine ∧ N (ys ++ [v]) σ2 (upd H4 D (.lst (ys ++ [v]))) else N ys σ2 H3)

section
variable {X : Cx} {scope : Scope} {cl : List (Str × Addr)} {lv : List Str} {fr : List (Str × Nat)} {elt tg iter : Expr} {ifs : List Expr} {pos : Pos} {g : TG} {tt : TT} {te : TE}

theorem comp_block {pins : List (Addr × Obj)} {σ : St} {H2 : Hp} {s2 : Shared} {it : Addr} {fp : List Addr} {tn : Nat → Heap → Prop} {J : It} {Q : VK} {E : Value → Shared → Prop} {use : Option (Value → Sem Unit)} {Q' : Value → Shared → Prop}
    (I : Inv X pins σ H2 s2) (S : CScope X scope cl lv fr) (T : Turn X.prog X.w X.K tg J fp it tn) (st : tn 0 s2.heap) (hf : ∀ b ∈ fp, FpOk X pins H2 b) (hc : X.calm = true)
    (hg : ∀ C fp s2 H2, PG (cxComp X scope cl C (cN lv fr) fp s2 H2) tg g) (ht : ∀ C fp s2 H2, PIf (cxComp X scope cl C (cN lv fr) fp s2 H2) ifs tt) (he : ∀ C fp s2 H2, PE (cxComp X scope cl C (cN lv fr) fp s2 H2) elt te)
    (hq : tCompR J g tt te (cS lv fr σ) H2 Q)
    (fin : ∀ D C oC H' s', Inv X (pins ++ [(C, oC)]) σ H' s' → (∀ h : Heap, h.get? C = some oC → ∃ m, h.Ns C m) → FpOk X pins H' C → Q (.ref D) H' → compPost (model X.prog X.w) X.A E use Q' (.ref D) C (.ok .next) s') :
    wpAny (model X.prog X.w) X.A (newList []) (fun acc s₃ => wpAny (model X.prog X.w) X.A (newFunctionEnv scope X.env.globals cl [] X.env.qual none .none (some X.env)) (fun cenv s₄ =>
      codeAny (model X.prog X.w) X.A (.compStart (.ListComp elt [⟨tg, iter, ifs, 0⟩] scope pos) 0 (.ref it) acc { cenv with scope := relabel scope X.env }) (compPost (model X.prog X.w) X.A E use Q' acc cenv.locals) s₄) E s₃) E s2 := by
  have hlt : ∀ b ∈ fp, b < s2.heap.objs.size := fun b hb => by
    obtain ⟨o, ho, _⟩ := T.obj 0 _ st b hb
    exact Heap.lt_size ho
  refine wpAny_newList (wpAny_newFunctionEnv S.cell (by intro y hy; simp at hy) (fun h₁ hns₁ hsb₁ => ?_) S.kind)
  dsimp only at hns₁ hsb₁ ⊢
  have hsz : (s2.heap.push { cls := .type "list", data := .seq ([] : List Value).toArray }).objs.size = s2.heap.objs.size + 1 := Heap.size_push ..
  rw [hsz] at hns₁ hsb₁ ⊢
  have old : ∀ b o, s2.heap.get? b = some o → h₁.get? b = some o := fun b o e => hsb₁.extBut b o (Nat.ne_of_lt (Nat.lt_succ_of_lt (Heap.lt_size e))) (Heap.get?_push_of_some _ (Heap.get?_push_of_some _ e))
  have hacc : h₁.get? s2.heap.objs.size = some { cls := .type "list", data := .seq #[] } := hsb₁.extBut _ _ (Nat.ne_of_lt (Nat.lt_succ_self _)) (Heap.get?_push_of_some _ (Heap.get?_push_size _ rfl))
  have I4 : Inv (cxComp X scope cl (s2.heap.objs.size + 1) (cN lv fr) fp s2 H2) [] (cS lv fr σ) (upd H2 s2.heap.objs.size (.lst [])) { s2 with heap := h₁, toks := s2.toks + ([] : List (Str × Value)).length } :=
    inv_comp I S hf hlt hns₁ hacc old
  generalize hX' : cxComp X scope cl (s2.heap.objs.size + 1) (cN lv fr) fp s2 H2 = X' at I4
  have eP : X'.prog = X.prog := by rw [← hX']; rfl
  have ew : X'.w = X.w := by rw [← hX']; rfl
  have eK : X'.K = X.K := by rw [← hX']; rfl
  have eA : X'.A = X.A := by rw [← hX']; rfl
  have ec : X'.calm = true := by rw [← hX']; exact hc
  have ex : X'.xe = fun _ _ => False := by rw [← hX']; rfl
  have een : X'.env = compEnvC scope cl (s2.heap.objs.size + 1) X.env := by rw [← hX']; rfl
  have hg' : PG X' tg g := hX' ▸ hg _ _ _ _
  have ht' : PIf X' ifs tt := hX' ▸ ht _ _ _ _
  have he' : PE X' elt te := hX' ▸ he _ _ _ _
  obtain ⟨W, ⟨m0, w0⟩, turn⟩ := hq s2.heap.objs.size (I.hok.fresh (Nat.le_refl _))
  have st1 : tn 0 h₁ := T.keep _ _ _ st fun b _ o e => old b o e
  -- the iterator's objects
  have f4 : ∀ b ∈ fp, FpOk X' [] (upd H2 s2.heap.objs.size (.lst [])) b := fun b hb => by
    obtain ⟨f0, f1, f2, f3, f4, f5⟩ := hf b hb
    have := hlt b hb
    refine ⟨?_, ?_, ?_, .inl ?_, ?_, ?_⟩
    · rw [upd_ne (Nat.ne_of_lt this)]; exact f0
    · rw [een]; exact Nat.ne_of_lt (Nat.lt_succ_of_lt this)
    · intro z
      have z' : b ∈ frs X.stack := by rw [← hX'] at z; exact z
      rcases List.mem_cons.mp (I.stkSub b z') with q | q
      · exact f1 q
      · exact f2 q
    · rw [← hX']; exact hb
    · intro x c e
      rw [een] at e
      exact f4 x c (closeL_get scope.names [] cl S.clos (fun x c e => by cases e) x c e)
    · intro p hp
      rw [← hX'] at hp
      exact absurd (show p ∈ ([] : List (Addr × Obj)) from hp) (by simp)
  have stat : ∀ {H' : Hp}, (∀ b ∈ fp, H' b = none) → ∀ b ∈ fp, FpOk X' [] H' b := fun hn b hb => ⟨hn b hb, (f4 b hb).2⟩
  have loop : ∀ s₃ : Shared, s₃ = { s2 with heap := h₁, toks := s2.toks + ([] : List (Str × Value)).length } →
      codeAny (model X.prog X.w) X.A (.compLoop (.ListComp elt [⟨tg, iter, ifs, 0⟩] scope pos) 0 (.ref it) (.ref s2.heap.objs.size) (compEnvC scope cl (s2.heap.objs.size + 1) X.env))
        (compPost (model X.prog X.w) X.A E use Q' (.ref s2.heap.objs.size) (s2.heap.objs.size + 1)) s₃ := by
    rintro s₃ rfl
    refine compLoop_go (fun n s' => ∃ i ys σ' H', Inv X' [] σ' H' s' ∧ tn i s'.heap ∧ (∀ b ∈ fp, H' b = none) ∧ W i n ys σ' H') ?_ m0 ⟨0, [], _, _, I4, st1, fun b hb => (f4 b hb).1, w0⟩
    rintro n s3 ⟨i, ys, σ3, H3, I3, st3, fr3, w3⟩
    rcases turn i n ys σ3 H3 w3 with ⟨stop, qn⟩ | ⟨go, N, hN, step⟩
    · have a0 := T.done X' eP ew eK ec i [] s3 σ3 H3 (fun _ _ => False) I3 (stat fr3) st3 stop
      rw [eA] at a0
      refine thn a0 fun r s4 ⟨hr, I4'⟩ => ?_
      subst hr
      -- the end
      have un : Un (frs X.stack) fp H2 H3 s2.heap s4.heap := by
        have := I4'.base
        rw [← hX'] at this
        exact this
      have os : s4.os = s2.os := by
        have := I4'.os
        rw [← hX'] at this
        exact this
      have hok : HOk X.prog X.w H3 s4.heap := by
        have := I4'.hok
        rw [← hX'] at this
        exact this
      have J1 : Inv X pins σ H3 s4 := I.call' os un hok I4'.bare fun b hb => by
        obtain ⟨f0, f1, f2, f3, f4, f5⟩ := hf b hb
        exact ⟨f3, f1, f4, f5⟩
      obtain ⟨m, hn, _⟩ := I4'.loc
      have hn' : s4.heap.Ns (s2.heap.objs.size + 1) m := by rw [een] at hn; exact hn
      have hCn : H3 (s2.heap.objs.size + 1) = none := by
        have := I4'.free
        rw [een] at this; exact this
      have fC : FpOk X pins H3 (s2.heap.objs.size + 1) := I.fpOk (Nat.le_succ _) hCn
      obtain ⟨oC, es, ep, hoC, hdC, rC⟩ := id hn'
      have J2 : Inv X (pins ++ [(s2.heap.objs.size + 1, oC)]) σ H3 s4 := J1.pins_of fun p hp => by
        rcases List.mem_append.mp hp with hp | hp
        · exact J1.pin p (List.mem_append_right _ hp)
        · have e : p = (s2.heap.objs.size + 1, oC) := by simpa using hp
          subst e
          exact ⟨hoC, hCn, fC.2.1, fC.2.2.1, fun v z => by rw [hdC] at z; cases z⟩
      exact fin _ _ oC H3 s4 J2 (fun h e => ⟨m, oC, es, ep, e, hdC, rC⟩) fC qn
    · have a0 := T.item X' eP ew eK ec i [] s3 σ3 H3 (fun _ _ => False) I3 (stat fr3) st3 go
      rw [eA] at a0
      refine thn a0 fun r s4 ⟨u, hr, h4⟩ => ?_
      subst hr
      refine thn h4 fun _ s5 ⟨x, H5, I5, r5, y5, st5, fr5⟩ => ?_
      have I5' := I5.pinned (stat fr5) (T.obj _ _ st5)
      have a1 := hg' _ s5 σ3 H5 x u _ I5' r5 (step x H5 y5)
      rw [eP, ew, eA, een, ex] at a1
      refine thn a1 fun _ s6 ⟨σ6, H6, I6, q6⟩ => ?_
      have a2 := ht' _ s6 σ6 H6 _ I6 q6
      rw [eP, ew, eA, een, ex] at a2
      refine thn a2 fun ok s7 ⟨H7, I7, q7⟩ => ?_
      have again : ∀ {ys7 : List V} {H7 : Hp} {s7 : Shared}, Inv X' ([] ++ pinsAt fp s5.heap) σ6 H7 s7 → N ys7 σ6 H7 → ∃ m, m < n ∧ ∃ i ys σ' H', Inv X' [] σ' H' s7 ∧ tn i s7.heap ∧ (∀ b ∈ fp, H' b = none) ∧ W i m ys σ' H' := fun {ys7 H7 s7} I7 n7 => by
        obtain ⟨m', hm, w7⟩ := hN ys7 σ6 H7 n7
        refine ⟨m', hm, i + 1, ys7, σ6, H7, I7.unpinned, T.keep _ _ _ st5 fun b hb o e => (I7.pin (b, o) (List.mem_append_right _ (List.mem_append_right _ (mem_pinsAt hb e)))).1, fun b hb => ?_, w7⟩
        obtain ⟨o, e, d⟩ := T.obj _ _ st5 b hb
        exact (I7.pin (b, o) (List.mem_append_right _ (List.mem_append_right _ (mem_pinsAt hb e)))).2.1
      cases ok with
      | false => exact again I7 q7
      | true =>
        have a3 := he' _ s7 σ6 H7 _ I7 q7
        rw [eP, ew, eA, een, ex] at a3
        refine thn a3 fun y s8 ⟨v, H8, I8, r8, hD8, hl8, n8⟩ => ?_
        have a4 := mt_append (X := X') _ s8 σ6 H8 (.ref s2.heap.objs.size) [v] (.ref s2.heap.objs.size) [y] (fun _ H9 => N (ys ++ [v]) σ6 H9) I8 rfl (.cons r8 .nil) ⟨_, _, _, rfl, rfl, hD8, hl8, n8⟩
        rw [eP, ew, eA, ex] at a4
        refine thn a4 fun _ s9 ⟨v9, H9, I9, _, n9⟩ => ?_
        exact again I9 n9
  exact codeAny_compStart_list (loop _ rfl) (T.self _ 0 _ _ _ st1 (loop _ rfl))

/-- [elt for tg in iter if ..], as a value -/
def tComp (lv : List Str) (fr : List (Str × Nat)) (wi : TI) (g : TG) (tt : TT) (te : TE) : TE := fun σ H Q => wi σ H fun J H1 => tCompR J g tt te (cS lv fr σ) H1 Q
theorem pe_comp {wi : TI} (hc : X.calm = true) (S : CScope X scope cl lv fr) (hi : PI X tg iter wi)
    (hg : ∀ C fp s2 H2, PG (cxComp X scope cl C (cN lv fr) fp s2 H2) tg g) (ht : ∀ C fp s2 H2, PIf (cxComp X scope cl C (cN lv fr) fp s2 H2) ifs tt) (he : ∀ C fp s2 H2, PE (cxComp X scope cl C (cN lv fr) fp s2 H2) elt te)
    (hs : ∀ x, foldedSetIterable iter X.env x = pure x := by intro _; rfl) : PE X (.ListComp elt [⟨tg, iter, ifs, 0⟩] scope pos) (tComp lv fr wi g tt te) := by
  intro pins s σ H Q I h
  rw [eval_ListComp]
  refine wpAny_comprehension_free (use := none) rfl hs (closeL_ok S.clos) S.kind S.names ?_
  refine thn (hi pins s σ H _ I h) fun v s1 h1 => thn h1 fun itv s2 h2 => ?_
  obtain ⟨it, fp, tn, J, H2, e, I2, T, st2, f2, q⟩ := h2
  subst e
  refine comp_block I2 S T st2 f2 hc hg ht he q fun D C oC H' s' J1 hNs fC qD => ?_
  have hp := J1.pin (C, oC) (List.mem_append_right _ (List.mem_append_right _ (List.mem_singleton.mpr rfl)))
  obtain ⟨m, hm⟩ := hNs s'.heap hp.1
  refine ⟨m, hm, fun h' hs' => ?_⟩
  exact ⟨.ref D, H', J1.unpinned.turned (t' := s'.toks) (fun b o hb e => (hs'.2 b hb).trans e) fC.1 fC.2.1 fC.2.2.2.1 fC.2.2.2.2.1 fC.2.2.2.2.2, rfl, qD⟩
/-- name = [elt for ..], on one line: the store ahead of the names' letting go -/
theorem ps_setcomp {wi : TI} {j : Nat} {y : Str} {py spos : Pos} (hc : X.calm = true) (S : CScope X scope cl lv fr) (hi : PI X tg iter wi)
    (hg : ∀ C fp s2 H2, PG (cxComp X scope cl C (cN lv fr) fp s2 H2) tg g) (ht : ∀ C fp s2 H2, PIf (cxComp X scope cl C (cN lv fr) fp s2 H2) ifs tt) (he : ∀ C fp s2 H2, PE (cxComp X scope cl C (cN lv fr) fp s2 H2) elt te)
    (hy : PG X (.Name y py) (gName j))
    (hsw : swapsWith (.ListComp elt [⟨tg, iter, ifs, 0⟩] scope pos) (some (.Name y py)) spos.line X.env = pure true := by rfl)
    (hs : ∀ x, foldedSetIterable iter X.env x = pure x := by intro _; rfl) : PS X (.Assign [.Name y py] (.ListComp elt [⟨tg, iter, ifs, 0⟩] scope pos) spos) (tAsg (tComp lv fr wi g tt te) (gName j)) := by
  intro pins s σ H D I h
  rw [exec_Assign_Name_used _ _ _ _ hsw]
  refine wpAny_bind (wpAny_standAt (wpAny_bind ?_))
  show wpAny _ X.A (do let _ ← comprehension (.ListComp elt [⟨tg, iter, ifs, 0⟩] scope pos) scope X.env _ (newList []) false (eval iter X.env) (some (assign (.Name y py) X.env))) _ _ s
  refine wpAny_bind (wpAny_mono (wpAny_comprehension_free (use := some (assign (.Name y py) X.env)) (Q := fun _ s' => SP X pins D .next s') rfl hs (closeL_ok S.clos) S.kind S.names ?_) (fun _ s' hq => wpAny_pure (wpAny_pure hq)) fun _ _ e => e)
  refine thn (hi pins s σ H _ I h) fun v s1 h1 => thn h1 fun itv s2 h2 => ?_
  obtain ⟨it, fp, tn, J, H2, e, I2, T, st2, f2, q⟩ := h2
  subst e
  refine comp_block I2 S T st2 f2 hc hg ht he q fun D' C oC H' s' J1 hNs fC qD => ?_
  show wpAny _ X.A (assign (.Name y py) X.env (.ref D')) _ _ _
  refine thn (hy _ s' σ H' (.ref D') (.ref D') _ J1 rfl qD) fun _ s3 ⟨σ3, H3, I3, q3⟩ => ?_
  have hp := I3.pin (C, oC) (List.mem_append_right _ (List.mem_append_right _ (List.mem_singleton.mpr rfl)))
  obtain ⟨m, hm⟩ := hNs s3.heap hp.1
  refine ⟨m, hm, fun h' hs' => ?_⟩
  have fC' : FpOk X pins H3 C := ⟨hp.2.1, fC.2⟩
  exact ⟨σ3, H3, I3.unpinned.turned (t' := s3.toks) (fun b o hb e => (hs'.2 b hb).trans e) fC'.1 fC'.2.1 fC'.2.2.2.1 fC'.2.2.2.2.1 fC'.2.2.2.2.2, q3⟩
end
end L2

namespace L2
open PySem PySem.Spec PyProof.Rows

/-! ### texts as lists of codes -/
abbrev tx (l : List Nat) : V := .str ⟨l.toArray⟩
def br (b : Bool) (A B : Prop) : Prop := (b = true → A) ∧ (b = false → B)
theorem br_if {b : Bool} {A B : Prop} (h : br b A B) : if b = true then A else B := by
  cases b
  · rw [if_neg (by decide)]; exact h.2 rfl
  · rw [if_pos rfl]; exact h.1 rfl
theorem br_true {b : Bool} {A B : Prop} (hb : b = true) (h : A) : br b A B := ⟨fun _ => h, fun z => (by rw [hb] at z; cases z)⟩
theorem br_false {b : Bool} {A B : Prop} (hb : b = false) (h : B) : br b A B := ⟨fun z => (by rw [hb] at z; cases z), fun _ => h⟩
theorem str_app (a b : Str) : a ++ b = ⟨(a.cps.toList ++ b.cps.toList).toArray⟩ := by
  cases a; cases b
  show Str.mk (_ ++ _) = _
  simp
theorem str_eta (a : Str) : a = ⟨a.cps.toList.toArray⟩ := by cases a; simp
def cutL (l : List Nat) (lo hi : Option Int) : List Nat := (l.drop (HT.sIx l.length 0 lo)).take (HT.sIx l.length l.length hi - HT.sIx l.length 0 lo)
theorem strSl_bounds (lo hi : Option Int) (n : Nat) : Builtin.Str.strSliceIndices lo hi 1 n = sliceRange ((HT.sIx n 0 lo : Nat) : Int) ((HT.sIx n n hi : Nat) : Int) 1 := by
  unfold Builtin.Str.strSliceIndices
  simp only [show (1 : Int) > 0 by decide, if_true]
  congr 1
  · cases lo with
    | none => simp [HT.sIx]
    | some i =>
      simp only [HT.sIx]
      by_cases h : i < 0
      · simp only [h, if_true] <;> omega
      · simp only [h, if_false] <;> omega
  · cases hi with
    | none => simp [HT.sIx]
    | some i =>
      simp only [HT.sIx]
      by_cases h : i < 0
      · simp only [h, if_true] <;> omega
      · simp only [h, if_false] <;> omega
theorem picked_cut (x : Str) (lo hi : Option Int) : (Builtin.Str.strSliceIndices lo hi 1 x.length).filterMap (x.cps[·]?) = cutL x.cps.toList lo hi := by
  rw [strSl_bounds, sliceRange_one, pick_run]
  unfold cutL Str.length
  simp only [Array.length_toList]
theorem cutL_length_le (l : List Nat) (lo hi : Option Int) : (cutL l lo hi).length ≤ l.length := by
  unfold cutL
  rw [List.length_take, List.length_drop]
  omega
theorem cutL_full {l : List Nat} {lo hi : Option Int} (h : (cutL l lo hi).length = l.length) : cutL l lo hi = l := by
  unfold cutL at h ⊢
  rw [List.length_take, List.length_drop] at h
  have h1 : HT.sIx l.length l.length hi ≤ l.length := HT.sIx_le _ _ (Nat.le_refl _) _
  by_cases hl : l.length = 0
  · have : l = [] := List.length_eq_zero_iff.mp hl
    subst this
    simp
  · have h2 : HT.sIx l.length 0 lo = 0 := by omega
    rw [h2, List.drop_zero, List.take_of_length_le]
    omega
section
variable {X : Cx}
def rSlS : V → Option Int → Option Int → Hp → VK → Prop := fun x lo hi H Q => match x with | .str z => z.length ≤ sizeLine ∧ Q (tx (cutL z.cps.toList lo hi)) H | _ => False
theorem isPart_value {v : Value} {o : Option Int} (p : IsPart v o) : ∃ l : Option (Int × Tok), v = partValue l ∧ l.map (·.1) = o := by
  cases p with
  | none => exact ⟨none, rfl, rfl⟩
  | int i t => exact ⟨some (i, t), rfl, rfl⟩
theorem sl_str : SlR X rSlS := by
  intro pins s σ H x v vl vu lo hi sl Q I rx hs pl pu h
  cases x with
  | str z =>
    obtain ⟨hz, q⟩ := h
    obtain ⟨t, rfl⟩ := rx
    obtain ⟨l, rfl, rfl⟩ := isPart_value pl
    obtain ⟨u, rfl, rfl⟩ := isPart_value pu
    refine ⟨"str", _, F.slot_str_getitem.lookup, typeIs_str _ _ _, ?_⟩
    refine wpAny_getItem_str_slice (l := l) (u := u) (st := none) hs rfl ?_
    unfold sliceMade
    have e : slicePicked z l u none = Builtin.Str.strSliceIndices (l.map (·.1)) (u.map (·.1)) 1 z.length := rfl
    rw [e]
    have hlen : (Builtin.Str.strSliceIndices (l.map (·.1)) (u.map (·.1)) 1 z.length).length = (cutL z.cps.toList (l.map (·.1)) (u.map (·.1))).length := by
      rw [strSl_bounds, sliceRange_one, List.length_map, List.length_range]
      unfold cutL
      rw [List.length_take, List.length_drop]
      have h1 : HT.sIx z.length z.length (u.map (·.1)) ≤ z.length := HT.sIx_le _ _ (Nat.le_refl _) _
      have h2 : z.cps.toList.length = z.length := by simp [Str.length]
      rw [h2]
      omega
    split
    · rename_i hc
      have hc' : (cutL z.cps.toList (l.map (·.1)) (u.map (·.1))).length = z.cps.toList.length := by
        rw [← hlen]
        simpa [Str.length] using hc
      rw [cutL_full hc'] at q
      have q' : Q (.str z) H := by rw [str_eta z]; exact q
      exact ⟨.str z, H, I, ⟨_, rfl⟩, q'⟩
    · rw [picked_cut]
      have h3 := cutL_length_le z.cps.toList (l.map (·.1)) (u.map (·.1))
      have h2 : z.cps.toList.length = z.length := by simp [Str.length]
      refine ⟨?_, tx (cutL z.cps.toList (l.map (·.1)) (u.map (·.1))), H, I.tok _, ⟨_, rfl⟩, q⟩
      show (cutL z.cps.toList (l.map (·.1)) (u.map (·.1))).toArray.size ≤ sizeLine
      rw [List.size_toArray]
      exact Nat.le_trans h3 (by rw [h2]; exact hz)
  | _ => exact h.elim
end
end L2

namespace L2
open PySem PySem.Spec PyProof.Rows

/-! ### readings that compute: each is a function of the values -/
def mVar (i : Nat) : TE := fun σ H Q => match σ[i]? with | some (some v) => Q v H | _ => False
section
variable {X : Cx} {a b c : Expr} {ta tb tc : TE} {pos : Pos}
theorem pe_mvar (i : Nat) {x : Str} {pos : Pos} (hN : X.N[i]? = some x := by rfl) (hv : Vis X.env.scope x := by first | exact Or.inl rfl | exact Or.inr (Or.inl rfl) | exact Or.inr (Or.inr rfl)) (hd : (x == ("__debug__" : Str)) = false := by decide)
    (hcd : (x == ("__classdict__" : Str)) = false := by decide) : PE X (.Name x pos) (mVar i) := by
  intro pins s σ H Q I h
  unfold mVar at h
  cases e : σ[i]? with
  | none => rw [e] at h; exact h.elim
  | some o =>
    rw [e] at h
    cases o with
    | none => exact h.elim
    | some v => exact pe_var hN hv hd hcd pins s σ H Q I ⟨v, e, h⟩
theorem pe_txt {x : Str} {l : List Nat} {j pos} (h : x = ⟨l.toArray⟩ := by rfl) : PE X (.Constant (.str x) j pos) (tC (tx l)) := h ▸ pe_str

/-! operators -/
def mAdd : R2 := fun x y H Q => match x, y with
  | .int i, .int j => Q (.int (i + j)) H
  | .str a, .str b => a.cps.toList.length + b.cps.toList.length ≤ sizeLine ∧ Q (tx (a.cps.toList ++ b.cps.toList)) H
  | .ref a, .ref b => ∃ xs zs, H a = some (.lst xs) ∧ H b = some (.lst zs) ∧ xs.length + zs.length ≤ sizeLine ∧ ∀ p, H p = none → Q (.ref p) (upd H p (.lst (xs ++ zs)))
  | _, _ => False
theorem op_addM : OpR X (binaryOp .Add) mAdd := by
  intro pins s σ H x y v u Q I rx ry h
  cases x <;> cases y <;> first
    | exact h.elim
    | exact op_add pins s σ H _ _ v u Q I rx ry ⟨_, _, rfl, rfl, h⟩
    | exact op_add_str pins s σ H _ _ v u Q I rx ry ⟨_, _, rfl, rfl, by simpa [Str.length] using h.1, by rw [str_app]; exact h.2⟩
    | (obtain ⟨xs, zs, h1, h2, h3, h4⟩ := h; exact op_cat pins s σ H _ _ v u Q I rx ry ⟨_, _, xs, zs, rfl, rfl, h1, h2, h3, h4⟩)
def mI (C : Int → Int → Prop) (g : Int → Int → V) : R2 := fun x y H Q => match x, y with | .int i, .int j => C i j ∧ Q (g i j) H | _, _ => False
def mI0 (g : Int → Int → V) : R2 := fun x y H Q => match x, y with | .int i, .int j => Q (g i j) H | _, _ => False
theorem opM {f : Value → Value → Sem Value} {C : Int → Int → Prop} {g : Int → Int → V} (h : OpR X f (rI C g)) : OpR X f (mI C g) := by
  intro pins s σ H x y v u Q I rx ry q
  cases x <;> cases y <;> first | exact q.elim | exact h pins s σ H _ _ v u Q I rx ry ⟨_, _, rfl, rfl, q.1, q.2⟩
theorem opM0 {f : Value → Value → Sem Value} {g : Int → Int → V} (h : OpR X f (rI0 g)) : OpR X f (mI0 g) := by
  intro pins s σ H x y v u Q I rx ry q
  cases x <;> cases y <;> first | exact q.elim | exact h pins s σ H _ _ v u Q I rx ry ⟨_, _, rfl, rfl, q⟩
abbrev mSub : R2 := mI0 fun i j => .int (i - j)
abbrev mMul : R2 := mI CMul fun i j => .int (i * j)
abbrev mDiv : R2 := mI CDiv fun i j => .int (i / j)
abbrev mMod : R2 := mI (fun _ j => 0 < j) fun i j => .int (i % j)
abbrev mPow : R2 := mI CPow fun i j => .int (i ^ j.toNat)
theorem op_subM : OpR X (binaryOp .Sub) mSub := opM0 op_sub
theorem op_mulM : OpR X (binaryOp .Mult) mMul := opM op_mul
theorem op_divM : OpR X (binaryOp .FloorDiv) mDiv := opM op_fdiv
theorem op_modM : OpR X (binaryOp .Mod) mMod := opM op_mod
theorem op_powM : OpR X (binaryOp .Pow) mPow := opM op_pow
/-! comparisons -/
def mEqB (x y : V) : Option Bool := match x, y with
  | .int i, .int j => some (decide (i = j))
  | .str a, .str b => some (decide (a.cps.toList = b.cps.toList))
  | .bl a, .bl b => some (decide (a = b))
  | .non, .non => some true
  | .non, .int _ => some false | .int _, .non => some false | .non, .bl _ => some false | .bl _, .non => some false | .non, .str _ => some false | .str _, .non => some false
  | .int _, .str _ => some false | .str _, .int _ => some false | .bl _, .str _ => some false | .str _, .bl _ => some false
  | _, _ => none
theorem mEqB_dec {x y : V} {b : Bool} (h : mEqB x y = some b) : scal x y = true ∧ decide (x = y) = b := by
  cases x <;> cases y <;> first
    | (simp [mEqB] at h; done)
    | (refine ⟨rfl, ?_⟩; have h' := Option.some.inj h; rw [← h']; first | rfl | (simp; done))
    | (rename_i a b'
       refine ⟨rfl, ?_⟩
       have h' := Option.some.inj h
       rw [← h', decide_eq_decide]
       constructor
       · intro e; cases e; rfl
       · intro e; rw [str_eta a, str_eta b', e])
def mEq : R2 := fun x y H Q => match mEqB x y with | some b => Q (.bl b) H | none => False
def mNe : R2 := fun x y H Q => match mEqB x y with | some b => Q (.bl (!b)) H | none => False
theorem op_eqM : OpR X (compareOp .Eq) mEq := by
  intro pins s σ H x y v u Q I rx ry h
  unfold mEq at h
  cases e : mEqB x y with
  | none => rw [e] at h; exact h.elim
  | some b =>
    rw [e] at h
    obtain ⟨h1, h2⟩ := mEqB_dec e
    exact op_eq pins s σ H x y v u Q I rx ry ⟨h1, by rw [h2]; exact h⟩
theorem op_neM : OpR X (compareOp .NotEq) mNe := by
  intro pins s σ H x y v u Q I rx ry h
  unfold mNe at h
  cases e : mEqB x y with
  | none => rw [e] at h; exact h.elim
  | some b =>
    rw [e] at h
    obtain ⟨h1, h2⟩ := mEqB_dec e
    exact op_ne pins s σ H x y v u Q I rx ry ⟨h1, by rw [h2]; exact h⟩
abbrev mLt : R2 := mI0 fun i j => .bl (decide (i < j))
abbrev mLe : R2 := mI0 fun i j => .bl (decide (i ≤ j))
abbrev mGt : R2 := mI0 fun i j => .bl (decide (j < i))
abbrev mGe : R2 := mI0 fun i j => .bl (decide (j ≤ i))
theorem op_ltM : OpR X (compareOp .Lt) mLt := opM0 op_lt
theorem op_leM : OpR X (compareOp .LtE) mLe := opM0 op_le
theorem op_gtM : OpR X (compareOp .Gt) mGt := opM0 op_gt
theorem op_geM : OpR X (compareOp .GtE) mGe := opM0 op_ge
/-- is, is not: beside None, True, False -/
def mIsB (x y : V) : Option Bool := match y with
  | .non => some (decide (x = .non))
  | .bl b => (match x with | .bl a => some (decide (a = b)) | _ => none)
  | _ => none
def mIs : R2 := fun x y H Q => match mIsB x y with | some b => Q (.bl b) H | none => False
def mIsNot : R2 := fun x y H Q => match mIsB x y with | some b => Q (.bl (!b)) H | none => False
theorem is_bools {M : Model} {A : Around} {E : Value → Shared → Prop} {s : Shared} {a b : Bool} {Q : Value → Shared → Prop} (h : Q (.bool (decide (a = b))) s) : wpAny M A (compareOp .Is (.bool a) (.bool b)) Q E s := by
  cases a <;> cases b <;> exact wpAny_pure h
theorem isnot_bools {M : Model} {A : Around} {E : Value → Shared → Prop} {s : Shared} {a b : Bool} {Q : Value → Shared → Prop} (h : Q (.bool (!decide (a = b))) s) : wpAny M A (compareOp .IsNot (.bool a) (.bool b)) Q E s := by
  cases a <;> cases b <;> exact wpAny_pure h
theorem op_isM : OpR X (compareOp .Is) mIs := by
  intro pins s σ H x y v u Q I rx ry h
  unfold mIs mIsB at h
  cases y with
  | non => exact op_isN pins s σ H x _ v u Q I rx ry ⟨rfl, h⟩
  | bl b =>
    cases x with
    | bl a => cases rx; cases ry; exact is_bools ⟨.bl _, H, I, rfl, h⟩
    | _ => exact h.elim
  | _ => exact h.elim
theorem op_isNotM : OpR X (compareOp .IsNot) mIsNot := by
  intro pins s σ H x y v u Q I rx ry h
  unfold mIsNot mIsB at h
  cases y with
  | non => exact op_notN pins s σ H x _ v u Q I rx ry ⟨rfl, h⟩
  | bl b =>
    cases x with
    | bl a => cases rx; cases ry; exact isnot_bools ⟨.bl _, H, I, rfl, h⟩
    | _ => exact h.elim
  | _ => exact h.elim
/-- in: one sign in a text; a flat value in a list or tuple -/
def inS (l : List Nat) (t : List Nat) : Bool := match l with | [c] => decide (c ∈ t) | _ => !(Builtin.Str.occurrences ⟨t.toArray⟩ ⟨l.toArray⟩ 0 t.length 1).isEmpty
theorem inS_occ (a b : Str) : (!(Builtin.Str.occurrences b a 0 b.length 1).isEmpty) = inS a.cps.toList b.cps.toList := by
  have e : b.length = b.cps.toList.length := by simp [Str.length]
  unfold inS
  split
  · rename_i c hc
    have ea : a = ⟨#[c]⟩ := by rw [str_eta a, hc]
    rw [ea]
    exact StrLaws.found_one b c
  · rw [← str_eta, ← str_eta, e]
def mIn (K : PySem.W.Frag) (neg : Bool) : R2 := fun x y H Q => match y with
  | .str b => (match x with | .str a => Q (.bl (if neg then !inS a.cps.toList b.cps.toList else inS a.cps.toList b.cps.toList)) H | _ => False)
  | .ref p => ∃ xs, (SqL K H p xs ∨ SqT K H p xs) ∧ flatV x = true ∧ xs.all flatV = true ∧ Q (.bl (if neg then !inV x xs else inV x xs)) H
  | _ => False
theorem op_inM : OpR X (compareOp .In) (mIn X.K false) := by
  intro pins s σ H x y v u Q I rx ry h
  unfold mIn at h
  cases y with
  | str b =>
    cases x with
    | str a => exact op_in_str pins s σ H _ _ v u Q I rx ry ⟨_, _, rfl, rfl, by rw [inS_occ]; exact h⟩
    | _ => exact h.elim
  | ref p =>
    obtain ⟨xs, h1, h2, h3, h4⟩ := h
    exact op_in_seq pins s σ H _ _ v u Q I rx ry ⟨_, xs, rfl, h1, h2, h3, h4⟩
  | _ => exact h.elim
theorem op_notInM : OpR X (compareOp .NotIn) (mIn X.K true) := by
  intro pins s σ H x y v u Q I rx ry h
  unfold mIn at h
  cases y with
  | str b =>
    cases x with
    | str a => exact op_notin_str pins s σ H _ _ v u Q I rx ry ⟨_, _, rfl, rfl, by rw [inS_occ]; exact h⟩
    | _ => exact h.elim
  | ref p =>
    obtain ⟨xs, h1, h2, h3, h4⟩ := h
    exact op_notIn_seq pins s σ H _ _ v u Q I rx ry ⟨_, xs, rfl, h1, h2, h3, h4⟩
  | _ => exact h.elim
/-! and, or, not, tests -/
def mTest (t : TE) : TT := fun σ H Q => t σ H fun x H' => match x with | .bl k => Q k H' | _ => False
theorem PE.imp {e : Expr} {t t' : TE} (h : PE X e t) (hi : ∀ σ H Q, t' σ H Q → t σ H Q) : PE X e t' := fun pins s σ H Q I q => h pins s σ H Q I (hi σ H Q q)
theorem PT.imp {e : Expr} {t t' : TT} (h : PT X e t) (hi : ∀ σ H Q, t' σ H Q → t σ H Q) : PT X e t' := fun pins s σ H Q I q => h pins s σ H Q I (hi σ H Q q)
def mAndV (ta tb : TE) : TE := fun σ H Q => ta σ H fun x H1 => match x with | .bl c => br c (tb σ H1 Q) (Q (.bl false) H1) | _ => False
def mOrV (ta tb : TE) : TE := fun σ H Q => ta σ H fun x H1 => match x with | .bl c => br c (Q (.bl true) H1) (tb σ H1 Q) | _ => False
def mNotV (ta : TE) : TE := fun σ H Q => ta σ H fun x H1 => match x with | .bl c => Q (.bl (!c)) H1 | _ => False
def mAnd (t u : TT) : TT := fun σ H Q => t σ H fun c H1 => br c (u σ H1 Q) (Q false H1)
def mOr (t u : TT) : TT := fun σ H Q => t σ H fun c H1 => br c (Q true H1) (u σ H1 Q)
variable {rest : List Expr} {tA tB' : TT}
theorem pe_andM (ha : PE X a ta) (hb : PE X (.BoolOp .And (b :: rest) pos) tb) : PE X (.BoolOp .And (a :: b :: rest) pos) (mAndV ta tb) := by
  intro pins s σ H Q I h
  refine BoolOp_and (thn (ha pins s σ H _ I h) fun v s1 ⟨x, H1, I1, r1, q1⟩ => ?_)
  cases x with
  | bl c =>
    cases r1
    refine wpAny_truthy_bool ?_
    cases c with
    | true => exact hb pins s1 σ H1 Q I1 (q1.1 rfl)
    | false => exact ⟨.bl false, H1, I1, rfl, q1.2 rfl⟩
  | _ => exact q1.elim
theorem pe_orM (ha : PE X a ta) (hb : PE X (.BoolOp .Or (b :: rest) pos) tb) : PE X (.BoolOp .Or (a :: b :: rest) pos) (mOrV ta tb) := by
  intro pins s σ H Q I h
  refine BoolOp_or (thn (ha pins s σ H _ I h) fun v s1 ⟨x, H1, I1, r1, q1⟩ => ?_)
  cases x with
  | bl c =>
    cases r1
    refine wpAny_truthy_bool ?_
    cases c with
    | false => exact hb pins s1 σ H1 Q I1 (q1.2 rfl)
    | true => exact ⟨.bl true, H1, I1, rfl, q1.1 rfl⟩
  | _ => exact q1.elim
theorem pe_notM (ha : PE X a ta) : PE X (.UnaryOp .Not a pos) (mNotV ta) := by
  intro pins s σ H Q I h
  refine UnaryOp_ (thn (ha pins s σ H _ I h) fun v s1 ⟨x, H1, I1, r1, q1⟩ => ?_)
  cases x with
  | bl c => cases r1; exact not_of (wpAny_truthy_bool ⟨.bl (!c), H1, I1, rfl, q1⟩)
  | _ => exact q1.elim
theorem pw_andM (ha : PT X a tA) (hb : PW X (.BoolOp .And (b :: rest) pos) tB') : PW X (.BoolOp .And (a :: b :: rest) pos) (mAnd tA tB') := by
  intro wh pins s σ H Q I h
  refine isTrue_and (thn (ha pins s σ H _ I h) fun c s1 ⟨H1, I1, q1⟩ => ?_)
  cases c with
  | true => exact hb wh pins s1 σ H1 Q I1 (q1.1 rfl)
  | false => exact ⟨H1, I1, q1.2 rfl⟩
theorem pw_orM (ha : PT X a tA) (hb : PW X (.BoolOp .Or (b :: rest) pos) tB') : PW X (.BoolOp .Or (a :: b :: rest) pos) (mOr tA tB') := by
  intro wh pins s σ H Q I h
  refine isTrue_or (thn (ha pins s σ H _ I h) fun c s1 ⟨H1, I1, q1⟩ => ?_)
  cases c with
  | true => exact ⟨H1, I1, q1.1 rfl⟩
  | false => exact hb wh pins s1 σ H1 Q I1 (q1.2 rfl)
theorem pt_valM {e : Expr} {t : TE} (h : PE X e t) (he : ∀ whole, isTrue e X.env whole = (do let v ← whole; standAt e.pos; holding [v] (truthy v)) := by intro _; rfl) : PT X e (mTest t) := by
  intro pins s σ H Q I hw
  refine isTrue_plain (thn (h pins s σ H _ I hw) fun v s1 ⟨x, H1, I1, r1, q1⟩ => ?_) (he _)
  cases x with
  | bl c => cases r1; exact wpAny_truthy_bool ⟨H1, I1, q1⟩
  | _ => exact q1.elim
theorem pt_cmpM {op : CmpOp} {r : R2} (ho : OpR X (compareOp op) r) (ha : PE X a ta) (hb : PE X b tb) (hm : behindInMarks op b = false := by first | exact nobehind _ (by decide) (by decide) | rfl) : PT X (.Compare a [op] [b] pos) (mTest (tOp r ta tb)) := by
  intro pins s σ H Q I hw
  refine wpAny_isTrue_Compare1 (binT ha hb I hw fun v u s2 x y H2 I2 rx ry q => ?_) hm
  refine thn (ho pins s2 σ H2 x y v u _ I2 rx ry q) fun c s3 ⟨z, H3, I3, r3, q3⟩ => ?_
  cases z with
  | bl k => cases r3; exact wpAny_truthy_bool ⟨H3, I3, q3⟩
  | _ => exact q3.elim
theorem pe_cmpM {op : CmpOp} {r : R2} (ho : OpR X (compareOp op) r) (ha : PE X a ta) (hb : PE X b tb) (hm : behindInMarks op b = false := by first | exact nobehind _ (by decide) (by decide) | rfl) : PE X (.Compare a [op] [b] pos) (tOp r ta tb) := pe_cmpR ho ha hb hm
def mIf (t : TT) (ta tb : TE) : TE := fun σ H Q => t σ H fun c H1 => br c (ta σ H1 Q) (tb σ H1 Q)
theorem pe_ifM {c : Expr} (hc : PT X c tA) (ha : PE X a ta) (hb : PE X b tb) : PE X (.IfExp c a b pos) (mIf tA ta tb) := by
  intro pins s σ H Q I h
  refine wpAny_IfExp (thn (hc pins s σ H _ I h) fun d s1 ⟨H1, I1, q1⟩ => ?_)
  cases d with
  | true => exact ha pins s1 σ H1 Q I1 (q1.1 rfl)
  | false => exact hb pins s1 σ H1 Q I1 (q1.2 rfl)
def mIfS (c : TT) (t u : TS) : TS := fun D σ H => c σ H fun b H1 => br b (t D σ H1) (u D σ H1)
theorem ps_ifM {c : Expr} {a b : List Stmt} {tc : TT} {t u : TS} (hc : PT X c tc) (ha : PSs X a t) (hb : PSs X b u) : PS X (.If c a b pos) (mIfS tc t u) := by
  intro pins s σ H D I h
  refine wpAny_If (thn (hc pins s σ H _ I h) fun d s1 ⟨H1, I1, q1⟩ => ?_)
  cases d with
  | true => exact ha pins s1 σ H1 D I1 (q1.1 rfl)
  | false => exact hb pins s1 σ H1 D I1 (q1.2 rfl)
/-- a < b <= c -/
def mChain (r r' : R2) (ta tb tc : TE) : TE := fun σ H Q => ta σ H fun x H1 => tb σ H1 fun y H2 => r x y H2 fun z H3 => match z with | .bl k => br k (tc σ H3 fun w H4 => r' y w H4 Q) (Q (.bl false) H3) | _ => False
theorem pe_chainM {op op' : CmpOp} {r r' : R2} (ho : OpR X (compareOp op) r) (ho' : OpR X (compareOp op') r') (ha : PE X a ta) (hb : PE X b tb) (hc : PE X c tc)
    (hm : lastMarks [op, op'] [b, c] = false := by with_unfolding_all rfl) : PE X (.Compare a [op, op'] [b, c] pos) (mChain r r' ta tb tc) := by
  intro pins s σ H Q I h
  refine Compare_chain (thn (ha pins s σ H _ I h) fun v s1 ⟨x, H1, I1, r1, q1⟩ => chain_link (thn (hb pins s1 σ H1 _ I1 q1) fun u s2 ⟨y, H2, I2, r2, q2⟩ =>
    thn (ho pins s2 σ H2 x y v u _ I2 r1 r2 q2) fun d s3 ⟨z, H3, I3, r3, q3⟩ => ?_)) hm
  cases z with
  | bl k =>
    cases r3
    refine wpAny_truthy_bool ?_
    cases k with
    | false => exact ite_ff ⟨.bl false, H3, I3, rfl, q3.2 rfl⟩
    | true => exact ite_tt (chain_last (thn (hc pins s3 σ H3 _ I3 (q3.1 rfl)) fun w' s4 ⟨z', H4, I4, r4, q4⟩ => ho' pins s4 σ H4 y z' u w' Q I4 r2 r4 q4))
  | _ => exact q3.elim
theorem pt_chainM {op op' : CmpOp} {r r' : R2} (ho : OpR X (compareOp op) r) (ho' : OpR X (compareOp op') r') (ha : PE X a ta) (hb : PE X b tb) (hc : PE X c tc)
    (hm : lastMarks [op, op'] [b, c] = false := by with_unfolding_all rfl) : PT X (.Compare a [op, op'] [b, c] pos) (mTest (mChain r r' ta tb tc)) := by
  intro pins s σ H Q I h
  refine isTrue_chain (thn (ha pins s σ H _ I h) fun v s1 ⟨x, H1, I1, r1, q1⟩ => test_link (thn (hb pins s1 σ H1 _ I1 q1) fun u s2 ⟨y, H2, I2, r2, q2⟩ =>
    thn (ho pins s2 σ H2 x y v u _ I2 r1 r2 q2) fun d s3 ⟨z, H3, I3, r3, q3⟩ => ?_)) hm
  cases z with
  | bl k =>
    cases r3
    refine wpAny_truthy_bool ?_
    cases k with
    | false => exact ite_ff ⟨H3, I3, q3.2 rfl⟩
    | true =>
      refine ite_tt (test_last (thn (hc pins s3 σ H3 _ I3 (q3.1 rfl)) fun w' s4 ⟨z', H4, I4, r4, q4⟩ => thn (ho' pins s4 σ H4 y z' u w' _ I4 r2 r4 q4) fun d' s5 ⟨z2, H5, I5, r5, q5⟩ => ?_))
      cases z2 with
      | bl k2 => cases r5; exact wpAny_truthy_bool ⟨H5, I5, q5⟩
      | _ => exact q5.elim
  | _ => exact q3.elim
end
end L2

namespace L2
open PySem PySem.Spec PyProof.Rows
section
variable {X : Cx} {a b c e o : Expr} {es : List Expr} {ta tb tc : TE} {t : TA} {pos : Pos}

/-! subscripts -/
def mIx (K : PySem.W.Frag) : R2 := fun x y H Q => match y with
  | .int i => (match x with
    | .ref p => ∃ xs, (SqL K H p xs ∨ SqT K H p xs) ∧ (match atI xs i with | some v => Q v H | none => False)
    | .str z => z.cps.toList.length ≤ sizeLine ∧ (match atI z.cps.toList i with | some c => Q (tx [c]) H | none => False)
    | _ => False)
  | _ => False
theorem ix_M : IxR X (mIx X.K) := by
  intro value slice pins s σ H x y v u Q I rx ry h hs0
  unfold mIx at h
  cases y with
  | int i =>
    cases x with
    | ref p =>
      obtain ⟨xs, hs, h⟩ := h
      cases ev : atI xs i with
      | none => rw [ev] at h; exact h.elim
      | some w' =>
        rw [ev] at h
        rcases hs with hs | hs
        · exact ix_list value slice pins s σ H _ _ v u Q I rx ry ⟨p, xs, i, w', rfl, rfl, hs, ev, h⟩ hs0
        · exact ix_tup value slice pins s σ H _ _ v u Q I rx ry ⟨p, xs, i, w', rfl, rfl, hs, ev, h⟩ hs0
    | str z =>
      obtain ⟨hz, h⟩ := h
      cases ev : atI z.cps.toList i with
      | none => rw [ev] at h; exact h.elim
      | some w' =>
        rw [ev] at h
        exact ix_str value slice pins s σ H _ _ v u Q I rx ry ⟨z, i, w', rfl, rfl, by simpa [Str.length] using hz, ev, h⟩ hs0
    | _ => exact h.elim
  | _ => exact h.elim
def mSl (K : PySem.W.Frag) : V → Option Int → Option Int → Hp → VK → Prop := fun x lo hi H Q => match x with
  | .str z => z.cps.toList.length ≤ sizeLine ∧ Q (tx (cutL z.cps.toList lo hi)) H
  | .ref a => ∃ xs, SqL K H a xs ∧ ∀ p, H p = none → Q (.ref p) (upd H p (.lst (cutV xs lo hi)))
  | _ => False
theorem sl_M : SlR X (mSl X.K) := by
  intro pins s σ H x v vl vu lo hi sl Q I rx hs pl pu h
  unfold mSl at h
  cases x with
  | str z => exact sl_str pins s σ H _ v vl vu lo hi sl Q I rx hs pl pu ⟨by simpa [Str.length] using h.1, h.2⟩
  | ref p =>
    obtain ⟨xs, h1, h2⟩ := h
    exact sl_list pins s σ H _ v vl vu lo hi sl Q I rx hs pl pu ⟨p, xs, rfl, h1, h2⟩
  | _ => exact h.elim
def mPart (t : TE) : TO := fun σ H Q => t σ H fun x H1 => match x with | .int i => Q (some i) H1 | _ => False
theorem po_M (h : PE X e ta) : PO X (some e) (mPart ta) := by
  intro pins s σ H Q I hw
  rw [evalPart_some]
  refine thn (h pins s σ H _ I hw) fun u s1 ⟨x, H1, I1, r1, q1⟩ => ?_
  cases x with
  | int i => obtain ⟨t, rfl⟩ := r1; exact ⟨some i, H1, I1, .int i t, q1⟩
  | _ => exact q1.elim

/-! calls of built-ins -/
def mLen (K : PySem.W.Frag) : List V → Hp → VK → Prop := fun xs H Q => match xs with
  | [.str z] => z.cps.toList.length ≤ sizeLine ∧ Q (.int z.cps.toList.length) H
  | [.ref p] => ∃ ys, (SqL K H p ys ∨ SqT K H p ys) ∧ Q (.int ys.length) H
  | _ => False
theorem call_lenM : CallR X (.builtin "len") (mLen X.K) := by
  intro pins s σ H xs us Q I r h
  unfold mLen at h
  split at h
  · exact call_len_str pins s σ H _ us Q I r ⟨_, rfl, by simpa [Str.length] using h.1, by simpa [Str.length] using h.2⟩
  · obtain ⟨ys, h1, h2⟩ := h
    exact call_len_seq pins s σ H _ us Q I r ⟨_, ys, rfl, h1, h2⟩
  · exact h.elim
def mTwo (g : Int → Int → Int) : List V → Hp → VK → Prop := fun xs H Q => match xs with | [.int i, .int j] => Q (.int (g i j)) H | _ => False
theorem call_maxM (hc : X.calm = true) : CallR X (.builtin "max") (mTwo max) := by
  intro pins s σ H xs us Q I r h
  unfold mTwo at h
  split at h
  · rename_i i j
    refine call_max2 hc pins s σ H _ us Q I r ⟨i, j, rfl, ?_⟩
    have e : (if j > i then j else i) = max i j := by split <;> omega
    rw [e]; exact h
  · exact h.elim
theorem call_minM (hc : X.calm = true) : CallR X (.builtin "min") (mTwo min) := by
  intro pins s σ H xs us Q I r h
  unfold mTwo at h
  split at h
  · rename_i i j
    refine call_min2 hc pins s σ H _ us Q I r ⟨i, j, rfl, ?_⟩
    have e : (if j < i then j else i) = min i j := by split <;> omega
    rw [e]; exact h
  · exact h.elim
/-- isinstance, of a built-in class -/
def tyS (K : PySem.W.Frag) (H : Hp) : V → String → Prop := fun x T => match x with
  | .non => T = "NoneType" | .bl _ => T = "bool" | .int _ => T = "int" | .str _ => T = "str"
  | .ref p => (T = "list" ∧ ∃ xs, H p = some (.lst xs)) ∨ (T = "tuple" ∧ ∃ xs, H p = some (.tup xs))
  | _ => False
theorem tyS_of {K : PySem.W.Frag} {H : Hp} {x : V} {T : String} (h : tyS K H x T) : TyOf K H x (.type T) := by
  unfold tyS at h
  cases x with
  | non => subst h; exact .non
  | bl b => subst h; exact .bl b
  | int i => subst h; exact .int i
  | str z => subst h; exact .str z
  | ref p =>
    rcases h with ⟨rfl, xs, h⟩ | ⟨rfl, xs, h⟩
    · exact .lst h
    · exact .tup h
  | _ => exact h.elim
def isaB (T c : String) : Option Bool :=
  if T = c then some true else if T = "bool" ∧ c = "int" then some true
  else if (T = "bool" ∨ T = "int" ∨ T = "str" ∨ T = "list" ∨ T = "tuple" ∨ T = "NoneType") ∧ (c = "bool" ∨ c = "int" ∨ c = "str" ∨ c = "list" ∨ c = "tuple" ∨ c = "dict") then some false else none
theorem kit_isa {K : PySem.W.Frag} {T c : String} {b : Bool} (h : isaB T c = some b) : PySem.W.kitOne K (.type T) (.type c) = some b := by
  unfold isaB at h
  split at h
  · rename_i e; subst e; cases h
    unfold PySem.W.kitOne
    rw [if_pos (by simp)]
  · split at h
    · rename_i e; obtain ⟨rfl, rfl⟩ := e; cases h; rfl
    · split at h
      · rename_i h1 h2 e
        cases h
        obtain ⟨e1, e2⟩ := e
        rcases e1 with rfl | rfl | rfl | rfl | rfl | rfl <;> rcases e2 with rfl | rfl | rfl | rfl | rfl | rfl <;> first | rfl | exact absurd rfl h1 | exact absurd ⟨rfl, rfl⟩ h2
      · cases h
/-- the type of a value: told by the value alone, or by what stands at its place -/
def mIsa (K : PySem.W.Frag) : List V → Hp → VK → Prop := fun xs H Q => match xs with
  | [.int _, .ty c] => (match isaB "int" c with | some b => Q (.bl b) H | none => False)
  | [.bl _, .ty c] => (match isaB "bool" c with | some b => Q (.bl b) H | none => False)
  | [.str _, .ty c] => (match isaB "str" c with | some b => Q (.bl b) H | none => False)
  | [.non, .ty c] => (match isaB "NoneType" c with | some b => Q (.bl b) H | none => False)
  | [.ref p, .ty c] => ∃ T, tyS K H (.ref p) T ∧ (match isaB T c with | some b => Q (.bl b) H | none => False)
  | _ => False
theorem call_isa : CallR X (.builtin "isinstance") (mIsa X.K) := by
  intro pins s σ H xs us Q I r h
  have key : ∀ (x : V) (T c : String), xs = [x, .ty c] → tyS X.K H x T → (match isaB T c with | some b => Q (.bl b) H | none => False) → wpAny (model X.prog X.w) X.A (call (.builtin "isinstance") us) (EP X pins σ Q) X.xe s := by
    intro x T c e ht hq
    subst e
    obtain ⟨u, w', rfl, r1, r2⟩ := vals2 r
    cases r2
    cases eb : isaB T c with
    | none => rw [eb] at hq; exact hq.elim
    | some b =>
      rw [eb] at hq
      exact isinst_ok I r1 (tyS_of ht) (kit_isa eb) fun tk => ⟨.bl b, H, I.tok tk, rfl, hq⟩
  unfold mIsa at h
  split at h
  · exact key _ "int" _ rfl rfl h
  · exact key _ "bool" _ rfl rfl h
  · exact key _ "str" _ rfl rfl h
  · exact key _ "NoneType" _ rfl rfl h
  · obtain ⟨T, h1, h2⟩ := h
    exact key _ T _ rfl h1 h2
  · exact h.elim

/-! methods of texts -/
/-- where a sign stands first; -1 where it doesn't -/
def findS (l : List Nat) (t : List Nat) : Int := Txt.find ⟨l.toArray⟩ ⟨t.toArray⟩
theorem find_one (l : List Nat) (c : Nat) : findS l [c] = (match l.findIdx? (· == c) with | some i => (i : Int) | none => -1) := by
  unfold findS
  rcases find_whole ⟨l.toArray⟩ ⟨[c].toArray⟩ with ⟨h1, h2⟩ | ⟨i, h1, h2, h3⟩
  · rw [h1]
    have : l.findIdx? (· == c) = none := by
      rw [List.findIdx?_eq_none_iff]
      intro x hx
      obtain ⟨j, hj⟩ := List.mem_iff_getElem?.mp hx
      by_cases hxc : x = c
      · subst hxc
        exact absurd ((StrLaws.subAt_one ⟨l.toArray⟩ x j).mpr (by simpa using hj)) (h2 j)
      · simpa using hxc
    rw [this]
  · rw [h1]
    have hi : l[i]? = some c := by simpa using (StrLaws.subAt_one ⟨l.toArray⟩ c i).mp h2
    have : l.findIdx? (· == c) = some i := by
      obtain ⟨hlt, hget⟩ := List.getElem?_eq_some_iff.mp hi
      rw [List.findIdx?_eq_some_iff_getElem]
      refine ⟨hlt, by simp [hget], fun j hj => ?_⟩
      have hjl : j < l.length := Nat.lt_trans hj hlt
      have hn := h3 j hj
      intro hc
      have hc' : l[j] = c := by simpa using hc
      exact hn ((StrLaws.subAt_one ⟨l.toArray⟩ c j).mpr (by simp [hjl, hc']))
    rw [this]
def mFind : V → List V → Hp → VK → Prop := fun x xs H Q => match x, xs with | .str l, [.str t] => Q (.int (findS l.cps.toList t.cps.toList)) H | _, _ => False
theorem mt_find : MtR X "str.find" mFind := by
  intro pins s σ H x xs v us Q I rx rv h
  unfold mFind at h
  split at h
  · rename_i l t
    obtain ⟨k, rfl⟩ := rx
    obtain ⟨u, rfl, ru⟩ := rv.one
    obtain ⟨k', rfl⟩ := ru
    refine SC.find ?_
    have e : Txt.find l t = findS l.cps.toList t.cps.toList := by unfold findS; rw [← str_eta, ← str_eta]
    rw [e]
    exact ⟨.int _, H, I.tok _, ⟨_, rfl⟩, h⟩
  · exact h.elim
def mIndex : V → List V → Hp → VK → Prop := fun x xs H Q => match x, xs with | .str l, [.str t] => findS l.cps.toList t.cps.toList ≠ -1 ∧ Q (.int (findS l.cps.toList t.cps.toList)) H | _, _ => False
theorem mt_index : MtR X "str.index" mIndex := by
  intro pins s σ H x xs v us Q I rx rv h
  unfold mIndex at h
  split at h
  · rename_i l t
    obtain ⟨k, rfl⟩ := rx
    obtain ⟨u, rfl, ru⟩ := rv.one
    obtain ⟨k', rfl⟩ := ru
    have e : Txt.find l t = findS l.cps.toList t.cps.toList := by unfold findS; rw [← str_eta, ← str_eta]
    rw [← e] at h
    unfold Txt.find at h
    cases ho : Builtin.Str.occurrences l t 0 l.length 1 with
    | nil => rw [ho] at h; exact absurd rfl h.1
    | cons i rest =>
      rw [ho] at h
      exact SC.index ho ⟨.int _, H, I.tok _, ⟨_, rfl⟩, h.2⟩
  · exact h.elim
/-- ''.join of a list of texts -/
def strsOf : List V → Option (List Str)
  | [] => some []
  | .str z :: r => (strsOf r).map (z :: ·)
  | _ :: _ => none
theorem strsOf_map {vs : List V} {zs : List Str} : strsOf vs = some zs → vs = zs.map V.str := by
  induction vs generalizing zs with
  | nil => intro h; cases h; rfl
  | cons v r ih =>
    intro h
    cases v with
    | str z =>
      unfold strsOf at h
      cases e : strsOf r with
      | none => rw [e] at h; cases h
      | some y => rw [e] at h; cases h; rw [ih e]; rfl
    | _ => cases h
theorem strsOf_of (zs : List Str) : strsOf (zs.map V.str) = some zs := by
  induction zs with
  | nil => rfl
  | cons z r ih => show (strsOf (r.map V.str)).map (z :: ·) = _; rw [ih]; rfl
def joinS (sep : List Nat) (zs : List Str) : List Nat := (Txt.join ⟨sep.toArray⟩ zs).cps.toList
def mJoin (K : PySem.W.Frag) : V → List V → Hp → VK → Prop := fun x xs H Q => match x, xs with
  | .str l, [.ref D] => ∃ vs, (SqL K H D vs) ∧ (match strsOf vs with | some zs => JoinOk l zs = true ∧ Q (tx (joinS l.cps.toList zs)) H | none => False)
  | _, _ => False
theorem vals_strs : ∀ {zs : List Str} {us : List Value}, Vals (zs.map V.str) us → ∃ l : List (Str × Tok), us = strValues l ∧ l.map (·.1) = zs
  | [], us, r => by cases r; exact ⟨[], rfl, rfl⟩
  | z :: zs, us, r => by
    cases r with
    | cons r rr =>
      obtain ⟨t, rfl⟩ := r
      obtain ⟨l, rfl, hl⟩ := vals_strs rr
      exact ⟨(z, t) :: l, rfl, by rw [List.map_cons, hl]⟩
theorem mt_join : MtR X "str.join" (mJoin X.K) := by
  intro pins s σ H x xs v us Q I rx rv h
  unfold mJoin at h
  split at h
  · rename_i l D
    obtain ⟨k, rfl⟩ := rx
    obtain ⟨u, rfl, ru⟩ := rv.one
    cases ru
    obtain ⟨vs, hs, h⟩ := h
    cases ez : strsOf vs with
    | none => rw [ez] at h; exact h.elim
    | some zs =>
      rw [ez] at h
      have ev := strsOf_map ez
      subst ev
      obtain ⟨its, r, p, hz⟩ := I.list hs
      obtain ⟨lz, e1, e2⟩ := vals_strs r
      subst e1
      refine SC.join p.isList e2 h.1 fun t' k' => ⟨tx (joinS l.cps.toList zs), H, I.tok _, ⟨t', ?_⟩, h.2⟩
      unfold joinS
      rw [← str_eta, ← str_eta]
  · exact h.elim
end
/-! what the library says of joins -/
theorem join_nil (zs : List Str) : joinS [] zs = (zs.map fun z => z.cps.toList).flatten := by
  unfold joinS Txt.join Builtin.Str.glued
  cases zs with
  | nil => rfl
  | cons z r =>
    show ((r.foldl (fun acc p => acc ++ #[] ++ p.cps) z.cps)).toList = _
    have : ∀ (acc : Array Nat), (r.foldl (fun acc p => acc ++ #[] ++ p.cps) acc).toList = acc.toList ++ (r.map fun z => z.cps.toList).flatten := by
      induction r with
      | nil => intro acc; simp
      | cons y r ih => intro acc; rw [List.foldl_cons, ih]; simp
    rw [this]
    simp
end L2

namespace L2
open PySem PySem.Spec PyProof.Rows

/-! ### own defs and constants, by their global names -/
/-- the def called x keeps the promise sp, within k calls -/
def Gd (P : Program) (w : World) (K : PySem.W.Frag) (mg : Str → Option Value) (base : Heap) (CX : CXT) (k : Nat) (x : Str) (ps : List Str) (sp : Sp) : Prop :=
  ∃ f fd, FnOk P w K mg base CX k f fd ps sp ∧ mg x = some (.ref f) ∧ PySem.W.keepIn K (.ref f) = true ∧ Binds K fd ps []
/-- the constant called x is v -/
def Gc (mg : Str → Option Value) (x : Str) (v : V) : Prop := ∃ u, mg x = some u ∧ RelV v u
/-- x is the built-in -/
abbrev Gb (mg : Str → Option Value) (x : Str) : Prop := mg x = none
section
variable {X : Cx} {CX : CXT} {k : Nat} {x : Str} {ps : List Str} {sp : Sp} {p pos : Pos} {e : Expr} {es : List Expr} {t : TA} {tg : Expr}
theorem pe_callG (G : Gd X.prog X.w X.K X.mg X.base CX0 k x ps sp) (hr : Room k X.A) (ha : PA X (e :: es) t) (hg : Gl X x := by rfl) (hdb : (x == ("__debug__" : Str)) = false := by decide)
    (he : starEach (e :: es) X.env = (false, eval e X.env) :: starEach es X.env := by rfl) (hpl : (backTo pos (starEach es X.env)).any (·.1) = false := by rfl) :
    PE X (.Call (.Name x p) (e :: es) [] pos) (tCall sp [] E0 t) := by
  obtain ⟨f, fd, F, hm, hk, hb⟩ := G
  exact pe_call F hr hg hm hk hb .nil pass0 ha hdb he hpl
theorem pe_callG0 (G : Gd X.prog X.w X.K X.mg X.base CX0 k x ps sp) (hr : Room k X.A) (hg : Gl X x := by rfl) (hdb : (x == ("__debug__" : Str)) = false := by decide) :
    PE X (.Call (.Name x p) [] [] pos) (tCall sp [] E0 tNil) := by
  obtain ⟨f, fd, F, hm, hk, hb⟩ := G
  exact pe_call0 F hr hg hm hk hb .nil pass0 hdb
theorem pe_gc {v : V} (h : Gc X.mg x v) (hg : Gl X x := by rfl) (hd : (x == ("__debug__" : Str)) = false := by decide) : PE X (.Name x pos) (tC v) := by
  obtain ⟨u, hm, r⟩ := h
  exact pe_glob hg hm r hd
theorem pe_ty (T : String) (hm : Gb X.mg x) (hg : Gl X x := by rfl) (hv : bootBuiltins x = some (.type T) := by rfl) (hn : x ≠ "__name__" := by decide) (hd : (x == ("__debug__" : Str)) = false := by decide) : PE X (.Name x pos) (tC (.ty T)) :=
  pe_bltn hg hm hv rfl hn hd
/-- a built-in function -/
theorem pe_bf {id : String} {r : List V → Hp → VK → Prop} (hc : CallR X (.builtin id) r) (hm : Gb X.mg x) (ha : PA X (e :: es) t) (hg : Gl X x := by rfl) (hv : bootBuiltins x = some (.builtin id) := by rfl) (hn : x ≠ "__name__" := by decide) (hdb : (x == ("__debug__" : Str)) = false := by decide)
    (hs : starEach (e :: es) X.env = (false, eval e X.env) :: starEach es X.env := by rfl) (hpl : (backTo pos (starEach es X.env)).any (·.1) = false := by rfl) : PE X (.Call (.Name x p) (e :: es) [] pos) (tCB r t) :=
  pe_callB hc hg hm hv ha hn hdb hs hpl
/-- a method of texts -/
theorem pe_sm {o : Expr} {to : TE} {name : Str} {id : String} {r : V → List V → Hp → VK → Prop} {apos cpos : Pos} (slot : Slot "str" name id) (hty : typeOf (.builtin id) = pure (.type "method_descriptor")) (hm : MtR X id r) (ho : PE X o to) (ha : PA X (e :: es) t)
    (h1 : attributeBase o name X.env (eval o X.env) = eval o X.env := by rfl) (h2 : ((((backTo cpos (starEach (e :: es) X.env)).all fun x => !x.fst) && (backToKw cpos (keywordEach [] X.env)).all fun x => x.fst.isSome) && decide (((e :: es).length + ([] : List Keyword).length + if ([] : List Keyword).isEmpty = true then 0 else 1) < 30)) = true := by rfl)
    (h3 : (apos.endLine == cpos.line) = true := by rfl) (h4 : starEach (e :: es) X.env = (false, eval e X.env) :: starEach es X.env := by rfl) (h5 : ((backTo cpos (starEach es X.env)).any fun x => x.fst) = false := by rfl) :
    PE X (.Call (.Attribute o name apos) (e :: es) [] cpos) (tBM X.K "str" r to t) := pe_bm PySem.F.plainAttrs_str slot hty hm ho ha h1 h2 h3 h4 h5

/-! ### what is walked, by the value -/
def iAny (K : PySem.W.Frag) (tl : TE) : TI := fun σ H R => tl σ H fun x H1 => match x with
  | .str z => R (Itp z.cps.toList.length (fun i => tx [z.cps.toList.getD i 0])) H1
  | .ref a => ((∃ xs, SqL K H1 a xs) ∧ R (Itl K a) H1) ∨ ((∃ xs, SqT K H1 a xs) ∧ R (Itt K a) H1)
  | _ => False
theorem sgn_tx (z : Str) : sgn z = fun i => tx [z.cps.toList.getD i 0] := by
  funext i
  unfold sgn
  simp [Array.getD_eq_getD_getElem?, List.getD_eq_getElem?_getD]
theorem pi_any {l : Expr} {tl : TE} (hl : PE X l tl) : PI X tg l (iAny X.K tl) := by
  intro pins s σ H R I h
  refine thn (hl pins s σ H _ I h) fun v s1 ⟨x, H1, I1, r1, q1⟩ => ?_
  have pt : ∀ (v : V), PE X l (tC v) → PE X l (tC v) := fun _ h => h
  cases x with
  | str z =>
    obtain ⟨t, rfl⟩ := r1
    refine wpAny_pyIter_strU ?_
    have q : R (Itp z.cps.size (sgn z)) H1 := by
      have e : z.cps.toList.length = z.cps.size := by simp
      rw [sgn_tx, ← e]
      exact q1
    refine ⟨s1.heap.objs.size, [s1.heap.objs.size], _, _, H1, rfl, I1.kept (t' := s1.toks) fun b o e => Heap.get?_push_of_some _ e, turn_str _ z t, ⟨Nat.zero_le _, ⟨_, Heap.get?_push_size _ rfl, rfl, rfl⟩⟩, fun b hb => ?_, q⟩
    have e : b = s1.heap.objs.size := by simpa using hb
    subst e
    exact I1.fpOk (Nat.le_refl _) (I1.hok.fresh (Nat.le_refl _))
  | ref a =>
    cases r1
    rcases q1 with ⟨⟨xs, hq⟩, q⟩ | ⟨⟨xs, hq⟩, q⟩
    · obtain ⟨its, rv, p, hz⟩ := I1.list hq
      refine wpAny_pyIter_list p.isList ?_
      refine ⟨s1.heap.objs.size, [s1.heap.objs.size], _, _, H1, rfl, I1.kept (t' := s1.toks) fun b o e => Heap.get?_push_of_some _ e, turn_list a _, ⟨_, Heap.get?_push_size _ rfl, rfl, rfl⟩, fun b hb => ?_, q⟩
      have e : b = s1.heap.objs.size := by simpa using hb
      subst e
      exact I1.fpOk (Nat.le_refl _) (I1.hok.fresh (Nat.le_refl _))
    · obtain ⟨its, rv, p, hz⟩ := I1.tuple hq
      refine wpAny_pyIter_tuple (show s1.heap.IsTuple a its.toArray from p) ?_
      refine ⟨s1.heap.objs.size, [s1.heap.objs.size], _, _, H1, rfl, I1.kept (t' := s1.toks) fun b o e => Heap.get?_push_of_some _ e, turn_tuple a _, ⟨_, Heap.get?_push_size _ rfl, rfl, rfl⟩, fun b hb => ?_, q⟩
      have e : b = s1.heap.objs.size := by simpa using hb
      subst e
      exact I1.fpOk (Nat.le_refl _) (I1.hok.fresh (Nat.le_refl _))
  | _ => exact q1.elim
/-- range(n), range(a, b) -/
def mRng1 (ta : TA) : TI := fun σ H R => ta σ H fun vs H1 => match vs with | [.int j] => -(2 ^ 62) ≤ j ∧ j < 2 ^ 62 ∧ R (Itr 0 j.toNat) H1 | _ => False
def mRng2 (ta : TA) : TI := fun σ H R => ta σ H fun vs H1 => match vs with | [.int i, .int j] => (-(2 ^ 62) ≤ i ∧ i < 2 ^ 62 ∧ -(2 ^ 62) ≤ j ∧ j < 2 ^ 62) ∧ R (Itr i (j - i).toNat) H1 | _ => False
theorem PI.imp {iter : Expr} {wi wi' : TI} (h : PI X tg iter wi) (hi : ∀ σ H R, wi' σ H R → wi σ H R) : PI X tg iter wi' := fun pins s σ H R I q => h pins s σ H R I (hi σ H R q)
end
/-- readings are monotone: what a transformer over arguments asks -/
def MonoA (t : TA) : Prop := ∀ σ H (Q Q' : List V → Hp → Prop), (∀ vs H1, Q vs H1 → Q' vs H1) → t σ H Q → t σ H Q'
section
variable {X : Cx} {tg : Expr}
theorem pi_rngM1 {a : Expr} {ta : TA} {p pos : Pos} (hm : Gb X.mg "range") (ha : PA X [a] ta) (hg : Gl X "range" := by rfl) (hs : starEach [a] X.env = [(false, eval a X.env)] := by rfl) : PI X tg (.Call (.Name "range" p) [a] [] pos) (mRng1 ta) := by
  intro pins s σ H R I h
  refine Call_ (ld_blt I hg hm boot_range (PyProof.Rows.callWith_type1 (thn (ha pos pins s σ H _ I h) fun us s1 ⟨vs, H1, I1, r1, q1⟩ => ?_) hs rfl))
  dsimp only at q1
  split at q1
  · obtain ⟨q2, q3, q⟩ := q1
    cases r1 with
    | cons r rr =>
      cases rr
      obtain ⟨t, rfl⟩ := r
      exact call_range_1 (range_it I1 (by omega) (by omega) q2 q3 (by simpa using q))
  · exact q1.elim
theorem pi_rngM2 {a b : Expr} {ta : TA} {p pos : Pos} (hm : Gb X.mg "range") (ha : PA X [a, b] ta) (hg : Gl X "range" := by rfl) (hs : starEach [a, b] X.env = [(false, eval a X.env), (false, eval b X.env)] := by rfl) (hs2 : starEach [b] X.env = [(false, eval b X.env)] := by rfl) :
    PI X tg (.Call (.Name "range" p) [a, b] [] pos) (mRng2 ta) := by
  intro pins s σ H R I h
  refine Call_ (ld_blt I hg hm boot_range (PyProof.Rows.callWith_type1 (thn (ha pos pins s σ H _ I h) fun us s1 ⟨vs, H1, I1, r1, q1⟩ => ?_) (by rw [hs, hs2]) (by rw [hs2]; rfl)))
  dsimp only at q1
  split at q1
  · obtain ⟨⟨q1, q2, q3, q4⟩, q⟩ := q1
    cases r1 with
    | cons r rr =>
      cases rr with
      | cons r' rr =>
        cases rr
        obtain ⟨t, rfl⟩ := r
        obtain ⟨t', rfl⟩ := r'
        exact call_range_2 (range_it I1 q1 q2 q3 q4 q)
  · exact q1.elim
variable {elts : List Expr} {kk : Nat} {tpos : Pos}
def iEnum (K : PySem.W.Frag) (ta : TA) : TI := fun σ H R => ta σ H fun vs H1 => match vs with
  | [.str z] => R (Ites z.cps.toList.length (fun i => tx [z.cps.toList.getD i 0])) H1
  | [.ref a] => (∃ xs, SqL K H1 a xs) ∧ R (Ite K a) H1
  | _ => False
theorem pi_enum {a : Expr} {ta : TA} {p pos : Pos} (hm : Gb X.mg "enumerate") (ha : PA X [a] ta) (hg : Gl X "enumerate" := by rfl) (hs : starEach [a] X.env = [(false, eval a X.env)] := by rfl) :
    PI X (.Tuple elts kk tpos) (.Call (.Name "enumerate" p) [a] [] pos) (iEnum X.K ta) := by
  intro pins s σ H R I h
  refine Call_ (ld_blt I hg hm (u := .type "enumerate") (by rfl) (PyProof.Rows.callWith_type1 (thn (ha pos pins s σ H _ I h) fun us s1 ⟨vs, H1, I1, r1, q1⟩ => ?_) hs rfl))
  dsimp only at q1
  split at q1
  · rename_i z
    cases r1 with
    | cons r rr =>
      cases rr
      obtain ⟨t, rfl⟩ := r
      refine call_enumerate_str fun h' he hit hsz hk => ?_
      refine wpAny_pyIter_enum (s := { s1 with heap := h' }) he ?_
      have I2 : Inv X pins σ H1 { s1 with heap := h' } := I1.kept (t' := s1.toks) hk
      have q : R (Ites z.cps.size (sgn z)) H1 := by
        have e : z.cps.toList.length = z.cps.size := by simp
        rw [sgn_tx, ← e]
        exact q1
      refine ⟨s1.heap.objs.size + 1, [s1.heap.objs.size + 1, s1.heap.objs.size], _, _, H1, rfl, I2, turn_enumS _ _ z t (by simp), ⟨⟨_, he⟩, Nat.zero_le _, hit⟩, fun b hb => ?_, q⟩
      have hb' : s1.heap.objs.size ≤ b := by
        rcases List.mem_cons.mp hb with rfl | hb
        · exact Nat.le_succ _
        · have e : b = s1.heap.objs.size := by simpa using hb
          subst e; exact Nat.le_refl _
      exact I1.fpOk hb' (I1.hok.fresh hb')
  · rename_i l
    obtain ⟨⟨xs, hq⟩, q⟩ := q1
    cases r1 with
    | cons r rr =>
      cases rr
      cases r
      obtain ⟨its, rv, p, hz⟩ := I1.list hq
      refine call_enumerate_list p.isList fun h' he hit hsz hk => ?_
      refine wpAny_pyIter_enum (s := { s1 with heap := h' }) he ?_
      have I2 : Inv X pins σ H1 { s1 with heap := h' } := I1.kept (t' := s1.toks) hk
      refine ⟨s1.heap.objs.size + 1, [s1.heap.objs.size + 1, s1.heap.objs.size], _, _, H1, rfl, I2, turn_enumL _ _ l (by simp), ⟨⟨_, he⟩, hit⟩, fun b hb => ?_, q⟩
      have hb' : s1.heap.objs.size ≤ b := by
        rcases List.mem_cons.mp hb with rfl | hb
        · exact Nat.le_succ _
        · have e : b = s1.heap.objs.size := by simpa using hb
          subst e; exact Nat.le_refl _
      exact I1.fpOk hb' (I1.hok.fresh hb')
  · exact q1.elim
/-- (a, b, ..) = a tuple, matched -/
def gNilM : TGs := fun vs σ H Q => match vs with | [] => Q σ H | _ => False
def gConsM (t : TG) (u : TGs) : TGs := fun vs σ H Q => match vs with | v :: r => t v σ H fun σ' H' => u r σ' H' Q | [] => False
theorem pgs_nilM : PGs X [] gNilM := by
  intro pins s σ H vs us Q I r h
  cases vs with
  | nil => exact pgs_nil pins s σ H [] us Q I r ⟨rfl, h⟩
  | cons _ _ => exact h.elim
theorem pgs_consM {e : Expr} {es : List Expr} {t : TG} {u : TGs} (h1 : PG X e t) (h2 : PGs X es u)
    (hs : (assignEach (e :: es) X.env).map (·.2) = assign e X.env :: (assignEach es X.env).map (·.2) := by rfl) : PGs X (e :: es) (gConsM t u) := by
  intro pins s σ H vs us Q I r h
  cases vs with
  | nil => exact h.elim
  | cons v vr => exact pgs_cons h1 h2 hs pins s σ H _ us Q I r ⟨v, vr, rfl, h⟩
def gTupM (K : PySem.W.Frag) (n : Nat) (t : TGs) : TG := fun v σ H Q => match v with | .ref a => ∃ xs, SqT K H a xs ∧ xs.length = n ∧ t xs σ H Q | _ => False
theorem pg_tupM {es : List Expr} {k : Nat} {t : TGs} {n : Nat} {pos : Pos} (hc : X.calm = true) (h : PGs X es t)
    (hn : (assignEach es X.env).length = n := by rfl) (hst : (assignEach es X.env).findIdx? (·.1) = none := by rfl) : PG X (.Tuple es k pos) (gTupM X.K n t) := by
  intro pins s σ H v u Q I r hw
  cases v with
  | ref a =>
    obtain ⟨xs, h1, h2, h3⟩ := hw
    exact pg_tup hc h hn hst pins s σ H _ u Q I r ⟨a, xs, rfl, h1, h2, h3⟩
  | _ => exact hw.elim
/-- -i -/
def mNeg (ta : TE) : TE := fun σ H Q => ta σ H fun x H1 => match x with | .int i => Q (.int (-i)) H1 | _ => False
theorem pe_neg {a : Expr} {ta : TE} {pos : Pos} (ha : PE X a ta) : PE X (.UnaryOp .USub a pos) (mNeg ta) := by
  intro pins s σ H Q I h
  refine UnaryOp_ (thn (ha pins s σ H _ I h) fun v s1 ⟨x, H1, I1, r1, q1⟩ => ?_)
  cases x with
  | int i => exact un_neg pins s1 σ H1 _ v Q I1 r1 ⟨i, rfl, q1⟩
  | _ => exact q1.elim
end
/-! ### heaps -/
theorem same_new {H : Hp} {p : Addr} (h : H p = none) (o : HO) : Same H (upd H p o) := fun b u q => by rw [upd_ne (ne_of_none q h)]; exact q
theorem Same.tup {K : PySem.W.Frag} {H H' : Hp} {a : Addr} {xs : List V} (e : Same H H') (h : SqT K H a xs) : SqT K H' a xs := by
  rcases h with (h | ⟨o, h⟩) | h
  · exact .inl (.inl (e _ _ h))
  · exact .inl (.inr ⟨o, e _ _ h⟩)
  · exact .inr h
end L2

namespace L2
open PySem PySem.Spec PyProof.Rows

/-! ### for readings by hand -/
/-- a statement by what holds behind it -/
theorem seq_cut {t C : TS} {D : Ends} {σ : St} {H : Hp} (P : St → Hp → Prop) (h : ∀ nx : St → Hp → Prop, (∀ σ' H', P σ' H' → nx σ' H') → t { D with nx := nx } σ H) (rest : ∀ σ' H', P σ' H' → C D σ' H') : tSeq t C D σ H := h (C D) rest
theorem unpack2 {K : PySem.W.Frag} {i j : Nat} {x y : V} {σ : St} {H : Hp} {p : Addr} {Q : St → Hp → Prop} (h : SqT K H p [x, y]) (q : Q ((σ.set i (some x)).set j (some y)) H) : gTupM K 2 (gConsM (gName i) (gConsM (gName j) gNilM)) (.ref p) σ H Q := ⟨_, h, rfl, q⟩
/-- both ways of a test -/
theorem ifS_any {c : TT} {t u : TS} {D : Ends} {σ : St} {H : Hp} (hc : ∀ Q : Bool → Hp → Prop, (∀ b, Q b H) → c σ H Q) (ht : t D σ H) (hu : u D σ H) : mIfS c t u D σ H := hc _ fun _ => ⟨fun _ => ht, fun _ => hu⟩
/-- a test that comes to p -/
theorem ifS_is {c : TT} {t u : TS} {D : Ends} {σ : St} {H : Hp} (p : Bool) (hc : ∀ Q : Bool → Hp → Prop, Q p H → c σ H Q) (ht : p = true → t D σ H) (hu : p = false → u D σ H) : mIfS c t u D σ H := hc _ ⟨ht, hu⟩
theorem atI_lt {α : Type} {xs : List α} {k : Int} (h0 : 0 ≤ k) (h1 : k < (xs.length : Int)) : ∃ x, xs[k.toNat]? = some x ∧ atI xs k = some x := by
  have hk : k.toNat < xs.length := by omega
  have e : xs[k.toNat]? = some xs[k.toNat] := List.getElem?_eq_getElem hk
  refine ⟨_, e, ?_⟩
  have q := atI_nat e
  rwa [Int.toNat_of_nonneg h0] at q
theorem atI_map_lt {α β : Type} {f : α → β} {xs : List α} {k : Int} (h0 : 0 ≤ k) (h1 : k < (xs.length : Int)) : ∃ x, xs[k.toNat]? = some x ∧ atI (xs.map f) k = some (f x) := by
  obtain ⟨y, e1, e2⟩ := atI_lt (xs := xs.map f) h0 (by simpa using h1)
  rw [List.getElem?_map] at e1
  cases e : xs[k.toNat]? with
  | none => rw [e] at e1; cases e1
  | some x => rw [e] at e1; cases e1; exact ⟨x, rfl, e2⟩
theorem matchAt {α : Type} {xs : List α} {k : Int} {v : α} {A : α → Prop} (e : atI xs k = some v) (h : A v) : (match atI xs k with | some v => A v | none => False) := by rw [e]; exact h
theorem bt {a b : Int} (h : a ≤ b) : decide (a ≤ b) = true := decide_eq_true h
theorem small_n {n : Nat} (h : n ≤ 100000) : n ≤ sizeLine := by rw [sizeLine_eq]; omega
/-- a slice of a text, the bounds within -/
theorem cutL_in {l : List Nat} {i j : Int} (h0 : 0 ≤ i) (h1 : i ≤ j) (h2 : j ≤ l.length) : cutL l (some i) (some j) = (l.drop i.toNat).take (j - i).toNat := by
  unfold cutL
  have e1 : HT.sIx l.length 0 (some i) = i.toNat := by
    have := HT.sIx_nat l.length 0 i.toNat
    rw [Int.toNat_of_nonneg h0] at this
    rw [this]; omega
  have e2 : HT.sIx l.length l.length (some j) = j.toNat := by
    have := HT.sIx_nat l.length l.length j.toNat
    rw [Int.toNat_of_nonneg (by omega)] at this
    rw [this]; omega
  rw [e1, e2]
  congr 1
  omega
/-- a slice from the beginning of a list of ints -/
theorem cutV_to (xs : List V) (n : Nat) : cutV xs none (some (n : Int)) = xs.take n := by
  unfold cutV
  rw [HT.sIx_none, HT.sIx_nat, List.drop_zero, Nat.sub_zero]
  by_cases h : n ≤ xs.length
  · rw [Nat.min_eq_left h]
  · rw [Nat.min_eq_right (by omega), List.take_of_length_le (Nat.le_refl _), List.take_of_length_le (by omega)]
/-- a walk over a list or the like hands the same list -/
theorem SqL.track {K : PySem.W.Frag} {H : Hp} {a : Addr} {xs ys : List V} (h : H a = some (.lst xs)) (hk : K.lookup a = none) (q : SqL K H a ys) : xs = ys := by
  rcases q with (q | ⟨o, q⟩) | ⟨o, its, n, q, _⟩
  · rw [h] at q; cases q; rfl
  · rw [h] at q; cases q
  · rw [hk] at q; cases q

/-- a comprehension over known items, its elements plain values, no test -/
theorem comp_map {n : Nat} {f : Nat → V} {g : TG} {te : TE} {σ0 : St} {H1 : Hp} {Q : VK} (out : Nat → V) (Pσ : St → Prop) (h0 : Pσ σ0) (hn : n ≤ sizeLine)
    (hstep : ∀ i σ H (k : V → St → Hp → Prop), i < n → Pσ σ → (∀ σ2, Pσ σ2 → k (out i) σ2 H) → g (f i) σ H fun σ2 H2 => te σ2 H2 fun v H4 => k v σ2 H4)
    (hq : ∀ D, H1 D = none → Q (.ref D) (upd H1 D (.lst ((List.range n).map out)))) : tCompR (Itp n f) g tTrue te σ0 H1 Q := by
  intro D hD
  refine ⟨fun i m ys σ H => m = n - i ∧ i ≤ n ∧ ys = (List.range i).map out ∧ Pσ σ ∧ H = upd H1 D (.lst ys), ⟨n, rfl, Nat.zero_le _, rfl, h0, rfl⟩, ?_⟩
  rintro i m ys σ H ⟨rfl, hi, rfl, hp, rfl⟩
  by_cases hlt : i < n
  · refine .inr ⟨hlt, fun ys' σ' H' => ys' = (List.range (i + 1)).map out ∧ Pσ σ' ∧ H' = upd H1 D (.lst ys'), fun ys' σ' H' ⟨e1, e2, e3⟩ => ⟨n - (i + 1), by omega, rfl, hlt, e1, e2, e3⟩, fun x H' y => ?_⟩
    obtain ⟨rfl, rfl⟩ := y
    refine hstep i σ _ (fun v σ2 H4 => H4 D = some (.lst ((List.range i).map out)) ∧ ((List.range i).map out).length < sizeLine ∧ ((List.range i).map out ++ [v] = (List.range (i + 1)).map out ∧ Pσ σ2 ∧ upd H4 D (.lst ((List.range i).map out ++ [v])) = upd H1 D (.lst ((List.range i).map out ++ [v])))) hlt hp fun σ2 h2 => ?_
    refine ⟨upd_same, by rw [List.length_map, List.length_range]; omega, ?_, h2, upd_upd⟩
    rw [List.range_succ, List.map_append]
    rfl
  · have e : i = n := by omega
    subst e
    exact .inl ⟨Nat.le_refl _, hq D hD⟩
theorem joinOk_small {zs : List Str} {sep : Str} (h : zs.length * (sep.length + 1) ≤ 100000) (h1 : ∀ z ∈ zs, z.length ≤ 1) : JoinOk sep zs = true := by
  unfold JoinOk
  have key : ∀ (l : List Str) (acc : Nat), (∀ z ∈ l, z.length ≤ 1) → l.foldl (fun x1 x2 => x1 + x2.length + sep.length) acc ≤ acc + l.length * (sep.length + 1) := by
    intro l
    induction l with
    | nil => intro acc _; simp
    | cons z r ih =>
      intro acc hz
      rw [List.foldl_cons]
      have h2 := ih (acc + z.length + sep.length) fun y hy => hz y (List.mem_cons_of_mem _ hy)
      have h3 := hz z List.mem_cons_self
      rw [List.length_cons, Nat.add_mul]
      omega
  have q := key zs 0 h1
  rw [List.foldl_toArray]
  unfold Builtin.Str.tooLong
  simp only [Bool.not_eq_true', decide_eq_false_iff_not]
  have : zs.foldl (fun x1 x2 => x1 + x2.length + sep.length) 0 ≤ 100000 := by omega
  have hl : (100000 : Nat) ≤ sizeLine := by rw [sizeLine_eq]; omega
  omega
theorem flatten_ones (l : List Nat) (f : Nat → Nat) : (((List.range l.length).map fun i => (⟨#[f (l.getD i 0)]⟩ : Str)).map fun z => z.cps.toList).flatten = l.map f := by
  rw [List.map_map]
  have : ((fun z : Str => z.cps.toList) ∘ fun i => (⟨#[f (l.getD i 0)]⟩ : Str)) = fun i => [f (l.getD i 0)] := by funext i; rfl
  rw [this]
  have key : ∀ (r : List Nat) (n : Nat), n ≤ r.length → ((List.range n).map fun i => [f (r.getD i 0)]).flatten = (r.take n).map f := by
    intro r n
    induction n with
    | zero => intro _; rfl
    | succ n ih =>
      intro h
      rw [List.range_succ, List.map_append, List.flatten_append, ih (by omega), List.take_add_one, List.map_append]
      congr 1
      have hn : n < r.length := by omega
      simp [List.getD_eq_getElem?_getD, List.getElem?_eq_getElem hn]
  rw [key l l.length (Nat.le_refl _), List.take_length]
end L2

namespace L2
open PySem PySem.Spec PyProof.Rows
section
variable {X : Cx} {tg : Expr}
/-! ### range downward -/
theorem turn_rangeS {P : Program} {w : World} {K : PySem.W.Frag} {tg : Expr} (it : Addr) (lo c : Int) (n : Nat) :
    Turn P w K tg (Itp n fun i => .int (lo + i * c)) [it] it (fun i h => i ≤ n ∧ IsRangeIter h it (lo + (i : Nat) * c) ((n : Int) - (i : Nat)) c) := by
  refine turn_pure (Pw := fun i v => ∃ t, v = .int (lo + i * c) t) (fun A hA => Walks.range hA it lo c n) (fun i v _ h => h) (fun i h st => ⟨_, _, _, st, rfl, rfl, by decide⟩) (fun A i s Q E st h => wpAny_pyIter_rangeiter st h) (fun i h h' st k => k it (by simp) _ st)
theorem rangeSize_down (a b : Int) : Builtin.Range.rangeSize a b (-1) = (((a - b).toNat : Nat) : Int) := by
  unfold Builtin.Range.rangeSize
  rw [if_neg (by decide)]
  split
  · have e : (a - b - 1) / (- -1) = a - b - 1 := by
      have : (- -1 : Int) = 1 := by decide
      rw [this, Int.ediv_one]
    rw [e]; omega
  · omega
theorem small_down {a b : Int} (ha : -(2 ^ 61) ≤ a) (ha' : a < 2 ^ 61) (hb : -(2 ^ 61) ≤ b) (hb' : b < 2 ^ 61) : Builtin.Range.small a b (-1) = true := by
  unfold Builtin.Range.small
  rw [rangeSize_down]
  simp only [Builtin.Range.rangeFitsLong, Bool.and_eq_true, Bool.or_eq_true, decide_eq_true_eq, beq_iff_eq, show ¬ ((-1 : Int) > 0) by decide, if_false]
  omega
def mRng3 (ta : TA) : TI := fun σ H R => ta σ H fun vs H1 => match vs with
  | [.int i, .int j, .int c] => c = -1 ∧ (-(2 ^ 61) ≤ i ∧ i < 2 ^ 61 ∧ -(2 ^ 61) ≤ j ∧ j < 2 ^ 61) ∧ R (Itp (i - j).toNat fun k => .int (i + k * (-1))) H1
  | _ => False
theorem pi_rngM3 {a b c : Expr} {ta : TA} {p pos : Pos} (hm : Gb X.mg "range") (ha : PA X [a, b, c] ta) (hg : Gl X "range" := by rfl)
    (hs : starEach [a, b, c] X.env = (false, eval a X.env) :: starEach [b, c] X.env := by rfl) (hpl : (backTo pos (starEach [b, c] X.env)).any (·.1) = false := by rfl) :
    PI X tg (.Call (.Name "range" p) [a, b, c] [] pos) (mRng3 ta) := by
  intro pins s σ H R I h
  refine Call_ (ld_blt I hg hm boot_range (PyProof.Rows.callWith_type1 (thn (ha pos pins s σ H _ I h) fun us s1 ⟨vs, H1, I1, r1, q1⟩ => ?_) hs hpl))
  dsimp only at q1
  split at q1
  · rename_i i j c
    obtain ⟨rfl, ⟨q1, q2, q3, q4⟩, q⟩ := q1
    cases r1 with
    | cons r rr =>
      cases rr with
      | cons r' rr =>
        cases rr with
        | cons r'' rr =>
          cases rr
          obtain ⟨t, rfl⟩ := r
          obtain ⟨t', rfl⟩ := r'
          obtain ⟨t'', rfl⟩ := r''
          refine call_range_3 (by decide) ?_ (.inl (PyProof.noPylong_small (by decide)))
          refine wpAny_pyIter_range (IsRange.new ..) (small_down q1 q2 q3 q4) ?_
          have I2 : Inv X pins σ H1 { s1 with heap := s1.heap.push { cls := .type "range", data := .fields #[.int i t, .int j t', .int (-1) t''] }, toks := s1.toks } := I1.kept fun b o e => Heap.get?_push_of_some _ e
          refine ⟨(s1.heap.push { cls := .type "range", data := .fields #[.int i t, .int j t', .int (-1) t''] }).objs.size, [(s1.heap.push { cls := .type "range", data := .fields #[.int i t, .int j t', .int (-1) t''] }).objs.size], _, _, H1, rfl,
            I2.kept (t' := s1.toks) fun b o e => Heap.get?_push_of_some _ e, turn_rangeS _ i (-1) (i - j).toNat, ⟨Nat.zero_le _, ?_⟩, fun b hb => ?_, q⟩
          · have e1 : i + ((0 : Nat) : Int) * (-1) = i := by simp
            have e2 : (((i - j).toNat : Nat) : Int) - ((0 : Nat) : Int) = Builtin.Range.rangeSize i j (-1) := by rw [rangeSize_down]; simp
            rw [e1, e2]
            exact Heap.get?_push_size _ rfl
          · have e : b = (s1.heap.push { cls := .type "range", data := .fields #[.int i t, .int j t', .int (-1) t''] }).objs.size := by simpa using hb
            subst e
            exact I2.fpOk (Nat.le_refl _) (I2.hok.fresh (Nat.le_refl _))
  · exact q1.elim
/-! ### xs[i] = v -/
def mSet : TSet := fun o i v H Q => match i with
  | .int k => (match o with
    | .ref p => ∃ xs, H p = some (.lst xs) ∧ (match ixN xs.length k with | some j => Q (upd H p (.lst (xs.set j v))) | none => False)
    | _ => False)
  | _ => False
theorem set_M : PSet X mSet := by
  intro pins s σ H o i v ov iv u Q I ro ri rv h
  unfold mSet at h
  cases i with
  | int k =>
    cases o with
    | ref p =>
      obtain ⟨xs, h1, h⟩ := h
      cases e : ixN xs.length k with
      | none => rw [e] at h; exact h.elim
      | some j =>
        rw [e] at h
        exact set_list pins s σ H _ _ v ov iv u Q I ro ri rv ⟨p, xs, k, j, rfl, rfl, h1, e, h⟩
    | _ => exact h.elim
  | _ => exact h.elim
theorem ixN_lt {n : Nat} {k : Int} (h0 : 0 ≤ k) (h1 : k < n) : ixN n k = some k.toNat := by unfold ixN; rw [if_pos h0, if_pos h1]
/-! ### str(i), zfill, ljust -/
def strI (i : Int) : List Nat := (Str.ofString (toString i)).cps.toList
def mStr : List V → Hp → VK → Prop := fun xs H Q => match xs with | [.int i] => i.natAbs.log2 < 1920 ∧ Q (tx (strI i)) H | _ => False
theorem call_strM : CallR X (.type "str") mStr := by
  intro pins s σ H xs us Q I r h
  unfold mStr at h
  split at h
  · rename_i i
    refine call_str_int pins s σ H _ us Q I r ⟨i, rfl, h.1, ?_⟩
    have e : tx (strI i) = V.str (Str.ofString (toString i)) := by unfold strI tx; rw [← str_eta]
    rw [← e]
    exact h.2
  · exact h.elim
def mZfill : V → List V → Hp → VK → Prop := fun x xs H Q => match x, xs with | .str l, [.int i] => PadOk i = true ∧ Q (tx (Txt.zfill l i).cps.toList) H | _, _ => False
theorem mt_zfill : MtR X "str.zfill" mZfill := by
  intro pins s σ H x xs v us Q I rx rv h
  unfold mZfill at h
  split at h
  · rename_i l i
    obtain ⟨k, rfl⟩ := rx
    obtain ⟨u, rfl, ru⟩ := rv.one
    obtain ⟨k', rfl⟩ := ru
    exact SC.zfill h.1 fun t' k => ⟨tx (Txt.zfill l i).cps.toList, H, I.tok _, ⟨t', by rw [← str_eta]⟩, h.2⟩
  · exact h.elim
def mLjust : V → List V → Hp → VK → Prop := fun x xs H Q => match x, xs with | .str l, [.int i] => PadOk i = true ∧ Q (tx (Txt.ljust l i).cps.toList) H | _, _ => False
theorem mt_ljust : MtR X "str.ljust" mLjust := by
  intro pins s σ H x xs v us Q I rx rv h
  unfold mLjust at h
  split at h
  · rename_i l i
    obtain ⟨k, rfl⟩ := rx
    obtain ⟨u, rfl, ru⟩ := rv.one
    obtain ⟨k', rfl⟩ := ru
    exact SC.ljust h.1 fun t' k => ⟨tx (Txt.ljust l i).cps.toList, H, I.tok _, ⟨t', by rw [← str_eta]⟩, h.2⟩
  · exact h.elim
end
section
variable {X : Cx} {x : Str} {p pos : Pos} {e : Expr} {es : List Expr} {t : TA}
theorem pe_tf (T : String) {r : List V → Hp → VK → Prop} (hc : CallR X (.type T) r) (hm : Gb X.mg x) (ha : PA X (e :: es) t) (hg : Gl X x := by rfl) (hv : bootBuiltins x = some (.type T) := by rfl) (hn : x ≠ "__name__" := by decide) (hdb : (x == ("__debug__" : Str)) = false := by decide)
    (hs : starEach (e :: es) X.env = (false, eval e X.env) :: starEach es X.env := by rfl) (hpl : (backTo pos (starEach es X.env)).any (·.1) = false := by rfl) : PE X (.Call (.Name x p) (e :: es) [] pos) (tCB r t) :=
  pe_callTy hc hg hm hv ha hn hdb hs hpl
end
theorem padOk_small {i : Int} (h0 : -1000 ≤ i) (h1 : i ≤ 1000) : PadOk i = true := by
  unfold PadOk fitsSsize Builtin.Str.tooLong
  have h3 : (100000 : Nat) ≤ sizeLine := by rw [sizeLine_eq]; omega
  simp only [Bool.and_eq_true, Bool.not_eq_true', decide_eq_true_eq, decide_eq_false_iff_not, Bool.or_eq_false_iff]
  omega
/-! ### numbers as digits -/
/-- the last w digits of n, as codes -/
def digs : Nat → Nat → List Nat
  | 0, _ => []
  | w + 1, n => digs w (n / 10) ++ [48 + n % 10]
theorem digs_length : ∀ (w n : Nat), (digs w n).length = w
  | 0, _ => rfl
  | w + 1, n => by rw [digs, List.length_append, digs_length w]; rfl
theorem digs_zero : ∀ (w : Nat), digs w 0 = List.replicate w 48
  | 0 => rfl
  | w + 1 => by rw [digs, digs_zero w, List.replicate_succ']
theorem digs_mod : ∀ (w n : Nat), digs w (n % 10 ^ w) = digs w n
  | 0, _ => rfl
  | w + 1, n => by
    rw [digs, digs]
    have e1 : n % 10 ^ (w + 1) % 10 = n % 10 := by
      rw [Nat.pow_succ, Nat.mod_mul_left_mod]
    have e2 : n % 10 ^ (w + 1) / 10 = n / 10 % 10 ^ w := by
      rw [Nat.pow_succ, Nat.mod_mul_left_div_self]
    rw [e1, e2, digs_mod w]
end L2

namespace L2
open PySem PySem.Spec PyProof.Rows
/-! ### the text of a number, filled with noughts -/
def dg (m : Nat) : List Nat := (Nat.toDigits 10 m).map Char.toNat
theorem strI_nat (m : Nat) : strI (m : Int) = dg m := PySem.W.KIN.signs_num m
theorem digit_code : ∀ d : Nat, d < 10 → (Nat.digitChar d).toNat = 48 + d := by decide
theorem dg_lt {m : Nat} (h : m < 10) : dg m = [48 + m] := by
  unfold dg
  rw [Nat.toDigits_of_lt_base h]
  show [(Nat.digitChar m).toNat] = _
  rw [digit_code m h]
theorem dg_ge {m : Nat} (h : ¬ m < 10) : dg m = dg (m / 10) ++ [48 + m % 10] := by
  unfold dg
  have hm : m % 10 < 10 := Nat.mod_lt m (by decide)
  have t : Nat.toDigits 10 (m / 10) ++ Nat.toDigits 10 (m % 10) = Nat.toDigits 10 (10 * (m / 10) + m % 10) := Nat.toDigits_append_toDigits (by decide) (by omega) hm
  rw [Nat.div_add_mod] at t
  rw [← t, List.map_append, Nat.toDigits_of_lt_base hm]
  show _ ++ [(Nat.digitChar (m % 10)).toNat] = _
  rw [digit_code _ hm]
theorem dg_pad : ∀ (w m : Nat), m < 10 ^ (w + 1) → (dg m).length ≤ w + 1 ∧ List.replicate (w + 1 - (dg m).length) 48 ++ dg m = digs (w + 1) m
  | w, m, h => by
    by_cases hm : m < 10
    · rw [dg_lt hm]
      refine ⟨by show 1 ≤ w + 1; omega, ?_⟩
      rw [digs, show m / 10 = 0 by omega, digs_zero, show m % 10 = m by omega]
      rfl
    · cases w with
      | zero => exact absurd h (by simpa using hm)
      | succ w =>
        have hd : m / 10 < 10 ^ (w + 1) := by
          rw [Nat.div_lt_iff_lt_mul (by decide)]
          rw [Nat.pow_succ] at h
          exact h
        obtain ⟨h1, h2⟩ := dg_pad w (m / 10) hd
        rw [dg_ge hm]
        refine ⟨by rw [List.length_append]; show _ + 1 ≤ _; omega, ?_⟩
        have e : digs (w + 1 + 1) m = digs (w + 1) (m / 10) ++ [48 + m % 10] := rfl
        rw [e, ← h2, List.append_assoc, List.length_append]
        have e2 : w + 1 + 1 - ((dg (m / 10)).length + [48 + m % 10].length) = w + 1 - (dg (m / 10)).length := by
          show w + 1 + 1 - ((dg (m / 10)).length + 1) = _
          omega
        rw [e2]
theorem dg_head (m : Nat) : ∃ c r, dg m = c :: r ∧ 48 ≤ c := by
  induction m using Nat.strongRecOn with
  | _ m ih =>
    by_cases h : m < 10
    · exact ⟨48 + m, [], dg_lt h, by omega⟩
    · obtain ⟨c, r, e, hc⟩ := ih (m / 10) (by omega)
      exact ⟨c, r ++ [48 + m % 10], by rw [dg_ge h, e]; rfl, hc⟩
theorem zfill_digs {w m : Nat} (hw : 1 ≤ w) (h : m < 10 ^ w) : (Txt.zfill ⟨(dg m).toArray⟩ (w : Int)).cps.toList = digs w m := by
  obtain ⟨w', rfl⟩ : ∃ w', w = w' + 1 := ⟨w - 1, by omega⟩
  obtain ⟨h1, h2⟩ := dg_pad w' m h
  have hl : (⟨(dg m).toArray⟩ : Str).length = (dg m).length := by simp [Str.length]
  unfold Txt.zfill
  rw [hl]
  by_cases he : ((w' + 1 : Nat) : Int) ≤ ((dg m).length : Int)
  · rw [if_pos he]
    have e : (dg m).length = w' + 1 := by omega
    rw [← h2, e, Nat.sub_self]
    simp
  · rw [if_neg he]
    obtain ⟨c, r, ec, hc⟩ := dg_head m
    have e : zfilled ⟨(dg m).toArray⟩ ((((w' + 1 : Nat) : Int)).toNat - (dg m).length) = Builtin.Str.padded ⟨(dg m).toArray⟩ ((((w' + 1 : Nat) : Int)).toNat - (dg m).length) 0 48 := by
      unfold zfilled
      have e0 : ((⟨(dg m).toArray⟩ : Str).cps)[0]? = some c := by rw [ec]; simp
      rw [e0]
      split
      · rename_i h'; cases h'; omega
      · rename_i h'; cases h'; omega
      · rfl
    rw [e]
    unfold Builtin.Str.padded
    rw [← h2]
    simp
/-- the digits' front -/
theorem digs_front : ∀ (j n : Nat), digs (j + 1) n = (48 + n / 10 ^ j % 10) :: digs j n
  | 0, n => by simp [digs]
  | j + 1, n => by
    have e : digs (j + 1 + 1) n = digs (j + 1) (n / 10) ++ [48 + n % 10] := rfl
    rw [e, digs_front j (n / 10), Nat.div_div_eq_div_mul]
    have e2 : 10 * 10 ^ j = 10 ^ (j + 1) := by rw [Nat.pow_succ, Nat.mul_comm]
    rw [e2]
    rfl
theorem digs_digit : ∀ (w n : Nat), ∀ c ∈ digs w n, 48 ≤ c ∧ c ≤ 57
  | 0, _, _, h => by cases h
  | w + 1, n, c, h => by
    rw [digs] at h
    rcases List.mem_append.mp h with h | h
    · exact digs_digit w _ c h
    · have e : c = 48 + n % 10 := by simpa using h
      omega
/-- texts of one sign each -/
theorem strs_ones (l : List Nat) : strsOf (l.map fun c => tx [c]) = some (l.map fun c => (⟨#[c]⟩ : Str)) := by
  have := strsOf_of (l.map fun c => (⟨#[c]⟩ : Str))
  rw [List.map_map] at this
  exact this
theorem join_ones (l : List Nat) : joinS [] (l.map fun c => (⟨#[c]⟩ : Str)) = l := by
  rw [L2.join_nil, List.map_map]
  induction l with
  | nil => rfl
  | cons c r ih => rw [List.map_cons, List.flatten_cons, ih]; rfl
theorem range_getD (l : List Nat) : (List.range l.length).map (fun i => tx [l.getD i 0]) = l.map fun c => tx [c] := by
  apply List.ext_getElem?
  intro i
  rw [List.getElem?_map, List.getElem?_map]
  by_cases h : i < l.length
  · rw [List.getElem?_range h, List.getElem?_eq_getElem h]
    simp [List.getD_eq_getElem?_getD, List.getElem?_eq_getElem h]
  · rw [List.getElem?_eq_none (by simpa using h), List.getElem?_eq_none (by omega)]
    rfl
theorem set_take {l : List Nat} {k : Nat} (h : k < l.length) (x : Nat) (r : List Nat) : (l.take (k + 1) ++ r).set k x = l.take k ++ x :: r := by
  have e : l.take (k + 1) = l.take k ++ [l[k]] := by rw [List.take_add_one, List.getElem?_eq_getElem h]; rfl
  rw [e, List.append_assoc, List.set_append_right _ _ (by rw [List.length_take]; omega)]
  have e2 : k - (l.take k).length = 0 := by rw [List.length_take]; omega
  rw [e2]
  rfl
end L2

namespace L2
open PySem PySem.Spec PyProof.Rows
/-! ### what the shop's numbers and signs are -/
def mixed (c k : Int) : Int := (c % 2147483647 + 7 * k * k + 11 * k + 1) * 48271 % 2147483647
def fig (c : Nat) : Nat := if 48 ≤ c ∧ c ≤ 57 then c else 48
def numL (l : List Nat) : Int := l.foldl (fun (v : Int) (c : Nat) => v * 10 + ((c : Int) - 48)) 0
theorem mixed_nn (c k : Int) : 0 ≤ mixed c k ∧ mixed c k < 2147483647 := by
  unfold mixed; omega
theorem two_small {x y : V} : [x, y].length ≤ sizeLine := (show 2 ≤ sizeLine by decide)
theorem digit_find {c : Nat} (h : 48 ≤ c ∧ c ≤ 57) : findS [48, 49, 50, 51, 52, 53, 54, 55, 56, 57] [c] = (c : Int) - 48 := by
  rw [find_one]
  obtain ⟨h1, h2⟩ := h
  have : c = 48 ∨ c = 49 ∨ c = 50 ∨ c = 51 ∨ c = 52 ∨ c = 53 ∨ c = 54 ∨ c = 55 ∨ c = 56 ∨ c = 57 := by omega
  rcases this with rfl | rfl | rfl | rfl | rfl | rfl | rfl | rfl | rfl | rfl <;> rfl
theorem nodigit_find {c : Nat} (h : ¬ (48 ≤ c ∧ c ≤ 57)) : findS [48, 49, 50, 51, 52, 53, 54, 55, 56, 57] [c] = -1 := by
  rw [find_one]
  have : List.findIdx? (· == c) [48, 49, 50, 51, 52, 53, 54, 55, 56, 57] = none := by
    rw [List.findIdx?_eq_none_iff]
    intro x hx
    simp only [List.mem_cons, List.not_mem_nil, or_false] at hx
    simp only [beq_eq_false_iff_ne, ne_eq]
    omega
  rw [this]
theorem max_find (c : Nat) : max 0 (findS [48, 49, 50, 51, 52, 53, 54, 55, 56, 57] [c]) = (fig c : Int) - 48 := by
  unfold fig
  by_cases h : 48 ≤ c ∧ c ≤ 57
  · rw [digit_find h, if_pos h]; omega
  · rw [nodigit_find h, if_neg h]; rfl
theorem numL_snoc (l : List Nat) (c : Nat) : numL (l ++ [c]) = numL l * 10 + ((c : Int) - 48) := by
  unfold numL; rw [List.foldl_append]; rfl
theorem take_snoc {l : List Nat} {i : Nat} (h : i < l.length) : l.take (i + 1) = l.take i ++ [l.getD i 0] := by
  rw [List.take_add_one, List.getElem?_eq_getElem h]
  simp [List.getD_eq_getElem?_getD, List.getElem?_eq_getElem h]
theorem in_digits (c : Nat) : inS [c] [48, 49, 50, 51, 52, 53, 54, 55, 56, 57] = decide (48 ≤ c ∧ c ≤ 57) := by
  show decide (c ∈ [48, 49, 50, 51, 52, 53, 54, 55, 56, 57]) = _
  rw [decide_eq_decide]
  simp only [List.mem_cons, List.not_mem_nil, or_false]
  omega
theorem fig_digit (c : Nat) : 48 ≤ fig c ∧ fig c ≤ 57 := by unfold fig; split <;> omega
theorem asg {te : TE} {g : TG} {D : Ends} {σ : St} {H : Hp} (h : te σ H fun x H1 => g x σ H1 D.nx) : tAsg te g D σ H := h
theorem comp_str {K : PySem.W.Frag} {tl te : TE} {lv : List Str} {fr : List (Str × Nat)} {g : TG} {tt : TT} {σ : St} {H : Hp} {Q : VK} (l : List Nat) (hl : ∀ R : VK, R (tx l) H → tl σ H R)
    (h : tCompR (Itp l.length (fun i => tx [l.getD i 0])) g tt te (cS lv fr σ) H Q) : tComp lv fr (iAny K tl) g tt te σ H Q := hl _ h
end L2

namespace L2
open PySem PySem.Spec PyProof.Rows

/-! ### exceptions of own classes: how one lies behind a call -/
/-- at x stands an object of the class C -/
def XAt (x C : Addr) (h : Heap) : Prop := ∃ o, h.get? x = some o ∧ o.cls = .ref C
abbrev XO (x C : Addr) : HO := .ext (XAt x C)
/-- the exception x of the class C, its traceback T: neither is tracked, both are younger than hb -/
structure FlyX (x T C : Addr) (H : Hp) (hb h : Heap) : Prop where
  obj : ∃ oe vs a0 oT ts, h.get? x = some oe ∧ (oe.cls = .ref C ∧ vs[0]? = some a0) ∧ oe.data = .fields vs ∧ vs[1]? = some (.ref T) ∧ T ≠ x ∧ h.get? T = some oT ∧ oT.data = .fields ts ∧ ts[3]? = some .none
  hx : H x = none
  hT : H T = none
  nx : hb.get? x = none
  nT : hb.get? T = none
def CXx (P : Program) (w : World) : CXT := fun outer H s E e s' => ∃ x T C H', e = .ref x ∧ s'.os = s.os ∧ AllBare s'.gens ∧ Un (frs outer) [] H H' s.heap s'.heap ∧ HOk P w H' s'.heap ∧
  FlyX x T C H' s.heap s'.heap ∧ E (.ref C) none H'
theorem passX0 {P : Program} {w : World} {X : Cx} : Passes (CXx P w) X E0 := fun _ _ _ _ _ _ _ h => by
  obtain ⟨_, _, _, _, _, _, _, _, _, _, h⟩ := h
  exact h.elim

theorem HOk.at_ {P : Program} {w : World} {H : Hp} {h : Heap} {a : Addr} {o : HO} (x : HOk P w H h) (e : H a = some o) : ∃ u, h.get? a = some u := by
  have q := x a o e
  clear e x
  induction o with
  | lst xs => obtain ⟨_, _, _, _, e⟩ := q; exact ⟨_, e⟩
  | tup xs => obtain ⟨_, _, _, o, e, _⟩ := q; exact ⟨_, e⟩
  | dK kvs => obtain ⟨_, _, _, _, o, _, _, e, _⟩ := q; exact ⟨_, e⟩
  | dT kvs => obtain ⟨_, _, _, _, o, _, _, e, _⟩ := q; exact ⟨_, e⟩
  | set S n => obtain ⟨o, _, _, _, e, _⟩ := q; exact ⟨_, e⟩
  | ins C dx fs => obtain ⟨_, _, _, e, _⟩ := q; exact ⟨_, e⟩
  | own y => obtain ⟨_, e⟩ := q; exact ⟨_, e⟩
  | xd fs => obtain ⟨_, ⟨_, _, _, e, _⟩, _⟩ := q; exact ⟨_, e⟩
  | rng lo hi => obtain ⟨_, _, _, e⟩ := q; exact ⟨_, e⟩
  | frz ob u _ => obtain ⟨e, _⟩ := q; exact ⟨_, e⟩
  | tbl ps => exact ⟨_, (show h.get? a = some _ from q)⟩
  | met f y => exact ⟨_, (show h.get? a = some _ from q)⟩
  | ext φ => obtain ⟨_, ⟨_, e⟩, _⟩ := q; exact ⟨_, e⟩
theorem HOk.none_at {P : Program} {w : World} {H : Hp} {h : Heap} {a : Addr} (x : HOk P w H h) (e : h.get? a = none) : H a = none := by
  cases q : H a with
  | none => rfl
  | some o =>
    obtain ⟨u, z⟩ := x.at_ q
    rw [e] at z; cases z

section
variable {X : Cx} {pins : List (Addr × Obj)} {σ : St} {H : Hp} {s : Shared}
theorem frs_of (hst : X.stack = X.env :: X.outer) {b : Addr} (h : b ∈ X.fs) : b ∈ frs X.stack := by
  rw [hst]
  unfold Cx.fs frs at *
  rw [List.filterMap_cons]
  split
  · exact h
  · exact List.mem_cons_of_mem _ h
/-- a frame was left: what came of it -/
theorem left_done (I : Inv X pins σ H s) (hst : X.stack = X.env :: X.outer) (hex : X.ex = []) {x C : Addr} {a0 : Value} {ex : List Addr} {h2 : Heap} (hxs : ∀ b ∈ ex, H b = none ∧ X.s₀.heap.get? b = none) (hx : x ∈ ex)
    (L : Heap.LeftW (PySem.W.hideAll s.heap (frs X.stack ++ ex)) X.stack x (.ref C) a0 s.heap h2) :
    ∃ T, Un (frs X.outer) [] X.H₀ H X.s₀.heap h2 ∧ HOk X.prog X.w H h2 ∧ FlyX x T C H X.s₀.heap h2 := by
  obtain ⟨st, ff, ⟨oe, vs, T, oT, ts, he, hc, hd, h1, hnT, hTe, hT, hdT, h3⟩, up⟩ := L
  have nex : ∀ b : Addr, b ∉ X.ex := fun b z => by rw [hex] at z; cases z
  have keepS : ∀ b o, s.heap.get? b = some o → b ∉ frs X.stack → b ∉ ex → h2.get? b = some o := fun b o q n1 n2 => st b o (PySem.W.hideAll_get _ q fun z => (List.mem_append.mp z).elim n1 n2)
  have slotS : ∀ b o, s.heap.get? b = some o → b ∈ frs X.stack → ∃ sl, h2.get? b = some { o with slots := sl } := fun b o q hb => up b o q (by
    obtain ⟨_, o', q', d⟩ := I.stack.mem hb
    cases q.symm.trans q'
    exact d)
  have notL : ∀ b o, X.s₀.heap.get? b = some o → b ≠ X.env.locals := fun b o q => Nat.ne_of_lt (Nat.lt_of_lt_of_le (Heap.lt_size q) I.ok.above)
  have notX : ∀ b o, X.s₀.heap.get? b = some o → b ∉ ex := fun b o q z => by
    have := (hxs b z).2
    rw [q] at this; cases this
  have notF : ∀ b o, X.s₀.heap.get? b = some o → b ∉ X.fs → b ∉ frs X.stack := fun b o q n z => by
    rcases List.mem_cons.mp (I.stkSub b z) with e | e
    · exact notL b o q e
    · exact n e
  have young : ∀ b, s.heap.get? b = none → X.s₀.heap.get? b = none := fun b q => by
    cases e : X.s₀.heap.get? b with
    | none => rfl
    | some o =>
      obtain ⟨o', z⟩ := I.base.there b o e (nex b)
      rw [q] at z; cases z
  refine ⟨T, ⟨fun b o q n hb _ => ?_, fun b o q n hb _ => ?_, fun b o q n _ => I.base.free b o q n (nex b), fun b o q _ => ?_, I.base.tups, I.base.frzs, I.base.tbls⟩, fun a o e => ?_, ⟨oe, vs, a0, oT, ts, he, hc, hd, h1, hTe, hT, hdT, h3⟩, (hxs x hx).1, ?_, (hxs x hx).2, ?_⟩
  · exact keepS b o (I.base.keep b o q n hb (nex b)) (notF b o q hb) (notX b o q)
  · obtain ⟨sl, e⟩ := I.base.slot b o q n hb (nex b)
    obtain ⟨sl', e'⟩ := slotS b _ e (frs_of hst hb)
    exact ⟨sl', e'⟩
  · obtain ⟨o', e⟩ := I.base.there b o q (nex b)
    by_cases hb : b ∈ frs X.stack
    · obtain ⟨sl', e'⟩ := slotS b _ e hb
      exact ⟨_, e'⟩
    · exact ⟨o', keepS b o' e hb (notX b o q)⟩
  · refine (I.hok a o e).stay (fun b u hb q => ?_) (fun _ q => q) fun _ _ q => q
    have tr : ∃ o, H b = some o := by
      rcases hb with rfl | hb
      · exact ⟨_, e⟩
      · exact ⟨_, hb⟩
    obtain ⟨ob, tr⟩ := tr
    refine keepS b u q (fun z => ?_) fun z => ?_
    · rw [I.stkFree b z] at tr; cases tr
    · rw [(hxs b z).1] at tr; cases tr
  all_goals
    by_cases hTx : T ∈ ex
    · first | exact (hxs T hTx).1 | exact (hxs T hTx).2
    by_cases hTf : T ∈ frs X.stack
    · obtain ⟨_, o', q', d⟩ := I.stack.mem hTf
      obtain ⟨sl, e'⟩ := slotS T o' q' hTf
      rw [hT] at e'
      cases e'
      exact absurd hdT (d ts)
    have q : s.heap.get? T = none := by
      cases e : s.heap.get? T with
      | none => rfl
      | some o =>
        rw [PySem.W.hideAll_get _ e fun z => (List.mem_append.mp z).elim hTf hTx] at hnT
        cases hnT
    first | exact I.hok.none_at q | exact young T q
end

section
variable {P : Program} {w : World} {K : PySem.W.Frag} {mg : Str → Option Value} {base : Heap} {N : List Str} {qual : Str} {scope : Scope} {f : Addr} {cd : Value} {A : Around} {outer : List Env} {s0 : Shared} {H0 : Hp} {E : XK}
theorem in_frs {l : List Env} {more : List Addr} : ∀ env ∈ l, ∀ a, env.frame = some a → a ∈ frs l ++ more := fun env he a hf => List.mem_append_left _ (List.mem_filterMap.mpr ⟨env, he, hf⟩)
/-- what this body wants of an exception that it makes -/
def Takes (X : Cx) (E : XK) : Prop := ∀ (pins : List (Addr × Obj)) (σ : St) (H : Hp) (s : Shared) (h : Heap) (x C : Addr) (args : List Value), Inv X pins σ H s → Heap.MadeExcOf s.heap h x (.ref C) args → E (.ref C) none H → X.xe (.ref x) { s with heap := h }
theorem takes_cx : Takes (cxOf (CXx P w) P w K mg base N qual scope f cd A outer s0 H0 E) E := by
  intro pins σ H s h x C args I hx hE
  have I1 : Inv (cxOf (CXx P w) P w K mg base N qual scope f cd A outer s0 H0 E) pins σ H { s with heap := h } := I.kept (t' := s.toks) hx.keeps
  obtain ⟨t, he, htn, ht⟩ := hx.there
  show wpAny _ _ (leaving _ _) _ _ _
  refine wpAny_leaving_firstW (base := PySem.W.hideAll h (frs (envOfC qual scope s0.heap.objs.size f cd :: outer) ++ [x])) (a0 := .ref t) I.ok.frames (PySem.W.funFrames_hide I1.stack in_frs) rfl he (fun b o q => PySem.W.of_hideAll _ q)
    (PySem.W.hideAll_none _ (List.mem_append_right _ List.mem_cons_self)) rfl rfl rfl fun h2 L => ?_
  obtain ⟨T, u, ok, fly⟩ := left_done (ex := [x]) I1 rfl rfl (fun b hb => by
    rw [List.mem_singleton.mp hb]
    refine ⟨I.hok.none_at hx.new, ?_⟩
    cases e : s0.heap.get? x with
    | none => exact e
    | some o =>
      obtain ⟨o', z⟩ := I.base.there x o e (fun z => nomatch z)
      rw [hx.new] at z; cases z) List.mem_cons_self L
  exact ⟨x, T, C, H, rfl, I.os, I.bare, u, ok, fly, hE⟩
theorem passes_cx : Passes (CXx P w) (cxOf (CXx P w) P w K mg base N qual scope f cd A outer s0 H0 E) E := by
  intro pins σ H s e s' I h
  obtain ⟨x, T, C, H', rfl, os, bare, un, ok, fly, hE⟩ := h
  have I1 : Inv (cxOf (CXx P w) P w K mg base N qual scope f cd A outer s0 H0 E) pins σ H' s' := I.call' (ch := []) os un ok bare (fun b z => absurd z (by simp))
  obtain ⟨oe, vs, a0, oT, ts, he, hc, hd, h1, hTe, hT, hdT, h3⟩ := fly.obj
  show wpAny _ _ (leaving _ _) _ _ _
  refine wpAny_leaving_nextW (base := PySem.W.hideAll s'.heap (frs (envOfC qual scope s0.heap.objs.size f cd :: outer) ++ [x, T])) (cls := .ref C) (a0 := a0) I.ok.frames (PySem.W.funFrames_hide I1.stack in_frs) rfl
    ⟨oe, vs, T, oT, ts, he, hc, hd, h1, PySem.W.hideAll_none _ (List.mem_append_right _ (List.mem_cons_of_mem _ List.mem_cons_self)), hTe, hT, hdT, h3⟩ (fun b o q => PySem.W.of_hideAll _ q)
    (PySem.W.hideAll_none _ (List.mem_append_right _ List.mem_cons_self)) fun h2 L => ?_
  have old : ∀ b, s.heap.get? b = none → s0.heap.get? b = none := fun b q => by
    cases e : s0.heap.get? b with
    | none => rfl
    | some o =>
      obtain ⟨o', z⟩ := I.base.there b o e (fun z => nomatch z)
      rw [q] at z; cases z
  obtain ⟨T2, u, ok2, fly2⟩ := left_done (ex := [x, T]) I1 rfl rfl (fun b hb => by
    rcases List.mem_cons.mp hb with rfl | hb
    · exact ⟨fly.hx, old _ fly.nx⟩
    · rw [List.mem_singleton.mp hb]
      exact ⟨fly.hT, old _ fly.nT⟩) List.mem_cons_self L
  exact ⟨x, T2, C, H', rfl, I1.os, I1.bare, u, ok2, fly2, hE⟩
end
end L2

namespace L2
open PySem PySem.Spec PyProof.Rows

/-! ### own exception classes under ValueError -/
abbrev bmV : List Value := [.type "ValueError", .type "Exception", .type "BaseException", .type "object"]
/-- the class at C is an exception class of the text, under ValueError, with no __init__ of its own -/
def excK (K : PySem.W.Frag) (C : Addr) : Bool := PySem.W.excIn K C bmV "ValueError.__new__"
/-- the address that stands by a global name -/
def gA (K : PySem.W.Frag) (x : Str) : Addr := match PySem.W.nsIn K mainGlobals x with | some (some (.ref c)) => c | _ => 0
theorem gA_of {K : PySem.W.Frag} {x : Str} {c : Addr} (h : PySem.W.nsIn K mainGlobals x = some (some (.ref c))) : gA K x = c := by unfold gA; rw [h]

theorem exc_obj {K : PySem.W.Frag} {h : Heap} {C : Addr} (kin : K.In h) (q : excK K C = true) :
    ∃ nm qn N bs bm hd sn sub ab col dd k0 k1 k2 k3 k5 mN, h.get? C = some (excClassObj nm qn C N bs bm hd sn sub ab col dd k0 k1 k2 k3 k5 "ValueError.__new__") ∧ h.Ns N mN ∧ mN "__init__" = none ∧ OwnTail h bmV bm := by
  unfold excK PySem.W.excIn at q
  split at q
  case h_2 => cases q
  case h_1 dx cx slx at1 =>
    split at q
    case h_2 => cases q
    case h_1 Cx tl y0 y1 y2 y3 yn y5 m1 m2 =>
      rw [Bool.and_eq_true, Bool.and_eq_true, Bool.and_eq_true, Bool.and_eq_true, Bool.and_eq_true] at q
      obtain ⟨⟨⟨⟨⟨q1, q2⟩, q3⟩, q4⟩, q5⟩, q6⟩ := q
      replace q1 := beq_iff_eq.mp q1
      replace q2 := beq_iff_eq.mp q2
      replace q6 := beq_iff_eq.mp q6
      replace q3 : cx.hasDel = false := by simpa using q3
      subst q1 q2
      cases cx
      dsimp only at m1 q3 q5 q6
      subst m1 q3
      cases slx
      dsimp only at m2
      subst m2
      exact ⟨_, _, _, _, tl, _, _, _, _, _, dx, y0, y1, y2, y3, y5, _, kin _ _ at1, .of_isNs (PySem.W.isNs_of_in kin q5), PySem.W.nsMap_none_of_in kin q5 q6, PySem.W.tail_of_in kin q4⟩

section
variable {X : Cx} {E : XK} {C : Addr} {x : Str} {e : Expr} {es : List Expr} {t : TA} {np cpos pos : Pos}
def tRaise (C : Addr) (E : XK) (t : TA) : TS := fun _ σ H => t σ H fun vs H1 => vs.length ≤ 100 ∧ E (.ref C) none H1
/-- raise C(..) -/
theorem ps_raise (hT : Takes X E) (hcm : X.calm = true) (hq : excK X.K C = true) (hm : X.mg x = some (.ref C)) (ha : PA X (e :: es) t) (hg : Gl X x := by rfl) (hdb : (x == ("__debug__" : Str)) = false := by decide)
    (he : starEach (e :: es) X.env = (false, eval e X.env) :: starEach es X.env := by rfl) (hpl : (backTo cpos (starEach es X.env)).any (·.1) = false := by rfl) :
    PS X (.Raise (some (.Call (.Name x np) (e :: es) [] cpos)) none pos) (tRaise C E t) := by
  intro pins s σ H D I h
  obtain ⟨nm, qn, N, bs, bm, hd, sn, sub, ab, col, dd, k0, k1, k2, k3, k5, mN, hC, hN, hni, TL⟩ := exc_obj I.ok.mod.kin hq
  refine wpAny_Raise_call_subU (C := C) (nm := nm) (q := qn) (N := N) (bs := bs) (bm := bm) (hdct := hd) (sn := sn) (sub := sub) (ab := ab) (col := col) (dd := dd) (k0 := k0) (k1 := k1) (k2 := k2) (k3 := k3) (k5 := k5)
    PySem.F.excBase_ValueError (by decide) PySem.F.excBase_ValueError (mN := mN) (TL.hasType rfl) (I.ok.hd hcm) (by rw [he]; show (false || (backTo cpos (starEach es X.env)).any (·.1)) = false; rw [hpl]; rfl) hni (ld_glob I hg hm ⟨rfl, ?_⟩ hdb)
  have h2 := ha cpos pins s σ H _ I h
  rw [he] at h2 ⊢
  refine Calls.evalArgs_plain (wpAny_mono h2 (fun us s1 q => ?_) fun _ _ y => y)
  obtain ⟨vs, H1, I1, r, hl, q⟩ := q
  refine ⟨rfl, ?_, I1.bk _ _ hC, hN.keeps I1.bk, TL.keeps I1.bk, fun h' a hmade => hT pins σ H1 s1 h' a C _ I1 hmade q⟩
  show us.length ≤ sizeLine
  rw [← r.length]
  exact Nat.le_trans hl (by rw [sizeLine_eq]; decide)
end

/-! ### texts with fields -/
section
variable {X : Cx} {a : Expr} {ta : TE} {pos : Pos}
def mRepr : V → Hp → VK → Prop := fun x H Q => match x with | .str z => (reprText z).length ≤ sizeLine ∧ Q (.str (reprText z)) H | _ => False
def mFmt : V → Hp → VK → Prop := fun x H Q => match x with | .str z => z.length ≤ sizeLine ∧ Q (.str z) H | .int i => i.natAbs.log2 < 1920 ∧ Q (tx (strI i)) H | _ => False
theorem pe_fvr (ha : PE X a ta) : PE X (.FormattedValue a 114 none pos) (tUn mRepr ta) := by
  intro pins s σ H Q I h
  refine wpAny_FormattedValue_repr (thn (ha pins s σ H _ I h) fun v s1 ⟨x, H1, I1, r1, q1⟩ => ?_)
  cases x with
  | str z =>
    obtain ⟨k, rfl⟩ := r1
    refine wpAny_pyReprObj_gives (T := "str") (typeIs_str _ _ _) PySem.F.slot_str_repr PySem.F.entry_str_repr (PySem.F.args_str_repr_1 _) (gives_str_repr z k) ?_ rfl q1.1
    exact wpAny_formatField_str ⟨.str (reprText z), H1, I1.tok _, ⟨_, rfl⟩, q1.2⟩ ⟨.str (reprText z), H1, (I1.tok _).tok _, ⟨_, rfl⟩, q1.2⟩ q1.1
  | _ => exact q1.elim
theorem pe_fvp (ha : PE X a ta) : PE X (.FormattedValue a (-1) none pos) (tUn mFmt ta) := by
  intro pins s σ H Q I h
  refine wpAny_FormattedValue_plain (thn (ha pins s σ H _ I h) fun v s1 ⟨x, H1, I1, r1, q1⟩ => ?_)
  cases x with
  | str z =>
    obtain ⟨k, rfl⟩ := r1
    exact wpAny_formatField_str ⟨.str z, H1, I1, ⟨_, rfl⟩, q1.2⟩ ⟨.str z, H1, I1.tok _, ⟨_, rfl⟩, q1.2⟩ q1.1
  | int i =>
    obtain ⟨k, rfl⟩ := r1
    refine wpAny_formatField_int q1.1 ⟨tx (strI i), H1, I1.tok _, ⟨s1.toks + 1, ?_⟩, q1.2⟩
    unfold strI
    rw [← str_eta]
  | _ => exact q1.elim
abbrev TJ := Str → St → Hp → (Str → Hp → Prop) → Prop
def PJ (X : Cx) (vs : List Expr) (t : TJ) : Prop := ∀ (acc : Str) (pins : List (Addr × Obj)) (s : Shared) (σ : St) (H : Hp) (Q : Str → Shared → Prop) (R : Str → Hp → Prop), Inv X pins σ H s → t acc σ H R → (∀ out s1 H1, Inv X pins σ H1 s1 → R out H1 → Q out s1) →
  Joins (model X.prog X.w) X.A X.xe (evalEach vs X.env) acc Q s
def tJ0 : TJ := fun acc _ H R => R acc H
def tJ1 (ta : TE) (tr : TJ) : TJ := fun acc σ H R => ta σ H fun x H1 => match x with | .str z => (acc ++ z).length ≤ sizeLine ∧ tr (acc ++ z) σ H1 R | _ => False
theorem pj_nil : PJ X [] tJ0 := fun acc pins s σ H Q R I h hq => hq acc s H I h
theorem pj_cons {vs : List Expr} {tr : TJ} (ha : PE X a ta) (hr : PJ X vs tr) (he : evalEach (a :: vs) X.env = eval a X.env :: evalEach vs X.env := by rfl) : PJ X (a :: vs) (tJ1 ta tr) := by
  intro acc pins s σ H Q R I h hq
  rw [he]
  refine wpAny_mono (ha pins s σ H _ I h) (fun v s1 q => ?_) fun _ _ y => y
  obtain ⟨x, H1, I1, r1, q1⟩ := q
  cases x with
  | str z =>
    obtain ⟨k, rfl⟩ := r1
    exact ⟨z, k, rfl, q1.1, hr (acc ++ z) pins s1 σ H1 Q R I1 q1.2 hq⟩
  | _ => exact q1.elim
def tJoin (tj : TJ) : TE := fun σ H Q => tj Str.empty σ H fun out H1 => out.length ≤ sizeLine ∧ Q (.str out) H1
theorem pe_joined {b : Expr} {vs : List Expr} {tj : TJ} (h : PJ X (a :: b :: vs) tj) : PE X (.JoinedStr (a :: b :: vs) pos) (tJoin tj) := by
  intro pins s σ H Q I q
  refine wpAny_JoinedStr (h Str.empty pins s σ H _ _ I q fun out s1 H1 I1 q1 => ⟨q1.1, .str out, H1, I1.tok _, ⟨_, rfl⟩, q1.2⟩)
end

/-! ### isinstance of an exception -/
/-- is an object of the class D a c? (where all the rest of the class is as classes are) -/
def isaK (K : PySem.W.Frag) (D : Addr) (c : Value) : Option Bool :=
  if (PySem.W.findIn K (.ref D) "__getattribute__" == some (some (.builtin "BaseException.__getattribute__")) && PySem.W.findIn K (.ref D) "__getattr__" == some none && PySem.W.mroIn K D (.type "BaseException") == some true) && PySem.W.hasDictIn K D && PySem.W.findIn K (.ref D) "__class__" == some (some (.builtin "object.__class__")) && PySem.W.specialIn K (.builtin "object.__class__") "__get__" == some (some (.builtin "getset_descriptor.__get__"))
    && PySem.W.takesIn K (.builtin "object.__class__") == some true && PySem.W.mroIn K D (.type "object") == some true then PySem.W.kitOne K (.ref D) c else none
end L2
namespace LX
open PySem PySem.W PySem.Calls PyProof.Rows Builtin Builtin.ObjectAttr Builtin.Getset_descriptor
section
variable {prog : Program} {w : World} {A : Around} {K : Frag} {x D : Addr}
theorem ty_x {M : Model} {h : Heap} (I : L2.XAt x D h) : Looks M h (typeOf (.ref x)) (.ref D) := by
  obtain ⟨o, e, c⟩ := I
  exact c ▸ (Looks.ld e).andThen .now
theorem check_ga {M : Model} {E : Value → Shared → Prop} {s : Shared} {nameV : Value} {Q : Unit → Shared → Prop} (T0 : Looks M s.heap (typeOf (.ref x)) (.ref D)) (T8 : Looks M s.heap (isSubtype (.ref D) (.type "BaseException")) true) (hq : Q () s) :
    wpAny M A (checkBuiltinCall "BaseException.__getattribute__" ⟨[.ref x, nameV], []⟩) Q E s := by
  have hk : builtinKind "BaseException.__getattribute__" = some .slot := by decide +kernel
  have hsplit : splitId "BaseException.__getattribute__" = some ("BaseException", "__getattribute__") := by decide +kernel
  have hargs := F.args_bexc_ga (.ref x) nameV
  simp only [checkBuiltinCall, hk, hsplit]
  refine wpAny_bind ?_
  unfold isInstance
  cases s with
  | mk hp gs dr tk ost =>
  refine wpAny_bind (T0.at (T8.at ?_))
  repeat (first | assumption | wp_step)
theorem class_x2 {E : Value → Shared → Prop} {s : Shared} {Q : Option Value → Shared → Prop} (hg1 : findIn K (.ref D) "__getattribute__" = some (some (.builtin "BaseException.__getattribute__"))) (hg2 : findIn K (.ref D) "__getattr__" = some none)
    (ha : findIn K (.ref D) "__class__" = some (some (.builtin "object.__class__")))
    (hn : specialIn K (.builtin "object.__class__") "__get__" = some (some (.builtin "getset_descriptor.__get__"))) (htk : takesIn K (.builtin "object.__class__") = some true) (hm : mroIn K D (.type "object") = some true) (hb : mroIn K D (.type "BaseException") = some true)
    (kin : K.In s.heap) (I : L2.XAt x D s.heap) (h : Q (some (.ref D)) { s with toks := s.toks + 1 }) : wpAny (model prog w) A (getAttr? (.ref x) "__class__") Q E s := by
  cases s with
  | mk hp gs dr tk ost =>
  have T0 := ty_x (M := model prog w) I
  have T1 := looks_findIn (M := model prog w) kin hg1
  have T2 := looks_findIn (M := model prog w) kin hg2
  have T3 := looks_findIn (M := model prog w) kin ha
  have T4 := looks_specialIn (M := model prog w) kin hn
  have T5 := looks_takesIn (M := model prog w) kin htk
  have T6 := looks_mroIn (M := model prog w) kin hm
  have T8 := looks_mroIn (M := model prog w) kin hb
  have T7 : Looks (model prog w) hp (find (.ref x) (.ref D) "__class__") (.bind (.builtin "getset_descriptor.__get__") (.builtin "object.__class__")) :=
    T3.andThen (T4.andThen ((show Looks (model prog w) hp (dataDescriptor? (some (.builtin "object.__class__")) (some (.builtin "getset_descriptor.__get__"))) (some (.builtin "getset_descriptor.__get__", .builtin "object.__class__")) from T5.andThen .now).andThen (.tag .now)))
  have hx2 : (onTheHeap (Value.ref D) && Value.builtin "BaseException.__getattribute__" == Value.builtin "object.__getattribute__") = false := (show (Value.builtin "BaseException.__getattribute__" == Value.builtin "object.__getattribute__") = false by decide +kernel)
  have f3 := F.excAttr_ValueError.ga.bind (.ref x)
  unfold getAttr? getAttrBy? getAttrBy
  refine wpAny_bind (wpAny_mkText ?_); refine wpAny_bind (wpAny_attempt (wpAny_holding ?_)); refine wpAny_bind (T0.at ?_); refine wpAny_bind (T1.at ?_)
  simp only [hx2]
  rw [if_neg (by decide)]
  unfold getAttrByItsOwn hookBefore
  refine wpAny_bind ?_
  show wpAny _ _ (typeLookup (.ref D) "__getattr__") _ _ _
  refine T2.at ?_
  refine wpAny_bind (wpAny_attempt (wpAny_holding ?_))
  show wpAny _ _ (boundAndCalled _ _ _) _ _ _
  unfold boundAndCalled
  rw [f3]
  refine wpAny_bind (wpAny_pure ?_)
  refine wpAny_call ?_
  refine codeAny_call_builtin F.excAttr_ValueError.ga.plain F.entry_bexc_ga ?_
  refine (show wpAny _ _ (checkBuiltinCall "BaseException.__getattribute__" ⟨[.ref x, .str "__class__" tk], []⟩) _ _ _ from ?_)
  refine check_ga T0 T8 ?_
  unfold Builtin.«object.__getattribute__»
  refine wpAny_bind (wpAny_pure ?_)
  refine wpAny_bind (wpAny_pure ?_)
  refine wpAny_bind (T0.at ?_)
  refine wpAny_bind (T7.at ?_)
  show wpAny _ _ (holding [Value.builtin "object.__class__"] (call (.builtin "getset_descriptor.__get__") [.builtin "object.__class__", .ref x, .ref D]) >>= ret) _ _ _
  refine wpAny_bind (wpAny_holding (wpAny_call ?_))
  refine codeAny_call_builtin KF.slot_gs.plain KF.entry_gs (KF.slot_gs.check _ _ _ _ _ _ _ _ KF.type_class (KF.args_gs _ _ _) ?_); unfold Builtin.«getset_descriptor.__get__» descrGet; rw [dga_obj]
  refine wpAny_bind (wpAny_pure ?_); unfold descrGetter descrCheckInstance descrNameAndClass isInstance; simp only [KF.owner_class]; repeat lk
  refine ⟨Code.quiet_builtin _ (by decide +kernel), codeAny_builtin KF.entry_class ?_⟩; unfold Builtin.«object.__class__» shownTypeOf; repeat lk
  exact h
theorem it_x {h : Heap} (hd : hasDictIn K D = true) (kin : K.In h) : (∃ c d cd sl, h.get? D = some ⟨c, d, .cls cd, sl⟩) ∧ ∀ M : Model, Looks M h (isType (.ref D)) true := by
  obtain ⟨cd, e, _⟩ := any_some hd
  unfold clsIn at e
  split at e
  case h_2 => cases e
  case h_1 c1 d1 cd1 sl1 at1 =>
    refine ⟨⟨_, _, _, _, kin _ _ at1⟩, fun M A' Q' E' s' k q => ?_⟩
    unfold isType loadHead
    exact wpAny_bind (wpAny_loadPart (k _ _ (kin _ _ at1)) (wpAny_pure q))
theorem kitx_x (hg1 : findIn K (.ref D) "__getattribute__" = some (some (.builtin "BaseException.__getattribute__"))) (hg2 : findIn K (.ref D) "__getattr__" = some none) (hb : mroIn K D (.type "BaseException") = some true) (hd : hasDictIn K D = true) (ha : findIn K (.ref D) "__class__" = some (some (.builtin "object.__class__")))
    (hn : specialIn K (.builtin "object.__class__") "__get__" = some (some (.builtin "getset_descriptor.__get__"))) (htk : takesIn K (.builtin "object.__class__") = some true) (hm : mroIn K D (.type "object") = some true) :
    KitX K (.ref x) (.ref D) (L2.XAt x D) :=
  ⟨fun _ _ _ I => ty_x I, fun _ _ kin _ => (it_x hd kin).2 _, (fun h tp dd its n sl kin e => by
    obtain ⟨⟨c, d, cd, sl2, e2⟩, _⟩ := it_x hd kin
    refine Bool.eq_false_iff.mpr fun q => ?_
    have z := Value.ref.inj (beq_iff_eq.mp q)
    subst z
    have e3 := e2.symm.trans e
    cases e3), fun kin I k => class_x2 hg1 hg2 ha hn htk hm hb kin I k⟩
end
end LX
namespace L2
open PySem PySem.Spec PyProof.Rows
/-- a class as isinstance's second argument -/
def clsV : V → Option Value
  | .ty c => some (.type c)
  | .ref a => some (.ref a)
  | _ => none
/-- isinstance of an exception -/
def mIsaX (K : PySem.W.Frag) : List V → Hp → VK → Prop := fun xs H Q => match xs with
  | [.ref p, c] => ∃ D v b, H p = some (XO p D) ∧ clsV c = some v ∧ isaK K D v = some b ∧ Q (.bl b) H
  | _ => False
theorem call_isaX {X : Cx} : CallR X (.builtin "isinstance") (mIsaX X.K) := by
  intro pins s σ H xs us Q I r h
  unfold mIsaX at h
  split at h
  · rename_i p c
    obtain ⟨D, v, b, hp, hv, hk, q⟩ := h
    obtain ⟨u, z, rfl, r1, r2⟩ := vals2 r
    obtain rfl : u = .ref p := r1
    have ez : z = v := by
      cases c <;> first | (cases hv; exact r2) | cases hv
    subst ez
    unfold isaK at hk
    split at hk
    case isFalse => cases hk
    case isTrue g =>
      rw [Bool.and_eq_true, Bool.and_eq_true, Bool.and_eq_true, Bool.and_eq_true, Bool.and_eq_true, Bool.and_eq_true, Bool.and_eq_true] at g
      obtain ⟨⟨⟨⟨⟨⟨⟨g1, g7⟩, g8⟩, g2⟩, g3⟩, g4⟩, g5⟩, g6⟩ := g
      obtain ⟨hx, _, _⟩ := I.hok p _ hp
      exact PySem.W.kia_one (LX.kitx_x (beq_iff_eq.mp g1) (beq_iff_eq.mp g7) (beq_iff_eq.mp g8) g2 (beq_iff_eq.mp g3) (beq_iff_eq.mp g4) (beq_iff_eq.mp g5) (beq_iff_eq.mp g6)) I.kIn hx hk (fun z => by cases z) fun tk => ⟨.bl b, H, I.tok tk, rfl, q⟩
  · exact h.elim
end L2

namespace L2
open PySem PySem.Spec PyProof.Rows

/-! ### calls of defs that may raise -/
section
variable {X : Cx} {k : Nat} {x : Str} {ps : List Str} {sp : Sp} {E : XK} {p pos : Pos} {e : Expr} {es : List Expr} {t : TA}
theorem pe_callX (G : Gd X.prog X.w X.K X.mg X.base (CXx X.prog X.w) k x ps sp) (hr : Room k X.A) (hx : Passes (CXx X.prog X.w) X E) (ha : PA X (e :: es) t) (hg : Gl X x := by rfl) (hdb : (x == ("__debug__" : Str)) = false := by decide)
    (he : starEach (e :: es) X.env = (false, eval e X.env) :: starEach es X.env := by rfl) (hpl : (backTo pos (starEach es X.env)).any (·.1) = false := by rfl) :
    PE X (.Call (.Name x p) (e :: es) [] pos) (tCall sp [] E t) := by
  obtain ⟨f, fd, F, hm, hk, hb⟩ := G
  exact pe_call F hr hg hm hk hb .nil hx ha hdb he hpl
end

/-! ### a try's body: an exception that leaves it knows the names' values -/
def XP (X : Cx) (pins : List (Addr × Obj)) (W : St → XK) (e : Value) (s' : Shared) : Prop := ∃ σ' Hb sb, Inv X pins σ' Hb sb ∧ CXx X.prog X.w X.stack Hb sb (W σ') e s'
abbrev TX := Ends → (St → XK) → St → Hp → Prop
def PSx (X : Cx) (st : Stmt) (t : TX) : Prop :=
  ∀ (pins : List (Addr × Obj)) (s : Shared) (σ : St) (H : Hp) (D : Ends) (W : St → XK), Inv X pins σ H s → t D W σ H → wpAny (model X.prog X.w) X.A (exec st X.env) (SP X pins D) (XP X pins W) s
def PSsx (X : Cx) (st : List Stmt) (t : TX) : Prop :=
  ∀ (pins : List (Addr × Obj)) (s : Shared) (σ : St) (H : Hp) (D : Ends) (W : St → XK), Inv X pins σ H s → t D W σ H → wpAny (model X.prog X.w) X.A (execs st X.env) (SP X pins D) (XP X pins W) s
theorem PA.nox {X : Cx} {es : List Expr} {t : TA} (h : PA X.nox es t) : PA X es t := fun pos pins s σ H Q I hw =>
  wpAny_mono (h pos pins s σ H Q (I.wish _) hw) (fun _ _ ⟨v, H', I', r, q⟩ => ⟨v, H', I'.unwish, r, q⟩) fun _ _ z => False.elim z
section
variable {X : Cx} {st : Stmt} {rest : List Stmt} {t u : TX} {k : Nat} {x : Str} {ps : List Str} {sp : Sp} {p pos pos' : Pos} {e : Expr} {es : List Expr} {ta : TA}
theorem psx_of {t : TS} (h : PS X.nox st t) : PSx X st (fun D _ σ H => t D σ H) := fun pins s σ H D W I hw =>
  wpAny_mono (h pins s σ H D (I.wish _) hw) (fun _ _ q => q.unwish) fun _ _ z => False.elim z
theorem pssx_nil : PSsx X [] (fun D _ σ H => D.nx σ H) := fun _ _ σ H _ _ I h => wpAny_execs_nil ⟨σ, H, I, h⟩
def tSeqX (t u : TX) : TX := fun D W σ H => t { D with nx := u D W } W σ H
theorem pssx_cons (h1 : PSx X st t) (h2 : PSsx X rest u) : PSsx X (st :: rest) (tSeqX t u) := by
  intro pins s σ H D W I h
  refine wpAny_execs_cons (thn (h1 pins s σ H { D with nx := u D W } W I h) fun f s1 q => ?_)
  cases f with
  | next =>
    obtain ⟨σ', H', I', q⟩ := q
    exact h2 pins s1 σ' H' D W I' q
  | ret v => exact q
  | brk => exact q
  | cont => exact q
theorem pssx_one (h1 : PSx X st t) : PSsx X [st] t := by
  intro pins s σ H D W I h
  refine wpAny_execs_cons (thn (h1 pins s σ H D W I h) fun f s1 q => ?_)
  cases f with
  | next => exact wpAny_execs_nil q
  | ret v => exact q
  | brk => exact q
  | cont => exact q
/-- f(..), its value dropped or not, knowing the names' values -/
def tCallX (sp : Sp) (t : TA) (Q : St → VK) (W : St → XK) : St → Hp → Prop := fun σ H => t σ H fun vs H1 => sp (vs ++ []) H1 (Q σ) (W σ)
theorem px_call (G : Gd X.prog X.w X.K X.mg X.base (CXx X.prog X.w) k x ps sp) (hr : Room k X.A) (ha : PA X.nox (e :: es) ta) {pins : List (Addr × Obj)} {s : Shared} {σ : St} {H : Hp} {Q : VK} {W : St → XK} (I : Inv X pins σ H s)
    (h : ta σ H fun vs H1 => sp (vs ++ []) H1 Q (W σ)) (hg : Gl X x := by rfl) (hdb : (x == ("__debug__" : Str)) = false := by decide)
    (he : starEach (e :: es) X.env = (false, eval e X.env) :: starEach es X.env := by rfl) (hpl : (backTo pos (starEach es X.env)).any (·.1) = false := by rfl) :
    wpAny (model X.prog X.w) X.A (eval (.Call (.Name x p) (e :: es) [] pos) X.env) (EP X pins σ Q) (XP X pins W) s := by
  obtain ⟨f, fd, F, hm, hk, hb⟩ := G
  refine wpAny_Call_Name_kw (ld_glob I hg hm ?_ hdb)
  have ha' := (PA.nox (X := X.wish (XP X pins W)) ha) pos pins s σ H _ (I.wish _) h
  refine PySem.W.callWith_K (h₀ := X.base) I.ok.mod.kin hk (thn ha' fun us s1 q => ?_) he hpl
  obtain ⟨vs, H1, I1, r, q⟩ := q
  have I1 := I1.unwish
  refine ⟨I1.kIn, ?_⟩
  have r2 : Vals (vs ++ []) (us ++ []) := r.append .nil
  have hl : (us ++ []).length = ps.length := by rw [← r2.length]; exact F.len _ _ _ _ q
  refine wpAny_call (codeAny_mono (F.run X.A X.stack s1 H1 ⟨us, []⟩ (us ++ []) (vs ++ []) Q (W σ) hr I1.env0 (hb s1 us I1.kIn hl) r2 q) fun r s' hq => ?_)
  cases r with
  | error e => exact ⟨σ, H1, s1, I1, hq⟩
  | ok fl =>
    cases fl with
    | ret u => exact I1.after hq
    | next => exact False.elim hq
    | brk => exact False.elim hq
    | cont => exact False.elim hq
def tDropX (sp : Sp) (ta : TA) : TX := fun D W σ H => ta σ H fun vs H1 => sp (vs ++ []) H1 (fun _ H2 => D.nx σ H2) (W σ)
theorem psx_call (G : Gd X.prog X.w X.K X.mg X.base (CXx X.prog X.w) k x ps sp) (hr : Room k X.A) (ha : PA X.nox (e :: es) ta) (hg : Gl X x := by rfl) (hdb : (x == ("__debug__" : Str)) = false := by decide)
    (he : starEach (e :: es) X.env = (false, eval e X.env) :: starEach es X.env := by rfl) (hpl : (backTo pos (starEach es X.env)).any (·.1) = false := by rfl)
    (hs : swapsWith (.Call (.Name x p) (e :: es) [] pos) none pos'.line X.env = pure false := by rfl) : PSx X (.Expr (.Call (.Name x p) (e :: es) [] pos) pos') (tDropX sp ta) := by
  intro pins s σ H D W I h
  exact wpAny_Expr_any (thn (px_call G hr ha I h hg hdb he hpl) fun v s1 ⟨y, H1, I1, r1, q1⟩ => ⟨σ, H1, I1, q1⟩) I.quiet hs
end

/-! ### where an exception lands -/
section
variable {X : Cx} {pins : List (Addr × Obj)} {σ : St} {Hb H' : Hp} {sb s1 : Shared} {x T C : Addr}
theorem landed (Ib : Inv X pins σ Hb sb) (os : s1.os = sb.os) (bare : AllBare s1.gens) (un : Un (frs X.stack) [] Hb H' sb.heap s1.heap) (ok : HOk X.prog X.w H' s1.heap) (fly : FlyX x T C H' sb.heap s1.heap) {h' : Heap} {a0 : Value}
    (f : Heap.FlyingW (PySem.W.hideAll s1.heap (frs X.stack ++ [x, T])) X.stack x (.ref C) a0 h') (up : s1.heap.UpToSlots h') : Inv X pins σ (upd H' x (XO x C)) { s1 with heap := h' } := by
  have ne : ∀ b o, sb.heap.get? b = some o → b ≠ x ∧ b ≠ T := fun b o q => ⟨(fun z => by rw [z, fly.nx] at q; cases q), (fun z => by rw [z, fly.nT] at q; cases q)⟩
  have nt : ∀ b o, H' b = some o → b ≠ x ∧ b ≠ T := fun b o q => ⟨(fun z => by rw [z, fly.hx] at q; cases q), (fun z => by rw [z, fly.hT] at q; cases q)⟩
  have I1 : Inv X pins σ H' s1 := Ib.call' (ch := []) os un ok bare (fun b z => absurd z (by simp))
  have keepS : ∀ b o, s1.heap.get? b = some o → b ∉ frs X.stack → b ≠ x ∧ b ≠ T → h'.get? b = some o := fun b o q n1 n2 => f.1 b o (PySem.W.hideAll_get _ q fun z => by
    rcases List.mem_append.mp z with z | z
    · exact n1 z
    · rcases List.mem_cons.mp z with z | z
      · exact n2.1 z
      · exact n2.2 (List.mem_singleton.mp z))
  have slotS : ∀ b o, s1.heap.get? b = some o → b ∈ frs X.stack → ∃ sl, h'.get? b = some { o with slots := sl } := fun b o q hb => up b o q (by
    obtain ⟨_, o', q', d⟩ := I1.stack.mem hb
    cases q.symm.trans q'
    exact d)
  have old : ∀ b, b ≠ x → upd H' x (XO x C) b = H' b := fun b h => upd_ne h
  refine Ib.call' (s' := { s1 with heap := h' }) (ch := []) os ⟨fun b o q n hb hx => ?_, fun b o q n hb hx => ?_, fun b o q n hx => ?_, fun b o q hx => ?_, fun b xs q => ?_, fun b o u q => ?_, fun b ps q => ?_⟩ (fun a o e => ?_) bare (fun b z => absurd z (by simp))
  · exact keepS b o (un.keep b o q n hb hx) hb (ne b o q)
  · obtain ⟨sl, e⟩ := un.slot b o q n hb hx
    obtain ⟨sl', e'⟩ := slotS b _ e hb
    exact ⟨sl', e'⟩
  · rw [old b (ne b o q).1]
    exact un.free b o q n hx
  · obtain ⟨o', e⟩ := un.there b o q hx
    by_cases hb : b ∈ frs X.stack
    · obtain ⟨sl', e'⟩ := slotS b _ e hb
      exact ⟨_, e'⟩
    · exact ⟨o', keepS b o' e hb (ne b o q)⟩
  · have z := un.tups b xs q
    rw [old b (nt b _ z).1]
    exact z
  · have z := un.frzs b o u q
    rw [old b (nt b _ z).1]
    exact z
  · obtain ⟨m, z⟩ := un.tbls b ps q
    exact ⟨m, by rw [old b (nt b _ z).1]; exact z⟩
  · by_cases ha : a = x
    · subst ha
      rw [upd_same] at e
      cases e
      obtain ⟨ob, q1, q2⟩ := f.there
      exact ⟨⟨ob, q1, q2⟩, ⟨ob, q1⟩, fun h1 h2 ⟨o, z1, z2⟩ k => ⟨o, k o z1, z2⟩⟩
    · rw [old a ha] at e
      refine (ok a o e).stay (fun b u hb q => ?_) (fun b q => by rw [old b (nt b _ q).1]; exact q) fun b xs q => by rw [old b (nt b _ q).1]; exact q
      have tr : ∃ o, H' b = some o := by
        rcases hb with rfl | hb
        · exact ⟨_, e⟩
        · exact ⟨_, hb⟩
      obtain ⟨ob, tr⟩ := tr
      refine keepS b u q (fun z => ?_) (nt b ob tr)
      rw [I1.stkFree b z] at tr; cases tr
end

/-! ### the suite's context -/
abbrev Cx.inX (X : Cx) (x : Addr) : Cx := { X with A := X.A.mark (some (.ref x)), calm := false, xe := fun _ _ => False }
theorem Inv.inX {X : Cx} {pins : List (Addr × Obj)} {σ : St} {H : Hp} {s : Shared} (I : Inv X pins σ H s) (x : Addr) : Inv (X.inX x) pins σ H s :=
  ⟨⟨I.ok.mod, I.ok.kind, I.ok.glob, I.ok.blt, I.ok.above, I.ok.inj, I.ok.has, I.ok.cab, (fun z => by cases z), I.ok.frames, I.ok.stk, I.ok.exf, I.ok.bs, I.ok.bsz, I.ok.noex, I.ok.exfs, I.ok.funs, I.ok.frf⟩, I.os, I.bare, I.base, I.loc, I.cell, I.free, I.freeC, I.pin, I.hok, I.len⟩
theorem Inv.outX {X : Cx} {pins : List (Addr × Obj)} {σ : St} {H : Hp} {s : Shared} {x : Addr} (ok : X.Ok) (I : Inv (X.inX x) pins σ H s) : Inv X pins σ H s :=
  ⟨ok, I.os, I.bare, I.base, I.loc, I.cell, I.free, I.freeC, I.pin, I.hok, I.len⟩
theorem SP.outX {X : Cx} {pins : List (Addr × Obj)} {D : Ends} {f : Flow} {s' : Shared} {x : Addr} (ok : X.Ok) (h : SP (X.inX x) pins D f s') : SP X pins D f s' := by
  cases f with
  | next => obtain ⟨σ', H', I, q⟩ := h; exact ⟨σ', H', I.outX ok, q⟩
  | brk => obtain ⟨σ', H', I, q⟩ := h; exact ⟨σ', H', I.outX ok, q⟩
  | cont => obtain ⟨σ', H', I, q⟩ := h; exact ⟨σ', H', I.outX ok, q⟩
  | ret u => obtain ⟨v, σ', H', I, r, q⟩ := h; exact ⟨v, σ', H', I.outX ok, r, q⟩

/-! ### does the clause take it? -/
def catK (K : PySem.W.Frag) (C S : Addr) : Bool :=
  PySem.W.typeIn K (.ref S) == some (.type "type") && (PySem.W.clsIn K S).isSome && PySem.W.mroIn K S (.type "BaseException") == some true && PySem.W.mroIn K C (.ref S) == some true
theorem takes_own {K : PySem.W.Frag} {M : Model} {A : Around} {E : Value → Shared → Prop} {s : Shared} {x C S : Addr} {Q : Bool → Shared → Prop} (kin : K.In s.heap) (I : XAt x C s.heap) (h : catK K C S = true) (q : Q true s) :
    wpAny M A (excMatches (.ref x) (.ref S)) Q E s := by
  unfold catK at h
  rw [Bool.and_eq_true, Bool.and_eq_true, Bool.and_eq_true] at h
  obtain ⟨⟨⟨h1, h2⟩, h3⟩, h4⟩ := h
  have T1 := PySem.W.looks_typeIn (M := M) kin (beq_iff_eq.mp h1)
  have T3 := PySem.W.looks_mroIn (M := M) kin (beq_iff_eq.mp h3)
  have T4 := PySem.W.looks_mroIn (M := M) kin (beq_iff_eq.mp h4)
  have T5 := LX.ty_x (M := M) I
  have T6 : PySem.W.Looks M s.heap (isSubtype (.type "type") (.type "tuple")) false := .of_pure tc_notTuple
  have T2 : PySem.W.Looks M s.heap (isType (.ref S)) true := by
    obtain ⟨cd, e⟩ := Option.isSome_iff_exists.mp h2
    unfold PySem.W.clsIn at e
    split at e
    case h_2 => cases e
    case h_1 c1 d1 cd1 sl1 at1 =>
      intro A' Q' E' s' k z
      unfold isType loadHead
      exact wpAny_bind (wpAny_loadPart (k _ _ (kin _ _ at1)) (wpAny_pure z))
  cases s with
  | mk hp gs dr tk ost =>
  unfold excMatches isInstance isExcClass
  repeat lk
  exact q
end L2

namespace L2
open PySem PySem.Spec PyProof.Rows

/-- behind the suite the clause's name goes -/
theorem goes_ok {X : Cx} {pins : List (Addr × Obj)} {σ : St} {H : Hp} {s : Shared} {M : Model} {A : Around} {E : Value → Shared → Prop} {i : Nat} {n : Str} {pos : Pos} {Q : Unit → Shared → Prop} (I : Inv X pins σ H s) (hN : X.N.Nodup) (hi : X.N[i]? = some n)
    (hl : X.env.scope.names.lookup n = some .local) (h : ∀ s', Inv X pins (σ.set i none) H s' → Q () s') : wpAny M A (do bindName X.env n .none; unbindBehindTheSuite X.env n pos) Q E s := by
  have hcls : (X.env.scope.kind == .class || (X.env.scope.kind == .module && X.env.locals != X.env.globals)) = false := by rw [I.ok.kind]; rfl
  have hk : X.env.kindOf n = some .local := hl
  refine wpAny_bind (wpAny_bindName (store_ok (v := .non) I hN hi (.inl hl) rfl (fun s1 I1 => ?_) (.inr hl)))
  obtain ⟨m, hn, hlo⟩ := id I1.loc
  unfold unbindBehindTheSuite; refine wpAny_onRaise ?_; unfold unbindName
  refine wpAny_bind (wpAny_point ?_); refine wpAny_bind ?_
  unfold deleteName; simp only [hk, hcls]; rw [if_neg (by decide)]
  have hiσ : i < σ.length := by rw [I.len]; exact (List.getElem?_eq_some_iff.mp hi).1
  have there : (m n).isSome = true := by
    obtain ⟨u, r, q⟩ := hlo i n .non hi (List.getElem?_set_self hiσ) (.inl hl)
    rcases q with ⟨_, e⟩ | ⟨z, _⟩
    · rw [e]; rfl
    · rw [hk] at z
      rcases z with z | z <;> cases z
  refine wpAny_bind (wpAny_nsDel_keeps hn fun h2 v hn2 hs => ?_)
  rw [there]
  simp only [Bool.not_true, Bool.false_eq_true, if_false]
  refine wpAny_pure (wpAny_point (h _ ?_))
  obtain ⟨oL, _, _, hoL, _⟩ := id hn
  have cne := I1.cne
  have low : ∀ b o, X.s₀.heap.get? b = some o → b ≠ X.env.locals := fun b o e => Nat.ne_of_lt (Nat.lt_of_lt_of_le (Heap.lt_size e) I1.ok.above)
  refine ⟨I1.ok, I1.os, I1.bare, ⟨fun b o e n hb hx => ?_, fun b o e n hb hx => ?_, I1.base.free, fun b o e hx => ?_, I1.base.tups, I1.base.frzs, I1.base.tbls⟩, ⟨_, hn2, fun j y v' e1 e2 e3 => ?_⟩, fun y c e => ?_, I1.free, I1.freeC, fun p hp => ?_, fun b ob e => ?_, by simpa using I.len⟩
  · exact (hs.2 b (low b o e)).trans (I1.base.keep b o e n hb hx)
  · obtain ⟨sl, e1⟩ := I1.base.slot b o e n hb hx
    exact ⟨sl, (hs.2 b (low b o e)).trans e1⟩
  · obtain ⟨o', e1⟩ := I1.base.there b o e hx
    exact ⟨o', (hs.2 b (low b o e)).trans e1⟩
  · by_cases hj : j = i
    · subst hj
      rw [List.getElem?_set_self hiσ] at e2
      cases e2
    · rw [List.getElem?_set_ne (Ne.symm hj)] at e2
      obtain ⟨u', r', q⟩ := hlo j y v' e1 (by rw [List.getElem?_set_ne (Ne.symm hj)]; exact e2) e3
      refine ⟨u', r', ?_⟩
      rcases q with ⟨k, e⟩ | ⟨k, c, e, z⟩
      · refine .inl ⟨k, ?_⟩
        have : y ≠ n := fun e => hj (nodup_ix hN e1 (e ▸ hi))
        simp [this, e]
      · exact .inr ⟨k, c, e, z.sameBut hs (cne y c e)⟩
  · obtain ⟨w', z⟩ := I1.cell y c e
    exact ⟨w', z.sameBut hs (cne y c e)⟩
  · obtain ⟨e, n, ne, nf, d⟩ := I1.pin p hp
    exact ⟨(hs.2 p.1 ne).trans e, n, ne, nf, d⟩
  · refine (I1.hok b ob e).stay (fun c w' hc q => (hs.2 c ?_).trans q) (fun _ q => q) fun _ _ q => q
    rintro rfl
    rcases hc with rfl | hc
    · rw [I1.free] at e; cases e
    · rw [I1.free] at hc; cases hc

section
variable {X : Cx} {body : List Stmt} {tb : TX} {ts : TS} {S : Addr} {sx n : Str} {i : Nat} {b₀ : Stmt} {suite : List Stmt} {np hpos pos : Pos}
def gone (i : Nat) (D : Ends) : Ends := { nx := fun σ H => D.nx (σ.set i none) H, rt := D.rt, bk := fun σ H => D.bk (σ.set i none) H, ct := fun σ H => D.ct (σ.set i none) H }
/-- try: .. except S as n: .. -/
def tTryAs (K : PySem.W.Frag) (S : Addr) (i : Nat) (tb : TX) (ts : TS) : TS := fun D σ H => tb D (fun σ' c _ H' => ∃ C, c = .ref C ∧ catK K C S = true ∧ ∀ x, H' x = none → ts (gone i D) (σ'.set i (some (.ref x))) (upd H' x (XO x C))) σ H
/-- try: .. except S: .. -/
def tTry0 (K : PySem.W.Frag) (S : Addr) (tb : TX) (ts : TS) : TS := fun D σ H => tb D (fun σ' c _ H' => ∃ C, c = .ref C ∧ catK K C S = true ∧ ∀ x, H' x = none → ts D σ' (upd H' x (XO x C))) σ H
/-- the way from the raised exception to the clause's suite -/
theorem to_clause {nm : Option Str} (hst : X.stack = X.env :: X.outer) (hfr : X.env.frame = some X.env.locals) (hm : X.mg sx = some (.ref S)) (hg : Gl X sx) (hdb : (sx == ("__debug__" : Str)) = false) {pins : List (Addr × Obj)} {σ : St} {Hb H' : Hp} {sb s1 : Shared} {x T C : Addr} {Q : Flow → Shared → Prop} {E : Value → Shared → Prop}
    (Ib : Inv X pins σ Hb sb) (os : s1.os = sb.os) (bare : AllBare s1.gens) (un : Un (frs X.stack) [] Hb H' sb.heap s1.heap) (ok : HOk X.prog X.w H' s1.heap) (fly : FlyX x T C H' sb.heap s1.heap) (hc : catK X.K C S = true)
    (k : ∀ h', Inv X pins σ (upd H' x (XO x C)) { s1 with heap := h' } → (∀ A' Q' E', (∀ h2, Inv X pins σ (upd H' x (XO x C)) { s1 with heap := h2 } → Q' () { s1 with heap := h2 }) → wpAny (model X.prog X.w) A' (setFlight (.ref x) none) Q' E' { s1 with heap := h' }) →
      codeAny (model X.prog X.w) (X.A.mark (some (.ref x))) (.handlers (.ref x) [.ExceptHandler none nm (b₀ :: suite) hpos] X.env) (fun r s₂ => match r with
          | .ok f => (match nm with
            | none => Q f s₂
            | some n => wpAny (model X.prog X.w) X.A (do bindName X.env n .none; unbindBehindTheSuite X.env n hpos) (fun _ s₃ => Q f s₃) E s₂)
          | .error y => cameBackBy (model X.prog X.w) X.A X.env E y s₂) { s1 with heap := h' }) :
    wpAny (model X.prog X.w) X.A (noteFrame (.ref x) X.env) (fun _ s₂ => wpAny (model X.prog X.w) X.A (setFlight (.ref x) none) (fun _ s₃ => wpAny (model X.prog X.w) X.A (handleBy (.ref x) X.env [.ExceptHandler (some (.Name sx np)) nm (b₀ :: suite) hpos]) Q E s₃) E s₂) E s1 := by
  have I1 : Inv X pins σ H' s1 := Ib.call' (ch := []) os un ok bare (fun b z => absurd z (by simp))
  obtain ⟨oe, vs, a0, oT, ts', he, hcl, hd, h1, hTe, hT, hdT, h3⟩ := fly.obj
  have fl0 : Heap.FlyingW (PySem.W.hideAll s1.heap (frs X.stack ++ [x, T])) X.stack x (.ref C) a0 s1.heap :=
    ⟨fun b o q => PySem.W.of_hideAll _ q, PySem.W.hideAll_none _ (List.mem_append_right _ List.mem_cons_self), PySem.W.funFrames_hide I1.stack in_frs,
      ⟨oe, vs, T, oT, ts', he, hcl, hd, h1, PySem.W.hideAll_none _ (List.mem_append_right _ (List.mem_cons_of_mem _ List.mem_cons_self)), hTe, hT, hdT, h3⟩⟩
  have land : ∀ h', Heap.FlyingW (PySem.W.hideAll s1.heap (frs X.stack ++ [x, T])) X.stack x (.ref C) a0 h' → s1.heap.UpToSlots h' → Inv X pins σ (upd H' x (XO x C)) { s1 with heap := h' } := fun h' f up => landed Ib os bare un ok fly f up
  have fl1 := fl0
  rw [hst] at fl1
  refine wpAny_looks_onW (outer := X.outer) (I1.ok.frames.trans (congrArg some hst)) hfr fl1 fun h4 held4 sm4 => ?_
  refine wpAny_landsW held4 fun h5 fl5 sm5 => ?_
  rw [← hst] at fl5
  have I5 := land h5 fl5 (sm4.trans sm5)
  refine wpAny_handleBy_cons (codeAny_handlers_test (ld_glob (X := X.inX x) (I5.inX x) hg hm ?_ hdb)) (by intro q; cases q)
  obtain ⟨ob, q1, q2⟩ := fl5.there
  refine takes_own (K := X.K) I5.kIn ⟨ob, q1, q2⟩ hc ?_
  exact k h5 I5 fun A' Q' E' kk => lands_againW fl5 fun h6 fl6 sm6 => kk h6 (land h6 fl6 ((sm4.trans sm5).trans sm6))
theorem ps_tryAs (hst : X.stack = X.env :: X.outer) (hfr : X.env.frame = some X.env.locals) (hb : PSsx X body tb) (hm : X.mg sx = some (.ref S)) (hN : X.N.Nodup) (hi : X.N[i]? = some n) (hl : X.env.scope.names.lookup n = some .local) (hs : ∀ x, PSs (X.inX x) (b₀ :: suite) ts)
    (hg : Gl X sx := by rfl) (hdb : (sx == ("__debug__" : Str)) = false := by decide) : PS X (.Try body [.ExceptHandler (some (.Name sx np)) (some n) (b₀ :: suite) hpos] [] [] pos) (tTryAs X.K S i tb ts) := by
  intro pins s σ H D I h
  refine wpAny_Try_except (wpAny_mono (hb pins s σ H D _ I h) (fun f s1 q => ?_) fun e s1 q => ?_)
  · cases f with
    | next => exact wpAny_execs_nil q
    | ret v => exact q
    | brk => exact q
    | cont => exact q
  · obtain ⟨σ', Hb, sb, Ib, x, T, C, H', rfl, os, bare, un, ok, fly, C', hC', hcat, hsu⟩ := q
    cases hC'
    refine to_clause hst hfr hm hg hdb Ib os bare un ok fly hcat fun h5 I5 fl => ?_
    refine codeAny_handlers_suite_as (fl _ _ _ fun h6 I6 => ?_)
    refine store_ok (X := X.inX x) (v := .ref x) (I6.inX x) hN hi (.inl hl) rfl (fun s7 I7 => ?_) (.inr hl)
    refine wpAny_mono (hs x pins s7 _ _ _ I7 (hsu x fly.hx)) (fun f s8 q => ?_) fun _ _ z => z.elim
    have q := q.outX Ib.ok
    cases f with
    | next =>
      obtain ⟨σ2, H2, I8, q⟩ := q
      exact goes_ok I8 hN hi hl fun s9 I9 => ⟨_, H2, I9, q⟩
    | brk =>
      obtain ⟨σ2, H2, I8, q⟩ := q
      exact goes_ok I8 hN hi hl fun s9 I9 => ⟨_, H2, I9, q⟩
    | cont =>
      obtain ⟨σ2, H2, I8, q⟩ := q
      exact goes_ok I8 hN hi hl fun s9 I9 => ⟨_, H2, I9, q⟩
    | ret u =>
      obtain ⟨v, σ2, H2, I8, r, q⟩ := q
      exact goes_ok I8 hN hi hl fun s9 I9 => ⟨v, _, H2, I9, r, q⟩
theorem ps_try0 (hst : X.stack = X.env :: X.outer) (hfr : X.env.frame = some X.env.locals) (hb : PSsx X body tb) (hm : X.mg sx = some (.ref S)) (hs : ∀ x, PSs (X.inX x) (b₀ :: suite) ts)
    (hg : Gl X sx := by rfl) (hdb : (sx == ("__debug__" : Str)) = false := by decide) : PS X (.Try body [.ExceptHandler (some (.Name sx np)) none (b₀ :: suite) hpos] [] [] pos) (tTry0 X.K S tb ts) := by
  intro pins s σ H D I h
  refine wpAny_Try_except (wpAny_mono (hb pins s σ H D _ I h) (fun f s1 q => ?_) fun e s1 q => ?_)
  · cases f with
    | next => exact wpAny_execs_nil q
    | ret v => exact q
    | brk => exact q
    | cont => exact q
  · obtain ⟨σ', Hb, sb, Ib, x, T, C, H', rfl, os, bare, un, ok, fly, C', hC', hcat, hsu⟩ := q
    cases hC'
    refine to_clause hst hfr hm hg hdb Ib os bare un ok fly hcat fun h5 I5 fl => ?_
    refine codeAny_handlers_suite (fl _ _ _ fun h6 I6 => ?_)
    exact wpAny_mono (hs x pins _ _ _ _ (I6.inX x) (hsu x fly.hx)) (fun f s8 q => q.outX Ib.ok) fun _ _ z => z.elim
end
end L2

namespace L2
open PySem PySem.Spec PyProof.Rows

/-! ### defs that may be called within an except suite too: no walk in them, no exception leaves them -/
structure RoomN (k : Nat) (A : Around) : Prop where
  dp : A.depth + 3 * k + 5 < recursionLimit
  un : A.units + 16 * k + 200 < cLine
theorem Room.n {k : Nat} {A : Around} (r : Room k A) : RoomN k A := ⟨r.dp, r.un⟩
theorem Room.nX {k : Nat} {A : Around} (r : Room k A) (x : Addr) : RoomN k (A.mark (some (.ref x))) := ⟨r.dp, r.un⟩
theorem RoomN.mono {j k : Nat} {A : Around} (r : RoomN k A) (h : j ≤ k) : RoomN j A := ⟨by have := r.dp; omega, by have := r.un; omega⟩
theorem RoomN.deeper {k : Nat} {A : Around} (r : RoomN (k + 1) A) (env : Env) : RoomN k (A.deeper env) := ⟨by have := r.dp; show A.depth + 1 + 3 * k + 5 < _; omega, by have := r.un; show A.units + 3 + 16 * k + 200 < _; omega⟩
structure FnOkN (P : Program) (w : World) (K : PySem.W.Frag) (mg : Str → Option Value) (base : Heap) (k : Nat) (f : Addr) (fd : FuncData) (ps : List Str) (sp : Sp) : Prop where
  len : ∀ vs H Q E, sp vs H Q E → vs.length = ps.length
  run : ∀ (A : Around) (outer : List Env) (s : Shared) (H : Hp) (args : Args) (us : List Value) (vs : List V) (Q : VK) (E : XK), RoomN k A → Env0 P w K mg base A outer s H → BindsTo s fd args (ps.zip us) → Vals vs us → sp vs H Q E →
    codeAny (model P w) A (.call (.ref f) args) (CR CX0 outer P w H s Q E) s
theorem FnOkN.ok {P : Program} {w : World} {K : PySem.W.Frag} {mg : Str → Option Value} {base : Heap} {k : Nat} {f : Addr} {fd : FuncData} {ps : List Str} {sp : Sp} (F : FnOkN P w K mg base k f fd ps sp) : FnOk P w K mg base CX0 k f fd ps sp :=
  ⟨F.len, fun A outer s H args us vs Q E hr => F.run A outer s H args us vs Q E hr.n⟩
def cxN (P : Program) (w : World) (K : PySem.W.Frag) (mg : Str → Option Value) (base : Heap) (N : List Str) (qual : Str) (scope : Scope) (f : Addr) (cd : Value) (A : Around) (outer : List Env) (s : Shared) (H : Hp) : Cx :=
  { cxOf CX0 P w K mg base N qual scope f cd A outer s H E0 with calm := false, xe := fun _ _ => False }
section
variable {P : Program} {w : World} {K : PySem.W.Frag} {mg : Str → Option Value} {base : Heap}
theorem Fun.okN {x qual : Str} {st : Stmt} {f : Addr} {fd : FuncData} {N ps : List Str} {k : Nat} {sp : Sp} (F : Fun K x qual st f fd) (S : FnScope N ps (defScope st)) (len : ∀ vs H Q E, sp vs H Q E → vs.length = ps.length)
    (hbody : ∀ (cdv : Value) (A : Around) (outer : List Env) (s : Shared) (H : Hp) (vs : List V) (Q : VK) (E : XK), RoomN k (A.deeper (envOfC qual (defScope st) s.heap.objs.size f cdv)) → sp vs H Q E →
      ∃ t, PSs (cxN P w K mg base N qual (defScope st) f cdv A outer s H) (defBody st) t ∧ t { nx := fun _ H' => Q .non H', rt := Q } (start N vs) H) : FnOkN P w K mg base (k + 1) f fd ps sp := by
  obtain ⟨oc, od, kV, doc, pm, an, cdv, ct, osl, rfl, lk, hcd⟩ := F.ex
  refine ⟨len, fun A outer s H args us vs Q E hr e0 hb r hsp => ?_⟩
  have hl := len _ _ _ _ hsp
  have KX : K.In s.heap := e0.mod.kin.keeps fun b o e => (e0.bs b o e).1
  have lim : s.heap.NoLimit := e0.mod.nolimit.keeps fun b o e => (e0.bs b o e).1
  have hkind : ∀ y ∈ ps.zip us, (defScope st).names.lookup y.1 = some .local ∨ ((defScope st).names.lookup y.1 = some .cell ∧ ((cellsFrom (s.heap.objs.size + 1) (defScope st).names []).lookup y.1).isSome = true) := fun ⟨n, v⟩ hy => by
    rcases S.par n (List.of_mem_zip hy).1 with q | q
    · exact .inl q
    · exact .inr ⟨q, PySem.W.cellsFrom_some _ _ _ (.inl q)⟩
  refine codeAny_call_function (by have := hr.dp; omega) (KX _ _ lk) rfl S.co S.gen rfl (PySem.W.codeRec_of KX hcd) (hb _ _ _ _ ?_)
  refine wpAny_newFunctionEnv_cells S.kind hkind fun env he s1 x => ?_
  subst he
  refine ⟨lim.keeps x.toInCall.keep, codeAny_func ?_⟩
  obtain ⟨t, ht, hq⟩ := hbody cdv A outer s H vs Q E (hr.deeper _) hsp
  have J : Inv (cxOf CX0 P w K mg base N qual (defScope st) f cdv { A with handled := none } outer s H E0) [] (start N vs) H s1 := inv_start S rfl ⟨e0.frames, e0.mod, e0.bs, e0.bsz, e0.funs, e0.frf, e0.hok, e0.bare⟩ hl r x
  have I : Inv (cxN P w K mg base N qual (defScope st) f cdv A outer s H) [] (start N vs) H s1 :=
    ⟨⟨J.ok.mod, J.ok.kind, J.ok.glob, J.ok.blt, J.ok.above, J.ok.inj, J.ok.has, J.ok.cab, (fun z => by cases z), Around.frames_deeper e0.frames, J.ok.stk, J.ok.exf, J.ok.bs, J.ok.bsz, J.ok.noex, J.ok.exfs, J.ok.funs, J.ok.frf⟩, J.os, J.bare, J.base, J.loc, J.cell, J.free, J.freeC, J.pin, J.hok, J.len⟩
  refine wpAny_mono (ht [] s1 (start N vs) H _ I hq) (fun fl s' hs => ?_) fun e s' hs => hs.elim
  have fin : ∀ {σ' : St} {H' : Hp} {v : V} {u : Value}, Inv (cxN P w K mg base N qual (defScope st) f cdv A outer s H) [] σ' H' s' → RelV v u → Q v H' → CE outer P w H s Q u s' :=
    fun {σ' H' v u} J rv q => ⟨v, H', J.os, J.bare, J.base, J.hok, rv, q⟩
  cases fl with
  | ret u =>
    obtain ⟨v, σ', H', J, rv, q⟩ := hs
    exact fin J rv q
  | next =>
    obtain ⟨σ', H', J, q⟩ := hs
    exact fin (v := V.non) (u := Value.none) J rfl q
  | brk =>
    obtain ⟨_, _, _, q⟩ := hs
    exact False.elim q
  | cont =>
    obtain ⟨_, _, _, q⟩ := hs
    exact False.elim q
/-- the def of the text, that may raise: its body as a term of rules, and the reading of that term -/
theorem Fun.okX {x qual : Str} {st : Stmt} {f : Addr} {fd : FuncData} {N ps : List Str} {k : Nat} {sp : Sp} (F : Fun K x qual st f fd) (S : FnScope N ps (defScope st)) (len : ∀ vs H Q E, sp vs H Q E → vs.length = ps.length)
    (hbody : ∀ (cdv : Value) (A : Around) (outer : List Env) (s : Shared) (H : Hp) (vs : List V) (Q : VK) (E : XK), Room k (A.deeper (envOfC qual (defScope st) s.heap.objs.size f cdv)) → sp vs H Q E →
      ∃ t, PSs (cxOf (CXx P w) P w K mg base N qual (defScope st) f cdv A outer s H E) (defBody st) t ∧ t { nx := fun _ H' => Q .non H', rt := Q } (start N vs) H) : FnOk P w K mg base (CXx P w) (k + 1) f fd ps sp := by
  obtain ⟨oc, od, kV, doc, pm, an, cdv, ct, osl, rfl, lk, hcd⟩ := F.ex
  exact fn_of lk hcd S len fun A outer s H vs Q E hr hsp => hbody cdv A outer s H vs Q E hr hsp
end
def GdN (P : Program) (w : World) (K : PySem.W.Frag) (mg : Str → Option Value) (base : Heap) (k : Nat) (x : Str) (ps : List Str) (sp : Sp) : Prop :=
  ∃ f fd, FnOkN P w K mg base k f fd ps sp ∧ mg x = some (.ref f) ∧ PySem.W.keepIn K (.ref f) = true ∧ Binds K fd ps []
theorem GdN.g {P : Program} {w : World} {K : PySem.W.Frag} {mg : Str → Option Value} {base : Heap} {k : Nat} {x : Str} {ps : List Str} {sp : Sp} (G : GdN P w K mg base k x ps sp) : Gd P w K mg base CX0 k x ps sp := by
  obtain ⟨f, fd, F, r⟩ := G
  exact ⟨f, fd, F.ok, r⟩
section
variable {X : Cx} {k : Nat} {x : Str} {ps : List Str} {sp : Sp} {p pos : Pos} {e : Expr} {es : List Expr} {t : TA}
theorem pe_callN (G : GdN X.prog X.w X.K X.mg X.base k x ps sp) (hr : RoomN k X.A) (ha : PA X (e :: es) t) (hg : Gl X x := by rfl) (hdb : (x == ("__debug__" : Str)) = false := by decide)
    (he : starEach (e :: es) X.env = (false, eval e X.env) :: starEach es X.env := by rfl) (hpl : (backTo pos (starEach es X.env)).any (·.1) = false := by rfl) :
    PE X (.Call (.Name x p) (e :: es) [] pos) (tCall sp [] E0 t) := by
  intro pins s σ H Q I h
  obtain ⟨f, fd, F, hm, hk, hb⟩ := G
  refine wpAny_Call_Name_kw (ld_glob I hg hm ?_ hdb)
  refine PySem.W.callWith_K (h₀ := X.base) I.ok.mod.kin hk (thn (ha pos pins s σ H _ I h) fun us s1 q => ?_) he hpl
  obtain ⟨vs, H1, I1, r, q⟩ := q
  refine ⟨I1.kIn, ?_⟩
  have r2 : Vals (vs ++ []) (us ++ []) := r.append .nil
  have hl : (us ++ []).length = ps.length := by rw [← r2.length]; exact F.len _ _ _ _ q
  refine wpAny_call (codeAny_mono (F.run X.A X.stack s1 H1 ⟨us, []⟩ (us ++ []) (vs ++ []) Q E0 hr I1.env0 (hb s1 us I1.kIn hl) r2 q) fun r s' hq => ?_)
  cases r with
  | error e => exact False.elim hq
  | ok fl =>
    cases fl with
    | ret u => exact I1.after hq
    | next => exact False.elim hq
    | brk => exact False.elim hq
    | cont => exact False.elim hq
end
end L2

namespace L2
open PySem PySem.Spec PyProof.Rows

/-! ### x = f(..) within a try -/
section
variable {X : Cx} {k : Nat} {x : Str} {ps : List Str} {sp : Sp} {p pos pos' : Pos} {e : Expr} {es : List Expr} {ta : TA} {i : Nat} {y : Str} {py : Pos}
end

/-! ### the signs -/
def SG : List Nat := [32, 48, 49, 50, 51, 52, 53, 54, 55, 56, 57, 65, 66, 67, 68, 69, 70, 71, 72, 73, 74, 75, 76, 77, 78, 79, 80, 81, 82, 83, 84, 85, 86, 87, 88, 89, 90]
def AnyL : List Nat := [32, 33, 34, 35, 36, 38, 39, 40, 41, 42, 43, 44, 45, 46, 47, 48, 49, 50, 51, 52, 53, 54, 55, 56, 57, 58, 59, 60, 61, 62, 63, 64, 65, 66, 67, 68, 69, 70, 71, 72, 73, 74, 75, 76, 77, 78, 79, 80, 81, 82, 83, 84, 85, 86, 87, 88, 89, 90, 91, 92, 93, 94, 95, 96]
def AnyM : List Nat := [97, 98, 99, 100, 101, 102, 103, 104, 105, 106, 107, 108, 109, 110, 111, 112, 113, 114, 115, 116, 117, 118, 119, 120, 121, 122, 123, 124, 125, 126, 10, 9]
theorem any_small : ∀ c ∈ AnyL ++ AnyM, c < 128 := by decide
theorem any_len : (AnyL ++ AnyM).length = 96 := by decide
theorem sg_len : SG.length = 37 := by decide
/-- the rank of a text that is a sign -/
def rk (l : List Nat) : Option Nat := match l with | [c] => SG.findIdx? (· == c) | _ => none
theorem sg_small : ∀ c ∈ SG, c < 128 := by decide
theorem sg_mem (c : Nat) : c ∈ SG ↔ (SG.findIdx? (· == c)).isSome = true := by
  rw [List.findIdx?_isSome, List.any_eq_true]
  constructor
  · intro h; exact ⟨c, h, by simp⟩
  · rintro ⟨d, h, e⟩; rw [beq_iff_eq] at e; rw [← e]; exact h
theorem repr_small {l : List Nat} (hl : l.length ≤ 1000) (hc : ∀ c ∈ l, c < 128) : (reprText ⟨l.toArray⟩).length ≤ 10002 := by
  have := StrLaws.reprText_len ⟨l.toArray⟩ (by intro c h; exact Nat.lt_trans (hc c (by simpa using h)) (by decide))
  have e : (⟨l.toArray⟩ : Str).length = l.length := by simp [Str.length]
  omega
theorem app_len (a b : Str) : (a ++ b).length = a.length + b.length := by
  rw [str_app]; simp [Str.length]

/-! ### for k, cell in enumerate([0] + script[:m]) -/
theorem for_script {K : PySem.W.Frag} {m i j : Nat} {tb : TS} {D : Ends} {σ : St} {H : Hp} {a : Addr} {ns : List Int} (h0 : σ[0]? = some (some (.ref a))) (hS : SqL K H a (ns.map V.int)) (hl : ns.length ≤ 63) (P : Nat → St → Hp → Prop) (hP : ∀ H', Same H H' → P 0 σ H')
    (hmono : ∀ k σ1 H1 H2, Same H1 H2 → P k σ1 H1 → P k σ1 H2)
    (step : ∀ (k : Nat) (c : Int) (σ1 : St) (H1 : Hp), k < 64 → Same H H1 → P k σ1 H1 → ∀ nx : St → Hp → Prop, (∀ σ' H', Same H1 H' → P (k + 1) σ' H' → nx σ' H') → tb { D with nx := nx, ct := nx, bk := D.nx } ((σ1.set i (some (.int k))).set j (some (.int c))) H1)
    (done : ∀ n σ1 H1, Same H H1 → P n σ1 H1 → D.nx σ1 H1) :
    tFor (iEnum K (tCons (tOp mAdd (tLst (tCons (tC (.int 0)) tNil)) (tSl (mSl K) (mVar 0) tNoPart (mPart (tC (.int (m : Int)))))) tNil)) (gTupM K 2 (gConsM (gName i) (gConsM (gName j) gNilM))) tb D σ H := by
  refine (show 1 ≤ sizeLine ∧ _ from ⟨by decide, fun p1 hp1 => ?_⟩)
  have g1 := same_new hp1 (.lst [.int 0])
  show mVar 0 σ _ _
  unfold mVar
  rw [h0]
  refine ⟨_, g1.seq hS, fun p2 hp2 => ?_⟩
  have g2 := same_new hp2 (.lst (cutV (ns.map V.int) none (some (m : Int))))
  have hcut : cutV (ns.map V.int) none (some (m : Int)) = (ns.take m).map V.int := by rw [cutV_to, List.map_take]
  refine ⟨_, _, g2 _ _ upd_same, upd_same, ?_, fun p3 hp3 => ?_⟩
  · rw [hcut, List.length_map, List.length_take, List.length_singleton]
    exact small_n (by omega)
  have g3 := same_new hp3 (.lst ([.int 0] ++ cutV (ns.map V.int) none (some (m : Int))))
  have g := (g1.trans g2).trans g3
  generalize hxs : ([.int 0] ++ cutV (ns.map V.int) none (some (m : Int)) : List V) = xs at *
  have hxl : xs.length ≤ 64 := by rw [← hxs, hcut, List.length_append, List.length_map, List.length_take, List.length_singleton]; omega
  have hxi : ∀ (i : Nat) (x : V), xs[i]? = some x → ∃ c : Int, x = V.int c := by
    intro i x hx
    have e : xs = (0 :: ns.take m).map V.int := by rw [← hxs, hcut]; rfl
    rw [e, List.getElem?_map] at hx
    cases e2 : (0 :: ns.take m)[i]? with
    | none => rw [e2] at hx; cases hx
    | some c => rw [e2] at hx; cases hx; exact ⟨c, rfl⟩
  generalize hH3 : upd (upd (upd H p1 (.lst [.int 0])) p2 (.lst (cutV (ns.map V.int) none (some (m : Int))))) p3 (.lst xs) = H3 at *
  have hl3 : H3 p3 = some (.lst xs) := by rw [← hH3]; exact upd_same
  refine ⟨⟨xs, SqL.of hl3⟩, ?_⟩
  refine for_enumL (xs := xs) (fun i σ H' => Same H3 H' ∧ P i σ H') ⟨Same.refl _, hP _ g⟩ ?_ ?_ ?_
  · rintro i σ H' _ ⟨g, _⟩
    exact g.seq (SqL.of hl3)
  · rintro k x σ1 H' p hx ⟨g4, hp⟩ hpn
    obtain ⟨c, rfl⟩ := hxi k x hx
    have hk : k < 64 := Nat.lt_of_lt_of_le (List.getElem?_eq_some_iff.mp hx).1 hxl
    have g5 := same_new hpn (.tup [.int k, .int c])
    refine unpack2 (SqT.of upd_same) ?_
    exact step k c σ1 _ hk ((g.trans g4).trans g5) (hmono _ _ _ _ g5 hp) _ fun σ' H2 g6 hp2 => ⟨(g4.trans g5).trans g6, hp2⟩
  · rintro σ1 H' ⟨g4, hp⟩
    exact done _ σ1 H' (g.trans g4) hp
end L2

namespace L2
open PySem PySem.Spec PyProof.Rows

/-! ### all, any -/
section
variable {X : Cx}
def mAll (K : PySem.W.Frag) : List V → Hp → VK → Prop := fun xs H Q => match xs with | [.ref p] => ∃ bs : List Bool, SqL K H p (bs.map V.bl) ∧ Q (.bl (bs.all id)) H | _ => False
def mAny (K : PySem.W.Frag) : List V → Hp → VK → Prop := fun xs H Q => match xs with | [.ref p] => ∃ bs : List Bool, SqL K H p (bs.map V.bl) ∧ Q (.bl (bs.any id)) H | _ => False
theorem vals_bools : ∀ {bs : List Bool} {us : List Value}, Vals (bs.map V.bl) us → us = bs.map Value.bool
  | [], _, .nil => rfl
  | b :: bs, _, .cons r t => by rw [vals_bools t]; cases r; rfl
theorem truth_bools {P : Program} {w : World} {A : Around} {bs : List Bool} : TruthOf P w A (fun i v => (bs.map Value.bool).toArray[i]? = some v) (fun i => bs.getD i false) := by
  intro i v s Q E h q
  have h' : (bs.map Value.bool)[i]? = some v := by simpa using h
  rw [List.getElem?_map] at h'
  cases e : bs[i]? with
  | none => rw [e] at h'; cases h'
  | some b =>
    rw [e] at h'
    cases h'
    have : bs.getD i false = b := by rw [List.getD_eq_getElem?_getD, e]; rfl
    have q : Q (bs.getD i false) s := q
    rw [this] at q
    exact wpAny_truthy_bool q
theorem range_all_getD (bs : List Bool) : (List.range bs.length).all (fun i => bs.getD i false) = bs.all id := by
  rw [Bool.eq_iff_iff, List.all_eq_true, List.all_eq_true]
  constructor
  · intro h b hb
    obtain ⟨i, hi, e⟩ := List.getElem_of_mem hb
    have := h i (List.mem_range.mpr hi)
    rw [List.getD_eq_getElem?_getD, List.getElem?_eq_getElem hi] at this
    rw [← e]; exact this
  · intro h i hi
    have hi := List.mem_range.mp hi
    rw [List.getD_eq_getElem?_getD, List.getElem?_eq_getElem hi]
    exact h _ (List.getElem_mem hi)
theorem range_any_getD (bs : List Bool) : (List.range bs.length).any (fun i => bs.getD i false) = bs.any id := by
  rw [Bool.eq_iff_iff, List.any_eq_true, List.any_eq_true]
  constructor
  · rintro ⟨i, hi, h⟩
    have hi := List.mem_range.mp hi
    rw [List.getD_eq_getElem?_getD, List.getElem?_eq_getElem hi] at h
    exact ⟨_, List.getElem_mem hi, h⟩
  · rintro ⟨b, hb, h⟩
    obtain ⟨i, hi, e⟩ := List.getElem_of_mem hb
    refine ⟨i, List.mem_range.mpr hi, ?_⟩
    rw [List.getD_eq_getElem?_getD, List.getElem?_eq_getElem hi]
    show bs[i] = true
    rw [e]; exact h
theorem call_allM (hc : X.calm = true) : CallR X (.builtin "all") (mAll X.K) := by
  intro pins s σ H xs us Q I r h
  unfold mAll at h
  split at h
  · rename_i p
    obtain ⟨bs, hS, q⟩ := h
    obtain ⟨u, rfl, rx⟩ := vals1 r
    cases rx
    obtain ⟨its, rv, pl, hz⟩ := I.list hS
    rw [vals_bools rv] at pl
    have hp := Heap.lt_size pl.isList.choose_spec.1
    have hne : p ≠ s.heap.objs.size := Nat.ne_of_lt hp
    refine call_all_walk (wpAny_pyIter_list pl.isList ⟨_, _, _, _, _, _, _, rfl, Walks.list (A := X.A.in1) (I.ok.hd hc) _ p hne (bs.map Value.bool).toArray, ⟨⟨_, Heap.get?_push_size _ rfl, rfl, rfl⟩, pl.isList.at fun o e => Heap.get?_push_of_some _ e⟩, truth_bools, fun h' tk kk => ?_⟩)
    refine ⟨.bl (bs.all id), H, I.kept (t' := tk) fun b o e => kk b o (by simpa using Nat.ne_of_lt (Heap.lt_size e)) (Heap.get?_push_of_some _ e), ?_, q⟩
    show Value.bool _ = _
    rw [List.size_toArray, List.length_map, range_all_getD]
  · exact h.elim
theorem call_anyM (hc : X.calm = true) : CallR X (.builtin "any") (mAny X.K) := by
  intro pins s σ H xs us Q I r h
  unfold mAny at h
  split at h
  · rename_i p
    obtain ⟨bs, hS, q⟩ := h
    obtain ⟨u, rfl, rx⟩ := vals1 r
    cases rx
    obtain ⟨its, rv, pl, hz⟩ := I.list hS
    rw [vals_bools rv] at pl
    have hp := Heap.lt_size pl.isList.choose_spec.1
    have hne : p ≠ s.heap.objs.size := Nat.ne_of_lt hp
    refine call_any_walk (wpAny_pyIter_list pl.isList ⟨_, _, _, _, _, _, _, rfl, Walks.list (A := X.A.in1) (I.ok.hd hc) _ p hne (bs.map Value.bool).toArray, ⟨⟨_, Heap.get?_push_size _ rfl, rfl, rfl⟩, pl.isList.at fun o e => Heap.get?_push_of_some _ e⟩, truth_bools, fun h' tk kk => ?_⟩)
    refine ⟨.bl (bs.any id), H, I.kept (t' := tk) fun b o e => kk b o (by simpa using Nat.ne_of_lt (Heap.lt_size e)) (Heap.get?_push_of_some _ e), ?_, q⟩
    show Value.bool _ = _
    rw [List.size_toArray, List.length_map, range_any_getD]
  · exact h.elim
end

/-! ### range as a value, list of it -/
section
variable {X : Cx}
def mRange : List V → Hp → VK → Prop := fun xs H Q => match xs with
  | [.int j] => ∀ p, H p = none → Q (.ref p) (upd H p (.rng 0 j))
  | [.int i, .int j] => ∀ p, H p = none → Q (.ref p) (upd H p (.rng i j))
  | _ => False
theorem call_rangeM : CallR X (.type "range") mRange := by
  intro pins s σ H xs us Q I r h
  unfold mRange at h
  split at h
  · rename_i j
    obtain ⟨u, rfl, t, rfl⟩ := vals1 r
    refine call_range_1 ⟨.ref s.heap.objs.size, _, I.laid (o := .rng 0 j) (fun b ob q => Heap.get?_push_of_some _ q) (Nat.le_refl _) ?_, rfl, h _ (I.hok.fresh (Nat.le_refl _))⟩
    exact ⟨_, _, _, Heap.get?_push_size _ rfl⟩
  · rename_i i j
    obtain ⟨u, u', rfl, ⟨t, rfl⟩, ⟨t', rfl⟩⟩ := vals2 r
    refine call_range_2 ⟨.ref s.heap.objs.size, _, I.laid (o := .rng i j) (fun b ob q => Heap.get?_push_of_some _ q) (Nat.le_refl _) ?_, rfl, h _ (I.hok.fresh (Nat.le_refl _))⟩
    exact ⟨_, _, _, Heap.get?_push_size _ rfl⟩
  · exact h.elim
/-- the ints from lo on, below hi -/
def intsV (lo hi : Int) : List V := (List.range (hi - lo).toNat).map fun (i : Nat) => V.int (lo + i)
def mList (K : PySem.W.Frag) : List V → Hp → VK → Prop := fun xs H Q => match xs with
  | [.ref p] => (∃ ys, (SqL K H p ys ∨ SqT K H p ys) ∧ ∀ l, H l = none → Q (.ref l) (upd H l (.lst ys))) ∨
      (∃ lo hi, H p = some (.rng lo hi) ∧ (-50000 ≤ lo ∧ lo ≤ 50000 ∧ -50000 ≤ hi ∧ hi ≤ 50000) ∧ ∀ l, H l = none → Q (.ref l) (upd H l (.lst (intsV lo hi))))
  | _ => False
theorem vals_rng {lo : Int} : ∀ {n : Nat} {us : List Value}, us.length = n → (∀ (j : Nat) (v : Value), us[j]? = some v → ∃ t, v = Value.int (lo + j) t) → Vals ((List.range n).map fun (i : Nat) => V.int (lo + i)) us
  | n, us, hl, h => by
    refine paired_of (by rw [List.length_map, List.length_range, hl]) fun j x u hx hu => ?_
    rw [List.getElem?_map] at hx
    cases e : (List.range n)[j]? with
    | none => rw [e] at hx; cases hx
    | some i =>
      rw [e] at hx; cases hx
      have := List.getElem?_eq_some_iff.mp e
      obtain ⟨hj, ej⟩ := this
      rw [List.getElem_range] at ej
      subst ej
      exact h j u hu
  where paired_of : ∀ {xs : List V} {us : List Value}, xs.length = us.length → (∀ (j : Nat) x u, xs[j]? = some x → us[j]? = some u → RelV x u) → Vals xs us
  | [], [], _, _ => .nil
  | x :: xs, u :: us, hl, h => .cons (h 0 x u rfl rfl) (paired_of (Nat.succ.inj hl) fun j x u a b => h (j + 1) x u a b)
theorem call_listM (hc : X.calm = true) : CallR X (.type "list") (mList X.K) := by
  intro pins s σ H xs us Q I r h
  unfold mList at h
  split at h
  · rename_i p
    rcases h with ⟨ys, hq, q⟩ | ⟨lo, hi, hp, ⟨h1, h2, h3, h4⟩, q⟩
    · exact call_list_of pins s σ H _ us Q I r ⟨p, ys, rfl, hq, q⟩
    · obtain ⟨u, rfl, rx⟩ := vals1 r
      cases rx
      obtain ⟨t, u, v, e⟩ := I.hok p _ hp
      have hn : Builtin.Range.rangeSize lo hi 1 = (((hi - lo).toNat : Nat) : Int) := by rw [rangeSize_one]; split <;> omega
      refine call_list_range (I.ok.hd hc) e (small_one (by omega) (by omega) (by omega) (by omega)) hn (by omega) fun h' tk acc c' kp e' ⟨hs, hi'⟩ => ?_
      refine ⟨.ref s.heap.objs.size, _, I.laid (o := .lst (intsV lo hi)) (t' := tk) kp (Nat.le_refl _) ?_, rfl, q _ (I.hok.fresh (Nat.le_refl _))⟩
      refine ⟨?_, acc.toList, c', vals_rng (by simpa using hs) (fun j v hv => ?_), by simpa using e'⟩
      · unfold intsV; rw [List.length_map, List.length_range]; exact small_n (by omega)
      · obtain ⟨t, ht⟩ := hi' j v (by simpa using hv)
        exact ⟨t, by rw [ht]; simp⟩
  · exact h.elim
end

/-! ### == of sequences, as deep as they go -/
inductive EqD (K : PySem.W.Frag) (H : Hp) : Nat → V → V → Bool → Prop
  | flat {x y : V} (hx : flatV x = true) (hy : flatV y = true) : EqD K H 0 x y (eqV x y)
  | lst {n : Nat} {p q : Addr} {xs ys : List V} (e : Nat → Bool) (hp : SqL K H p xs) (hq : SqL K H q ys) (hl : xs.length = ys.length) (h : ∀ (i : Nat) x y, xs[i]? = some x → ys[i]? = some y → EqD K H n x y (e i)) : EqD K H (n + 1) (.ref p) (.ref q) ((List.range xs.length).all e)
  | lstN {n : Nat} {p q : Addr} {xs ys : List V} (hp : SqL K H p xs) (hq : SqL K H q ys) (hl : xs.length ≠ ys.length) : EqD K H n (.ref p) (.ref q) false
  | tup {n : Nat} {p q : Addr} {xs ys : List V} (e : Nat → Bool) (hp : SqT K H p xs) (hq : SqT K H q ys) (h : ∀ (i : Nat) x y, xs[i]? = some x → ys[i]? = some y → EqD K H n x y (e i)) : EqD K H (n + 1) (.ref p) (.ref q) ((List.range (min xs.length ys.length)).all e && xs.length == ys.length)
  | lt {n : Nat} {p q : Addr} {xs ys : List V} (hp : SqL K H p xs) (hq : SqT K H q ys) : EqD K H n (.ref p) (.ref q) false
  | tl {n : Nat} {p q : Addr} {xs ys : List V} (hp : SqT K H p xs) (hq : SqL K H q ys) : EqD K H n (.ref p) (.ref q) false
  | lf {n : Nat} {p : Addr} {xs : List V} {y : V} (hp : SqL K H p xs) (hy : flatV y = true) : EqD K H n (.ref p) y false
  | fl {n : Nat} {p : Addr} {xs : List V} {y : V} (hp : SqL K H p xs) (hy : flatV y = true) : EqD K H n y (.ref p) false
  | tf {n : Nat} {p : Addr} {xs : List V} {y : V} (hp : SqT K H p xs) (hy : flatV y = true) : EqD K H n (.ref p) y false
  | ft {n : Nat} {p : Addr} {xs : List V} {y : V} (hp : SqT K H p xs) (hy : flatV y = true) : EqD K H n y (.ref p) false
  | up {n : Nat} {x y : V} {b : Bool} (h : EqD K H n x y b) : EqD K H (n + 1) x y b
section
variable {X : Cx} {pins : List (Addr × Obj)} {σ : St} {H : Hp} {s : Shared}
theorem vals_at {xs : List V} {us : List Value} (r : Vals xs us) {i : Nat} (h : i < us.toArray.size) : ∃ x, xs[i]? = some x ∧ RelV x us.toArray[i] := by
  have hi : i < us.length := by simpa using h
  have hl := r.length
  obtain ⟨u, hu, ru⟩ := r.get (List.getElem?_eq_getElem (show i < xs.length by omega))
  refine ⟨_, List.getElem?_eq_getElem (by omega), ?_⟩
  rw [List.getElem?_eq_getElem hi] at hu
  cases hu
  simpa using ru
theorem eqd_same (I : Inv X pins σ H s) {n : Nat} {x y : V} {b : Bool} (h : EqD X.K H n x y b) : x = y → b = true := by
  induction h with
  | flat hx hy =>
    rename_i x y
    rintro rfl
    cases x <;> first | (cases hx; done) | (simp [eqV]; done) | rfl
  | lst e hp hq hl h ih =>
    rename_i n p q xs ys
    intro e0
    cases e0
    have exy := I.list_inj hp hq
    subst exy
    rw [List.all_eq_true]
    intro i hi
    have hi := List.mem_range.mp hi
    exact ih i _ _ (List.getElem?_eq_getElem hi) (List.getElem?_eq_getElem hi) rfl
  | lstN hp hq hl =>
    intro e0
    cases e0
    exact absurd (by rw [I.list_inj hp hq]) hl
  | tup e hp hq h ih =>
    rename_i n p q xs ys
    intro e0
    cases e0
    have exy := I.tuple_inj hp hq
    subst exy
    rw [Bool.and_eq_true, List.all_eq_true]
    refine ⟨?_, by simp⟩
    intro i hi
    have hi := List.mem_range.mp hi
    have hi : i < xs.length := by omega
    exact ih i _ _ (List.getElem?_eq_getElem hi) (List.getElem?_eq_getElem hi) rfl
  | lt hp hq =>
    intro e0
    cases e0
    obtain ⟨its, r1, p1, z1⟩ := I.list hp
    obtain ⟨its2, r2, p2, z2⟩ := I.tuple hq
    exact absurd rfl (SeqAt.ne_of_list_tuple p1.isList p2)
  | tl hp hq =>
    intro e0
    cases e0
    obtain ⟨its, r1, p1, z1⟩ := I.tuple hp
    obtain ⟨its2, r2, p2, z2⟩ := I.list hq
    exact absurd rfl (SeqAt.ne_of_list_tuple p2.isList p1)
  | lf hp hy => rintro rfl; cases hy
  | fl hp hy => rintro rfl; cases hy
  | tf hp hy => rintro rfl; cases hy
  | ft hp hy => rintro rfl; cases hy
  | up h ih => exact ih
/-- what == tells, at the top and within -/
theorem eqd_rc (I : Inv X pins σ H s) {n : Nat} {x y : V} {b : Bool} (h : EqD X.K H n x y b) : ∀ (A : Around) (v u : Value), A.units + n < cLine → RelV x v → RelV y u →
    SeqAt.EqAt A s v u b ∧ (∀ p q, x = .ref p → y = .ref q → SeqAt.RcAt A s v u b) := by
  induction h with
  | flat hx hy =>
    intro A v u _ rx ry
    refine ⟨eqAt_V rx ry hx hy, fun p q e _ => ?_⟩
    subst e; cases hx
  | lst e hp hq hl h ih =>
    rename_i n p q xs ys
    intro A v u hu rx ry
    cases rx; cases ry
    obtain ⟨its, r1, p1, z1⟩ := I.list hp
    obtain ⟨its2, r2, p2, z2⟩ := I.list hq
    have l1 := r1.length
    have l2 := r2.length
    have rc : SeqAt.RcAt A s (.ref p) (.ref q) ((List.range xs.length).all e) := by
      have := SeqAt.RcAt.lists (A := A) (e := e) p1.isList p2.isList (by simp only [List.size_toArray]; omega) (by omega) (fun j h1 h2 => by
        obtain ⟨x, ex, rx⟩ := vals_at r1 h1
        obtain ⟨y, ey, ry⟩ := vals_at r2 h2
        exact (ih j x y ex ey A.in1 _ _ (by show A.units + 1 + n < _; omega) rx ry).1)
      rw [List.size_toArray, ← l1] at this
      exact this
    refine ⟨?_, fun _ _ _ _ => rc⟩
    by_cases hpq : p = q
    · subst hpq
      have exy := I.list_inj hp hq
      subst exy
      have : (List.range xs.length).all e = true := by
        rw [List.all_eq_true]
        intro i hi
        have hi := List.mem_range.mp hi
        exact eqd_same I (h i _ _ (List.getElem?_eq_getElem hi) (List.getElem?_eq_getElem hi)) rfl
      rw [this]
      exact SeqAt.EqAt.same _
    · exact .of_refs hpq rc
  | lstN hp hq hl =>
    rename_i n p q xs ys
    intro A v u hu rx ry
    cases rx; cases ry
    obtain ⟨its, r1, p1, z1⟩ := I.list hp
    obtain ⟨its2, r2, p2, z2⟩ := I.list hq
    have l1 := r1.length
    have l2 := r2.length
    have rc : SeqAt.RcAt A s (.ref p) (.ref q) false := SeqAt.RcAt.lists_lengths p1.isList p2.isList (by simp only [List.size_toArray, bne_iff_ne, ne_eq]; omega) (by omega)
    refine ⟨.of_refs (fun e => ?_) rc, fun _ _ _ _ => rc⟩
    subst e
    exact hl (by rw [I.list_inj hp hq])
  | tup e hp hq h ih =>
    rename_i n p q xs ys
    intro A v u hu rx ry
    cases rx; cases ry
    obtain ⟨its, r1, p1, z1⟩ := I.tuple hp
    obtain ⟨its2, r2, p2, z2⟩ := I.tuple hq
    have l1 := r1.length
    have l2 := r2.length
    have rc : SeqAt.RcAt A s (.ref p) (.ref q) ((List.range (min xs.length ys.length)).all e && xs.length == ys.length) := by
      have := SeqAt.RcAt.tuples (A := A) (e := e) (show s.heap.IsTuple p its.toArray from p1) (show s.heap.IsTuple q its2.toArray from p2) (by omega) (fun j h1 h2 => by
        obtain ⟨x, ex, rx⟩ := vals_at r1 h1
        obtain ⟨y, ey, ry⟩ := vals_at r2 h2
        exact (ih j x y ex ey A.in1 _ _ (by show A.units + 1 + n < _; omega) rx ry).1)
      rw [List.size_toArray, List.size_toArray, ← l1, ← l2] at this
      exact this
    refine ⟨?_, fun _ _ _ _ => rc⟩
    by_cases hpq : p = q
    · subst hpq
      have exy := I.tuple_inj hp hq
      subst exy
      have : ((List.range (min xs.length xs.length)).all e && xs.length == xs.length) = true := by
        rw [Bool.and_eq_true, List.all_eq_true]
        refine ⟨?_, by simp⟩
        intro i hi
        have hi := List.mem_range.mp hi
        have hi : i < xs.length := by omega
        exact eqd_same I (h i _ _ (List.getElem?_eq_getElem hi) (List.getElem?_eq_getElem hi)) rfl
      rw [this]
      exact SeqAt.EqAt.same _
    · exact .of_refs hpq rc
  | lt hp hq =>
    intro A v u hu rx ry
    cases rx; cases ry
    obtain ⟨its, r1, p1, z1⟩ := I.list hp
    obtain ⟨its2, r2, p2, z2⟩ := I.tuple hq
    exact ⟨.list_tuple p1.isList p2 (by omega), fun _ _ _ _ => .list_tuple p1.isList p2 (by omega)⟩
  | tl hp hq =>
    intro A v u hu rx ry
    cases rx; cases ry
    obtain ⟨its, r1, p1, z1⟩ := I.tuple hp
    obtain ⟨its2, r2, p2, z2⟩ := I.list hq
    exact ⟨.tuple_list p1 p2.isList (by omega), fun _ _ _ _ => .tuple_list p1 p2.isList (by omega)⟩
  | lf hp hy =>
    rename_i n p xs y
    intro A v u hu rx ry
    cases rx
    obtain ⟨its, r1, p1, z1⟩ := I.list hp
    refine ⟨?_, fun _ _ _ e => by subst e; cases hy⟩
    cases y with
    | non => cases ry; exact .list_none p1.isList (by omega)
    | bl b => cases ry; exact .list_bool b p1.isList (by omega)
    | int b => obtain ⟨t, rfl⟩ := ry; exact .list_int b t p1.isList (by omega)
    | str b => obtain ⟨t, rfl⟩ := ry; exact .list_str b t p1.isList (by omega)
    | _ => cases hy
  | fl hp hy =>
    rename_i n p xs y
    intro A v u hu rx ry
    cases ry
    obtain ⟨its, r1, p1, z1⟩ := I.list hp
    refine ⟨?_, fun _ _ e _ => by subst e; cases hy⟩
    cases y with
    | non => cases rx; exact .none_list p1.isList (by omega)
    | bl b => cases rx; exact .bool_list b p1.isList (by omega)
    | int b => obtain ⟨t, rfl⟩ := rx; exact .int_list b t p1.isList (by omega)
    | str b => obtain ⟨t, rfl⟩ := rx; exact .str_list b t p1.isList (by omega)
    | _ => cases hy
  | tf hp hy =>
    rename_i n p xs y
    intro A v u hu rx ry
    cases rx
    obtain ⟨its, r1, p1, z1⟩ := I.tuple hp
    refine ⟨?_, fun _ _ _ e => by subst e; cases hy⟩
    cases y with
    | non => cases ry; exact .tuple_none p1 (by omega)
    | bl b => cases ry; exact .tuple_bool b p1 (by omega)
    | int b => obtain ⟨t, rfl⟩ := ry; exact .tuple_int b t p1 (by omega)
    | str b => obtain ⟨t, rfl⟩ := ry; exact .tuple_str b t p1 (by omega)
    | _ => cases hy
  | ft hp hy =>
    rename_i n p xs y
    intro A v u hu rx ry
    cases ry
    obtain ⟨its, r1, p1, z1⟩ := I.tuple hp
    refine ⟨?_, fun _ _ e _ => by subst e; cases hy⟩
    cases y with
    | non => cases rx; exact .none_tuple p1 (by omega)
    | bl b => cases rx; exact .bool_tuple b p1 (by omega)
    | int b => obtain ⟨t, rfl⟩ := rx; exact .int_tuple b t p1 (by omega)
    | str b => obtain ⟨t, rfl⟩ := rx; exact .str_tuple b t p1 (by omega)
    | _ => cases hy
  | up h ih =>
    intro A v u hu rx ry
    exact ih A v u (by omega) rx ry
end

section
variable {X : Cx}
/-- ==: scalars are told by the values, sequences by what they hold -/
def mEqK (K : PySem.W.Frag) : R2 := fun x y H Q => match x, y with
  | .ref p, .ref q => ∃ n b, n ≤ 50 ∧ EqD K H n (.ref p) (.ref q) b ∧ Q (.bl b) H
  | _, _ => mEq x y H Q
def mNeK (K : PySem.W.Frag) : R2 := fun x y H Q => match x, y with
  | .ref p, .ref q => ∃ n b, n ≤ 50 ∧ EqD K H n (.ref p) (.ref q) b ∧ Q (.bl (!b)) H
  | _, _ => mNe x y H Q
theorem op_eqK (hu : X.A.units + 60 < cLine) : OpR X (compareOp .Eq) (mEqK X.K) := by
  intro pins s σ H x y v u Q I rx ry h
  unfold mEqK at h
  split at h
  · rename_i p q
    obtain ⟨n, b, hn, h, q⟩ := h
    have := (eqd_rc I h X.A v u (by omega) rx ry).2 _ _ rfl rfl
    exact this X.prog X.w X.xe _ ⟨.bl b, H, I, rfl, q⟩
  · exact op_eqM pins s σ H x y v u Q I rx ry h
end

section
variable {X : Cx} {pins : List (Addr × Obj)} {σ : St} {H : Hp} {s : Shared}
theorem eqd_ne (I : Inv X pins σ H s) {n : Nat} {x y : V} {b : Bool} (h : EqD X.K H n x y b) : ∀ (A : Around) (v u : Value), A.units + n < cLine → RelV x v → RelV y u → ∀ p q, x = .ref p → y = .ref q → SeqAt.RcNeAt A s v u (!b) := by
  induction h with
  | flat hx hy => intro A v u _ rx ry p q e _; subst e; cases hx
  | lst e hp hq hl h ih =>
    rename_i n p q xs ys
    intro A v u hu rx ry _ _ _ _
    cases rx; cases ry
    obtain ⟨its, r1, p1, z1⟩ := I.list hp
    obtain ⟨its2, r2, p2, z2⟩ := I.list hq
    have l1 := r1.length
    have l2 := r2.length
    have := SeqAt.RcNeAt.lists (A := A) (e := e) p1.isList p2.isList (by simp only [List.size_toArray]; omega) (by omega) (fun j h1 h2 => by
      obtain ⟨x, ex, rx⟩ := vals_at r1 h1
      obtain ⟨y, ey, ry⟩ := vals_at r2 h2
      exact (eqd_rc I (h j x y ex ey) A.in1 _ _ (by show A.units + 1 + n < _; omega) rx ry).1)
    rw [List.size_toArray, ← l1] at this
    exact this
  | lstN hp hq hl =>
    intro A v u hu rx ry _ _ _ _
    cases rx; cases ry
    obtain ⟨its, r1, p1, z1⟩ := I.list hp
    obtain ⟨its2, r2, p2, z2⟩ := I.list hq
    have l1 := r1.length
    have l2 := r2.length
    exact SeqAt.RcNeAt.lists_lengths p1.isList p2.isList (by simp only [List.size_toArray, bne_iff_ne, ne_eq]; omega) (by omega)
  | tup e hp hq h ih =>
    rename_i n p q xs ys
    intro A v u hu rx ry _ _ _ _
    cases rx; cases ry
    obtain ⟨its, r1, p1, z1⟩ := I.tuple hp
    obtain ⟨its2, r2, p2, z2⟩ := I.tuple hq
    have l1 := r1.length
    have l2 := r2.length
    have := SeqAt.RcNeAt.tuples (A := A) (e := e) (show s.heap.IsTuple p its.toArray from p1) (show s.heap.IsTuple q its2.toArray from p2) (by omega) (fun j h1 h2 => by
      obtain ⟨x, ex, rx⟩ := vals_at r1 h1
      obtain ⟨y, ey, ry⟩ := vals_at r2 h2
      exact (eqd_rc I (h j x y ex ey) A.in1 _ _ (by show A.units + 1 + n < _; omega) rx ry).1)
    rw [List.size_toArray, List.size_toArray, ← l1, ← l2] at this
    exact this
  | lt hp hq =>
    intro A v u hu rx ry _ _ _ _
    cases rx; cases ry
    obtain ⟨its, r1, p1, z1⟩ := I.list hp
    obtain ⟨its2, r2, p2, z2⟩ := I.tuple hq
    exact .list_tuple p1.isList p2 (by omega)
  | tl hp hq =>
    intro A v u hu rx ry _ _ _ _
    cases rx; cases ry
    obtain ⟨its, r1, p1, z1⟩ := I.tuple hp
    obtain ⟨its2, r2, p2, z2⟩ := I.list hq
    exact .tuple_list p1 p2.isList (by omega)
  | lf hp hy => intro A v u hu rx ry _ _ _ e; subst e; cases hy
  | fl hp hy => intro A v u hu rx ry _ _ e _; subst e; cases hy
  | tf hp hy => intro A v u hu rx ry _ _ _ e; subst e; cases hy
  | ft hp hy => intro A v u hu rx ry _ _ e _; subst e; cases hy
  | up h ih => intro A v u hu rx ry; exact ih A v u (by omega) rx ry
theorem op_neK (hu : X.A.units + 60 < cLine) : OpR X (compareOp .NotEq) (mNeK X.K) := by
  intro pins s σ H x y v u Q I rx ry h
  unfold mNeK at h
  split at h
  · rename_i p q
    obtain ⟨n, b, hn, h, q⟩ := h
    have := eqd_ne I h X.A v u (by omega) rx ry _ _ rfl rfl
    exact this X.prog X.w X.xe _ ⟨.bl (!b), H, I, rfl, q⟩
  · exact op_neM pins s σ H x y v u Q I rx ry h
end
theorem Room.u60 {k : Nat} {A : Around} (r : Room k A) : A.units + 60 < cLine := by have := r.units; omega
theorem RoomN.u60 {k : Nat} {A : Around} (r : RoomN k A) : A.units + 60 < cLine := by have := r.un; omega

/-! ### split by one sign -/
def splitC (c : Nat) : List Nat → List (List Nat)
  | [] => [[]]
  | d :: r => if d = c then [] :: splitC c r else match splitC c r with | p :: ps => (d :: p) :: ps | [] => [[d]]
theorem splitC_ne (c : Nat) : ∀ l, splitC c l ≠ []
  | [] => by simp [splitC]
  | d :: r => by unfold splitC; split; simp; split <;> simp
def joinC (c : Nat) : List (List Nat) → List Nat
  | [] => []
  | [p] => p
  | p :: q :: r => p ++ c :: joinC c (q :: r)
theorem splitC_free (c : Nat) : ∀ (l : List Nat), c ∉ l → splitC c l = [l]
  | [], _ => rfl
  | d :: r, h => by
    have h1 : d ≠ c := fun e => h (by rw [e]; exact List.mem_cons_self)
    have h2 : c ∉ r := fun e => h (List.mem_cons_of_mem _ e)
    unfold splitC
    rw [if_neg h1, splitC_free c r h2]
theorem splitC_app (c : Nat) : ∀ (p : List Nat) (l : List Nat), c ∉ p → splitC c (p ++ c :: l) = p :: splitC c l
  | [], l, _ => by show splitC c (c :: l) = _; rw [splitC, if_pos rfl]
  | d :: r, l, h => by
    have h1 : d ≠ c := fun e => h (by rw [e]; exact List.mem_cons_self)
    have h2 : c ∉ r := fun e => h (List.mem_cons_of_mem _ e)
    show splitC c (d :: (r ++ c :: l)) = _
    rw [splitC, if_neg h1, splitC_app c r l h2]
theorem splitC_join (c : Nat) : ∀ (ps : List (List Nat)), ps ≠ [] → (∀ p ∈ ps, c ∉ p) → splitC c (joinC c ps) = ps
  | [], h, _ => absurd rfl h
  | [p], _, hf => splitC_free c p (hf p List.mem_cons_self)
  | p :: q :: r, _, hf => by
    show splitC c (p ++ c :: joinC c (q :: r)) = _
    rw [splitC_app c p _ (hf p List.mem_cons_self), splitC_join c (q :: r) (by simp) (fun p hp => hf p (List.mem_cons_of_mem _ hp))]
theorem join_codes (c : Nat) : ∀ (ps : List Str), (Str.join ⟨#[c]⟩ ps).cps.toList = joinC c (ps.map fun p => p.cps.toList)
  | [] => rfl
  | [p] => rfl
  | p :: q :: r => by
    show (p ++ ⟨#[c]⟩ ++ Str.join ⟨#[c]⟩ (q :: r)).cps.toList = _
    have ih := join_codes c (q :: r)
    show _ = p.cps.toList ++ c :: joinC c ((q :: r).map fun p => p.cps.toList)
    rw [← ih, str_app, str_app]
    simp
theorem split_codes (x : Str) (c : Nat) : (Txt.split x ⟨#[c]⟩).map (fun p => p.cps.toList) = splitC c x.cps.toList := by
  have h := StrLaws.join_split x ⟨#[c]⟩
  have h1 := join_codes c (Txt.split x ⟨#[c]⟩)
  rw [h] at h1
  rw [h1, splitC_join]
  · have := PyProof.Rows.split_pos x ⟨#[c]⟩
    intro e
    rw [List.map_eq_nil_iff] at e
    rw [e] at this
    cases this
  · intro p hp
    obtain ⟨z, hz, rfl⟩ := List.mem_map.mp hp
    exact StrLaws.split_free x c z hz
end L2
namespace LX
open PySem Builtin Builtin.Str
section
variable {prog : Program} {w : World} {A : Around} {E : Value → Shared → Prop} {s : Shared} {x : Str} {t : Tok} {Q : Value → Shared → Prop}
theorem split_push {y : Str} {u : Tok} (hy : (y.length == 0) = false)
    (hq : ∀ (l : List (Str × Tok)) (k : Nat), l.map (·.1) = Txt.split x y → Q (.ref s.heap.objs.size) { s with toks := k, heap := s.heap.push { cls := .type "list", data := .seq (strValues l).toArray } })
    (hsz : x.length ≤ sizeLine) (hsz2 : (partsBetween x (occurrences x y 0 x.length (x.length + 1)) y.length).length ≤ sizeLine) :
    wpAny (model prog w) A (call (.builtin "str.split") [.str x t, .str y u]) Q E s := by
  cases h1 : (decide (x.length < y.length) || decide (strKind x < strKind y))
  · cases hf : (occurrences x y 0 x.length (x.length + 1)).isEmpty
    · refine call_meets F.slot_str_split (typeIs_str _ _ _) F.entry_str_split (F.args_str_split_2 _ _) (meets_str_split_sep x y t u h1 hy hf hsz hsz2) ?_
      show wants Q E _ { s with toks := _, heap := s.heap.push { cls := .type "list", data := .seq (strsFrom s.toks (partsBetween x (occurrences x y 0 x.length (x.length + 1)) y.length)).toArray } }
      rw [strsFrom_eq]
      exact hq (numbered s.toks _) _ ((numbered_texts _ _).trans ((if_neg (ne_true_of_eq_false h1)).trans (if_neg (ne_true_of_eq_false hf))).symm)
    · exact call_meets F.slot_str_split (typeIs_str _ _ _) F.entry_str_split (F.args_str_split_2 _ _) (meets_str_split_not_found x y t u h1 hy hf)
        (hq [(x, t)] _ ((if_neg (ne_true_of_eq_false h1)).trans (if_pos hf)).symm)
  · exact call_meets F.slot_str_split (typeIs_str _ _ _) F.entry_str_split (F.args_str_split_2 _ _) (meets_str_split_cannot_occur x y t u h1)
      (hq [(x, t)] _ (if_pos h1).symm)
end
end LX
namespace L2
open PySem PySem.Spec PyProof.Rows
section
variable {X : Cx}
def mSplit : V → List V → Hp → VK → Prop := fun x xs H Q => match x, xs with
  | .str l, [.str y] => l.cps.toList.length ≤ 100000 ∧ ∃ c, y.cps.toList = [c] ∧ ∀ p, H p = none → Q (.ref p) (upd H p (.lst ((splitC c l.cps.toList).map tx)))
  | _, _ => False
theorem vals_parts : ∀ (l : List (Str × Tok)), Vals (l.map fun p => tx p.1.cps.toList) (strValues l)
  | [] => .nil
  | (z, t) :: r => .cons ⟨t, by rw [← str_eta]⟩ (vals_parts r)
theorem mt_split : MtR X "str.split" mSplit := by
  intro pins s σ H x xs v us Q I rx rv h
  unfold mSplit at h
  split at h
  · rename_i l y
    obtain ⟨k, rfl⟩ := rx
    obtain ⟨u, rfl, ru⟩ := rv.one
    obtain ⟨k', rfl⟩ := ru
    obtain ⟨hl, c, hc, q⟩ := h
    have ey : y = ⟨#[c]⟩ := by rw [str_eta y, hc]
    subst ey
    have hll : l.length = l.cps.toList.length := by simp [Str.length]
    have hsl := split_le l ⟨#[c]⟩
    refine LX.split_push rfl (fun lz k2 e => ?_) (by rw [hll]; exact small_n hl) (by
      rw [len_partsBetween]
      have := StrLaws.occ_length_le l ⟨#[c]⟩ 0 l.length (l.length + 1)
      rw [sizeLine_eq]; omega)
    have e2 : (splitC c l.cps.toList).map tx = lz.map fun p => tx p.1.cps.toList := by
      rw [← split_codes, ← e, List.map_map, List.map_map]
      rfl
    have e3 : (splitC c l.cps.toList).length ≤ 100002 := by
      rw [← split_codes, List.length_map]; omega
    refine ⟨.ref s.heap.objs.size, _, I.laid (o := .lst ((splitC c l.cps.toList).map tx)) (t' := k2) (fun b ob q => Heap.get?_push_of_some _ q) (Nat.le_refl _) ?_, rfl, q _ (I.hok.fresh (Nat.le_refl _))⟩
    refine ⟨by rw [List.length_map, sizeLine_eq]; omega, strValues lz, 0, ?_, Heap.get?_push_size _ rfl⟩
    rw [e2]
    exact vals_parts lz
  · exact h.elim
end
section
variable {X : Cx} {a b c d : Expr} {ta tb tc td : TE} {pos : Pos}
def mChain3 (r r' r'' : R2) (ta tb tc td : TE) : TE := fun σ H Q => ta σ H fun x H1 => tb σ H1 fun y H2 => r x y H2 fun z H3 => match z with
  | .bl k => br k (tc σ H3 fun w H4 => r' y w H4 fun z' H5 => match z' with | .bl k' => br k' (td σ H5 fun w' H6 => r'' w w' H6 Q) (Q (.bl false) H5) | _ => False) (Q (.bl false) H3)
  | _ => False
theorem pe_chain3M {op op' op'' : CmpOp} {r r' r'' : R2} (ho : OpR X (compareOp op) r) (ho' : OpR X (compareOp op') r') (ho'' : OpR X (compareOp op'') r'') (ha : PE X a ta) (hb : PE X b tb) (hc : PE X c tc) (hd : PE X d td)
    (hm : lastMarks [op, op', op''] [b, c, d] = false := by with_unfolding_all rfl) : PE X (.Compare a [op, op', op''] [b, c, d] pos) (mChain3 r r' r'' ta tb tc td) := by
  intro pins s σ H Q I h
  refine Compare_chain (thn (ha pins s σ H _ I h) fun v s1 ⟨x, H1, I1, r1, q1⟩ => chain_link (thn (hb pins s1 σ H1 _ I1 q1) fun u s2 ⟨y, H2, I2, r2, q2⟩ =>
    thn (ho pins s2 σ H2 x y v u _ I2 r1 r2 q2) fun d s3 ⟨z, H3, I3, r3, q3⟩ => ?_)) hm
  cases z with
  | bl k =>
    cases r3
    refine wpAny_truthy_bool ?_
    cases k with
    | false => exact ite_ff ⟨.bl false, H3, I3, rfl, q3.2 rfl⟩
    | true =>
      refine ite_tt (chain_link (thn (hc pins s3 σ H3 _ I3 (q3.1 rfl)) fun w' s4 ⟨z', H4, I4, r4, q4⟩ => thn (ho' pins s4 σ H4 y z' u w' _ I4 r2 r4 q4) fun d' s5 ⟨z2, H5, I5, r5, q5⟩ => ?_))
      cases z2 with
      | bl k2 =>
        cases r5
        refine wpAny_truthy_bool ?_
        cases k2 with
        | false => exact ite_ff ⟨.bl false, H5, I5, rfl, q5.2 rfl⟩
        | true => exact ite_tt (chain_last (thn (hd pins s5 σ H5 _ I5 (q5.1 rfl)) fun w2 s6 ⟨z3, H6, I6, r6, q6⟩ => ho'' pins s6 σ H6 z' z3 w' w2 Q I6 r4 r6 q6))
      | _ => exact q5.elim
  | _ => exact q3.elim
end
theorem cutL_from (l : List Nat) (n : Nat) : cutL l (some (n : Int)) none = l.drop n := by
  unfold cutL
  rw [HT.sIx_nat, HT.sIx_none]
  by_cases h : n ≤ l.length
  · rw [Nat.min_eq_left h, List.take_of_length_le (by rw [List.length_drop]; omega)]
  · rw [Nat.min_eq_right (by omega), List.drop_eq_nil_of_le (Nat.le_refl _), List.drop_eq_nil_of_le (by omega), List.take_nil]
theorem cutL_to (l : List Nat) (n : Nat) : cutL l none (some (n : Int)) = l.take n := by
  unfold cutL
  rw [HT.sIx_nat, HT.sIx_none, List.drop_zero, Nat.sub_zero]
  by_cases h : n ≤ l.length
  · rw [Nat.min_eq_left h]
  · rw [Nat.min_eq_right (by omega), List.take_of_length_le (Nat.le_refl _), List.take_of_length_le (by omega)]
/-- a list comprehension over a list, whose items make new objects at most -/
theorem comp_mapL {K : PySem.W.Frag} {a : Addr} {xs : List V} {g : TG} {te : TE} {σ0 : St} {H1 : Hp} {Q : VK} (out : Nat → V) (Pσ : St → Prop) (h0 : Pσ σ0) (hn : xs.length ≤ sizeLine) (hS : SqL K H1 a xs)
    (hstep : ∀ i x σ H (k : V → St → Hp → Prop), xs[i]? = some x → Pσ σ → Same H1 H → (∀ σ2 H2, Pσ σ2 → Same H H2 → k (out i) σ2 H2) → g x σ H fun σ2 H2 => te σ2 H2 fun v H4 => k v σ2 H4)
    (hq : ∀ D H', H1 D = none → Same H1 H' → H' D = some (.lst ((List.range xs.length).map out)) → Q (.ref D) H') : tCompR (Itl K a) g tTrue te σ0 H1 Q := by
  intro D hD
  have sD : ∀ (H : Hp) (ys : List V), Same H1 H → Same H1 (upd H D (.lst ys)) := fun H ys g b u hb => by
    have : b ≠ D := fun e => by rw [e, hD] at hb; cases hb
    rw [upd_ne this]; exact g b u hb
  refine ⟨fun i m ys σ H => m = xs.length - i ∧ i ≤ xs.length ∧ ys = (List.range i).map out ∧ Pσ σ ∧ Same H1 H ∧ H D = some (.lst ys), ⟨xs.length, rfl, Nat.zero_le _, rfl, h0, sD H1 [] (Same.refl _), upd_same⟩, ?_⟩
  rintro i m ys σ H ⟨rfl, hi, rfl, hp, gs, hd⟩
  by_cases hlt : i < xs.length
  · have ex : xs[i]? = some xs[i] := List.getElem?_eq_getElem hlt
    refine .inr ⟨⟨xs, xs[i], gs.seq hS, ex⟩, fun ys' σ' H' => ys' = (List.range (i + 1)).map out ∧ Pσ σ' ∧ Same H1 H' ∧ H' D = some (.lst ys'), fun ys' σ' H' ⟨e1, e2, e3, e4⟩ => ⟨xs.length - (i + 1), by omega, rfl, hlt, e1, e2, e3, e4⟩, fun x H' y => ?_⟩
    obtain ⟨rfl, hy⟩ := y
    have hx := hy xs (gs.seq hS)
    refine hstep i x σ _ (fun v σ2 H4 => H4 D = some (.lst ((List.range i).map out)) ∧ ((List.range i).map out).length < sizeLine ∧ ((List.range i).map out ++ [v] = (List.range (i + 1)).map out ∧ Pσ σ2 ∧ Same H1 (upd H4 D (.lst ((List.range i).map out ++ [v]))) ∧ upd H4 D (.lst ((List.range i).map out ++ [v])) D = some (.lst ((List.range i).map out ++ [v])))) hx hp gs fun σ2 H2 h2 g2 => ?_
    refine ⟨g2 _ _ hd, by rw [List.length_map, List.length_range]; omega, ?_, h2, sD _ _ (gs.trans g2), upd_same⟩
    rw [List.range_succ, List.map_append]
    rfl
  · have e : i = xs.length := by omega
    subst e
    exact .inl ⟨⟨xs, gs.seq hS, Nat.le_refl _⟩, hq D H hD gs hd⟩
theorem atI_lastM {α β : Type} {f : α → β} {xs : List α} (h : xs ≠ []) : ∃ x, atI (xs.map f) (-1) = some (f x) := by
  have hp : 0 < xs.length := List.length_pos_iff.mpr h
  unfold atI ixN
  rw [List.length_map, if_neg (by decide), if_pos (by omega)]
  have hk : (-1 + (xs.length : Int)).toNat < xs.length := by omega
  refine ⟨xs[(-1 + (xs.length : Int)).toNat], ?_⟩
  show (xs.map f)[(-1 + (xs.length : Int)).toNat]? = _
  rw [List.getElem?_map, List.getElem?_eq_getElem hk]
  rfl

/-! ### many written constants at once -/
def cV : Expr → Option V
  | .Constant (.str x) _ _ => some (.str x)
  | .Constant (.int i) _ _ => some (.int i)
  | .Constant (.bool b) _ _ => some (.bl b)
  | .Constant .none _ _ => some .non
  | _ => none
def csV : List Expr → Option (List V)
  | [] => some []
  | e :: es => match cV e, csV es with | some v, some vs => some (v :: vs) | _, _ => none
def tKs (vs : List V) : TA := fun _ H Q => Q vs H
theorem pa_consts {X : Cx} : ∀ {es : List Expr} {vs : List V}, csV es = some vs → PA X es (tKs vs)
  | [], vs, h => by cases h; exact pa_nil
  | e :: es, vs, h => by
    unfold csV at h
    split at h
    · rename_i v ws h1 h2
      cases h
      have ih := pa_consts (X := X) h2
      have : PE X e (tC v) ∧ starEach (e :: es) X.env = (false, eval e X.env) :: starEach es X.env := by
        unfold cV at h1
        split at h1
        · cases h1; exact ⟨pe_str, rfl⟩
        · cases h1; exact ⟨pe_int, rfl⟩
        · cases h1; exact ⟨pe_bl, rfl⟩
        · cases h1; exact ⟨pe_non, rfl⟩
        · cases h1
      exact pa_cons this.1 ih this.2
    · cases h
/-- a shut box: the elaborator doesn't look into it -/
structure Bx (p : Prop) : Prop where
  h : p
end L2


namespace L2
open PySem PySem.Spec PyProof.Rows

/-! ### lists of pairs as tables -/
section
variable {κ : Type} [DecidableEq κ]
def valV (kvs : List (κ × V)) (k : κ) : Option V := (kvs.find? fun kv => decide (kv.1 = k)).map (·.2)
/-- in its place, or at the end -/
def putK (kvs : List (κ × V)) (k : κ) (v : V) : List (κ × V) :=
  if (kvs.any fun kv => decide (kv.1 = k)) = true then kvs.map (fun kv => if kv.1 = k then (kv.1, v) else kv) else kvs ++ [(k, v)]
def dropK (kvs : List (κ × V)) (k : κ) : List (κ × V) := kvs.filter fun kv => decide (kv.1 ≠ k)

theorem valV_nil {k : κ} : valV ([] : List (κ × V)) k = none := rfl
theorem valV_pos {p : κ × V} {r : List (κ × V)} {k : κ} (e : p.1 = k) : valV (p :: r) k = some p.2 := by simp [valV, List.find?_cons, e]
theorem valV_neg {p : κ × V} {r : List (κ × V)} {k : κ} (e : ¬ p.1 = k) : valV (p :: r) k = valV r k := by simp [valV, List.find?_cons, e]
theorem valV_any (k : κ) : ∀ kvs : List (κ × V), (kvs.any fun kv => decide (kv.1 = k)) = (valV kvs k).isSome
  | [] => rfl
  | p :: r => by
    rw [List.any_cons]
    by_cases e : p.1 = k
    · simp only [valV_pos e, decide_eq_true e, Bool.true_or, Option.isSome_some]
    · rw [valV_neg e, decide_eq_false e, Bool.false_or]; exact valV_any k r
theorem valV_map (k j : κ) (y : V) : ∀ kvs : List (κ × V), valV (kvs.map fun kv => if kv.1 = k then (kv.1, y) else kv) j = (valV kvs j).map fun x => if j = k then y else x
  | [] => rfl
  | p :: r => by
    have ih := valV_map k j y r
    rw [List.map_cons]
    by_cases h : p.1 = k
    · rw [if_pos h]
      by_cases e : p.1 = j
      · rw [valV_pos (p := (p.1, y)) e, valV_pos e, Option.map_some, if_pos (e.symm.trans h)]
      · rw [valV_neg (p := (p.1, y)) e, valV_neg e, ih]
    · rw [if_neg h]
      by_cases e : p.1 = j
      · rw [valV_pos (p := p) e, valV_pos e, Option.map_some, if_neg (fun z => h (e.trans z))]
      · rw [valV_neg (p := p) e, valV_neg e, ih]
theorem valV_snoc (k j : κ) (y : V) : ∀ kvs : List (κ × V), valV kvs k = none → valV (kvs ++ [(k, y)]) j = if j = k then some y else valV kvs j
  | [], _ => by
    by_cases e : k = j
    · rw [if_pos e.symm]; exact valV_pos (p := (k, y)) e
    · rw [if_neg (fun z => e z.symm)]; exact valV_neg (p := (k, y)) e
  | p :: r, hn => by
    rw [List.cons_append]
    have hk : ¬ p.1 = k := fun z => by rw [valV_pos z] at hn; cases hn
    rw [valV_neg hk] at hn
    have ih := valV_snoc k j y r hn
    by_cases e : p.1 = j
    · rw [valV_pos e, valV_pos e, if_neg (fun z => hk (e.trans z))]
    · rw [valV_neg e, valV_neg e, ih]
theorem valV_put (kvs : List (κ × V)) (k j : κ) (y : V) : valV (putK kvs k y) j = if j = k then some y else valV kvs j := by
  unfold putK
  by_cases a : (kvs.any fun kv => decide (kv.1 = k)) = true
  · rw [if_pos a, valV_map]
    rw [valV_any] at a
    by_cases e : j = k
    · obtain ⟨x, hx⟩ := Option.isSome_iff_exists.mp a
      rw [if_pos e, e, hx, Option.map_some, if_pos rfl]
    · rw [if_neg e]
      cases valV kvs j with
      | none => rfl
      | some x => rw [Option.map_some, if_neg e]
  · rw [if_neg a]
    refine valV_snoc k j y kvs ?_
    rw [valV_any] at a
    cases q : valV kvs k with
    | none => rfl
    | some x => rw [q] at a; exact (a rfl).elim
theorem length_putK (kvs : List (κ × V)) (k : κ) (v : V) : (putK kvs k v).length ≤ kvs.length + 1 := by
  unfold putK
  split
  · rw [List.length_map]; omega
  · rw [List.length_append, List.length_cons, List.length_nil]; omega
theorem putK_new {kvs : List (κ × V)} {k : κ} (v : V) (h : valV kvs k = none) : putK kvs k v = kvs ++ [(k, v)] := by
  unfold putK
  rw [valV_any, h]
  exact if_neg (by decide)

theorem RelO.isSome_eq {o : Option V} {u : Option Value} (r : RelO o u) : o.isSome = u.isSome := by
  cases o with
  | none => cases u with
    | none => rfl
    | some _ => exact (show False from r).elim
  | some _ => cases u with
    | none => exact (show False from r).elim
    | some _ => rfl
theorem RelO.getD {o : Option V} {u : Option Value} {d : V} {d' : Value} (r : RelO o u) (rd : RelV d d') : RelV (o.getD d) (u.getD d') := by
  cases o with
  | none => cases u with
    | none => exact rd
    | some _ => exact (show False from r).elim
  | some _ => cases u with
    | none => exact (show False from r).elim
    | some _ => exact r

/-- raw tables of the same keys -/
theorem KV.val {kvs : List (κ × V)} {vs : List (κ × Value)} (r : KV kvs vs) (k : κ) : RelO (valV kvs k) (valueAt vs k) := by
  unfold KV at r
  induction r with
  | nil => exact True.intro
  | @cons p q ps qs h t ih =>
    obtain ⟨h1, h2⟩ := h
    by_cases e : p.1 = k
    · have e' : q.1 = k := h1.symm.trans e
      have b : valueAt (q :: qs) k = some q.2 := by simp [valueAt, List.find?_cons, e']
      rw [valV_pos e, b]; exact h2
    · have e' : ¬ q.1 = k := fun z => e (h1.trans z)
      have b : valueAt (q :: qs) k = valueAt qs k := by simp [valueAt, List.find?_cons, e']
      rw [valV_neg e, b]; exact ih
theorem KV.any {kvs : List (κ × V)} {vs : List (κ × Value)} (r : KV kvs vs) (k : κ) : (kvs.any fun kv => decide (kv.1 = k)) = vs.any fun kv => decide (kv.1 = k) := by
  unfold KV at r
  induction r with
  | nil => rfl
  | cons h t ih => rw [List.any_cons, List.any_cons, ih, h.1]
theorem KV.repl {kvs : List (κ × V)} {vs : List (κ × Value)} (r : KV kvs vs) (k : κ) {y : V} {u : Value} (ry : RelV y u) :
    KV (kvs.map fun kv => if kv.1 = k then (kv.1, y) else kv) (vs.map fun kv => if kv.1 = k then (kv.1, u) else kv) := by
  unfold KV at r ⊢
  induction r with
  | nil => exact .nil
  | @cons p q ps qs h t ih =>
    rw [List.map_cons, List.map_cons]
    refine .cons ?_ ih
    obtain ⟨h1, h2⟩ := h
    by_cases e : p.1 = k
    · rw [if_pos e, if_pos (h1.symm.trans e)]; exact ⟨h1, ry⟩
    · rw [if_neg e, if_neg (fun z => e (h1.trans z))]; exact ⟨h1, h2⟩
theorem KV.put {kvs : List (κ × V)} {vs : List (κ × Value)} (r : KV kvs vs) (k : κ) {y : V} {u : Value} (ry : RelV y u) : KV (putK kvs k y) (stored vs k u) := by
  unfold putK stored
  rw [r.any k]
  by_cases e : (vs.any fun kv => decide (kv.1 = k)) = true
  · rw [if_pos e, if_pos e]; exact r.repl k ry
  · rw [if_neg e, if_neg e]; exact Paired.snoc r ⟨rfl, ry⟩
theorem KV.drop {kvs : List (κ × V)} {vs : List (κ × Value)} (r : KV kvs vs) (k : κ) : KV (dropK kvs k) (without vs k) := by
  unfold KV at r ⊢
  unfold dropK without
  induction r with
  | nil => exact .nil
  | @cons p q ps qs h t ih =>
    obtain ⟨h1, h2⟩ := h
    rw [List.filter_cons, List.filter_cons]
    by_cases e : p.1 = k
    · have a : ¬ decide (p.1 ≠ k) = true := by simp [e]
      have b : ¬ decide (q.1 ≠ k) = true := by simp [h1.symm.trans e]
      rw [if_neg a, if_neg b]; exact ih
    · have e' : ¬ q.1 = k := fun z => e (h1.trans z)
      have a : decide (p.1 ≠ k) = true := by simp [e]
      have b : decide (q.1 ≠ k) = true := by simp [e']
      rw [if_pos a, if_pos b]; exact .cons ⟨h1, h2⟩ ih
theorem KV.keys {kvs : List (κ × V)} {vs : List (κ × Value)} (r : KV kvs vs) : kvs.map (·.1) = vs.map (·.1) := by
  unfold KV at r
  induction r with
  | nil => rfl
  | cons h t ih => rw [List.map_cons, List.map_cons, ih, h.1]
theorem KV.length {kvs : List (κ × V)} {vs : List (κ × Value)} (r : KV kvs vs) : kvs.length = vs.length := Paired.length r
theorem dropK_le (kvs : List (κ × V)) (k : κ) : (dropK kvs k).length ≤ kvs.length := List.length_filter_le _ _
end


/-! ### a tracked dict, its keys ints and texts or tuples of these -/
theorem kV_is {P : Program} {w : World} {k : Key} {u : Value} (r : RelV (kV k) u) : (mixKind P w).is k u = true := by
  cases k with
  | inl i => obtain ⟨t, e⟩ := (show ∃ t, u = Value.int i t from r); subst e; exact mixKind_int P w i t
  | inr x => obtain ⟨t, e⟩ := (show ∃ t, u = Value.str x t from r); subst e; exact mixKind_str P w x t
theorem kV_inj {a b : Key} (e : kV a = kV b) : a = b := by
  cases a with
  | inl i => cases b with
    | inl j => have e' : V.int i = V.int j := e; injection e' with e'; rw [e']
    | inr y => exact nomatch (show V.int i = V.str y from e)
  | inr x => cases b with
    | inl j => exact nomatch (show V.str x = V.int j from e)
    | inr y => have e' : V.str x = V.str y := e; injection e' with e'; rw [e']
theorem kVs_inj : ∀ {a b : List Key}, a.map kV = b.map kV → a = b
  | [], [], _ => rfl
  | [], _ :: _, e => by simp at e
  | _ :: _, [], e => by simp at e
  | x :: xs, y :: ys, e => by
    rw [List.map_cons, List.map_cons] at e
    injection e with e1 e2
    rw [kV_inj e1, kVs_inj e2]
theorem items_are {P : Program} {w : World} : ∀ {ks : List Key} {us : List Value}, Vals (ks.map kV) us → ItemsAre (mixKind P w) ks us
  | [], _, r => by rw [List.map_nil] at r; cases r; exact .nil
  | k :: ks, _, r => by
    rw [List.map_cons] at r
    cases r with
    | cons h t => exact .cons (kV_is h) (items_are t)

/-- raw entries of a dict with tuple keys -/
abbrev KT (H : Hp) : List (List Key × V) → List (List Key × Addr × Value) → Prop := Paired fun p q => p.1 = q.1 ∧ H q.2.1 = some (.tup (p.1.map kV)) ∧ RelV p.2 q.2.2
theorem KT.val {H : Hp} {kvs : List (List Key × V)} {xs : List (List Key × Addr × Value)} (r : KT H kvs xs) (k : List Key) : RelO (valV kvs k) ((atKey xs k).map (·.2)) := by
  induction r with
  | nil => exact True.intro
  | @cons p q ps qs h t ih =>
    obtain ⟨h1, _, h2⟩ := h
    by_cases e : p.1 = k
    · have e' : q.1 = k := h1.symm.trans e
      have b : atKey (q :: qs) k = some q.2 := by simp [atKey, List.find?_cons, e']
      rw [valV_pos e, b]; exact h2
    · have e' : ¬ q.1 = k := fun z => e (h1.trans z)
      have b : atKey (q :: qs) k = atKey qs k := by simp [atKey, List.find?_cons, e']
      rw [valV_neg e, b]; exact ih
theorem KT.repl {H : Hp} {kvs : List (List Key × V)} {xs : List (List Key × Addr × Value)} (r : KT H kvs xs) (k : List Key) {y : V} {u : Value} (ry : RelV y u) :
    KT H (kvs.map fun kv => if kv.1 = k then (kv.1, y) else kv) (xs.map (putAt k u)) := by
  induction r with
  | nil => exact .nil
  | @cons p q ps qs h t ih =>
    rw [List.map_cons, List.map_cons]
    refine .cons ?_ ih
    obtain ⟨h1, h2, h3⟩ := h
    unfold putAt
    by_cases e : p.1 = k
    · rw [if_pos e, if_pos (h1.symm.trans e)]; exact ⟨h1, h2, ry⟩
    · rw [if_neg e, if_neg (fun z => e (h1.trans z))]; exact ⟨h1, h2, h3⟩
theorem KT.put {H : Hp} {kvs : List (List Key × V)} {xs : List (List Key × Addr × Value)} (r : KT H kvs xs) (k : List Key) {b : Addr} {y : V} {u : Value} (hb : H b = some (.tup (k.map kV))) (ry : RelV y u) :
    KT H (putK kvs k y) (storedH xs k b u) := by
  have e : (kvs.any fun kv => decide (kv.1 = k)) = (atKey xs k).isSome := by
    rw [valV_any, (r.val k).isSome_eq, Option.isSome_map]
  unfold putK storedH
  rw [e]
  by_cases q : (atKey xs k).isSome = true
  · rw [if_pos q, if_pos q]; exact r.repl k ry
  · rw [if_neg q, if_neg q]; exact Paired.snoc r ⟨rfl, hb, ry⟩
theorem KT.keeps {H H' : Hp} {kvs : List (List Key × V)} {xs : List (List Key × Addr × Value)} (r : KT H kvs xs) (ht : ∀ b ys, H b = some (.tup ys) → H' b = some (.tup ys)) : KT H' kvs xs :=
  Paired.mapP r fun _ _ z => ⟨z.1, ht _ _ z.2.1, z.2.2⟩

section
variable {P : Program} {w : World} {H : Hp} {h : Heap} {a : Addr}
theorem rd_of {u : HO} (ok : HOk P w H h) (e : Rd H a u) : ObjOk P w H h a u := e.ok ok
theorem dk_rd {kvs : List (Key × V)} (ok : HOk P w H h) (e : Rd H a (.dK kvs)) : kvs.length ≤ sizeLine ∧ (a == sysModules) = false ∧ ∃ vs, KV kvs vs ∧ h.DictOf (mixKind P w) a vs :=
  show ObjOk P w H h a (.dK kvs) from rd_of ok e
theorem dk_of {kvs : List (Key × V)} (ok : HOk P w H h) (e : H a = some (.dK kvs)) : kvs.length ≤ sizeLine ∧ (a == sysModules) = false ∧ ∃ vs, KV kvs vs ∧ h.DictOf (mixKind P w) a vs := dk_rd ok (.inl e)
/-- a tracked tuple of ints and texts is a key -/
theorem key_of {ks : List Key} (ok : HOk P w H h) (e : H a = some (.tup (ks.map kV))) : (tupleKind (mixKind P w)).is h ks a := by
  obtain ⟨_, its, r, o, h1, h2, n, h3⟩ := (show ObjOk P w H h a (.tup (ks.map kV)) from ok a _ e)
  exact ⟨o, its.toArray, n, h1, h2, h3, by simpa using items_are r⟩
theorem dt_rd {kvs : List (List Key × V)} (ok : HOk P w H h) (e : Rd H a (.dT kvs)) : kvs.length ≤ sizeLine ∧ (a == sysModules) = false ∧
    ∃ xs, KT H kvs xs ∧ h.DictOfH (tupleKind (mixKind P w)) a xs := by
  obtain ⟨z, y, xs, r, o, es, ep, h1, h2, h3, h4, h5⟩ := (show ObjOk P w H h a (.dT kvs) from rd_of ok e)
  refine ⟨z, y, xs, r, o, es, ep, h1, h2, h3, h4, fun x hx => ?_, h5⟩
  have all : ∀ {l : List (List Key × V)} {m : List (List Key × Addr × Value)}, KT H l m → ∀ x ∈ m, (tupleKind (mixKind P w)).is h x.1 x.2.1 := by
    intro l m q
    induction q with
    | nil => intro x hx; exact nomatch hx
    | @cons p q ps qs hq t ih =>
      intro x hx
      rcases List.mem_cons.mp hx with e | hx
      · subst e
        exact key_of ok (by rw [← hq.1]; exact hq.2.1)
      · exact ih x hx
  exact all r x hx
theorem dt_of {kvs : List (List Key × V)} (ok : HOk P w H h) (e : H a = some (.dT kvs)) : kvs.length ≤ sizeLine ∧ (a == sysModules) = false ∧
    ∃ xs, KT H kvs xs ∧ h.DictOfH (tupleKind (mixKind P w)) a xs := dt_rd ok (.inl e)
end

/-- what the dict at a holds at the key y -/
def DGet (H : Hp) (a : Addr) (y : V) (r : Option V) : Prop :=
  (∃ kvs k, Rd H a (.dK kvs) ∧ y = kV k ∧ r = valV kvs k) ∨ ∃ kvs k b, Rd H a (.dT kvs) ∧ y = .ref b ∧ H b = some (.tup (k.map kV)) ∧ r = valV kvs k
/-- the heap behind a[y] = v -/
def DPut (H : Hp) (a : Addr) (y v : V) (H' : Hp) : Prop :=
  (∃ kvs k, H a = some (.dK kvs) ∧ y = kV k ∧ kvs.length < sizeLine ∧ H' = upd H a (.dK (putK kvs k v))) ∨
  ∃ kvs k b, H a = some (.dT kvs) ∧ y = .ref b ∧ H b = some (.tup (k.map kV)) ∧ kvs.length < sizeLine ∧ H' = upd H a (.dT (putK kvs k v))
theorem DGet.k {H : Hp} {a : Addr} {kvs : List (Key × V)} {k : Key} (e : H a = some (.dK kvs)) : DGet H a (kV k) (valV kvs k) := .inl ⟨kvs, k, .inl e, rfl, rfl⟩
theorem DGet.t {H : Hp} {a b : Addr} {kvs : List (List Key × V)} {k : List Key} (e : H a = some (.dT kvs)) (eb : H b = some (.tup (k.map kV))) : DGet H a (.ref b) (valV kvs k) := .inr ⟨kvs, k, b, .inl e, rfl, eb, rfl⟩
theorem DPut.k {H : Hp} {a : Addr} {kvs : List (Key × V)} {k : Key} {v : V} (e : H a = some (.dK kvs)) (hl : kvs.length < sizeLine) : DPut H a (kV k) v (upd H a (.dK (putK kvs k v))) := .inl ⟨kvs, k, e, rfl, hl, rfl⟩
theorem DPut.t {H : Hp} {a b : Addr} {kvs : List (List Key × V)} {k : List Key} {v : V} (e : H a = some (.dT kvs)) (eb : H b = some (.tup (k.map kV))) (hl : kvs.length < sizeLine) :
    DPut H a (.ref b) v (upd H a (.dT (putK kvs k v))) := .inr ⟨kvs, k, b, e, rfl, eb, hl, rfl⟩


section
variable {X : Cx} {pins : List (Addr × Obj)} {σ : St} {H : Hp} {s : Shared} {a : Addr} {y v : V} {u r : Value} {o : Option V} {A : Around} {E : Value → Shared → Prop}

theorem Inv.big (I : Inv X pins σ H s) : sysModules < s.heap.objs.size := by
  have h : mainGlobals < s.heap.objs.size := (I.mod.glob.keeps I.bk).lt
  exact Nat.lt_trans (by decide) h

/-- d[y], there -/
theorem d_getItem {Q : Value → Shared → Prop} (hu : A.units + 1 < cLine) (I : Inv X pins σ H s) (g : DGet H a y (some v)) (ry : RelV y u) (h : ∀ w' s', Inv X pins σ H s' → RelV v w' → Q w' s') :
    wpAny (model X.prog X.w) A (getItem (.ref a) u) Q E s := by
  rcases g with ⟨kvs, k, e, ey, l⟩ | ⟨kvs, k, b, e, ey, eb, l⟩
  · subst ey
    obtain ⟨z, hd, vs, rel, dd⟩ := dk_rd I.hok e
    obtain ⟨w', hw, rw'⟩ := RelO.some_of (v := v) (o := valueAt vs k) (by rw [l]; exact rel.val k)
    exact wpAny_getItem_of (kV_is ry) dd.mapOf hw (h w' _ (I.tok _) rw')
  · subst ey
    cases (show u = Value.ref b from ry)
    obtain ⟨z, hd, xs, rel, dd⟩ := dt_rd I.hok e
    obtain ⟨w', hw, rw'⟩ := RelO.some_of (v := v) (o := (atKey xs k).map (·.2)) (by rw [l]; exact rel.val k)
    obtain ⟨p, hp, hp2⟩ := Option.map_eq_some_iff.mp hw
    refine wpAny_getItem_heap (tupleKind_room_in1 hu) (key_of I.hok eb) dd hp ?_
    rw [hp2]
    exact h w' _ (I.tok _) rw'
/-- y in d -/
theorem d_in {Q : Value → Shared → Prop} (hu : A.units + 1 < cLine) (I : Inv X pins σ H s) (g : DGet H a y o) (ry : RelV y u) (h : ∀ s', Inv X pins σ H s' → Q (.bool o.isSome) s') :
    wpAny (model X.prog X.w) A (compareOp .In u (.ref a)) Q E s := by
  rcases g with ⟨kvs, k, e, ey, l⟩ | ⟨kvs, k, b, e, ey, eb, l⟩
  · subst ey
    obtain ⟨z, hd, vs, rel, dd⟩ := dk_rd I.hok e
    refine wpAny_in_of (kV_is ry) hd dd.mapOf ?_
    rw [← (rel.val k).isSome_eq, ← l]
    exact h _ (I.tok _)
  · subst ey
    cases (show u = Value.ref b from ry)
    obtain ⟨z, hd, xs, rel, dd⟩ := dt_rd I.hok e
    refine wpAny_in_heap (tupleKind_room_in1 hu) (key_of I.hok eb) hd dd ?_
    have q := (rel.val k).isSome_eq
    rw [Option.isSome_map] at q
    rw [← q, ← l]
    exact h _ (I.tok _)
theorem d_notIn {Q : Value → Shared → Prop} (hu : A.units + 1 < cLine) (I : Inv X pins σ H s) (g : DGet H a y o) (ry : RelV y u) (h : ∀ s', Inv X pins σ H s' → Q (.bool (!o.isSome)) s') :
    wpAny (model X.prog X.w) A (compareOp .NotIn u (.ref a)) Q E s := by
  rcases g with ⟨kvs, k, e, ey, l⟩ | ⟨kvs, k, b, e, ey, eb, l⟩
  · subst ey
    obtain ⟨z, hd, vs, rel, dd⟩ := dk_rd I.hok e
    refine wpAny_notIn_of (kV_is ry) hd dd.mapOf ?_
    rw [← (rel.val k).isSome_eq, ← l]
    exact h _ (I.tok _)
  · subst ey
    cases (show u = Value.ref b from ry)
    obtain ⟨z, hd, xs, rel, dd⟩ := dt_rd I.hok e
    refine wpAny_notIn_heap (tupleKind_room_in1 hu) (key_of I.hok eb) hd dd ?_
    have q := (rel.val k).isSome_eq
    rw [Option.isSome_map] at q
    rw [← q, ← l]
    exact h _ (I.tok _)
/-- a dict's object is replaced -/
theorem d_write {h' : Heap} {t' : Nat} {ob : HO} (I : Inv X pins σ H s) (mu : Mut (H a)) (hs : Heap.SameBut a s.heap h') (he : ∃ q, h'.get? a = some q) (new : ObjOk X.prog X.w (upd H a ob) h' a ob) :
    Inv X pins σ (upd H a ob) { s with heap := h', toks := t' } :=
  I.write (x := a) (e := a) mu (.inl rfl) (fun b q hb z => (hs.2 b hb).trans z) he new
theorem dk_new {P : Program} {w : World} {H' : Hp} {h' : Heap} {kvs : List (Key × V)} {vs : List (Key × Value)} (z : kvs.length ≤ sizeLine) (hd : (a == sysModules) = false) (rel : KV kvs vs) (dd : h'.DictOf (mixKind P w) a vs) :
    ObjOk P w H' h' a (.dK kvs) := ⟨z, hd, vs, rel, dd⟩
/-- d[y] = v -/
theorem d_setItem {H' : Hp} {Q : Unit → Shared → Prop} (hu : A.units + 1 < cLine) (I : Inv X pins σ H s) (g : DPut H a y v H') (ry : RelV y u) (rv : RelV v r) (h : ∀ s', Inv X pins σ H' s' → Q () s') :
    wpAny (model X.prog X.w) A (setItem (.ref a) u r) Q E s := by
  rcases g with ⟨kvs, k, e, ey, l, eH⟩ | ⟨kvs, k, b, e, ey, eb, l, eH⟩
  · subst ey eH
    obtain ⟨z, hd, vs, rel, dd⟩ := dk_of I.hok e
    have hz : vs.length ≤ sizeLine := by rw [← rel.length]; exact z
    have hl : (putK kvs k v).length ≤ sizeLine := by have := length_putK kvs k v; omega
    refine wpAny_setItem_pairs (hsz := hz) (kV_is ry) dd fun h' dd' hs => h _ ?_
    have he : ∃ q, h'.get? a = some q := let ⟨q, _, _, hq, _⟩ := dd'; ⟨q, hq⟩
    exact d_write I (by rw [e]; exact True.intro) hs he (dk_new hl hd (rel.put k rv) dd')
  · subst ey eH
    cases (show u = Value.ref b from ry)
    obtain ⟨z, hd, xs, rel, dd⟩ := dt_of I.hok e
    have hz : xs.length ≤ sizeLine := by rw [← Paired.length rel]; exact z
    have hl : (putK kvs k v).length ≤ sizeLine := by have := length_putK kvs k v; omega
    refine wpAny_setItem_heap (hsz := hz) (tupleKind_room_in1 hu) (key_of I.hok eb) dd fun h' dd' hs => h _ ?_
    obtain ⟨q, es, ep, hq, h2, h3, h4, _, h5⟩ := dd'
    refine d_write I (by rw [e]; exact True.intro) hs ⟨q, hq⟩ ⟨hl, hd, _, (rel.put k eb rv).keeps fun c ys ec => ?_, q, es, ep, hq, h2, h3, h4, h5⟩
    rw [upd_ne (ne_of ec e (fun z => nomatch z))]
    exact ec
end

section
variable {X : Cx} {pins : List (Addr × Obj)} {σ : St} {H : Hp} {s : Shared} {a : Addr} {kvs : List (Key × V)} {k : Key} {u : Value} {A : Around} {E : Value → Shared → Prop}
/-- del d[k] -/
theorem d_delItem {Q : Unit → Shared → Prop} (I : Inv X pins σ H s) (e : H a = some (.dK kvs)) (ry : RelV (kV k) u) (l : (valV kvs k).isSome = true) (h : ∀ s', Inv X pins σ (upd H a (.dK (dropK kvs k))) s' → Q () s') :
    wpAny (model X.prog X.w) A (delItem (.ref a) u) Q E s := by
  obtain ⟨z, hd, vs, rel, dd⟩ := dk_of I.hok e
  refine wpAny_delItem_slot dd.typeIs (by decide) PySem.F.slot_dict_delitem
    (call_meetsIn PySem.F.slot_dict_delitem dd.typeIs PySem.F.entry_dict_delitem (PySem.F.args_dict_delitem_2 _ _) (meets_dict_delitem_pairs (mixKind X.prog X.w) a (kV_is ry)) ⟨vs, dd, by rw [← rel.length]; exact z, by rw [← (rel.val k).isSome_eq]; exact l, fun h' dd' hs => h _ ?_⟩)
  have he : ∃ q, h'.get? a = some q := let ⟨q, _, _, hq, _⟩ := dd'; ⟨q, hq⟩
  exact d_write I (by rw [e]; exact True.intro) hs he (dk_new (Nat.le_trans (dropK_le kvs k) z) hd (rel.drop k) dd')
/-- d.pop(k[, x]), there -/
theorem d_pop {v : V} {more : List Value} {Q : Value → Shared → Prop} (I : Inv X pins σ H s) (e : H a = some (.dK kvs)) (ry : RelV (kV k) u) (l : valV kvs k = some v) (hm : more = [] ∨ ∃ x, more = [x])
    (h : ∀ w' s', Inv X pins σ (upd H a (.dK (dropK kvs k))) s' → RelV v w' → Q w' s') : wpAny (model X.prog X.w) A (call (.builtin "dict.pop") (.ref a :: u :: more)) Q E s := by
  obtain ⟨z, hd, vs, rel, dd⟩ := dk_of I.hok e
  obtain ⟨w', hw, rw'⟩ := RelO.some_of (v := v) (o := valueAt vs k) (by rw [← l]; exact rel.val k)
  have hp : (keyPart u).isSome = true := by
    cases k with
    | inl i => obtain ⟨t, q⟩ := (show ∃ t, u = Value.int i t from ry); subst q; rfl
    | inr x => obtain ⟨t, q⟩ := (show ∃ t, u = Value.str x t from ry); subst q; rfl
  have ha : argsOk "dict.pop" ⟨.ref a :: u :: more, []⟩ := by
    rcases hm with q | ⟨x, q⟩
    · subst q; exact PySem.F.args_dict_pop_2 _ _
    · subst q; exact PySem.F.args_dict_pop_3 _ _ _
  refine call_meetsIn PySem.F.slot_dict_pop dd.typeIs PySem.F.entry_dict_pop ha (meets_dict_pop_there (mixKind X.prog X.w) a (kV_is ry) more hm hp)
    ⟨vs, w', dd, by rw [← rel.length]; exact z, hw, fun h' dd' hs => h w' _ ?_ rw'⟩
  have he : ∃ q, h'.get? a = some q := let ⟨q, _, _, hq, _⟩ := dd'; ⟨q, hq⟩
  exact d_write I (by rw [e]; exact True.intro) hs he (dk_new (Nat.le_trans (dropK_le kvs k) z) hd (rel.drop k) dd')
/-- d.pop(k, x), not there -/
theorem d_popD {r : Value} {Q : Value → Shared → Prop} (I : Inv X pins σ H s) (e : H a = some (.dK kvs)) (ry : RelV (kV k) u) (l : valV kvs k = none) (h : ∀ s', Inv X pins σ H s' → Q r s') :
    wpAny (model X.prog X.w) A (call (.builtin "dict.pop") [.ref a, u, r]) Q E s := by
  obtain ⟨z, hd, vs, rel, dd⟩ := dk_of I.hok e
  have hn : valueAt vs k = none := RelO.none_of (by rw [← l]; exact rel.val k)
  have hp : (keyPart u).isSome = true := by
    cases k with
    | inl i => obtain ⟨t, q⟩ := (show ∃ t, u = Value.int i t from ry); subst q; rfl
    | inr x => obtain ⟨t, q⟩ := (show ∃ t, u = Value.str x t from ry); subst q; rfl
  exact call_meetsIn PySem.F.slot_dict_pop dd.typeIs PySem.F.entry_dict_pop (PySem.F.args_dict_pop_3 _ _ _) (meets_dict_pop_default (mixKind X.prog X.w) a (kV_is ry) hd hp r) ⟨vs, dd, hn, h _ (I.tok _)⟩
/-- d.clear() -/
theorem d_clear {Q : Value → Shared → Prop} (I : Inv X pins σ H s) (e : H a = some (.dK kvs)) (h : ∀ s', Inv X pins σ (upd H a (.dK [])) s' → Q .none s') : wpAny (model X.prog X.w) A (call (.builtin "dict.clear") [.ref a]) Q E s := by
  obtain ⟨z, hd, vs, rel, dd⟩ := dk_of I.hok e
  refine call_meetsIn PySem.F.slot_dict_clear dd.typeIs PySem.F.entry_dict_clear (PySem.F.args_dict_clear_1 _) (meets_dict_clear (mixKind X.prog X.w) a) ⟨vs, dd, by rw [← rel.length]; exact z, fun h' dd' hs => h _ ?_⟩
  have he : ∃ q, h'.get? a = some q := let ⟨q, _, _, hq, _⟩ := dd'; ⟨q, hq⟩
  exact d_write (t' := s.toks) I (by rw [e]; exact True.intro) hs he (dk_new (Nat.zero_le _) hd .nil dd')
/-- len(d) -/
theorem d_len {Q : Value → Shared → Prop} (I : Inv X pins σ H s) (e : Rd H a (.dK kvs)) (h : ∀ t s', Inv X pins σ H s' → Q (.int kvs.length t) s') : wpAny (model X.prog X.w) A (call (.builtin "len") [.ref a]) Q E s := by
  obtain ⟨z, hd, vs, rel, dd⟩ := dk_rd I.hok e
  refine call_len_dict hd dd (by rw [← rel.length]; rw [sizeLine_eq] at z; omega) ?_
  rw [← rel.length]
  exact h _ _ (I.tok _)
/-- if d -/
theorem d_truth {Q : Bool → Shared → Prop} (I : Inv X pins σ H s) (e : Rd H a (.dK kvs)) (h : ∀ s', Inv X pins σ H s' → Q (!kvs.isEmpty) s') : wpAny (model X.prog X.w) A (truthy (.ref a)) Q E s := by
  obtain ⟨z, hd, vs, rel, dd⟩ := dk_rd I.hok e
  refine wpAny_truthy_dict hd dd (by rw [← rel.length]; rw [sizeLine_eq] at z; omega) ?_
  have q : kvs.isEmpty = vs.isEmpty := by cases rel <;> rfl
  rw [← q]
  exact h _ (I.tok _)
end


/-! ### readings and rules -/
/-- the element of a subscription, not a slice -/
def NoSl (i : Expr) : Prop := ∀ ov iv, subscripted i false ov iv = operate [ov, iv] (getItem ov iv)
theorem subD_of {prog : Program} {w : World} {A : Around} {E : Value → Shared → Prop} {s : Shared} {env : Env} {value slice : Expr} {pos : Pos} {T id : String} {Q : Value → Shared → Prop}
    (hl : typeLookup (.type T) "__getitem__" = pure (some (.builtin id))) (hs : NoSl slice)
    (h : wpAny (model prog w) A (eval value env) (fun o s₁ => wpAny (model prog w) A (eval slice env) (fun i s₂ => s₂.TypeIs o T ∧ wpAny (model prog w) A (getItem o i) Q E s₂) E s₁) E s) :
    wpAny (model prog w) A (eval (.Subscript value slice pos) env) Q E s := by
  refine Subscript_ (wpAny_mono h (fun o s₁ h₁ => wpAny_mono h₁ (fun i s₂ h₂ => ?_) fun _ _ x => x) fun _ _ x => x)
  obtain ⟨hT, h₂⟩ := h₂
  unfold subscriptTail
  refine wpAny_bind ?_
  rw [getitemInPython_of_ne hT.not_modules]
  refine wpAny_bind (wpAny_specialOf hT hl ?_)
  have fin : wpAny (model prog w) A (subscripted slice false o i) (fun r s₃ => wpAny (model prog w) A (letTemporaryGo value o r >>= fun _ => pure r) Q E s₃) E s₂ := by
    rw [hs o i]
    exact wpAny_operating (wpAny_mono h₂ (fun r s₃ h₃ => wpAny_bind (wpAny_letTemporaryGo (wpAny_pure h₃))) fun _ _ x => x)
  first
    | exact wpAny_pure (wpAny_bind fin)
    | exact wpAny_bind (wpAny_pure (wpAny_bind fin))
    | exact wpAny_bind fin

theorem dict_typeIs {X : Cx} {pins : List (Addr × Obj)} {σ : St} {H : Hp} {s : Shared} {a : Addr} {y : V} {o : Option V} (I : Inv X pins σ H s) (g : DGet H a y o) : s.TypeIs (.ref a) "dict" := by
  rcases g with ⟨kvs, k, e, _, _⟩ | ⟨kvs, k, b, e, _, _, _⟩
  · obtain ⟨_, _, vs, _, dd⟩ := dk_rd I.hok e
    exact dd.typeIs
  · obtain ⟨_, _, xs, _, dd⟩ := dt_rd I.hok e
    exact dd.typeIs
theorem dict_noDict {X : Cx} {pins : List (Addr × Obj)} {σ : St} {H : Hp} {s : Shared} {a : Addr} {y : V} {o : Option V} (I : Inv X pins σ H s) (g : DGet H a y o) :
    ∀ b, Value.ref a = .ref b → ∃ ob, s.heap.get? b = some ob ∧ ob.dict = none := fun b q => by
  cases q
  rcases g with ⟨kvs, k, e, _, _⟩ | ⟨kvs, k, b, e, _, _, _⟩
  · obtain ⟨_, _, vs, _, ob, _, _, h1, h2, _⟩ := dk_rd I.hok e
    exact ⟨ob, h1, h2.2.1⟩
  · obtain ⟨_, _, xs, _, ob, _, _, h1, h2, _⟩ := dt_rd I.hok e
    exact ⟨ob, h1, h2.2.1⟩

/-- d[y] -/
def tDGet (td ty : TE) : TE := fun σ H Q => td σ H fun x H1 => ty σ H1 fun y H2 => ∃ a v, x = .ref a ∧ DGet H2 a y (some v) ∧ Q v H2
/-- y in d, y not in d -/
def tDIn (ty td : TE) : TE := fun σ H Q => ty σ H fun y H1 => td σ H1 fun x H2 => ∃ a o, x = .ref a ∧ DGet H2 a y o ∧ Q (.bl o.isSome) H2
def tDNotIn (ty td : TE) : TE := fun σ H Q => ty σ H fun y H1 => td σ H1 fun x H2 => ∃ a o, x = .ref a ∧ DGet H2 a y o ∧ Q (.bl (!o.isSome)) H2
/-- d[y] = v -/
def sDPut (td ty tv : TE) : TS := fun D σ H => tv σ H fun v H1 => td σ H1 fun x H2 => ty σ H2 fun y H3 => ∃ a H4, x = .ref a ∧ DPut H3 a y v H4 ∧ D.nx σ H4
/-- d[y] op= v -/
def sDAug (td ty tv : TE) (rd : V → V → Hp → VK → Prop) : TS := fun D σ H => td σ H fun x H1 => ty σ H1 fun y H2 => ∃ a v, x = .ref a ∧ DGet H2 a y (some v) ∧
  tv σ H2 fun y2 H3 => rd v y2 H3 fun z H4 => ∃ H5, DPut H4 a y z H5 ∧ D.nx σ H5
/-- del d[y] -/
def sDDel (td ty : TE) : TS := fun D σ H => td σ H fun x H1 => ty σ H1 fun y H2 => ∃ a kvs k, x = .ref a ∧ H2 a = some (.dK kvs) ∧ y = kV k ∧ (valV kvs k).isSome = true ∧ D.nx σ (upd H2 a (.dK (dropK kvs k)))

section
variable {X : Cx} {o i e value : Expr} {pos pos' tpos : Pos} {td ty tv : TE}
theorem pe_dget (hu : X.A.units + 1 < cLine) (ho : PE X o td) (hi : PE X i ty) (hs : NoSl i) : PE X (.Subscript o i pos) (tDGet td ty) := by
  intro pins s σ H Q I h
  refine subD_of PySem.F.slot_dict_getitem.lookup hs (thn (ho pins s σ H _ I h) fun u s1 ⟨x, H1, I1, rx, q1⟩ => thn (hi pins s1 σ H1 _ I1 q1) fun iv s2 ⟨y, H2, I2, ry, a, v, ex, g, q2⟩ => ?_)
  subst ex
  obtain rfl : u = Value.ref a := rx
  exact ⟨dict_typeIs I2 g, d_getItem hu I2 g ry fun w' s3 I3 rw' => ⟨v, H2, I3, rw', q2⟩⟩
theorem pc_din (hu : X.A.units + 1 < cLine) (hi : PE X i ty) (ho : PE X o td) : PC X .In i o (tDIn ty td) := by
  intro pins s σ H Q I h
  refine thn (hi pins s σ H _ I h) fun iv s1 ⟨y, H1, I1, ry, q1⟩ => thn (ho pins s1 σ H1 _ I1 q1) fun u s2 ⟨x, H2, I2, rx, a, ov, ex, g, q2⟩ => ?_
  subst ex
  obtain rfl : u = Value.ref a := rx
  exact d_in hu I2 g ry fun s3 I3 => ⟨.bl ov.isSome, H2, I3, rfl, q2⟩
theorem pc_dnotin (hu : X.A.units + 1 < cLine) (hi : PE X i ty) (ho : PE X o td) : PC X .NotIn i o (tDNotIn ty td) := by
  intro pins s σ H Q I h
  refine thn (hi pins s σ H _ I h) fun iv s1 ⟨y, H1, I1, ry, q1⟩ => thn (ho pins s1 σ H1 _ I1 q1) fun u s2 ⟨x, H2, I2, rx, a, ov, ex, g, q2⟩ => ?_
  subst ex
  obtain rfl : u = Value.ref a := rx
  exact d_notIn hu I2 g ry fun s3 I3 => ⟨.bl (!ov.isSome), H2, I3, rfl, q2⟩
theorem ps_dput (hu : X.A.units + 1 < cLine) (ho : PE X o td) (hi : PE X i ty) (hv : PE X value tv) (hs : swapsWith value (some (.Subscript o i pos')) pos.line X.env = pure false) :
    PS X (.Assign [.Subscript o i pos'] value pos) (sDPut td ty tv) := by
  intro pins s σ H D I h
  refine wpAny_Assign_Subscript (thn (hv pins s σ H _ I h) fun r s1 ⟨v, H1, I1, rv, q1⟩ => thn (ho pins s1 σ H1 _ I1 q1) fun u s2 ⟨x, H2, I2, rx, q2⟩ => thn (hi pins s2 σ H2 _ I2 q2) fun iv s3 ⟨y, H3, I3, ry, a, H4, ex, g, q3⟩ => ?_) hs
  subst ex
  obtain rfl : u = Value.ref a := rx
  exact d_setItem hu I3 g ry rv fun s4 I4 => ⟨σ, H4, I4, q3⟩
theorem ps_daug {op : Operator} {rd : V → V → Hp → VK → Prop} (hu : X.A.units + 1 < cLine) (ho : PE X o td) (hi : PE X i ty) (hv : PE X value tv) (hop : InOp X op rd)
    (ha : ∀ ov iv new, augStore i ov iv new = (do holding [new, ov, iv] (setItem ov iv new); release [new, ov, iv] []; pure .next)) : PS X (.AugAssign (.Subscript o i tpos) op value pos) (sDAug td ty tv rd) := by
  intro pins s σ H D I h
  refine wpAny_AugAssign_SubscriptAny (thn (ho pins s σ H _ I h) fun u s1 ⟨x, H1, I1, rx, q1⟩ => thn (hi pins s1 σ H1 _ I1 q1) fun iv s2 ⟨y, H2, I2, ry, a, v, ex, g, q2⟩ => ?_) ha
  subst ex
  obtain rfl : u = Value.ref a := rx
  refine d_getItem hu I2 g ry fun w' s3 I3 rw' => thn (hv pins s3 σ H2 _ I3 q2) fun w2 s4 ⟨y2, H3, I4, ry2, q3⟩ => thn (hop pins s4 σ H3 v y2 w' w2 _ I4 rw' ry2 q3) fun w3 s5 ⟨z, H4, I5, rz, H5, g5, q4⟩ => ?_
  exact d_setItem hu I5 g5 ry rz fun s6 I6 => ⟨σ, H5, I6, q4⟩
theorem ps_ddel (ho : PE X o td) (hi : PE X i ty) : PS X (.Delete [.Subscript o i tpos] pos) (sDDel td ty) := by
  intro pins s σ H D I h
  refine wpAny_Delete (wpAny_deleteEach_cons (wpAny_delete_Subscript (thn (ho pins s σ H _ I h) fun u s1 ⟨x, H1, I1, rx, q1⟩ => thn (hi pins s1 σ H1 _ I1 q1) fun iv s2 ⟨y, H2, I2, ry, a, kvs, k, ex, e, ey, l, q2⟩ => ?_)))
  subst ex ey
  obtain rfl : u = Value.ref a := rx
  exact d_delItem I2 e ry l fun s3 I3 => wpAny_deleteEach_nil ⟨σ, _, I3, q2⟩
end


/-! ### displays -/
theorem dk_empty {P : Program} {w : World} {H : Hp} (h : Heap) (hb : sysModules < h.objs.size) : ObjOk P w H (h.push { cls := .type "dict", data := .dict #[] }) h.objs.size (.dK []) :=
  ⟨Nat.zero_le _, beq_eq_false_iff_ne.mpr (Ne.symm (Nat.ne_of_lt hb)), [], .nil, Heap.DictOf.new h⟩
theorem dt_empty {P : Program} {w : World} {H : Hp} (h : Heap) (hb : sysModules < h.objs.size) : ObjOk P w H (h.push { cls := .type "dict", data := .dict #[] }) h.objs.size (.dT []) :=
  ⟨Nat.zero_le _, beq_eq_false_iff_ne.mpr (Ne.symm (Nat.ne_of_lt hb)), [], .nil, _, #[], 0, Heap.get?_push_size _ rfl, ⟨rfl, rfl, rfl⟩, rfl, rfl, List.nodup_nil⟩
/-- {}, to be a dict of the kind that is wanted -/
def tDNewK : TE := fun _ H Q => ∀ p, H p = none → Q (.ref p) (upd H p (.dK []))
def tDNewT : TE := fun _ H Q => ∀ p, H p = none → Q (.ref p) (upd H p (.dT []))
section
variable {X : Cx} {pos : Pos}
theorem pe_dnewK : PE X (.Dict [] [] pos) tDNewK := fun pins s σ H Q I h =>
  wpAny_Dict_empty ⟨.ref s.heap.objs.size, _, I.laid (a := s.heap.objs.size) (o := .dK []) (t' := s.toks) (fun _ _ q => Heap.get?_push_of_some _ q) (Nat.le_refl _) (dk_empty s.heap I.big), rfl, h _ (I.hok.fresh (Nat.le_refl _))⟩
theorem pe_dnewT : PE X (.Dict [] [] pos) tDNewT := fun pins s σ H Q I h =>
  wpAny_Dict_empty ⟨.ref s.heap.objs.size, _, I.laid (a := s.heap.objs.size) (o := .dT []) (t' := s.toks) (fun _ _ q => Heap.get?_push_of_some _ q) (Nat.le_refl _) (dt_empty s.heap I.big), rfl, h _ (I.hok.fresh (Nat.le_refl _))⟩
end

/-- the pairs of a display, from the left -/
def tPairs : List (TE × TE) → St → Hp → (List (V × V) → Hp → Prop) → Prop
  | [], _, H, Q => Q [] H
  | (tk, tv) :: r, σ, H, Q => tk σ H fun x H1 => tv σ H1 fun y H2 => tPairs r σ H2 fun ps H3 => Q ((x, y) :: ps) H3
abbrev VV : List (V × V) → List (Value × Value) → Prop := Paired fun p q => RelV p.1 q.1 ∧ RelV p.2 q.2
def PPs (X : Cx) (pos : Pos) (keys : List (Option Expr)) (values : List Expr) (trs : List (TE × TE)) : Prop :=
  ∀ (pins : List (Addr × Obj)) (s : Shared) (σ : St) (H : Hp) (Q : List (V × V) → Hp → Prop), Inv X pins σ H s → tPairs trs σ H Q →
    wpAny (model X.prog X.w) X.A (evalPairs (pairTrees keys values X.env pos)) (fun vs s' => ∃ ps H', Inv X pins σ H' s' ∧ VV ps vs ∧ Q ps H') X.xe s
theorem pps_nil {X : Cx} {pos : Pos} : PPs X pos [] [] [] := fun pins s σ H Q I h => pairTrees_nil_walk ⟨[], H, I, .nil, h⟩
theorem pps_cons {X : Cx} {pos : Pos} {k v : Expr} {ks : List (Option Expr)} {vs : List Expr} {tk tv : TE} {trs : List (TE × TE)} (hk : PE X k tk) (hv : PE X v tv) (hr : PPs X pos ks vs trs) :
    PPs X pos (some k :: ks) (v :: vs) ((tk, tv) :: trs) := fun pins s σ H Q I h =>
  pairTrees_cons_walk (thn (hk pins s σ H _ I h) fun u s1 ⟨x, H1, I1, rx, q1⟩ => thn (hv pins s1 σ H1 _ I1 q1) fun w2 s2 ⟨y, H2, I2, ry, q2⟩ =>
    thn (hr pins s2 σ H2 _ I2 q2) fun ws s3 ⟨ps, H3, I3, rel, q3⟩ => ⟨(x, y) :: ps, H3, I3, .cons ⟨rx, ry⟩ rel, q3⟩)

def mergeK (kvs more : List (Key × V)) : List (Key × V) := more.foldl (fun acc kv => putK acc kv.1 kv.2) kvs
theorem KV.merge : ∀ {more : List (Key × V)} {rs : List (Key × Value)} {kvs : List (Key × V)} {vs : List (Key × Value)}, KV more rs → KV kvs vs → KV (mergeK kvs more) (merged vs rs) := by
  intro more rs kvs vs r
  unfold KV at r
  induction r generalizing kvs vs with
  | nil => intro q; exact q
  | @cons p q ps qs h t ih =>
    intro r0
    have e : KV (putK kvs p.1 p.2) (stored vs q.1 q.2) := by
      have := r0.put p.1 h.2
      rw [← h.1]; exact this
    exact ih e
theorem length_mergeK : ∀ (more kvs : List (Key × V)), (mergeK kvs more).length ≤ kvs.length + more.length
  | [], kvs => by show kvs.length ≤ kvs.length + 0; omega
  | p :: r, kvs => by
    have h1 := length_mergeK r (putK kvs p.1 p.2)
    have h2 := length_putK kvs p.1 p.2
    show (mergeK (putK kvs p.1 p.2) r).length ≤ _
    rw [List.length_cons]; omega
theorem carries_of {P : Program} {w : World} : ∀ {kvs : List (Key × V)} {ws : List (Value × Value)}, VV (kvs.map fun kv => (kV kv.1, kv.2)) ws → ∃ rs, Carries (mixKind P w) ws rs ∧ KV kvs rs
  | [], _, r => by rw [List.map_nil] at r; cases r; exact ⟨[], True.intro, .nil⟩
  | p :: kvs, _, r => by
    rw [List.map_cons] at r
    cases r with
    | @cons a b as bs h t =>
      obtain ⟨rs, c, q⟩ := carries_of (P := P) (w := w) t
      obtain ⟨b1, b2⟩ := b
      exact ⟨(p.1, b2) :: rs, ⟨kV_is h.1, rfl, c⟩, .cons ⟨rfl, h.2⟩ q⟩
/-- {k: v, ..} with keys ints and texts; the new dict stands empty while the pairs are made -/
def tDisp (trs : List (TE × TE)) : TE := fun σ H Q => ∀ p, H p = none → tPairs trs σ (upd H p (.dK [])) fun ps H2 => H2 p = some (.dK []) ∧ ∃ kvs : List (Key × V), ps = kvs.map (fun kv => (kV kv.1, kv.2)) ∧ kvs.length ≤ 15 ∧ Q (.ref p) (upd H2 p (.dK (mergeK [] kvs)))
theorem pe_disp {X : Cx} {pos : Pos} {keys : List (Option Expr)} {values : List Expr} {trs : List (TE × TE)} (h : PPs X pos keys values trs) (hall : keys.all (·.isSome) = true) (hl : keys.length = values.length) (h0 : keys ≠ [])
    (h15 : keys.length ≤ 15) : PE X (.Dict keys values pos) (tDisp trs) := by
  intro pins s σ H Q I q
  have hn := I.hok.fresh (Nat.le_refl s.heap.objs.size)
  have I1 := I.laid (a := s.heap.objs.size) (o := .dK []) (h' := s.heap.push { cls := .type "dict", data := .dict #[] }) (t' := s.toks) (fun _ _ q => Heap.get?_push_of_some _ q) (Nat.le_refl _) (dk_empty s.heap I.big)
  refine wpAny_Dict_walk (knd := mixKind X.prog X.w) hall hl h0 h15 (thn (h pins _ σ _ _ I1 (q _ hn)) fun ws s2 ⟨ps, H2, I2, rel, e, kvs, ep, lk, q2⟩ => ?_)
  subst ep
  obtain ⟨rs, c, rk⟩ := carries_of (P := X.prog) (w := X.w) rel
  obtain ⟨z, hd, vs0, r0, dd⟩ := dk_of I2.hok e
  cases r0
  refine ⟨rs, c, dd, fun h' dd' hs => ⟨.ref s.heap.objs.size, _, ?_, rfl, q2⟩⟩
  have hz : (mergeK [] kvs).length ≤ sizeLine := by
    have h1 := length_mergeK kvs []
    rw [List.length_nil] at h1
    rw [sizeLine_eq]; omega
  have he : ∃ q, h'.get? s.heap.objs.size = some q := let ⟨q, _, _, hq, _⟩ := dd'; ⟨q, hq⟩
  exact d_write I2 (by rw [e]; exact True.intro) hs he (dk_new hz hd (rk.merge .nil) dd')


/-! ### methods -/
/-- a method call o.m(e) of a built-in, with one argument: what must be seen of the text -/
structure M1 (X : Cx) (o : Expr) (m : Str) (apos : Pos) (e : Expr) (cpos : Pos) : Prop where
  base : attributeBase o m X.env (eval o X.env) = eval o X.env
  few : ((backTo cpos (starEach [e] X.env)).all (fun x => !x.1) && (backToKw cpos (keywordEach [] X.env)).all (fun x => x.1.isSome)
    && decide (([e] : List Expr).length + ([] : List Keyword).length + (if ([] : List Keyword).isEmpty then 0 else 1) < 30)) = true
  line : (apos.endLine == cpos.line) = true
  trees : backTo cpos (starEach [e] X.env) = [(false, eval e X.env)]
structure M2 (X : Cx) (o : Expr) (m : Str) (apos : Pos) (e f : Expr) (cpos : Pos) : Prop where
  base : attributeBase o m X.env (eval o X.env) = eval o X.env
  few : ((backTo cpos (starEach [e, f] X.env)).all (fun x => !x.1) && (backToKw cpos (keywordEach [] X.env)).all (fun x => x.1.isSome)
    && decide (([e, f] : List Expr).length + ([] : List Keyword).length + (if ([] : List Keyword).isEmpty then 0 else 1) < 30)) = true
  line : (apos.endLine == cpos.line) = true
  trees : backTo cpos (starEach [e, f] X.env) = [(false, eval e X.env), (false, eval f X.env)]

/-- a is a dict, whatever its keys -/
def IsD (H : Hp) (a : Addr) : Prop := (∃ kvs, Rd H a (.dK kvs)) ∨ ∃ kvs, Rd H a (.dT kvs)
theorem isD_at {X : Cx} {pins : List (Addr × Obj)} {σ : St} {H : Hp} {s : Shared} {a : Addr} (I : Inv X pins σ H s) (d : IsD H a) :
    s.TypeIs (.ref a) "dict" ∧ (∀ b, Value.ref a = .ref b → ∃ ob, s.heap.get? b = some ob ∧ ob.dict = none) ∧ (a == sysModules) = false := by
  rcases d with ⟨kvs, e⟩ | ⟨kvs, e⟩
  · obtain ⟨_, hd, vs, _, dd⟩ := dk_rd I.hok e
    refine ⟨dd.typeIs, fun b q => ?_, hd⟩
    cases q
    obtain ⟨ob, _, _, h1, h2, _⟩ := dd
    exact ⟨ob, h1, h2.2.1⟩
  · obtain ⟨_, hd, xs, _, dd⟩ := dt_rd I.hok e
    refine ⟨dd.typeIs, fun b q => ?_, hd⟩
    cases q
    obtain ⟨ob, _, _, h1, h2, _⟩ := dd
    exact ⟨ob, h1, h2.2.1⟩

section
variable {X : Cx} {pins : List (Addr × Obj)} {σ : St} {H : Hp} {s : Shared} {a : Addr} {y d : V} {u r : Value} {o : Option V} {A : Around} {E : Value → Shared → Prop}
/-- d.get(y) -/
theorem d_get1 {Q : Value → Shared → Prop} (hu : A.units + 1 < cLine) (I : Inv X pins σ H s) (g : DGet H a y o) (ry : RelV y u) (h : ∀ w' s', Inv X pins σ H s' → RelV (o.getD .non) w' → Q w' s') :
    wpAny (model X.prog X.w) A (call (.builtin "dict.get") [.ref a, u]) Q E s := by
  rcases g with ⟨kvs, k, e, ey, l⟩ | ⟨kvs, k, b, e, ey, eb, l⟩
  · subst ey
    obtain ⟨z, hd, vs, rel, dd⟩ := dk_rd I.hok e
    refine call_meetsIn PySem.F.slot_dict_get dd.typeIs PySem.F.entry_dict_get (PySem.F.args_dict_get_2 _ _) (meets_dict_get (mixKind X.prog X.w) a (kV_is ry) hd) ⟨_, dd.mapOf, h _ _ (I.tok _) ?_⟩
    rw [l]
    exact (rel.val k).getD rfl
  · subst ey
    cases (show u = Value.ref b from ry)
    obtain ⟨z, hd, xs, rel, dd⟩ := dt_rd I.hok e
    refine call_meetsIn PySem.F.slot_dict_get dd.typeIs PySem.F.entry_dict_get (PySem.F.args_dict_get_2 _ _) (meetsH_dict_get (tupleKind (mixKind X.prog X.w)) a b hd) ⟨tupleKind_room_in1 hu, k, xs, key_of I.hok eb, dd, h _ _ (I.tok _) ?_⟩
    rw [l]
    exact (rel.val k).getD rfl
/-- d.get(y, x) -/
theorem d_get2 {Q : Value → Shared → Prop} (hu : A.units + 1 < cLine) (I : Inv X pins σ H s) (g : DGet H a y o) (ry : RelV y u) (rd : RelV d r) (h : ∀ w' s', Inv X pins σ H s' → RelV (o.getD d) w' → Q w' s') :
    wpAny (model X.prog X.w) A (call (.builtin "dict.get") [.ref a, u, r]) Q E s := by
  rcases g with ⟨kvs, k, e, ey, l⟩ | ⟨kvs, k, b, e, ey, eb, l⟩
  · subst ey
    obtain ⟨z, hd, vs, rel, dd⟩ := dk_rd I.hok e
    refine call_meetsIn PySem.F.slot_dict_get dd.typeIs PySem.F.entry_dict_get (PySem.F.args_dict_get_3 _ _ _) (meets_dict_get_default (mixKind X.prog X.w) a (kV_is ry) hd r) ⟨_, dd.mapOf, h _ _ (I.tok _) ?_⟩
    rw [l]
    exact (rel.val k).getD rd
  · subst ey
    cases (show u = Value.ref b from ry)
    obtain ⟨z, hd, xs, rel, dd⟩ := dt_rd I.hok e
    refine call_meetsIn PySem.F.slot_dict_get dd.typeIs PySem.F.entry_dict_get (PySem.F.args_dict_get_3 _ _ _) (meetsH_dict_get_default (tupleKind (mixKind X.prog X.w)) a b hd r) ⟨tupleKind_room_in1 hu, k, xs, key_of I.hok eb, dd, h _ _ (I.tok _) ?_⟩
    rw [l]
    exact (rel.val k).getD rd
end

def tDGet1 (td ty : TE) : TE := fun σ H Q => td σ H fun x H1 => ∃ a, x = .ref a ∧ IsD H1 a ∧ ty σ H1 fun y H2 => ∃ o, DGet H2 a y o ∧ Q (o.getD .non) H2
def tDGet2 (td ty tx : TE) : TE := fun σ H Q => td σ H fun x H1 => ∃ a, x = .ref a ∧ IsD H1 a ∧ ty σ H1 fun y H2 => tx σ H2 fun z H3 => ∃ o, DGet H3 a y o ∧ Q (o.getD z) H3
/-- d.pop(k): there; d.pop(k, x): there or not -/
def tDPop1 (td ty : TE) : TE := fun σ H Q => td σ H fun x H1 => ∃ a, x = .ref a ∧ IsD H1 a ∧ ty σ H1 fun y H2 => ∃ kvs k v, H2 a = some (.dK kvs) ∧ y = kV k ∧ valV kvs k = some v ∧ Q v (upd H2 a (.dK (dropK kvs k)))
def tDPop2 (td ty tx : TE) : TE := fun σ H Q => td σ H fun x H1 => ∃ a, x = .ref a ∧ IsD H1 a ∧ ty σ H1 fun y H2 => tx σ H2 fun z H3 => ∃ kvs k, H3 a = some (.dK kvs) ∧ y = kV k ∧
  (∀ v, valV kvs k = some v → Q v (upd H3 a (.dK (dropK kvs k)))) ∧ (valV kvs k = none → Q z H3)
section
variable {X : Cx} {o e f : Expr} {apos cpos : Pos} {td ty tx : TE}
theorem pe_dget1 (hu : X.A.units + 1 < cLine) (ho : PE X o td) (he : PE X e ty) (m : M1 X o "get" apos e cpos) : PE X (.Call (.Attribute o "get" apos) [e] [] cpos) (tDGet1 td ty) := by
  intro pins s σ H Q I h
  refine wpAny_Call_method m.base m.few m.line PySem.F.plainAttrs_dict PySem.F.slot_dict_get PySem.F.type_dict_get (thn (ho pins s σ H _ I h) fun u s1 ⟨x, H1, I1, rx, a, ex, d, q1⟩ => ?_)
  subst ex
  obtain rfl : u = Value.ref a := rx
  obtain ⟨t1, t2, _⟩ := isD_at I1 d
  refine ⟨t1, t2, ?_⟩
  rw [m.trees]
  refine Calls.callWith_builtin rfl (Calls.evalArgs_plain (Calls.spliced_cons (thn (he pins s1 σ H1 _ I1 q1) fun iv s2 ⟨y, H2, I2, ry, ov, g, q2⟩ => Calls.spliced_nil ?_)))
  exact d_get1 hu I2 g ry fun w' s3 I3 rw' => ⟨_, H2, I3, rw', q2⟩
theorem pe_dget2 (hu : X.A.units + 1 < cLine) (ho : PE X o td) (he : PE X e ty) (hf : PE X f tx) (m : M2 X o "get" apos e f cpos) : PE X (.Call (.Attribute o "get" apos) [e, f] [] cpos) (tDGet2 td ty tx) := by
  intro pins s σ H Q I h
  refine wpAny_Call_method m.base m.few m.line PySem.F.plainAttrs_dict PySem.F.slot_dict_get PySem.F.type_dict_get (thn (ho pins s σ H _ I h) fun u s1 ⟨x, H1, I1, rx, a, ex, d, q1⟩ => ?_)
  subst ex
  obtain rfl : u = Value.ref a := rx
  obtain ⟨t1, t2, _⟩ := isD_at I1 d
  refine ⟨t1, t2, ?_⟩
  rw [m.trees]
  refine Calls.callWith_builtin rfl (Calls.evalArgs_plain (Calls.spliced_cons (thn (he pins s1 σ H1 _ I1 q1) fun iv s2 ⟨y, H2, I2, ry, q2⟩ =>
    Calls.spliced_cons (thn (hf pins s2 σ H2 _ I2 q2) fun fv s3 ⟨z, H3, I3, rz, ov, g, q3⟩ => Calls.spliced_nil ?_))))
  exact d_get2 hu I3 g ry rz fun w' s4 I4 rw' => ⟨_, H3, I4, rw', q3⟩
theorem pe_dpop1 (ho : PE X o td) (he : PE X e ty) (m : M1 X o "pop" apos e cpos) : PE X (.Call (.Attribute o "pop" apos) [e] [] cpos) (tDPop1 td ty) := by
  intro pins s σ H Q I h
  refine wpAny_Call_method m.base m.few m.line PySem.F.plainAttrs_dict PySem.F.slot_dict_pop PySem.F.type_dict_pop (thn (ho pins s σ H _ I h) fun u s1 ⟨x, H1, I1, rx, a, ex, d, q1⟩ => ?_)
  subst ex
  obtain rfl : u = Value.ref a := rx
  obtain ⟨t1, t2, _⟩ := isD_at I1 d
  refine ⟨t1, t2, ?_⟩
  rw [m.trees]
  refine Calls.callWith_builtin rfl (Calls.evalArgs_plain (Calls.spliced_cons (thn (he pins s1 σ H1 _ I1 q1) fun iv s2 ⟨y, H2, I2, ry, kvs, k, v, ea, ey, l, q2⟩ => Calls.spliced_nil ?_)))
  subst ey
  exact d_pop I2 ea ry l (.inl rfl) fun w' s3 I3 rw' => ⟨v, _, I3, rw', q2⟩
theorem pe_dpop2 (ho : PE X o td) (he : PE X e ty) (hf : PE X f tx) (m : M2 X o "pop" apos e f cpos) : PE X (.Call (.Attribute o "pop" apos) [e, f] [] cpos) (tDPop2 td ty tx) := by
  intro pins s σ H Q I h
  refine wpAny_Call_method m.base m.few m.line PySem.F.plainAttrs_dict PySem.F.slot_dict_pop PySem.F.type_dict_pop (thn (ho pins s σ H _ I h) fun u s1 ⟨x, H1, I1, rx, a, ex, d, q1⟩ => ?_)
  subst ex
  obtain rfl : u = Value.ref a := rx
  obtain ⟨t1, t2, _⟩ := isD_at I1 d
  refine ⟨t1, t2, ?_⟩
  rw [m.trees]
  refine Calls.callWith_builtin rfl (Calls.evalArgs_plain (Calls.spliced_cons (thn (he pins s1 σ H1 _ I1 q1) fun iv s2 ⟨y, H2, I2, ry, q2⟩ =>
    Calls.spliced_cons (thn (hf pins s2 σ H2 _ I2 q2) fun fv s3 ⟨z, H3, I3, rz, kvs, k, ea, ey, q3, q4⟩ => Calls.spliced_nil ?_))))
  subst ey
  cases l : valV kvs k with
  | some v => exact d_pop I3 ea ry l (.inr ⟨fv, rfl⟩) fun w' s4 I4 rw' => ⟨v, _, I4, rw', q3 v l⟩
  | none => exact d_popD I3 ea ry l fun s4 I4 => ⟨z, H3, I4, rz, q4 l⟩
end

/-! ### dict(d): a copy -/
section
variable {X : Cx} {pins : List (Addr × Obj)} {σ : St} {H : Hp} {s : Shared} {a : Addr} {kvs : List (Key × V)} {A : Around} {E : Value → Shared → Prop}
theorem d_copyOf {Q : Value → Shared → Prop} (I : Inv X pins σ H s) (e : Rd H a (.dK kvs)) (h : ∀ p s', H p = none → Inv X pins σ (upd H p (.dK kvs)) s' → Q (.ref p) s') : wpAny (model X.prog X.w) A (call (.type "dict") [.ref a]) Q E s := by
  obtain ⟨z, hd, vs, rel, dd⟩ := dk_rd I.hok e
  refine kt_call_dict hd dd (by rw [← rel.length]; exact z) fun h' dd' hs => ?_
  refine h _ _ (I.hok.fresh (Nat.le_refl _)) (I.laid (a := s.heap.objs.size) (o := .dK kvs) (t' := s.toks) (fun b q hq => ?_) (Nat.le_refl _) (dk_new z (beq_eq_false_iff_ne.mpr (Ne.symm (Nat.ne_of_lt I.big))) rel dd'))
  exact (hs.2 b (Nat.ne_of_lt (Heap.lt_size hq))).trans (Heap.get?_push_of_some _ hq)
end


section
variable {X : Cx} {pins : List (Addr × Obj)} {σ : St} {H : Hp} {s : Shared} {a : Addr} {y : V} {u : Value} {A : Around} {E : Value → Shared → Prop}
/-- d[y], not there: a KeyError -/
theorem d_missing {Q : Value → Shared → Prop} (hu : A.units + 1 < cLine) (hh : A.handled = none) (I : Inv X pins σ H s) (g : DGet H a y none) (ry : RelV y u)
    (h : ∀ h' e t', Heap.NewExc s.heap h' e "KeyError" → E (.ref e) { s with heap := h', toks := t' }) : wpAny (model X.prog X.w) A (getItem (.ref a) u) Q E s := by
  rcases g with ⟨kvs, k, e, ey, l⟩ | ⟨kvs, k, b, e, ey, eb, l⟩
  · subst ey
    obtain ⟨z, hd, vs, rel, dd⟩ := dk_rd I.hok e
    have hn : valueAt vs k = none := RelO.none_of (by rw [l]; exact rel.val k)
    exact wpAny_getItem_missing_of (kV_is ry) hd hh dd.mapOf hn fun h' ex ne => h h' ex _ ne
  · subst ey
    cases (show u = Value.ref b from ry)
    obtain ⟨z, hd, xs, rel, dd⟩ := dt_rd I.hok e
    have hn : (atKey xs k).map (·.2) = none := RelO.none_of (by rw [l]; exact rel.val k)
    exact wpAny_getItem_missing_heap (tupleKind_room_in1 hu) (key_of I.hok eb) hd hh dd (Option.map_eq_none_iff.mp hn) fun h' ex ne => h h' ex _ ne
namespace L2
open PySem PySem.Spec PyProof.Rows
section
variable {X : Cx}
/-- len of a dict -/
theorem call_lenD : CallR X (.builtin "len") (fun xs H Q => ∃ a kvs, xs = [V.ref a] ∧ H a = some (.dK kvs) ∧ Q (.int kvs.length) H) := by
  intro pins s σ H xs us Q I r h
  obtain ⟨a, kvs, rfl, ha, q⟩ := h
  obtain ⟨u, rfl, ru⟩ := vals1 r
  cases ru
  exact d_len I (.inl ha) fun t s' I' => ⟨.int kvs.length, H, I', ⟨t, rfl⟩, q⟩
end
/-! ### a dict's pairs: keys that differ -/
section
variable {κ : Type} [DecidableEq κ]
theorem valV_not {kvs : List (κ × V)} {k : κ} (h : valV kvs k = none) : ¬ k ∈ kvs.map (·.1) := by
  intro m
  obtain ⟨p, hp, e⟩ := List.mem_map.mp m
  have q : (kvs.any fun kv => decide (kv.1 = k)) = true := List.any_eq_true.mpr ⟨p, hp, decide_eq_true e⟩
  rw [valV_any, h] at q
  exact absurd q (by simp)
theorem valV_in {kvs : List (κ × V)} {k : κ} {v : V} (h : valV kvs k = some v) : k ∈ kvs.map (·.1) := by
  have q : (kvs.any fun kv => decide (kv.1 = k)) = true := by
    rw [valV_any, h]
    all_goals rfl
  obtain ⟨p, hp, e⟩ := List.any_eq_true.mp q
  exact List.mem_map.mpr ⟨p, hp, of_decide_eq_true e⟩
theorem nd_snoc : ∀ {l : List κ} {k : κ}, l.Nodup → ¬ k ∈ l → (l ++ [k]).Nodup
  | [], k, _, _ => by simp
  | a :: r, k, h, hk => by
    obtain ⟨h1, h2⟩ := List.nodup_cons.mp h
    show (a :: (r ++ [k])).Nodup
    refine List.nodup_cons.mpr ⟨fun m => ?_, nd_snoc h2 fun m => hk (List.mem_cons.mpr (Or.inr m))⟩
    rcases List.mem_append.mp m with q | q
    · exact h1 q
    · exact hk (List.mem_cons.mpr (Or.inl (List.mem_singleton.mp q).symm))
theorem nd_putK {kvs : List (κ × V)} {k : κ} (v : V) (hn : (kvs.map (·.1)).Nodup) (h : valV kvs k = none) : ((putK kvs k v).map (·.1)).Nodup := by
  rw [putK_new v h, List.map_append]
  exact nd_snoc hn (valV_not h)
theorem dropK_pos {p : κ × V} {r : List (κ × V)} {k : κ} (e : p.1 = k) : dropK (p :: r) k = dropK r k := by
  unfold dropK
  rw [List.filter_cons, if_neg (by simp [e])]
theorem dropK_neg {p : κ × V} {r : List (κ × V)} {k : κ} (e : ¬ p.1 = k) : dropK (p :: r) k = p :: dropK r k := by
  unfold dropK
  rw [List.filter_cons, if_pos (by simp [e])]
theorem dropK_no : ∀ {kvs : List (κ × V)} {k : κ}, ¬ k ∈ kvs.map (·.1) → dropK kvs k = kvs
  | [], _, _ => rfl
  | p :: r, k, h => by
    have h' : ¬ k ∈ r.map (·.1) := fun m => by
      obtain ⟨q, hq, e⟩ := List.mem_map.mp m
      exact h (List.mem_map.mpr ⟨q, List.mem_cons.mpr (Or.inr hq), e⟩)
    rw [dropK_neg fun e => h (List.mem_map.mpr ⟨p, List.mem_cons.mpr (Or.inl rfl), e⟩), dropK_no h']
theorem dropK_mem {kvs : List (κ × V)} {k : κ} {p : κ × V} (h : p ∈ dropK kvs k) : p ∈ kvs := (List.mem_filter.mp h).1
theorem nd_dropK : ∀ {kvs : List (κ × V)} {k : κ}, (kvs.map (·.1)).Nodup → ((dropK kvs k).map (·.1)).Nodup
  | [], _, _ => List.nodup_nil
  | p :: r, k, h => by
    have h : (p.1 :: r.map (·.1)).Nodup := h
    obtain ⟨h1, h2⟩ := List.nodup_cons.mp h
    by_cases e : p.1 = k
    · rw [dropK_pos e]
      exact nd_dropK h2
    · rw [dropK_neg e]
      show (p.1 :: (dropK r k).map (·.1)).Nodup
      refine List.nodup_cons.mpr ⟨fun m => h1 ?_, nd_dropK h2⟩
      obtain ⟨q, hq, eq⟩ := List.mem_map.mp m
      exact List.mem_map.mpr ⟨q, dropK_mem hq, eq⟩
theorem dropK_len : ∀ {kvs : List (κ × V)} {k : κ}, (kvs.map (·.1)).Nodup → k ∈ kvs.map (·.1) → (dropK kvs k).length + 1 = kvs.length
  | [], _, _, m => by simp at m
  | p :: r, k, h, m => by
    have h : (p.1 :: r.map (·.1)).Nodup := h
    have m : k = p.1 ∨ k ∈ r.map (·.1) := List.mem_cons.mp m
    obtain ⟨h1, h2⟩ := List.nodup_cons.mp h
    by_cases e : p.1 = k
    · subst e
      rw [dropK_pos rfl, dropK_no h1]
      all_goals rfl
    · have m' : k ∈ r.map (·.1) := m.resolve_left fun z => e z.symm
      have q := dropK_len h2 m'
      rw [dropK_neg e, List.length_cons, List.length_cons]
      omega
end
end L2


end
end L2

namespace L2
open PySem PySem.Spec PyProof.Rows
section
variable {X : Cx}
/-! ### list.insert -/
def insV (xs : List V) (k : Nat) (y : V) : List V := xs.take k ++ y :: xs.drop k
def mInsert : V → List V → Hp → VK → Prop := fun x vs H Q => match x, vs with
  | .ref l, [.int i, y] => ∃ xs, H l = some (.lst xs) ∧ xs.length < sizeLine ∧ (0 ≤ i ∧ i < 2 ^ 62) ∧ Q .non (upd H l (.lst (insV xs (min i.toNat xs.length) y)))
  | _, _ => False
theorem mt_insert : MtR X "list.insert" mInsert := by
  intro pins s σ H x vs v us Q I rx rv h
  unfold mInsert at h
  split at h
  · rename_i l i y
    obtain ⟨xs, hH, hz, ⟨h0, h1⟩, q⟩ := h
    cases rx
    obtain ⟨u1, u2, rfl, ⟨t, rfl⟩, r2⟩ := vals2 rv
    obtain ⟨z, its, n, r, hl, e⟩ := I.lstM hH
    have hfit : ¬ (!Builtin.List.listFitsIndex i) = true := by
      unfold Builtin.List.listFitsIndex
      simp
      omega
    refine call_meets F.slot_list_insert ⟨_, e, rfl⟩ F.entry_list_insert (F.args_list_insert_3 _ _ _) (AutoSeq1.list_insert_list_int_val_1 l its.toArray n i t u2 hfit (by rw [List.size_toArray]; omega)) ⟨e, ?_⟩
    have hk : (if i < 0 then (i + (its.toArray.size : Int)).toNat else min i.toNat its.toArray.size) = min i.toNat xs.length := by
      rw [if_neg (by omega), List.size_toArray, hl]
    refine ⟨.non, _, I.lset (its' := its.take (min i.toNat xs.length) ++ u2 :: its.drop (min i.toNat xs.length)) hH e ?_ ((r.take _).append (.cons r2 (r.drop _))) ?_, rfl, q⟩
    · show ((its.toArray.extract 0 (if i < 0 then (i + (its.toArray.size : Int)).toNat else min i.toNat its.toArray.size)).push u2 ++ its.toArray.extract (if i < 0 then (i + (its.toArray.size : Int)).toNat else min i.toNat its.toArray.size)) = _
      rw [hk]
      simp
      exact List.take_of_length_le (by rw [List.length_drop]; omega)
    · rw [List.length_append, List.length_cons, List.length_take, List.length_drop]
      omega
  · exact h.elim
end

/-! ### zip of two lists -/
def Itz (K : PySem.W.Frag) (l m : Addr) : It :=
  ⟨fun i H => ∃ xs ys x y, SqL K H l xs ∧ SqL K H m ys ∧ xs[i]? = some x ∧ ys[i]? = some y,
   fun i H v H' => ∃ p x y, (∀ xs, SqL K H l xs → xs[i]? = some x) ∧ (∀ ys, SqL K H m ys → ys[i]? = some y) ∧ H p = none ∧ v = .ref p ∧ H' = upd H p (.tup [x, y]),
   fun i H => ∃ xs ys, SqL K H l xs ∧ SqL K H m ys ∧ (xs.length ≤ i ∨ ys.length ≤ i)⟩
theorem turn_zip {P : Program} {w : World} {K : PySem.W.Frag} {elts : List Expr} {kk : Nat} {pos : Pos} (z TI TO i1 i2 l m : Addr) (D : ZipApart z TI TO i1 i2 l m) :
    Turn P w K (.Tuple elts kk pos) (Itz K l m) [z, TI, TO, i1, i2] z (fun i h => IsZip h z TI TO .none ∧ IsPair h TI (.ref i1) (.ref i2) ∧ (∃ a b, IsPair h TO a b) ∧ h.IsListIter i1 l i ∧ h.IsListIter i2 m i) where
  mem := by simp
  obj := fun i h st b hb => by
    obtain ⟨hz, hTI, ⟨a, c, hTO⟩, ⟨o1, ho1, c1, d1⟩, ⟨o2, ho2, c2, d2⟩⟩ := st
    rcases List.mem_cons.mp hb with rfl | hb
    · exact ⟨_, hz, fun v z => by cases z⟩
    rcases List.mem_cons.mp hb with rfl | hb
    · exact ⟨_, hTI, fun v z => by cases z⟩
    rcases List.mem_cons.mp hb with rfl | hb
    · exact ⟨_, hTO, fun v z => by cases z⟩
    rcases List.mem_cons.mp hb with rfl | hb
    · exact ⟨o1, ho1, fun v z => by rw [d1] at z; cases z⟩
    · have e : b = i2 := by simpa using hb
      subst e
      exact ⟨o2, ho2, fun v z => by rw [d2] at z; cases z⟩
  keep := fun i h h' st k => by
    obtain ⟨hz, hTI, ⟨a, c, hTO⟩, h1, h2⟩ := st
    exact ⟨k z (by simp) _ hz, k TI (by simp) _ hTI, ⟨a, c, k TO (by simp) _ hTO⟩, h1.at fun o q => k i1 (by simp) o q, h2.at fun o q => k i2 (by simp) o q⟩
  item := by
    intro X hP hw hK hc i pins s σ H E I hf st hg
    subst hP hw hK
    obtain ⟨xs, ys, x, y, hq, hq2, hx, hy⟩ := hg
    obtain ⟨its, rv, p, hz0⟩ := I.list hq
    obtain ⟨its2, rv2, p2, hz2⟩ := I.list hq2
    obtain ⟨u, hu, ru⟩ := rv.get hx
    obtain ⟨v, hv, rw'⟩ := rv2.get hy
    obtain ⟨hz, hTI, ⟨a, c, hTO⟩, h1, h2⟩ := st
    have lt : ∀ {c o}, s.heap.get? c = some o → c < s.heap.objs.size := fun e => Heap.lt_size e
    have lz := lt hz
    have lTI := lt hTI
    have lTO := lt hTO
    have l1 : i1 < s.heap.objs.size := by obtain ⟨o, e, _⟩ := id h1; exact lt e
    have l2 : i2 < s.heap.objs.size := by obtain ⟨o, e, _⟩ := id h2; exact lt e
    refine wpAny_pyNext_zip_item D hz hTI hTO h1 h2 p.isList p2.isList (x := u) (y := v) (by simpa using hu) (by simpa using hv) fun h3 z3 TO3 it13 it23 pr3 sz3 hk3 => ?_
    refine ⟨_, rfl, ?_⟩
    refine wpAny_letOwnedTupleGo_zip z3 fun h4 z4 hs4 => ?_
    replace hs4 : Heap.SameBut z h3 h4 := hs4
    have hp : H s.heap.objs.size = none := I.hok.fresh (Nat.le_refl _)
    have I1 : Inv X pins σ (upd H s.heap.objs.size (.tup [x, y])) { s with heap := s.heap.push { cls := .type "tuple", data := .seq #[u, v] }, toks := s.toks } := by
      refine I.laid (fun b u q => Heap.get?_push_of_some _ q) (Nat.le_refl _) ⟨?_, [u, v], .cons ru (.cons rw' .nil), ⟨_, Heap.get?_push_size _ rfl, rfl, _, rfl⟩⟩
      show 2 ≤ sizeLine
      decide
    have hlt : ∀ b ∈ [z, TI, TO, i1, i2], b < s.heap.objs.size := fun b hb => by
      rcases List.mem_cons.mp hb with rfl | hb
      · exact lz
      rcases List.mem_cons.mp hb with rfl | hb
      · exact lTI
      rcases List.mem_cons.mp hb with rfl | hb
      · exact lTO
      rcases List.mem_cons.mp hb with rfl | hb
      · exact l1
      · have e : b = i2 := by simpa using hb
        rw [e]; exact l2
    have hf1 : ∀ b ∈ [z, TI, TO, i1, i2], FpOk X pins (upd H s.heap.objs.size (.tup [x, y])) b := fun b hb => by
      obtain ⟨f0, r⟩ := hf b hb
      refine ⟨?_, r⟩
      rw [upd_ne (Nat.ne_of_lt (hlt b hb))]
      exact f0
    have I2 : Inv X pins σ (upd H s.heap.objs.size (.tup [x, y])) { s with heap := h4, toks := s.toks } := by
      refine Inv.turnedL (s := { s with heap := s.heap.push { cls := .type "tuple", data := .seq #[u, v] }, toks := s.toks }) (ch := [z, TI, TO, i1, i2]) I1 (fun b o hb q => ?_) hf1
      have n1 : b ≠ z := fun e => hb (by simp [e])
      have n2 : b ≠ TO := fun e => hb (by simp [e])
      have n3 : b ≠ i1 := fun e => hb (by simp [e])
      have n4 : b ≠ i2 := fun e => hb (by simp [e])
      refine (hs4.2 b n1).trans ?_
      rcases Heap.get?_push_cases q with ⟨rfl, rfl⟩ | q'
      · exact pr3
      · exact hk3 b o n1 n2 n3 n4 q'
    refine ⟨.ref s.heap.objs.size, _, I2, rfl, ⟨s.heap.objs.size, x, y, fun zs hy' => by rw [I.list_inj hy' hq]; exact hx, fun zs hy' => by rw [I.list_inj hy' hq2]; exact hy, hp, rfl, rfl⟩, ⟨z4, ?_, ⟨u, v, ?_⟩, ?_, ?_⟩, fun b hb => (hf1 b hb).1⟩
    · exact (hs4.2 TI D.TIz).trans (hk3 TI _ D.TIz D.TITO D.TIi1 D.TIi2 hTI)
    · exact (hs4.2 TO D.TOz).trans TO3
    · exact it13.extBut hs4.extBut D.i1z
    · exact it23.extBut hs4.extBut D.i2z
  done := by
    intro X hP hw hK hc i pins s σ H E I hf st hg
    subst hP hw hK
    obtain ⟨xs, ys, hq, hq2, hx⟩ := hg
    obtain ⟨its, rv, p, hz0⟩ := I.list hq
    obtain ⟨its2, rv2, p2, hz2⟩ := I.list hq2
    obtain ⟨hz, hTI, ⟨a, c, hTO⟩, h1, h2⟩ := st
    have hl := rv.length
    have hl2 := rv2.length
    refine wpAny_pyNext_zip_end (I.ok.hd hc) D hz hTI hTO h1 h2 p.isList p2.isList ?_ fun h' eb => ⟨rfl, ?_⟩
    · rcases hx with hx | hx
      · exact .inl (by simp; omega)
      · exact .inr (by simp; omega)
    · refine Inv.turnedL (s := s) (t' := s.toks) (ch := [z, TI, TO, i1, i2]) I (fun b o hb q => eb b o (fun e => hb (by simp [e])) (fun e => hb (by simp [e])) (fun e => hb (by simp [e])) (fun e => hb (by simp [e])) q) hf
  self := fun _ _ _ _ _ st h => wpAny_pyIter_zip st.1 h
theorem zip_apart {N l m : Nat} (hl : l < N) (hm : m < N) : ZipApart (N + 4) (N + 2) (N + 3) N (N + 1) l m := by
  constructor <;> (intro e; have e' : (_ : Nat) = _ := congrArg (fun x : Nat => x) e; omega)
section
variable {X : Cx} {elts : List Expr} {kk : Nat} {tpos : Pos}
def iZip (K : PySem.W.Frag) (ta : TA) : TI := fun σ H R => ta σ H fun vs H1 => match vs with
  | [.ref a, .ref b] => (∃ xs, SqL K H1 a xs) ∧ (∃ ys, SqL K H1 b ys) ∧ R (Itz K a b) H1
  | _ => False
theorem pi_zip {a b : Expr} {ta : TA} {p pos : Pos} (hm : Gb X.mg "zip") (ha : PA X [a, b] ta) (hg : Gl X "zip" := by rfl) (hs : starEach [a, b] X.env = [(false, eval a X.env), (false, eval b X.env)] := by rfl) (hs2 : starEach [b] X.env = [(false, eval b X.env)] := by rfl) :
    PI X (.Tuple elts kk tpos) (.Call (.Name "zip" p) [a, b] [] pos) (iZip X.K ta) := by
  intro pins s σ H R I h
  refine Call_ (ld_blt I hg hm (u := .type "zip") (by rfl) (PyProof.Rows.callWith_type1 (thn (ha pos pins s σ H _ I h) fun us s1 ⟨vs, H1, I1, r1, q1⟩ => ?_) (by rw [hs, hs2]) (by rw [hs2]; rfl)))
  dsimp only at q1
  split at q1
  · rename_i l m
    obtain ⟨⟨xs, hq⟩, ⟨ys, hq2⟩, q⟩ := q1
    cases r1 with
    | cons r rr =>
      cases rr with
      | cons r' rr =>
        cases rr
        cases r
        cases r'
        obtain ⟨its, rv, p1, hz⟩ := I1.list hq
        obtain ⟨its2, rv2, p2, hz2⟩ := I1.list hq2
        refine call_zip_2 p1.isList p2.isList fun h' hz' hTI hTO h1 h2 hsz hk => ?_
        refine wpAny_pyIter_zip (s := { s1 with heap := h' }) hz' ?_
        have I2 : Inv X pins σ H1 { s1 with heap := h' } := I1.kept (t' := s1.toks) hk
        have la : l < s1.heap.objs.size := by obtain ⟨o, e, _⟩ := p1.isList; exact Heap.lt_size e
        have lb : m < s1.heap.objs.size := by obtain ⟨o, e, _⟩ := p2.isList; exact Heap.lt_size e
        have DD : ZipApart (s1.heap.objs.size + 4) (s1.heap.objs.size + 2) (s1.heap.objs.size + 3) s1.heap.objs.size (s1.heap.objs.size + 1) l m := by
          exact zip_apart la lb
        refine ⟨s1.heap.objs.size + 4, [s1.heap.objs.size + 4, s1.heap.objs.size + 2, s1.heap.objs.size + 3, s1.heap.objs.size, s1.heap.objs.size + 1], _, _, H1, rfl, I2, turn_zip _ _ _ _ _ l m DD, ⟨hz', hTI, ⟨_, _, hTO⟩, h1, h2⟩, fun b hb => ?_, q⟩
        have hb' : s1.heap.objs.size ≤ b := by
          simp only [List.mem_cons, List.not_mem_nil, or_false] at hb
          rcases hb with rfl | rfl | rfl | rfl | rfl
          · exact Nat.le_add_right _ _
          · exact Nat.le_add_right _ _
          · exact Nat.le_add_right _ _
          · exact Nat.le_refl _
          · exact Nat.le_add_right _ _
        exact I1.fpOk hb' (I1.hok.fresh hb')
  · exact q1.elim
end
theorem for_zip {K : PySem.W.Frag} {a b : Addr} {xs ys : List V} {g : TG} {tb : TS} {D : Ends} {σ : St} {H : Hp} (Pv : Nat → St → Hp → Prop) (h0 : Pv 0 σ H) (hl : ∀ i σ H, Pv i σ H → SqL K H a xs ∧ SqL K H b ys)
    (hs : ∀ i x y σ H p, xs[i]? = some x → ys[i]? = some y → Pv i σ H → H p = none → g (.ref p) σ (upd H p (.tup [x, y])) fun σ2 H2 => tb { D with nx := Pv (i + 1), ct := Pv (i + 1), bk := D.nx } σ2 H2) (hd : ∀ σ H, Pv (min xs.length ys.length) σ H → D.nx σ H) :
    ∃ W : Nat → Nat → St → Hp → Prop, (∃ m, W 0 m σ H) ∧ ∀ i m σ H, W i m σ H →
      ((Itz K a b).stop i H ∧ D.nx σ H) ∨ ((Itz K a b).go i H ∧ ∃ N : St → Hp → Prop, (∀ σ' H', N σ' H' → ∃ m', m' < m ∧ W (i + 1) m' σ' H') ∧ ∀ x H', (Itz K a b).yld i H x H' → g x σ H' fun σ2 H2 => tb { D with nx := N, ct := N, bk := D.nx } σ2 H2) := by
  refine ⟨fun i m σ H => m = min xs.length ys.length - i ∧ i ≤ min xs.length ys.length ∧ Pv i σ H, ⟨_, rfl, Nat.zero_le _, h0⟩, ?_⟩
  rintro i m σ H ⟨rfl, hi, p⟩
  obtain ⟨q1, q2⟩ := hl i σ H p
  by_cases hlt : i < min xs.length ys.length
  · have e1 : xs[i]? = some xs[i] := List.getElem?_eq_getElem (by omega)
    have e2 : ys[i]? = some ys[i] := List.getElem?_eq_getElem (by omega)
    refine .inr ⟨⟨xs, ys, _, _, q1, q2, e1, e2⟩, Pv (i + 1), fun σ' H' p' => ⟨min xs.length ys.length - (i + 1), by omega, rfl, hlt, p'⟩, fun v H' y => ?_⟩
    obtain ⟨pp, x, y, hx, hy, hp, rfl, rfl⟩ := y
    exact hs i x y σ _ pp (hx xs q1) (hy ys q2) p hp
  · have e : i = min xs.length ys.length := by omega
    subst e
    exact .inl ⟨⟨xs, ys, q1, q2, by omega⟩, hd σ H p⟩

/-! ### xs[::-1] -/
theorem pick_rev (its : List Value) : (List.range its.length).filterMap (fun k => its[its.length - 1 - k]?) = its.reverse := by
  have h : (List.range its.length).map (fun k => its[its.length - 1 - k]?) = its.reverse.map some := by
    refine List.ext_getElem (by simp) fun i h1 h2 => ?_
    rw [List.length_map, List.length_range] at h1
    rw [List.getElem_map, List.getElem_range, List.getElem_map, List.getElem_reverse, List.getElem?_eq_getElem (by omega)]
  have e : (List.range its.length).filterMap (fun k => its[its.length - 1 - k]?) = ((List.range its.length).map (fun k => its[its.length - 1 - k]?)).filterMap id := by
    rw [List.filterMap_map]; rfl
  rw [e, h, List.filterMap_map]
  exact List.filterMap_some
theorem filterMap_same {α β : Type} {f g : α → Option β} : ∀ {l : List α}, (∀ a ∈ l, f a = g a) → l.filterMap f = l.filterMap g
  | [], _ => rfl
  | a :: l, h => by rw [List.filterMap_cons, List.filterMap_cons, h a List.mem_cons_self, filterMap_same fun b hb => h b (List.mem_cons_of_mem _ hb)]
theorem vals_rev : ∀ {xs : List V} {us : List Value}, Vals xs us → Vals xs.reverse us.reverse
  | _, _, .nil => .nil
  | x :: xs, u :: us, .cons r t => by rw [List.reverse_cons, List.reverse_cons]; exact (vals_rev t).append (.cons r .nil)
theorem slicePick_rev (its : List Value) : slicePick its.toArray none none (some (-1)) = its.reverse.toArray := by
  unfold slicePick
  have hb : sliceBounds none none (some (-1)) its.toArray.size = ((its.length : Int) - 1, -1, -1) := by
    simp [sliceBounds]
  rw [hb]
  congr 1
  unfold sliceRange
  simp only
  rw [List.filterMap_map, ← pick_rev its]
  have hc : (if (-1 : Int) > 0 then (if (its.length : Int) - 1 < -1 then (-1 - ((its.length : Int) - 1) + -1 - 1) / -1 else 0) else if (its.length : Int) - 1 > -1 then ((its.length : Int) - 1 - -1 - -1 - 1) / - -1 else 0) = (its.length : Int) := by
    rw [if_neg (by decide)]
    split
    · rw [show (- -1 : Int) = 1 by decide, Int.ediv_one]; omega
    · omega
  rw [hc, Int.toNat_natCast]
  refine filterMap_same fun k hk => ?_
  have hk := List.mem_range.mp hk
  show its.toArray[((its.length : Int) - 1 + -1 * (k : Int)).toNat]? = its[its.length - 1 - k]?
  rw [show ((its.length : Int) - 1 + -1 * (k : Int)).toNat = its.length - 1 - k by omega]
  simp
section
variable {X : Cx} {e st : Expr} {te : TE} {ts : TO} {pos p2 : Pos}
def tRev (K : PySem.W.Frag) (te : TE) (ts : TO) : TE := fun σ H Q => te σ H fun x H1 => ts σ H1 fun o H2 => o = some (-1) ∧ match x with
  | .ref a => ∃ xs, SqL K H2 a xs ∧ ∀ p, H2 p = none → Q (.ref p) (upd H2 p (.lst xs.reverse))
  | _ => False
theorem pe_rev (he : PE X e te) (hs : PO X (some st) ts) : PE X (.Subscript e (.Slice none none (some st) p2) pos) (tRev X.K te ts) := by
  intro pins s σ H Q I h
  refine Subscript_ (thn (he pins s σ H _ I h) fun v s1 ⟨x, H1, I1, r1, q1⟩ => ?_)
  have pn : ∀ (s : Shared) (Q' : Value → Shared → Prop), Q' .none s → wpAny (model X.prog X.w) X.A (evalPart none X.env) Q' X.xe s := fun s Q' q => by rw [evalPart_none]; exact wpAny_pure q
  refine wpAny_Slice (pn _ _ (pn _ _ ?_))
  refine thn (hs pins s1 σ H1 _ I1 q1) fun vst s3 ⟨o, H3, I3, po, eo, q3⟩ => ?_
  subst eo
  cases x with
  | ref a =>
    obtain ⟨xs, hx, q⟩ := q3
    cases r1
    have I4 : Inv X pins σ H3 { s3 with heap := s3.heap.push { cls := .type "slice", data := .fields #[.none, .none, vst] } } := I3.kept (t' := s3.toks) fun b ob q => Heap.get?_push_of_some _ q
    obtain ⟨its, r, ht, hz⟩ := I4.list hx
    have hlen := r.length
    show wpAny (model X.prog X.w) X.A (subscriptTail e (.Slice none none (some st) p2) (.ref a) (.ref s3.heap.objs.size)) (EP X pins σ Q) X.xe { s3 with heap := s3.heap.push { cls := .type "slice", data := .fields #[.none, .none, vst] } }
    refine tail_any (ops := [.ref a, .ref s3.heap.objs.size]) ht.isList.typeIs slot_list_getitem.lookup ?_ (by with_unfolding_all rfl)
    refine wpAny_getItem_list_slice ht.isList (Heap.IsSliceOf.new ..) .none .none po (by simp) ?_ (by rw [List.size_toArray] <;> omega)
    rw [slicePick_rev]
    refine ⟨.ref _, _, I4.laid (t' := s3.toks) (o := .lst xs.reverse) (fun b ob q => Heap.get?_push_of_some _ q) (Nat.le_refl _) ?_, rfl, q _ (I4.hok.fresh (Nat.le_refl _))⟩
    refine ⟨by rw [List.length_reverse]; exact hz, its.reverse, 0, ?_, Heap.get?_push_size _ rfl⟩
    exact vals_rev r
  | _ => exact q3.elim
end
end L2

namespace L2
open PySem PySem.Spec PyProof.Rows
/-! ### dicts whose keys are ints and texts, readings that compute -/
def keyV : V → Option Key
  | .int i => some (.inl i)
  | .str z => some (.inr z)
  | _ => none
theorem keyV_eq {y : V} {k : Key} (h : keyV y = some k) : y = kV k := by
  cases y <;> first | (cases h; rfl) | cases h
/-- what is asked of a dict at a and a key y -/
def atD (x y : V) (H : Hp) (R : Addr → List (Key × V) → Key → Prop) : Prop := match x with
  | .ref a => (match keyV y with | some k => ∃ kvs, H a = some (.dK kvs) ∧ R a kvs k | none => False)
  | _ => False
theorem atD_of {x y : V} {H : Hp} {R : Addr → List (Key × V) → Key → Prop} (h : atD x y H R) : ∃ a kvs k, x = .ref a ∧ y = kV k ∧ H a = some (.dK kvs) ∧ R a kvs k := by
  unfold atD at h
  cases x with
  | ref a =>
    cases e : keyV y with
    | none => rw [e] at h; exact h.elim
    | some k =>
      rw [e] at h
      obtain ⟨kvs, h1, h2⟩ := h
      exact ⟨a, kvs, k, rfl, keyV_eq e, h1, h2⟩
  | _ => exact h.elim
def mDGet (td ty : TE) : TE := fun σ H Q => td σ H fun x H1 => ty σ H1 fun y H2 => atD x y H2 fun _ kvs k => ∃ v, valV kvs k = some v ∧ Q v H2
def mDIn (neg : Bool) (ty td : TE) : TE := fun σ H Q => ty σ H fun y H1 => td σ H1 fun x H2 => atD x y H2 fun _ kvs k => Q (.bl (if neg then !(valV kvs k).isSome else (valV kvs k).isSome)) H2
def mDPut (td ty tv : TE) : TS := fun D σ H => tv σ H fun v H1 => td σ H1 fun x H2 => ty σ H2 fun y H3 => atD x y H3 fun a kvs k => kvs.length < sizeLine ∧ D.nx σ (upd H3 a (.dK (putK kvs k v)))
section
variable {X : Cx} {o i e value : Expr} {pos pos' tpos : Pos} {td ty tv : TE}
theorem pe_dgetM (hu : X.A.units + 60 < cLine) (ho : PE X o td) (hi : PE X i ty) (hs : NoSl i := by exact fun _ _ => rfl) : PE X (.Subscript o i pos) (mDGet td ty) := by
  intro pins s σ H Q I h
  refine subD_of PySem.F.slot_dict_getitem.lookup hs (thn (ho pins s σ H _ I h) fun u s1 ⟨x, H1, I1, rx, q1⟩ => thn (hi pins s1 σ H1 _ I1 q1) fun iv s2 ⟨y, H2, I2, ry, q2⟩ => ?_)
  obtain ⟨a, kvs, k, rfl, rfl, hd, v, hv, q⟩ := atD_of q2
  obtain rfl : u = Value.ref a := rx
  have g : DGet H2 a (kV k) (some v) := by rw [← hv]; exact DGet.k hd
  exact ⟨dict_typeIs I2 g, d_getItem (by omega) I2 g ry fun w' s3 I3 rw' => ⟨v, H2, I3, rw', q⟩⟩
theorem pc_dinM (hu : X.A.units + 60 < cLine) (hi : PE X i ty) (ho : PE X o td) : PC X .In i o (mDIn false ty td) := by
  intro pins s σ H Q I h
  refine thn (hi pins s σ H _ I h) fun iv s1 ⟨y, H1, I1, ry, q1⟩ => thn (ho pins s1 σ H1 _ I1 q1) fun u s2 ⟨x, H2, I2, rx, q2⟩ => ?_
  obtain ⟨a, kvs, k, rfl, rfl, hd, q⟩ := atD_of q2
  obtain rfl : u = Value.ref a := rx
  exact d_in (by omega) I2 (DGet.k (k := k) hd) ry fun s3 I3 => ⟨.bl (valV kvs k).isSome, H2, I3, rfl, q⟩
theorem pc_dnotinM (hu : X.A.units + 60 < cLine) (hi : PE X i ty) (ho : PE X o td) : PC X .NotIn i o (mDIn true ty td) := by
  intro pins s σ H Q I h
  refine thn (hi pins s σ H _ I h) fun iv s1 ⟨y, H1, I1, ry, q1⟩ => thn (ho pins s1 σ H1 _ I1 q1) fun u s2 ⟨x, H2, I2, rx, q2⟩ => ?_
  obtain ⟨a, kvs, k, rfl, rfl, hd, q⟩ := atD_of q2
  obtain rfl : u = Value.ref a := rx
  exact d_notIn (by omega) I2 (DGet.k (k := k) hd) ry fun s3 I3 => ⟨.bl (!(valV kvs k).isSome), H2, I3, rfl, q⟩
theorem pe_dinM (hu : X.A.units + 60 < cLine) (hi : PE X i ty) (ho : PE X o td) (h1 : behindInMarks .In o = false := by rfl) : PE X (.Compare i [.In] [o] pos) (mDIn false ty td) := pe_cmp (pc_dinM hu hi ho) h1
theorem pe_dnotinM (hu : X.A.units + 60 < cLine) (hi : PE X i ty) (ho : PE X o td) (h1 : behindInMarks .NotIn o = false := by rfl) : PE X (.Compare i [.NotIn] [o] pos) (mDIn true ty td) := pe_cmp (pc_dnotinM hu hi ho) h1
theorem ps_dputM (hu : X.A.units + 60 < cLine) (ho : PE X o td) (hi : PE X i ty) (hv : PE X value tv) (hs : swapsWith value (some (.Subscript o i pos')) pos.line X.env = pure false := by rfl) :
    PS X (.Assign [.Subscript o i pos'] value pos) (mDPut td ty tv) := by
  intro pins s σ H D I h
  refine wpAny_Assign_Subscript (thn (hv pins s σ H _ I h) fun r s1 ⟨v, H1, I1, rv, q1⟩ => thn (ho pins s1 σ H1 _ I1 q1) fun u s2 ⟨x, H2, I2, rx, q2⟩ => thn (hi pins s2 σ H2 _ I2 q2) fun iv s3 ⟨y, H3, I3, ry, q3⟩ => ?_) hs
  obtain ⟨a, kvs, k, rfl, rfl, hd, hl, q⟩ := atD_of q3
  obtain rfl : u = Value.ref a := rx
  exact d_setItem (by omega) I3 (DPut.k hd hl) ry rv fun s4 I4 => ⟨σ, _, I4, q⟩
/-- len of a dict -/
def mLenD : List V → Hp → VK → Prop := fun xs H Q => match xs with | [.ref a] => ∃ kvs, H a = some (.dK kvs) ∧ Q (.int kvs.length) H | _ => False
theorem call_lenDM : CallR X (.builtin "len") mLenD := by
  intro pins s σ H xs us Q I r h
  unfold mLenD at h
  split at h
  · rename_i a
    obtain ⟨kvs, ha, q⟩ := h
    obtain ⟨u, rfl, ru⟩ := vals1 r
    cases ru
    exact d_len I (.inl ha) fun t s' I' => ⟨.int kvs.length, H, I', ⟨t, rfl⟩, q⟩
  · exact h.elim
end
section
variable {X : Cx} {o e f : Expr} {apos cpos : Pos} {td ty tx' : TE}
def mDGet1 (td ty : TE) : TE := fun σ H Q => td σ H fun x H1 => (match x with | .ref a => ∃ kvs, H1 a = some (.dK kvs) | _ => False) ∧ ty σ H1 fun y H2 => atD x y H2 fun _ kvs k => Q ((valV kvs k).getD .non) H2
def mDGet2 (td ty tx' : TE) : TE := fun σ H Q => td σ H fun x H1 => (match x with | .ref a => ∃ kvs, H1 a = some (.dK kvs) | _ => False) ∧ ty σ H1 fun y H2 => tx' σ H2 fun z H3 => atD x y H3 fun _ kvs k => Q ((valV kvs k).getD z) H3
theorem pe_dget1M (hu : X.A.units + 60 < cLine) (ho : PE X o td) (he : PE X e ty) (m : M1 X o "get" apos e cpos := by exact ⟨rfl, rfl, rfl, rfl⟩) : PE X (.Call (.Attribute o "get" apos) [e] [] cpos) (mDGet1 td ty) := by
  intro pins s σ H Q I h
  refine wpAny_Call_method m.base m.few m.line PySem.F.plainAttrs_dict PySem.F.slot_dict_get PySem.F.type_dict_get (thn (ho pins s σ H _ I h) fun u s1 ⟨x, H1, I1, rx, hx, q1⟩ => ?_)
  cases x with
  | ref a =>
    obtain ⟨kvs0, hd0⟩ := hx
    obtain rfl : u = Value.ref a := rx
    obtain ⟨t1, t2, _⟩ := isD_at I1 (.inl ⟨kvs0, .inl hd0⟩)
    refine ⟨t1, t2, ?_⟩
    rw [m.trees]
    refine Calls.callWith_builtin rfl (Calls.evalArgs_plain (Calls.spliced_cons (thn (he pins s1 σ H1 _ I1 q1) fun iv s2 ⟨y, H2, I2, ry, q2⟩ => Calls.spliced_nil ?_)))
    obtain ⟨a', kvs, k, ea, rfl, hd, q⟩ := atD_of q2
    cases ea
    exact d_get1 (by omega) I2 (DGet.k (k := k) hd) ry fun w' s3 I3 rw' => ⟨_, H2, I3, rw', q⟩
  | _ => exact hx.elim
theorem pe_dget2M (hu : X.A.units + 60 < cLine) (ho : PE X o td) (he : PE X e ty) (hf : PE X f tx') (m : M2 X o "get" apos e f cpos := by exact ⟨rfl, rfl, rfl, rfl⟩) : PE X (.Call (.Attribute o "get" apos) [e, f] [] cpos) (mDGet2 td ty tx') := by
  intro pins s σ H Q I h
  refine wpAny_Call_method m.base m.few m.line PySem.F.plainAttrs_dict PySem.F.slot_dict_get PySem.F.type_dict_get (thn (ho pins s σ H _ I h) fun u s1 ⟨x, H1, I1, rx, hx, q1⟩ => ?_)
  cases x with
  | ref a =>
    obtain ⟨kvs0, hd0⟩ := hx
    obtain rfl : u = Value.ref a := rx
    obtain ⟨t1, t2, _⟩ := isD_at I1 (.inl ⟨kvs0, .inl hd0⟩)
    refine ⟨t1, t2, ?_⟩
    rw [m.trees]
    refine Calls.callWith_builtin rfl (Calls.evalArgs_plain (Calls.spliced_cons (thn (he pins s1 σ H1 _ I1 q1) fun iv s2 ⟨y, H2, I2, ry, q2⟩ =>
      Calls.spliced_cons (thn (hf pins s2 σ H2 _ I2 q2) fun fv s3 ⟨z, H3, I3, rz, q3⟩ => Calls.spliced_nil ?_))))
    obtain ⟨a', kvs, k, ea, rfl, hd, q⟩ := atD_of q3
    cases ea
    exact d_get2 (by omega) I3 (DGet.k (k := k) hd) ry rz fun w' s4 I4 rw' => ⟨_, H3, I4, rw', q⟩
  | _ => exact hx.elim
end
section
variable {X : Cx} {o i : Expr} {pos : Pos} {td ty : TE}
theorem pt_cmpMt {op : CmpOp} {a b : Expr} {t : TE} (h : PC X op a b t) (h1 : behindInMarks op b = false) : PT X (.Compare a [op] [b] pos) (mTest t) := by
  intro pins s σ H Q I hw
  refine wpAny_isTrue_Compare1 (thn (h pins s σ H _ I hw) fun v s1 q => thn q fun u s2 q => thn q fun c s3 ⟨x, H1, I1, r, q⟩ => ?_) h1
  cases x with
  | bl k => cases r; exact wpAny_truthy_bool ⟨H1, I1, q⟩
  | _ => exact q.elim
theorem pt_dinM (hu : X.A.units + 60 < cLine) (hi : PE X i ty) (ho : PE X o td) (h1 : behindInMarks .In o = false := by rfl) : PT X (.Compare i [.In] [o] pos) (mTest (mDIn false ty td)) := pt_cmpMt (pc_dinM hu hi ho) h1
theorem pt_dnotinM (hu : X.A.units + 60 < cLine) (hi : PE X i ty) (ho : PE X o td) (h1 : behindInMarks .NotIn o = false := by rfl) : PT X (.Compare i [.NotIn] [o] pos) (mTest (mDIn true ty td)) := pt_cmpMt (pc_dnotinM hu hi ho) h1
end
end L2

/-! # V: what a def tells, as a function -/
namespace L2
open PySem PySem.Spec PyProof.Rows

/-! ### the monad -/
inductive Mo (α : Type) where
  | ok (a : α) | ex (c : String) | no
namespace Mo
variable {α β γ : Type}
def bind (x : Mo α) (f : α → Mo β) : Mo β := match x with | .ok a => f a | .ex c => .ex c | .no => .no
theorem ok_bind (a : α) (f : α → Mo β) : (Mo.ok a).bind f = f a := rfl
theorem ex_bind (c : String) (f : α → Mo β) : (Mo.ex c : Mo α).bind f = .ex c := rfl
theorem no_bind (f : α → Mo β) : (Mo.no : Mo α).bind f = .no := rfl
theorem bind_assoc (x : Mo α) (f : α → Mo β) (g : β → Mo γ) : (x.bind f).bind g = x.bind fun a => (f a).bind g := by cases x <;> rfl
theorem bind_ok (x : Mo α) : x.bind .ok = x := by cases x <;> rfl
def noex (x : Mo α) : Mo α := match x with | .ok a => .ok a | _ => .no
/-- within what a list may hold -/
def lim (n : Nat) (k : Mo α) : Mo α := if n ≤ sizeLine then k else .no
theorem lim_ok {n : Nat} {k : Mo α} (h : n ≤ 100000) : lim n k = k := if_pos (small_n h)
def grd (p : Prop) [Decidable p] (k : Mo α) : Mo α := if p then k else .no
theorem grd_ok {p : Prop} [Decidable p] {k : Mo α} (h : p) : grd p k = k := if_pos h
def opt (x : Option α) : Mo α := match x with | some a => .ok a | none => .no
end Mo

/-! ### heaps in parts -/
def un (F h : Hp) : Hp := fun p => match F p with | some o => some o | none => h p
def Dj (F h : Hp) : Prop := ∀ p, F p = none ∨ h p = none
/-- h is h1 and h2, which share nothing -/
def Jn (h1 h2 h : Hp) : Prop := ∀ p, (h1 p = none ∧ h p = h2 p) ∨ (h2 p = none ∧ h p = h1 p)
def Ext (F H F' H' : Hp) : Prop := Same F F' ∧ Same F' H' ∧ Same H H' ∧ ∀ p, F p = none → F' p ≠ none → H p = none
theorem Ext.refl {F H : Hp} (h : Same F H) : Ext F H F H := ⟨Same.refl _, h, Same.refl _, fun p a b => absurd a b⟩
theorem Ext.trans {F H F1 H1 F2 H2 : Hp} (a : Ext F H F1 H1) (b : Ext F1 H1 F2 H2) : Ext F H F2 H2 := by
  obtain ⟨a1, a2, a3, a4⟩ := a
  obtain ⟨b1, b2, b3, b4⟩ := b
  refine ⟨a1.trans b1, b2, a3.trans b3, fun p hp hq => ?_⟩
  cases e : F1 p with
  | none => exact a3.free (b4 p e hq)
  | some o => exact a4 p hp (by rw [e]; exact Option.some_ne_none _)
theorem Ext.heap {F H H' : Hp} (h : Same F H) (g : Same H H') : Ext F H F H' := ⟨Same.refl _, h.trans g, g, fun p a b => absurd a b⟩
theorem Ext.new {F H : Hp} (h : Same F H) {p : Addr} {o : HO} (hp : H p = none) : Ext F H (upd F p o) (upd H p o) := by
  refine ⟨same_new (h.free hp) _, fun b u e => ?_, same_new hp _, fun q a b => ?_⟩
  · unfold upd at e ⊢
    split
    · rename_i z; rw [if_pos z] at e; exact e
    · rename_i z; rw [if_neg z] at e; exact h _ _ e
  · unfold upd at b
    split at b
    · rename_i z; rw [z]; exact hp
    · exact absurd a b

/-! ### what represents a thing -/
structure Ty (α : Type) where
  R : α → V → Hp → Prop
  mono : ∀ {a v H H'}, Same H H' → R a v H → R a v H'
/-- all tuples of the one are in the other -/
def Tups (H H' : Hp) : Prop := ∀ p xs, H p = some (.tup xs) → H' p = some (.tup xs)
theorem Same.tups {H H' : Hp} (h : Same H H') : Tups H H' := fun p xs e => h _ _ e
/-- nothing in it can be changed -/
def Imm {α : Type} (T : Ty α) : Prop := ∀ {a v H H'}, Tups H H' → T.R a v H → T.R a v H'
abbrev tyInt : Ty Int := ⟨fun a v _ => v = .int a, fun _ h => h⟩
abbrev tyStr : Ty (List Nat) := ⟨fun a v _ => v = tx a, fun _ h => h⟩
abbrev tyBl : Ty Bool := ⟨fun a v _ => v = .bl a, fun _ h => h⟩
abbrev tyNon : Ty Unit := ⟨fun _ v _ => v = .non, fun _ h => h⟩
theorem imm_int : Imm tyInt := fun _ h => h
theorem imm_str : Imm tyStr := fun _ h => h
theorem imm_bl : Imm tyBl := fun _ h => h
theorem imm_non : Imm tyNon := fun _ h => h
abbrev tyOpt {α : Type} (T : Ty α) : Ty (Option α) := ⟨fun a v H => match a with | none => v = .non | some x => T.R x v H ∧ v ≠ .non, fun {a v H H'} g h => by cases a with | none => exact h | some x => exact ⟨T.mono g h.1, h.2⟩⟩
theorem imm_opt {α : Type} {T : Ty α} (i : Imm T) : Imm (tyOpt T) := fun {a v H H'} g h => by cases a with | none => exact h | some x => exact ⟨i g h.1, h.2⟩
/-- the parts of a tuple -/
structure Cs (γ : Type) where
  R : γ → List V → Hp → Prop
  mono : ∀ {c vs H H'}, Same H H' → R c vs H → R c vs H'
def ImmC {γ : Type} (C : Cs γ) : Prop := ∀ {c vs H H'}, Tups H H' → C.R c vs H → C.R c vs H'
abbrev csNil : Cs Unit := ⟨fun _ vs _ => vs = [], fun _ h => h⟩
abbrev csLast {α : Type} (T : Ty α) : Cs α := ⟨fun a vs H => ∃ v, vs = [v] ∧ T.R a v H, fun g ⟨v, e, h⟩ => ⟨v, e, T.mono g h⟩⟩
abbrev csCons {α γ : Type} (T : Ty α) (C : Cs γ) : Cs (α × γ) := ⟨fun a vs H => ∃ v us, vs = v :: us ∧ T.R a.1 v H ∧ C.R a.2 us H, fun g ⟨v, us, e, h, q⟩ => ⟨v, us, e, T.mono g h, C.mono g q⟩⟩
theorem immc_nil : ImmC csNil := fun _ h => h
theorem immc_last {α : Type} {T : Ty α} (i : Imm T) : ImmC (csLast T) := fun g ⟨v, e, h⟩ => ⟨v, e, i g h⟩
theorem immc_cons {α γ : Type} {T : Ty α} {C : Cs γ} (i : Imm T) (j : ImmC C) : ImmC (csCons T C) := fun g ⟨v, us, e, h, q⟩ => ⟨v, us, e, i g h, j g q⟩
abbrev tyTup {γ : Type} (C : Cs γ) : Ty γ := ⟨fun c v H => ∃ p us, v = .ref p ∧ H p = some (.tup us) ∧ C.R c us H, fun g ⟨p, us, e, h, q⟩ => ⟨p, us, e, g _ _ h, C.mono g q⟩⟩
theorem imm_tup {γ : Type} {C : Cs γ} (i : ImmC C) : Imm (tyTup C) := fun g ⟨p, us, e, h, q⟩ => ⟨p, us, e, g _ _ h, i g q⟩
/-- lists -/
abbrev Prs {α : Type} (T : Ty α) (H : Hp) (xs : List α) (vs : List V) : Prop := Paired (fun x v => T.R x v H) xs vs
theorem paired_imp {α β : Type} {R R' : α → β → Prop} (h : ∀ a b, R a b → R' a b) : ∀ {xs : List α} {ys : List β}, Paired R xs ys → Paired R' xs ys
  | _, _, .nil => .nil
  | _, _, .cons a t => .cons (h _ _ a) (paired_imp h t)
theorem Prs.mono {α : Type} {T : Ty α} {H H' : Hp} {xs : List α} {vs : List V} (g : Same H H') (h : Prs T H xs vs) : Prs T H' xs vs := paired_imp (fun _ _ r => T.mono g r) h
theorem Prs.imm {α : Type} {T : Ty α} (i : Imm T) {H H' : Hp} {xs : List α} {vs : List V} (g : Tups H H') (h : Prs T H xs vs) : Prs T H' xs vs := paired_imp (fun _ _ r => i g r) h
abbrev tyL {α : Type} (T : Ty α) : Ty (List α) := ⟨fun xs v H => ∃ p vs, v = .ref p ∧ H p = some (.lst vs) ∧ Prs T H xs vs, fun g ⟨p, vs, e, h, q⟩ => ⟨p, vs, e, g _ _ h, q.mono g⟩⟩
/-- the script -/
abbrev tySc (K : PySem.W.Frag) : Ty (List Int) := ⟨fun xs v H => ∃ p, v = .ref p ∧ SqL K H p (xs.map V.int), fun g ⟨p, e, h⟩ => ⟨p, e, g.seq h⟩⟩

/-! ### what is one's own -/
structure Own (α : Type) where
  O : α → V → Hp → Hp → Prop
  fr : Ty α
  mono : ∀ {a v F F' h}, Same F F' → O a v F h → O a v F' h
  frz : ∀ {a v F h}, Dj F h → O a v F h → fr.R a v (un F h)
  notup : ∀ {a v F h}, O a v F h → ∀ p xs, h p ≠ some (.tup xs)
def ImmO {α : Type} (O : Own α) : Prop := ∀ {a v F F' h}, Tups F F' → O.O a v F h → O.O a v F' h
theorem un_same {F h : Hp} : Same F (un F h) := fun p o e => by unfold un; rw [e]
theorem un_own {F h : Hp} (d : Dj F h) : Same h (un F h) := fun p o e => by
  unfold un
  rcases d p with z | z
  · rw [z]; exact e
  · rw [z] at e; cases e
abbrev owF {α : Type} (T : Ty α) : Own α := ⟨fun a v F h => (∀ p, h p = none) ∧ T.R a v F, T, fun g ⟨e, h⟩ => ⟨e, T.mono g h⟩, fun _ ⟨_, h⟩ => T.mono un_same h, fun ⟨e, _⟩ p xs z => by rw [e] at z; cases z⟩
theorem immo_f {α : Type} {T : Ty α} (i : Imm T) : ImmO (owF T) := fun g ⟨e, h⟩ => ⟨e, i g h⟩
def one (p : Addr) (o : HO) : Hp := fun q => if q = p then some o else none
theorem one_same {p : Addr} {o : HO} : one p o p = some o := if_pos rfl
abbrev owL {α : Type} (T : Ty α) : Own (List α) := ⟨fun xs v F h => ∃ p vs, v = .ref p ∧ h = one p (.lst vs) ∧ Prs T F xs vs, tyL T, fun g ⟨p, vs, e, z, q⟩ => ⟨p, vs, e, z, q.mono g⟩,
  fun d ⟨p, vs, e, z, q⟩ => ⟨p, vs, e, un_own d _ _ (by rw [z]; exact one_same), q.mono un_same⟩,
  fun ⟨p, vs, e, z, q⟩ b xs y => by rw [z] at y; unfold one at y; split at y <;> cases y⟩
theorem immo_l {α : Type} {T : Ty α} (i : Imm T) : ImmO (owL T) := fun g ⟨p, vs, e, z, q⟩ => ⟨p, vs, e, z, q.imm i g⟩

/-! ### the slots -/
inductive Sl : Type 1 where
  | dead
  | fz {α : Type} (T : Ty α) (a : α)
  | ow {α : Type} (O : Own α) (a : α)
def Sl.P : Sl → Option V → Hp → Hp → Prop
  | .dead, _, _, _ => True
  | .fz T a, o, F, _ => ∃ v, o = some v ∧ T.R a v F
  | .ow O a, o, F, h => ∃ v, o = some v ∧ O.O a v F h
def Sl.Z : Sl → Option V → Hp → Prop
  | .dead, _, _ => True
  | .fz T a, o, F => ∃ v, o = some v ∧ T.R a v F
  | .ow O a, o, F => ∃ v, o = some v ∧ O.fr.R a v F
def Sl.cold : Sl → Sl
  | .ow _ _ => .dead
  | s => s
def Hold : List Sl → St → Hp → Hp → Prop
  | [], [], _, _ => True
  | s :: L, o :: σ, F, h => ∃ h1 h2, Jn h1 h2 h ∧ s.P o F h1 ∧ Hold L σ F h2
  | _, _, _, _ => False
def HoldF (L : List Sl) (σ : St) (F : Hp) : Prop := ∀ (i : Nat) (s : Sl), L[i]? = some s → s.Z (σ[i]?.join) F
theorem Sl.P.mono {s : Sl} {o : Option V} {F F' h : Hp} (g : Same F F') (q : s.P o F h) : s.P o F' h := by
  cases s with
  | dead => exact q
  | fz T a => obtain ⟨v, e, r⟩ := q; exact ⟨v, e, T.mono g r⟩
  | ow O a => obtain ⟨v, e, r⟩ := q; exact ⟨v, e, O.mono g r⟩
theorem Sl.Z.mono {s : Sl} {o : Option V} {F F' : Hp} (g : Same F F') (q : s.Z o F) : s.Z o F' := by
  cases s with
  | dead => exact q
  | fz T a => obtain ⟨v, e, r⟩ := q; exact ⟨v, e, T.mono g r⟩
  | ow O a => obtain ⟨v, e, r⟩ := q; exact ⟨v, e, O.fr.mono g r⟩
theorem HoldF.mono {L : List Sl} {σ : St} {F F' : Hp} (g : Same F F') (q : HoldF L σ F) : HoldF L σ F' := fun i s e => (q i s e).mono g
theorem Hold.mono : ∀ {L : List Sl} {σ : St} {F F' h : Hp}, Same F F' → Hold L σ F h → Hold L σ F' h
  | [], [], _, _, _, _, q => q
  | s :: L, o :: σ, F, F', h, g, ⟨h1, h2, j, p, r⟩ => ⟨h1, h2, j, p.mono g, r.mono g⟩
  | [], _ :: _, _, _, _, _, q => q.elim
  | _ :: _, [], _, _, _, _, q => q.elim
theorem Hold.len : ∀ {L : List Sl} {σ : St} {F h : Hp}, Hold L σ F h → L.length = σ.length
  | [], [], _, _, _ => rfl
  | s :: L, o :: σ, F, h, ⟨h1, h2, j, p, r⟩ => by rw [List.length_cons, List.length_cons, r.len]
  | [], _ :: _, _, _, q => q.elim
  | _ :: _, [], _, _, q => q.elim
theorem Jn.l {h1 h2 h : Hp} (j : Jn h1 h2 h) : Same h1 h := fun p o e => by
  rcases j p with ⟨a, b⟩ | ⟨a, b⟩
  · rw [a] at e; cases e
  · rw [b]; exact e
theorem Jn.r {h1 h2 h : Hp} (j : Jn h1 h2 h) : Same h2 h := fun p o e => by
  rcases j p with ⟨a, b⟩ | ⟨a, b⟩
  · rw [b]; exact e
  · rw [a] at e; cases e
theorem Jn.dj {h1 h2 h : Hp} (j : Jn h1 h2 h) : Dj h1 h2 := fun p => by
  rcases j p with ⟨a, b⟩ | ⟨a, b⟩
  · exact .inl a
  · exact .inr a
theorem jn_of {h1 h2 : Hp} (d : Dj h1 h2) : Jn h1 h2 (un h1 h2) := fun p => by
  unfold un
  rcases d p with a | a
  · rw [a]; exact .inl ⟨rfl, rfl⟩
  · refine .inr ⟨a, ?_⟩
    cases h1 p with
    | none => exact a
    | some o => rfl
/-- a slot, the rest, and what may be set there -/
theorem Hold.at : ∀ {L : List Sl} {σ : St} {F h : Hp} (i : Nat) {s : Sl}, Hold L σ F h → L[i]? = some s →
    ∃ o h1 h2, σ[i]? = some o ∧ Jn h1 h2 h ∧ s.P o F h1 ∧ ∀ s' o' h1' h', Jn h1' h2 h' → s'.P o' F h1' → Hold (L.set i s') (σ.set i o') F h'
  | [], _, _, _, _, _, _, e => by cases e
  | s :: L, [], _, _, _, _, q, _ => q.elim
  | s :: L, o :: σ, F, h, 0, t, ⟨h1, h2, j, p, r⟩, e => by
    cases e
    exact ⟨o, h1, h2, rfl, j, p, fun s' o' h1' h' j' p' => ⟨h1', h2, j', p', r⟩⟩
  | s :: L, o :: σ, F, h, i + 1, t, ⟨h1, h2, j, p, r⟩, e => by
    obtain ⟨o1, k1, k2, e1, j1, p1, f⟩ := Hold.at i r (by simpa using e)
    have d1 : Dj h1 k1 := fun p => by
      rcases j.dj p with a | a
      · exact .inl a
      · exact .inr (j1.l.free a)
    have d2 : Dj h1 k2 := fun p => by
      rcases j.dj p with a | a
      · exact .inl a
      · exact .inr (j1.r.free a)
    refine ⟨o1, k1, un h1 k2, by simpa using e1, fun p => ?_, p1, fun s' o' k1' h' j' p' => ?_⟩
    · rcases j p with ⟨a, b⟩ | ⟨a, b⟩
      · rcases j1 p with ⟨c, d⟩ | ⟨c, d⟩
        · refine .inl ⟨c, ?_⟩; unfold un; rw [a, b, d]
        · refine .inr ⟨?_, by rw [b, d]⟩; unfold un; rw [a, c]
      · refine .inl ⟨j1.l.free a, ?_⟩
        have : k2 p = none := j1.r.free a
        unfold un; rw [b]
        cases h1 p with
        | none => rw [this]
        | some u => rfl
    · have dd : Dj k1' k2 := fun p => by
        rcases j' p with ⟨a, b⟩ | ⟨a, b⟩
        · exact .inl a
        · right; unfold un at a
          cases z : h1 p with
          | none => rw [z] at a; exact a
          | some u => rw [z] at a; cases a
      refine ⟨h1, un k1' k2, fun p => ?_, p, f s' o' k1' _ (jn_of dd) p'⟩
      rcases j' p with ⟨a, b⟩ | ⟨a, b⟩
      · unfold un at b ⊢
        cases z : h1 p with
        | none => rw [z] at b; exact .inl ⟨rfl, by rw [b, a]⟩
        | some u =>
          rw [z] at b
          refine .inr ⟨?_, b⟩
          rw [a]
          rcases d2 p with y | y
          · rw [y] at z; cases z
          · exact y
      · unfold un at a
        cases z : h1 p with
        | some u => rw [z] at a; cases a
        | none =>
          rw [z] at a
          refine .inl ⟨rfl, ?_⟩
          unfold un; rw [b]
          cases k1' p with
          | none => exact a.symm
          | some u => rfl
theorem Hold.froz {L : List Sl} {σ : St} {F h : Hp} (d : Dj F h) (q : Hold L σ F h) : HoldF L σ (un F h) := by
  intro i s e
  obtain ⟨o, h1, h2, e1, j, p, _⟩ := q.at i e
  rw [e1]
  have d1 : Dj F h1 := fun p => by
    rcases d p with a | a
    · exact .inl a
    · exact .inr (j.l.free a)
  cases s with
  | dead => trivial
  | fz T a => obtain ⟨v, e2, r⟩ := p; exact ⟨v, e2, T.mono un_same r⟩
  | ow O a =>
    obtain ⟨v, e2, r⟩ := p
    refine ⟨v, e2, O.fr.mono (fun p u z => ?_) (O.frz d1 r)⟩
    unfold un at z ⊢
    cases y : F p with
    | some w => rw [y] at z; exact z
    | none => rw [y] at z; exact j.l _ _ z
theorem Hold.coldF {L : List Sl} {σ : St} {F h : Hp} (q : Hold L σ F h) : HoldF (L.map Sl.cold) σ F := by
  intro i s e
  rw [List.getElem?_map] at e
  cases e1 : L[i]? with
  | none => rw [e1] at e; cases e
  | some t =>
    rw [e1] at e
    cases e
    obtain ⟨o, h1, h2, e2, j, p, _⟩ := q.at i e1
    rw [e2]
    cases t with
    | dead => trivial
    | fz T a => obtain ⟨v, e2, r⟩ := p; exact ⟨v, e2, r⟩
    | ow O a => trivial
end L2

/-! # W: expressions as functions -/
namespace L2
open PySem PySem.Spec PyProof.Rows

/-- what is wanted behind a thing that comes to r -/
def After {α : Type} (K : PySem.W.Frag) (r : Mo α) (E : XK) (F H : Hp) (k : α → Hp → Hp → Prop) : Prop := match r with
  | .ok a => ∀ F' H', Ext F H F' H' → k a F' H'
  | .ex c => ∀ F' H', Ext F H F' H' → E (.ref (gA K c)) none H'
  | .no => False
section
variable {K : PySem.W.Frag} {E : XK} {α β γ ρ : Type} {F H : Hp}
theorem After.bind {r : Mo α} {f : α → Mo β} {k : β → Hp → Hp → Prop} (h : After K (r.bind f) E F H k) : After K r E F H fun a F1 H1 => After K (f a) E F1 H1 k := by
  cases r with
  | ok a =>
    intro F1 H1 x
    have h' : After K (f a) E F H k := h
    cases e : f a with
    | ok b => rw [e] at h'; exact fun F2 H2 y => h' F2 H2 (x.trans y)
    | ex c => rw [e] at h'; exact fun F2 H2 y => h' F2 H2 (x.trans y)
    | no => rw [e] at h'; exact h'
  | ex c => exact h
  | no => exact h
theorem After.imp {r : Mo α} {k k' : α → Hp → Hp → Prop} (h : After K r E F H k) (g : ∀ a F' H', Ext F H F' H' → k a F' H' → k' a F' H') : After K r E F H k' := by
  cases r with
  | ok a => exact fun F' H' x => g a F' H' x (h F' H' x)
  | ex c => exact h
  | no => exact h
theorem After.ok {a : α} {k : α → Hp → Hp → Prop} (hs : Same F H) (h : After K (.ok a) E F H k) : k a F H := h F H (.refl hs)
theorem After.noex {r : Mo α} {k : α → Hp → Hp → Prop} (h : After K r.noex E F H k) : After K r E0 F H k := by
  cases r with
  | ok a => exact h
  | ex c => exact h.elim
  | no => exact h
theorem After.lim {n : Nat} {r : Mo α} {k : α → Hp → Hp → Prop} (h : After K (Mo.lim n r) E F H k) : n ≤ sizeLine ∧ After K r E F H k := by
  unfold Mo.lim at h
  split at h
  · exact ⟨by assumption, h⟩
  · exact h.elim
theorem After.grd {p : Prop} [Decidable p] {r : Mo α} {k : α → Hp → Hp → Prop} (h : After K (Mo.grd p r) E F H k) : p ∧ After K r E F H k := by
  unfold Mo.grd at h
  split at h
  · exact ⟨by assumption, h⟩
  · exact h.elim
theorem After.opt {x : Option α} {k : α → Hp → Hp → Prop} (h : After K (Mo.opt x) E F H k) : ∃ a, x = some a ∧ After K (.ok a) E F H k := by
  cases x with
  | none => exact h.elim
  | some a => exact ⟨a, rfl, h⟩

def EvF (K : PySem.W.Frag) (e : TE) (E : XK) (L : List Sl) (r : Mo α) (T : Ty α) : Prop :=
  ∀ σ F H (Q : VK), HoldF L σ F → Same F H → After K r E F H (fun a F' H' => ∀ v, T.R a v F' → Q v H') → e σ H Q
/-- a result of one's own, new -/
def OwnK (O : Own α) (H : Hp) (Q : VK) (a : α) (F' H' : Hp) : Prop := ∀ v h, (∀ p, h p ≠ none → H p = none) → Dj F' h → Same h H' → O.O a v F' h → Q v H'
def EvO (K : PySem.W.Frag) (e : TE) (E : XK) (L : List Sl) (r : Mo α) (O : Own α) : Prop :=
  ∀ σ F H (Q : VK), HoldF L σ F → Same F H → After K r E F H (OwnK O H Q) → e σ H Q
def EvT (K : PySem.W.Frag) (t : TT) (E : XK) (L : List Sl) (r : Mo Bool) : Prop :=
  ∀ σ F H (Q : Bool → Hp → Prop), HoldF L σ F → Same F H → After K r E F H (fun b _ H' => Q b H') → t σ H Q
def EvA (K : PySem.W.Frag) (t : TA) (E : XK) (L : List Sl) (r : Mo γ) (C : Cs γ) : Prop :=
  ∀ σ F H (Q : List V → Hp → Prop), HoldF L σ F → Same F H → After K r E F H (fun c F' H' => ∀ vs, C.R c vs F' → Q vs H') → t σ H Q

variable {L : List Sl} {e e1 e2 : TE} {T : Ty α} {r : Mo α}
/-- freeze -/
theorem EvO.fr {O : Own α} (h : EvO K e E L r O) : EvF K e E L r O.fr := by
  intro σ F H Q hL hs q
  refine h σ F H Q hL hs ?_
  cases r with
  | ok a =>
    intro F' H' x v h' fresh d s o
    refine q (un F' h') H' ⟨x.1.trans un_same, fun p o e => ?_, x.2.2.1, fun p a b => ?_⟩ v (O.frz d o)
    · unfold un at e
      cases z : F' p with
      | some w => rw [z] at e; cases e; exact x.2.1 _ _ z
      | none => rw [z] at e; exact s _ _ e
    · unfold un at b
      cases z : F' p with
      | some w => exact x.2.2.2 p a (by rw [z]; exact Option.some_ne_none _)
      | none => rw [z] at b; exact fresh p b
  | ex c => exact q
  | no => exact q
theorem EvF.ow (h : EvF K e E L r T) : EvO K e E L r (owF T) := by
  intro σ F H Q hL hs q
  refine h σ F H Q hL hs (q.imp fun a F' H' x k v hv => ?_)
  exact k v (fun _ => none) (fun p z => absurd rfl z) (fun p => .inr rfl) (fun p o z => by cases z) ⟨fun _ => rfl, hv⟩
/-! names, constants -/
theorem ev_c {v : V} {a : α} (h : ∀ F, T.R a v F) : EvF K (tC v) E L (.ok a) T := fun σ F H Q hL hs q => q.ok hs v (h F)
theorem ev_int (i : Int) : EvF K (tC (.int i)) E L (.ok i) tyInt := ev_c fun _ => rfl
theorem ev_str (l : List Nat) : EvF K (tC (tx l)) E L (.ok l) tyStr := ev_c fun _ => rfl
theorem ev_bl (b : Bool) : EvF K (tC (.bl b)) E L (.ok b) tyBl := ev_c fun _ => rfl
theorem ev_non : EvF K (tC .non) E L (.ok ()) tyNon := ev_c fun _ => rfl
theorem ev_none {β : Type} {T : Ty β} : EvF K (tC .non) E L (.ok (none : Option β)) (tyOpt T) := ev_c fun _ => rfl
theorem ev_some (hn : ∀ a v F, T.R a v F → v ≠ .non) (h : EvF K e E L r T) : EvF K e E L (r.bind fun a => .ok (some a)) (tyOpt T) := by
  intro σ F H Q hL hs q
  exact h σ F H Q hL hs (q.bind.imp fun a F1 H1 x k v hv => k.ok x.2.1 v ⟨hv, hn _ _ _ hv⟩)
theorem ev_var (i : Nat) {a : α} (h : L[i]? = some (.fz T a)) : EvF K (mVar i) E L (.ok a) T := by
  intro σ F H Q hL hs q
  obtain ⟨v, e, r⟩ := hL i _ h
  unfold mVar
  cases z : σ[i]? with
  | none => rw [z] at e; cases e
  | some o =>
    rw [z] at e
    cases (show o = some v from e)
    exact q.ok hs v r
theorem ev_varO (i : Nat) {O : Own α} {a : α} (h : L[i]? = some (.ow O a)) : EvF K (mVar i) E L (.ok a) O.fr := by
  intro σ F H Q hL hs q
  obtain ⟨v, e, r⟩ := hL i _ h
  unfold mVar
  cases z : σ[i]? with
  | none => rw [z] at e; cases e
  | some o =>
    rw [z] at e
    cases (show o = some v from e)
    exact q.ok hs v r
/-! operators -/
def Op2 (K : PySem.W.Frag) (m : R2) (E : XK) (T1 : Ty α) (T2 : Ty β) (g : α → β → Mo γ) (T : Ty γ) : Prop :=
  ∀ a b x y F H (Q : VK), Same F H → T1.R a x F → T2.R b y F → After K (g a b) E F H (fun c F' H' => ∀ v, T.R c v F' → Q v H') → m x y H Q
def Op2O (K : PySem.W.Frag) (m : R2) (E : XK) (T1 : Ty α) (T2 : Ty β) (g : α → β → Mo γ) (O : Own γ) : Prop :=
  ∀ a b x y F H (Q : VK), Same F H → T1.R a x F → T2.R b y F → After K (g a b) E F H (OwnK O H Q) → m x y H Q
theorem OwnK.back {O : Own α} {H H1 : Hp} {Q : VK} {a : α} {F' H' : Hp} (g : Same H H1) (h : OwnK O H Q a F' H') : OwnK O H1 Q a F' H' :=
  fun v k fresh d s o => h v k (fun p z => g.free (fresh p z)) d s o
theorem ev_op {m : R2} {T1 : Ty α} {T2 : Ty β} {T : Ty γ} {g : α → β → Mo γ} {r1 : Mo α} {r2 : Mo β} (hop : Op2 K m E T1 T2 g T) (h1 : EvF K e1 E L r1 T1) (h2 : EvF K e2 E L r2 T2) :
    EvF K (tOp m e1 e2) E L (r1.bind fun a => r2.bind fun b => g a b) T := by
  intro σ F H Q hL hs q
  refine h1 σ F H _ hL hs (q.bind.imp fun a F1 H1 x1 k1 v1 hv1 => ?_)
  refine h2 σ F1 H1 _ (hL.mono x1.1) x1.2.1 (k1.bind.imp fun b F2 H2 x2 k2 v2 hv2 => ?_)
  exact hop a b v1 v2 F2 H2 Q x2.2.1 (T1.mono x2.1 hv1) hv2 k2
theorem ev_opO {m : R2} {T1 : Ty α} {T2 : Ty β} {O : Own γ} {g : α → β → Mo γ} {r1 : Mo α} {r2 : Mo β} (hop : Op2O K m E T1 T2 g O) (h1 : EvF K e1 E L r1 T1) (h2 : EvF K e2 E L r2 T2) :
    EvO K (tOp m e1 e2) E L (r1.bind fun a => r2.bind fun b => g a b) O := by
  intro σ F H Q hL hs q
  refine h1 σ F H _ hL hs (q.bind.imp fun a F1 H1 x1 k1 v1 hv1 => ?_)
  refine h2 σ F1 H1 _ (hL.mono x1.1) x1.2.1 (k1.bind.imp fun b F2 H2 x2 k2 v2 hv2 => ?_)
  exact hop a b v1 v2 F2 H2 Q x2.2.1 (T1.mono x2.1 hv1) hv2 (k2.imp fun c F3 H3 x3 k3 => k3.back (x1.2.2.1.trans x2.2.2.1))
theorem op_i0 {g : Int → Int → V} {f : Int → Int → α} (h : ∀ i j F, T.R (f i j) (g i j) F) : Op2 K (mI0 g) E tyInt tyInt (fun i j => .ok (f i j)) T := by
  intro a b x y F H Q hs hx hy q
  cases hx; cases hy
  exact q.ok hs _ (h a b F)
theorem op_i {C : Int → Int → Prop} [∀ i j, Decidable (C i j)] {g : Int → Int → V} {f : Int → Int → α} (h : ∀ i j F, T.R (f i j) (g i j) F) : Op2 K (mI C g) E tyInt tyInt (fun i j => .grd (C i j) (.ok (f i j))) T := by
  intro a b x y F H Q hs hx hy q
  cases hx; cases hy
  obtain ⟨c, q⟩ := q.grd
  exact ⟨c, q.ok hs _ (h a b F)⟩
instance (i j : Int) : Decidable (CMul i j) := inferInstanceAs (Decidable (_ ∨ _))
instance (i j : Int) : Decidable (CDiv i j) := inferInstanceAs (Decidable (_ ∧ _))
instance (i j : Int) : Decidable (CPow i j) := inferInstanceAs (Decidable (_ ∧ _ ∧ _))
theorem op_addI : Op2 K mAdd E tyInt tyInt (fun i j => .ok (i + j)) tyInt := by
  intro a b x y F H Q hs hx hy q
  cases hx; cases hy
  exact q.ok hs _ rfl
theorem op_subI : Op2 K mSub E tyInt tyInt (fun i j => .ok (i - j)) tyInt := op_i0 fun _ _ _ => rfl
theorem op_mulI : Op2 K mMul E tyInt tyInt (fun i j => .grd (CMul i j) (.ok (i * j))) tyInt := op_i fun _ _ _ => rfl
theorem op_divI : Op2 K mDiv E tyInt tyInt (fun i j => .grd (CDiv i j) (.ok (i / j))) tyInt := op_i fun _ _ _ => rfl
theorem op_modI : Op2 K mMod E tyInt tyInt (fun i j => .grd (0 < j) (.ok (i % j))) tyInt := op_i (C := fun _ j => 0 < j) fun _ _ _ => rfl
theorem op_powI : Op2 K mPow E tyInt tyInt (fun i j => .grd (CPow i j) (.ok (i ^ j.toNat))) tyInt := op_i fun _ _ _ => rfl
theorem op_ltI : Op2 K mLt E tyInt tyInt (fun i j => .ok (decide (i < j))) tyBl := op_i0 fun _ _ _ => rfl
theorem op_leI : Op2 K mLe E tyInt tyInt (fun i j => .ok (decide (i ≤ j))) tyBl := op_i0 fun _ _ _ => rfl
theorem op_gtI : Op2 K mGt E tyInt tyInt (fun i j => .ok (decide (j < i))) tyBl := op_i0 fun _ _ _ => rfl
theorem op_geI : Op2 K mGe E tyInt tyInt (fun i j => .ok (decide (j ≤ i))) tyBl := op_i0 fun _ _ _ => rfl
theorem op_addS : Op2 K mAdd E tyStr tyStr (fun i j => .lim (i.length + j.length) (.ok (i ++ j))) tyStr := by
  intro a b x y F H Q hs hx hy q
  cases hx; cases hy
  obtain ⟨c, q⟩ := q.lim
  exact ⟨c, q.ok hs _ rfl⟩
theorem Prs.append {xs ys : List α} {vs us : List V} (a : Prs T H xs vs) (b : Prs T H ys us) : Prs T H (xs ++ ys) (vs ++ us) := by
  induction a with
  | nil => exact b
  | cons r t ih => exact .cons r ih
theorem Prs.len {xs : List α} {vs : List V} (a : Prs T H xs vs) : xs.length = vs.length := Paired.length a
theorem Prs.get {xs : List α} {vs : List V} (a : Prs T H xs vs) (i : Nat) : (xs[i]? = none ∧ vs[i]? = none) ∨ ∃ x v, xs[i]? = some x ∧ vs[i]? = some v ∧ T.R x v H := by
  induction a generalizing i with
  | nil => exact .inl ⟨rfl, rfl⟩
  | cons r t ih =>
    cases i with
    | zero => exact .inr ⟨_, _, rfl, rfl, r⟩
    | succ i => simpa using ih i
theorem Prs.take {xs : List α} {vs : List V} (a : Prs T H xs vs) (n : Nat) : Prs T H (xs.take n) (vs.take n) := by
  induction a generalizing n with
  | nil => rw [List.take_nil, List.take_nil]; exact .nil
  | cons r t ih =>
    cases n with
    | zero => exact .nil
    | succ n => exact .cons r (ih n)
theorem Prs.drop {xs : List α} {vs : List V} (a : Prs T H xs vs) (n : Nat) : Prs T H (xs.drop n) (vs.drop n) := by
  induction a generalizing n with
  | nil => rw [List.drop_nil, List.drop_nil]; exact .nil
  | cons r t ih =>
    cases n with
    | zero => exact .cons r t
    | succ n => exact ih n
theorem Prs.rev {xs : List α} {vs : List V} (a : Prs T H xs vs) : Prs T H xs.reverse vs.reverse := by
  induction a with
  | nil => exact .nil
  | cons r t ih => rw [List.reverse_cons, List.reverse_cons]; exact Prs.append ih (.cons r .nil)
theorem Prs.set {xs : List α} {vs : List V} (a : Prs T H xs vs) (i : Nat) {x : α} {v : V} (q : T.R x v H) : Prs T H (xs.set i x) (vs.set i v) := by
  induction a generalizing i with
  | nil => exact .nil
  | cons r t ih =>
    cases i with
    | zero => exact .cons q t
    | succ i => exact .cons r (ih i)
/-- a new list -/
theorem own_new {vs : List V} {xs : List α} {p : Addr} {F' H' : Hp} {Q : VK} (hp : H p = none) (h2 : H' p = some (.lst vs)) (hf : F' p = none) (hr : Prs T F' xs vs) (q : OwnK (owL T) H Q xs F' H') : Q (.ref p) H' := by
  refine q (.ref p) (one p (.lst vs)) (fun b z => ?_) (fun b => ?_) (fun b o z => ?_) ⟨p, vs, rfl, rfl, hr⟩
  · unfold one at z; split at z
    · rename_i e; rw [e]; exact hp
    · exact absurd rfl z
  · unfold one; split
    · rename_i e; rw [e]; exact .inl hf
    · exact .inr rfl
  · unfold one at z; split at z
    · rename_i e; rw [e]; cases z; exact h2
    · cases z
theorem own_upd {vs : List V} {xs : List α} {p : Addr} {Q : VK} (hs : Same F H) (hp : H p = none) (hr : Prs T F xs vs) (q : After K (.ok xs) E F H (OwnK (owL T) H Q)) : Q (.ref p) (upd H p (.lst vs)) :=
  own_new hp upd_same (hs.free hp) hr (q F _ (.heap hs (same_new hp _)))
theorem op_addL : Op2O K mAdd E (tyL T) (tyL T) (fun i j => .lim (i.length + j.length) (.ok (i ++ j))) (owL T) := by
  rintro a b x y F H Q hs ⟨p, vs, rfl, h1, r1⟩ ⟨p2, us, rfl, h2, r2⟩ q
  obtain ⟨c, q⟩ := q.lim
  exact ⟨vs, us, hs _ _ h1, hs _ _ h2, by rw [← r1.len, ← r2.len]; exact c, fun p hp => own_upd hs hp (r1.append r2) q⟩
/-! arguments -/
theorem ea_nil : EvA K tNil E L (.ok ()) csNil := fun σ F H Q hL hs q => q.ok hs [] rfl
theorem ea_last (h : EvF K e E L r T) : EvA K (tCons e tNil) E L r (csLast T) := by
  intro σ F H Q hL hs q
  exact h σ F H _ hL hs (q.imp fun a F1 H1 x k v hv => k [v] ⟨v, rfl, hv⟩)
theorem ea_cons {ta : TA} {r2 : Mo γ} {C : Cs γ} (h : EvF K e E L r T) (h2 : EvA K ta E L r2 C) : EvA K (tCons e ta) E L (r.bind fun a => r2.bind fun c => .ok (a, c)) (csCons T C) := by
  intro σ F H Q hL hs q
  refine h σ F H _ hL hs (q.bind.imp fun a F1 H1 x1 k1 v1 hv1 => ?_)
  refine h2 σ F1 H1 _ (hL.mono x1.1) x1.2.1 (k1.bind.imp fun c F2 H2 x2 k2 vs hvs => ?_)
  exact k2.ok x2.2.1 (v1 :: vs) ⟨v1, vs, rfl, T.mono x2.1 hv1, hvs⟩
/-! what a def tells -/
def Ct (K : PySem.W.Frag) (C : Cs γ) (f : γ → Mo ρ) (O : Own ρ) : Sp := fun vs H Q E => ∃ F c, Same F H ∧ C.R c vs F ∧ After K (f c) E F H (OwnK O H Q)
theorem ev_call {C : Cs γ} {f : γ → Mo ρ} {O : Own ρ} {ta : TA} {r : Mo γ} (h : EvA K ta E L r C) : EvO K (tCall (Ct K C f O) [] E ta) E L (r.bind f) O := by
  intro σ F H Q hL hs q
  refine h σ F H _ hL hs (q.bind.imp fun c F1 H1 x1 k1 vs hvs => ?_)
  rw [List.append_nil]
  exact ⟨F1, c, x1.2.1, hvs, k1.imp fun r F2 H2 x2 k2 => k2.back x1.2.2.1⟩
theorem ev_call0 {C : Cs γ} {f : γ → Mo ρ} {O : Own ρ} {ta : TA} {r : Mo γ} (h : EvA K ta E L r C) : EvO K (tCall (Ct K C f O) [] E0 ta) E L (r.bind fun c => (f c).noex) O := by
  intro σ F H Q hL hs q
  refine h σ F H _ hL hs (q.bind.imp fun c F1 H1 x1 k1 vs hvs => ?_)
  rw [List.append_nil]
  exact ⟨F1, c, x1.2.1, hvs, k1.noex.imp fun r F2 H2 x2 k2 => k2.back x1.2.2.1⟩
/-! built-ins -/
def Bl (K : PySem.W.Frag) (m : List V → Hp → VK → Prop) (E : XK) (C : Cs γ) (g : γ → Mo α) (T : Ty α) : Prop :=
  ∀ c vs F H (Q : VK), Same F H → C.R c vs F → After K (g c) E F H (fun c F' H' => ∀ v, T.R c v F' → Q v H') → m vs H Q
def BlO (K : PySem.W.Frag) (m : List V → Hp → VK → Prop) (E : XK) (C : Cs γ) (g : γ → Mo α) (O : Own α) : Prop :=
  ∀ c vs F H (Q : VK), Same F H → C.R c vs F → After K (g c) E F H (OwnK O H Q) → m vs H Q
theorem ev_cb {m : List V → Hp → VK → Prop} {C : Cs γ} {g : γ → Mo α} {ta : TA} {r : Mo γ} (hb : Bl K m E C g T) (h : EvA K ta E L r C) : EvF K (tCB m ta) E L (r.bind g) T := by
  intro σ F H Q hL hs q
  exact h σ F H _ hL hs (q.bind.imp fun c F1 H1 x1 k1 vs hvs => hb c vs F1 H1 Q x1.2.1 hvs k1)
theorem ev_cbO {m : List V → Hp → VK → Prop} {C : Cs γ} {g : γ → Mo α} {O : Own α} {ta : TA} {r : Mo γ} (hb : BlO K m E C g O) (h : EvA K ta E L r C) : EvO K (tCB m ta) E L (r.bind g) O := by
  intro σ F H Q hL hs q
  exact h σ F H _ hL hs (q.bind.imp fun c F1 H1 x1 k1 vs hvs => hb c vs F1 H1 Q x1.2.1 hvs (k1.imp fun a F2 H2 x2 k2 => k2.back x1.2.2.1))
theorem bl_lenS : Bl K (mLen K) E (csLast tyStr) (fun l => .lim l.length (.ok (l.length : Int))) tyInt := by
  rintro c vs F H Q hs ⟨v, rfl, rfl⟩ q
  obtain ⟨z, q⟩ := q.lim
  exact ⟨z, q.ok hs _ rfl⟩
theorem bl_lenL : Bl K (mLen K) E (csLast (tyL T)) (fun l => .ok (l.length : Int)) tyInt := by
  rintro c vs F H Q hs ⟨v, rfl, p, us, rfl, h, r⟩ q
  exact ⟨us, .inl (.of (hs _ _ h)), q.ok hs _ (by rw [r.len])⟩
theorem bl_lenSc : Bl K (mLen K) E (csLast (tySc K)) (fun l => .ok (l.length : Int)) tyInt := by
  rintro c vs F H Q hs ⟨v, rfl, p, rfl, h⟩ q
  exact ⟨_, .inl (hs.seq h), q.ok hs _ (by rw [List.length_map])⟩
theorem bl_max : Bl K (mTwo max) E (csCons tyInt (csLast tyInt)) (fun c => .ok (max c.1 c.2)) tyInt := by
  rintro c vs F H Q hs ⟨v, us, rfl, rfl, w, rfl, rfl⟩ q
  exact q.ok hs _ rfl
theorem bl_min : Bl K (mTwo min) E (csCons tyInt (csLast tyInt)) (fun c => .ok (min c.1 c.2)) tyInt := by
  rintro c vs F H Q hs ⟨v, us, rfl, rfl, w, rfl, rfl⟩ q
  exact q.ok hs _ rfl
theorem bl_str : Bl K mStr E (csLast tyInt) (fun i => .grd (i.natAbs.log2 < 1920) (.ok (strI i))) tyStr := by
  rintro c vs F H Q hs ⟨v, rfl, rfl⟩ q
  obtain ⟨z, q⟩ := q.grd
  exact ⟨z, q.ok hs _ rfl⟩
theorem bl_list : BlO K (mList K) E (csLast (tyL T)) (fun l => .ok l) (owL T) := by
  rintro c vs F H Q hs ⟨v, rfl, p, us, rfl, h, r⟩ q
  exact .inl ⟨us, .inl (.of (hs _ _ h)), fun l hl => own_upd hs hl r q⟩
theorem prs_int {xs : List Int} : Prs tyInt H xs (xs.map V.int) := by
  induction xs with
  | nil => exact .nil
  | cons x xs ih => exact .cons rfl ih
theorem bl_listSc : BlO K (mList K) E (csLast (tySc K)) (fun l => .ok l) (owL tyInt) := by
  rintro c vs F H Q hs ⟨v, rfl, p, rfl, h⟩ q
  exact .inl ⟨_, .inl (hs.seq h), fun l hl => own_upd hs hl prs_int q⟩
/-! subscripts, slices -/
theorem op_ixS : Op2 K (mIx K) E tyStr tyInt (fun l i => .lim l.length (.opt ((atI l i).map fun c => [c]))) tyStr := by
  rintro a b x y F H Q hs rfl rfl q
  obtain ⟨z, q⟩ := q.lim
  obtain ⟨l, e, q⟩ := q.opt
  refine ⟨z, ?_⟩
  show (match atI a b with | some c => Q (tx [c]) H | none => False)
  cases e1 : atI a b with
  | none => rw [e1] at e; cases e
  | some c => rw [e1] at e; cases e; exact q.ok hs _ rfl
theorem atI_prs {xs : List α} {vs : List V} (r : Prs T H xs vs) {i : Int} {x : α} (e : atI xs i = some x) : ∃ v, atI vs i = some v ∧ T.R x v H := by
  unfold atI at e ⊢
  rw [← r.len]
  cases e1 : ixN xs.length i with
  | none => rw [e1] at e; cases e
  | some j =>
    rw [e1] at e
    rcases r.get j with ⟨a, b⟩ | ⟨y, v, a, b, c⟩
    · have : xs[j]? = some x := e
      rw [a] at this; cases this
    · have : xs[j]? = some x := e
      rw [a] at this; cases this
      exact ⟨v, b, c⟩
theorem op_ixL : Op2 K (mIx K) E (tyL T) tyInt (fun l i => .opt (atI l i)) T := by
  rintro a b x y F H Q hs ⟨p, vs, rfl, h, r⟩ rfl q
  obtain ⟨l, e, q⟩ := q.opt
  refine ⟨vs, .inl (.of (hs _ _ h)), ?_⟩
  obtain ⟨v, e2, rv⟩ := atI_prs r e
  rw [e2]
  exact q.ok hs v rv
theorem op_ixSc : Op2 K (mIx K) E (tySc K) tyInt (fun l i => .opt (atI l i)) tyInt := by
  rintro a b x y F H Q hs ⟨p, rfl, h⟩ rfl q
  obtain ⟨l, e, q⟩ := q.opt
  refine ⟨_, .inl (hs.seq h), ?_⟩
  obtain ⟨v, e2, rv⟩ := atI_prs (H := F) prs_int e
  rw [e2]
  exact q.ok hs v rv
/-- the part of a tuple at a place -/
def CsAt (C : Cs γ) (i : Nat) (T : Ty α) (pr : γ → α) : Prop := ∀ {c vs H}, C.R c vs H → ∃ v, vs[i]? = some v ∧ T.R (pr c) v H
theorem at_last : CsAt (csLast T) 0 T id := fun ⟨v, e, h⟩ => ⟨v, by rw [e]; rfl, h⟩
theorem at_0 {C : Cs γ} : CsAt (csCons T C) 0 T Prod.fst := fun ⟨v, us, e, h, q⟩ => ⟨v, by rw [e]; rfl, h⟩
theorem at_s {C : Cs γ} {i : Nat} {pr : γ → α} {T' : Ty β} (h : CsAt C i T pr) : CsAt (csCons T' C) (i + 1) T (fun c => pr c.2) := fun ⟨v, us, e, _, q⟩ => by
  obtain ⟨w, e2, r⟩ := h q
  exact ⟨w, by rw [e]; exact e2, r⟩
theorem ev_ixT {C : Cs γ} {i : Nat} {pr : γ → α} {r : Mo γ} (ha : CsAt C i T pr) (h : EvF K e E L r (tyTup C)) : EvF K (tOp (mIx K) e (tC (.int i))) E L (r.bind fun c => .ok (pr c)) T := by
  intro σ F H Q hL hs q
  refine h σ F H _ hL hs (q.bind.imp fun c F1 H1 x1 k1 v1 ⟨p, us, ev, hp, hc⟩ => ?_)
  subst ev
  obtain ⟨w, e2, rw'⟩ := ha hc
  refine ⟨us, .inr (.of (x1.2.1 _ _ hp)), ?_⟩
  have e3 : atI us (i : Int) = some w := by
    unfold atI
    rw [ixN_lt (by omega) (by have := (List.getElem?_eq_some_iff.mp e2).1; omega)]
    simpa using e2
  rw [e3]
  exact k1.ok x1.2.1 w rw'
end
end L2

/-! # X: more expressions; what is walked; comprehensions -/
namespace L2
open PySem PySem.Spec PyProof.Rows
section
variable {K : PySem.W.Frag} {E : XK} {α β γ ρ : Type} {F H : Hp} {L : List Sl} {e e1 e2 : TE} {T : Ty α} {r : Mo α}
/-! tests -/
variable {t t1 t2 : TT} {b b1 b2 : Mo Bool}
theorem et_val (h : EvF K e E L b tyBl) : EvT K (mTest e) E L b := by
  intro σ F H Q hL hs q
  refine h σ F H _ hL hs (q.imp fun a F1 H1 x k v hv => ?_)
  cases hv
  exact k
theorem et_not (h : EvT K t E L b) : EvT K (tNot t) E L (b.bind fun c => .ok (!c)) := by
  intro σ F H Q hL hs q
  exact h σ F H _ hL hs (q.bind.imp fun a F1 H1 x k => k.ok x.2.1)
theorem et_and (h1 : EvT K t1 E L b1) (h2 : EvT K t2 E L b2) : EvT K (mAnd t1 t2) E L (b1.bind fun c => if c then b2 else .ok false) := by
  intro σ F H Q hL hs q
  refine h1 σ F H _ hL hs (q.bind.imp fun a F1 H1 x k => ⟨fun c => ?_, fun c => ?_⟩)
  · rw [if_pos c] at k; exact h2 σ F1 H1 _ (hL.mono x.1) x.2.1 k
  · rw [if_neg (by rw [c]; decide)] at k; exact k.ok x.2.1
theorem et_or (h1 : EvT K t1 E L b1) (h2 : EvT K t2 E L b2) : EvT K (mOr t1 t2) E L (b1.bind fun c => if c then .ok true else b2) := by
  intro σ F H Q hL hs q
  refine h1 σ F H _ hL hs (q.bind.imp fun a F1 H1 x k => ⟨fun c => ?_, fun c => ?_⟩)
  · rw [if_pos c] at k; exact k.ok x.2.1
  · rw [if_neg (by rw [c]; decide)] at k; exact h2 σ F1 H1 _ (hL.mono x.1) x.2.1 k
theorem ev_and (h1 : EvF K e1 E L b1 tyBl) (h2 : EvF K e2 E L b2 tyBl) : EvF K (mAndV e1 e2) E L (b1.bind fun c => if c then b2 else .ok false) tyBl := by
  intro σ F H Q hL hs q
  refine h1 σ F H _ hL hs (q.bind.imp fun a F1 H1 x k v hv => ?_)
  cases hv
  refine ⟨fun c => ?_, fun c => ?_⟩
  · rw [if_pos c] at k; exact h2 σ F1 H1 _ (hL.mono x.1) x.2.1 k
  · rw [if_neg (by rw [c]; decide)] at k; exact k.ok x.2.1 _ rfl
theorem ev_or (h1 : EvF K e1 E L b1 tyBl) (h2 : EvF K e2 E L b2 tyBl) : EvF K (mOrV e1 e2) E L (b1.bind fun c => if c then .ok true else b2) tyBl := by
  intro σ F H Q hL hs q
  refine h1 σ F H _ hL hs (q.bind.imp fun a F1 H1 x k v hv => ?_)
  cases hv
  refine ⟨fun c => ?_, fun c => ?_⟩
  · rw [if_pos c] at k; exact k.ok x.2.1 _ rfl
  · rw [if_neg (by rw [c]; decide)] at k; exact h2 σ F1 H1 _ (hL.mono x.1) x.2.1 k
theorem ev_not (h1 : EvF K e1 E L b1 tyBl) : EvF K (mNotV e1) E L (b1.bind fun c => .ok (!c)) tyBl := by
  intro σ F H Q hL hs q
  refine h1 σ F H _ hL hs (q.bind.imp fun a F1 H1 x k v hv => ?_)
  cases hv
  exact k.ok x.2.1 _ rfl
theorem ev_neg {r : Mo Int} (h1 : EvF K e1 E L r tyInt) : EvF K (mNeg e1) E L (r.bind fun c => .ok (-c)) tyInt := by
  intro σ F H Q hL hs q
  refine h1 σ F H _ hL hs (q.bind.imp fun a F1 H1 x k v hv => ?_)
  cases hv
  exact k.ok x.2.1 _ rfl
theorem ev_if {r1 r2 : Mo α} (ht : EvT K t E L b) (h1 : EvF K e1 E L r1 T) (h2 : EvF K e2 E L r2 T) : EvF K (mIf t e1 e2) E L (b.bind fun c => if c then r1 else r2) T := by
  intro σ F H Q hL hs q
  refine ht σ F H _ hL hs (q.bind.imp fun a F1 H1 x k => ⟨fun c => ?_, fun c => ?_⟩)
  · rw [if_pos c] at k; exact h1 σ F1 H1 _ (hL.mono x.1) x.2.1 k
  · rw [if_neg (by rw [c]; decide)] at k; exact h2 σ F1 H1 _ (hL.mono x.1) x.2.1 k
theorem ev_ifO {r1 r2 : Mo α} {O : Own α} (ht : EvT K t E L b) (h1 : EvO K e1 E L r1 O) (h2 : EvO K e2 E L r2 O) : EvO K (mIf t e1 e2) E L (b.bind fun c => if c then r1 else r2) O := by
  intro σ F H Q hL hs q
  refine ht σ F H _ hL hs (q.bind.imp fun a F1 H1 x k => ⟨fun c => ?_, fun c => ?_⟩)
  · rw [if_pos c] at k; exact h1 σ F1 H1 _ (hL.mono x.1) x.2.1 (k.imp fun a F2 H2 y z => z.back x.2.2.1)
  · rw [if_neg (by rw [c]; decide)] at k; exact h2 σ F1 H1 _ (hL.mono x.1) x.2.1 (k.imp fun a F2 H2 y z => z.back x.2.2.1)
/-- a < b < c -/
theorem ev_chain {m m' : R2} {e3 : TE} {T1 : Ty α} {T2 : Ty β} {T3 : Ty γ} {g : α → β → Mo Bool} {g' : β → γ → Mo Bool} {r1 : Mo α} {r2 : Mo β} {r3 : Mo γ} (hop : Op2 K m E T1 T2 g tyBl) (hop' : Op2 K m' E T2 T3 g' tyBl)
    (h1 : EvF K e1 E L r1 T1) (h2 : EvF K e2 E L r2 T2) (h3 : EvF K e3 E L r3 T3) :
    EvF K (mChain m m' e1 e2 e3) E L (r1.bind fun a => r2.bind fun b => (g a b).bind fun c => if c then r3.bind fun d => g' b d else .ok false) tyBl := by
  intro σ F H Q hL hs q
  refine h1 σ F H _ hL hs (q.bind.imp fun a F1 H1 x1 k1 v1 hv1 => ?_)
  refine h2 σ F1 H1 _ (hL.mono x1.1) x1.2.1 (k1.bind.imp fun b F2 H2 x2 k2 v2 hv2 => ?_)
  refine hop a b v1 v2 F2 H2 _ x2.2.1 (T1.mono x2.1 hv1) hv2 (k2.bind.imp fun c F3 H3 x3 k3 v3 hv3 => ?_)
  cases hv3
  refine ⟨fun z => ?_, fun z => ?_⟩
  · rw [if_pos z] at k3
    refine h3 σ F3 H3 _ (hL.mono ((x1.1.trans x2.1).trans x3.1)) x3.2.1 (k3.bind.imp fun d F4 H4 x4 k4 v4 hv4 => ?_)
    exact hop' b d v2 v4 F4 H4 Q x4.2.1 (T2.mono (x3.1.trans x4.1) hv2) hv4 k4
  · rw [if_neg (by rw [z]; decide)] at k3; exact k3.ok x3.2.1 _ rfl
theorem ev_chain3 {m m' m'' : R2} {e3 e4 : TE} {δ : Type} {T1 : Ty α} {T2 : Ty β} {T3 : Ty γ} {T4 : Ty δ} {g : α → β → Mo Bool} {g' : β → γ → Mo Bool} {g'' : γ → δ → Mo Bool} {r1 : Mo α} {r2 : Mo β} {r3 : Mo γ} {r4 : Mo δ}
    (hop : Op2 K m E T1 T2 g tyBl) (hop' : Op2 K m' E T2 T3 g' tyBl) (hop'' : Op2 K m'' E T3 T4 g'' tyBl)
    (h1 : EvF K e1 E L r1 T1) (h2 : EvF K e2 E L r2 T2) (h3 : EvF K e3 E L r3 T3) (h4 : EvF K e4 E L r4 T4) :
    EvF K (mChain3 m m' m'' e1 e2 e3 e4) E L (r1.bind fun a => r2.bind fun b => (g a b).bind fun c => if c then (r3.bind fun d => (g' b d).bind fun c' => if c' then r4.bind fun f => g'' d f else .ok false) else .ok false) tyBl := by
  intro σ F H Q hL hs q
  refine h1 σ F H _ hL hs (q.bind.imp fun a F1 H1 x1 k1 v1 hv1 => ?_)
  refine h2 σ F1 H1 _ (hL.mono x1.1) x1.2.1 (k1.bind.imp fun b F2 H2 x2 k2 v2 hv2 => ?_)
  refine hop a b v1 v2 F2 H2 _ x2.2.1 (T1.mono x2.1 hv1) hv2 (k2.bind.imp fun c F3 H3 x3 k3 v3 hv3 => ?_)
  cases hv3
  refine ⟨fun z => ?_, fun z => ?_⟩
  · rw [if_pos z] at k3
    refine h3 σ F3 H3 _ (hL.mono ((x1.1.trans x2.1).trans x3.1)) x3.2.1 (k3.bind.imp fun d F4 H4 x4 k4 v4 hv4 => ?_)
    refine hop' b d v2 v4 F4 H4 _ x4.2.1 (T2.mono (x3.1.trans x4.1) hv2) hv4 (k4.bind.imp fun c' F5 H5 x5 k5 v5 hv5 => ?_)
    cases hv5
    refine ⟨fun z => ?_, fun z => ?_⟩
    · rw [if_pos z] at k5
      refine h4 σ F5 H5 _ (hL.mono ((((x1.1.trans x2.1).trans x3.1).trans x4.1).trans x5.1)) x5.2.1 (k5.bind.imp fun f F6 H6 x6 k6 v6 hv6 => ?_)
      exact hop'' d f v4 v6 F6 H6 Q x6.2.1 (T3.mono (x5.1.trans x6.1) hv4) hv6 k6
    · rw [if_neg (by rw [z]; decide)] at k5; exact k5.ok x5.2.1 _ rfl
  · rw [if_neg (by rw [z]; decide)] at k3; exact k3.ok x3.2.1 _ rfl
/-! displays -/
theorem After.more {k : α → Hp → Hp → Prop} (h : After K r E F H k) : After K r E F H fun a F1 H1 => ∀ F2 H2, Ext F1 H1 F2 H2 → k a F2 H2 := by
  cases r with
  | ok a => exact fun F1 H1 x F2 H2 y => h F2 H2 (x.trans y)
  | ex c => exact h
  | no => exact h
/-- how many parts -/
def CsN (C : Cs γ) (n : Nat) : Prop := ∀ {c vs H}, C.R c vs H → vs.length = n
theorem csn_nil : CsN csNil 0 := fun e => by rw [e]; rfl
theorem csn_last : CsN (csLast T) 1 := fun ⟨v, e, _⟩ => by rw [e]; rfl
theorem csn_cons {C : Cs γ} {n : Nat} (h : CsN C n) : CsN (csCons T C) (n + 1) := fun ⟨v, us, e, _, q⟩ => by rw [e, List.length_cons, h q]
theorem ev_tup {ta : TA} {C : Cs γ} {r : Mo γ} {n : Nat} (hl : CsN C n) (h : EvA K ta E L r C) (hn : n ≤ 100 := by decide) : EvF K (tTup ta) E L r (tyTup C) := by
  intro σ F H Q hL hs q
  refine h σ F H _ hL hs (q.more.imp fun c F1 H1 x1 k1 vs hvs => ⟨small_n (by rw [hl hvs]; omega), fun p hp => ?_⟩)
  have x := Ext.new (o := .tup vs) x1.2.1 hp
  exact k1 _ _ x _ ⟨p, vs, rfl, upd_same, C.mono x.1 hvs⟩
/-- a list's items -/
def CsL (C : Cs γ) (T : Ty α) (f : γ → List α) : Prop := ∀ {c vs H}, C.R c vs H → Prs T H (f c) vs
theorem csl_nil : CsL csNil T fun _ => [] := fun e => by rw [e]; exact .nil
theorem csl_last : CsL (csLast T) T fun a => [a] := fun ⟨v, e, h⟩ => by rw [e]; exact .cons h .nil
theorem csl_cons {C : Cs γ} {f : γ → List α} (h : CsL C T f) : CsL (csCons T C) T fun c => c.1 :: f c.2 := fun ⟨v, us, e, q, z⟩ => by rw [e]; exact .cons q (h z)
theorem ev_lst {ta : TA} {C : Cs γ} {r : Mo γ} {n : Nat} {f : γ → List α} (hl : CsN C n) (hf : CsL C T f) (h : EvA K ta E L r C) (hn : n ≤ 100 := by decide) : EvO K (tLst ta) E L (r.bind fun c => .ok (f c)) (owL T) := by
  intro σ F H Q hL hs q
  refine h σ F H _ hL hs (q.bind.imp fun c F1 H1 x1 k1 vs hvs => ⟨small_n (by rw [hl hvs]; omega), fun p hp => ?_⟩)
  exact own_upd x1.2.1 hp (hf hvs) (k1.imp fun a F2 H2 x2 k2 => k2.back x1.2.2.1)
theorem ev_lst0 (T : Ty α) : EvO K (tLst tNil) E L (.ok []) (owL T) := by
  intro σ F H Q hL hs q
  exact ⟨Nat.zero_le _, fun p hp => own_upd hs hp (T := T) .nil q⟩
/-! parts of a slice -/
def EvP (K : PySem.W.Frag) (t : TO) (E : XK) (L : List Sl) (r : Mo (Option Int)) : Prop :=
  ∀ σ F H (Q : Option Int → Hp → Prop), HoldF L σ F → Same F H → After K r E F H (fun b _ H' => Q b H') → t σ H Q
theorem ep_no : EvP K tNoPart E L (.ok none) := fun σ F H Q hL hs q => q.ok hs
theorem ep_of {r : Mo Int} (h : EvF K e E L r tyInt) : EvP K (mPart e) E L (r.bind fun i => .ok (some i)) := by
  intro σ F H Q hL hs q
  refine h σ F H _ hL hs (q.bind.imp fun a F1 H1 x k v hv => ?_)
  cases hv
  exact k.ok x.2.1
def cutG (xs : List α) (lo hi : Option Int) : List α := (xs.drop (HT.sIx xs.length 0 lo)).take (HT.sIx xs.length xs.length hi - HT.sIx xs.length 0 lo)
theorem prs_cut {xs : List α} {vs : List V} (q : Prs T H xs vs) (lo hi : Option Int) : Prs T H (cutG xs lo hi) (cutV vs lo hi) := by
  unfold cutG cutV
  rw [← q.len]
  exact (q.drop _).take _
variable {tl th : TO} {rl rh : Mo (Option Int)}
theorem ev_slS {r : Mo (List Nat)} (h : EvF K e E L r tyStr) (hl : EvP K tl E L rl) (hh : EvP K th E L rh) : EvF K (tSl (mSl K) e tl th) E L (r.bind fun l => rl.bind fun a => rh.bind fun b => .lim l.length (.ok (cutG l a b))) tyStr := by
  intro σ F H Q hL hs q
  refine h σ F H _ hL hs (q.bind.imp fun l F1 H1 x1 k1 v hv => ?_)
  refine hl σ F1 H1 _ (hL.mono x1.1) x1.2.1 (k1.bind.imp fun a F2 H2 x2 k2 => ?_)
  refine hh σ F2 H2 _ (hL.mono (x1.1.trans x2.1)) x2.2.1 (k2.bind.imp fun b F3 H3 x3 k3 => ?_)
  cases hv
  obtain ⟨z, k3⟩ := k3.lim
  exact ⟨z, k3.ok x3.2.1 _ rfl⟩
theorem ev_slL {r : Mo (List α)} (h : EvF K e E L r (tyL T)) (hl : EvP K tl E L rl) (hh : EvP K th E L rh) : EvO K (tSl (mSl K) e tl th) E L (r.bind fun l => rl.bind fun a => rh.bind fun b => .ok (cutG l a b)) (owL T) := by
  intro σ F H Q hL hs q
  refine h σ F H _ hL hs (q.bind.imp fun l F1 H1 x1 k1 v hv => ?_)
  refine hl σ F1 H1 _ (hL.mono x1.1) x1.2.1 (k1.bind.imp fun a F2 H2 x2 k2 => ?_)
  refine hh σ F2 H2 _ (hL.mono (x1.1.trans x2.1)) x2.2.1 (k2.bind.imp fun b F3 H3 x3 k3 => ?_)
  obtain ⟨p, vs, rfl, hp, hr⟩ := hv
  have x := x2.1.trans x3.1
  exact ⟨vs, .of (x3.2.1 _ _ (x _ _ hp)), fun q hq => own_upd x3.2.1 hq (prs_cut (hr.mono x) a b) (k3.imp fun _ _ _ _ z => z.back ((x1.2.2.1.trans x2.2.2.1).trans x3.2.2.1))⟩
theorem ev_slSc {r : Mo (List Int)} (h : EvF K e E L r (tySc K)) (hl : EvP K tl E L rl) (hh : EvP K th E L rh) : EvO K (tSl (mSl K) e tl th) E L (r.bind fun l => rl.bind fun a => rh.bind fun b => .ok (cutG l a b)) (owL tyInt) := by
  intro σ F H Q hL hs q
  refine h σ F H _ hL hs (q.bind.imp fun l F1 H1 x1 k1 v hv => ?_)
  refine hl σ F1 H1 _ (hL.mono x1.1) x1.2.1 (k1.bind.imp fun a F2 H2 x2 k2 => ?_)
  refine hh σ F2 H2 _ (hL.mono (x1.1.trans x2.1)) x2.2.1 (k2.bind.imp fun b F3 H3 x3 k3 => ?_)
  obtain ⟨p, rfl, hp⟩ := hv
  have x := x2.1.trans x3.1
  exact ⟨_, x3.2.1.seq (x.seq hp), fun q hq => own_upd x3.2.1 hq (prs_cut prs_int a b) (k3.imp fun _ _ _ _ z => z.back ((x1.2.2.1.trans x2.2.2.1).trans x3.2.2.1))⟩
theorem ev_rev {r : Mo (List α)} (h : EvF K e E L r (tyL T)) (hl : EvP K tl E L (.ok (some (-1)))) : EvO K (tRev K e tl) E L (r.bind fun l => .ok l.reverse) (owL T) := by
  intro σ F H Q hL hs q
  refine h σ F H _ hL hs (q.bind.imp fun l F1 H1 x1 k1 v hv => ?_)
  refine hl σ F1 H1 _ (hL.mono x1.1) x1.2.1 (fun F2 H2 x2 => ?_)
  obtain ⟨p, vs, rfl, hp, hr⟩ := hv
  refine ⟨rfl, vs, .of (x2.2.1 _ _ (x2.1 _ _ hp)), fun q hq => ?_⟩
  refine own_new hq upd_same (x2.2.1.free hq) (hr.mono x2.1).rev (((k1 F2 _ ?_)).back (x1.2.2.1.trans x2.2.2.1))
  exact x2.trans (.heap x2.2.1 (same_new hq _))
/-! equality -/
structure EqT (K : PySem.W.Frag) (T : Ty α) (n : Nat) (q : α → α → Bool) : Prop where
  eq : ∀ {a b x y H}, T.R a x H → T.R b y H → EqD K H n x y (q a b)
theorem eqt_int : EqT K tyInt 0 (fun a b => decide (a = b)) := ⟨by
  rintro a b x y H rfl rfl
  have : eqV (.int a) (.int b) = decide (a = b) := by unfold eqV; exact rfl
  rw [← this]; exact .flat rfl rfl⟩
theorem eqt_bl : EqT K tyBl 0 (fun a b => decide (a = b)) := ⟨by
  rintro a b x y H rfl rfl
  have : eqV (.bl a) (.bl b) = decide (a = b) := by cases a <;> cases b <;> rfl
  rw [← this]; exact .flat rfl rfl⟩
theorem eqt_str : EqT K tyStr 0 (fun a b => decide (a = b)) := ⟨by
  rintro a b x y H rfl rfl
  have : eqV (tx a) (tx b) = decide (a = b) := by
    unfold eqV
    rw [Bool.eq_iff_iff, decide_eq_true_iff]
    constructor
    · intro h
      have h := eq_of_beq h
      injection h with h
      have := congrArg Array.toList h
      simpa using this
    · rintro rfl; exact beq_self_eq_true _
  rw [← this]; exact .flat rfl rfl⟩
theorem eqt_non : EqT K tyNon 0 (fun _ _ => true) := ⟨by
  rintro a b x y H rfl rfl
  exact .flat (x := .non) (y := .non) rfl rfl⟩
def eqL (q : α → α → Bool) : List α → List α → Bool
  | [], [] => true
  | x :: xs, y :: ys => q x y && eqL q xs ys
  | _, _ => false
theorem eqL_len {q : α → α → Bool} : ∀ {xs ys : List α}, xs.length ≠ ys.length → eqL q xs ys = false
  | [], [], h => absurd rfl h
  | [], _ :: _, _ => rfl
  | _ :: _, [], _ => rfl
  | x :: xs, y :: ys, h => by unfold eqL; rw [eqL_len (by simpa using h), Bool.and_false]
theorem eqL_all {q : α → α → Bool} : ∀ {xs ys : List α}, xs.length = ys.length → eqL q xs ys = (List.range xs.length).all fun i => match xs[i]?, ys[i]? with | some x, some y => q x y | _, _ => true
  | [], [], _ => rfl
  | x :: xs, y :: ys, h => by
    unfold eqL
    rw [List.length_cons, List.range_succ_eq_map, List.all_cons, List.all_map, eqL_all (by simpa using h)]
    rfl
theorem eqL_dec {q : α → α → Bool} [DecidableEq α] (hq : ∀ a b, q a b = decide (a = b)) : ∀ xs ys : List α, eqL q xs ys = decide (xs = ys)
  | [], [] => rfl
  | [], _ :: _ => rfl
  | _ :: _, [] => rfl
  | x :: xs, y :: ys => by unfold eqL; rw [hq, eqL_dec hq]; simp
theorem eqt_l {n : Nat} {q : α → α → Bool} (h : EqT K T n q) : EqT K (tyL T) (n + 1) (eqL q) := ⟨by
  rintro a b x y H ⟨p, vs, rfl, hp, hr⟩ ⟨p2, us, rfl, hp2, hr2⟩
  by_cases hl : a.length = b.length
  · rw [eqL_all hl, hr.len]
    refine .lst _ (.of hp) (.of hp2) (by rw [← hr.len, ← hr2.len, hl]) fun i x y hx hy => ?_
    rcases hr.get i with ⟨_, z⟩ | ⟨x1, v1, e1, e2, r1⟩
    · rw [z] at hx; cases hx
    rcases hr2.get i with ⟨_, z⟩ | ⟨x2, v2, e3, e4, r2⟩
    · rw [z] at hy; cases hy
    rw [e2] at hx; cases hx
    rw [e4] at hy; cases hy
    simp only [e1, e3]
    exact h.eq r1 r2
  · rw [eqL_len hl]
    exact .lstN (.of hp) (.of hp2) (by rw [← hr.len, ← hr2.len]; exact hl)⟩
structure EqC (K : PySem.W.Frag) (C : Cs γ) (n m : Nat) (q : γ → γ → Bool) : Prop where
  eq : ∀ {a b xs ys H}, C.R a xs H → C.R b ys H → xs.length = m ∧ ys.length = m ∧ ∃ e : Nat → Bool, (∀ i x y, xs[i]? = some x → ys[i]? = some y → EqD K H n x y (e i)) ∧ (List.range m).all e = q a b
theorem EqD.le {H : Hp} {n m : Nat} {x y : V} {b : Bool} (h : EqD K H n x y b) (g : n ≤ m) : EqD K H m x y b := by
  induction g with
  | refl => exact h
  | step _ ih => exact .up ih
theorem eqc_last {n : Nat} {q : α → α → Bool} (h : EqT K T n q) : EqC K (csLast T) n 1 q := ⟨by
  rintro a b xs ys H ⟨v, rfl, hv⟩ ⟨u, rfl, hu⟩
  refine ⟨rfl, rfl, fun _ => q a b, fun i x y hx hy => ?_, by simp [List.range_succ]⟩
  cases i with
  | zero => cases hx; cases hy; exact h.eq hv hu
  | succ i => cases hx⟩
theorem eqc_cons {C : Cs γ} {n m k : Nat} {q : α → α → Bool} {q' : γ → γ → Bool} (h : EqT K T n q) (h' : EqC K C k m q') : EqC K (csCons T C) (max n k) (m + 1) (fun a b => q a.1 b.1 && q' a.2 b.2) := ⟨by
  rintro a b xs ys H ⟨v, us, rfl, hv, hc⟩ ⟨u, ws, rfl, hu, hc'⟩
  obtain ⟨l1, l2, e, he, ea⟩ := h'.eq hc hc'
  refine ⟨by rw [List.length_cons, l1], by rw [List.length_cons, l2], fun i => match i with | 0 => q a.1 b.1 | j + 1 => e j, fun i x y hx hy => ?_, ?_⟩
  · cases i with
    | zero => cases hx; cases hy; exact (h.eq hv hu).le (Nat.le_max_left _ _)
    | succ i => exact (he i x y (by simpa using hx) (by simpa using hy)).le (Nat.le_max_right _ _)
  · rw [List.range_succ_eq_map, List.all_cons, List.all_map, ← ea]; rfl⟩
theorem eqt_tup {C : Cs γ} {n m : Nat} {q : γ → γ → Bool} (h : EqC K C n m q) : EqT K (tyTup C) (n + 1) q := ⟨by
  rintro a b x y H ⟨p, us, rfl, hp, hc⟩ ⟨p2, ws, rfl, hp2, hc2⟩
  obtain ⟨l1, l2, e, he, ea⟩ := h.eq hc hc2
  have := EqD.tup e (.of hp) (.of hp2) he (K := K)
  rw [l1, l2, Nat.min_self, ea, beq_self_eq_true, Bool.and_true] at this
  exact this⟩
theorem op_eqR {n : Nat} {q : α → α → Bool} (h : EqT K T n q) (hn : n ≤ 50 := by decide) (hr : ∀ {a x H}, T.R a x H → ∃ p, x = .ref p) : Op2 K (mEqK K) E T T (fun a b => .ok (q a b)) tyBl := by
  intro a b x y F H Q hs hx hy k
  have hd := h.eq (T.mono hs hx) (T.mono hs hy)
  obtain ⟨p, rfl⟩ := hr hx
  obtain ⟨p2, rfl⟩ := hr hy
  exact ⟨n, _, hn, hd, k.ok hs _ rfl⟩
theorem op_neR {n : Nat} {q : α → α → Bool} (h : EqT K T n q) (hn : n ≤ 50 := by decide) (hr : ∀ {a x H}, T.R a x H → ∃ p, x = .ref p) : Op2 K (mNeK K) E T T (fun a b => .ok (!(q a b))) tyBl := by
  intro a b x y F H Q hs hx hy k
  have hd := h.eq (T.mono hs hx) (T.mono hs hy)
  obtain ⟨p, rfl⟩ := hr hx
  obtain ⟨p2, rfl⟩ := hr hy
  exact ⟨n, _, hn, hd, k.ok hs _ rfl⟩
theorem ref_l {a : List α} {x : V} {H : Hp} (h : (tyL T).R a x H) : ∃ p, x = .ref p := by obtain ⟨p, _, e, _⟩ := h; exact ⟨p, e⟩
theorem ref_tup {C : Cs γ} {a : γ} {x : V} {H : Hp} (h : (tyTup C).R a x H) : ∃ p, x = .ref p := by obtain ⟨p, _, e, _⟩ := h; exact ⟨p, e⟩
theorem op_eqL {n : Nat} {q : α → α → Bool} (h : EqT K (tyL T) n (eqL q)) (hn : n ≤ 50 := by decide) : Op2 K (mEqK K) E (tyL T) (tyL T) (fun a b => .ok (eqL q a b)) tyBl := op_eqR h hn ref_l
theorem op_neL {n : Nat} {q : α → α → Bool} (h : EqT K (tyL T) n (eqL q)) (hn : n ≤ 50 := by decide) : Op2 K (mNeK K) E (tyL T) (tyL T) (fun a b => .ok (!(eqL q a b))) tyBl := op_neR h hn ref_l
theorem op_eqT {C : Cs γ} {n : Nat} {q : γ → γ → Bool} (h : EqT K (tyTup C) n q) (hn : n ≤ 50 := by decide) : Op2 K (mEqK K) E (tyTup C) (tyTup C) (fun a b => .ok (q a b)) tyBl := op_eqR h hn ref_tup
theorem op_neT {C : Cs γ} {n : Nat} {q : γ → γ → Bool} (h : EqT K (tyTup C) n q) (hn : n ≤ 50 := by decide) : Op2 K (mNeK K) E (tyTup C) (tyTup C) (fun a b => .ok (!(q a b))) tyBl := op_neR h hn ref_tup
theorem op_eqI : Op2 K (mEqK K) E tyInt tyInt (fun a b => .ok (decide (a = b))) tyBl := by
  rintro a b x y F H Q hs rfl rfl k
  exact k.ok hs _ rfl
theorem op_neI : Op2 K (mNeK K) E tyInt tyInt (fun a b => .ok (!decide (a = b))) tyBl := by
  rintro a b x y F H Q hs rfl rfl k
  exact k.ok hs _ rfl
theorem op_eqB : Op2 K (mEqK K) E tyBl tyBl (fun a b => .ok (decide (a = b))) tyBl := by
  rintro a b x y F H Q hs rfl rfl k
  exact k.ok hs _ rfl
theorem op_neB : Op2 K (mNeK K) E tyBl tyBl (fun a b => .ok (!decide (a = b))) tyBl := by
  rintro a b x y F H Q hs rfl rfl k
  exact k.ok hs _ rfl
theorem op_eqS : Op2 K (mEqK K) E tyStr tyStr (fun a b => .ok (decide (a = b))) tyBl := by
  rintro a b x y F H Q hs rfl rfl k
  exact k.ok hs _ rfl
theorem op_neS : Op2 K (mNeK K) E tyStr tyStr (fun a b => .ok (!decide (a = b))) tyBl := by
  rintro a b x y F H Q hs rfl rfl k
  exact k.ok hs _ rfl
/-! None -/
theorem op_isNo : Op2 K mIs E (tyOpt T) tyNon (fun a _ => .ok a.isNone) tyBl := by
  rintro a b x y F H Q hs hx rfl k
  have : decide (x = .non) = a.isNone := by
    cases a with
    | none => cases hx; rfl
    | some a => exact decide_eq_false hx.2
  show (match mIsB x .non with | some b => Q (.bl b) H | none => False)
  have e : mIsB x .non = some (decide (x = .non)) := rfl
  rw [e, this]
  exact k.ok hs _ rfl
theorem op_isNoN : Op2 K mIsNot E (tyOpt T) tyNon (fun a _ => .ok a.isSome) tyBl := by
  rintro a b x y F H Q hs hx rfl k
  have : (!decide (x = .non)) = a.isSome := by
    cases a with
    | none => cases hx; rfl
    | some a => rw [decide_eq_false hx.2]; rfl
  show (match mIsB x .non with | some b => Q (.bl (!b)) H | none => False)
  have e : mIsB x .non = some (decide (x = .non)) := rfl
  rw [e]
  show Q (.bl (!decide (x = .non))) H
  rw [this]
  exact k.ok hs _ rfl
/-! in -/
theorem op_inS : Op2 K (mIn K false) E tyStr tyStr (fun a b => .ok (inS a b)) tyBl := by
  rintro a b x y F H Q hs rfl rfl k
  exact k.ok hs _ rfl
theorem op_ninS : Op2 K (mIn K true) E tyStr tyStr (fun a b => .ok (!inS a b)) tyBl := by
  rintro a b x y F H Q hs rfl rfl k
  exact k.ok hs _ rfl
/-- a flat kind -/
structure Flt (T : Ty α) (q : α → α → Bool) : Prop where
  flat : ∀ {a x H}, T.R a x H → flatV x = true
  eq : ∀ {a b x y H}, T.R a x H → T.R b y H → eqV x y = q a b
theorem flt_int : Flt tyInt (fun a b => decide (a = b)) := ⟨fun h => by cases h; rfl, fun h h' => by cases h; cases h'; unfold eqV; exact rfl⟩
theorem flt_str : Flt tyStr (fun a b => decide (a = b)) := ⟨fun h => by cases h; rfl, fun {a b x y H} h h' => by
  cases h; cases h'
  unfold eqV
  rw [Bool.eq_iff_iff, decide_eq_true_iff]
  constructor
  · intro h
    have h := eq_of_beq h
    injection h with h
    simpa using congrArg Array.toList h
  · rintro rfl; exact beq_self_eq_true _⟩
theorem inV_prs {q : α → α → Bool} (f : Flt T q) {H : Hp} {a : α} {x : V} (ha : T.R a x H) {xs : List α} {vs : List V} (r : Prs T H xs vs) : vs.all flatV = true ∧ inV x vs = xs.any fun y => q y a := by
  induction r with
  | nil => exact ⟨rfl, rfl⟩
  | cons r t ih =>
    refine ⟨by rw [List.all_cons, f.flat r, ih.1]; rfl, ?_⟩
    unfold inV at ih ⊢
    rw [List.any_cons, List.any_cons, f.eq r ha, ih.2]
theorem op_inL {q : α → α → Bool} (f : Flt T q) : Op2 K (mIn K false) E T (tyL T) (fun a b => .ok (b.any fun y => q y a)) tyBl := by
  rintro a b x y F H Q hs hx ⟨p, vs, rfl, hp, hr⟩ k
  obtain ⟨h1, h2⟩ := inV_prs f hx hr
  refine ⟨vs, .inl (.of (hs _ _ hp)), f.flat hx, h1, ?_⟩
  rw [h2]
  exact k.ok hs _ rfl
theorem op_ninL {q : α → α → Bool} (f : Flt T q) : Op2 K (mIn K true) E T (tyL T) (fun a b => .ok (!(b.any fun y => q y a))) tyBl := by
  rintro a b x y F H Q hs hx ⟨p, vs, rfl, hp, hr⟩ k
  obtain ⟨h1, h2⟩ := inV_prs f hx hr
  refine ⟨vs, .inl (.of (hs _ _ hp)), f.flat hx, h1, ?_⟩
  rw [h2]
  exact k.ok hs _ rfl
/-! isinstance -/
def TyN (K : PySem.W.Frag) (T : Ty α) (n : String) : Prop := ∀ {a x H}, T.R a x H → tyS K H x n
theorem tn_int : TyN K tyInt "int" := fun h => by cases h; rfl
theorem tn_bl : TyN K tyBl "bool" := fun h => by cases h; rfl
theorem tn_str : TyN K tyStr "str" := fun h => by cases h; rfl
theorem tn_non : TyN K tyNon "NoneType" := fun h => by cases h; rfl
theorem tn_l : TyN K (tyL T) "list" := fun ⟨p, vs, e, h, _⟩ => by subst e; exact .inl ⟨rfl, vs, h⟩
theorem tn_tup {C : Cs γ} : TyN K (tyTup C) "tuple" := fun ⟨p, vs, e, h, _⟩ => by subst e; exact .inr ⟨rfl, vs, h⟩
theorem isa_any {x : V} {n c : String} {bb : Bool} {Q : VK} (h : tyS K H x n) (hb : isaB n c = some bb) (q : Q (.bl bb) H) : mIsa K [x, .ty c] H Q := by
  cases x with
  | non => cases (show n = _ from h); show (match isaB "NoneType" c with | some b => Q (.bl b) H | none => False); rw [hb]; exact q
  | bl _ => cases (show n = _ from h); show (match isaB "bool" c with | some b => Q (.bl b) H | none => False); rw [hb]; exact q
  | int _ => cases (show n = _ from h); show (match isaB "int" c with | some b => Q (.bl b) H | none => False); rw [hb]; exact q
  | str _ => cases (show n = _ from h); show (match isaB "str" c with | some b => Q (.bl b) H | none => False); rw [hb]; exact q
  | ref p => exact ⟨n, h, by rw [hb]; exact q⟩
  | _ => exact h.elim
theorem ev_isa {n c : String} {bb : Bool} (hn : TyN K T n) (h : EvF K e E L r T) (hb : isaB n c = some bb := by decide) : EvF K (tCB (mIsa K) (tCons e (tCons (tC (.ty c)) tNil))) E L (r.bind fun _ => .ok bb) tyBl := by
  intro σ F H Q hL hs q
  refine h σ F H _ hL hs (q.bind.imp fun l F1 H1 x1 k1 v hv => ?_)
  exact isa_any (hn (T.mono x1.2.1 hv)) hb (k1.ok x1.2.1 _ rfl)
/-! methods of texts -/
def Me (K : PySem.W.Frag) (m : V → List V → Hp → VK → Prop) (E : XK) (C : Cs γ) (g : List Nat → γ → Mo α) (T : Ty α) : Prop :=
  ∀ l c vs F H (Q : VK), Same F H → C.R c vs F → After K (g l c) E F H (fun c F' H' => ∀ v, T.R c v F' → Q v H') → m (tx l) vs H Q
def MeO (K : PySem.W.Frag) (m : V → List V → Hp → VK → Prop) (E : XK) (C : Cs γ) (g : List Nat → γ → Mo α) (O : Own α) : Prop :=
  ∀ l c vs F H (Q : VK), Same F H → C.R c vs F → After K (g l c) E F H (OwnK O H Q) → m (tx l) vs H Q
theorem ev_me {m : V → List V → Hp → VK → Prop} {C : Cs γ} {g : List Nat → γ → Mo α} {ta : TA} {r0 : Mo (List Nat)} {r : Mo γ} (hb : Me K m E C g T) (h0 : EvF K e E L r0 tyStr) (h : EvA K ta E L r C) : EvF K (tBM K "str" m e ta) E L (r0.bind fun l => r.bind fun c => g l c) T := by
  intro σ F H Q hL hs q
  refine h0 σ F H _ hL hs (q.bind.imp fun l F1 H1 x1 k1 v hv => ?_)
  cases hv
  refine ⟨rfl, h σ F1 H1 _ (hL.mono x1.1) x1.2.1 (k1.bind.imp fun c F2 H2 x2 k2 vs hvs => hb l c vs F2 H2 Q x2.2.1 hvs k2)⟩
theorem ev_meO {m : V → List V → Hp → VK → Prop} {C : Cs γ} {g : List Nat → γ → Mo α} {O : Own α} {ta : TA} {r0 : Mo (List Nat)} {r : Mo γ} (hb : MeO K m E C g O) (h0 : EvF K e E L r0 tyStr) (h : EvA K ta E L r C) : EvO K (tBM K "str" m e ta) E L (r0.bind fun l => r.bind fun c => g l c) O := by
  intro σ F H Q hL hs q
  refine h0 σ F H _ hL hs (q.bind.imp fun l F1 H1 x1 k1 v hv => ?_)
  cases hv
  refine ⟨rfl, h σ F1 H1 _ (hL.mono x1.1) x1.2.1 (k1.bind.imp fun c F2 H2 x2 k2 vs hvs => hb l c vs F2 H2 Q x2.2.1 hvs (k2.imp fun _ _ _ _ z => z.back (x1.2.2.1.trans x2.2.2.1)))⟩
theorem me_find : Me K mFind E (csLast tyStr) (fun l c => .ok (findS l c)) tyInt := by
  rintro l c vs F H Q hs ⟨v, rfl, rfl⟩ k
  exact k.ok hs _ rfl
theorem me_index : Me K mIndex E (csLast tyStr) (fun l c => .grd (findS l c ≠ -1) (.ok (findS l c))) tyInt := by
  rintro l c vs F H Q hs ⟨v, rfl, rfl⟩ k
  obtain ⟨z, k⟩ := k.grd
  exact ⟨z, k.ok hs _ rfl⟩
def zfL (l : List Nat) (i : Int) : List Nat := (Txt.zfill ⟨l.toArray⟩ i).cps.toList
def ljL (l : List Nat) (i : Int) : List Nat := (Txt.ljust ⟨l.toArray⟩ i).cps.toList
theorem me_zfill : Me K mZfill E (csLast tyInt) (fun l i => .grd (PadOk i = true) (.ok (zfL l i))) tyStr := by
  rintro l c vs F H Q hs ⟨v, rfl, rfl⟩ k
  obtain ⟨z, k⟩ := k.grd
  exact ⟨z, k.ok hs _ rfl⟩
theorem me_ljust : Me K mLjust E (csLast tyInt) (fun l i => .grd (PadOk i = true) (.ok (ljL l i))) tyStr := by
  rintro l c vs F H Q hs ⟨v, rfl, rfl⟩ k
  obtain ⟨z, k⟩ := k.grd
  exact ⟨z, k.ok hs _ rfl⟩
end
end L2

/-! # Y: what is walked, comprehensions, statements -/
namespace L2
open PySem PySem.Spec PyProof.Rows
section
variable {K : PySem.W.Frag} {E : XK} {α β γ ρ S S' B : Type} {F H : Hp} {L : List Sl} {e e1 e2 : TE} {T : Ty α} {r : Mo α}
/-! ### targets -/
def setL (L : List Sl) (ss : List (Nat × Sl)) : List Sl := ss.foldl (fun L q => L.set q.1 q.2) L
def setS (σ : St) (ss : List (Nat × Option V)) : St := ss.foldl (fun L q => L.set q.1 q.2) σ
/-- plain slots with their values -/
inductive Plain (F : Hp) : List (Nat × Sl) → List (Nat × Option V) → Prop
  | nil : Plain F [] []
  | cons {α : Type} {T : Ty α} {a : α} {i : Nat} {v : V} {ss vs} (h : T.R a v F) (t : Plain F ss vs) : Plain F ((i, .fz T a) :: ss) ((i, some v) :: vs)
def TgR (K : PySem.W.Frag) (g : TG) (T : Ty α) (ss : α → List (Nat × Sl)) : Prop :=
  ∀ a v σ F H (Q : St → Hp → Prop), Same F H → T.R a v F → (∀ vs, Plain F (ss a) vs → Q (setS σ vs) H) → g v σ H Q
theorem tg_name (i : Nat) : TgR K (gName i) T fun a => [(i, .fz T a)] := by
  intro a v σ F H Q hs hv q
  exact q [(i, some v)] (.cons hv .nil)
def TgC (K : PySem.W.Frag) (g : TGs) (C : Cs γ) (ss : γ → List (Nat × Sl)) : Prop :=
  ∀ a vs σ F H (Q : St → Hp → Prop), Same F H → C.R a vs F → (∀ us, Plain F (ss a) us → Q (setS σ us) H) → g vs σ H Q
theorem tc_last {g : TG} {ss : α → List (Nat × Sl)} (h : TgR K g T ss) : TgC K (gConsM g gNilM) (csLast T) ss := by
  rintro a vs σ F H Q hs ⟨v, rfl, hv⟩ q
  exact h a v σ F H _ hs hv fun us hu => q us hu
theorem tc_cons (i : Nat) {g : TGs} {C : Cs γ} {ss : γ → List (Nat × Sl)} (h : TgC K g C ss) : TgC K (gConsM (gName i) g) (csCons T C) fun c => (i, .fz T c.1) :: ss c.2 := by
  rintro a vs σ F H Q hs ⟨v, us, rfl, hv, hc⟩ q
  exact h a.2 us _ F H _ hs hc fun ws hw => q ((i, some v) :: ws) (.cons hv hw)
theorem tg_tup {n : Nat} {g : TGs} {C : Cs γ} {ss : γ → List (Nat × Sl)} (hn : CsN C n) (h : TgC K g C ss) : TgR K (gTupM K n g) (tyTup C) ss := by
  rintro a v σ F H Q hs ⟨p, us, rfl, hp, hc⟩ q
  exact ⟨us, .of (hs _ _ hp), hn hc, h a us σ F H Q hs hc q⟩
theorem getj_set {σ : St} {i j : Nat} {o : Option V} (h : i < σ.length) : ((σ.set i o)[j]?).join = if i = j then o else (σ[j]?).join := by
  rw [List.getElem?_set]
  split
  · rename_i e; subst e; first | rfl | (rw [if_pos h]; rfl)
  · rfl
theorem holdF_set {σ : St} {i : Nat} {s : Sl} {o : Option V} (hl : L.length = σ.length) (h : HoldF L σ F) (hs : s.Z o F) : HoldF (L.set i s) (σ.set i o) F := by
  intro j t e
  rw [List.getElem?_set] at e
  split at e
  · rename_i z; subst z
    split at e
    · rename_i y; cases e
      rw [getj_set (by rw [← hl]; exact y), if_pos rfl]; exact hs
    · cases e
  · rename_i z
    by_cases y : i < σ.length
    · rw [getj_set y, if_neg z]; exact h j t e
    · rw [List.set_eq_of_length_le (by omega)]; exact h j t e
theorem holdF_plain {ss : List (Nat × Sl)} {vs : List (Nat × Option V)} (p : Plain F ss vs) : ∀ {L : List Sl} {σ : St}, L.length = σ.length → HoldF L σ F → HoldF (setL L ss) (setS σ vs) F ∧ (setS σ vs).length = σ.length ∧ (setL L ss).length = L.length := by
  induction p with
  | nil => exact fun hl h => ⟨h, rfl, rfl⟩
  | cons hv t ih =>
    rename_i T a i v ss vs
    intro L σ hl h
    obtain ⟨a1, b, c⟩ := ih (L := L.set i (.fz T a)) (σ := σ.set i (some v)) (by rw [List.length_set, List.length_set]; exact hl) (holdF_set (s := .fz T a) hl h ⟨v, rfl, hv⟩)
    exact ⟨a1, b.trans (by rw [List.length_set]), c.trans (by rw [List.length_set])⟩
/-- dead slots may hold anything -/
def DeadAt (L : List Sl) (is : List Nat) : Prop := ∀ i ∈ is, ∀ s, L[i]? = some s → s = .dead
theorem holdF_dead {ss : List (Nat × Sl)} {vs : List (Nat × Option V)} (p : Plain F ss vs) : ∀ {L : List Sl} {σ : St}, L.length = σ.length → DeadAt L (ss.map (·.1)) → HoldF L σ F → HoldF L (setS σ vs) F := by
  induction p with
  | nil => exact fun hl d h => h
  | cons hv t ih =>
    rename_i i v ss vs
    intro L σ hl d h
    refine ih (σ := σ.set i (some v)) (by rw [List.length_set]; exact hl) (fun j hj => d j (List.mem_cons_of_mem _ hj)) fun j s e => ?_
    by_cases y : i < σ.length
    · rw [getj_set y]
      split
      · rename_i z; subst z
        rw [d i List.mem_cons_self s e]; trivial
      · exact h j s e
    · rw [List.set_eq_of_length_le (by omega)]; exact h j s e
theorem setS_get {ss : List (Nat × Sl)} {vs : List (Nat × Option V)} (p : Plain F ss vs) {j : Nat} : ∀ {σ : St}, j ∉ ss.map (·.1) → (setS σ vs)[j]? = σ[j]? := by
  induction p with
  | nil => exact fun _ => rfl
  | cons hv t ih =>
    rename_i i v ss vs
    intro σ hj
    have h1 : i ≠ j := fun z => hj (by rw [← z]; exact List.mem_cons_self)
    have h2 := ih (σ := σ.set i (some v)) fun z => hj (List.mem_cons_of_mem _ z)
    exact h2.trans (List.getElem?_set_ne h1)
/-! ### what is walked -/
structure Yl (K : PySem.W.Frag) (J : It) (xs : List α) (T : Ty α) (F1 : Hp) : Prop where
  go : ∀ i H x, Same F1 H → xs[i]? = some x → J.go i H ∧ ∀ v H', J.yld i H v H' → ∀ F, Same F1 F → Same F H → ∃ F', Ext F H F' H' ∧ T.R x v F'
  stop : ∀ H, Same F1 H → J.stop xs.length H
def EvI (K : PySem.W.Frag) (wi : TI) (E : XK) (L : List Sl) (r : Mo (List α)) (T : Ty α) : Prop :=
  ∀ σ F H (R : It → Hp → Prop), HoldF L σ F → Same F H → After K r E F H (fun xs F' H' => ∀ J, Yl K J xs T F' → R J H') → wi σ H R
theorem ei_str {r : Mo (List Nat)} (h : EvF K e E L r tyStr) : EvI K (iAny K e) E L (r.bind fun l => .ok (l.map fun c => [c])) tyStr := by
  intro σ F H R hL hs q
  refine h σ F H _ hL hs (q.bind.imp fun l F1 H1 x1 k1 v hv => ?_)
  cases hv
  refine k1.ok x1.2.1 _ ⟨fun i H x hH hx => ?_, fun H hH => ?_⟩
  · rw [List.getElem?_map] at hx
    cases e : l[i]? with
    | none => rw [e] at hx; cases hx
    | some c =>
      rw [e] at hx; cases hx
      have hi := (List.getElem?_eq_some_iff.mp e).1
      refine ⟨hi, ?_⟩
      rintro v H' ⟨rfl, rfl⟩ F _ hF
      refine ⟨F, .refl hF, ?_⟩
      show tx [l.getD i 0] = tx [c]
      rw [List.getD_eq_getElem?_getD, e]; rfl
  · show l.length ≤ (l.map fun c => [c]).length
    rw [List.length_map]; exact Nat.le_refl _
theorem ei_l {r : Mo (List α)} (h : EvF K e E L r (tyL T)) : EvI K (iAny K e) E L r T := by
  intro σ F H R hL hs q
  refine h σ F H _ hL hs (q.imp fun l F1 H1 x1 k1 v hv => ?_)
  obtain ⟨p, vs, rfl, hp, hr⟩ := hv
  refine .inl ⟨⟨vs, .of (x1.2.1 _ _ hp)⟩, k1 _ ⟨fun i H x hH hx => ?_, fun H hH => ⟨vs, .of (hH _ _ hp), by rw [hr.len]; exact Nat.le_refl _⟩⟩⟩
  rcases hr.get i with ⟨a, _⟩ | ⟨y, u, a, b, c⟩
  · rw [a] at hx; cases hx
  · rw [a] at hx; cases hx
    refine ⟨⟨vs, u, .of (hH _ _ hp), b⟩, ?_⟩
    rintro v H' ⟨rfl, z⟩ F hF hF'
    have e := z vs (.of (hH _ _ hp))
    rw [b] at e; cases e
    exact ⟨F, .refl hF', T.mono hF c⟩
def rngI (lo : Int) (n : Nat) : List Int := (List.range n).map fun (i : Nat) => lo + i
theorem yl_rng {lo : Int} {n : Nat} {F1 : Hp} : Yl K (Itr lo n) (rngI lo n) tyInt F1 := by
  refine ⟨fun i H x hH hx => ?_, fun H hH => ?_⟩
  · unfold rngI at hx
    rw [List.getElem?_map] at hx
    cases e : (List.range n)[i]? with
    | none => rw [e] at hx; cases hx
    | some c =>
      rw [e] at hx; cases hx
      obtain ⟨hi, e⟩ := List.getElem?_eq_some_iff.mp e
      rw [List.getElem_range] at e; subst e
      rw [List.length_range] at hi
      refine ⟨hi, ?_⟩
      rintro v H' ⟨rfl, rfl⟩ F _ hF
      exact ⟨F, .refl hF, rfl⟩
  · show n ≤ _
    unfold rngI; rw [List.length_map, List.length_range]; exact Nat.le_refl _
theorem ei_rng1 {r : Mo Int} {ta : TA} (h : EvA K ta E L r (csLast tyInt)) : EvI K (mRng1 ta) E L (r.bind fun j => .grd (-(2 ^ 62) ≤ j ∧ j < 2 ^ 62) (.ok (rngI 0 j.toNat))) tyInt := by
  intro σ F H R hL hs q
  refine h σ F H _ hL hs (q.bind.imp fun l F1 H1 x1 k1 v hv => ?_)
  obtain ⟨u, rfl, rfl⟩ := hv
  obtain ⟨z, k1⟩ := k1.grd
  exact ⟨z.1, z.2, k1.ok x1.2.1 _ yl_rng⟩
theorem ei_rng2 {r : Mo (Int × Int)} {ta : TA} (h : EvA K ta E L r (csCons tyInt (csLast tyInt))) : EvI K (mRng2 ta) E L (r.bind fun c => .grd (-(2 ^ 62) ≤ c.1 ∧ c.1 < 2 ^ 62 ∧ -(2 ^ 62) ≤ c.2 ∧ c.2 < 2 ^ 62) (.ok (rngI c.1 (c.2 - c.1).toNat))) tyInt := by
  intro σ F H R hL hs q
  refine h σ F H _ hL hs (q.bind.imp fun l F1 H1 x1 k1 v hv => ?_)
  obtain ⟨u, us, rfl, rfl, w, rfl, rfl⟩ := hv
  obtain ⟨z, k1⟩ := k1.grd
  exact ⟨z, k1.ok x1.2.1 _ yl_rng⟩
def enumL (xs : List α) : List (Int × α) := (List.range xs.length).zip xs |>.map fun q => ((q.1 : Int), q.2)
theorem enumL_get (xs : List α) (i : Nat) : (enumL xs)[i]? = (xs[i]?).map fun x => ((i : Int), x) := by
  unfold enumL
  rw [List.getElem?_map]
  cases e : xs[i]? with
  | none =>
    have := List.getElem?_eq_none_iff.mp e
    rw [List.getElem?_eq_none (by rw [List.length_zip, List.length_range]; omega)]; rfl
  | some x =>
    have hi := (List.getElem?_eq_some_iff.mp e).1
    have : ((List.range xs.length).zip xs)[i]? = some (i, x) := List.getElem?_zip_eq_some.mpr ⟨by rw [List.getElem?_range hi], e⟩
    rw [this]; rfl
theorem enumL_len (xs : List α) : (enumL xs).length = xs.length := by unfold enumL; rw [List.length_map, List.length_zip, List.length_range, Nat.min_self]
theorem ei_enum {r : Mo (List α)} {ta : TA} (h : EvA K ta E L r (csLast (tyL T))) : EvI K (iEnum K ta) E L (r.bind fun l => .ok (enumL l)) (tyTup (csCons tyInt (csLast T))) := by
  intro σ F H R hL hs q
  refine h σ F H _ hL hs (q.bind.imp fun l F1 H1 x1 k1 vs hv => ?_)
  obtain ⟨v, rfl, p, us, rfl, hp, hr⟩ := hv
  refine ⟨⟨us, .of (x1.2.1 _ _ hp)⟩, k1.ok x1.2.1 _ ⟨fun i H x hH hx => ?_, fun H hH => ?_⟩⟩
  · rw [enumL_get] at hx
    rcases hr.get i with ⟨a, _⟩ | ⟨y, u, a, b, c⟩
    · rw [a] at hx; cases hx
    · rw [a] at hx; cases hx
      refine ⟨⟨us, u, .of (hH _ _ hp), b⟩, ?_⟩
      rintro v H' ⟨p2, w, z, hp2, rfl, rfl⟩ F hF hF'
      have e := z us (.of (hH _ _ hp))
      rw [b] at e; cases e
      have x := Ext.new (o := .tup [.int i, u]) hF' hp2
      exact ⟨_, x, p2, _, rfl, upd_same, _, _, rfl, rfl, u, rfl, T.mono (hF.trans x.1) c⟩
  · exact ⟨us, .of (hH _ _ hp), by rw [enumL_len, hr.len]; exact Nat.le_refl _⟩
theorem ei_enumS {r : Mo (List Nat)} {ta : TA} (h : EvA K ta E L r (csLast tyStr)) : EvI K (iEnum K ta) E L (r.bind fun l => .ok (enumL (l.map fun c => [c]))) (tyTup (csCons tyInt (csLast tyStr))) := by
  intro σ F H R hL hs q
  refine h σ F H _ hL hs (q.bind.imp fun l F1 H1 x1 k1 vs hv => ?_)
  obtain ⟨v, rfl, rfl⟩ := hv
  refine k1.ok x1.2.1 _ ⟨fun i H x hH hx => ?_, fun H hH => ?_⟩
  · rw [enumL_get, List.getElem?_map] at hx
    cases e : l[i]? with
    | none => rw [e] at hx; cases hx
    | some c =>
      rw [e] at hx; cases hx
      have hi := (List.getElem?_eq_some_iff.mp e).1
      refine ⟨hi, ?_⟩
      rintro v H' ⟨p2, hp2, rfl, rfl⟩ F hF hF'
      have x := Ext.new (o := .tup [.int i, tx [l.getD i 0]]) hF' hp2
      refine ⟨_, x, p2, _, rfl, upd_same, _, _, rfl, rfl, _, rfl, ?_⟩
      show tx [l.getD i 0] = tx [c]
      rw [List.getD_eq_getElem?_getD, e]; rfl
  · show l.length ≤ _
    rw [enumL_len, List.length_map]; exact Nat.le_refl _
theorem ei_zip {T2 : Ty β} {r : Mo (List α × List β)} {ta : TA} (h : EvA K ta E L r (csCons (tyL T) (csLast (tyL T2)))) : EvI K (iZip K ta) E L (r.bind fun c => .ok (c.1.zip c.2)) (tyTup (csCons T (csLast T2))) := by
  intro σ F H R hL hs q
  refine h σ F H _ hL hs (q.bind.imp fun l F1 H1 x1 k1 vs hv => ?_)
  obtain ⟨v, ws, rfl, ⟨p, us, rfl, hp, hr⟩, v2, rfl, p2, us2, rfl, hp2, hr2⟩ := hv
  refine ⟨⟨us, .of (x1.2.1 _ _ hp)⟩, ⟨us2, .of (x1.2.1 _ _ hp2)⟩, k1.ok x1.2.1 _ ⟨fun i H x hH hx => ?_, fun H hH => ?_⟩⟩
  · obtain ⟨hx1, hx2⟩ := List.getElem?_zip_eq_some.mp (show (l.1.zip l.2)[i]? = some (x.1, x.2) from hx)
    rcases hr.get i with ⟨a, _⟩ | ⟨y, u, a, b, c⟩
    · rw [a] at hx1; cases hx1
    rcases hr2.get i with ⟨a', _⟩ | ⟨y', u', a', b', c'⟩
    · rw [a'] at hx2; cases hx2
    rw [a] at hx1; rw [a'] at hx2
    injection hx1 with hx1
    injection hx2 with hx2
    refine ⟨⟨us, us2, u, u', .of (hH _ _ hp), .of (hH _ _ hp2), b, b'⟩, ?_⟩
    rintro v H' ⟨p3, w, w', z, z', hp3, rfl, rfl⟩ F hF hF'
    have e := z us (.of (hH _ _ hp))
    have e' := z' us2 (.of (hH _ _ hp2))
    rw [b] at e; cases e
    rw [b'] at e'; cases e'
    have x' := Ext.new (o := .tup [u, u']) hF' hp3
    refine ⟨_, x', p3, _, rfl, upd_same, _, _, rfl, ?_, u', rfl, ?_⟩
    · rw [← hx1]; exact T.mono (hF.trans x'.1) c
    · rw [← hx2]; exact T2.mono (hF.trans x'.1) c'
  · refine ⟨us, us2, .of (hH _ _ hp), .of (hH _ _ hp2), ?_⟩
    rw [List.length_zip, hr.len, hr2.len]
    omega
/-! ### comprehensions -/
def compM (f : α → Mo (Option β)) : List α → List β → Mo (List β)
  | [], acc => .ok acc
  | x :: xs, acc => (f x).bind fun o => match o with | none => compM f xs acc | some y => .lim (acc.length + 1) (compM f xs (acc ++ [y]))
theorem compM_map {f : α → Mo (Option β)} {g : α → β} : ∀ {xs : List α} {acc : List β}, (∀ x ∈ xs, f x = .ok (some (g x))) → acc.length + xs.length ≤ 100000 → compM f xs acc = .ok (acc ++ xs.map g)
  | [], acc, _, _ => by unfold compM; rw [List.map_nil, List.append_nil]
  | x :: xs, acc, h, hl => by
    rw [List.length_cons] at hl
    unfold compM
    rw [h x List.mem_cons_self, Mo.ok_bind]
    show Mo.lim _ _ = _
    rw [Mo.lim_ok (by omega), compM_map (fun y hy => h y (List.mem_cons_of_mem _ hy)) (by rw [List.length_append, List.length_singleton]; omega)]
    simp
theorem compM_filterMap {f : α → Mo (Option β)} {g : α → Option β} : ∀ {xs : List α} {acc : List β}, (∀ x ∈ xs, f x = .ok (g x)) → acc.length + xs.length ≤ 100000 → compM f xs acc = .ok (acc ++ xs.filterMap g)
  | [], acc, _, _ => by unfold compM; rw [List.filterMap_nil, List.append_nil]
  | x :: xs, acc, h, hl => by
    rw [List.length_cons] at hl
    unfold compM
    rw [h x List.mem_cons_self, Mo.ok_bind, List.filterMap_cons]
    cases e : g x with
    | none => exact compM_filterMap (fun y hy => h y (List.mem_cons_of_mem _ hy)) (by omega)
    | some z =>
      show Mo.lim _ _ = _
      rw [Mo.lim_ok (by omega), compM_filterMap (fun y hy => h y (List.mem_cons_of_mem _ hy)) (by rw [List.length_append, List.length_singleton]; omega)]
      simp
theorem compM_filter {f : α → Mo (Option α)} {g : α → Bool} {xs acc : List α} (h : ∀ x ∈ xs, f x = .ok (if g x then some x else none)) (hl : acc.length + xs.length ≤ 100000) : compM f xs acc = .ok (acc ++ xs.filter g) := by
  rw [compM_filterMap h hl]
  congr 2
  induction xs with
  | nil => rfl
  | cons x xs ih =>
    rw [List.filterMap_cons, List.filter_cons]
    cases e : g x with
    | true => simp only [if_true]; rw [ih (fun y hy => h y (List.mem_cons_of_mem _ hy)) (by rw [List.length_cons] at hl; omega)]
    | false => exact ih (fun y hy => h y (List.mem_cons_of_mem _ hy)) (by rw [List.length_cons] at hl; omega)
def cL (lv : List Str) (fr : List (Str × Nat)) (L : List Sl) : List Sl := lv.map (fun _ => Sl.dead) ++ fr.map fun q => (L[q.2]?).getD .dead
theorem holdF_comp {lv : List Str} {fr : List (Str × Nat)} {σ : St} (h : HoldF L σ F) : HoldF (cL lv fr L) (cS lv fr σ) F := by
  intro i s e
  unfold cL at e
  unfold cS
  by_cases hi : i < lv.length
  · rw [List.getElem?_append_left (by rw [List.length_map]; exact hi), List.getElem?_map, List.getElem?_eq_getElem hi] at e
    cases e; trivial
  · rw [List.getElem?_append_right (by rw [List.length_map]; omega), List.length_map, List.getElem?_map] at e
    rw [List.getElem?_append_right (by rw [List.length_map]; omega), List.length_map, List.getElem?_map]
    cases z : fr[i - lv.length]? with
    | none => rw [z] at e; cases e
    | some q =>
      rw [z] at e
      have e : (L[q.2]?).getD .dead = s := by simpa using e
      show Sl.Z s (σ[q.2]?).join F
      cases y : L[q.2]? with
      | none => rw [y] at e; rw [← e]; trivial
      | some t => rw [y] at e; cases e; exact h _ _ y
theorem len_comp {lv : List Str} {fr : List (Str × Nat)} {σ : St} : (cL lv fr L).length = (cS lv fr σ).length := by unfold cL cS; simp
def cond1 (c : Mo Bool) (f : Mo β) : Mo (Option β) := (c.bind fun b => if b then f.bind fun y => .ok (some y) else .ok none).noex
theorem ev_comp {lv : List Str} {fr : List (Str × Nat)} {wi : TI} {g : TG} {tt : TT} {te : TE} {r : Mo (List α)} {ss : α → List (Nat × Sl)} {c : α → Mo Bool} {f : α → Mo β} {T' : Ty β}
    (hi : EvI K wi E L r T) (hg : TgR K g T ss) (hd : ∀ a, DeadAt (cL lv fr L) ((ss a).map (·.1))) (ht : ∀ a, EvT K tt E0 (setL (cL lv fr L) (ss a)) (c a)) (he : ∀ a, EvF K te E0 (setL (cL lv fr L) (ss a)) (f a) T') :
    EvO K (tComp lv fr wi g tt te) E L (r.bind fun xs => compM (fun x => cond1 (c x) (f x)) xs []) (owL T') := by
  intro σ F0 H0 Q hL hs q
  refine hi σ F0 H0 _ hL hs (q.bind.imp fun xs F1 H1 x1 k1 J Y D hD => ?_)
  have hL1 := hL.mono x1.1
  refine ⟨fun i m ys σ' H' => m = xs.length - i ∧ i ≤ xs.length ∧ ∃ acc Fi, Ext F1 H1 Fi H' ∧ Fi D = none ∧ H' D = some (.lst ys) ∧ Prs T' Fi acc ys ∧ HoldF (cL lv fr L) σ' F1 ∧ σ'.length = (cL lv fr L).length ∧ After K (compM (fun x => cond1 (c x) (f x)) (xs.drop i) acc) E F1 H1 (OwnK (owL T') H0 Q),
    ⟨_, rfl, Nat.zero_le _, [], F1, .heap x1.2.1 (same_new hD _), x1.2.1.free hD, upd_same, .nil, holdF_comp hL1, len_comp.symm, k1⟩, ?_⟩
  rintro i m ys σ' H' ⟨rfl, hi, acc, Fi, xi, hDi, hy, hp, hσ, hln, A⟩
  by_cases hlt : i < xs.length
  · right
    have ex : xs[i]? = some xs[i] := List.getElem?_eq_getElem hlt
    obtain ⟨g1, g2⟩ := Y.go i H' xs[i] (xi.1.trans xi.2.1) ex
    refine ⟨g1, fun ys' σ'' H'' => i + 1 ≤ xs.length ∧ ∃ acc Fi, Ext F1 H1 Fi H'' ∧ Fi D = none ∧ H'' D = some (.lst ys') ∧ Prs T' Fi acc ys' ∧ HoldF (cL lv fr L) σ'' F1 ∧ σ''.length = (cL lv fr L).length ∧ After K (compM (fun x => cond1 (c x) (f x)) (xs.drop (i + 1)) acc) E F1 H1 (OwnK (owL T') H0 Q), fun ys' σ'' H'' z => ⟨xs.length - (i + 1), by omega, rfl, z⟩, fun v H2 hyl => ?_⟩
    obtain ⟨F2, x2, hv⟩ := g2 v H2 hyl Fi xi.1 xi.2.1
    have keep : ∀ {Fa Ha Fb Hb : Hp}, Ext Fa Ha Fb Hb → Fa D = none → Ha D = some (.lst ys) → Fb D = none ∧ Hb D = some (.lst ys) := by
      intro Fa Ha Fb Hb x h1 h2
      refine ⟨?_, x.2.2.1 _ _ h2⟩
      cases z : Fb D with
      | none => rfl
      | some o => have := x.2.2.2 D h1 (by rw [z]; exact Option.some_ne_none _); rw [h2] at this; cases this
    obtain ⟨hD2, hy2⟩ := keep x2 hDi hy
    refine hg xs[i] v σ' F2 H2 _ x2.2.1 hv fun vs hpl => ?_
    have hσ2 : HoldF (cL lv fr L) σ' F2 := hσ.mono (xi.1.trans x2.1)
    obtain ⟨a1, a2, a3⟩ := holdF_plain hpl hln.symm hσ2
    have hσd : HoldF (cL lv fr L) (setS σ' vs) F1 := by
      have hdead := hd xs[i]
      refine fun j s e => ?_
      have h1 := holdF_dead hpl hln.symm hdead hσ2
      by_cases hj : ∃ q ∈ (ss xs[i]).map (·.1), q = j
      · obtain ⟨q, hq, rfl⟩ := hj
        rw [hdead q hq s e]; trivial
      · have : ((setS σ' vs)[j]?) = σ'[j]? := by
          exact setS_get hpl (fun hq => hj ⟨j, hq, rfl⟩)
        rw [this]; exact hσ j s e
    have hdrop : xs.drop i = xs[i] :: xs.drop (i + 1) := List.drop_eq_getElem_cons hlt
    rw [hdrop] at A
    unfold compM at A
    cases ec : c xs[i] with
    | no => unfold cond1 at A; rw [ec] at A; exact A.elim
    | ex cc => unfold cond1 at A; rw [ec] at A; exact A.elim
    | ok bb =>
      refine ht xs[i] _ F2 H2 _ a1 x2.2.1 ?_
      rw [ec]
      intro F3 H3 x3
      obtain ⟨hD3, hy3⟩ := keep x3 hD2 hy2
      have x13 := (xi.trans x2).trans x3
      cases bb with
      | false =>
        rw [if_neg (by decide)]
        refine ⟨hlt, acc, F3, x13, hD3, hy3, hp.mono (x2.1.trans x3.1), hσd, by rw [a2]; exact hln, ?_⟩
        unfold cond1 at A; rw [ec] at A
        exact A
      | true =>
        rw [if_pos rfl]
        cases ef : f xs[i] with
        | no => unfold cond1 at A; rw [ec, ef] at A; exact A.elim
        | ex cc => unfold cond1 at A; rw [ec, ef] at A; exact A.elim
        | ok y =>
          unfold cond1 at A; rw [ec, ef] at A
          have A' : After K (Mo.lim (acc.length + 1) (compM (fun x => cond1 (c x) (f x)) (xs.drop (i + 1)) (acc ++ [y]))) E F1 H1 (OwnK (owL T') H0 Q) := A
          obtain ⟨hz, A'⟩ := A'.lim
          refine he xs[i] _ F3 H3 _ (a1.mono x3.1) x3.2.1 ?_
          rw [ef]
          intro F4 H4 x4 v4 hv4
          obtain ⟨hD4, hy4⟩ := keep x4 hD3 hy3
          have hlen := hp.len
          refine ⟨hy4, by omega, hlt, acc ++ [y], F4, ?_, hD4, upd_same, (hp.mono ((x2.1.trans x3.1).trans x4.1)).append (.cons hv4 .nil), hσd, by rw [a2]; exact hln, A'⟩
          have x14 := x13.trans x4
          refine ⟨x14.1, fun b o z => ?_, fun b o z => ?_, x14.2.2.2⟩
          · unfold upd; split
            · rename_i w; rw [w, hD4] at z; cases z
            · exact x14.2.1 _ _ z
          · unfold upd; split
            · rename_i w; rw [w, hD] at z; cases z
            · exact x14.2.2.1 _ _ z
  · left
    have e : i = xs.length := by omega
    subst e
    refine ⟨Y.stop H' (xi.1.trans xi.2.1), ?_⟩
    rw [List.drop_length] at A
    have A' : OwnK (owL T') H0 Q acc Fi H' := A Fi H' xi
    exact own_new (x1.2.2.1.free hD) hy hDi hp A'
end
end L2

/-! # Z: statements as functions -/
namespace L2
open PySem PySem.Spec PyProof.Rows
inductive Out (ρ B S : Type) where
  | nx (s : S) | rt (r : ρ) | bk (b : B) | ct (b : B)
def Okk (F0 H0 F h H : Hp) : Prop := Ext F0 H0 F H ∧ Dj F h ∧ Same h H ∧ (∀ p, h p ≠ none → H0 p = none) ∧ ∀ p xs, h p ≠ some (.tup xs)
section
variable {K : PySem.W.Frag} {E : XK} {α β γ ρ S S' B B' : Type} {F0 H0 F h H : Hp} {L : List Sl} {e e1 e2 : TE} {T : Ty α} {r : Mo α} {O : Own ρ}
def Fin (K : PySem.W.Frag) (r : Mo (Out ρ B S)) (E : XK) (LS : S → List Sl) (LB : B → List Sl) (O : Own ρ) (F0 H0 : Hp) (D : Ends) : Prop := match r with
  | .ok (.nx s) => ∀ σ F h H, Hold (LS s) σ F h → Okk F0 H0 F h H → D.nx σ H
  | .ok (.bk b) => ∀ σ F h H, Hold (LB b) σ F h → Okk F0 H0 F h H → D.bk σ H
  | .ok (.ct b) => ∀ σ F h H, Hold (LB b) σ F h → Okk F0 H0 F h H → D.ct σ H
  | .ok (.rt a) => ∀ v F h H, Okk F0 H0 F h H → O.O a v F h → D.rt v H
  | .ex c => ∀ F h H, Okk F0 H0 F h H → E (.ref (gA K c)) none H
  | .no => False
def EvS (K : PySem.W.Frag) (t : TS) (E : XK) (L : List Sl) (r : Mo (Out ρ B S)) (LS : S → List Sl) (LB : B → List Sl) (O : Own ρ) : Prop :=
  ∀ F0 H0 σ F h H (D : Ends), Hold L σ F h → Okk F0 H0 F h H → Fin K r E LS LB O F0 H0 D → t D σ H
variable {t u : TS} {LS : S → List Sl} {LS' : S' → List Sl} {LB : B → List Sl}
/-- then -/
def thenO (r : Mo (Out ρ B S)) (k : S → Mo (Out ρ B S')) : Mo (Out ρ B S') := r.bind fun o => match o with | .nx s => k s | .rt a => .ok (.rt a) | .bk b => .ok (.bk b) | .ct b => .ok (.ct b)
theorem s_seq {r : Mo (Out ρ B S)} {k : S → Mo (Out ρ B S')} (h1 : EvS K t E L r LS LB O) (h2 : ∀ s, EvS K u E (LS s) (k s) LS' LB O) : EvS K (tSeq t u) E L (thenO r k) LS' LB O := by
  intro F0 H0 σ F h H D hL ok fin
  refine h1 F0 H0 σ F h H { D with nx := u D } hL ok ?_
  cases r with
  | no => exact fin
  | ex c => exact fin
  | ok o =>
    cases o with
    | nx s => exact fun σ F h H hL ok => h2 s F0 H0 σ F h H D hL ok fin
    | rt a => exact fin
    | bk b => exact fin
    | ct b => exact fin
theorem s_next {s : S} (hl : LS s = L) : EvS K tNext E L (.ok (.nx s)) LS LB O := fun F0 H0 σ F h H D hL ok fin => fin σ F h H (hl ▸ hL) ok
theorem s_break {b : B} (hl : LB b = L) : EvS K tBreak E L (.ok (.bk b)) LS LB O := fun F0 H0 σ F h H D hL ok fin => fin σ F h H (hl ▸ hL) ok
theorem s_cont {b : B} (hl : LB b = L) : EvS K tCont E L (.ok (.ct b)) LS LB O := fun F0 H0 σ F h H D hL ok fin => fin σ F h H (hl ▸ hL) ok
/-! ### an expression in a statement -/
theorem Okk.thaw (ok : Okk F0 H0 F h H) : Same (un F h) H := fun p o e => by
  unfold un at e
  cases z : F p with
  | some w => rw [z] at e; cases e; exact ok.1.2.1 _ _ z
  | none => rw [z] at e; exact ok.2.2.1 _ _ e
/-- without what is one's own -/
def less (G h : Hp) : Hp := fun p => match h p with | none => G p | some _ => none
theorem less_none {G h : Hp} {p : Addr} (e : h p = none) : less G h p = G p := by unfold less; rw [e]
theorem Okk.back (ok : Okk F0 H0 F h H) {G' H' : Hp} (x : Ext (un F h) H G' H') : Okk F0 H0 (less G' h) h H' ∧ Same F (less G' h) ∧ Tups G' (less G' h) := by
  obtain ⟨o1, o2, o3, o4, o5⟩ := ok
  have hs : Same F (less G' h) := fun p o e => by
    have hp : h p = none := by
      rcases o2 p with z | z
      · rw [z] at e; cases e
      · exact z
    rw [less_none hp]; exact x.1 _ _ (un_same _ _ e)
  refine ⟨⟨⟨o1.1.trans hs, fun p o e => ?_, o1.2.2.1.trans x.2.2.1, fun p a b => ?_⟩, fun p => ?_, fun p o e => ?_, o4, o5⟩, hs, fun p xs e => ?_⟩
  · unfold less at e
    split at e
    · exact x.2.1 _ _ e
    · cases e
  · unfold less at b
    split at b
    · rename_i z
      cases y : un F h p with
      | none => exact o1.2.2.1.free (x.2.2.2 p y b)
      | some o =>
        unfold un at y
        cases w : F p with
        | some _ => exact o1.2.2.2 p a (by rw [w]; exact Option.some_ne_none _)
        | none => rw [w, z] at y; cases y
    · exact absurd rfl b
  · unfold less
    cases z : h p with
    | none => exact .inr rfl
    | some o => exact .inl rfl
  · exact x.2.1 _ _ (x.1 _ _ (un_own o2 _ _ e))
  · unfold less
    cases z : h p with
    | none => exact e
    | some o =>
      have := x.1 _ _ (un_own o2 _ _ z)
      rw [e] at this; cases this
      exact absurd z (o5 p xs)
/-- the wanted end of r, where r is a value's and then k -/
theorem fin_ok {r : Mo α} {k : α → Mo (Out ρ B S)} {G : Hp} {D : Ends} {kk : α → Hp → Hp → Prop} (ok : Okk F0 H0 F h H) (G1 : Hp) (hG : G1 = un F h ∨ G1 = F) (fin : Fin K (r.bind k) E LS LB O F0 H0 D)
    (hk : ∀ a F' H', r = .ok a → Ext G1 H F' H' → kk a F' H') : After K r E G1 H kk := by
  cases r with
  | ok a => exact fun F' H' x => hk a F' H' rfl x
  | no => exact fin
  | ex c =>
    intro F' H' x
    rcases hG with rfl | rfl
    · exact fin _ _ _ (ok.back x).1
    · refine fin F' h H' ⟨ok.1.trans x, fun p => ?_, ok.2.2.1.trans x.2.2.1, ok.2.2.2.1, ok.2.2.2.2⟩
      cases z : h p with
      | none => exact .inr rfl
      | some o =>
        left
        rcases ok.2.1 p with y | y
        · cases w : F' p with
          | none => rfl
          | some o' => have := x.2.2.2 p y (by rw [w]; exact Option.some_ne_none _); rw [ok.2.2.1 _ _ z] at this; cases this
        · rw [y] at z; cases z
theorem Okk.cold (ok : Okk F0 H0 F h H) {F' H' : Hp} (x : Ext F H F' H') : Okk F0 H0 F' h H' := by
  refine ⟨ok.1.trans x, fun p => ?_, ok.2.2.1.trans x.2.2.1, ok.2.2.2.1, ok.2.2.2.2⟩
  cases z : h p with
  | none => exact .inr rfl
  | some o =>
    left
    rcases ok.2.1 p with y | y
    · cases w : F' p with
      | none => rfl
      | some o' => have := x.2.2.2 p y (by rw [w]; exact Option.some_ne_none _); rw [ok.2.2.1 _ _ z] at this; cases this
    · rw [y] at z; cases z
theorem hold_setF {i : Nat} {s : Sl} {σ : St} {a : α} {v : V} (hi : L[i]? = some s) (hL : Hold L σ F h) (hv : T.R a v F) : Hold (L.set i (.fz T a)) (σ.set i (some v)) F h := by
  obtain ⟨o, h1, h2, _, j, _, f⟩ := hL.at i hi
  exact f (.fz T a) (some v) h1 h j ⟨v, rfl, hv⟩
/-- a new thing of one's own -/
theorem hold_setO {i : Nat} {s : Sl} {σ : St} {a : α} {v : V} {O1 : Own α} {hn : Hp} (ok : Okk F0 H0 F h H) (hi : L[i]? = some s) (hL : Hold L σ F h) (fresh : ∀ p, hn p ≠ none → H0 p = none) (dj : Dj F hn) (dh : Dj hn h) (hs : Same hn H) (hv : O1.O a v F hn) :
    ∃ h', Hold (L.set i (.ow O1 a)) (σ.set i (some v)) F h' ∧ Okk F0 H0 F h' H := by
  obtain ⟨o, h1, h2, _, j, _, f⟩ := hL.at i hi
  have d2 : Dj hn h2 := fun p => by
    rcases dh p with z | z
    · exact .inl z
    · exact .inr (j.r.free z)
  refine ⟨un hn h2, f (.ow O1 a) (some v) hn _ (jn_of d2) ⟨v, rfl, hv⟩, ok.1, fun p => ?_, fun p o e => ?_, fun p e => ?_, fun p xs e => ?_⟩
  · unfold un
    cases z : hn p with
    | some w =>
      rcases dj p with y | y
      · exact .inl y
      · rw [y] at z; cases z
    | none =>
      rcases ok.2.1 p with y | y
      · exact .inl y
      · exact .inr (j.r.free y)
  · unfold un at e
    cases z : hn p with
    | some w => rw [z] at e; cases e; exact hs _ _ z
    | none => rw [z] at e; exact ok.2.2.1 _ _ (j.r _ _ e)
  · unfold un at e
    cases z : hn p with
    | some w => exact fresh p (by rw [z]; exact Option.some_ne_none _)
    | none =>
      rw [z] at e
      cases y : h2 p with
      | none => exact absurd y e
      | some w => exact ok.2.2.2.1 p (by rw [j.r _ _ y]; exact Option.some_ne_none _)
  · unfold un at e
    cases z : hn p with
    | some w => rw [z] at e; cases e; exact O1.notup hv p xs z
    | none => rw [z] at e; exact ok.2.2.2.2 p xs (j.r _ _ e)
/-- x = e, plain -/
theorem s_asg {i : Nat} {s : Sl} {k : α → Mo (Out ρ B S)} (hi : L[i]? = some s) (hT : Imm T) (he : EvF K e E L r T) (hk : ∀ a, EvS K u E (L.set i (.fz T a)) (k a) LS LB O) : EvS K (tSeq (tAsg e (gName i)) u) E L (r.bind k) LS LB O := by
  intro F0 H0 σ F h H D hL ok fin
  refine he σ (un F h) H _ (hL.froz ok.2.1) ok.thaw (fin_ok (G := F) ok _ (.inl rfl) fin fun a F' H' hr x v hv => ?_)
  obtain ⟨o, hs, ht⟩ := ok.back x
  rw [hr] at fin
  exact hk a F0 H0 _ _ h H' D (hold_setF hi (hL.mono hs) (hT ht hv)) o fin
/-- x = e, of things that can't be told apart from one's own -/
theorem s_asgC {i : Nat} {s : Sl} {k : α → Mo (Out ρ B S)} (hi : L[i]? = some s) (he : EvF K e E (L.map Sl.cold) r T) (hk : ∀ a, EvS K u E (L.set i (.fz T a)) (k a) LS LB O) : EvS K (tSeq (tAsg e (gName i)) u) E L (r.bind k) LS LB O := by
  intro F0 H0 σ F h H D hL ok fin
  refine he σ F H _ hL.coldF ok.1.2.1 (fin_ok (G := F) ok _ (.inr rfl) fin fun a F' H' hr x v hv => ?_)
  rw [hr] at fin
  exact hk a F0 H0 _ _ h H' D (hold_setF hi (hL.mono x.1) hv) (ok.cold x) fin
theorem dj_own {hn h : Hp} (hh : Same h H) (fresh : ∀ p, hn p ≠ none → H p = none) : Dj hn h := fun p => by
  cases z : hn p with
  | none => exact .inl rfl
  | some w =>
    have := fresh p (by rw [z]; exact Option.some_ne_none _)
    exact .inr (hh.free this)
/-- x = e, a new thing of one's own -/
theorem s_asgO {i : Nat} {s : Sl} {O1 : Own α} {k : α → Mo (Out ρ B S)} (hi : L[i]? = some s) (hO : ImmO O1) (he : EvO K e E L r O1) (hk : ∀ a, EvS K u E (L.set i (.ow O1 a)) (k a) LS LB O) : EvS K (tSeq (tAsg e (gName i)) u) E L (r.bind k) LS LB O := by
  intro F0 H0 σ F h H D hL ok fin
  refine he σ (un F h) H _ (hL.froz ok.2.1) ok.thaw (fin_ok (G := F) ok _ (.inl rfl) fin fun a F' H' hr x v hn fresh dj hsn hv => ?_)
  obtain ⟨o, hs, ht⟩ := ok.back x
  rw [hr] at fin
  have dj' : Dj (less F' h) hn := fun p => by
    unfold less
    cases z : h p with
    | none => exact dj p
    | some w => exact .inl rfl
  obtain ⟨h', a1, a2⟩ := hold_setO o hi (hL.mono hs) (fun p z => ok.1.2.2.1.free (fresh p z)) dj' (dj_own ok.2.2.1 fresh) hsn (hO ht hv)
  exact hk a F0 H0 _ _ h' H' D a1 a2 fin
/-- the same, where nothing of the frame's own is looked at -/
theorem s_asgOC {i : Nat} {s : Sl} {O1 : Own α} {k : α → Mo (Out ρ B S)} (hi : L[i]? = some s) (he : EvO K e E (L.map Sl.cold) r O1) (hk : ∀ a, EvS K u E (L.set i (.ow O1 a)) (k a) LS LB O) : EvS K (tSeq (tAsg e (gName i)) u) E L (r.bind k) LS LB O := by
  intro F0 H0 σ F h H D hL ok fin
  refine he σ F H _ hL.coldF ok.1.2.1 (fin_ok (G := F) ok _ (.inr rfl) fin fun a F' H' hr x v hn fresh dj hsn hv => ?_)
  rw [hr] at fin
  obtain ⟨h', a1, a2⟩ := hold_setO (ok.cold x) hi (hL.mono x.1) (fun p z => ok.1.2.2.1.free (fresh p z)) dj (dj_own ok.2.2.1 fresh) hsn hv
  exact hk a F0 H0 _ _ h' H' D a1 a2 fin
theorem set_self {α : Type} {l : List α} {i : Nat} {o : α} (h : l[i]? = some o) : l.set i o = l := by
  obtain ⟨hi, e⟩ := List.getElem?_eq_some_iff.mp h
  rw [← e]; exact List.set_getElem_self hi
/-- what is one's own is frozen -/
theorem s_frz {i : Nat} {O1 : Own α} {a : α} {r : Mo (Out ρ B S)} (hi : L[i]? = some (.ow O1 a)) (hk : EvS K u E (L.set i (.fz O1.fr a)) r LS LB O) : EvS K u E L r LS LB O := by
  intro F0 H0 σ F h H D hL ok fin
  obtain ⟨o, h1, h2, e1, j, ⟨v, e2, hv⟩, f⟩ := hL.at i hi
  obtain ⟨o1, o2, o3, o4, o5⟩ := ok
  have dj1 : Dj F h1 := fun p => by
    rcases o2 p with z | z
    · exact .inl z
    · exact .inr (j.l.free z)
  have dj2 : Dj F h2 := fun p => by
    rcases o2 p with z | z
    · exact .inl z
    · exact .inr (j.r.free z)
  have g1 : Hold (L.set i (.dead)) σ F h2 := by
    have := f .dead o (fun _ => none) h2 (fun p => .inl ⟨rfl, rfl⟩) trivial
    rwa [set_self e1] at this
  have g2 : Hold (L.set i (.fz O1.fr a)) σ (un F h1) h2 := by
    have g3 := g1.mono (un_same (h := h1))
    have hi' : (L.set i Sl.dead)[i]? = some .dead := by
      rw [List.getElem?_set_self]
      exact (List.getElem?_eq_some_iff.mp hi).1
    have := hold_setF (T := O1.fr) hi' g3 (O1.frz dj1 hv)
    rw [List.set_set] at this
    subst e2
    rwa [set_self e1] at this
  refine hk F0 H0 σ _ h2 H D g2 ⟨⟨o1.1.trans un_same, fun p o e => ?_, o1.2.2.1, fun p a b => ?_⟩, fun p => ?_, j.r.trans o3, fun p z => ?_, fun p xs e => o5 p xs (j.r _ _ e)⟩ fin
  · unfold un at e
    cases z : F p with
    | some w => rw [z] at e; cases e; exact o1.2.1 _ _ z
    | none => rw [z] at e; exact o3 _ _ (j.l _ _ e)
  · unfold un at b
    cases z : F p with
    | some w => exact o1.2.2.2 p a (by rw [z]; exact Option.some_ne_none _)
    | none =>
      rw [z] at b
      cases y : h1 p with
      | none => exact absurd y b
      | some w => exact o4 p (by rw [j.l _ _ y]; exact Option.some_ne_none _)
  · unfold un
    cases z : F p with
    | some w =>
      rcases dj2 p with y | y
      · rw [y] at z; cases z
      · exact .inr y
    | none => exact j.dj p
  · cases y : h2 p with
    | none => exact absurd y z
    | some w => exact o4 p (by rw [j.r _ _ y]; exact Option.some_ne_none _)
/-- return -/
theorem s_ret {r : Mo ρ} (hO : ImmO O) (he : EvO K e E L r O) : EvS K (tRet e) E L (r.bind fun a => .ok (.rt a)) LS LB O := by
  intro F0 H0 σ F h H D hL ok fin
  refine he σ (un F h) H _ (hL.froz ok.2.1) ok.thaw (fin_ok (G := F) ok _ (.inl rfl) fin fun a F' H' hr x v hn fresh dj hsn hv => ?_)
  obtain ⟨o, hs, ht⟩ := ok.back x
  rw [hr] at fin
  refine fin v _ hn H' ⟨o.1, fun p => ?_, hsn, fun p z => ok.1.2.2.1.free (fresh p z), O.notup hv⟩ (hO ht hv)
  unfold less
  cases z : h p with
  | none => exact dj p
  | some w => exact .inl rfl
theorem s_retC {r : Mo ρ} (he : EvO K e E (L.map Sl.cold) r O) : EvS K (tRet e) E L (r.bind fun a => .ok (.rt a)) LS LB O := by
  intro F0 H0 σ F h H D hL ok fin
  refine he σ F H _ hL.coldF ok.1.2.1 (fin_ok (G := F) ok _ (.inr rfl) fin fun a F' H' hr x v hn fresh dj hsn hv => ?_)
  rw [hr] at fin
  exact fin v _ hn H' ⟨ok.1.trans x, dj, hsn, fun p z => ok.1.2.2.1.free (fresh p z), O.notup hv⟩ hv
theorem s_retV {i : Nat} {a : ρ} (hi : L[i]? = some (.ow O a)) : EvS K (tRet (mVar i)) E L (.ok (.rt a)) LS LB O := by
  intro F0 H0 σ F h H D hL ok fin
  obtain ⟨o, h1, h2, e1, j, ⟨v, e2, hv⟩, f⟩ := hL.at i hi
  subst e2
  show mVar i σ H D.rt
  unfold mVar
  rw [e1]
  obtain ⟨o1, o2, o3, o4, o5⟩ := ok
  refine fin v F h1 H ⟨o1, fun p => ?_, j.l.trans o3, fun p z => ?_, O.notup hv⟩ hv
  · rcases o2 p with z | z
    · exact .inl z
    · exact .inr (j.l.free z)
  · cases y : h1 p with
    | none => exact absurd y z
    | some w => exact o4 p (by rw [j.l _ _ y]; exact Option.some_ne_none _)
/-- if -/
theorem s_if {c : TT} {b : Mo Bool} {r1 r2 : Mo (Out ρ B S)} (hc : EvT K c E L b) (h1 : EvS K t E L r1 LS LB O) (h2 : EvS K u E L r2 LS LB O) : EvS K (mIfS c t u) E L (b.bind fun c => if c then r1 else r2) LS LB O := by
  intro F0 H0 σ F h H D hL ok fin
  refine hc σ (un F h) H _ (hL.froz ok.2.1) ok.thaw (fin_ok (G := F) ok _ (.inl rfl) fin fun a F' H' hr x => ?_)
  obtain ⟨o, hs, ht⟩ := ok.back x
  rw [hr] at fin
  have fin' : Fin K (if a then r1 else r2) E LS LB O F0 H0 D := fin
  refine ⟨fun z => ?_, fun z => ?_⟩
  · rw [if_pos z] at fin'; exact h1 F0 H0 σ _ h H' D (hL.mono hs) o fin'
  · rw [if_neg (by rw [z]; decide)] at fin'; exact h2 F0 H0 σ _ h H' D (hL.mono hs) o fin'
/-! ### what is forgotten -/
inductive Sub : List Sl → List Sl → Prop
  | nil : Sub [] []
  | same {s : Sl} {L L' : List Sl} (h : Sub L L') : Sub (s :: L) (s :: L')
  | dead {s : Sl} {L L' : List Sl} (h : Sub L L') : Sub (s :: L) (.dead :: L')
theorem Sub.hold {L L' : List Sl} (w : Sub L L') : ∀ {σ : St} {F h : Hp}, Hold L σ F h → Hold L' σ F h := by
  induction w with
  | nil => exact fun h => h
  | same _ ih =>
    intro σ F h q
    cases σ with
    | nil => exact q.elim
    | cons o σ => obtain ⟨h1, h2, j, p, r⟩ := q; exact ⟨h1, h2, j, p, ih r⟩
  | dead _ ih =>
    intro σ F h q
    cases σ with
    | nil => exact q.elim
    | cons o σ => obtain ⟨h1, h2, j, p, r⟩ := q; exact ⟨h1, h2, j, trivial, ih r⟩
theorem s_nextW {s : S} (w : Sub L (LS s)) : EvS K tNext E L (.ok (.nx s)) LS LB O := fun F0 H0 σ F h H D hL ok fin => fin σ F h H (w.hold hL) ok
theorem s_contW {b : B} (w : Sub L (LB b)) : EvS K tCont E L (.ok (.ct b)) LS LB O := fun F0 H0 σ F h H D hL ok fin => fin σ F h H (w.hold hL) ok
theorem s_breakW {b : B} (w : Sub L (LB b)) : EvS K tBreak E L (.ok (.bk b)) LS LB O := fun F0 H0 σ F h H D hL ok fin => fin σ F h H (w.hold hL) ok
/-- the last statement of a block: then nothing more -/
theorem s_end {r : Mo (Out ρ B S)} (h : EvS K (tSeq t tNext) E L r LS LB O) : EvS K t E L r LS LB O := h
/-! ### for -/
def forO (step : S → α → Mo (Out ρ S S)) : List α → S → Mo (Out ρ B S)
  | [], s => .ok (.nx s)
  | x :: xs, s => (step s x).bind fun o => match o with | .nx s' => forO step xs s' | .ct s' => forO step xs s' | .bk s' => .ok (.nx s') | .rt a => .ok (.rt a)
theorem hold_plain {ss : List (Nat × Sl)} {vs : List (Nat × Option V)} (p : Plain F ss vs) : ∀ {L : List Sl} {σ : St}, Hold L σ F h → Hold (setL L ss) (setS σ vs) F h := by
  induction p with
  | nil => exact fun h => h
  | cons hv t ih =>
    rename_i T a i v ss vs
    intro L σ q
    refine ih (L := L.set i (.fz T a)) (σ := σ.set i (some v)) ?_
    by_cases hi : i < L.length
    · exact hold_setF (List.getElem?_eq_getElem hi) q hv
    · rw [List.set_eq_of_length_le (by omega), List.set_eq_of_length_le (by have := q.len; omega)]; exact q
theorem Okk.rebase {F1 H1 : Hp} (x : Ext F0 H0 F1 H1) (ok : Okk F0 H0 F h H) (s : Same F1 F) : Okk F1 H0 F h H := by
  obtain ⟨o1, o2, o3, o4, o5⟩ := ok
  refine ⟨⟨s, o1.2.1, o1.2.2.1, fun p a b => o1.2.2.2 p (x.1.free a) b⟩, o2, o3, o4, o5⟩
theorem Okk.unbase {F1 H1 : Hp} (x : Ext F0 H0 F1 H1) (ok : Okk F1 H0 F h H) : Okk F0 H0 F h H := by
  obtain ⟨o1, o2, o3, o4, o5⟩ := ok
  refine ⟨⟨x.1.trans o1.1, o1.2.1, o1.2.2.1, fun p a b => ?_⟩, o2, o3, o4, o5⟩
  cases z : F1 p with
  | none => exact o1.2.2.2 p z b
  | some w => exact x.2.2.2 p a (by rw [z]; exact Option.some_ne_none _)
theorem s_for {wi : TI} {g : TG} {tb : TS} {s0 : S} {r : Mo (List α)} {ss : α → List (Nat × Sl)} {step : S → α → Mo (Out ρ S S)} (hi : EvI K wi E ((LS s0).map Sl.cold) r T) (hg : TgR K g T ss)
    (hb : ∀ s a, EvS K tb E (setL (LS s) (ss a)) (step s a) LS LS O) : EvS K (tFor wi g tb) E (LS s0) (r.bind fun xs => forO step xs s0) LS LB O := by
  intro F0 H0 σ F h H D hL ok fin
  refine hi σ F H _ hL.coldF ok.1.2.1 (fin_ok (G := F) ok _ (.inr rfl) fin fun xs F1 H1 hr x1 J Y => ?_)
  rw [hr] at fin
  have xx := ok.1.trans x1
  refine ⟨fun i m σ H => m = xs.length - i ∧ i ≤ xs.length ∧ ∃ s F h, Hold (LS s) σ F h ∧ Okk F1 H0 F h H ∧ Fin K (forO (B := B) step (xs.drop i) s) E LS LB O F0 H0 D,
    ⟨_, rfl, Nat.zero_le _, s0, F1, h, hL.mono x1.1, (ok.cold x1).rebase xx (Same.refl _), fin⟩, ?_⟩
  rintro i m σ H ⟨rfl, hi, s, F, h, hL, ok, fin⟩
  have s1 : Same F1 H := ok.1.1.trans ok.1.2.1
  by_cases hlt : i < xs.length
  · right
    obtain ⟨g1, g2⟩ := Y.go i H xs[i] s1 (List.getElem?_eq_getElem hlt)
    refine ⟨g1, fun σ' H' => i + 1 ≤ xs.length ∧ ∃ s F h, Hold (LS s) σ' F h ∧ Okk F1 H0 F h H' ∧ Fin K (forO (B := B) step (xs.drop (i + 1)) s) E LS LB O F0 H0 D, fun σ' H' z => ⟨xs.length - (i + 1), by omega, rfl, z⟩, fun v H2 hy => ?_⟩
    obtain ⟨F2, x2, hv⟩ := g2 v H2 hy F ok.1.1 ok.1.2.1
    refine hg xs[i] v σ F2 H2 _ x2.2.1 hv fun vs hp => ?_
    refine hb s xs[i] F1 H0 _ F2 h H2 _ (hold_plain hp (hL.mono x2.1)) (ok.cold x2) ?_
    rw [List.drop_eq_getElem_cons hlt] at fin
    unfold forO at fin
    cases e : step s xs[i] with
    | no => rw [e] at fin; exact fin
    | ex c => rw [e] at fin; exact fun F h H ok => fin F h H (ok.unbase xx)
    | ok o =>
      rw [e] at fin
      cases o with
      | nx s' => exact fun σ' F' h' H' hL' ok' => ⟨hlt, s', F', h', hL', ok', fin⟩
      | ct s' => exact fun σ' F' h' H' hL' ok' => ⟨hlt, s', F', h', hL', ok', fin⟩
      | bk s' => exact fun σ' F' h' H' hL' ok' => fin σ' F' h' H' hL' (ok'.unbase xx)
      | rt a => exact fun v F h H ok => fin v F h H (ok.unbase xx)
  · left
    have e : i = xs.length := by omega
    subst e
    rw [List.drop_length] at fin
    exact ⟨Y.stop H s1, fin σ F h H hL (ok.unbase xx)⟩
/-! ### while -/
def whileO (c : S → Mo Bool) (step : S → Mo (Out ρ S S)) : Nat → S → Mo (Out ρ B S)
  | 0, _ => .no
  | n + 1, s => (c s).bind fun b => if b then (step s).bind fun o => match o with | .nx s' => whileO c step n s' | .ct s' => whileO c step n s' | .bk s' => .ok (.nx s') | .rt a => .ok (.rt a) else .ok (.nx s)
theorem s_while {tc : TT} {tb : TS} {s0 : S} (n : Nat) {c : S → Mo Bool} {step : S → Mo (Out ρ S S)} (hc : ∀ s, EvT K tc E (LS s) (c s)) (hb : ∀ s, EvS K tb E (LS s) (step s) LS LS O) :
    EvS K (tWhile tc tb) E (LS s0) (whileO c step n s0) LS LB O := by
  intro F0 H0 σ F h H D hL ok fin
  refine ⟨fun m σ H => ∃ s F h, Hold (LS s) σ F h ∧ Okk F0 H0 F h H ∧ Fin K (whileO (B := B) c step m s) E LS LB O F0 H0 D, ⟨n, s0, F, h, hL, ok, fin⟩, ?_⟩
  rintro m σ H ⟨s, F, h, hL, ok, fin⟩
  cases m with
  | zero => exact fin.elim
  | succ m =>
    unfold whileO at fin
    refine hc s σ (un F h) H _ (hL.froz ok.2.1) ok.thaw (fin_ok (G := F) ok _ (.inl rfl) fin fun a F' H' hr x => ?_)
    obtain ⟨o, hs, ht⟩ := ok.back x
    rw [hr] at fin
    cases a with
    | false => rw [if_neg (by decide)]; exact fin σ _ h H' (hL.mono hs) o
    | true =>
      rw [if_pos rfl]
      refine ⟨fun σ' H'' => ∃ s F h, Hold (LS s) σ' F h ∧ Okk F0 H0 F h H'' ∧ Fin K (whileO (B := B) c step m s) E LS LB O F0 H0 D, fun σ' H'' z => ⟨m, Nat.lt_succ_self _, z⟩, ?_⟩
      refine hb s F0 H0 σ _ h H' _ (hL.mono hs) o ?_
      have fin' : Fin K ((step s).bind fun o => match o with | .nx s' => whileO (B := B) c step m s' | .ct s' => whileO c step m s' | .bk s' => .ok (.nx s') | .rt a => .ok (.rt a)) E LS LB O F0 H0 D := fin
      cases e : step s with
      | no => rw [e] at fin'; exact fin'
      | ex c => rw [e] at fin'; exact fin'
      | ok o =>
        rw [e] at fin'
        cases o with
        | nx s' => exact fun σ' F' h' H' hL' ok' => ⟨s', F', h', hL', ok', fin'⟩
        | ct s' => exact fun σ' F' h' H' hL' ok' => ⟨s', F', h', hL', ok', fin'⟩
        | bk s' => exact fin'
        | rt a => exact fin'
/-! ### changes of one's own lists -/
theorem hold_mut {i : Nat} {σ : St} {xs : List α} (hL : Hold L σ F h) (hi : L[i]? = some (.ow (owL T) xs)) (ok : Okk F0 H0 F h H) :
    ∃ p vs, σ[i]? = some (some (.ref p)) ∧ H p = some (.lst vs) ∧ Prs T F xs vs ∧ ∀ xs' vs', Prs T F xs' vs' → ∃ h', Hold (L.set i (.ow (owL T) xs')) σ F h' ∧ Okk F0 H0 F h' (upd H p (.lst vs')) := by
  obtain ⟨o, h1, h2, e1, j, ⟨v, e2, p, vs, rfl, rfl, hr⟩, f⟩ := hL.at i hi
  subst e2
  obtain ⟨o1, o2, o3, o4, o5⟩ := ok
  have hp : h p = some (.lst vs) := j.l _ _ one_same
  have h2p : h2 p = none := by
    rcases j.dj p with z | z
    · rw [one_same] at z; cases z
    · exact z
  have Fp : F p = none := by
    rcases o2 p with z | z
    · exact z
    · rw [hp] at z; cases z
  have H0p : H0 p = none := o4 p (by rw [hp]; exact Option.some_ne_none _)
  refine ⟨p, vs, e1, o3 _ _ hp, hr, fun xs' vs' hr' => ?_⟩
  have d2 : Dj (one p (.lst vs')) h2 := fun q => by
    unfold one; split
    · rename_i z; rw [z]; exact .inr h2p
    · exact .inl rfl
  have g := f (.ow (owL T) xs') (some (.ref p)) (one p (.lst vs')) _ (jn_of d2) ⟨_, rfl, p, vs', rfl, rfl, hr'⟩
  rw [set_self e1] at g
  refine ⟨_, g, ⟨o1.1, fun q o z => ?_, fun q o z => ?_, o1.2.2.2⟩, fun q => ?_, fun q o z => ?_, fun q z => ?_, fun q ys z => ?_⟩
  · unfold upd; split
    · rename_i w; rw [w, Fp] at z; cases z
    · exact o1.2.1 _ _ z
  · unfold upd; split
    · rename_i w; rw [w, H0p] at z; cases z
    · exact o1.2.2.1 _ _ z
  · by_cases w : q = p
    · rw [w]; exact .inl Fp
    · unfold un one; simp only [if_neg w]
      rcases o2 q with z | z
      · exact .inl z
      · exact .inr (j.r.free z)
  · unfold un one at z
    unfold upd
    by_cases w : q = p
    · rw [if_pos w]; simp only [if_pos w] at z; exact z
    · rw [if_neg w]; simp only [if_neg w] at z; exact o3 _ _ (j.r _ _ z)
  · unfold un one at z
    by_cases w : q = p
    · rw [w]; exact H0p
    · simp only [if_neg w] at z
      cases y : h2 q with
      | none => exact absurd y z
      | some u => exact o4 q (by rw [j.r _ _ y]; exact Option.some_ne_none _)
  · unfold un one at z
    by_cases w : q = p
    · simp only [if_pos w] at z; cases z
    · simp only [if_neg w] at z; exact o5 q ys (j.r _ _ z)
theorem mvar_at {i : Nat} {σ : St} {v : V} {Q : VK} (e : σ[i]? = some (some v)) (q : Q v H) : mVar i σ H Q := by unfold mVar; rw [e]; exact q
theorem fin_lim {n : Nat} {r : Mo (Out ρ B S)} {D : Ends} (h : Fin K (Mo.lim n r) E LS LB O F0 H0 D) : n ≤ sizeLine ∧ Fin K r E LS LB O F0 H0 D := by
  unfold Mo.lim at h
  split at h
  · exact ⟨by assumption, h⟩
  · exact h.elim
theorem fin_opt {x : Option α} {k : α → Mo (Out ρ B S)} {D : Ends} (h : Fin K ((Mo.opt x).bind k) E LS LB O F0 H0 D) : ∃ a, x = some a ∧ Fin K (k a) E LS LB O F0 H0 D := by
  cases x with
  | none => exact h.elim
  | some a => exact ⟨a, rfl, h⟩
theorem s_append {i : Nat} {xs : List α} {k : α → Mo (Out ρ B S)} (hi : L[i]? = some (.ow (owL T) xs)) (hT : Imm T) (he : EvF K e E L r T) (hk : ∀ a, EvS K u E (L.set i (.ow (owL T) (xs ++ [a]))) (k a) LS LB O) :
    EvS K (tSeq (tDrop (tBM K "list" rAppend (mVar i) (tCons e tNil))) u) E L (r.bind fun a => .lim (xs.length + 1) (k a)) LS LB O := by
  intro F0 H0 σ F h H D hL ok fin
  obtain ⟨p, vs, e1, hp, hr, _⟩ := hold_mut hL hi ok
  show mVar i σ H fun x H1 => tyV K "list" x H1 ∧ tCons e tNil σ H1 fun xs H2 => rAppend x xs H2 (fun _ H3 => u D σ H3)
  refine mvar_at e1 ⟨.inl ⟨rfl, vs, .of hp⟩, ?_⟩
  refine he σ (un F h) H _ (hL.froz ok.2.1) ok.thaw (fin_ok (G := F) ok _ (.inl rfl) fin fun a F' H' hra x v hv => ?_)
  obtain ⟨o, hs, ht⟩ := ok.back x
  rw [hra] at fin
  obtain ⟨hz, fin⟩ := fin_lim (show Fin K (Mo.lim (xs.length + 1) (k a)) E LS LB O F0 H0 D from fin)
  obtain ⟨p', vs', e1', hp', hr', mm⟩ := hold_mut (hL.mono hs) hi o
  rw [e1] at e1'; cases e1'
  obtain ⟨h', a1, a2⟩ := mm (xs ++ [a]) (vs' ++ [v]) (hr'.append (.cons (hT ht hv) .nil))
  exact ⟨p, vs', v, rfl, rfl, hp', by rw [← hr'.len]; omega, hk a F0 H0 σ _ h' _ D a1 a2 fin⟩
theorem s_extend {i : Nat} {xs : List α} {r : Mo (List α)} {k : List α → Mo (Out ρ B S)} (hi : L[i]? = some (.ow (owL T) xs)) (hT : Imm T) (he : EvF K e E L r (tyL T)) (hk : ∀ a, EvS K u E (L.set i (.ow (owL T) (xs ++ a))) (k a) LS LB O) :
    EvS K (tSeq (tDrop (tBM K "list" rExtend (mVar i) (tCons e tNil))) u) E L (r.bind fun a => .lim (xs.length + a.length) (k a)) LS LB O := by
  intro F0 H0 σ F h H D hL ok fin
  obtain ⟨p, vs, e1, hp, hr, _⟩ := hold_mut hL hi ok
  show mVar i σ H fun x H1 => tyV K "list" x H1 ∧ tCons e tNil σ H1 fun xs H2 => rExtend x xs H2 (fun _ H3 => u D σ H3)
  refine mvar_at e1 ⟨.inl ⟨rfl, vs, .of hp⟩, ?_⟩
  refine he σ (un F h) H _ (hL.froz ok.2.1) ok.thaw (fin_ok (G := F) ok _ (.inl rfl) fin fun a F' H' hra x v ⟨p2, us, ev, hp2, hr2⟩ => ?_)
  obtain ⟨o, hs, ht⟩ := ok.back x
  rw [hra] at fin
  subst ev
  obtain ⟨hz, fin⟩ := fin_lim (show Fin K (Mo.lim (xs.length + a.length) (k a)) E LS LB O F0 H0 D from fin)
  obtain ⟨p', vs', e1', hp', hr', mm⟩ := hold_mut (hL.mono hs) hi o
  rw [e1] at e1'; cases e1'
  obtain ⟨h', a1, a2⟩ := mm (xs ++ a) (vs' ++ us) (hr'.append (hr2.imm hT ht))
  exact ⟨p, p2, vs', us, rfl, rfl, hp', x.2.1 _ _ hp2, by rw [← hr'.len, ← hr2.len]; exact hz, hk a F0 H0 σ _ h' _ D a1 a2 fin⟩
theorem s_clear {i : Nat} {xs : List α} {k : Mo (Out ρ B S)} (hi : L[i]? = some (.ow (owL T) xs)) (hk : EvS K u E (L.set i (.ow (owL T) [])) k LS LB O) :
    EvS K (tSeq (tDrop (tBM0 K "list" rClear (mVar i))) u) E L k LS LB O := by
  intro F0 H0 σ F h H D hL ok fin
  obtain ⟨p, vs, e1, hp, hr, mm⟩ := hold_mut hL hi ok
  obtain ⟨h', a1, a2⟩ := mm [] [] .nil
  show mVar i σ H fun x H1 => tyV K "list" x H1 ∧ rClear x [] H1 (fun _ H3 => u D σ H3)
  exact mvar_at e1 ⟨.inl ⟨rfl, vs, .of hp⟩, p, vs, rfl, rfl, hp, hk F0 H0 σ _ h' _ D a1 a2 fin⟩
theorem s_setI {i : Nat} {xs : List α} {ei : TE} {ri : Mo Int} {k : List α → Mo (Out ρ B S)} (hi : L[i]? = some (.ow (owL T) xs)) (hT : Imm T) (he : EvF K e E L r T) (hei : EvF K ei E L ri tyInt) (hk : ∀ a, EvS K u E (L.set i (.ow (owL T) a)) (k a) LS LB O) :
    EvS K (tSeq (tAsg e (gSub (mVar i) ei mSet)) u) E L (r.bind fun a => ri.bind fun j => (Mo.opt ((ixN xs.length j).map fun n => xs.set n a)).bind k) LS LB O := by
  intro F0 H0 σ F h H D hL ok fin
  refine he σ (un F h) H _ (hL.froz ok.2.1) ok.thaw (fin_ok (G := F) ok _ (.inl rfl) fin fun a F' H' hra x v hv => ?_)
  obtain ⟨o, hs, ht⟩ := ok.back x
  rw [hra] at fin
  have hL' := hL.mono hs
  obtain ⟨p, vs, e1, hp, hr, _⟩ := hold_mut hL' hi o
  refine mvar_at e1 ?_
  have hv' := hT ht hv
  refine hei σ (un _ h) H' _ (hL'.froz o.2.1) o.thaw (fin_ok (G := F) o _ (.inl rfl) fin fun j F2 H2 hrj x2 v2 hv2 => ?_)
  cases hv2
  obtain ⟨o', hs', ht'⟩ := o.back x2
  rw [hrj] at fin
  obtain ⟨ys, ey, fin⟩ := fin_opt fin
  obtain ⟨p', vs', e1', hp', hr', mm⟩ := hold_mut (hL'.mono hs') hi o'
  rw [e1] at e1'; cases e1'
  cases ej : ixN xs.length j with
  | none => rw [ej] at ey; cases ey
  | some n =>
    rw [ej] at ey; cases ey
    obtain ⟨h', a1, a2⟩ := mm (xs.set n a) (vs'.set n v) (hr'.set n (T.mono hs' hv'))
    refine ⟨vs', hp', ?_⟩
    rw [← hr'.len, ej]
    exact hk _ F0 H0 σ _ h' _ D a1 a2 fin
/-- an expression whose value is dropped -/
theorem s_drop {k : α → Mo (Out ρ B S)} (he : EvF K e E L r T) (hk : ∀ a, EvS K u E L (k a) LS LB O) : EvS K (tSeq (tDrop e) u) E L (r.bind k) LS LB O := by
  intro F0 H0 σ F h H D hL ok fin
  refine he σ (un F h) H _ (hL.froz ok.2.1) ok.thaw (fin_ok (G := F) ok _ (.inl rfl) fin fun a F' H' hr x v hv => ?_)
  obtain ⟨o, hs, ht⟩ := ok.back x
  rw [hr] at fin
  exact hk a F0 H0 σ _ h H' D (hL.mono hs) o fin
/-- a raise -/
theorem s_raise {c : String} {ta : TA} {C : Cs γ} {n : Nat} {r : Mo γ} (hl : CsN C n) (h : EvA K ta E L r C) (hn : n ≤ 100 := by decide) : EvS K (tRaise (gA K c) E ta) E L (r.bind fun _ => .ex c) LS LB O := by
  intro F0 H0 σ F hh H D hL ok fin
  refine h σ (un F hh) H _ (hL.froz ok.2.1) ok.thaw (fin_ok (G := F) ok _ (.inl rfl) fin fun a F' H' hr x vs hv => ?_)
  obtain ⟨o, hs, ht⟩ := ok.back x
  rw [hr] at fin
  exact ⟨by rw [hl hv]; exact hn, fin _ hh H' o⟩
/-! ### a def -/
def fnO (r : Mo (Out ρ Unit Unit)) : Mo ρ := r.bind fun o => match o with | .rt a => .ok a | _ => .no
/-- slots at the beginning -/
theorem hold_start {C : Cs γ} {c : γ} {vs : List V} {N : List Str} {ss : List Sl} (hs : List Sl → γ → List V → Hp → Prop) : True := trivial
inductive Args (F : Hp) : List V → List Sl → Prop
  | nil : Args F [] []
  | cons {α : Type} {T : Ty α} {a : α} {v : V} {vs ss} (h : T.R a v F) (t : Args F vs ss) : Args F (v :: vs) (.fz T a :: ss)
theorem Args.hold {vs : List V} {ss : List Sl} (a : Args F vs ss) (n : Nat) : Hold (ss ++ List.replicate n .dead) (vs.map some ++ List.replicate n none) F (fun _ => none) := by
  induction a with
  | nil =>
    induction n with
    | zero => trivial
    | succ n ih => exact ⟨fun _ => none, fun _ => none, fun p => .inl ⟨rfl, rfl⟩, trivial, ih⟩
  | cons hv t ih => exact ⟨fun _ => none, fun _ => none, fun p => .inl ⟨rfl, rfl⟩, ⟨_, rfl, hv⟩, ih⟩
def CsS (C : Cs γ) (ss : γ → List Sl) : Prop := ∀ {c vs F}, C.R c vs F → Args F vs (ss c)
theorem css_nil : CsS csNil fun _ => [] := fun e => by rw [e]; exact .nil
theorem css_last : CsS (csLast T) fun a => [.fz T a] := fun ⟨v, e, h⟩ => by rw [e]; exact .cons h .nil
theorem css_cons {C : Cs γ} {ss : γ → List Sl} (h : CsS C ss) : CsS (csCons T C) fun c => .fz T c.1 :: ss c.2 := fun ⟨v, us, e, q, z⟩ => by rw [e]; exact .cons q (h z)
theorem okk_start (hs : Same F H) : Okk F H F (fun _ => none) H := by
  refine ⟨.refl hs, fun p => .inr rfl, fun p o e => ?_, fun p e => absurd rfl e, fun p xs e => ?_⟩
  · cases e
  · cases e
/-- a def's body gives its reading -/
theorem fn_rd {t : XK → TS} {C : Cs γ} {ss : γ → List Sl} {f : γ → Mo (Out ρ Unit Unit)} {N : List Str} (n m : Nat) (hn : CsN C n) (hm : N.length - n = m) (hC : CsS C ss) (h : ∀ c E, EvS K (t E) E (ss c ++ List.replicate m .dead) (f c) (fun _ : Unit => []) (fun _ : Unit => []) O) :
    ∀ vs H Q E, Ct K C (fun c => fnO (f c)) O vs H Q E → t E { nx := fun _ H' => Q .non H', rt := Q } (start N vs) H := by
  rintro vs H Q E ⟨F, c, hs, hc, q⟩
  have hstart : start N vs = vs.map some ++ List.replicate m none := by unfold start; rw [hn hc, hm]
  rw [hstart]
  refine h c E F H _ F (fun _ => none) H _ ((hC hc).hold m) (okk_start hs) ?_
  have q : After K (fnO (f c)) E F H (OwnK O H Q) := q
  cases e : f c with
  | no => rw [e] at q; exact q
  | ex cc => rw [e] at q; exact fun F h H ok => q F H ok.1
  | ok o =>
    rw [e] at q
    cases o with
    | nx s => exact q.elim
    | bk s => exact q.elim
    | ct s => exact q.elim
    | rt a => exact fun v F' h' H' ok hv => q F' H' ok.1 v h' (fun p z => ok.2.2.2.1 p z) ok.2.1 ok.2.2.1 hv
end
end L2

/-! # a: more rules -/
namespace L2
open PySem PySem.Spec PyProof.Rows
section
variable {K : PySem.W.Frag} {E : XK} {α β γ ρ S S' B B' : Type} {F0 H0 F h H : Hp} {L L' : List Sl} {e e1 e2 : TE} {T : Ty α} {r : Mo α} {O : Own ρ} {t u : TS} {LS : S → List Sl} {LS' : S' → List Sl} {LB : B → List Sl}
/-! numbers of any size -/
def CDivG (i j : Int) : Prop := 0 < j ∧ Builtin.divisionGoesByPylong i j = false
instance (i j : Int) : Decidable (CDivG i j) := inferInstanceAs (Decidable (_ ∧ _))
instance (i j : Int) : Decidable (IntMulOk i j) := inferInstanceAs (Decidable (¬ _))
abbrev mMulG : R2 := mI IntMulOk fun i j => .int (i * j)
abbrev mDivG : R2 := mI CDivG fun i j => .int (i / j)
theorem op_mulG {X : Cx} : OpR X (binaryOp .Mult) mMulG := opM (opI fun _ _ _ _ _ _ _ hc q => mul_int q hc)
theorem op_divG {X : Cx} : OpR X (binaryOp .FloorDiv) mDivG := opM (opI fun i j _ _ _ _ _ hc q => by
  have h1 : (0 : Int) < j := hc.1
  exact floordiv_int (by omega) (by rw [Int.fdiv_eq_ediv_of_nonneg i (by omega)]; exact q) (.inl hc.2))
theorem op_mulGI : Op2 K mMulG E tyInt tyInt (fun i j => .grd (IntMulOk i j) (.ok (i * j))) tyInt := op_i fun _ _ _ => rfl
theorem op_divGI : Op2 K mDivG E tyInt tyInt (fun i j => .grd (CDivG i j) (.ok (i / j))) tyInt := op_i fun _ _ _ => rfl
theorem fr_nil {Pq : α → Prop} : ∀ q ∈ ([] : List α), Pq q := fun q h => by cases h
theorem fr_cons {Pq : α → Prop} {a : α} {l : List α} (h : Pq a) (t : ∀ q ∈ l, Pq q) : ∀ q ∈ a :: l, Pq q := List.forall_mem_cons.mpr ⟨h, t⟩
theorem s_never : EvS K t E L (.no : Mo (Out ρ B S)) LS LB O := fun _ _ _ _ _ _ _ _ _ fin => fin.elim
theorem ev_never : EvF K e E L (.no : Mo α) T := fun _ _ _ _ _ _ q => q.elim
theorem s_weak {r : Mo (Out ρ B S)} (w : Sub L L') (hk : EvS K t E L' r LS LB O) : EvS K t E L r LS LB O := fun F0 H0 σ F h H D hL ok fin => hk F0 H0 σ F h H D (w.hold hL) ok fin
theorem at_ {r : Mo (Out ρ B S)} (L : List Sl) (hk : EvS K t E L r LS LB O) : EvS K t E L r LS LB O := hk
theorem ev_varL (i : Nat) {xs : List α} (h : L[i]? = some (.ow (owL T) xs)) : EvF K (mVar i) E L (.ok xs) (tyL T) := ev_varO i h
theorem et_true : EvT K tTrue E L (.ok true) := fun σ F H Q hL hs q => q.ok hs
theorem dead1 {L : List Sl} : DeadAt (.dead :: L) [0] := fun i hi s e => by
  cases (List.mem_singleton.mp hi); cases e; rfl
theorem dead2 {L : List Sl} : DeadAt (.dead :: .dead :: L) [0, 1] := fun i hi s e => by
  rcases List.mem_cons.mp hi with rfl | hi
  · cases e; rfl
  · cases (List.mem_singleton.mp hi); cases e; rfl
theorem dead3 {L : List Sl} : DeadAt (.dead :: .dead :: .dead :: L) [0, 1, 2] := fun i hi s e => by
  rcases List.mem_cons.mp hi with rfl | hi
  · cases e; rfl
  rcases List.mem_cons.mp hi with rfl | hi
  · cases e; rfl
  · cases (List.mem_singleton.mp hi); cases e; rfl
theorem nn_int {a : Int} {v : V} {F : Hp} (h : tyInt.R a v F) : v ≠ .non := by cases h; exact fun z => V.noConfusion z
theorem nn_str {a : List Nat} {v : V} {F : Hp} (h : tyStr.R a v F) : v ≠ .non := by cases h; exact fun z => V.noConfusion z
theorem nn_bl {a : Bool} {v : V} {F : Hp} (h : tyBl.R a v F) : v ≠ .non := by cases h; exact fun z => V.noConfusion z
theorem nn_l {a : List α} {v : V} {F : Hp} (h : (tyL T).R a v F) : v ≠ .non := by obtain ⟨p, vs, rfl, _⟩ := h; exact fun z => V.noConfusion z
theorem nn_tup {C : Cs γ} {a : γ} {v : V} {F : Hp} (h : (tyTup C).R a v F) : v ≠ .non := by obtain ⟨p, vs, rfl, _⟩ := h; exact fun z => V.noConfusion z
/-! changes of one's own lists -/
def insL (xs : List α) (j : Int) (a : α) : List α := xs.take j.toNat ++ a :: xs.drop j.toNat
theorem fin_grd {p : Prop} [Decidable p] {r : Mo (Out ρ B S)} {D : Ends} (h : Fin K (Mo.grd p r) E LS LB O F0 H0 D) : p ∧ Fin K r E LS LB O F0 H0 D := by
  unfold Mo.grd at h
  split at h
  · exact ⟨by assumption, h⟩
  · exact h.elim
theorem s_pop0 {i : Nat} {xs : List α} [DecidableEq α] {k : Mo (Out ρ B S)} (hi : L[i]? = some (.ow (owL T) xs)) (hk : EvS K u E (L.set i (.ow (owL T) xs.dropLast)) k LS LB O) :
    EvS K (tSeq (tDrop (tBM0 K "list" rPop (mVar i))) u) E L (.grd (xs ≠ []) k) LS LB O := by
  intro F0 H0 σ F h H D hL ok fin
  obtain ⟨hne, fin⟩ := fin_grd fin
  obtain ⟨p, vs, e1, hp, hr, mm⟩ := hold_mut hL hi ok
  have hd : Prs T F xs.dropLast vs.dropLast := by
    rw [List.dropLast_eq_take, List.dropLast_eq_take, hr.len]; exact hr.take _
  obtain ⟨h', a1, a2⟩ := mm xs.dropLast vs.dropLast hd
  show mVar i σ H fun x H1 => tyV K "list" x H1 ∧ rPop x [] H1 (fun _ H3 => u D σ H3)
  have hl : 0 < vs.length := by rw [← hr.len]; exact List.length_pos_iff.mpr hne
  exact mvar_at e1 ⟨.inl ⟨rfl, vs, .of hp⟩, p, vs, vs[vs.length - 1], rfl, rfl, hp, List.getElem?_eq_getElem (by omega), hk F0 H0 σ _ h' _ D a1 a2 fin⟩
theorem prs_ins {xs : List α} {vs : List V} (q : Prs T H xs vs) (n : Nat) {a : α} {v : V} (hv : T.R a v H) : Prs T H (xs.take n ++ a :: xs.drop n) (vs.take n ++ v :: vs.drop n) := (q.take n).append (.cons hv (q.drop n))
theorem s_insert {i : Nat} {xs : List α} {ei : TE} {ri : Mo Int} {k : Int → α → Mo (Out ρ B S)} (hi : L[i]? = some (.ow (owL T) xs)) (hT : Imm T) (hei : EvF K ei E L ri tyInt) (he : EvF K e E L r T) (hk : ∀ j a, EvS K u E (L.set i (.ow (owL T) (insL xs j a))) (k j a) LS LB O) :
    EvS K (tSeq (tDrop (tBM K "list" mInsert (mVar i) (tCons ei (tCons e tNil)))) u) E L (ri.bind fun j => r.bind fun a => .grd (0 ≤ j ∧ j ≤ xs.length) (.lim (xs.length + 1) (k j a))) LS LB O := by
  intro F0 H0 σ F h H D hL ok fin
  obtain ⟨p, vs, e1, hp, hr, _⟩ := hold_mut hL hi ok
  show mVar i σ H fun x H1 => tyV K "list" x H1 ∧ tCons ei (tCons e tNil) σ H1 fun xs H2 => mInsert x xs H2 (fun _ H3 => u D σ H3)
  refine mvar_at e1 ⟨.inl ⟨rfl, vs, .of hp⟩, ?_⟩
  refine hei σ (un F h) H _ (hL.froz ok.2.1) ok.thaw (fin_ok (G := F) ok _ (.inl rfl) fin fun j F1 H1 hrj x1 v1 hv1 => ?_)
  cases hv1
  obtain ⟨o, hs, ht⟩ := ok.back x1
  rw [hrj] at fin
  have hL' := hL.mono hs
  refine he σ (un _ h) H1 _ (hL'.froz o.2.1) o.thaw (fin_ok (G := F) o _ (.inl rfl) fin fun a F2 H2 hra x2 v hv => ?_)
  obtain ⟨o', hs', ht'⟩ := o.back x2
  rw [hra] at fin
  obtain ⟨hj, fin⟩ := fin_grd (show Fin K (Mo.grd (0 ≤ j ∧ j ≤ xs.length) (Mo.lim (xs.length + 1) (k j a))) E LS LB O F0 H0 D from fin)
  obtain ⟨hz, fin⟩ := fin_lim fin
  obtain ⟨p', vs', e1', hp', hr', mm⟩ := hold_mut (hL'.mono hs') hi o'
  rw [e1] at e1'; cases e1'
  obtain ⟨h', a1, a2⟩ := mm (insL xs j a) (vs'.take j.toNat ++ v :: vs'.drop j.toNat) (prs_ins hr' _ (hT ht' hv))
  have hl := hr'.len
  have hm : min j.toNat vs'.length = j.toNat := by omega
  refine ⟨vs', hp', by omega, ⟨hj.1, by rw [sizeLine_eq] at hz; omega⟩, ?_⟩
  rw [hm]
  exact hk j a F0 H0 σ _ h' _ D a1 a2 fin
end
end L2

/-! # b: the functions, purely -/
namespace L2
open PySem PySem.Spec PyProof.Rows
section
variable {α β γ ρ S S' B : Type}
@[simp] theorem Mo.okB (a : α) (f : α → Mo β) : (Mo.ok a).bind f = f a := rfl
@[simp] theorem Mo.exB (c : String) (f : α → Mo β) : (Mo.ex c : Mo α).bind f = .ex c := rfl
@[simp] theorem Mo.noB (f : α → Mo β) : (Mo.no : Mo α).bind f = .no := rfl
@[simp] theorem Mo.noexO (a : α) : (Mo.ok a).noex = .ok a := rfl
@[simp] theorem Mo.optS (a : α) : Mo.opt (some a) = .ok a := rfl
@[simp] theorem thenO_nx (s : S) (k : S → Mo (Out ρ B S')) : thenO (.ok (.nx s)) k = k s := rfl
@[simp] theorem thenO_rt (a : ρ) (k : S → Mo (Out ρ B S')) : thenO (.ok (.rt a)) k = .ok (.rt a) := rfl
@[simp] theorem thenO_bk (b : B) (k : S → Mo (Out ρ B S')) : thenO (.ok (.bk b)) k = .ok (.bk b) := rfl
@[simp] theorem thenO_ct (b : B) (k : S → Mo (Out ρ B S')) : thenO (.ok (.ct b)) k = .ok (.ct b) := rfl
@[simp] theorem fnO_rt (a : ρ) : fnO (.ok (.rt a)) = .ok a := rfl
@[simp] theorem forO_nil (step : S → α → Mo (Out ρ S S)) (s : S) : forO (B := B) step [] s = .ok (.nx s) := rfl
theorem forO_cons (step : S → α → Mo (Out ρ S S)) (x : α) (xs : List α) (s : S) : forO (B := B) step (x :: xs) s = (step s x).bind fun o => match o with | .nx s' => forO step xs s' | .ct s' => forO step xs s' | .bk s' => .ok (.nx s') | .rt a => .ok (.rt a) := rfl
theorem forO_nx {step : S → α → Mo (Out ρ S S)} {x : α} {xs : List α} {s s' : S} (h : step s x = .ok (.nx s')) : forO (B := B) step (x :: xs) s = forO step xs s' := by rw [forO_cons, h]; rfl
theorem forO_ret {step : S → α → Mo (Out ρ S S)} {x : α} {xs : List α} {s : S} {a : ρ} (h : step s x = .ok (.rt a)) : forO (B := B) step (x :: xs) s = .ok (.rt a) := by rw [forO_cons, h]; rfl
theorem forO_foldl {step : S → α → Mo (Out ρ S S)} (g : S → α → S) : ∀ {xs : List α} {s : S}, (∀ s x, x ∈ xs → step s x = .ok (.nx (g s x))) → forO (B := B) step xs s = .ok (.nx (xs.foldl g s))
  | [], s, _ => rfl
  | x :: xs, s, h => by rw [forO_nx (h s x List.mem_cons_self), forO_foldl g fun s y hy => h s y (List.mem_cons_of_mem _ hy)]; rfl
/-- with an invariant over what is done already -/
theorem forO_inv {step : S → α → Mo (Out ρ S S)} (P : List α → S → Prop) : ∀ {xs : List α} (done : List α) {s : S}, P done s → (∀ d x s, (∃ r, done ++ xs = d ++ x :: r) → P d s → ∃ s', step s x = .ok (.nx s') ∧ P (d ++ [x]) s') → ∃ s', forO (B := B) step xs s = .ok (.nx s') ∧ P (done ++ xs) s'
  | [], done, s, h0, _ => ⟨s, rfl, by rw [List.append_nil]; exact h0⟩
  | x :: xs, done, s, h0, h => by
    obtain ⟨s1, e1, p1⟩ := h done x s ⟨xs, rfl⟩ h0
    obtain ⟨s2, e2, p2⟩ := forO_inv P (xs := xs) (done ++ [x]) p1 fun d y s ⟨r, hr⟩ hp => h d y s ⟨r, by rw [← hr]; simp⟩ hp
    exact ⟨s2, by rw [forO_nx e1, e2], by simpa using p2⟩
/-- a loop that only looks -/
theorem forO_all {step : Unit → α → Mo (Out ρ Unit Unit)} : ∀ {xs : List α}, (∀ x ∈ xs, step () x = .ok (.nx ())) → forO (B := B) step xs () = .ok (.nx ())
  | [], _ => rfl
  | x :: xs, h => by rw [forO_nx (h x List.mem_cons_self), forO_all fun y hy => h y (List.mem_cons_of_mem _ hy)]
/-- a loop that ends at the first that fails -/
theorem forO_find {step : Unit → α → Mo (Out ρ Unit Unit)} {p : α → Bool} {a : α → ρ} : ∀ {xs : List α}, (∀ x ∈ xs, step () x = if p x then .ok (.rt (a x)) else .ok (.nx ())) → forO (B := B) step xs () = match xs.find? p with | some x => .ok (.rt (a x)) | none => .ok (.nx ())
  | [], _ => rfl
  | x :: xs, h => by
    have h1 := h x List.mem_cons_self
    rw [List.find?_cons]
    cases e : p x with
    | true => rw [e, if_pos rfl] at h1; rw [forO_ret h1]
    | false => rw [e, if_neg (by decide)] at h1; rw [forO_nx h1, forO_find fun y hy => h y (List.mem_cons_of_mem _ hy)]
open PySem PySem.Spec PyProof.Rows in
theorem divG_ok {a j : Int} (h0 : 0 < j) (h : j.natAbs.log2 < 9000) : CDivG a j := by
  refine ⟨h0, ?_⟩
  unfold Builtin.divisionGoesByPylong
  simp only
  rw [Bool.and_eq_false_iff]
  left
  rw [decide_eq_false_iff_not]
  split <;> omega
theorem log2_lt {n k : Nat} (h : n < 2 ^ k) : n.log2 < k ∨ n = 0 := by
  by_cases hz : n = 0
  · exact .inr hz
  · exact .inl ((Nat.log2_lt hz).mpr h)
theorem divG_lt {a j : Int} (h0 : 0 < j) (h : j < 2 ^ 1000) : CDivG a j := by
  refine divG_ok h0 ?_
  have h1 : j.natAbs < 2 ^ 1000 := by
    have : ((2 : Int) ^ 1000) = ((2 ^ 1000 : Nat) : Int) := by rw [Int.natCast_pow]; rfl
    rw [this] at h
    omega
  rcases log2_lt h1 with h | h
  · omega
  · rw [h]; decide
open PySem PySem.Spec PyProof.Rows in
theorem bits_lt {i : Int} {k : Nat} (h : i.natAbs < 2 ^ k) : Builtin.Int.intBits i ≤ k := by
  unfold Builtin.Int.intBits
  split
  · exact Nat.zero_le _
  · rename_i hz
    rcases log2_lt h with h | h
    · omega
    · exact absurd (by simpa using Int.natAbs_eq_zero.mp h) hz
open PySem PySem.Spec PyProof.Rows in
theorem mulG_ok {i j : Int} (h1 : i.natAbs < 2 ^ 1000) (h2 : j.natAbs < 2 ^ 1000) : IntMulOk i j := by
  unfold IntMulOk
  have a := bits_lt h1
  have b := bits_lt h2
  intro h
  simp only [Bool.and_eq_true, Builtin.Int.intTooBig, decide_eq_true_eq, bitsLine_eq] at h
  omega
open PySem PySem.Spec PyProof.Rows in
theorem mulG_small {i j : Int} (h : -(2 ^ 64) < i ∧ i < 2 ^ 64 ∨ -(2 ^ 64) < j ∧ j < 2 ^ 64) : IntMulOk i j := CMul.ok h
@[simp] theorem grd_div {a j : Int} {k : Mo α} (h0 : 0 < j) (h1 : j < 1073741824) : Mo.grd (CDivG a j) k = k := Mo.grd_ok (divG_lt h0 (by omega))
@[simp] theorem grd_T {k : Mo α} [Decidable True] : Mo.grd True k = k := Mo.grd_ok trivial
@[simp] theorem grd_mod {j : Int} {k : Mo α} (h0 : 0 < j) : Mo.grd (0 < j) k = k := Mo.grd_ok h0
open PySem PySem.Spec PyProof.Rows in
@[simp] theorem grd_mulL {i j : Int} {k : Mo α} (h0 : -18446744073709551616 < i) (h1 : i < 18446744073709551616) : Mo.grd (IntMulOk i j) k = k := Mo.grd_ok (mulG_small (.inl ⟨by omega, by omega⟩))
open PySem PySem.Spec PyProof.Rows in
theorem grd_mulR {i j : Int} {k : Mo α} (h0 : -18446744073709551616 < j) (h1 : j < 18446744073709551616) : Mo.grd (IntMulOk i j) k = k := Mo.grd_ok (mulG_small (.inr ⟨by omega, by omega⟩))
theorem rngI_len (lo : Int) (n : Nat) : (rngI lo n).length = n := by unfold rngI; rw [List.length_map, List.length_range]
theorem rngI_mem {lo x : Int} {n : Nat} : x ∈ rngI lo n ↔ lo ≤ x ∧ x < lo + n := by
  unfold rngI
  simp only [List.mem_map, List.mem_range]
  constructor
  · rintro ⟨a, h, rfl⟩; omega
  · rintro ⟨h1, h2⟩; exact ⟨(x - lo).toNat, by omega, by omega⟩
theorem atI_nn {xs : List α} {k : Int} (h0 : 0 ≤ k) : atI xs k = xs[k.toNat]? := by
  unfold atI ixN
  rw [if_pos h0]
  split
  · rfl
  · rename_i h
    rw [List.getElem?_eq_none (by omega)]; rfl
theorem atI_some {xs : List α} {k : Int} (h0 : 0 ≤ k) (h1 : k < xs.length) : ∃ x, atI xs k = some x ∧ x ∈ xs := by
  rw [atI_nn h0, List.getElem?_eq_getElem (show k.toNat < xs.length by omega)]
  exact ⟨_, rfl, List.getElem_mem _⟩
theorem mod_idx {xs : List α} (k : Int) (h : xs ≠ []) : ∃ x, atI xs (k % (xs.length : Int)) = some x ∧ x ∈ xs := by
  have : 0 < xs.length := List.length_pos_iff.mpr h
  exact atI_some (Int.emod_nonneg _ (by omega)) (Int.emod_lt_of_pos _ (by omega))
theorem compM_ex {f : α → Mo (Option β)} {P : α → β → Prop} : ∀ {xs : List α} {acc : List β}, (∀ x ∈ xs, ∃ y, f x = .ok (some y) ∧ P x y) → acc.length + xs.length ≤ 100000 → ∃ ys, compM f xs acc = .ok (acc ++ ys) ∧ Paired P xs ys
  | [], acc, _, _ => ⟨[], by unfold compM; rw [List.append_nil], .nil⟩
  | x :: xs, acc, h, hl => by
    rw [List.length_cons] at hl
    obtain ⟨y, e, p⟩ := h x List.mem_cons_self
    obtain ⟨ys, e2, p2⟩ := compM_ex (f := f) (P := P) (xs := xs) (acc := acc ++ [y]) (fun z hz => h z (List.mem_cons_of_mem _ hz)) (by rw [List.length_append, List.length_singleton]; omega)
    refine ⟨y :: ys, ?_, .cons p p2⟩
    unfold compM
    rw [e, Mo.okB]
    show Mo.lim _ _ = _
    rw [Mo.lim_ok (by omega), e2]
    simp
theorem paired_mem {P : α → β → Prop} {xs : List α} {ys : List β} (h : Paired P xs ys) {y : β} (hy : y ∈ ys) : ∃ x ∈ xs, P x y := by
  induction h with
  | nil => cases hy
  | cons r t ih =>
    rcases List.mem_cons.mp hy with rfl | hy
    · exact ⟨_, List.mem_cons_self, r⟩
    · obtain ⟨x, hx, p⟩ := ih hy; exact ⟨x, List.mem_cons_of_mem _ hx, p⟩
theorem eqL_refl {q : α → α → Bool} (hq : ∀ a, q a a = true) : ∀ xs : List α, eqL q xs xs = true
  | [] => rfl
  | x :: xs => by unfold eqL; rw [hq, eqL_refl hq xs]; rfl
theorem cutG_len (xs : List α) (lo hi : Option Int) : (cutG xs lo hi).length ≤ xs.length := by
  unfold cutG; rw [List.length_take, List.length_drop]; omega
theorem cutG_mem {xs : List α} {lo hi : Option Int} {x : α} (h : x ∈ cutG xs lo hi) : x ∈ xs := List.mem_of_mem_drop (List.mem_of_mem_take h)
theorem ite_ok {p : Bool} {a b : Mo α} {x : α} (h1 : p = true → a = .ok x) (h2 : p = false → b = .ok x) : (if p then a else b) = .ok x := by
  cases p with
  | true => exact h1 rfl
  | false => exact h2 rfl
end
end L2

namespace K32
open PySem PySem.Spec PyProof.Rows L2
def b_law_power (p_many_here : Int) : Mo (Out Int Unit Unit) :=
  (Mo.bind (Mo.ok (1 : Int)) fun number_1 => (thenO (S := Int) (Mo.bind (Mo.bind (Mo.ok p_many_here) fun c_3 => Mo.grd (-(2 ^ 62) ≤ c_3 ∧ c_3 < 2 ^ 62) (Mo.ok (rngI 0 c_3.toNat))) fun xs_8 => forO (fun (s_2 : Int) x_4 => (Mo.bind (Mo.bind (Mo.ok (10 : Int)) fun a_6 => Mo.bind (Mo.ok s_2) fun b_7 => Mo.grd (IntMulOk a_6 b_7) (Mo.ok (a_6 * b_7))) fun number_5 => (Mo.ok (.nx number_5)))) xs_8 number_1) fun s_2 => (Mo.bind (Mo.ok s_2) fun r_9 => Mo.ok (.rt r_9))))
def f_law_power (p_many_here : Int) : Mo Int := fnO (b_law_power p_many_here)
def b_law_greatest (p_field_here : (Int × Int)) : Mo (Out Int Unit Unit) :=
  (Mo.bind (Mo.bind (Mo.bind (Mo.bind (Mo.bind (Mo.bind (Mo.ok p_field_here) fun a_1 => Mo.ok a_1.2) fun a_3 => Mo.bind (Mo.bind (Mo.ok p_field_here) fun a_2 => Mo.ok a_2.1) fun b_4 => Mo.ok (a_3 - b_4)) fun a_5 => Mo.bind (Mo.ok (1 : Int)) fun b_6 => Mo.ok (a_5 + b_6)) fun c_7 => Mo.noex (f_law_power c_7)) fun a_8 => Mo.bind (Mo.ok (1 : Int)) fun b_9 => Mo.ok (a_8 - b_9)) fun r_10 => Mo.ok (.rt r_10))
def f_law_greatest (p_field_here : (Int × Int)) : Mo Int := fnO (b_law_greatest p_field_here)
def b_law_many (p_cell : Int) (p_sums : (List (Int × Int))) (p_full : Int) : Mo (Out Int Unit Unit) :=
  (Mo.bind (Mo.bind (Mo.ok p_cell) fun a_2 => Mo.bind (Mo.ok (4 : Int)) fun b_3 => Mo.grd (0 < b_3) (Mo.ok (a_2 % b_3))) fun way_1 => (thenO (S := Unit) (Mo.bind (Mo.bind (Mo.ok way_1) fun a_4 => Mo.bind (Mo.ok (0 : Int)) fun b_5 => Mo.ok (decide (a_4 = b_5))) fun c_6 => if c_6 then (Mo.bind (Mo.bind (Mo.bind (Mo.ok p_cell) fun a_8 => Mo.bind (Mo.ok (4 : Int)) fun b_9 => Mo.grd (CDivG a_8 b_9) (Mo.ok (a_8 / b_9))) fun a_10 => Mo.bind (Mo.ok (201 : Int)) fun b_11 => Mo.grd (0 < b_11) (Mo.ok (a_10 % b_11))) fun r_12 => Mo.ok (.rt r_12)) else (Mo.ok (.nx ()))) fun _ => (thenO (S := Unit) (Mo.bind (Mo.bind (Mo.bind (Mo.ok way_1) fun a_13 => Mo.bind (Mo.ok (1 : Int)) fun b_14 => Mo.ok (decide (a_13 = b_14))) fun c_17 => if c_17 then Mo.ok true else (Mo.bind (Mo.ok p_sums) fun a_15 => Mo.bind (Mo.ok ([] : List (Int × Int))) fun b_16 => Mo.ok (((eqL (fun a b => (fun a b => decide (a = b)) a.1 b.1 && (fun a b => decide (a = b)) a.2 b.2)) a_15 b_16)))) fun c_18 => if c_18 then (Mo.bind (Mo.bind (Mo.bind (Mo.ok p_cell) fun a_20 => Mo.bind (Mo.ok (4 : Int)) fun b_21 => Mo.grd (CDivG a_20 b_21) (Mo.ok (a_20 / b_21))) fun a_26 => Mo.bind (Mo.bind (Mo.bind (Mo.ok (10 : Int)) fun a_22 => Mo.bind (Mo.ok (60 : Int)) fun b_23 => Mo.grd (CPow a_22 b_23) (Mo.ok (a_22 ^ b_23.toNat))) fun a_24 => Mo.bind (Mo.ok (1 : Int)) fun b_25 => Mo.ok (a_24 - b_25)) fun b_27 => Mo.grd (0 < b_27) (Mo.ok (a_26 % b_27))) fun r_28 => Mo.ok (.rt r_28)) else (Mo.ok (.nx ()))) fun _ => (Mo.bind (Mo.bind (Mo.ok p_sums) fun a_35 => Mo.bind (Mo.bind (Mo.bind (Mo.ok p_cell) fun a_30 => Mo.bind (Mo.ok (8 : Int)) fun b_31 => Mo.grd (CDivG a_30 b_31) (Mo.ok (a_30 / b_31))) fun a_33 => Mo.bind (Mo.bind (Mo.ok p_sums) fun c_32 => Mo.ok (c_32.length : Int)) fun b_34 => Mo.grd (0 < b_34) (Mo.ok (a_33 % b_34))) fun b_36 => Mo.opt (atI a_35 b_36)) fun field_here_29 => (Mo.bind (Mo.bind (Mo.bind (Mo.bind (Mo.ok p_full) fun a_37 => Mo.bind (Mo.ok (1 : Int)) fun b_38 => Mo.ok (a_37 - b_38)) fun a_40 => Mo.bind (Mo.bind (Mo.ok field_here_29) fun c_39 => Mo.noex (f_law_greatest c_39)) fun b_41 => Mo.grd (CDivG a_40 b_41) (Mo.ok (a_40 / b_41))) fun a_46 => Mo.bind (Mo.bind (Mo.bind (Mo.ok p_cell) fun a_42 => Mo.bind (Mo.ok (4 : Int)) fun b_43 => Mo.grd (CDivG a_42 b_43) (Mo.ok (a_42 / b_43))) fun a_44 => Mo.bind (Mo.ok (2 : Int)) fun b_45 => Mo.grd (0 < b_45) (Mo.ok (a_44 % b_45))) fun b_47 => Mo.ok (a_46 + b_47)) fun r_48 => Mo.ok (.rt r_48))))))
def f_law_many (p_cell : Int) (p_sums : (List (Int × Int))) (p_full : Int) : Mo Int := fnO (b_law_many p_cell p_sums p_full)
def b_ten_to (p_power : Int) : Mo (Out Int Unit Unit) :=
  (Mo.bind (Mo.ok (1 : Int)) fun value_1 => (thenO (S := Int) (Mo.bind (Mo.bind (Mo.ok p_power) fun c_3 => Mo.grd (-(2 ^ 62) ≤ c_3 ∧ c_3 < 2 ^ 62) (Mo.ok (rngI 0 c_3.toNat))) fun xs_8 => forO (fun (s_2 : Int) x_4 => (Mo.bind (Mo.bind (Mo.ok s_2) fun a_6 => Mo.bind (Mo.ok (10 : Int)) fun b_7 => Mo.grd (IntMulOk a_6 b_7) (Mo.ok (a_6 * b_7))) fun value_5 => (Mo.ok (.nx value_5)))) xs_8 value_1) fun s_2 => (Mo.bind (Mo.ok s_2) fun r_9 => Mo.ok (.rt r_9))))
def f_ten_to (p_power : Int) : Mo Int := fnO (b_ten_to p_power)
def b_width_of (p_field : (Int × Int)) : Mo (Out Int Unit Unit) :=
  (Mo.bind (Mo.bind (Mo.bind (Mo.bind (Mo.ok p_field) fun a_1 => Mo.ok a_1.2) fun a_3 => Mo.bind (Mo.bind (Mo.ok p_field) fun a_2 => Mo.ok a_2.1) fun b_4 => Mo.ok (a_3 - b_4)) fun a_5 => Mo.bind (Mo.ok (1 : Int)) fun b_6 => Mo.ok (a_5 + b_6)) fun r_7 => Mo.ok (.rt r_7))
def f_width_of (p_field : (Int × Int)) : Mo Int := fnO (b_width_of p_field)
def b_may_run_over (p_sums : (List (Int × Int))) (p_figures : Int) (p_many : Int) : Mo (Out (List Bool) Unit Unit) :=
  (Mo.bind (Mo.bind (Mo.ok p_sums) fun xs_11 => compM (fun x_1 => cond1 (Mo.ok true) (Mo.bind (Mo.bind (Mo.ok p_many) fun a_6 => Mo.bind (Mo.bind (Mo.bind (Mo.bind (Mo.ok x_1) fun c_2 => Mo.noex (f_width_of c_2)) fun c_3 => Mo.noex (f_ten_to c_3)) fun a_4 => Mo.bind (Mo.ok (1 : Int)) fun b_5 => Mo.ok (a_4 - b_5)) fun b_7 => Mo.grd (IntMulOk a_6 b_7) (Mo.ok (a_6 * b_7))) fun a_9 => Mo.bind (Mo.bind (Mo.ok p_figures) fun c_8 => Mo.noex (f_ten_to c_8)) fun b_10 => Mo.ok (decide (b_10 ≤ a_9)))) xs_11 []) fun r_12 => Mo.ok (.rt r_12))
def f_may_run_over (p_sums : (List (Int × Int))) (p_figures : Int) (p_many : Int) : Mo (List Bool) := fnO (b_may_run_over p_sums p_figures p_many)
def b_law_field (p_cell : Int) : Mo (Out (Int × Int) Unit Unit) :=
  (Mo.bind (Mo.bind (Mo.ok (1 : Int)) fun a_4 => Mo.bind (Mo.bind (Mo.ok p_cell) fun a_2 => Mo.bind (Mo.ok (36 : Int)) fun b_3 => Mo.grd (0 < b_3) (Mo.ok (a_2 % b_3))) fun b_5 => Mo.ok (a_4 + b_5)) fun first_1 => (Mo.bind (Mo.bind (Mo.ok first_1) fun a_26 => Mo.bind (Mo.bind (Mo.bind (Mo.ok (36 : Int)) fun a_23 => Mo.bind (Mo.bind (Mo.ok first_1) fun a_21 => Mo.bind (Mo.bind (Mo.bind (Mo.ok p_cell) fun a_6 => Mo.bind (Mo.ok (36 : Int)) fun b_7 => Mo.grd (CDivG a_6 b_7) (Mo.ok (a_6 / b_7))) fun a_19 => Mo.bind (Mo.bind (Mo.bind (Mo.bind (Mo.ok (12 : Int)) fun a_12 => Mo.bind (Mo.bind (Mo.ok (12 : Int)) fun a_10 => Mo.bind (Mo.bind (Mo.ok (12 : Int)) fun a_8 => Mo.bind (Mo.ok (36 : Int)) fun c_9 => Mo.ok (a_8, c_9)) fun c_11 => Mo.ok (a_10, c_11)) fun c_13 => Mo.ok (a_12, c_13)) fun c_14 => Mo.ok [c_14.1, c_14.2.1, c_14.2.2.1, c_14.2.2.2]) fun a_17 => Mo.bind (Mo.bind (Mo.ok p_cell) fun a_15 => Mo.bind (Mo.ok (4 : Int)) fun b_16 => Mo.grd (0 < b_16) (Mo.ok (a_15 % b_16))) fun b_18 => Mo.opt (atI a_17 b_18)) fun b_20 => Mo.grd (0 < b_20) (Mo.ok (a_19 % b_20))) fun b_22 => Mo.ok (a_21 + b_22)) fun c_24 => Mo.ok (a_23, c_24)) fun c_25 => Mo.ok (min c_25.1 c_25.2)) fun c_27 => Mo.ok (a_26, c_27)) fun r_28 => Mo.ok (.rt r_28)))
def f_law_field (p_cell : Int) : Mo (Int × Int) := fnO (b_law_field p_cell)
def b_law_cell_at (p_script : (List Int)) (p_k : Int) : Mo (Out Int Unit Unit) :=
  (thenO (S := Unit) (Mo.bind (Mo.bind (Mo.ok p_k) fun a_2 => Mo.bind (Mo.bind (Mo.ok p_script) fun c_1 => Mo.ok (c_1.length : Int)) fun b_3 => Mo.ok (decide (a_2 < b_3))) fun c_4 => if c_4 then (Mo.bind (Mo.bind (Mo.ok p_script) fun a_6 => Mo.bind (Mo.ok p_k) fun b_7 => Mo.opt (atI a_6 b_7)) fun r_8 => Mo.ok (.rt r_8)) else (Mo.ok (.nx ()))) fun _ => (Mo.bind (Mo.ok (0 : Int)) fun r_9 => Mo.ok (.rt r_9)))
def f_law_cell_at (p_script : (List Int)) (p_k : Int) : Mo Int := fnO (b_law_cell_at p_script p_k)
def b_law_good (p_found : (List Bool)) (p_sums : (List (Int × Int))) (p_full : Int) (p_many_here : Int) : Mo (Out Bool Unit Unit) :=
  (thenO (S := Unit) (Mo.bind (Mo.bind (Mo.bind (Mo.bind (Mo.ok p_found) fun a_1 => Mo.ok true) fun a_2 => Mo.ok (!a_2)) fun c_7 => if c_7 then Mo.ok true else (Mo.bind (Mo.bind (Mo.ok p_found) fun c_3 => Mo.ok (c_3.length : Int)) fun a_5 => Mo.bind (Mo.bind (Mo.ok p_sums) fun c_4 => Mo.ok (c_4.length : Int)) fun b_6 => Mo.ok (!decide (a_5 = b_6)))) fun c_8 => if c_8 then (Mo.bind (Mo.ok false) fun r_10 => Mo.ok (.rt r_10)) else (Mo.ok (.nx ()))) fun _ => (thenO (S := Unit) (Mo.bind (Mo.bind (Mo.bind (Mo.ok p_found) fun a_12 => Mo.bind (Mo.ok p_sums) fun c_13 => Mo.ok (a_12, c_13)) fun c_14 => Mo.ok (c_14.1.zip c_14.2)) fun xs_28 => forO (fun (_ : Unit) x_15 => (Mo.bind (Mo.bind (Mo.bind (Mo.bind (Mo.ok x_15.1) fun a_16 => Mo.ok true) fun a_17 => Mo.ok (!a_17)) fun c_25 => if c_25 then Mo.ok true else (Mo.bind (Mo.ok x_15.1) fun a_23 => Mo.bind (Mo.bind (Mo.bind (Mo.ok p_many_here) fun a_19 => Mo.bind (Mo.bind (Mo.ok x_15.2) fun c_18 => Mo.noex (f_law_greatest c_18)) fun b_20 => Mo.grd (IntMulOk a_19 b_20) (Mo.ok (a_19 * b_20))) fun a_21 => Mo.bind (Mo.ok p_full) fun b_22 => Mo.ok (decide (b_22 ≤ a_21))) fun b_24 => Mo.ok (!decide (a_23 = b_24)))) fun c_26 => if c_26 then (Mo.bind (Mo.ok false) fun r_27 => Mo.ok (.rt r_27)) else (Mo.ok (.nx ())))) xs_28 ()) fun _ => (Mo.bind (Mo.ok true) fun r_29 => Mo.ok (.rt r_29))))
def f_law_good (p_found : (List Bool)) (p_sums : (List (Int × Int))) (p_full : Int) (p_many_here : Int) : Mo Bool := fnO (b_law_good p_found p_sums p_full p_many_here)
def b_law (p_script : (List Int)) : Mo (Out Bool Unit Unit) :=
  (Mo.bind (Mo.bind (Mo.ok (1 : Int)) fun a_7 => Mo.bind (Mo.bind (Mo.bind (Mo.bind (Mo.ok p_script) fun a_2 => Mo.bind (Mo.ok (0 : Int)) fun c_3 => Mo.ok (a_2, c_3)) fun c_4 => Mo.noex (f_law_cell_at c_4.1 c_4.2)) fun a_5 => Mo.bind (Mo.ok (12 : Int)) fun b_6 => Mo.grd (0 < b_6) (Mo.ok (a_5 % b_6))) fun b_8 => Mo.ok (a_7 + b_8)) fun figures_1 => (Mo.bind (Mo.bind (Mo.ok figures_1) fun c_10 => Mo.noex (f_law_power c_10)) fun full_9 => (Mo.bind (Mo.bind (Mo.bind (Mo.ok p_script) fun a_14 => Mo.bind (Mo.bind (Mo.ok (2 : Int)) fun i_12 => Mo.ok (some i_12)) fun b_15 => Mo.bind (Mo.bind (Mo.ok (22 : Int)) fun i_13 => Mo.ok (some i_13)) fun d_16 => Mo.ok (cutG a_14 b_15 d_16)) fun xs_19 => compM (fun x_17 => cond1 (Mo.ok true) (Mo.bind (Mo.ok x_17) fun c_18 => Mo.noex (f_law_field c_18))) xs_19 []) fun sums_11 => (Mo.bind (Mo.bind (Mo.bind (Mo.bind (Mo.bind (Mo.ok p_script) fun a_21 => Mo.bind (Mo.ok (1 : Int)) fun c_22 => Mo.ok (a_21, c_22)) fun c_23 => Mo.noex (f_law_cell_at c_23.1 c_23.2)) fun a_26 => Mo.bind (Mo.bind (Mo.ok sums_11) fun a_24 => Mo.bind (Mo.ok full_9) fun c_25 => Mo.ok (a_24, c_25)) fun c_27 => Mo.ok (a_26, c_27)) fun c_28 => Mo.noex (f_law_many c_28.1 c_28.2.1 c_28.2.2)) fun many_here_20 => (Mo.bind (Mo.bind (Mo.ok sums_11) fun c_30 => Mo.ok c_30) fun handed_29 => (Mo.bind (Mo.bind (Mo.bind (Mo.ok handed_29) fun a_34 => Mo.bind (Mo.bind (Mo.ok figures_1) fun a_32 => Mo.bind (Mo.ok many_here_20) fun c_33 => Mo.ok (a_32, c_33)) fun c_35 => Mo.ok (a_34, c_35)) fun c_36 => Mo.noex (f_may_run_over c_36.1 c_36.2.1 c_36.2.2)) fun found_31 => (thenO (S := Unit) (Mo.bind (Mo.bind (Mo.bind (Mo.bind (Mo.bind (Mo.ok found_31) fun a_41 => Mo.bind (Mo.bind (Mo.ok sums_11) fun a_39 => Mo.bind (Mo.bind (Mo.ok full_9) fun a_37 => Mo.bind (Mo.ok many_here_20) fun c_38 => Mo.ok (a_37, c_38)) fun c_40 => Mo.ok (a_39, c_40)) fun c_42 => Mo.ok (a_41, c_42)) fun c_43 => Mo.noex (f_law_good c_43.1 c_43.2.1 c_43.2.2.1 c_43.2.2.2)) fun a_44 => Mo.ok (!a_44)) fun c_47 => if c_47 then Mo.ok true else (Mo.bind (Mo.ok handed_29) fun a_45 => Mo.bind (Mo.ok sums_11) fun b_46 => Mo.ok (!((eqL (fun a b => (fun a b => decide (a = b)) a.1 b.1 && (fun a b => decide (a = b)) a.2 b.2)) a_45 b_46)))) fun c_48 => if c_48 then (Mo.bind (Mo.ok false) fun r_50 => Mo.ok (.rt r_50)) else (Mo.ok (.nx ()))) fun _ => (Mo.bind (Mo.bind (Mo.ok (1 : Int)) fun a_51 => Mo.bind (Mo.ok (36 : Int)) fun c_52 => Mo.ok (a_51, c_52)) fun a_53 => Mo.lim (handed_29.length + 1) (Mo.bind (Mo.ok true) fun a_54 => Mo.lim (found_31.length + 1) (Mo.bind (Mo.bind (Mo.bind (Mo.ok sums_11) fun a_60 => Mo.bind (Mo.bind (Mo.ok figures_1) fun a_58 => Mo.bind (Mo.bind (Mo.ok many_here_20) fun a_56 => Mo.bind (Mo.ok (1 : Int)) fun b_57 => Mo.ok (a_56 + b_57)) fun c_59 => Mo.ok (a_58, c_59)) fun c_61 => Mo.ok (a_60, c_61)) fun c_62 => Mo.noex (f_may_run_over c_62.1 c_62.2.1 c_62.2.2)) fun more_55 => (Mo.bind (Mo.bind (Mo.bind (Mo.ok sums_11) fun a_66 => Mo.bind (Mo.bind (Mo.ok figures_1) fun a_64 => Mo.bind (Mo.ok many_here_20) fun c_65 => Mo.ok (a_64, c_65)) fun c_67 => Mo.ok (a_66, c_67)) fun c_68 => Mo.noex (f_may_run_over c_68.1 c_68.2.1 c_68.2.2)) fun again_63 => (Mo.bind (Mo.bind (Mo.bind (Mo.bind (Mo.ok more_55) fun a_75 => Mo.bind (Mo.bind (Mo.ok sums_11) fun a_73 => Mo.bind (Mo.bind (Mo.ok full_9) fun a_71 => Mo.bind (Mo.bind (Mo.ok many_here_20) fun a_69 => Mo.bind (Mo.ok (1 : Int)) fun b_70 => Mo.ok (a_69 + b_70)) fun c_72 => Mo.ok (a_71, c_72)) fun c_74 => Mo.ok (a_73, c_74)) fun c_76 => Mo.ok (a_75, c_76)) fun c_77 => Mo.noex (f_law_good c_77.1 c_77.2.1 c_77.2.2.1 c_77.2.2.2)) fun c_85 => if c_85 then (Mo.bind (Mo.bind (Mo.ok again_63) fun a_82 => Mo.bind (Mo.bind (Mo.ok sums_11) fun a_80 => Mo.bind (Mo.bind (Mo.ok full_9) fun a_78 => Mo.bind (Mo.ok many_here_20) fun c_79 => Mo.ok (a_78, c_79)) fun c_81 => Mo.ok (a_80, c_81)) fun c_83 => Mo.ok (a_82, c_83)) fun c_84 => Mo.noex (f_law_good c_84.1 c_84.2.1 c_84.2.2.1 c_84.2.2.2)) else Mo.ok false) fun r_86 => Mo.ok (.rt r_86)))))))))))))
def f_law (p_script : (List Int)) : Mo Bool := fnO (b_law p_script)
end K32

namespace K32
open PySem PySem.Spec PyProof.Rows L2
def top (i : Nat) : Stmt := PySem.Challenge.pw_cardshop_k32_told_ahead.main.body.getD i (.Pass ⟨0, 0, 0, 0⟩)
abbrev s_law_power : Stmt := top 8
abbrev s_law_greatest : Stmt := top 10
abbrev s_law_many : Stmt := top 11
abbrev s_ten_to : Stmt := top 1
abbrev s_width_of : Stmt := top 3
abbrev s_may_run_over : Stmt := top 5
abbrev s_law_field : Stmt := top 9
abbrev s_law_cell_at : Stmt := top 7
abbrev s_law_good : Stmt := top 12
abbrev s_law : Stmt := top 13
def sp_law_power (K : PySem.W.Frag) : Sp := Ct K (csLast tyInt) (fun c => f_law_power c) (owF tyInt)
def sp_law_greatest (K : PySem.W.Frag) : Sp := Ct K (csLast (tyTup (csCons tyInt (csLast tyInt)))) (fun c => f_law_greatest c) (owF tyInt)
def sp_law_many (K : PySem.W.Frag) : Sp := Ct K (csCons tyInt (csCons (tyL (tyTup (csCons tyInt (csLast tyInt)))) (csLast tyInt))) (fun c => f_law_many c.1 c.2.1 c.2.2) (owF tyInt)
def sp_ten_to (K : PySem.W.Frag) : Sp := Ct K (csLast tyInt) (fun c => f_ten_to c) (owF tyInt)
def sp_width_of (K : PySem.W.Frag) : Sp := Ct K (csLast (tyTup (csCons tyInt (csLast tyInt)))) (fun c => f_width_of c) (owF tyInt)
def sp_may_run_over (K : PySem.W.Frag) : Sp := Ct K (csCons (tyL (tyTup (csCons tyInt (csLast tyInt)))) (csCons tyInt (csLast tyInt))) (fun c => f_may_run_over c.1 c.2.1 c.2.2) (owL tyBl)
def sp_law_field (K : PySem.W.Frag) : Sp := Ct K (csLast tyInt) (fun c => f_law_field c) (owF (tyTup (csCons tyInt (csLast tyInt))))
def sp_law_cell_at (K : PySem.W.Frag) : Sp := Ct K (csCons (tySc K) (csLast tyInt)) (fun c => f_law_cell_at c.1 c.2) (owF tyInt)
def sp_law_good (K : PySem.W.Frag) : Sp := Ct K (csCons (tyL tyBl) (csCons (tyL (tyTup (csCons tyInt (csLast tyInt)))) (csCons tyInt (csLast tyInt)))) (fun c => f_law_good c.1 c.2.1 c.2.2.1 c.2.2.2) (owF tyBl)
def sp_law (K : PySem.W.Frag) : Sp := fun vs H Q _ => ∃ (a : Addr) (ns : List Int), vs = [.ref a] ∧ SqL K H a (ns.map V.int) ∧ ns.length ≤ 63 ∧ ∀ H', Q (.bl true) H'
def t_law_power (K : PySem.W.Frag) : TS := (tSeq (tAsg (tC (.int 1)) (gName 1)) (tSeq (tFor (mRng1 (tCons (mVar 0) tNil)) (gName 2) (tAsg (tOp mMulG (tC (.int 10)) (mVar 1)) (gName 1))) (tRet (mVar 1))))
abbrev RD_law_power (K : PySem.W.Frag) : Prop := ∀ vs H Q E, sp_law_power K vs H Q E → t_law_power K { nx := fun _ H' => Q .non H', rt := Q } (start ["_law_many_here", "_law_number", "_law_k"] vs) H
theorem len_law_power {K : PySem.W.Frag} : ∀ vs H Q E, sp_law_power K vs H Q E → vs.length = 1 := by
  rintro vs H Q E ⟨F, c, _, hc, _⟩; exact (csn_last : CsN (csLast tyInt) 1) hc
def t_law_greatest (K : PySem.W.Frag) : TS := (tRet (tOp mSub (tCall (sp_law_power K) [] E0 (tCons (tOp mAdd (tOp mSub (tOp (mIx K) (mVar 0) (tC (.int 1))) (tOp (mIx K) (mVar 0) (tC (.int 0)))) (tC (.int 1))) tNil)) (tC (.int 1))))
abbrev RD_law_greatest (K : PySem.W.Frag) : Prop := ∀ vs H Q E, sp_law_greatest K vs H Q E → t_law_greatest K { nx := fun _ H' => Q .non H', rt := Q } (start ["_law_field_here"] vs) H
theorem len_law_greatest {K : PySem.W.Frag} : ∀ vs H Q E, sp_law_greatest K vs H Q E → vs.length = 1 := by
  rintro vs H Q E ⟨F, c, _, hc, _⟩; exact (csn_last : CsN (csLast (tyTup (csCons tyInt (csLast tyInt)))) 1) hc
def t_law_many (K : PySem.W.Frag) : TS := (tSeq (tAsg (tOp mMod (mVar 0) (tC (.int 4))) (gName 3)) (tSeq (mIfS (mTest (tOp (mEqK K) (mVar 3) (tC (.int 0)))) (tRet (tOp mMod (tOp mDivG (mVar 0) (tC (.int 4))) (tC (.int 201)))) tNext) (tSeq (mIfS (mOr (mTest (tOp (mEqK K) (mVar 3) (tC (.int 1)))) (mTest (tOp (mEqK K) (mVar 1) (tLst tNil)))) (tRet (tOp mMod (tOp mDivG (mVar 0) (tC (.int 4))) (tOp mSub (tOp mPow (tC (.int 10)) (tC (.int 60))) (tC (.int 1))))) tNext) (tSeq (tAsg (tOp (mIx K) (mVar 1) (tOp mMod (tOp mDivG (mVar 0) (tC (.int 8))) (tCB (mLen K) (tCons (mVar 1) tNil)))) (gName 4)) (tRet (tOp mAdd (tOp mDivG (tOp mSub (mVar 2) (tC (.int 1))) (tCall (sp_law_greatest K) [] E0 (tCons (mVar 4) tNil))) (tOp mMod (tOp mDivG (mVar 0) (tC (.int 4))) (tC (.int 2)))))))))
abbrev RD_law_many (K : PySem.W.Frag) : Prop := ∀ vs H Q E, sp_law_many K vs H Q E → t_law_many K { nx := fun _ H' => Q .non H', rt := Q } (start ["_law_cell", "_law_sums", "_law_full", "_law_way", "_law_field_here"] vs) H
theorem len_law_many {K : PySem.W.Frag} : ∀ vs H Q E, sp_law_many K vs H Q E → vs.length = 3 := by
  rintro vs H Q E ⟨F, c, _, hc, _⟩; exact ((csn_cons (csn_cons csn_last)) : CsN (csCons tyInt (csCons (tyL (tyTup (csCons tyInt (csLast tyInt)))) (csLast tyInt))) 3) hc
def t_ten_to (K : PySem.W.Frag) : TS := (tSeq (tAsg (tC (.int 1)) (gName 1)) (tSeq (tFor (mRng1 (tCons (mVar 0) tNil)) (gName 2) (tAsg (tOp mMulG (mVar 1) (tC (.int 10))) (gName 1))) (tRet (mVar 1))))
abbrev RD_ten_to (K : PySem.W.Frag) : Prop := ∀ vs H Q E, sp_ten_to K vs H Q E → t_ten_to K { nx := fun _ H' => Q .non H', rt := Q } (start ["power", "value", "step"] vs) H
theorem len_ten_to {K : PySem.W.Frag} : ∀ vs H Q E, sp_ten_to K vs H Q E → vs.length = 1 := by
  rintro vs H Q E ⟨F, c, _, hc, _⟩; exact (csn_last : CsN (csLast tyInt) 1) hc
def t_width_of (K : PySem.W.Frag) : TS := (tRet (tOp mAdd (tOp mSub (tOp (mIx K) (mVar 0) (tC (.int 1))) (tOp (mIx K) (mVar 0) (tC (.int 0)))) (tC (.int 1))))
abbrev RD_width_of (K : PySem.W.Frag) : Prop := ∀ vs H Q E, sp_width_of K vs H Q E → t_width_of K { nx := fun _ H' => Q .non H', rt := Q } (start ["field"] vs) H
theorem len_width_of {K : PySem.W.Frag} : ∀ vs H Q E, sp_width_of K vs H Q E → vs.length = 1 := by
  rintro vs H Q E ⟨F, c, _, hc, _⟩; exact (csn_last : CsN (csLast (tyTup (csCons tyInt (csLast tyInt)))) 1) hc
def t_may_run_over (K : PySem.W.Frag) : TS := (tRet (tComp ["field"] [("many", 2), ("figures", 1)] (iAny K (mVar 0)) (gName 0) tTrue (tOp mGe (tOp mMulG (mVar 1) (tOp mSub (tCall (sp_ten_to K) [] E0 (tCons (tCall (sp_width_of K) [] E0 (tCons (mVar 0) tNil)) tNil)) (tC (.int 1)))) (tCall (sp_ten_to K) [] E0 (tCons (mVar 2) tNil)))))
abbrev RD_may_run_over (K : PySem.W.Frag) : Prop := ∀ vs H Q E, sp_may_run_over K vs H Q E → t_may_run_over K { nx := fun _ H' => Q .non H', rt := Q } (start ["sums", "figures", "many"] vs) H
theorem len_may_run_over {K : PySem.W.Frag} : ∀ vs H Q E, sp_may_run_over K vs H Q E → vs.length = 3 := by
  rintro vs H Q E ⟨F, c, _, hc, _⟩; exact ((csn_cons (csn_cons csn_last)) : CsN (csCons (tyL (tyTup (csCons tyInt (csLast tyInt)))) (csCons tyInt (csLast tyInt))) 3) hc
def t_law_field (K : PySem.W.Frag) : TS := (tSeq (tAsg (tOp mAdd (tC (.int 1)) (tOp mMod (mVar 0) (tC (.int 36)))) (gName 1)) (tRet (tTup (tCons (mVar 1) (tCons (tCB (mTwo min) (tCons (tC (.int 36)) (tCons (tOp mAdd (mVar 1) (tOp mMod (tOp mDivG (mVar 0) (tC (.int 36))) (tOp (mIx K) (tLst (tCons (tC (.int 12)) (tCons (tC (.int 12)) (tCons (tC (.int 12)) (tCons (tC (.int 36)) tNil))))) (tOp mMod (mVar 0) (tC (.int 4)))))) tNil))) tNil)))))
abbrev RD_law_field (K : PySem.W.Frag) : Prop := ∀ vs H Q E, sp_law_field K vs H Q E → t_law_field K { nx := fun _ H' => Q .non H', rt := Q } (start ["_law_cell", "_law_first"] vs) H
theorem len_law_field {K : PySem.W.Frag} : ∀ vs H Q E, sp_law_field K vs H Q E → vs.length = 1 := by
  rintro vs H Q E ⟨F, c, _, hc, _⟩; exact (csn_last : CsN (csLast tyInt) 1) hc
def t_law_cell_at (K : PySem.W.Frag) : TS := (tSeq (mIfS (mTest (tOp mLt (mVar 1) (tCB (mLen K) (tCons (mVar 0) tNil)))) (tRet (tOp (mIx K) (mVar 0) (mVar 1))) tNext) (tRet (tC (.int 0))))
abbrev RD_law_cell_at (K : PySem.W.Frag) : Prop := ∀ vs H Q E, sp_law_cell_at K vs H Q E → t_law_cell_at K { nx := fun _ H' => Q .non H', rt := Q } (start ["_law_script", "_law_k"] vs) H
theorem len_law_cell_at {K : PySem.W.Frag} : ∀ vs H Q E, sp_law_cell_at K vs H Q E → vs.length = 2 := by
  rintro vs H Q E ⟨F, c, _, hc, _⟩; exact ((csn_cons csn_last) : CsN (csCons (tySc K) (csLast tyInt)) 2) hc
def t_law_good (K : PySem.W.Frag) : TS := (tSeq (mIfS (mOr (tNot (mTest (tCB (mIsa K) (tCons (mVar 0) (tCons (tC (.ty "list")) tNil))))) (mTest (tOp (mNeK K) (tCB (mLen K) (tCons (mVar 0) tNil)) (tCB (mLen K) (tCons (mVar 1) tNil))))) (tRet (tC (.bl false))) tNext) (tSeq (tFor (iZip K (tCons (mVar 0) (tCons (mVar 1) tNil))) (gTupM K 2 (gConsM (gName 4) (gConsM (gName 5) gNilM))) (mIfS (mOr (tNot (mTest (tCB (mIsa K) (tCons (mVar 4) (tCons (tC (.ty "bool")) tNil))))) (mTest (tOp (mNeK K) (mVar 4) (tOp mGe (tOp mMulG (mVar 3) (tCall (sp_law_greatest K) [] E0 (tCons (mVar 5) tNil))) (mVar 2))))) (tRet (tC (.bl false))) tNext)) (tRet (tC (.bl true)))))
abbrev RD_law_good (K : PySem.W.Frag) : Prop := ∀ vs H Q E, sp_law_good K vs H Q E → t_law_good K { nx := fun _ H' => Q .non H', rt := Q } (start ["_law_found", "_law_sums", "_law_full", "_law_many_here", "_law_said", "_law_field_here"] vs) H
theorem len_law_good {K : PySem.W.Frag} : ∀ vs H Q E, sp_law_good K vs H Q E → vs.length = 4 := by
  rintro vs H Q E ⟨F, c, _, hc, _⟩; exact ((csn_cons (csn_cons (csn_cons csn_last))) : CsN (csCons (tyL tyBl) (csCons (tyL (tyTup (csCons tyInt (csLast tyInt)))) (csCons tyInt (csLast tyInt)))) 4) hc
def t_law (K : PySem.W.Frag) : TS := (tSeq (tAsg (tOp mAdd (tC (.int 1)) (tOp mMod (tCall (sp_law_cell_at K) [] E0 (tCons (mVar 0) (tCons (tC (.int 0)) tNil))) (tC (.int 12)))) (gName 1)) (tSeq (tAsg (tCall (sp_law_power K) [] E0 (tCons (mVar 1) tNil)) (gName 2)) (tSeq (tAsg (tComp ["_law_cell"] [] (iAny K (tSl (mSl K) (mVar 0) (mPart (tC (.int 2))) (mPart (tC (.int 22))))) (gName 0) tTrue (tCall (sp_law_field K) [] E0 (tCons (mVar 0) tNil))) (gName 3)) (tSeq (tAsg (tCall (sp_law_many K) [] E0 (tCons (tCall (sp_law_cell_at K) [] E0 (tCons (mVar 0) (tCons (tC (.int 1)) tNil))) (tCons (mVar 3) (tCons (mVar 2) tNil)))) (gName 4)) (tSeq (tAsg (tCB (mList K) (tCons (mVar 3) tNil)) (gName 5)) (tSeq (tAsg (tCall (sp_may_run_over K) [] E0 (tCons (mVar 5) (tCons (mVar 1) (tCons (mVar 4) tNil)))) (gName 6)) (tSeq (mIfS (mOr (tNot (mTest (tCall (sp_law_good K) [] E0 (tCons (mVar 6) (tCons (mVar 3) (tCons (mVar 2) (tCons (mVar 4) tNil))))))) (mTest (tOp (mNeK K) (mVar 5) (mVar 3)))) (tRet (tC (.bl false))) tNext) (tSeq (tDrop (tBM K "list" rAppend (mVar 5) (tCons (tTup (tCons (tC (.int 1)) (tCons (tC (.int 36)) tNil))) tNil))) (tSeq (tDrop (tBM K "list" rAppend (mVar 6) (tCons (tC (.bl true)) tNil))) (tSeq (tAsg (tCall (sp_may_run_over K) [] E0 (tCons (mVar 3) (tCons (mVar 1) (tCons (tOp mAdd (mVar 4) (tC (.int 1))) tNil)))) (gName 7)) (tSeq (tAsg (tCall (sp_may_run_over K) [] E0 (tCons (mVar 3) (tCons (mVar 1) (tCons (mVar 4) tNil)))) (gName 8)) (tRet (mAndV (tCall (sp_law_good K) [] E0 (tCons (mVar 7) (tCons (mVar 3) (tCons (mVar 2) (tCons (tOp mAdd (mVar 4) (tC (.int 1))) tNil))))) (tCall (sp_law_good K) [] E0 (tCons (mVar 8) (tCons (mVar 3) (tCons (mVar 2) (tCons (mVar 4) tNil))))))))))))))))))
abbrev RD_law (K : PySem.W.Frag) : Prop := ∀ vs H Q E, sp_law K vs H Q E → t_law K { nx := fun _ H' => Q .non H', rt := Q } (start ["_law_script", "_law_figures", "_law_full", "_law_sums", "_law_many_here", "_law_handed", "_law_found", "_law_more", "_law_again"] vs) H
theorem len_law {K : PySem.W.Frag} : ∀ vs H Q E, sp_law K vs H Q E → vs.length = 1 := by
  intro vs H Q E h; obtain ⟨a, ns, rfl, _⟩ := h; rfl
end K32

namespace K32
open PySem PySem.Spec PyProof.Rows L2
section
variable {P : Program} {w : World} {K : PySem.W.Frag} {mg : Str → Option Value} {base : Heap}
theorem sc_law_power : FnScope ["_law_many_here", "_law_number", "_law_k"] ["_law_many_here"] (defScope s_law_power) := ⟨rfl, rfl, rfl, by decide +kernel, rfl, by decide +kernel, by decide +kernel⟩
theorem tm_law_power (B_range : Gb mg "range") {cdv : Value} {A : Around} {outer : List Env} {s : Shared} {H : Hp} {E : XK} {f : Addr} (hr : Room 0 (A.deeper (envOfC "_law_power" (defScope s_law_power) s.heap.objs.size f cdv))) :
    (PSs (cxOf CX0 P w K mg base ["_law_many_here", "_law_number", "_law_k"] "_law_power" (defScope s_law_power) f cdv A outer s H E).nox (defBody s_law_power) (t_law_power K)) := 
  (pss_cons (ps_set (i := 1) sc_law_power.nd rfl (by first | exact Or.inl rfl | exact Or.inr rfl) pe_int) (pss_cons (ps_for PassesOwn.never rfl (pi_rngM1 B_range (pa_cons (pe_mvar 0) pa_nil)) (pg_name (i := 2) sc_law_power.nd rfl (by first | exact Or.inl rfl | exact Or.inr rfl)) (pss_one (ps_set (i := 1) sc_law_power.nd rfl (by first | exact Or.inl rfl | exact Or.inr rfl) (pe_op op_mulG pe_int (pe_mvar 1))))) (pss_one (ps_ret (pe_mvar 1)))))
theorem ok_law_power (B_range : Gb mg "range") {f : Addr} {fd : FuncData} (F : Fun K "_law_power" "_law_power" s_law_power f fd) (len : ∀ vs H Q E, sp_law_power K vs H Q E → vs.length = 1)
    (rd : ∀ vs H Q E, sp_law_power K vs H Q E → t_law_power K { nx := fun _ H' => Q .non H', rt := Q } (start ["_law_many_here", "_law_number", "_law_k"] vs) H) : FnOk P w K mg base CX0 1 f fd ["_law_many_here"] (sp_law_power K) := by
  refine F.ok sc_law_power len (fun cdv A outer s H vs Q E hr h => ⟨_, tm_law_power B_range hr, rd vs H Q E h⟩)
theorem sc_law_greatest : FnScope ["_law_field_here"] ["_law_field_here"] (defScope s_law_greatest) := ⟨rfl, rfl, rfl, by decide +kernel, rfl, by decide +kernel, by decide +kernel⟩
theorem tm_law_greatest (G_law_power : Gd P w K mg base CX0 1 "_law_power" ["_law_many_here"] (sp_law_power K)) {cdv : Value} {A : Around} {outer : List Env} {s : Shared} {H : Hp} {E : XK} {f : Addr} (hr : Room 1 (A.deeper (envOfC "_law_greatest" (defScope s_law_greatest) s.heap.objs.size f cdv))) :
    (PSs (cxOf CX0 P w K mg base ["_law_field_here"] "_law_greatest" (defScope s_law_greatest) f cdv A outer s H E).nox (defBody s_law_greatest) (t_law_greatest K)) := 
  (pss_one (ps_ret (pe_op op_subM (pe_callG G_law_power (hr.mono (j := 1) (by decide)) (pa_cons (pe_op op_addM (pe_op op_subM (pe_ix ix_M (pe_mvar 0) pe_int (fun _ _ => rfl)) (pe_ix ix_M (pe_mvar 0) pe_int (fun _ _ => rfl))) pe_int) pa_nil)) pe_int)))
theorem ok_law_greatest (G_law_power : Gd P w K mg base CX0 1 "_law_power" ["_law_many_here"] (sp_law_power K)) {f : Addr} {fd : FuncData} (F : Fun K "_law_greatest" "_law_greatest" s_law_greatest f fd) (len : ∀ vs H Q E, sp_law_greatest K vs H Q E → vs.length = 1)
    (rd : ∀ vs H Q E, sp_law_greatest K vs H Q E → t_law_greatest K { nx := fun _ H' => Q .non H', rt := Q } (start ["_law_field_here"] vs) H) : FnOk P w K mg base CX0 2 f fd ["_law_field_here"] (sp_law_greatest K) := by
  refine F.ok sc_law_greatest len (fun cdv A outer s H vs Q E hr h => ⟨_, tm_law_greatest G_law_power hr, rd vs H Q E h⟩)
theorem sc_law_many : FnScope ["_law_cell", "_law_sums", "_law_full", "_law_way", "_law_field_here"] ["_law_cell", "_law_sums", "_law_full"] (defScope s_law_many) := ⟨rfl, rfl, rfl, by decide +kernel, rfl, by decide +kernel, by decide +kernel⟩
theorem tm_law_many (G_law_greatest : Gd P w K mg base CX0 2 "_law_greatest" ["_law_field_here"] (sp_law_greatest K)) (B_len : Gb mg "len") {cdv : Value} {A : Around} {outer : List Env} {s : Shared} {H : Hp} {E : XK} {f : Addr} (hr : Room 2 (A.deeper (envOfC "_law_many" (defScope s_law_many) s.heap.objs.size f cdv))) :
    (PSs (cxOf CX0 P w K mg base ["_law_cell", "_law_sums", "_law_full", "_law_way", "_law_field_here"] "_law_many" (defScope s_law_many) f cdv A outer s H E).nox (defBody s_law_many) (t_law_many K)) := 
  (pss_cons (ps_set (i := 3) sc_law_many.nd rfl (by first | exact Or.inl rfl | exact Or.inr rfl) (pe_op op_modM (pe_mvar 0) pe_int)) (pss_cons (ps_ifM (pt_cmpM (op_eqK hr.u60) (pe_mvar 3) pe_int) (pss_one (ps_ret (pe_op op_modM (pe_op op_divG (pe_mvar 0) pe_int) pe_int))) pss_nil) (pss_cons (ps_ifM (PW.pt (pw_orM (pt_cmpM (op_eqK hr.u60) (pe_mvar 3) pe_int) (pw_or1 (pt_cmpM (op_eqK hr.u60) (pe_mvar 1) (pe_lst pa_nil))))) (pss_one (ps_ret (pe_op op_modM (pe_op op_divG (pe_mvar 0) pe_int) (pe_op op_subM (pe_op op_powM pe_int pe_int) pe_int)))) pss_nil) (pss_cons (ps_set (i := 4) sc_law_many.nd rfl (by first | exact Or.inl rfl | exact Or.inr rfl) (pe_ix ix_M (pe_mvar 1) (pe_op op_modM (pe_op op_divG (pe_mvar 0) pe_int) (pe_bf call_lenM B_len (pa_cons (pe_mvar 1) pa_nil))) (fun _ _ => rfl))) (pss_one (ps_ret (pe_op op_addM (pe_op op_divG (pe_op op_subM (pe_mvar 2) pe_int) (pe_callG G_law_greatest (hr.mono (j := 2) (by decide)) (pa_cons (pe_mvar 4) pa_nil))) (pe_op op_modM (pe_op op_divG (pe_mvar 0) pe_int) pe_int))))))))
theorem ok_law_many (G_law_greatest : Gd P w K mg base CX0 2 "_law_greatest" ["_law_field_here"] (sp_law_greatest K)) (B_len : Gb mg "len") {f : Addr} {fd : FuncData} (F : Fun K "_law_many" "_law_many" s_law_many f fd) (len : ∀ vs H Q E, sp_law_many K vs H Q E → vs.length = 3)
    (rd : ∀ vs H Q E, sp_law_many K vs H Q E → t_law_many K { nx := fun _ H' => Q .non H', rt := Q } (start ["_law_cell", "_law_sums", "_law_full", "_law_way", "_law_field_here"] vs) H) : FnOk P w K mg base CX0 3 f fd ["_law_cell", "_law_sums", "_law_full"] (sp_law_many K) := by
  refine F.ok sc_law_many len (fun cdv A outer s H vs Q E hr h => ⟨_, tm_law_many G_law_greatest B_len hr, rd vs H Q E h⟩)
theorem sc_ten_to : FnScope ["power", "value", "step"] ["power"] (defScope s_ten_to) := ⟨rfl, rfl, rfl, by decide +kernel, rfl, by decide +kernel, by decide +kernel⟩
theorem tm_ten_to (B_range : Gb mg "range") {cdv : Value} {A : Around} {outer : List Env} {s : Shared} {H : Hp} {E : XK} {f : Addr} (hr : Room 0 (A.deeper (envOfC "ten_to" (defScope s_ten_to) s.heap.objs.size f cdv))) :
    (PSs (cxOf CX0 P w K mg base ["power", "value", "step"] "ten_to" (defScope s_ten_to) f cdv A outer s H E).nox (defBody s_ten_to) (t_ten_to K)) := 
  (pss_cons (ps_set (i := 1) sc_ten_to.nd rfl (by first | exact Or.inl rfl | exact Or.inr rfl) pe_int) (pss_cons (ps_for PassesOwn.never rfl (pi_rngM1 B_range (pa_cons (pe_mvar 0) pa_nil)) (pg_name (i := 2) sc_ten_to.nd rfl (by first | exact Or.inl rfl | exact Or.inr rfl)) (pss_one (ps_set (i := 1) sc_ten_to.nd rfl (by first | exact Or.inl rfl | exact Or.inr rfl) (pe_op op_mulG (pe_mvar 1) pe_int)))) (pss_one (ps_ret (pe_mvar 1)))))
theorem ok_ten_to (B_range : Gb mg "range") {f : Addr} {fd : FuncData} (F : Fun K "ten_to" "ten_to" s_ten_to f fd) (len : ∀ vs H Q E, sp_ten_to K vs H Q E → vs.length = 1)
    (rd : ∀ vs H Q E, sp_ten_to K vs H Q E → t_ten_to K { nx := fun _ H' => Q .non H', rt := Q } (start ["power", "value", "step"] vs) H) : FnOk P w K mg base CX0 1 f fd ["power"] (sp_ten_to K) := by
  refine F.ok sc_ten_to len (fun cdv A outer s H vs Q E hr h => ⟨_, tm_ten_to B_range hr, rd vs H Q E h⟩)
theorem sc_width_of : FnScope ["field"] ["field"] (defScope s_width_of) := ⟨rfl, rfl, rfl, by decide +kernel, rfl, by decide +kernel, by decide +kernel⟩
theorem tm_width_of  {cdv : Value} {A : Around} {outer : List Env} {s : Shared} {H : Hp} {E : XK} {f : Addr} (hr : Room 0 (A.deeper (envOfC "width_of" (defScope s_width_of) s.heap.objs.size f cdv))) :
    (PSs (cxOf CX0 P w K mg base ["field"] "width_of" (defScope s_width_of) f cdv A outer s H E).nox (defBody s_width_of) (t_width_of K)) := 
  (pss_one (ps_ret (pe_op op_addM (pe_op op_subM (pe_ix ix_M (pe_mvar 0) pe_int (fun _ _ => rfl)) (pe_ix ix_M (pe_mvar 0) pe_int (fun _ _ => rfl))) pe_int)))
theorem ok_width_of  {f : Addr} {fd : FuncData} (F : Fun K "width_of" "width_of" s_width_of f fd) (len : ∀ vs H Q E, sp_width_of K vs H Q E → vs.length = 1)
    (rd : ∀ vs H Q E, sp_width_of K vs H Q E → t_width_of K { nx := fun _ H' => Q .non H', rt := Q } (start ["field"] vs) H) : FnOk P w K mg base CX0 1 f fd ["field"] (sp_width_of K) := by
  refine F.ok sc_width_of len (fun cdv A outer s H vs Q E hr h => ⟨_, tm_width_of  hr, rd vs H Q E h⟩)
theorem sc_may_run_over : FnScope ["sums", "figures", "many"] ["sums", "figures", "many"] (defScope s_may_run_over) := ⟨rfl, rfl, rfl, by decide +kernel, rfl, by decide +kernel, by decide +kernel⟩
theorem tm_may_run_over (G_ten_to : Gd P w K mg base CX0 1 "ten_to" ["power"] (sp_ten_to K)) (G_width_of : Gd P w K mg base CX0 1 "width_of" ["field"] (sp_width_of K)) {cdv : Value} {A : Around} {outer : List Env} {s : Shared} {H : Hp} {E : XK} {f : Addr} (hr : Room 1 (A.deeper (envOfC "may_run_over" (defScope s_may_run_over) s.heap.objs.size f cdv))) :
    (PSs (cxOf CX0 P w K mg base ["sums", "figures", "many"] "may_run_over" (defScope s_may_run_over) f cdv A outer s H E).nox (defBody s_may_run_over) (t_may_run_over K)) := 
  (pss_one (ps_ret (pe_comp (cl := _) (lv := ["field"]) (fr := [("many", 2), ("figures", 1)]) rfl ⟨rfl, by decide +kernel, rfl, by decide +kernel, (fr_cons (by refine ⟨rfl, by decide +kernel, ?_, ?_⟩ <;> first | exact Or.inl rfl | exact Or.inr rfl) (fr_cons (by refine ⟨rfl, by decide +kernel, ?_, ?_⟩ <;> first | exact Or.inl rfl | exact Or.inr rfl) fr_nil))⟩ (pi_any (pe_mvar 0)) (fun _ _ _ _ => (pg_name (i := 0) (show List.Nodup (["field", "many", "figures"] : List Str) from by decide +kernel) rfl (Or.inl rfl))) (fun _ _ _ _ => pif_nil) (fun _ _ _ _ => (pe_cmpM op_geM (pe_op op_mulG (pe_mvar 1) (pe_op op_subM (pe_callG G_ten_to (hr.mono (j := 1) (by decide)) (pa_cons (pe_callG G_width_of (hr.mono (j := 1) (by decide)) (pa_cons (pe_mvar 0) pa_nil)) pa_nil)) pe_int)) (pe_callG G_ten_to (hr.mono (j := 1) (by decide)) (pa_cons (pe_mvar 2) pa_nil)))))))
theorem ok_may_run_over (G_ten_to : Gd P w K mg base CX0 1 "ten_to" ["power"] (sp_ten_to K)) (G_width_of : Gd P w K mg base CX0 1 "width_of" ["field"] (sp_width_of K)) {f : Addr} {fd : FuncData} (F : Fun K "may_run_over" "may_run_over" s_may_run_over f fd) (len : ∀ vs H Q E, sp_may_run_over K vs H Q E → vs.length = 3)
    (rd : ∀ vs H Q E, sp_may_run_over K vs H Q E → t_may_run_over K { nx := fun _ H' => Q .non H', rt := Q } (start ["sums", "figures", "many"] vs) H) : FnOk P w K mg base CX0 2 f fd ["sums", "figures", "many"] (sp_may_run_over K) := by
  refine F.ok sc_may_run_over len (fun cdv A outer s H vs Q E hr h => ⟨_, tm_may_run_over G_ten_to G_width_of hr, rd vs H Q E h⟩)
theorem sc_law_field : FnScope ["_law_cell", "_law_first"] ["_law_cell"] (defScope s_law_field) := ⟨rfl, rfl, rfl, by decide +kernel, rfl, by decide +kernel, by decide +kernel⟩
theorem tm_law_field (B_min : Gb mg "min") {cdv : Value} {A : Around} {outer : List Env} {s : Shared} {H : Hp} {E : XK} {f : Addr} (hr : Room 0 (A.deeper (envOfC "_law_field" (defScope s_law_field) s.heap.objs.size f cdv))) :
    (PSs (cxOf CX0 P w K mg base ["_law_cell", "_law_first"] "_law_field" (defScope s_law_field) f cdv A outer s H E).nox (defBody s_law_field) (t_law_field K)) := 
  (pss_cons (ps_set (i := 1) sc_law_field.nd rfl (by first | exact Or.inl rfl | exact Or.inr rfl) (pe_op op_addM pe_int (pe_op op_modM (pe_mvar 0) pe_int))) (pss_one (ps_ret (pe_tup (pa_cons (pe_mvar 1) (pa_cons (pe_bf (call_minM rfl) B_min (pa_cons pe_int (pa_cons (pe_op op_addM (pe_mvar 1) (pe_op op_modM (pe_op op_divG (pe_mvar 0) pe_int) (pe_ix ix_M (pe_lst (pa_cons pe_int (pa_cons pe_int (pa_cons pe_int (pa_cons pe_int pa_nil))))) (pe_op op_modM (pe_mvar 0) pe_int) (fun _ _ => rfl)))) pa_nil))) pa_nil))))))
theorem ok_law_field (B_min : Gb mg "min") {f : Addr} {fd : FuncData} (F : Fun K "_law_field" "_law_field" s_law_field f fd) (len : ∀ vs H Q E, sp_law_field K vs H Q E → vs.length = 1)
    (rd : ∀ vs H Q E, sp_law_field K vs H Q E → t_law_field K { nx := fun _ H' => Q .non H', rt := Q } (start ["_law_cell", "_law_first"] vs) H) : FnOk P w K mg base CX0 1 f fd ["_law_cell"] (sp_law_field K) := by
  refine F.ok sc_law_field len (fun cdv A outer s H vs Q E hr h => ⟨_, tm_law_field B_min hr, rd vs H Q E h⟩)
theorem sc_law_cell_at : FnScope ["_law_script", "_law_k"] ["_law_script", "_law_k"] (defScope s_law_cell_at) := ⟨rfl, rfl, rfl, by decide +kernel, rfl, by decide +kernel, by decide +kernel⟩
theorem tm_law_cell_at (B_len : Gb mg "len") {cdv : Value} {A : Around} {outer : List Env} {s : Shared} {H : Hp} {E : XK} {f : Addr} (hr : Room 0 (A.deeper (envOfC "_law_cell_at" (defScope s_law_cell_at) s.heap.objs.size f cdv))) :
    (PSs (cxOf CX0 P w K mg base ["_law_script", "_law_k"] "_law_cell_at" (defScope s_law_cell_at) f cdv A outer s H E).nox (defBody s_law_cell_at) (t_law_cell_at K)) := 
  (pss_cons (ps_ifM (pt_cmpM op_ltM (pe_mvar 1) (pe_bf call_lenM B_len (pa_cons (pe_mvar 0) pa_nil))) (pss_one (ps_ret (pe_ix ix_M (pe_mvar 0) (pe_mvar 1) (fun _ _ => rfl)))) pss_nil) (pss_one (ps_ret pe_int)))
theorem ok_law_cell_at (B_len : Gb mg "len") {f : Addr} {fd : FuncData} (F : Fun K "_law_cell_at" "_law_cell_at" s_law_cell_at f fd) (len : ∀ vs H Q E, sp_law_cell_at K vs H Q E → vs.length = 2)
    (rd : ∀ vs H Q E, sp_law_cell_at K vs H Q E → t_law_cell_at K { nx := fun _ H' => Q .non H', rt := Q } (start ["_law_script", "_law_k"] vs) H) : FnOk P w K mg base CX0 1 f fd ["_law_script", "_law_k"] (sp_law_cell_at K) := by
  refine F.ok sc_law_cell_at len (fun cdv A outer s H vs Q E hr h => ⟨_, tm_law_cell_at B_len hr, rd vs H Q E h⟩)
theorem sc_law_good : FnScope ["_law_found", "_law_sums", "_law_full", "_law_many_here", "_law_said", "_law_field_here"] ["_law_found", "_law_sums", "_law_full", "_law_many_here"] (defScope s_law_good) := ⟨rfl, rfl, rfl, by decide +kernel, rfl, by decide +kernel, by decide +kernel⟩
theorem tm_law_good (G_law_greatest : Gd P w K mg base CX0 2 "_law_greatest" ["_law_field_here"] (sp_law_greatest K)) (B_isinstance : Gb mg "isinstance") (B_list : Gb mg "list") (B_len : Gb mg "len") (B_zip : Gb mg "zip") (B_bool : Gb mg "bool") {cdv : Value} {A : Around} {outer : List Env} {s : Shared} {H : Hp} {E : XK} {f : Addr} (hr : Room 2 (A.deeper (envOfC "_law_good" (defScope s_law_good) s.heap.objs.size f cdv))) :
    (PSs (cxOf CX0 P w K mg base ["_law_found", "_law_sums", "_law_full", "_law_many_here", "_law_said", "_law_field_here"] "_law_good" (defScope s_law_good) f cdv A outer s H E).nox (defBody s_law_good) (t_law_good K)) := 
  (pss_cons (ps_ifM (PW.pt (pw_orM (pt_not (pt_valM (pe_bf call_isa B_isinstance (pa_cons (pe_mvar 0) (pa_cons (pe_ty "list" B_list) pa_nil))))) (pw_or1 (pt_cmpM (op_neK hr.u60) (pe_bf call_lenM B_len (pa_cons (pe_mvar 0) pa_nil)) (pe_bf call_lenM B_len (pa_cons (pe_mvar 1) pa_nil)))))) (pss_one (ps_ret pe_bl)) pss_nil) (pss_cons (ps_for PassesOwn.never rfl (pi_zip B_zip (pa_cons (pe_mvar 0) (pa_cons (pe_mvar 1) pa_nil))) (pg_tupM (n := 2) rfl (pgs_consM (pg_name (i := 4) sc_law_good.nd rfl (by first | exact Or.inl rfl | exact Or.inr rfl)) (pgs_consM (pg_name (i := 5) sc_law_good.nd rfl (by first | exact Or.inl rfl | exact Or.inr rfl)) pgs_nilM))) (pss_one (ps_ifM (PW.pt (pw_orM (pt_not (pt_valM (pe_bf call_isa B_isinstance (pa_cons (pe_mvar 4) (pa_cons (pe_ty "bool" B_bool) pa_nil))))) (pw_or1 (pt_cmpM (op_neK hr.u60) (pe_mvar 4) (pe_cmpM op_geM (pe_op op_mulG (pe_mvar 3) (pe_callG G_law_greatest (hr.mono (j := 2) (by decide)) (pa_cons (pe_mvar 5) pa_nil))) (pe_mvar 2)))))) (pss_one (ps_ret pe_bl)) pss_nil))) (pss_one (ps_ret pe_bl))))
theorem ok_law_good (G_law_greatest : Gd P w K mg base CX0 2 "_law_greatest" ["_law_field_here"] (sp_law_greatest K)) (B_isinstance : Gb mg "isinstance") (B_list : Gb mg "list") (B_len : Gb mg "len") (B_zip : Gb mg "zip") (B_bool : Gb mg "bool") {f : Addr} {fd : FuncData} (F : Fun K "_law_good" "_law_good" s_law_good f fd) (len : ∀ vs H Q E, sp_law_good K vs H Q E → vs.length = 4)
    (rd : ∀ vs H Q E, sp_law_good K vs H Q E → t_law_good K { nx := fun _ H' => Q .non H', rt := Q } (start ["_law_found", "_law_sums", "_law_full", "_law_many_here", "_law_said", "_law_field_here"] vs) H) : FnOk P w K mg base CX0 3 f fd ["_law_found", "_law_sums", "_law_full", "_law_many_here"] (sp_law_good K) := by
  refine F.ok sc_law_good len (fun cdv A outer s H vs Q E hr h => ⟨_, tm_law_good G_law_greatest B_isinstance B_list B_len B_zip B_bool hr, rd vs H Q E h⟩)
theorem sc_law : FnScope ["_law_script", "_law_figures", "_law_full", "_law_sums", "_law_many_here", "_law_handed", "_law_found", "_law_more", "_law_again"] ["_law_script"] (defScope s_law) := ⟨rfl, rfl, rfl, by decide +kernel, rfl, by decide +kernel, by decide +kernel⟩
theorem tm_law (G_law_cell_at : Gd P w K mg base CX0 1 "_law_cell_at" ["_law_script", "_law_k"] (sp_law_cell_at K)) (G_law_power : Gd P w K mg base CX0 1 "_law_power" ["_law_many_here"] (sp_law_power K)) (G_law_field : Gd P w K mg base CX0 1 "_law_field" ["_law_cell"] (sp_law_field K)) (G_law_many : Gd P w K mg base CX0 3 "_law_many" ["_law_cell", "_law_sums", "_law_full"] (sp_law_many K)) (G_may_run_over : Gd P w K mg base CX0 2 "may_run_over" ["sums", "figures", "many"] (sp_may_run_over K)) (G_law_good : Gd P w K mg base CX0 3 "_law_good" ["_law_found", "_law_sums", "_law_full", "_law_many_here"] (sp_law_good K)) (B_list : Gb mg "list") {cdv : Value} {A : Around} {outer : List Env} {s : Shared} {H : Hp} {E : XK} {f : Addr} (hr : Room 3 (A.deeper (envOfC "law" (defScope s_law) s.heap.objs.size f cdv))) :
    (PSs (cxOf CX0 P w K mg base ["_law_script", "_law_figures", "_law_full", "_law_sums", "_law_many_here", "_law_handed", "_law_found", "_law_more", "_law_again"] "law" (defScope s_law) f cdv A outer s H E).nox (defBody s_law) (t_law K)) := 
  (pss_cons (ps_set (i := 1) sc_law.nd rfl (by first | exact Or.inl rfl | exact Or.inr rfl) (pe_op op_addM pe_int (pe_op op_modM (pe_callG G_law_cell_at (hr.mono (j := 1) (by decide)) (pa_cons (pe_mvar 0) (pa_cons pe_int pa_nil))) pe_int))) (pss_cons (ps_set (i := 2) sc_law.nd rfl (by first | exact Or.inl rfl | exact Or.inr rfl) (pe_callG G_law_power (hr.mono (j := 1) (by decide)) (pa_cons (pe_mvar 1) pa_nil))) (pss_cons (ps_setcomp (cl := []) (lv := ["_law_cell"]) (fr := []) rfl ⟨rfl, by decide +kernel, rfl, by decide +kernel, (by intro q hq; cases hq)⟩ (pi_any (pe_slice sl_M (pe_mvar 0) (po_M pe_int) (po_M pe_int))) (fun _ _ _ _ => (pg_name (i := 0) (show List.Nodup (["_law_cell"] : List Str) from by decide +kernel) rfl (Or.inl rfl))) (fun _ _ _ _ => pif_nil) (fun _ _ _ _ => (pe_callG G_law_field (hr.mono (j := 1) (by decide)) (pa_cons (pe_mvar 0) pa_nil))) (pg_name (i := 3) sc_law.nd rfl (by first | exact Or.inl rfl | exact Or.inr rfl))) (pss_cons (ps_set (i := 4) sc_law.nd rfl (by first | exact Or.inl rfl | exact Or.inr rfl) (pe_callG G_law_many (hr.mono (j := 3) (by decide)) (pa_cons (pe_callG G_law_cell_at (hr.mono (j := 1) (by decide)) (pa_cons (pe_mvar 0) (pa_cons pe_int pa_nil))) (pa_cons (pe_mvar 3) (pa_cons (pe_mvar 2) pa_nil))))) (pss_cons (ps_set (i := 5) sc_law.nd rfl (by first | exact Or.inl rfl | exact Or.inr rfl) (pe_tf "list" (call_listM rfl) B_list (pa_cons (pe_mvar 3) pa_nil))) (pss_cons (ps_set (i := 6) sc_law.nd rfl (by first | exact Or.inl rfl | exact Or.inr rfl) (pe_callG G_may_run_over (hr.mono (j := 2) (by decide)) (pa_cons (pe_mvar 5) (pa_cons (pe_mvar 1) (pa_cons (pe_mvar 4) pa_nil))))) (pss_cons (ps_ifM (PW.pt (pw_orM (pt_not (pt_valM (pe_callG G_law_good (hr.mono (j := 3) (by decide)) (pa_cons (pe_mvar 6) (pa_cons (pe_mvar 3) (pa_cons (pe_mvar 2) (pa_cons (pe_mvar 4) pa_nil))))))) (pw_or1 (pt_cmpM (op_neK hr.u60) (pe_mvar 5) (pe_mvar 3))))) (pss_one (ps_ret pe_bl)) pss_nil) (pss_cons (ps_expr (pe_bm PySem.F.plainAttrs_list PySem.F.slot_list_append PySem.F.type_list_append mt_append (pe_mvar 5) (pa_cons (pe_tup (pa_cons pe_int (pa_cons pe_int pa_nil))) pa_nil))) (pss_cons (ps_expr (pe_bm PySem.F.plainAttrs_list PySem.F.slot_list_append PySem.F.type_list_append mt_append (pe_mvar 6) (pa_cons pe_bl pa_nil))) (pss_cons (ps_set (i := 7) sc_law.nd rfl (by first | exact Or.inl rfl | exact Or.inr rfl) (pe_callG G_may_run_over (hr.mono (j := 2) (by decide)) (pa_cons (pe_mvar 3) (pa_cons (pe_mvar 1) (pa_cons (pe_op op_addM (pe_mvar 4) pe_int) pa_nil))))) (pss_cons (ps_set (i := 8) sc_law.nd rfl (by first | exact Or.inl rfl | exact Or.inr rfl) (pe_callG G_may_run_over (hr.mono (j := 2) (by decide)) (pa_cons (pe_mvar 3) (pa_cons (pe_mvar 1) (pa_cons (pe_mvar 4) pa_nil))))) (pss_one (ps_ret (pe_andM (pe_callG G_law_good (hr.mono (j := 3) (by decide)) (pa_cons (pe_mvar 7) (pa_cons (pe_mvar 3) (pa_cons (pe_mvar 2) (pa_cons (pe_op op_addM (pe_mvar 4) pe_int) pa_nil))))) (pe_one (pe_callG G_law_good (hr.mono (j := 3) (by decide)) (pa_cons (pe_mvar 8) (pa_cons (pe_mvar 3) (pa_cons (pe_mvar 2) (pa_cons (pe_mvar 4) pa_nil))))))))))))))))))))
theorem ok_law (G_law_cell_at : Gd P w K mg base CX0 1 "_law_cell_at" ["_law_script", "_law_k"] (sp_law_cell_at K)) (G_law_power : Gd P w K mg base CX0 1 "_law_power" ["_law_many_here"] (sp_law_power K)) (G_law_field : Gd P w K mg base CX0 1 "_law_field" ["_law_cell"] (sp_law_field K)) (G_law_many : Gd P w K mg base CX0 3 "_law_many" ["_law_cell", "_law_sums", "_law_full"] (sp_law_many K)) (G_may_run_over : Gd P w K mg base CX0 2 "may_run_over" ["sums", "figures", "many"] (sp_may_run_over K)) (G_law_good : Gd P w K mg base CX0 3 "_law_good" ["_law_found", "_law_sums", "_law_full", "_law_many_here"] (sp_law_good K)) (B_list : Gb mg "list") {f : Addr} {fd : FuncData} (F : Fun K "law" "law" s_law f fd) (len : ∀ vs H Q E, sp_law K vs H Q E → vs.length = 1)
    (rd : ∀ vs H Q E, sp_law K vs H Q E → t_law K { nx := fun _ H' => Q .non H', rt := Q } (start ["_law_script", "_law_figures", "_law_full", "_law_sums", "_law_many_here", "_law_handed", "_law_found", "_law_more", "_law_again"] vs) H) : FnOk P w K mg base CX0 4 f fd ["_law_script"] (sp_law K) := by
  refine F.ok sc_law len (fun cdv A outer s H vs Q E hr h => ⟨_, tm_law G_law_cell_at G_law_power G_law_field G_law_many G_may_run_over G_law_good B_list hr, rd vs H Q E h⟩)
end
end K32

namespace K32
open PySem PySem.Spec PyProof.Rows L2
theorem ev_law_power {K : PySem.W.Frag} {E : XK} (c : Int) : EvS K (t_law_power K) E [(Sl.fz tyInt c), Sl.dead, Sl.dead] (b_law_power c) (fun _ : Unit => []) (fun _ : Unit => []) (owF tyInt) :=
  (s_asg (i := 1) rfl imm_int (ev_int 1) fun number_1 => (at_ [(Sl.fz tyInt c), (Sl.fz tyInt number_1), Sl.dead] (s_seq (LS := (fun s_2 : Int => [(Sl.fz tyInt c), (Sl.fz tyInt s_2), Sl.dead])) (s_weak (L' := [(Sl.fz tyInt c), (Sl.fz tyInt number_1), Sl.dead]) (.same (.same (.same .nil))) (s_for (LS := (fun s_2 : Int => [(Sl.fz tyInt c), (Sl.fz tyInt s_2), Sl.dead])) (s0 := number_1) (ei_rng1 (ea_last (ev_var 0 rfl))) (tg_name 2) fun s_2 x_4 => at_ [(Sl.fz tyInt c), (Sl.fz tyInt s_2), (Sl.fz tyInt x_4)] (s_end (s_asg (i := 1) rfl imm_int (ev_op op_mulGI (ev_int 10) (ev_var 1 rfl)) fun number_5 => (at_ [(Sl.fz tyInt c), (Sl.fz tyInt number_5), (Sl.fz tyInt x_4)] (s_nextW (.same (.same (.dead .nil))))))))) fun s_2 => (at_ [(Sl.fz tyInt c), (Sl.fz tyInt s_2), Sl.dead] (s_ret (immo_f imm_int) (EvF.ow (ev_var 1 rfl)))))))
theorem rd_law_power {K : PySem.W.Frag} : RD_law_power K := fn_rd (K := K) (N := ["_law_many_here", "_law_number", "_law_k"]) (C := (csLast tyInt)) (O := (owF tyInt)) (t := fun E => t_law_power K) (ss := fun c => [(Sl.fz tyInt c)]) (f := fun c => b_law_power c) 1 2 csn_last rfl css_last fun c E => ev_law_power c
theorem ev_law_greatest {K : PySem.W.Frag} {E : XK} (c : (Int × Int)) : EvS K (t_law_greatest K) E [(Sl.fz (tyTup (csCons tyInt (csLast tyInt))) c)] (b_law_greatest c) (fun _ : Unit => []) (fun _ : Unit => []) (owF tyInt) :=
  (s_ret (immo_f imm_int) (EvF.ow (ev_op op_subI (EvO.fr (ev_call0 (ea_last (ev_op op_addI (ev_op op_subI (ev_ixT (i := 1) (at_s at_last) (ev_var 0 rfl)) (ev_ixT (i := 0) at_0 (ev_var 0 rfl))) (ev_int 1))))) (ev_int 1))))
theorem rd_law_greatest {K : PySem.W.Frag} : RD_law_greatest K := fn_rd (K := K) (N := ["_law_field_here"]) (C := (csLast (tyTup (csCons tyInt (csLast tyInt))))) (O := (owF tyInt)) (t := fun E => t_law_greatest K) (ss := fun c => [(Sl.fz (tyTup (csCons tyInt (csLast tyInt))) c)]) (f := fun c => b_law_greatest c) 1 0 csn_last rfl css_last fun c E => ev_law_greatest c
theorem ev_law_many {K : PySem.W.Frag} {E : XK} (c : (Int × ((List (Int × Int)) × Int))) : EvS K (t_law_many K) E [(Sl.fz tyInt c.1), (Sl.fz (tyL (tyTup (csCons tyInt (csLast tyInt)))) c.2.1), (Sl.fz tyInt c.2.2), Sl.dead, Sl.dead] (b_law_many c.1 c.2.1 c.2.2) (fun _ : Unit => []) (fun _ : Unit => []) (owF tyInt) :=
  (s_asg (i := 3) rfl imm_int (ev_op op_modI (ev_var 0 rfl) (ev_int 4)) fun way_1 => (at_ [(Sl.fz tyInt c.1), (Sl.fz (tyL (tyTup (csCons tyInt (csLast tyInt)))) c.2.1), (Sl.fz tyInt c.2.2), (Sl.fz tyInt way_1), Sl.dead] (s_seq (LS := (fun _ : Unit => [(Sl.fz tyInt c.1), (Sl.fz (tyL (tyTup (csCons tyInt (csLast tyInt)))) c.2.1), (Sl.fz tyInt c.2.2), (Sl.fz tyInt way_1), Sl.dead])) (s_if (et_val (ev_op op_eqI (ev_var 3 rfl) (ev_int 0))) (s_ret (immo_f imm_int) (EvF.ow (ev_op op_modI (ev_op op_divGI (ev_var 0 rfl) (ev_int 4)) (ev_int 201)))) (s_nextW (.same (.same (.same (.same (.same .nil))))))) fun _ => (at_ [(Sl.fz tyInt c.1), (Sl.fz (tyL (tyTup (csCons tyInt (csLast tyInt)))) c.2.1), (Sl.fz tyInt c.2.2), (Sl.fz tyInt way_1), Sl.dead] (s_seq (LS := (fun _ : Unit => [(Sl.fz tyInt c.1), (Sl.fz (tyL (tyTup (csCons tyInt (csLast tyInt)))) c.2.1), (Sl.fz tyInt c.2.2), (Sl.fz tyInt way_1), Sl.dead])) (s_if (et_or (et_val (ev_op op_eqI (ev_var 3 rfl) (ev_int 1))) (et_val (ev_op (op_eqL (eqt_l (eqt_tup (eqc_cons eqt_int (eqc_last eqt_int))))) (ev_var 1 rfl) (EvO.fr (ev_lst0 (tyTup (csCons tyInt (csLast tyInt)))))))) (s_ret (immo_f imm_int) (EvF.ow (ev_op op_modI (ev_op op_divGI (ev_var 0 rfl) (ev_int 4)) (ev_op op_subI (ev_op op_powI (ev_int 10) (ev_int 60)) (ev_int 1))))) (s_nextW (.same (.same (.same (.same (.same .nil))))))) fun _ => (at_ [(Sl.fz tyInt c.1), (Sl.fz (tyL (tyTup (csCons tyInt (csLast tyInt)))) c.2.1), (Sl.fz tyInt c.2.2), (Sl.fz tyInt way_1), Sl.dead] (s_asg (i := 4) rfl (imm_tup (immc_cons imm_int (immc_last imm_int))) (ev_op op_ixL (ev_var 1 rfl) (ev_op op_modI (ev_op op_divGI (ev_var 0 rfl) (ev_int 8)) (ev_cb bl_lenL (ea_last (ev_var 1 rfl))))) fun field_here_29 => (at_ [(Sl.fz tyInt c.1), (Sl.fz (tyL (tyTup (csCons tyInt (csLast tyInt)))) c.2.1), (Sl.fz tyInt c.2.2), (Sl.fz tyInt way_1), (Sl.fz (tyTup (csCons tyInt (csLast tyInt))) field_here_29)] (s_ret (immo_f imm_int) (EvF.ow (ev_op op_addI (ev_op op_divGI (ev_op op_subI (ev_var 2 rfl) (ev_int 1)) (EvO.fr (ev_call0 (ea_last (ev_var 4 rfl))))) (ev_op op_modI (ev_op op_divGI (ev_var 0 rfl) (ev_int 4)) (ev_int 2)))))))))))))
theorem rd_law_many {K : PySem.W.Frag} : RD_law_many K := fn_rd (K := K) (N := ["_law_cell", "_law_sums", "_law_full", "_law_way", "_law_field_here"]) (C := (csCons tyInt (csCons (tyL (tyTup (csCons tyInt (csLast tyInt)))) (csLast tyInt)))) (O := (owF tyInt)) (t := fun E => t_law_many K) (ss := fun c => [(Sl.fz tyInt c.1), (Sl.fz (tyL (tyTup (csCons tyInt (csLast tyInt)))) c.2.1), (Sl.fz tyInt c.2.2)]) (f := fun c => b_law_many c.1 c.2.1 c.2.2) 3 2 (csn_cons (csn_cons csn_last)) rfl (css_cons (css_cons css_last)) fun c E => ev_law_many c
theorem ev_ten_to {K : PySem.W.Frag} {E : XK} (c : Int) : EvS K (t_ten_to K) E [(Sl.fz tyInt c), Sl.dead, Sl.dead] (b_ten_to c) (fun _ : Unit => []) (fun _ : Unit => []) (owF tyInt) :=
  (s_asg (i := 1) rfl imm_int (ev_int 1) fun value_1 => (at_ [(Sl.fz tyInt c), (Sl.fz tyInt value_1), Sl.dead] (s_seq (LS := (fun s_2 : Int => [(Sl.fz tyInt c), (Sl.fz tyInt s_2), Sl.dead])) (s_weak (L' := [(Sl.fz tyInt c), (Sl.fz tyInt value_1), Sl.dead]) (.same (.same (.same .nil))) (s_for (LS := (fun s_2 : Int => [(Sl.fz tyInt c), (Sl.fz tyInt s_2), Sl.dead])) (s0 := value_1) (ei_rng1 (ea_last (ev_var 0 rfl))) (tg_name 2) fun s_2 x_4 => at_ [(Sl.fz tyInt c), (Sl.fz tyInt s_2), (Sl.fz tyInt x_4)] (s_end (s_asg (i := 1) rfl imm_int (ev_op op_mulGI (ev_var 1 rfl) (ev_int 10)) fun value_5 => (at_ [(Sl.fz tyInt c), (Sl.fz tyInt value_5), (Sl.fz tyInt x_4)] (s_nextW (.same (.same (.dead .nil))))))))) fun s_2 => (at_ [(Sl.fz tyInt c), (Sl.fz tyInt s_2), Sl.dead] (s_ret (immo_f imm_int) (EvF.ow (ev_var 1 rfl)))))))
theorem rd_ten_to {K : PySem.W.Frag} : RD_ten_to K := fn_rd (K := K) (N := ["power", "value", "step"]) (C := (csLast tyInt)) (O := (owF tyInt)) (t := fun E => t_ten_to K) (ss := fun c => [(Sl.fz tyInt c)]) (f := fun c => b_ten_to c) 1 2 csn_last rfl css_last fun c E => ev_ten_to c
theorem ev_width_of {K : PySem.W.Frag} {E : XK} (c : (Int × Int)) : EvS K (t_width_of K) E [(Sl.fz (tyTup (csCons tyInt (csLast tyInt))) c)] (b_width_of c) (fun _ : Unit => []) (fun _ : Unit => []) (owF tyInt) :=
  (s_ret (immo_f imm_int) (EvF.ow (ev_op op_addI (ev_op op_subI (ev_ixT (i := 1) (at_s at_last) (ev_var 0 rfl)) (ev_ixT (i := 0) at_0 (ev_var 0 rfl))) (ev_int 1))))
theorem rd_width_of {K : PySem.W.Frag} : RD_width_of K := fn_rd (K := K) (N := ["field"]) (C := (csLast (tyTup (csCons tyInt (csLast tyInt))))) (O := (owF tyInt)) (t := fun E => t_width_of K) (ss := fun c => [(Sl.fz (tyTup (csCons tyInt (csLast tyInt))) c)]) (f := fun c => b_width_of c) 1 0 csn_last rfl css_last fun c E => ev_width_of c
theorem ev_may_run_over {K : PySem.W.Frag} {E : XK} (c : ((List (Int × Int)) × (Int × Int))) : EvS K (t_may_run_over K) E [(Sl.fz (tyL (tyTup (csCons tyInt (csLast tyInt)))) c.1), (Sl.fz tyInt c.2.1), (Sl.fz tyInt c.2.2)] (b_may_run_over c.1 c.2.1 c.2.2) (fun _ : Unit => []) (fun _ : Unit => []) (owL tyBl) :=
  (s_ret (immo_l imm_bl) (ev_comp (ei_l (ev_var 0 rfl)) (tg_name 0) (fun _ => dead1) (fun x_1 => et_true) (fun x_1 => (ev_op op_geI (ev_op op_mulGI (ev_var 1 rfl) (ev_op op_subI (EvO.fr (ev_call0 (ea_last (EvO.fr (ev_call0 (ea_last (ev_var 0 rfl))))))) (ev_int 1))) (EvO.fr (ev_call0 (ea_last (ev_var 2 rfl))))))))
theorem rd_may_run_over {K : PySem.W.Frag} : RD_may_run_over K := fn_rd (K := K) (N := ["sums", "figures", "many"]) (C := (csCons (tyL (tyTup (csCons tyInt (csLast tyInt)))) (csCons tyInt (csLast tyInt)))) (O := (owL tyBl)) (t := fun E => t_may_run_over K) (ss := fun c => [(Sl.fz (tyL (tyTup (csCons tyInt (csLast tyInt)))) c.1), (Sl.fz tyInt c.2.1), (Sl.fz tyInt c.2.2)]) (f := fun c => b_may_run_over c.1 c.2.1 c.2.2) 3 0 (csn_cons (csn_cons csn_last)) rfl (css_cons (css_cons css_last)) fun c E => ev_may_run_over c
theorem ev_law_field {K : PySem.W.Frag} {E : XK} (c : Int) : EvS K (t_law_field K) E [(Sl.fz tyInt c), Sl.dead] (b_law_field c) (fun _ : Unit => []) (fun _ : Unit => []) (owF (tyTup (csCons tyInt (csLast tyInt)))) :=
  (s_asg (i := 1) rfl imm_int (ev_op op_addI (ev_int 1) (ev_op op_modI (ev_var 0 rfl) (ev_int 36))) fun first_1 => (at_ [(Sl.fz tyInt c), (Sl.fz tyInt first_1)] (s_ret (immo_f (imm_tup (immc_cons imm_int (immc_last imm_int)))) (EvF.ow (ev_tup (csn_cons csn_last) (ea_cons (ev_var 1 rfl) (ea_last (ev_cb bl_min (ea_cons (ev_int 36) (ea_last (ev_op op_addI (ev_var 1 rfl) (ev_op op_modI (ev_op op_divGI (ev_var 0 rfl) (ev_int 36)) (ev_op op_ixL (EvO.fr (ev_lst (csn_cons (csn_cons (csn_cons csn_last))) (csl_cons (csl_cons (csl_cons csl_last))) (ea_cons (ev_int 12) (ea_cons (ev_int 12) (ea_cons (ev_int 12) (ea_last (ev_int 36))))))) (ev_op op_modI (ev_var 0 rfl) (ev_int 4)))))))))))))))
theorem rd_law_field {K : PySem.W.Frag} : RD_law_field K := fn_rd (K := K) (N := ["_law_cell", "_law_first"]) (C := (csLast tyInt)) (O := (owF (tyTup (csCons tyInt (csLast tyInt))))) (t := fun E => t_law_field K) (ss := fun c => [(Sl.fz tyInt c)]) (f := fun c => b_law_field c) 1 1 csn_last rfl css_last fun c E => ev_law_field c
theorem ev_law_cell_at {K : PySem.W.Frag} {E : XK} (c : ((List Int) × Int)) : EvS K (t_law_cell_at K) E [(Sl.fz (tySc K) c.1), (Sl.fz tyInt c.2)] (b_law_cell_at c.1 c.2) (fun _ : Unit => []) (fun _ : Unit => []) (owF tyInt) :=
  (s_seq (LS := (fun _ : Unit => [(Sl.fz (tySc K) c.1), (Sl.fz tyInt c.2)])) (s_if (et_val (ev_op op_ltI (ev_var 1 rfl) (ev_cb bl_lenSc (ea_last (ev_var 0 rfl))))) (s_ret (immo_f imm_int) (EvF.ow (ev_op op_ixSc (ev_var 0 rfl) (ev_var 1 rfl)))) (s_nextW (.same (.same .nil)))) fun _ => (at_ [(Sl.fz (tySc K) c.1), (Sl.fz tyInt c.2)] (s_ret (immo_f imm_int) (EvF.ow (ev_int 0)))))
theorem rd_law_cell_at {K : PySem.W.Frag} : RD_law_cell_at K := fn_rd (K := K) (N := ["_law_script", "_law_k"]) (C := (csCons (tySc K) (csLast tyInt))) (O := (owF tyInt)) (t := fun E => t_law_cell_at K) (ss := fun c => [(Sl.fz (tySc K) c.1), (Sl.fz tyInt c.2)]) (f := fun c => b_law_cell_at c.1 c.2) 2 0 (csn_cons csn_last) rfl (css_cons css_last) fun c E => ev_law_cell_at c
theorem ev_law_good {K : PySem.W.Frag} {E : XK} (c : ((List Bool) × ((List (Int × Int)) × (Int × Int)))) : EvS K (t_law_good K) E [(Sl.fz (tyL tyBl) c.1), (Sl.fz (tyL (tyTup (csCons tyInt (csLast tyInt)))) c.2.1), (Sl.fz tyInt c.2.2.1), (Sl.fz tyInt c.2.2.2), Sl.dead, Sl.dead] (b_law_good c.1 c.2.1 c.2.2.1 c.2.2.2) (fun _ : Unit => []) (fun _ : Unit => []) (owF tyBl) :=
  (s_seq (LS := (fun _ : Unit => [(Sl.fz (tyL tyBl) c.1), (Sl.fz (tyL (tyTup (csCons tyInt (csLast tyInt)))) c.2.1), (Sl.fz tyInt c.2.2.1), (Sl.fz tyInt c.2.2.2), Sl.dead, Sl.dead])) (s_if (et_or (et_not (et_val (ev_isa tn_l (ev_var 0 rfl)))) (et_val (ev_op op_neI (ev_cb bl_lenL (ea_last (ev_var 0 rfl))) (ev_cb bl_lenL (ea_last (ev_var 1 rfl)))))) (s_ret (immo_f imm_bl) (EvF.ow (ev_bl false))) (s_nextW (.same (.same (.same (.same (.same (.same .nil)))))))) fun _ => (at_ [(Sl.fz (tyL tyBl) c.1), (Sl.fz (tyL (tyTup (csCons tyInt (csLast tyInt)))) c.2.1), (Sl.fz tyInt c.2.2.1), (Sl.fz tyInt c.2.2.2), Sl.dead, Sl.dead] (s_seq (LS := (fun _ : Unit => [(Sl.fz (tyL tyBl) c.1), (Sl.fz (tyL (tyTup (csCons tyInt (csLast tyInt)))) c.2.1), (Sl.fz tyInt c.2.2.1), (Sl.fz tyInt c.2.2.2), Sl.dead, Sl.dead])) (s_weak (L' := [(Sl.fz (tyL tyBl) c.1), (Sl.fz (tyL (tyTup (csCons tyInt (csLast tyInt)))) c.2.1), (Sl.fz tyInt c.2.2.1), (Sl.fz tyInt c.2.2.2), Sl.dead, Sl.dead]) (.same (.same (.same (.same (.same (.same .nil)))))) (s_for (LS := (fun _ : Unit => [(Sl.fz (tyL tyBl) c.1), (Sl.fz (tyL (tyTup (csCons tyInt (csLast tyInt)))) c.2.1), (Sl.fz tyInt c.2.2.1), (Sl.fz tyInt c.2.2.2), Sl.dead, Sl.dead])) (s0 := ()) (ei_zip (ea_cons (ev_var 0 rfl) (ea_last (ev_var 1 rfl)))) (tg_tup (csn_cons csn_last) (tc_cons 4 (tc_last (tg_name 5)))) fun _ x_15 => at_ [(Sl.fz (tyL tyBl) c.1), (Sl.fz (tyL (tyTup (csCons tyInt (csLast tyInt)))) c.2.1), (Sl.fz tyInt c.2.2.1), (Sl.fz tyInt c.2.2.2), (Sl.fz tyBl x_15.1), (Sl.fz (tyTup (csCons tyInt (csLast tyInt))) x_15.2)] (s_if (et_or (et_not (et_val (ev_isa tn_bl (ev_var 4 rfl)))) (et_val (ev_op op_neB (ev_var 4 rfl) (ev_op op_geI (ev_op op_mulGI (ev_var 3 rfl) (EvO.fr (ev_call0 (ea_last (ev_var 5 rfl))))) (ev_var 2 rfl))))) (s_ret (immo_f imm_bl) (EvF.ow (ev_bl false))) (s_nextW (.same (.same (.same (.same (.dead (.dead .nil)))))))))) fun _ => (at_ [(Sl.fz (tyL tyBl) c.1), (Sl.fz (tyL (tyTup (csCons tyInt (csLast tyInt)))) c.2.1), (Sl.fz tyInt c.2.2.1), (Sl.fz tyInt c.2.2.2), Sl.dead, Sl.dead] (s_ret (immo_f imm_bl) (EvF.ow (ev_bl true)))))))
theorem rd_law_good {K : PySem.W.Frag} : RD_law_good K := fn_rd (K := K) (N := ["_law_found", "_law_sums", "_law_full", "_law_many_here", "_law_said", "_law_field_here"]) (C := (csCons (tyL tyBl) (csCons (tyL (tyTup (csCons tyInt (csLast tyInt)))) (csCons tyInt (csLast tyInt))))) (O := (owF tyBl)) (t := fun E => t_law_good K) (ss := fun c => [(Sl.fz (tyL tyBl) c.1), (Sl.fz (tyL (tyTup (csCons tyInt (csLast tyInt)))) c.2.1), (Sl.fz tyInt c.2.2.1), (Sl.fz tyInt c.2.2.2)]) (f := fun c => b_law_good c.1 c.2.1 c.2.2.1 c.2.2.2) 4 2 (csn_cons (csn_cons (csn_cons csn_last))) rfl (css_cons (css_cons (css_cons css_last))) fun c E => ev_law_good c
theorem ev_law {K : PySem.W.Frag} {E : XK} (c : (List Int)) : EvS K (t_law K) E [(Sl.fz (tySc K) c), Sl.dead, Sl.dead, Sl.dead, Sl.dead, Sl.dead, Sl.dead, Sl.dead, Sl.dead] (b_law c) (fun _ : Unit => []) (fun _ : Unit => []) (owF tyBl) :=
  (s_asg (i := 1) rfl imm_int (ev_op op_addI (ev_int 1) (ev_op op_modI (EvO.fr (ev_call0 (ea_cons (ev_var 0 rfl) (ea_last (ev_int 0))))) (ev_int 12))) fun figures_1 => (at_ [(Sl.fz (tySc K) c), (Sl.fz tyInt figures_1), Sl.dead, Sl.dead, Sl.dead, Sl.dead, Sl.dead, Sl.dead, Sl.dead] (s_asg (i := 2) rfl imm_int (EvO.fr (ev_call0 (ea_last (ev_var 1 rfl)))) fun full_9 => (at_ [(Sl.fz (tySc K) c), (Sl.fz tyInt figures_1), (Sl.fz tyInt full_9), Sl.dead, Sl.dead, Sl.dead, Sl.dead, Sl.dead, Sl.dead] (s_asgO (i := 3) rfl (immo_l (imm_tup (immc_cons imm_int (immc_last imm_int)))) (ev_comp (ei_l (EvO.fr (ev_slSc (ev_var 0 rfl) (ep_of (ev_int 2)) (ep_of (ev_int 22))))) (tg_name 0) (fun _ => dead1) (fun x_17 => et_true) (fun x_17 => (EvO.fr (ev_call0 (ea_last (ev_var 0 rfl)))))) fun sums_11 => s_frz (i := 3) rfl (at_ [(Sl.fz (tySc K) c), (Sl.fz tyInt figures_1), (Sl.fz tyInt full_9), (Sl.fz (tyL (tyTup (csCons tyInt (csLast tyInt)))) sums_11), Sl.dead, Sl.dead, Sl.dead, Sl.dead, Sl.dead] (s_asg (i := 4) rfl imm_int (EvO.fr (ev_call0 (ea_cons (EvO.fr (ev_call0 (ea_cons (ev_var 0 rfl) (ea_last (ev_int 1))))) (ea_cons (ev_var 3 rfl) (ea_last (ev_var 2 rfl)))))) fun many_here_20 => (at_ [(Sl.fz (tySc K) c), (Sl.fz tyInt figures_1), (Sl.fz tyInt full_9), (Sl.fz (tyL (tyTup (csCons tyInt (csLast tyInt)))) sums_11), (Sl.fz tyInt many_here_20), Sl.dead, Sl.dead, Sl.dead, Sl.dead] (s_asgO (i := 5) rfl (immo_l (imm_tup (immc_cons imm_int (immc_last imm_int)))) (ev_cbO bl_list (ea_last (ev_var 3 rfl))) fun handed_29 => (at_ [(Sl.fz (tySc K) c), (Sl.fz tyInt figures_1), (Sl.fz tyInt full_9), (Sl.fz (tyL (tyTup (csCons tyInt (csLast tyInt)))) sums_11), (Sl.fz tyInt many_here_20), (Sl.ow (owL (tyTup (csCons tyInt (csLast tyInt)))) handed_29), Sl.dead, Sl.dead, Sl.dead] (s_asgO (i := 6) rfl (immo_l imm_bl) (ev_call0 (ea_cons (ev_varL 5 rfl) (ea_cons (ev_var 1 rfl) (ea_last (ev_var 4 rfl))))) fun found_31 => (at_ [(Sl.fz (tySc K) c), (Sl.fz tyInt figures_1), (Sl.fz tyInt full_9), (Sl.fz (tyL (tyTup (csCons tyInt (csLast tyInt)))) sums_11), (Sl.fz tyInt many_here_20), (Sl.ow (owL (tyTup (csCons tyInt (csLast tyInt)))) handed_29), (Sl.ow (owL tyBl) found_31), Sl.dead, Sl.dead] (s_seq (LS := (fun _ : Unit => [(Sl.fz (tySc K) c), (Sl.fz tyInt figures_1), (Sl.fz tyInt full_9), (Sl.fz (tyL (tyTup (csCons tyInt (csLast tyInt)))) sums_11), (Sl.fz tyInt many_here_20), (Sl.ow (owL (tyTup (csCons tyInt (csLast tyInt)))) handed_29), (Sl.ow (owL tyBl) found_31), Sl.dead, Sl.dead])) (s_if (et_or (et_not (et_val (EvO.fr (ev_call0 (ea_cons (ev_varL 6 rfl) (ea_cons (ev_var 3 rfl) (ea_cons (ev_var 2 rfl) (ea_last (ev_var 4 rfl))))))))) (et_val (ev_op (op_neL (eqt_l (eqt_tup (eqc_cons eqt_int (eqc_last eqt_int))))) (ev_varL 5 rfl) (ev_var 3 rfl)))) (s_ret (immo_f imm_bl) (EvF.ow (ev_bl false))) (s_nextW (.same (.same (.same (.same (.same (.same (.same (.same (.same .nil))))))))))) fun _ => (at_ [(Sl.fz (tySc K) c), (Sl.fz tyInt figures_1), (Sl.fz tyInt full_9), (Sl.fz (tyL (tyTup (csCons tyInt (csLast tyInt)))) sums_11), (Sl.fz tyInt many_here_20), (Sl.ow (owL (tyTup (csCons tyInt (csLast tyInt)))) handed_29), (Sl.ow (owL tyBl) found_31), Sl.dead, Sl.dead] (s_append (i := 5) rfl (imm_tup (immc_cons imm_int (immc_last imm_int))) (ev_tup (csn_cons csn_last) (ea_cons (ev_int 1) (ea_last (ev_int 36)))) fun a_53 => (at_ [(Sl.fz (tySc K) c), (Sl.fz tyInt figures_1), (Sl.fz tyInt full_9), (Sl.fz (tyL (tyTup (csCons tyInt (csLast tyInt)))) sums_11), (Sl.fz tyInt many_here_20), (Sl.ow (owL (tyTup (csCons tyInt (csLast tyInt)))) (handed_29 ++ [a_53])), (Sl.ow (owL tyBl) found_31), Sl.dead, Sl.dead] (s_append (i := 6) rfl imm_bl (ev_bl true) fun a_54 => (at_ [(Sl.fz (tySc K) c), (Sl.fz tyInt figures_1), (Sl.fz tyInt full_9), (Sl.fz (tyL (tyTup (csCons tyInt (csLast tyInt)))) sums_11), (Sl.fz tyInt many_here_20), (Sl.ow (owL (tyTup (csCons tyInt (csLast tyInt)))) (handed_29 ++ [a_53])), (Sl.ow (owL tyBl) (found_31 ++ [a_54])), Sl.dead, Sl.dead] (s_asgO (i := 7) rfl (immo_l imm_bl) (ev_call0 (ea_cons (ev_var 3 rfl) (ea_cons (ev_var 1 rfl) (ea_last (ev_op op_addI (ev_var 4 rfl) (ev_int 1)))))) fun more_55 => s_frz (i := 7) rfl (at_ [(Sl.fz (tySc K) c), (Sl.fz tyInt figures_1), (Sl.fz tyInt full_9), (Sl.fz (tyL (tyTup (csCons tyInt (csLast tyInt)))) sums_11), (Sl.fz tyInt many_here_20), (Sl.ow (owL (tyTup (csCons tyInt (csLast tyInt)))) (handed_29 ++ [a_53])), (Sl.ow (owL tyBl) (found_31 ++ [a_54])), (Sl.fz (tyL tyBl) more_55), Sl.dead] (s_asgO (i := 8) rfl (immo_l imm_bl) (ev_call0 (ea_cons (ev_var 3 rfl) (ea_cons (ev_var 1 rfl) (ea_last (ev_var 4 rfl))))) fun again_63 => s_frz (i := 8) rfl (at_ [(Sl.fz (tySc K) c), (Sl.fz tyInt figures_1), (Sl.fz tyInt full_9), (Sl.fz (tyL (tyTup (csCons tyInt (csLast tyInt)))) sums_11), (Sl.fz tyInt many_here_20), (Sl.ow (owL (tyTup (csCons tyInt (csLast tyInt)))) (handed_29 ++ [a_53])), (Sl.ow (owL tyBl) (found_31 ++ [a_54])), (Sl.fz (tyL tyBl) more_55), (Sl.fz (tyL tyBl) again_63)] (s_ret (immo_f imm_bl) (EvF.ow (ev_and (EvO.fr (ev_call0 (ea_cons (ev_var 7 rfl) (ea_cons (ev_var 3 rfl) (ea_cons (ev_var 2 rfl) (ea_last (ev_op op_addI (ev_var 4 rfl) (ev_int 1)))))))) (EvO.fr (ev_call0 (ea_cons (ev_var 8 rfl) (ea_cons (ev_var 3 rfl) (ea_cons (ev_var 2 rfl) (ea_last (ev_var 4 rfl))))))))))))))))))))))))))))))))
theorem rd_law_of (hf : ∀ ns : List Int, ns.length ≤ 63 → f_law ns = .ok true) {K : PySem.W.Frag} : RD_law K := by
  rintro vs H Q E ⟨a, ns, rfl, hS, hl, q⟩
  refine fn_rd (K := K) (N := ["_law_script", "_law_figures", "_law_full", "_law_sums", "_law_many_here", "_law_handed", "_law_found", "_law_more", "_law_again"]) (C := (csLast (tySc K))) (O := owF tyBl) (t := fun E => t_law K) (ss := fun c => [(Sl.fz (tySc K) c)]) (f := fun c => b_law c) 1 8 csn_last rfl css_last (fun c E => ev_law c) _ H Q E ⟨H, ns, Same.refl _, ⟨_, rfl, a, rfl, hS⟩, ?_⟩
  show After K (f_law ns) E H H _
  rw [hf ns hl]
  rintro F' H' x v h _ _ _ ⟨_, rfl⟩
  exact q H'
end K32

namespace K32
open PySem PySem.Spec PyProof.Rows L2
local macro_rules | `(tactic| walk_at "mo") => `(tactic| simp only [Mo.okB, Mo.exB, Mo.noB, Mo.noexO, Mo.optS, thenO_nx, thenO_rt, thenO_bk, thenO_ct, fnO_rt, forO_nil, grd_div, grd_mod, grd_mulL, grd_T, Bool.not_true, Bool.not_false, if_true, if_false, Bool.false_eq_true, Option.map_some, Option.map_none, ite_true, ite_false, Int.reduceLT, Int.reduceLE, Int.reduceNeg, Int.reduceSub, Int.reduceAdd, Int.reduceMul, Nat.reduceAdd, Nat.reduceLT, decide_true, decide_false])
theorem fold10 {α : Type} : ∀ (xs : List α) (a : Int), xs.foldl (fun s _ => 10 * s) a = 10 ^ xs.length * a
  | [], a => by simp
  | x :: xs, a => by rw [List.foldl_cons, fold10 xs, List.length_cons, Int.pow_succ, Int.mul_assoc]
theorem power_eq {n : Int} (h0 : 0 ≤ n) (h1 : n ≤ 1000) : f_law_power n = .ok (10 ^ n.toNat) := by
  unfold f_law_power b_law_power
  simp only [Mo.okB]
  rw [Mo.grd_ok ⟨by omega, by omega⟩, Mo.okB, forO_foldl (fun s _ => 10 * s) (fun s x _ => by simp), fold10, rngI_len]
  simp
theorem ten_to_eq {n : Int} (h0 : 0 ≤ n) (h1 : n ≤ 1000) : f_ten_to n = .ok (10 ^ n.toNat) := by
  unfold f_ten_to b_ten_to
  simp only [Mo.okB]
  rw [Mo.grd_ok ⟨by omega, by omega⟩, Mo.okB, forO_foldl (fun s _ => 10 * s) (fun s x _ => by rw [grd_mulR (by decide) (by decide)]; simp [Int.mul_comm]), fold10, rngI_len]
  simp
theorem width_eq (f : Int × Int) : f_width_of f = .ok (f.2 - f.1 + 1) := rfl
def nines (f : Int × Int) : Int := 10 ^ (f.2 - f.1 + 1).toNat - 1
def isF (f : Int × Int) : Prop := 1 ≤ f.1 ∧ f.1 ≤ f.2 ∧ f.2 ≤ 36
theorem greatest_eq {f : Int × Int} (h : isF f) : f_law_greatest f = .ok (nines f) := by
  obtain ⟨h1, h2, h3⟩ := h
  unfold f_law_greatest b_law_greatest
  simp only [Mo.okB]
  rw [power_eq (by omega) (by omega)]
  rfl
theorem field_eq (c : Int) : ∃ f, f_law_field c = .ok f ∧ isF f := by
  have hl : ∀ k : Int, 0 < k → 0 ≤ c % k ∧ c % k < k := fun k hk => ⟨Int.emod_nonneg _ (by omega), Int.emod_lt_of_pos _ hk⟩
  have h36 := hl 36 (by decide)
  have h4 := hl 4 (by decide)
  unfold f_law_field b_law_field
  walk_at "mo"
  have e : ∃ w : Int, atI [(12 : Int), 12, 12, 36] (c % 4) = some w ∧ 12 ≤ w := by
    obtain ⟨w, e, hw⟩ := atI_some (xs := [(12 : Int), 12, 12, 36]) h4.1 h4.2
    refine ⟨w, e, ?_⟩
    simp only [List.mem_cons, List.not_mem_nil, or_false] at hw
    omega
  obtain ⟨w, e, hw⟩ := e
  rw [e]
  walk_at "mo"
  rw [grd_mod (by omega)]
  have hm : 0 ≤ c / 36 % w := Int.emod_nonneg _ (by omega)
  refine ⟨_, rfl, ?_, ?_, ?_⟩
  · show 1 ≤ 1 + c % 36; omega
  · show 1 + c % 36 ≤ min 36 _; omega
  · show min 36 _ ≤ (36 : Int); omega
theorem cell_eq (ns : List Int) (k : Int) (h : 0 ≤ k) : ∃ c, f_law_cell_at ns k = .ok c := by
  unfold f_law_cell_at b_law_cell_at
  walk_at "mo"
  by_cases hk : k < (ns.length : Int)
  · obtain ⟨x, e, _⟩ := atI_some h hk
    rw [decide_eq_true hk, if_pos rfl, e]
    exact ⟨x, rfl⟩
  · rw [decide_eq_false hk, if_neg (by decide)]
    exact ⟨0, rfl⟩
theorem pow_lt {n : Nat} (h : n ≤ 40) : (10 : Int) ^ n < 2 ^ 200 ∧ (0 : Int) < 10 ^ n := by
  have h1 : 10 ^ n ≤ 10 ^ 40 := Nat.pow_le_pow_right (by decide) h
  have h2 : (10 : Nat) ^ 40 < 2 ^ 200 := by decide
  have e1 : (10 : Int) ^ n = ((10 ^ n : Nat) : Int) := by rw [Int.natCast_pow]; rfl
  have e2 : (2 : Int) ^ 200 = ((2 ^ 200 : Nat) : Int) := by rw [Int.natCast_pow]; rfl
  have h3 : 0 < 10 ^ n := Nat.pow_pos (by decide)
  rw [e1, e2]
  omega
theorem nines_lt {f : Int × Int} (h : isF f) : (nines f).natAbs < 2 ^ 1000 ∧ 0 < nines f ∧ nines f < 2 ^ 1000 := by
  obtain ⟨h1, h2, h3⟩ := h
  have := pow_lt (n := (f.2 - f.1 + 1).toNat) (by omega)
  have h4 : (10 : Int) ≤ 10 ^ (f.2 - f.1 + 1).toNat := by
    obtain ⟨m, hm⟩ : ∃ m, (f.2 - f.1 + 1).toNat = m + 1 := ⟨(f.2 - f.1).toNat, by omega⟩
    rw [hm, Int.pow_succ]
    have := (pow_lt (n := m) (by omega)).2
    omega
  have e : (2 : Nat) ^ 200 < 2 ^ 1000 := Nat.pow_lt_pow_right (by decide) (by decide)
  have e2 : (2 : Int) ^ 200 = ((2 ^ 200 : Nat) : Int) := by rw [Int.natCast_pow]; rfl
  have e3 : (2 : Int) ^ 1000 = ((2 ^ 1000 : Nat) : Int) := by rw [Int.natCast_pow]; rfl
  unfold nines
  rw [e3]
  rw [e2] at this
  omega
theorem over_eq {sums : List (Int × Int)} {fg many : Int} (hf : ∀ f ∈ sums, isF f) (h0 : 0 ≤ fg) (h1 : fg ≤ 1000) (hm : many.natAbs < 2 ^ 1000) (hl : sums.length ≤ 1000) :
    f_may_run_over sums fg many = .ok (sums.map fun f => decide (10 ^ fg.toNat ≤ many * nines f)) := by
  unfold f_may_run_over b_may_run_over
  walk_at "mo"
  rw [compM_map (g := fun f => decide (10 ^ fg.toNat ≤ many * nines f)) (fun f hff => ?_) (by simpa using (by omega : sums.length ≤ 100000))]
  · rfl
  · obtain ⟨a1, a2, a3⟩ := hf f hff
    unfold cond1
    rw [width_eq]
    walk_at "mo"
    rw [ten_to_eq (by omega) (by omega)]
    walk_at "mo"
    rw [show (10 : Int) ^ (f.2 - f.1 + 1).toNat - 1 = nines f from rfl, Mo.grd_ok (mulG_ok hm (nines_lt (hf f hff)).1), ten_to_eq h0 h1]
    rfl
theorem good_eq {sums : List (Int × Int)} {fg many : Int} (hf : ∀ f ∈ sums, isF f) (hm : many.natAbs < 2 ^ 1000) : f_law_good (sums.map fun f => decide (10 ^ fg.toNat ≤ many * nines f)) sums (10 ^ fg.toNat) many = .ok true := by
  unfold f_law_good b_law_good
  walk_at "mo"
  rw [List.length_map]
  simp only [decide_true, Bool.not_true, Bool.false_eq_true, if_false, thenO_nx]
  rw [forO_all (fun x hx => ?_)]
  · rfl
  · obtain ⟨b, f⟩ := x
    obtain ⟨g, hg, e⟩ : ∃ g, g ∈ sums ∧ (b, f) = (decide (10 ^ fg.toNat ≤ many * nines g), g) := by
      rw [List.zip_map_left, List.mem_map] at hx
      obtain ⟨⟨p, q⟩, hpq, e⟩ := hx
      have : p = q := by
        have := List.of_mem_zip hpq
        clear e
        induction sums with
        | nil => cases hpq
        | cons s ss ih =>
          rcases List.mem_cons.mp hpq with e | h
          · injection e with e1 e2; rw [e1, e2]
          · exact ih (fun f hf' => hf f (List.mem_cons_of_mem _ hf')) h (List.of_mem_zip h)
      subst this
      exact ⟨p, (List.of_mem_zip hpq).1, e.symm⟩
    injection e with e1 e2
    subst e1 e2
    rw [greatest_eq (hf _ hg)]
    walk_at "mo"
    rw [Mo.grd_ok (mulG_ok hm (nines_lt (hf f hg)).1)]
    simp
theorem pow61 : (10 : Int) ^ 60 - 1 < 10 ^ 61 := by decide
theorem many_eq (c : Int) {sums : List (Int × Int)} (hf : ∀ f ∈ sums, isF f) {n : Nat} (hn : n ≤ 12) : ∃ m, f_law_many c sums (10 ^ n) = .ok m ∧ 0 ≤ m ∧ m < 10 ^ 61 := by
  have hl : ∀ (d k : Int), 0 < k → 0 ≤ d % k ∧ d % k < k := fun d k hk => ⟨Int.emod_nonneg _ (by omega), Int.emod_lt_of_pos _ hk⟩
  unfold f_law_many b_law_many
  walk_at "mo"
  by_cases h0 : c % 4 = 0
  · rw [decide_eq_true h0]
    walk_at "mo"
    have := hl (c / 4) 201 (by decide)
    exact ⟨_, rfl, this.1, Int.lt_trans this.2 (by decide)⟩
  rw [decide_eq_false h0]
  walk_at "mo"
  by_cases h1 : c % 4 = 1 ∨ sums = []
  · have e : (if decide (c % 4 = 1) = true then (Mo.ok true : Mo Bool) else Mo.ok (eqL (fun a b => decide (a.fst = b.fst) && decide (a.snd = b.snd)) sums [])) = .ok true := by
      rcases h1 with h1 | h1
      · rw [decide_eq_true h1]; rfl
      · rw [h1]; split <;> rfl
    rw [e]
    walk_at "mo"
    rw [Mo.grd_ok (show CPow 10 60 by decide)]
    walk_at "mo"
    have hb : (0 : Int) < 10 ^ Int.toNat 60 - 1 := by decide
    rw [grd_mod hb]
    have := hl (c / 4) _ hb
    exact ⟨_, rfl, this.1, Int.lt_trans this.2 (by decide)⟩
  · have h1' : c % 4 ≠ 1 := fun z => h1 (.inl z)
    have h2' : sums ≠ [] := fun z => h1 (.inr z)
    rw [decide_eq_false h1']
    walk_at "mo"
    have e : eqL (fun a b => decide (a.fst = b.fst) && decide (a.snd = b.snd)) sums [] = false := by
      cases sums with
      | nil => exact absurd rfl h2'
      | cons s ss => rfl
    rw [e]
    have hpos : (0 : Int) < sums.length := by have := List.length_pos_iff.mpr h2'; omega
    obtain ⟨f, ef, hm⟩ := mod_idx (c / 8) h2'
    walk_at "mo"
    rw [grd_mod hpos]
    walk_at "mo"
    rw [ef]
    walk_at "mo"
    obtain ⟨n1, n2, n3⟩ := nines_lt (hf f hm)
    rw [greatest_eq (hf f hm)]
    walk_at "mo"
    rw [Mo.grd_ok (divG_lt n2 n3)]
    have hp := pow_lt (n := n) (by omega)
    have hq : (10 : Int) ^ n ≤ 10 ^ 12 := by
      have h1 : 10 ^ n ≤ 10 ^ 12 := Nat.pow_le_pow_right (by decide) hn
      have e1 : (10 : Int) ^ n = ((10 ^ n : Nat) : Int) := by rw [Int.natCast_pow]; rfl
      rw [e1]
      omega
    have h2 := hl (c / 4) 2 (by decide)
    have h3 : 0 ≤ ((10 : Int) ^ n - 1) / nines f := Int.ediv_nonneg (by omega) (by omega)
    have h4 : ((10 : Int) ^ n - 1) / nines f ≤ 10 ^ n - 1 := Int.ediv_le_self _ (by omega)
    refine ⟨_, rfl, by omega, ?_⟩
    have : (10 : Int) ^ 12 + 1 < 10 ^ 61 := by decide
    omega
theorem law_true (ns : List Int) (hl : ns.length ≤ 63) : f_law ns = .ok true := by
  obtain ⟨c0, e0⟩ := cell_eq ns 0 (by decide)
  obtain ⟨c1, e1⟩ := cell_eq ns 1 (by decide)
  unfold f_law b_law
  walk_at "mo"
  rw [e0, e1]
  walk_at "mo"
  have h12 : 0 ≤ c0 % 12 ∧ c0 % 12 < 12 := ⟨Int.emod_nonneg _ (by decide), Int.emod_lt_of_pos _ (by decide)⟩
  generalize hfg : 1 + c0 % 12 = fg
  rw [power_eq (by omega) (by omega)]
  obtain ⟨sums, es, ps⟩ := compM_ex (f := fun x_17 => cond1 (Mo.ok true) (f_law_field x_17).noex) (P := fun _ f => isF f) (xs := cutG ns (some 2) (some 22)) (acc := []) (fun x _ => by
    obtain ⟨f, e, hf⟩ := field_eq x
    exact ⟨f, by rw [e]; rfl, hf⟩) (by have := cutG_len ns (some 2) (some 22); simp only [List.length_nil]; omega)
  have hf : ∀ f ∈ sums, isF f := fun f hf => by obtain ⟨_, _, p⟩ := paired_mem ps hf; exact p
  have hlen : sums.length ≤ 63 := by rw [← Paired.length ps]; have := cutG_len ns (some 2) (some 22); omega
  rw [es]
  walk_at "mo"
  rw [List.nil_append]
  obtain ⟨m, em, hm0, hm1⟩ := many_eq c1 hf (n := fg.toNat) (by omega)
  have hb : ∀ k : Int, 0 ≤ k → k ≤ m + 1 → k.natAbs < 2 ^ 1000 := by
    intro k h1 h2
    have e1 : (10 : Int) ^ 61 + 1 < 2 ^ 210 := by decide
    have e2 : (2 : Int) ^ 210 = ((2 ^ 210 : Nat) : Int) := by rw [Int.natCast_pow]; rfl
    have e3 : (2 : Nat) ^ 210 < 2 ^ 1000 := Nat.pow_lt_pow_right (by decide) (by decide)
    rw [e2] at e1
    omega
  rw [em]
  walk_at "mo"
  rw [over_eq hf (by omega) (by omega) (hb m hm0 (by omega)) (by omega), over_eq hf (by omega) (by omega) (hb (m + 1) (by omega) (by omega)) (by omega)]
  walk_at "mo"
  rw [good_eq hf (hb m hm0 (by omega)), good_eq hf (hb (m + 1) (by omega) (by omega)), eqL_refl (by simp)]
  walk_at "mo"
  rw [Mo.lim_ok (by omega), Mo.lim_ok (by rw [List.length_map]; omega)]
  rfl
end K32

namespace K32
open PySem PySem.Spec PyProof.Rows L2
theorem rd_law {K : PySem.W.Frag} : RD_law K := rd_law_of (fun ns hl => law_true ns hl)
theorem all_mk {l : PySem.W.OpenLaw} {w : World} {K : PySem.W.Frag} {h : Heap} {mg : Str → Option Value} {fa : Addr} (X : K.In h) (G : h.Ns mainGlobals mg) (hfa : mg "law" = some (.ref fa))
    {f0 : Addr} {od0 an0 : Option Addr} {sl0 : Array (Option Value)} {oc0 kV0 dc0 pm0 cd0 ct0 : Value}
    {f1 : Addr} {od1 an1 : Option Addr} {sl1 : Array (Option Value)} {oc1 kV1 dc1 pm1 cd1 ct1 : Value}
    {f2 : Addr} {od2 an2 : Option Addr} {sl2 : Array (Option Value)} {oc2 kV2 dc2 pm2 cd2 ct2 : Value}
    {f3 : Addr} {od3 an3 : Option Addr} {sl3 : Array (Option Value)} {oc3 kV3 dc3 pm3 cd3 ct3 : Value}
    {f4 : Addr} {od4 an4 : Option Addr} {sl4 : Array (Option Value)} {oc4 kV4 dc4 pm4 cd4 ct4 : Value}
    {f5 : Addr} {od5 an5 : Option Addr} {sl5 : Array (Option Value)} {oc5 kV5 dc5 pm5 cd5 ct5 : Value}
    {f6 : Addr} {od6 an6 : Option Addr} {sl6 : Array (Option Value)} {oc6 kV6 dc6 pm6 cd6 ct6 : Value}
    {f7 : Addr} {od7 an7 : Option Addr} {sl7 : Array (Option Value)} {oc7 kV7 dc7 pm7 cd7 ct7 : Value}
    {f8 : Addr} {od8 an8 : Option Addr} {sl8 : Array (Option Value)} {oc8 kV8 dc8 pm8 cd8 ct8 : Value}
    {f9 : Addr} {od9 an9 : Option Addr} {sl9 : Array (Option Value)} {oc9 kV9 dc9 pm9 cd9 ct9 : Value}
    (a0 : PySem.W.nsIn K mainGlobals "_law_power" = some (some (.ref f0))) (l0 : K.lookup f0 = some ⟨oc0, od0, .func (PySem.W.fnOf "_law_power" "_law_power" (defArgs s_law_power) (defBody s_law_power) (defScope s_law_power) .none kV0 dc0 pm0 an0 cd0 ct0), sl0⟩) (c0 : PySem.W.codeIn K cd0 "_law_power" = true) (k0 : PySem.W.keepIn K (.ref f0) = true)
    (a1 : PySem.W.nsIn K mainGlobals "_law_greatest" = some (some (.ref f1))) (l1 : K.lookup f1 = some ⟨oc1, od1, .func (PySem.W.fnOf "_law_greatest" "_law_greatest" (defArgs s_law_greatest) (defBody s_law_greatest) (defScope s_law_greatest) .none kV1 dc1 pm1 an1 cd1 ct1), sl1⟩) (c1 : PySem.W.codeIn K cd1 "_law_greatest" = true) (k1 : PySem.W.keepIn K (.ref f1) = true)
    (a2 : PySem.W.nsIn K mainGlobals "_law_many" = some (some (.ref f2))) (l2 : K.lookup f2 = some ⟨oc2, od2, .func (PySem.W.fnOf "_law_many" "_law_many" (defArgs s_law_many) (defBody s_law_many) (defScope s_law_many) .none kV2 dc2 pm2 an2 cd2 ct2), sl2⟩) (c2 : PySem.W.codeIn K cd2 "_law_many" = true) (k2 : PySem.W.keepIn K (.ref f2) = true)
    (a3 : PySem.W.nsIn K mainGlobals "ten_to" = some (some (.ref f3))) (l3 : K.lookup f3 = some ⟨oc3, od3, .func (PySem.W.fnOf "ten_to" "ten_to" (defArgs s_ten_to) (defBody s_ten_to) (defScope s_ten_to) .none kV3 dc3 pm3 an3 cd3 ct3), sl3⟩) (c3 : PySem.W.codeIn K cd3 "ten_to" = true) (k3 : PySem.W.keepIn K (.ref f3) = true)
    (a4 : PySem.W.nsIn K mainGlobals "width_of" = some (some (.ref f4))) (l4 : K.lookup f4 = some ⟨oc4, od4, .func (PySem.W.fnOf "width_of" "width_of" (defArgs s_width_of) (defBody s_width_of) (defScope s_width_of) .none kV4 dc4 pm4 an4 cd4 ct4), sl4⟩) (c4 : PySem.W.codeIn K cd4 "width_of" = true) (k4 : PySem.W.keepIn K (.ref f4) = true)
    (a5 : PySem.W.nsIn K mainGlobals "may_run_over" = some (some (.ref f5))) (l5 : K.lookup f5 = some ⟨oc5, od5, .func (PySem.W.fnOf "may_run_over" "may_run_over" (defArgs s_may_run_over) (defBody s_may_run_over) (defScope s_may_run_over) .none kV5 dc5 pm5 an5 cd5 ct5), sl5⟩) (c5 : PySem.W.codeIn K cd5 "may_run_over" = true) (k5 : PySem.W.keepIn K (.ref f5) = true)
    (a6 : PySem.W.nsIn K mainGlobals "_law_field" = some (some (.ref f6))) (l6 : K.lookup f6 = some ⟨oc6, od6, .func (PySem.W.fnOf "_law_field" "_law_field" (defArgs s_law_field) (defBody s_law_field) (defScope s_law_field) .none kV6 dc6 pm6 an6 cd6 ct6), sl6⟩) (c6 : PySem.W.codeIn K cd6 "_law_field" = true) (k6 : PySem.W.keepIn K (.ref f6) = true)
    (a7 : PySem.W.nsIn K mainGlobals "_law_cell_at" = some (some (.ref f7))) (l7 : K.lookup f7 = some ⟨oc7, od7, .func (PySem.W.fnOf "_law_cell_at" "_law_cell_at" (defArgs s_law_cell_at) (defBody s_law_cell_at) (defScope s_law_cell_at) .none kV7 dc7 pm7 an7 cd7 ct7), sl7⟩) (c7 : PySem.W.codeIn K cd7 "_law_cell_at" = true) (k7 : PySem.W.keepIn K (.ref f7) = true)
    (a8 : PySem.W.nsIn K mainGlobals "_law_good" = some (some (.ref f8))) (l8 : K.lookup f8 = some ⟨oc8, od8, .func (PySem.W.fnOf "_law_good" "_law_good" (defArgs s_law_good) (defBody s_law_good) (defScope s_law_good) .none kV8 dc8 pm8 an8 cd8 ct8), sl8⟩) (c8 : PySem.W.codeIn K cd8 "_law_good" = true) (k8 : PySem.W.keepIn K (.ref f8) = true)
    (a9 : PySem.W.nsIn K mainGlobals "law" = some (some (.ref f9))) (l9 : K.lookup f9 = some ⟨oc9, od9, .func (PySem.W.fnOf "law" "law" (defArgs s_law) (defBody s_law) (defScope s_law) .none kV9 dc9 pm9 an9 cd9 ct9), sl9⟩) (c9 : PySem.W.codeIn K cd9 "law" = true) (k9 : PySem.W.keepIn K (.ref f9) = true)
    (z0 : PySem.W.nsIn K mainGlobals "range" = some none)
    (z1 : PySem.W.nsIn K mainGlobals "len" = some none)
    (z2 : PySem.W.nsIn K mainGlobals "min" = some none)
    (z3 : PySem.W.nsIn K mainGlobals "isinstance" = some none)
    (z4 : PySem.W.nsIn K mainGlobals "list" = some none)
    (z5 : PySem.W.nsIn K mainGlobals "zip" = some none)
    (z6 : PySem.W.nsIn K mainGlobals "bool" = some none) :
    ∃ fd : FuncData, (∀ (s : Shared) (v : Value), BindsTo s fd ⟨[v], []⟩ [("_law_script", v)]) ∧ ∀ base : Heap, K.In base → base.Ns mainGlobals mg → FnOk l.prog w K mg base CX0 4 fa fd ["_law_script"] (sp_law K) := by
  have e := hfa.symm.trans (PySem.W.mg_of X G a9)
  cases e
  have F0 := fun_mk (st := s_law_power) l0 c0 k0
  have b0 := F0.binds (ps := ["_law_many_here"]) fun _ _ _ _ _ _ us hl => match us, hl with | [_], _ => rfl
  have F1 := fun_mk (st := s_law_greatest) l1 c1 k1
  have b1 := F1.binds (ps := ["_law_field_here"]) fun _ _ _ _ _ _ us hl => match us, hl with | [_], _ => rfl
  have F2 := fun_mk (st := s_law_many) l2 c2 k2
  have b2 := F2.binds (ps := ["_law_cell", "_law_sums", "_law_full"]) fun _ _ _ _ _ _ us hl => match us, hl with | [_, _, _], _ => rfl
  have F3 := fun_mk (st := s_ten_to) l3 c3 k3
  have b3 := F3.binds (ps := ["power"]) fun _ _ _ _ _ _ us hl => match us, hl with | [_], _ => rfl
  have F4 := fun_mk (st := s_width_of) l4 c4 k4
  have b4 := F4.binds (ps := ["field"]) fun _ _ _ _ _ _ us hl => match us, hl with | [_], _ => rfl
  have F5 := fun_mk (st := s_may_run_over) l5 c5 k5
  have b5 := F5.binds (ps := ["sums", "figures", "many"]) fun _ _ _ _ _ _ us hl => match us, hl with | [_, _, _], _ => rfl
  have F6 := fun_mk (st := s_law_field) l6 c6 k6
  have b6 := F6.binds (ps := ["_law_cell"]) fun _ _ _ _ _ _ us hl => match us, hl with | [_], _ => rfl
  have F7 := fun_mk (st := s_law_cell_at) l7 c7 k7
  have b7 := F7.binds (ps := ["_law_script", "_law_k"]) fun _ _ _ _ _ _ us hl => match us, hl with | [_, _], _ => rfl
  have F8 := fun_mk (st := s_law_good) l8 c8 k8
  have b8 := F8.binds (ps := ["_law_found", "_law_sums", "_law_full", "_law_many_here"]) fun _ _ _ _ _ _ us hl => match us, hl with | [_, _, _, _], _ => rfl
  have F9 := fun_mk (st := s_law) l9 c9 k9
  refine ⟨PySem.W.fnOf "law" "law" (defArgs s_law) (defBody s_law) (defScope s_law) .none kV9 dc9 pm9 an9 cd9 ct9, fun s v => .of_eq rfl, fun base _ _ => ?_⟩
  have B_range : Gb mg "range" := PySem.W.mg_none_of X G z0
  have B_len : Gb mg "len" := PySem.W.mg_none_of X G z1
  have B_min : Gb mg "min" := PySem.W.mg_none_of X G z2
  have B_isinstance : Gb mg "isinstance" := PySem.W.mg_none_of X G z3
  have B_list : Gb mg "list" := PySem.W.mg_none_of X G z4
  have B_zip : Gb mg "zip" := PySem.W.mg_none_of X G z5
  have B_bool : Gb mg "bool" := PySem.W.mg_none_of X G z6
  have G_law_power : Gd l.prog w K mg base CX0 1 "_law_power" ["_law_many_here"] (sp_law_power K) := ⟨_, _, ok_law_power B_range F0 len_law_power rd_law_power, PySem.W.mg_of X G a0, k0, b0⟩
  have G_law_greatest : Gd l.prog w K mg base CX0 2 "_law_greatest" ["_law_field_here"] (sp_law_greatest K) := ⟨_, _, ok_law_greatest G_law_power F1 len_law_greatest rd_law_greatest, PySem.W.mg_of X G a1, k1, b1⟩
  have G_law_many : Gd l.prog w K mg base CX0 3 "_law_many" ["_law_cell", "_law_sums", "_law_full"] (sp_law_many K) := ⟨_, _, ok_law_many G_law_greatest B_len F2 len_law_many rd_law_many, PySem.W.mg_of X G a2, k2, b2⟩
  have G_ten_to : Gd l.prog w K mg base CX0 1 "ten_to" ["power"] (sp_ten_to K) := ⟨_, _, ok_ten_to B_range F3 len_ten_to rd_ten_to, PySem.W.mg_of X G a3, k3, b3⟩
  have G_width_of : Gd l.prog w K mg base CX0 1 "width_of" ["field"] (sp_width_of K) := ⟨_, _, ok_width_of  F4 len_width_of rd_width_of, PySem.W.mg_of X G a4, k4, b4⟩
  have G_may_run_over : Gd l.prog w K mg base CX0 2 "may_run_over" ["sums", "figures", "many"] (sp_may_run_over K) := ⟨_, _, ok_may_run_over G_ten_to G_width_of F5 len_may_run_over rd_may_run_over, PySem.W.mg_of X G a5, k5, b5⟩
  have G_law_field : Gd l.prog w K mg base CX0 1 "_law_field" ["_law_cell"] (sp_law_field K) := ⟨_, _, ok_law_field B_min F6 len_law_field rd_law_field, PySem.W.mg_of X G a6, k6, b6⟩
  have G_law_cell_at : Gd l.prog w K mg base CX0 1 "_law_cell_at" ["_law_script", "_law_k"] (sp_law_cell_at K) := ⟨_, _, ok_law_cell_at B_len F7 len_law_cell_at rd_law_cell_at, PySem.W.mg_of X G a7, k7, b7⟩
  have G_law_good : Gd l.prog w K mg base CX0 3 "_law_good" ["_law_found", "_law_sums", "_law_full", "_law_many_here"] (sp_law_good K) := ⟨_, _, ok_law_good G_law_greatest B_isinstance B_list B_len B_zip B_bool F8 len_law_good rd_law_good, PySem.W.mg_of X G a8, k8, b8⟩
  exact ok_law (P := l.prog) (w := w) (base := base) G_law_cell_at G_law_power G_law_field G_law_many G_may_run_over G_law_good B_list F9 len_law rd_law
theorem walk {l : PySem.W.OpenLaw} {q : Program} {loose : List Str} {XP : (Str → Option Value) → Heap → Prop} {YP : World → Heap → Prop} {d : DefRec} {K : Params → PySem.W.Frag} (hn : l.most = some 63) (hdf : d.params.defaults = [])
    (hY : ∀ (w : World) (h : Heap), YP w h → (K w.params).In h)
    (F : ∀ (w : World) (mg : Str → Option Value) (fa : Addr) (h : Heap), (K w.params).In h → h.Ns mainGlobals mg → mg d.name = some (.ref fa) →
      ∃ fd : FuncData, (∀ (s : Shared) (u : Value), BindsTo s fd ⟨[u], []⟩ [("_law_script", u)]) ∧ ∀ base : Heap, (K w.params).In base → base.Ns mainGlobals mg → FnOk l.prog w (K w.params) mg base CX0 4 fa fd ["_law_script"] (sp_law (K w.params))) :
    PySem.W.WalkO q loose XP YP l.row.toRowW d [] (fun f vs => PySem.call f vs) :=
  L2.walk_of (n := 63) (k := 4) (x := "_law_script") (CX := fun _ => CX0) (sp := fun w => sp_law (K w.params)) hn (by decide) hdf ⟨rfl, by decide, by decide⟩ hY F (fun _ _ a ns hl _ hS => ⟨a, ns, rfl, hS, hl, fun _ => rfl⟩) fun _ _ _ _ _ z => z
end K32
open PySem PySem.W PyProof.Rows
set_option maxRecDepth 100000 in
set_option maxHeartbeats 0 in
theorem PySem.Challenge.cw_cardshop_k32_told_ahead_holds : PySem.Challenge.rw_cardshop_k32_told_ahead.Holds := by
  w_on; o_law; k_head; (case hw => w_witness2)
  k_fill
  refine K32.walk (l := PySem.Challenge.rw_cardshop_k32_told_ahead) rfl rfl (fun w h Y => PySem.W.kIn_of Y) ?F
  case F =>
    intro w mg fa h KX G hmg
    refine' K32.all_mk KX G hmg ?a0 ?l0 ?c0 ?k0 ?a1 ?l1 ?c1 ?k1 ?a2 ?l2 ?c2 ?k2 ?a3 ?l3 ?c3 ?k3 ?a4 ?l4 ?c4 ?k4 ?a5 ?l5 ?c5 ?k5 ?a6 ?l6 ?c6 ?k6 ?a7 ?l7 ?c7 ?k7 ?a8 ?l8 ?c8 ?k8 ?a9 ?l9 ?c9 ?k9 ?z0 ?z1 ?z2 ?z3 ?z4 ?z5 ?z6
    (case a0 => k_is)
    (case l0 => k_is)
    (case c0 => k_is)
    (case k0 => k_is)
    (case a1 => k_is)
    (case l1 => k_is)
    (case c1 => k_is)
    (case k1 => k_is)
    (case a2 => k_is)
    (case l2 => k_is)
    (case c2 => k_is)
    (case k2 => k_is)
    (case a3 => k_is)
    (case l3 => k_is)
    (case c3 => k_is)
    (case k3 => k_is)
    (case a4 => k_is)
    (case l4 => k_is)
    (case c4 => k_is)
    (case k4 => k_is)
    (case a5 => k_is)
    (case l5 => k_is)
    (case c5 => k_is)
    (case k5 => k_is)
    (case a6 => k_is)
    (case l6 => k_is)
    (case c6 => k_is)
    (case k6 => k_is)
    (case a7 => k_is)
    (case l7 => k_is)
    (case c7 => k_is)
    (case k7 => k_is)
    (case a8 => k_is)
    (case l8 => k_is)
    (case c8 => k_is)
    (case k8 => k_is)
    (case a9 => k_is)
    (case l9 => k_is)
    (case c9 => k_is)
    (case k9 => k_is)
    (case z0 => k_is)
    (case z1 => k_is)
    (case z2 => k_is)
    (case z3 => k_is)
    (case z4 => k_is)
    (case z5 => k_is)
    (case z6 => k_is)
#print axioms PySem.Challenge.cw_cardshop_k32_told_ahead_holds
