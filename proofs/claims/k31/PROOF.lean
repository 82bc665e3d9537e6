import PyProof.Rows.All
import Wide.All
import OpenK.AllK
import Wide.FinOn
import Lean
import PyProof.EqAt
import PyProof.EqKinds
import PyProof.TupleCall
import PyProof.StrLawsRepr
import PyProof.NeKinds
import PySem.Challenge.RW_cardshop_k31_a_wheel
set_option Elab.async false
set_option linter.all false
set_option maxRecDepth 100000
set_option maxHeartbeats 4000000
namespace L2
open PySem PySem.Spec PyProof.Rows
abbrev Key := Sum Int Str
def keyIs : Key → Value → Bool
  | .inl k, v => Value.isInt k v
  | .inr x, v => Value.isStrOf x v
def keyH (w : World) : Key → Int
  | .inl k => hashInt k
  | .inr x => hashStr w x
theorem keyIs_shape : ∀ {k : Key} {v : Value}, keyIs k v = true → (∃ i t, k = Sum.inl i ∧ v = Value.int i t) ∨ (∃ x t, k = Sum.inr x ∧ v = Value.str x t)
  | .inl i, v, h => by
    obtain ⟨t, e⟩ := Value.isInt_shape (k := i) (v := v) h
    exact .inl ⟨i, t, rfl, e⟩
  | .inr x, v, h => by
    obtain ⟨t, e⟩ := Value.isStrOf_shape (x := x) (v := v) h
    exact .inr ⟨x, t, rfl, e⟩
theorem key_ll (a b : Int) : decide ((Sum.inl a : Key) = Sum.inl b) = (a == b) := by
  by_cases e : a = b
  · subst e; simp
  · have h : ¬ (Sum.inl a : Key) = Sum.inl b := fun q => e (Sum.inl.inj q)
    rw [decide_eq_false h]
    exact (beq_eq_false_iff_ne.mpr e).symm
theorem key_rr (a b : Str) : decide ((Sum.inr a : Key) = Sum.inr b) = decide (a = b) := by
  by_cases e : a = b
  · subst e; simp
  · have h : ¬ (Sum.inr a : Key) = Sum.inr b := fun q => e (Sum.inr.inj q)
    rw [decide_eq_false h, decide_eq_false e]
theorem key_lr (a : Int) (b : Str) : decide ((Sum.inl a : Key) = Sum.inr b) = false := decide_eq_false (fun q => nomatch q)
theorem key_rl (a : Str) (b : Int) : decide ((Sum.inr a : Key) = Sum.inl b) = false := decide_eq_false (fun q => nomatch q)
def mixKind (prog : Program) (w : World) : PySem.KeyKind prog w Key where
  is := keyIs
  hash := keyH w
  inj := fun v a b ha hb => by
    rcases keyIs_shape ha with ⟨i, t, rfl, rfl⟩ | ⟨x, t, rfl, rfl⟩
    · rcases keyIs_shape hb with ⟨j, u, rfl, e⟩ | ⟨y, u, rfl, e⟩
      · injection e with e1 _; rw [e1]
      · exact nomatch e
    · rcases keyIs_shape hb with ⟨j, u, rfl, e⟩ | ⟨y, u, rfl, e⟩
      · exact nomatch e
      · injection e with e1 _; rw [e1]
  byValue := fun k v h => by
    rcases keyIs_shape h with ⟨i, t, rfl, rfl⟩ | ⟨x, t, rfl, rfl⟩ <;> rfl
  pyHash := fun hv h => by
    rcases keyIs_shape hv with ⟨i, t, rfl, rfl⟩ | ⟨x, t, rfl, rfl⟩
    · exact wpAny_pyHash_int h
    · exact wpAny_pyHash_str h
  eqBool := fun hu hv h => by
    rcases keyIs_shape hu with ⟨i, t, rfl, rfl⟩ | ⟨x, t, rfl, rfl⟩
    · rcases keyIs_shape hv with ⟨j, u, rfl, rfl⟩ | ⟨y, u, rfl, rfl⟩
      · rw [key_ll] at h; exact wpAny_eqBool_int h
      · rw [key_lr] at h; exact SeqAt.EqAt.int_str i t y u _ _ _ _ h
    · rcases keyIs_shape hv with ⟨j, u, rfl, rfl⟩ | ⟨y, u, rfl, rfl⟩
      · rw [key_rl] at h; exact SeqAt.EqAt.str_int x t j u _ _ _ _ h
      · rw [key_rr] at h; exact wpAny_eqBool_str h
  «strs» := fun k x t v h => by
    rcases keyIs_shape h with ⟨i, u, rfl, e⟩ | ⟨y, u, rfl, e⟩
    · exact nomatch e
    · injection e with e1 _
      subst e1
      cases v <;> rfl
end L2
namespace L2
open PySem PySem.Spec PyProof.Rows
inductive V where
  | non | bl (b : Bool) | int (i : Int) | str (x : Str) | byt (b : Array UInt8) | flt (b : UInt64) | ref (a : Addr) | ty (n : String)
  deriving DecidableEq
def RelV : V → Value → Prop
  | .non, u => u = Value.none
  | .bl b, u => u = Value.bool b
  | .int i, u => ∃ t, u = Value.int i t
  | .str x, u => ∃ t, u = Value.str x t
  | .byt b, u => ∃ t, u = Value.bytes b t
  | .flt b, u => ∃ t, u = Value.float b t
  | .ref a, u => u = Value.ref a
  | .ty n, u => u = Value.type n
abbrev Vals : List V → List Value → Prop := Paired RelV
theorem Vals.length {xs : List V} {us : List Value} (r : Vals xs us) : xs.length = us.length := Paired.length r
theorem Vals.get : ∀ {xs : List V} {us : List Value} {i : Nat} {x : V}, Vals xs us → xs[i]? = some x → ∃ u, us[i]? = some u ∧ RelV x u
  | _, _, _, _, .nil, e => by simp at e
  | _, _, 0, _, .cons r _, e => by simp at e; subst e; exact ⟨_, rfl, r⟩
  | _, _, i + 1, x, .cons _ t, e => by
    obtain ⟨u, h1, h2⟩ := Vals.get (i := i) (x := x) t (by simpa using e)
    exact ⟨u, by simpa using h1, h2⟩
theorem Vals.set {x : V} {u : Value} (r : RelV x u) : ∀ {xs : List V} {us : List Value} (i : Nat), Vals xs us → Vals (xs.set i x) (us.set i u)
  | _, _, _, .nil => .nil
  | _, _, 0, .cons _ t => .cons r t
  | _, _, i + 1, .cons q t => .cons q (Vals.set r i t)
theorem Vals.append : ∀ {xs ys : List V} {us ws : List Value}, Vals xs us → Vals ys ws → Vals (xs ++ ys) (us ++ ws)
  | _, _, _, _, .nil, s => s
  | _, _, _, _, .cons r t, s => .cons r (Vals.append t s)
theorem Vals.take : ∀ {xs : List V} {us : List Value} (n : Nat), Vals xs us → Vals (xs.take n) (us.take n)
  | _, _, 0, _ => .nil
  | _, _, _ + 1, .nil => .nil
  | _, _, n + 1, .cons r t => .cons r (Vals.take n t)
theorem Vals.drop : ∀ {xs : List V} {us : List Value} (n : Nat), Vals xs us → Vals (xs.drop n) (us.drop n)
  | _, _, 0, r => r
  | _, _, _ + 1, .nil => .nil
  | _, _, n + 1, .cons _ t => Vals.drop n t
theorem Vals.none_of : ∀ {xs : List V} {us : List Value} {i : Nat}, Vals xs us → xs[i]? = none → us[i]? = none := fun {xs us i} r e => by
  have h1 := r.length
  have h2 : xs.length ≤ i := List.getElem?_eq_none_iff.mp e
  exact List.getElem?_eq_none_iff.mpr (by omega)
def RelO : Option V → Option Value → Prop
  | some v, some u => RelV v u
  | none, none => True
  | _, _ => False
def KV {κ : Type} : List (κ × V) → List (κ × Value) → Prop := Paired fun (p : κ × V) (q : κ × Value) => p.1 = q.1 ∧ RelV p.2 q.2
def kV : Key → V
  | .inl i => .int i
  | .inr x => .str x
inductive HO where
  | lst (xs : List V)
  | tup (xs : List V)
  | dK (kvs : List (Key × V)) | dT (kvs : List (List Key × V))
  | set (S : Int → Bool) (n : Nat)
  | ins (C dx : Addr) (fs : List (Str × V))
  | own (x : Addr)
  | xd (fs : List (Str × V))
  | met (f x : Addr)
  | rng (lo hi : Int)
  | frz (o : Obj) (u : HO)
  | tbl (ps : Array Value)
  | ext (φ : Heap → Prop)
abbrev Hp := Addr → Option HO
def upd (H : Hp) (a : Addr) (o : HO) : Hp := fun b => if b = a then some o else H b
theorem upd_same {H : Hp} {a : Addr} {o : HO} : upd H a o a = some o := by unfold upd; rw [if_pos rfl]
theorem upd_ne {H : Hp} {a b : Addr} {o : HO} (h : b ≠ a) : upd H a o b = H b := by unfold upd; rw [if_neg h]
theorem ne_of_none {H : Hp} {a b : Addr} {o : HO} (h : H a = some o) (h' : H b = none) : a ≠ b := by
  intro e; subst e; rw [h] at h'; cases h'
section
variable (P : Program) (w : World)
def ObjOk (H : Hp) (h : Heap) (a : Addr) : HO → Prop
  | .lst xs => xs.length ≤ sizeLine ∧ ∃ (its : List Value) (n : Nat), Vals xs its ∧ h.get? a = some { cls := .type "list", data := .seq its.toArray n }
  | .tup xs => xs.length ≤ sizeLine ∧ ∃ its : List Value, Vals xs its ∧ IsTup h a its.toArray
  | .dK kvs => kvs.length ≤ sizeLine ∧ (a == sysModules) = false ∧ ∃ vs, KV kvs vs ∧ h.DictOf (mixKind P w) a vs
  | .dT kvs => kvs.length ≤ sizeLine ∧ (a == sysModules) = false ∧ ∃ xs : List (List Key × Addr × Value),
      Paired (fun (p : List Key × V) (q : List Key × Addr × Value) => p.1 = q.1 ∧ H q.2.1 = some (.tup (p.1.map kV)) ∧ RelV p.2 q.2.2) kvs xs ∧
      ∃ o es ep, h.get? a = some o ∧ o.ExactDict ∧ o.data = .dict es ep ∧ es.toList = xs.map (entryOfKey (tupleKind (mixKind P w))) ∧ (xs.map (·.1)).Nodup
  | .set S n => h.SetOf (intKind P w) a S n
  | .ins C dx fs => H dx = some (.own a) ∧ fs.length ≤ 1000 ∧ dx ≠ a ∧ h.get? a = some (PySem.W.instObj C dx) ∧
      ∃ mA, h.Ns1 dx mA ∧ (∀ f, RelO (fs.lookup f) (mA f)) ∧ PySem.Within mA (fs.map (·.1))
  | .own _ => ∃ o, h.get? a = some o
  | .xd fs => ∃ mA, h.Ns1 a mA ∧ ∀ f, RelO (fs.lookup f) (mA f)
  | .rng lo hi => ∃ t u v, h.get? a = some { cls := .type "range", data := .fields #[.int lo t, .int hi u, .int 1 v] }
  | .frz o u => h.get? a = some o ∧ ObjOk H h a u
  | .tbl ps => h.get? a = some { cls := .none, data := .fields ps }
  | .met f x => h.get? a = some (PySem.W.methodObj (.ref f) (.ref x))
  | .ext φ => φ h ∧ (∃ o, h.get? a = some o) ∧ ∀ h1 h2 : Heap, φ h1 → (∀ o, h1.get? a = some o → h2.get? a = some o) → φ h2
def HOk (H : Hp) (h : Heap) : Prop := ∀ a o, H a = some o → ObjOk P w H h a o
end
section
variable {P : Program} {w : World} {H H' : Hp} {h h' : Heap} {a : Addr} {o : HO}
theorem ObjOk.lt (x : ObjOk P w H h a o) : a < h.objs.size := by
  cases o with
  | lst xs => obtain ⟨_, _, _, _, e⟩ := x; exact Heap.lt_size e
  | tup xs => obtain ⟨_, _, _, p⟩ := x; exact p.lt
  | dK kvs => obtain ⟨_, _, _, _, o, _, _, e, _⟩ := x; exact Heap.lt_size e
  | dT kvs => obtain ⟨_, _, _, _, o, _, _, e, _⟩ := x; exact Heap.lt_size e
  | set S n => obtain ⟨o, _, _, _, e, _⟩ := x; exact Heap.lt_size e
  | ins C dx fs => obtain ⟨_, _, _, e, _⟩ := x; exact Heap.lt_size e
  | own y => obtain ⟨_, e⟩ := x; exact Heap.lt_size e
  | xd fs => obtain ⟨_, ⟨_, _, _, e, _⟩, _⟩ := x; exact Heap.lt_size e
  | rng lo hi => obtain ⟨_, _, _, e⟩ := x; exact Heap.lt_size e
  | frz ob u => obtain ⟨e, _⟩ := x; exact Heap.lt_size e
  | tbl ps => exact Heap.lt_size (show h.get? a = some _ from x)
  | met f y => exact Heap.lt_size (show h.get? a = some _ from x)
  | ext φ => obtain ⟨_, ⟨_, e⟩, _⟩ := x; exact Heap.lt_size e
theorem Paired.mapP {α β : Type} {F G : α → β → Prop} : ∀ {l₁ : List α} {l₂ : List β}, Paired F l₁ l₂ → (∀ a b, F a b → G a b) → Paired G l₁ l₂
  | _, _, .nil, _ => .nil
  | _, _, .cons r t, f => .cons (f _ _ r) (Paired.mapP t f)
theorem ObjOk.stay (x : ObjOk P w H h a o) (k : ∀ b u, (b = a ∨ H b = some (.own a)) → h.get? b = some u → h'.get? b = some u)
    (ho : ∀ b, H b = some (.own a) → H' b = some (.own a)) (ht : ∀ b xs, H b = some (.tup xs) → H' b = some (.tup xs)) : ObjOk P w H' h' a o := by
  induction o with
  | lst xs => obtain ⟨z, its, n, r, e⟩ := x; exact ⟨z, its, n, r, k _ _ (.inl rfl) e⟩
  | tup xs => obtain ⟨z, its, r, ob, e, c⟩ := x; exact ⟨z, its, r, ob, k _ _ (.inl rfl) e, c⟩
  | dK kvs => obtain ⟨z, y, vs, r, ob, es, ep, e, c⟩ := x; exact ⟨z, y, vs, r, ob, es, ep, k _ _ (.inl rfl) e, c⟩
  | dT kvs =>
    obtain ⟨z, y, xs, r, ob, es, ep, e, c⟩ := x
    exact ⟨z, y, xs, Paired.mapP r fun p q z => ⟨z.1, ht _ _ z.2.1, z.2.2⟩, ob, es, ep, k _ _ (.inl rfl) e, c⟩
  | set S n => obtain ⟨ob, es, ep, t, e, c⟩ := x; exact ⟨ob, es, ep, t, k _ _ (.inl rfl) e, c⟩
  | ins C dx fs =>
    obtain ⟨d, z, ne, e, mA, ⟨od, es, ep, e2, c⟩, r⟩ := x
    exact ⟨ho _ d, z, ne, k _ _ (.inl rfl) e, mA, ⟨od, es, ep, k _ _ (.inr d) e2, c⟩, r⟩
  | own y => obtain ⟨ob, e⟩ := x; exact ⟨ob, k _ _ (.inl rfl) e⟩
  | xd fs => obtain ⟨mA, ⟨od, es, ep, e, c⟩, r⟩ := x; exact ⟨mA, ⟨od, es, ep, k _ _ (.inl rfl) e, c⟩, r⟩
  | rng lo hi => obtain ⟨t, u, v, e⟩ := x; exact ⟨t, u, v, k _ _ (.inl rfl) e⟩
  | frz ob u ih => obtain ⟨e, q⟩ := x; exact ⟨k _ _ (.inl rfl) e, ih q⟩
  | tbl ps =>
    have e : h.get? a = some { cls := .none, data := .fields ps } := x
    show h'.get? a = some { cls := .none, data := .fields ps }
    exact k a _ (.inl rfl) e
  | met f y =>
    have e : h.get? a = some (PySem.W.methodObj (.ref f) (.ref y)) := x
    show h'.get? a = some (PySem.W.methodObj (.ref f) (.ref y))
    exact k a _ (.inl rfl) e
  | ext φ => obtain ⟨p, ⟨o, e⟩, st⟩ := x; exact ⟨st _ _ p fun o q => k _ _ (.inl rfl) q, ⟨o, k _ _ (.inl rfl) e⟩, st⟩
theorem HOk.lt (x : HOk P w H h) (e : H a = some o) : a < h.objs.size := (x a o e).lt
theorem HOk.fresh (x : HOk P w H h) (e : h.objs.size ≤ a) : H a = none := by
  cases q : H a with
  | none => rfl
  | some u => exact absurd (Nat.lt_of_lt_of_le (x.lt q) e) (Nat.lt_irrefl _)
theorem HOk.kept (x : HOk P w H h) (k : ∀ b u, h.get? b = some u → h'.get? b = some u) : HOk P w H h' := fun a o e =>
  (x a o e).stay (fun b u _ q => k b u q) (fun _ q => q) fun _ _ q => q
theorem HOk.laid (x : HOk P w H h) (k : ∀ b u, h.get? b = some u → h'.get? b = some u) (hp : h.objs.size ≤ a) (new : ObjOk P w (upd H a o) h' a o) : HOk P w (upd H a o) h' := fun b u e => by
  have hn := x.fresh hp
  by_cases hb : b = a
  · subst hb; rw [upd_same] at e; cases e; exact new
  · rw [upd_ne hb] at e
    exact (x b u e).stay (fun c v _ q => k c v q) (fun c q => by rw [upd_ne (ne_of_none q hn)]; exact q) fun c xs q => by rw [upd_ne (ne_of_none q hn)]; exact q
end
def Rd (H : Hp) (a : Addr) (u : HO) : Prop := H a = some u ∨ ∃ o, H a = some (.frz o u)
theorem Rd.of {H : Hp} {a : Addr} {u : HO} (h : H a = some u) : Rd H a u := .inl h
theorem Rd.ok {P : Program} {w : World} {H : Hp} {h : Heap} {a : Addr} {u : HO} (r : Rd H a u) (x : HOk P w H h) : ObjOk P w H h a u := by
  rcases r with r | ⟨o, r⟩
  · exact x a u r
  · obtain ⟨_, q⟩ := x a _ r
    exact q
def Mut : Option HO → Prop
  | some (.lst _) => True
  | some (.dK _) => True
  | some (.dT _) => True
  | some (.set _ _) => True
  | some (.ins _ _ _) => True
  | some (.ext _) => True
  | _ => False
section
variable {P : Program} {w : World} {H : Hp} {h h' : Heap} {x e : Addr} {o' : HO}
theorem HOk.write (ok : HOk P w H h) (mu : Mut (H x)) (he : e = x ∨ H e = some (.own x)) (k : ∀ b u, b ≠ e → h.get? b = some u → h'.get? b = some u) (heo : ∃ u, h'.get? e = some u)
    (new : ObjOk P w (upd H x o') h' x o') : HOk P w (upd H x o') h' := fun b u q => by
  have nown : ∀ c y, H c = some (.own y) → c ≠ x := fun c y r z => by subst z; rw [r] at mu; exact mu
  have ntup : ∀ c xs, H c = some (.tup xs) → c ≠ x := fun c xs r z => by subst z; rw [r] at mu; exact mu
  by_cases hb : b = x
  · subst hb; rw [upd_same] at q; cases q; exact new
  · rw [upd_ne hb] at q
    by_cases hbe : b = e
    · have q' : H b = some (.own x) := by
        rcases he with z | z
        · exact absurd (hbe.trans z) hb
        · rw [hbe]; exact z
      rw [q] at q'; cases q'
      obtain ⟨v, hv⟩ := heo
      exact ⟨v, by rw [hbe]; exact hv⟩
    · refine (ok b u q).stay (fun c v hc r => k c v ?_ r) (fun c r => by rw [upd_ne (nown c b r)]; exact r) fun c xs r => by rw [upd_ne (ntup c xs r)]; exact r
      rcases hc with rfl | hc
      · exact hbe
      · rintro rfl
        rcases he with z | z
        · exact nown c b hc z
        · rw [hc] at z; cases z; exact hb rfl
end
structure Un (fs ex : List Addr) (H H' : Hp) (h h' : Heap) : Prop where
  keep : ∀ b o, h.get? b = some o → H b = none → b ∉ fs → b ∉ ex → h'.get? b = some o
  slot : ∀ b o, h.get? b = some o → H b = none → b ∈ fs → b ∉ ex → ∃ sl, h'.get? b = some { o with slots := sl }
  free : ∀ b o, h.get? b = some o → H b = none → b ∉ ex → H' b = none
  there : ∀ b o, h.get? b = some o → b ∉ ex → ∃ o', h'.get? b = some o'
  tups : ∀ b xs, H b = some (.tup xs) → H' b = some (.tup xs)
  frzs : ∀ b o u, H b = some (.frz o u) → H' b = some (.frz o u)
  tbls : ∀ b ps, H b = some (.tbl ps) → ∃ more, H' b = some (.tbl (ps ++ more))
section
variable {fs fs' ex ex' : List Addr} {H H1 H2 : Hp} {h h1 h2 h' : Heap} {a x e : Addr} {o : HO}
theorem Un.any (u : Un fs ex H H1 h h1) {b : Addr} {ob : Obj} (q : h.get? b = some ob) (n : H b = none) (hx : b ∉ ex) : ∃ sl, h1.get? b = some { ob with slots := sl } := by
  by_cases hb : b ∈ fs
  · exact u.slot b ob q n hb hx
  · exact ⟨ob.slots, u.keep b ob q n hb hx⟩
theorem Un.trans (a : Un fs ex H H1 h h1) (b : Un fs ex H1 H2 h1 h2) : Un fs ex H H2 h h2 where
  keep := fun c ob q n hc hx => b.keep c ob (a.keep c ob q n hc hx) (a.free c ob q n hx) hc hx
  slot := fun c ob q n hc hx => by
    obtain ⟨sl, e1⟩ := a.slot c ob q n hc hx
    obtain ⟨sl', e2⟩ := b.slot c _ e1 (a.free c ob q n hx) hc hx
    exact ⟨sl', e2⟩
  free := fun c ob q n hx => by
    obtain ⟨o', e1⟩ := a.there c ob q hx
    exact b.free c o' e1 (a.free c ob q n hx) hx
  there := fun c ob q hx => by
    obtain ⟨o', e1⟩ := a.there c ob q hx
    exact b.there c o' e1 hx
  tups := fun c xs q => b.tups c xs (a.tups c xs q)
  frzs := fun c ob xs q => b.frzs c ob xs (a.frzs c ob xs q)
  tbls := fun c ps q => by
    obtain ⟨m1, e1⟩ := a.tbls c ps q
    obtain ⟨m2, e2⟩ := b.tbls c _ e1
    exact ⟨m1 ++ m2, by rw [e2, Array.append_assoc]⟩
theorem Un.kept (k : ∀ b u, h.get? b = some u → h'.get? b = some u) : Un fs ex H H h h' :=
  ⟨fun b ob q _ _ _ => k b ob q, fun b ob q _ _ _ => ⟨ob.slots, k b ob q⟩, fun _ _ _ n _ => n, fun b ob q _ => ⟨ob, k b ob q⟩, fun _ _ q => q, fun _ _ _ q => q, fun _ ps q => ⟨#[], by rw [q]; simp⟩⟩
theorem Un.refl : Un fs ex H H h h := Un.kept fun _ _ q => q
theorem Un.laid (k : ∀ b u, h.get? b = some u → h'.get? b = some u) (hp : h.objs.size ≤ a) (hn : H a = none) : Un fs ex H (upd H a o) h h' where
  keep := fun b u q _ _ _ => k b u q
  slot := fun b u q _ _ _ => ⟨u.slots, k b u q⟩
  free := fun b u q n _ => by rw [upd_ne (Nat.ne_of_lt (Nat.lt_of_lt_of_le (Heap.lt_size q) hp))]; exact n
  there := fun b u q _ => ⟨u, k b u q⟩
  tups := fun b xs q => by rw [upd_ne (ne_of_none q hn)]; exact q
  frzs := fun b u xs q => by rw [upd_ne (ne_of_none q hn)]; exact q
  tbls := fun b ps q => ⟨#[], by rw [upd_ne (ne_of_none q hn), q]; simp⟩
theorem Un.write (mu : Mut (H x)) (he : e = x ∨ H e = some (.own x)) (k : ∀ b u, b ≠ e → h.get? b = some u → h'.get? b = some u) (heo : ∃ u, h'.get? e = some u) : Un fs ex H (upd H x o) h h' := by
  have hx : ∀ b, H b = none → b ≠ x := fun b n z => by subst z; rw [n] at mu; exact mu
  have hb : ∀ b, H b = none → b ≠ e := fun b n z => by
    subst z
    rcases he with r | r
    · exact hx b n r
    · rw [n] at r; cases r
  have hm : ∀ b u, H b = some u → ¬ Mut (some u) → b ≠ x := fun b u q nm z => by subst z; rw [q] at mu; exact nm mu
  refine ⟨fun b u q n _ _ => k b u (hb b n) q, fun b u q n _ _ => ⟨u.slots, k b u (hb b n) q⟩, fun b u q n _ => by rw [upd_ne (hx b n)]; exact n, fun b u q _ => ?_,
    fun b xs q => by rw [upd_ne (hm b _ q fun z => z)]; exact q, fun b u xs q => by rw [upd_ne (hm b _ q fun z => z)]; exact q, fun b ps q => ⟨#[], by rw [upd_ne (hm b _ q fun z => z), q]; simp⟩⟩
  by_cases hbe : b = e
  · subst hbe; exact heo
  · exact ⟨u, k b u hbe q⟩
theorem Un.mono (u : Un fs ex H H1 h h1) (hs : ∀ b ∈ fs, b ∈ fs') (hx : ∀ b ∈ ex, b ∈ ex') : Un fs' ex' H H1 h h1 :=
  ⟨fun b ob q n hb he => u.keep b ob q n (fun z => hb (hs b z)) fun z => he (hx b z), fun _ _ q n _ he => u.any q n fun z => he (hx _ z), fun b ob q n he => u.free b ob q n fun z => he (hx b z), fun b ob q he => u.there b ob q fun z => he (hx b z), u.tups, u.frzs, u.tbls⟩
end
def trk (h : Heap) (H : Hp) : List Addr := (List.range h.objs.size).filter fun a => (H a).isSome
def hidT (h : Heap) (H : Hp) : Heap := PySem.W.hideAll h (trk h H)
theorem hidT_size (h : Heap) (H : Hp) : (hidT h H).objs.size = h.objs.size := PySem.W.hideAll_size _ _
theorem hidT_get {h : Heap} {H : Hp} {b : Addr} {o : Obj} (e : h.get? b = some o) (n : H b = none) : (hidT h H).get? b = some o :=
  PySem.W.hideAll_get _ e fun hm => by
    have q : (H b).isSome = true := (List.mem_filter.mp hm).2
    rw [n] at q; simp at q
theorem of_hidT {h : Heap} {H : Hp} {b : Addr} {o : Obj} (e : (hidT h H).get? b = some o) : h.get? b = some o ∧ H b = none := by
  have e' : h.get? b = some o := PySem.W.of_hideAll (trk h H) e
  refine ⟨e', ?_⟩
  cases q : H b with
  | none => rfl
  | some x =>
    have hm : b ∈ trk h H := List.mem_filter.mpr ⟨List.mem_range.mpr (Heap.lt_size e'), by simp [q]⟩
    have z : (hidT h H).get? b = none := PySem.W.hideAll_none (trk h H) hm
    rw [z] at e; cases e
def allNews (g h : Heap) (L : Addr) : List (Addr × Obj) := (List.range h.objs.size).filterMap fun a => if a = L ∨ (g.get? a).isSome = true then none else (h.get? a).map fun o => (a, o)
def rest (g h : Heap) (L d : Addr) : List (Addr × Obj) := (allNews g h L).filter fun p => decide (p.1 ≠ d)
end L2
namespace L2
open PySem PySem.Spec PyProof.Rows
structure Mod (K : PySem.W.Frag) (mg : Str → Option Value) (base : Heap) : Prop where
  kin : K.In base
  glob : base.Ns mainGlobals mg
  blt : ∃ mb, base.Ns builtinsNs mb ∧ ∀ x : Str, x ≠ "__name__" → mb x = bootBuiltins x
  nolimit : base.NoLimit
structure Cx where
  prog : Program
  w : World
  K : PySem.W.Frag
  mg : Str → Option Value
  base : Heap
  A : Around
  N : List Str
  s₀ : Shared
  H₀ : Hp
  env : Env
  outer : List Env
  stack : List Env
  ex : List Addr
  fn : Str → Bool
  calm : Bool
  pn : List (Addr × Obj)
  xe : Value → Shared → Prop
def frs (l : List Env) : List Addr := l.filterMap (·.frame)
abbrev Cx.fs (X : Cx) : List Addr := frs X.outer
def Vis (sc : Scope) (x : Str) : Prop := sc.names.lookup x = some .local ∨ sc.names.lookup x = some .cell ∨ sc.names.lookup x = some .free
def Loc (sc : Scope) (x : Str) : Prop := sc.names.lookup x = some .local ∨ sc.names.lookup x = some .cell
def Look (env : Env) (h : Heap) (m : Str → Option Value) (x : Str) (u : Value) : Prop :=
  (env.kindOf x = some .local ∧ m x = some u) ∨ ((env.kindOf x = some .cell ∨ env.kindOf x = some .free) ∧ ∃ c, env.cells.lookup x = some c ∧ h.IsCell c (some u))
structure Cx.Ok (X : Cx) : Prop where
  mod : Mod X.K X.mg X.base
  kind : X.env.scope.kind = .function
  glob : X.env.globals = mainGlobals
  blt : X.env.builtins = builtinsNs
  above : X.s₀.heap.objs.size ≤ X.env.locals
  inj : ∀ x y c, X.env.cells.lookup x = some c → X.env.cells.lookup y = some c → x = y
  has : ∀ x, (X.env.kindOf x = some .cell ∨ X.env.kindOf x = some .free) → ∃ c, X.env.cells.lookup x = some c
  cab : ∀ x c, X.fn x = true → X.env.cells.lookup x = some c → X.s₀.heap.objs.size ≤ c
  hd : X.calm = true → X.A.handled = none
  frames : X.A.frames = some X.stack
  stk : X.stack = X.outer ∨ (X.stack = X.env :: X.outer ∧ X.env.frame = some X.env.locals)
  exf : ∀ b ∈ X.ex, b ≠ X.env.locals ∧ ∀ x c, X.env.cells.lookup x = some c → c ≠ b
  bs : ∀ b o, X.base.get? b = some o → X.s₀.heap.get? b = some o ∧ X.H₀ b = none
  bsz : X.base.objs.size ≤ X.s₀.heap.objs.size
  noex : ∀ b o, X.base.get? b = some o → b ∉ X.ex
  exfs : ∀ b ∈ X.ex, b ∉ X.fs
  funs : X.s₀.heap.FunFrames X.base X.outer
  frf : ∀ b ∈ X.fs, X.H₀ b = none
structure Inv (X : Cx) (pins : List (Addr × Obj)) (σ : List (Option V)) (H : Hp) (s : Shared) : Prop where
  ok : X.Ok
  os : s.os = X.s₀.os
  bare : AllBare s.gens
  base : Un X.fs X.ex X.H₀ H X.s₀.heap s.heap
  loc : ∃ m, s.heap.Ns X.env.locals m ∧ ∀ (i : Nat) (x : Str) (v : V), X.N[i]? = some x → σ[i]? = some (some v) → Vis X.env.scope x → ∃ u, RelV v u ∧ Look X.env s.heap m x u
  cell : ∀ x c, X.env.cells.lookup x = some c → ∃ v, s.heap.IsCell c v
  free : H X.env.locals = none
  freeC : ∀ x c, X.env.cells.lookup x = some c → H c = none
  pin : ∀ p ∈ X.pn ++ pins, s.heap.get? p.1 = some p.2 ∧ H p.1 = none ∧ p.1 ≠ X.env.locals ∧ p.1 ∉ X.fs ∧ ∀ v, p.2.data ≠ .cell v
  hok : HOk X.prog X.w H s.heap
  len : σ.length = X.N.length
section
variable {X : Cx} {pins : List (Addr × Obj)} {σ : List (Option V)} {H H' : Hp} {s : Shared} {h' : Heap}
theorem Cx.Ok.nofr (ok : X.Ok) {b : Addr} {o : Obj} (e : X.base.get? b = some o) : b ∉ X.fs := fun hb => by
  have := (ok.funs.mem hb).1
  rw [e] at this; cases this
theorem Inv.bs (I : Inv X pins σ H s) : ∀ b o, X.base.get? b = some o → s.heap.get? b = some o ∧ H b = none := fun b o e =>
  ⟨I.base.keep b o (I.ok.bs b o e).1 (I.ok.bs b o e).2 (I.ok.nofr e) (I.ok.noex b o e), I.base.free b o (I.ok.bs b o e).1 (I.ok.bs b o e).2 (I.ok.noex b o e)⟩
theorem Inv.bk (I : Inv X pins σ H s) : ∀ b o, X.base.get? b = some o → s.heap.get? b = some o := fun b o e => (I.bs b o e).1
theorem Inv.mod (I : Inv X pins σ H s) : Mod X.K X.mg X.base := I.ok.mod
theorem Inv.kIn (I : Inv X pins σ H s) : X.K.In s.heap := I.ok.mod.kin.keeps I.bk
theorem Inv.nolimit (I : Inv X pins σ H s) : s.heap.NoLimit := I.ok.mod.nolimit.keeps I.bk
theorem Inv.fr (I : Inv X pins σ H s) : ∃ m, Fr X.base X.env.locals s.heap m :=
  let ⟨m, hn, _⟩ := I.loc
  ⟨m, hn, I.bk, Nat.le_trans I.ok.bsz I.ok.above⟩
theorem Inv.lt (I : Inv X pins σ H s) : X.env.locals < s.heap.objs.size := let ⟨_, hn, _⟩ := I.loc; hn.lt
theorem Inv.sz (I : Inv X pins σ H s) : X.s₀.heap.objs.size ≤ s.heap.objs.size := Nat.le_trans I.ok.above (Nat.le_of_lt I.lt)
theorem Inv.nofs (I : Inv X pins σ H s) {a : Addr} (h : s.heap.objs.size ≤ a) : a ∉ X.fs := fun hb => by
  obtain ⟨_, o, ho, _⟩ := I.ok.funs.mem hb
  exact absurd (Nat.lt_of_lt_of_le (Heap.lt_size ho) (Nat.le_trans I.sz h)) (Nat.lt_irrefl _)
theorem Inv.cne (I : Inv X pins σ H s) : ∀ x c, X.env.cells.lookup x = some c → c ≠ X.env.locals := fun x c e z => by
  obtain ⟨v, o, ho, hd⟩ := I.cell x c e
  obtain ⟨m, ⟨o', es, ep, ho', hd', _⟩, _⟩ := I.loc
  rw [z, ho'] at ho; cases ho; rw [hd'] at hd; cases hd
theorem Inv.funs (I : Inv X pins σ H s) : s.heap.FunFrames X.base X.outer := by
  have all : ∀ (l : List Env), (∀ b ∈ frs l, b ∈ X.fs) → X.s₀.heap.FunFrames X.base l → s.heap.FunFrames X.base l := by
    intro l
    induction l with
    | nil => intro _ _; trivial
    | cons env r ih =>
      intro hs hl
      obtain ⟨hk, ⟨L, o, hf, hn, ho, hd⟩, hr⟩ := hl
      have hL : L ∈ X.fs := hs L (by unfold frs; rw [List.filterMap_cons, hf]; exact List.mem_cons_self)
      obtain ⟨sl, e⟩ := I.base.slot L o ho (I.ok.frf L hL) hL fun z => I.ok.exfs L z hL
      exact ⟨hk, ⟨L, _, hf, hn, e, hd⟩, ih (fun b hb => hs b (by unfold frs; rw [List.filterMap_cons, hf]; exact List.mem_cons_of_mem _ hb)) hr⟩
  exact all X.outer (fun _ hb => hb) I.ok.funs
theorem Inv.stack (I : Inv X pins σ H s) : s.heap.FunFrames X.base X.stack := by
  rcases I.ok.stk with e | ⟨e, hf⟩
  · rw [e]; exact I.funs
  · rw [e]
    obtain ⟨m, hn, _⟩ := I.loc
    refine .cons (by rw [I.ok.kind]; decide) hf hn ?_ I.funs
    exact Heap.get?_none_of_le (Nat.le_trans I.ok.bsz I.ok.above)
theorem Inv.stkSub (I : Inv X pins σ H s) : ∀ b ∈ frs X.stack, b ∈ X.env.locals :: X.fs := fun b hb => by
  rcases I.ok.stk with e | ⟨e, hf⟩
  · rw [e] at hb; exact List.mem_cons_of_mem _ hb
  · rw [e] at hb
    unfold frs at hb
    rw [List.filterMap_cons, hf] at hb
    exact hb
theorem Inv.stkFree (I : Inv X pins σ H s) : ∀ b ∈ frs X.stack, H b = none := fun b hb => by
  rcases List.mem_cons.mp (I.stkSub b hb) with e | hb
  · rw [e]; exact I.free
  · obtain ⟨_, o, ho, _⟩ := I.ok.funs.mem hb
    exact I.base.free b o ho (I.ok.frf b hb) fun z => I.ok.exfs b z hb
theorem Inv.step {g' : Array GenState} {t' : Nat} {d' : Drawn} {ch : List Addr} (I : Inv X pins σ H s)
    (hch : ∀ b ∈ ch, (b ∈ X.ex ∨ X.s₀.heap.objs.size ≤ b) ∧ b ≠ X.env.locals ∧ (∀ x c, X.env.cells.lookup x = some c → c ≠ b) ∧ ∀ p ∈ X.pn ++ pins, p.1 ≠ b)
    (keep : ∀ b o, b ≠ X.env.locals → b ∉ X.fs → b ∉ ch → s.heap.get? b = some o → H b = none → h'.get? b = some o)
    (slot : ∀ b o, b ≠ X.env.locals → b ∈ X.fs → b ∉ ch → s.heap.get? b = some o → H b = none → ∃ sl, h'.get? b = some { o with slots := sl }) (free : ∀ b o, b ∉ ch → s.heap.get? b = some o → H b = none → H' b = none)
    (there : ∀ b o, b ∉ ch → s.heap.get? b = some o → ∃ o', h'.get? b = some o')
    (tups : ∀ b xs, H b = some (.tup xs) → H' b = some (.tup xs)) (frzs : ∀ b o u, H b = some (.frz o u) → H' b = some (.frz o u)) (tbls : ∀ b ps, H b = some (.tbl ps) → ∃ more, H' b = some (.tbl (ps ++ more)))
    (ns : ∀ m, s.heap.Ns X.env.locals m → h'.Ns X.env.locals m) (hok : HOk X.prog X.w H' h') (hg : AllBare g') :
    Inv X pins σ H' { s with heap := h', gens := g', drawn := d', toks := t' } := by
  have neL : ∀ b o, X.s₀.heap.get? b = some o → b ≠ X.env.locals := fun b o e => Nat.ne_of_lt (Nat.lt_of_lt_of_le (Heap.lt_size e) I.ok.above)
  have neC : ∀ b o, X.s₀.heap.get? b = some o → b ∉ X.ex → b ∉ ch := fun b o e hx hb => by
    rcases (hch b hb).1 with z | z
    · exact hx z
    · exact absurd (Nat.lt_of_lt_of_le (Heap.lt_size e) z) (Nat.lt_irrefl _)
  have cellK : ∀ x c, X.env.cells.lookup x = some c → ∀ v, s.heap.IsCell c v → h'.IsCell c v := fun x c e v ⟨o, ho, hd⟩ => by
    have nch : c ∉ ch := fun z => (hch c z).2.2.1 x c e rfl
    by_cases hc : c ∈ X.fs
    · obtain ⟨sl, q⟩ := slot c o (I.cne x c e) hc nch ho (I.freeC x c e)
      exact ⟨_, q, hd⟩
    · exact ⟨o, keep c o (I.cne x c e) hc nch ho (I.freeC x c e), hd⟩
  refine ⟨I.ok, I.os, hg, ⟨fun b o e n hb hx => ?_, fun b o e n hb hx => ?_, fun b o e n hx => ?_, fun b o e hx => ?_, fun b xs e => tups b xs (I.base.tups b xs e), fun b o xs e => frzs b o xs (I.base.frzs b o xs e), fun b ps e => ?_⟩, ?_, fun x c e => ?_, ?_, fun x c e => ?_, fun p hp => ?_, hok, I.len⟩
  · exact keep b o (neL b o e) hb (neC b o e hx) (I.base.keep b o e n hb hx) (I.base.free b o e n hx)
  · obtain ⟨sl, e1⟩ := I.base.slot b o e n hb hx
    obtain ⟨sl', e2⟩ := slot b _ (neL b o e) hb (neC b o e hx) e1 (I.base.free b o e n hx)
    exact ⟨sl', e2⟩
  · obtain ⟨o', e1⟩ := I.base.there b o e hx
    exact free b o' (neC b o e hx) e1 (I.base.free b o e n hx)
  · obtain ⟨o', e1⟩ := I.base.there b o e hx
    exact there b o' (neC b o e hx) e1
  · obtain ⟨m1, e1⟩ := I.base.tbls b ps e
    obtain ⟨m2, e2⟩ := tbls b _ e1
    exact ⟨m1 ++ m2, by rw [e2, Array.append_assoc]⟩
  · obtain ⟨m, hn, hl⟩ := I.loc
    refine ⟨m, ns m hn, fun i x v e1 e2 e3 => ?_⟩
    obtain ⟨u, r, l⟩ := hl i x v e1 e2 e3
    refine ⟨u, r, ?_⟩
    rcases l with l | ⟨k, c, e, z⟩
    · exact .inl l
    · exact .inr ⟨k, c, e, cellK x c e _ z⟩
  · obtain ⟨v, z⟩ := I.cell x c e
    exact ⟨v, cellK x c e v z⟩
  · obtain ⟨m, ⟨o, _, _, ho, _⟩, _⟩ := I.loc
    exact free _ o (fun z => (hch _ z).2.1 rfl) ho I.free
  · obtain ⟨v, o, ho, hd⟩ := I.cell x c e
    exact free c o (fun z => (hch c z).2.2.1 x c e rfl) ho (I.freeC x c e)
  · obtain ⟨e, n, ne, nf, d⟩ := I.pin p hp
    have nch : p.1 ∉ ch := fun z => (hch p.1 z).2.2.2 p hp rfl
    exact ⟨keep p.1 p.2 ne nf nch e n, free p.1 p.2 nch e n, ne, nf, d⟩
theorem Inv.un {t' : Nat} (I : Inv X pins σ H s) (u : Un X.fs [] H H' s.heap h') (hok : HOk X.prog X.w H' h') : Inv X pins σ H' { s with heap := h', toks := t' } := by
  obtain ⟨m, ⟨o, es, ep, ho, r⟩, _⟩ := id I.loc
  obtain ⟨sl, hL⟩ := u.any ho I.free (by simp)
  exact I.step (g' := s.gens) (d' := s.drawn) (ch := []) (fun _ z => nomatch z) (fun b o _ hb _ e n => u.keep b o e n hb (by simp)) (fun b o _ hb _ e n => u.slot b o e n hb (by simp)) (fun b o _ e n => u.free b o e n (by simp)) (fun b o _ e => u.there b o e (by simp)) u.tups u.frzs u.tbls (fun m' hm => by
    obtain ⟨o', es', ep', ho', r'⟩ := hm
    rw [ho] at ho'; cases ho'
    exact ⟨_, es', ep', hL, r'⟩) hok I.bare
theorem Inv.call {g' : Array GenState} {t' : Nat} {d' : Drawn} {ch : List Addr} (I : Inv X pins σ H s) (u : Un (frs X.stack) ch H H' s.heap h') (hok : HOk X.prog X.w H' h') (hg : AllBare g')
    (hch : ∀ b ∈ ch, (b ∈ X.ex ∨ X.s₀.heap.objs.size ≤ b) ∧ b ≠ X.env.locals ∧ (∀ x c, X.env.cells.lookup x = some c → c ≠ b) ∧ ∀ p ∈ X.pn ++ pins, p.1 ≠ b) :
    Inv X pins σ H' { s with heap := h', gens := g', drawn := d', toks := t' } := by
  obtain ⟨m, ⟨o, es, ep, ho, r⟩, _⟩ := id I.loc
  obtain ⟨sl, hL⟩ := u.any ho I.free fun z => (hch _ z).2.1 rfl
  exact I.step (ch := ch) hch (fun b o hL hb hc e n => u.keep b o e n (fun z => (List.mem_cons.mp (I.stkSub b z)).elim hL hb) hc) (fun b o _ _ hc e n => u.any e n hc) (fun b o hc e n => u.free b o e n hc) (fun b o hc e => u.there b o e hc) u.tups u.frzs u.tbls (fun m' hm => by
    obtain ⟨o', es', ep', ho', r'⟩ := hm
    rw [ho] at ho'; cases ho'
    exact ⟨_, es', ep', hL, r'⟩) hok hg
theorem Inv.turned {t' : Nat} {it : Addr} (I : Inv X pins σ H s) (k : ∀ b o, b ≠ it → s.heap.get? b = some o → h'.get? b = some o) (hn : H it = none) (hL : it ≠ X.env.locals)
    (h1 : it ∈ X.ex ∨ X.s₀.heap.objs.size ≤ it) (h2 : ∀ x c, X.env.cells.lookup x = some c → c ≠ it) (h3 : ∀ p ∈ X.pn ++ pins, p.1 ≠ it) : Inv X pins σ H { s with heap := h', toks := t' } := by
  have nit : ∀ b u, H b = some u → b ≠ it := fun b u e z => by rw [z, hn] at e; cases e
  refine I.step (g' := s.gens) (d' := s.drawn) (ch := [it]) (fun b hb => ?_) (fun b o _ _ hc e _ => k b o (fun z => hc (by simp [z])) e) (fun b o _ _ hc e _ => ⟨o.slots, k b o (fun z => hc (by simp [z])) e⟩) (fun _ _ _ _ n => n)
    (fun b o hc e => ⟨o, k b o (fun z => hc (by simp [z])) e⟩) (fun _ _ e => e) (fun _ _ _ e => e) (fun b ps e => ⟨#[], by rw [e]; simp⟩) (fun m hm => ?_) (fun b u e => ?_) I.bare
  · have e : b = it := by simpa using hb
    subst e
    exact ⟨h1, hL, h2, h3⟩
  · obtain ⟨o, es, ep, ho, r⟩ := hm
    exact ⟨o, es, ep, k _ o (Ne.symm hL) ho, r⟩
  · refine (I.hok b u e).stay (fun c v hc q => k c v ?_ q) (fun _ q => q) fun _ _ q => q
    rcases hc with z | z
    · rw [z]; exact nit b u e
    · exact nit c _ z
theorem Inv.tok (I : Inv X pins σ H s) (t : Nat) : Inv X pins σ H { s with toks := t } := I.un (h' := s.heap) (t' := t) Un.refl I.hok
theorem Inv.kept {t' : Nat} (I : Inv X pins σ H s) (k : ∀ b u, s.heap.get? b = some u → h'.get? b = some u) : Inv X pins σ H { s with heap := h', toks := t' } := I.un (Un.kept k) (I.hok.kept k)
theorem Inv.laid {a : Addr} {o : HO} {t' : Nat} (I : Inv X pins σ H s) (k : ∀ b u, s.heap.get? b = some u → h'.get? b = some u) (hp : s.heap.objs.size ≤ a) (new : ObjOk X.prog X.w (upd H a o) h' a o) :
    Inv X pins σ (upd H a o) { s with heap := h', toks := t' } := I.un (Un.laid k hp (I.hok.fresh hp)) (I.hok.laid k hp new)
theorem Inv.write {x e : Addr} {o : HO} {t' : Nat} (I : Inv X pins σ H s) (mu : Mut (H x)) (he : e = x ∨ H e = some (.own x)) (k : ∀ b u, b ≠ e → s.heap.get? b = some u → h'.get? b = some u) (heo : ∃ u, h'.get? e = some u)
    (new : ObjOk X.prog X.w (upd H x o) h' x o) : Inv X pins σ (upd H x o) { s with heap := h', toks := t' } := I.un (Un.write mu he k heo) (I.hok.write mu he k heo new)
theorem Inv.pins_of {pins' : List (Addr × Obj)} (I : Inv X pins σ H s) (h : ∀ p ∈ pins', s.heap.get? p.1 = some p.2 ∧ H p.1 = none ∧ p.1 ≠ X.env.locals ∧ p.1 ∉ X.fs ∧ ∀ v, p.2.data ≠ .cell v) : Inv X pins' σ H s :=
  ⟨I.ok, I.os, I.bare, I.base, I.loc, I.cell, I.free, I.freeC, fun p hp => (List.mem_append.mp hp).elim (fun z => I.pin p (List.mem_append_left _ z)) (h p), I.hok, I.len⟩
theorem nodup_ix {N : List Str} (hN : N.Nodup) {i j : Nat} {x : Str} (a : N[i]? = some x) (b : N[j]? = some x) : i = j := by
  obtain ⟨h1, e1⟩ := List.getElem?_eq_some_iff.mp a
  obtain ⟨h2, e2⟩ := List.getElem?_eq_some_iff.mp b
  exact (List.getElem_inj hN).mp (e1.trans e2.symm)
theorem store_ok2 {M : Model} {A : Around} {E : Value → Shared → Prop} {i : Nat} {x : Str} {v : V} {u : Value} {Q : Unit → Shared → Prop} (I : Inv X pins σ H s) (hN : X.N.Nodup) (hi : X.N[i]? = some x) (hx : Loc X.env.scope x) (r : RelV v u)
    (h : ∀ s', Inv X pins (σ.set i (some v)) H s' → (∃ a, Heap.SameBut a s.heap s'.heap ∧ (a = X.env.locals ∨ X.env.cells.lookup x = some a)) → Q () s') (hf : X.fn x = true ∨ X.env.scope.names.lookup x = some .local := by first | exact .inl rfl | exact .inr rfl | assumption) : wpAny M A (storeName X.env x u) Q E s := by
  obtain ⟨m, hn, hl⟩ := id I.loc
  have hcls : (X.env.scope.kind == .class || (X.env.scope.kind == .module && X.env.locals != X.env.globals)) = false := by rw [I.ok.kind]; rfl
  have hiσ : i < σ.length := by rw [I.len]; exact (List.getElem?_eq_some_iff.mp hi).1
  have cne := I.cne
  have tracked : ∀ {a : Addr} {h' : Heap}, (∃ o, s.heap.get? a = some o ∧ H a = none) → Heap.SameBut a s.heap h' → HOk X.prog X.w H h' := fun {a h'} ha hs b ob e => by
    obtain ⟨_, _, hfree⟩ := ha
    refine (I.hok b ob e).stay (fun c w' hc q => (hs.2 c ?_).trans q) (fun _ q => q) fun _ _ q => q
    rintro rfl
    rcases hc with rfl | hc
    · rw [hfree] at e; cases e
    · rw [hfree] at hc; cases hc
  rcases hx with hk | hk
  · refine wpAny_storeName_local hk hn (fun h' hn' hs => ?_) hcls
    obtain ⟨oL, _, _, hoL, _⟩ := id hn
    refine h _ ⟨I.ok, I.os, I.bare, ⟨fun b o e n hb hx => ?_, fun b o e n hb hx => ?_, I.base.free, fun b o e hx => ?_, I.base.tups, I.base.frzs, I.base.tbls⟩, ⟨_, hn', fun j y v' e1 e2 e3 => ?_⟩, fun y c e => ?_, I.free, I.freeC, fun p hp => ?_, tracked ⟨oL, hoL, I.free⟩ hs, by simpa using I.len⟩ ⟨_, hs, .inl rfl⟩
    · exact (hs.2 b (Nat.ne_of_lt (Nat.lt_of_lt_of_le (Heap.lt_size e) I.ok.above))).trans (I.base.keep b o e n hb hx)
    · obtain ⟨sl, e1⟩ := I.base.slot b o e n hb hx
      exact ⟨sl, (hs.2 b (Nat.ne_of_lt (Nat.lt_of_lt_of_le (Heap.lt_size e) I.ok.above))).trans e1⟩
    · obtain ⟨o', e1⟩ := I.base.there b o e hx
      exact ⟨o', (hs.2 b (Nat.ne_of_lt (Nat.lt_of_lt_of_le (Heap.lt_size e) I.ok.above))).trans e1⟩
    · by_cases hj : j = i
      · subst hj
        rw [hi] at e1; cases e1
        rw [List.getElem?_set_self hiσ] at e2
        cases e2
        exact ⟨u, r, .inl ⟨hk, by simp⟩⟩
      · rw [List.getElem?_set_ne (Ne.symm hj)] at e2
        obtain ⟨u', r', q⟩ := hl j y v' e1 e2 e3
        refine ⟨u', r', ?_⟩
        rcases q with ⟨k, e⟩ | ⟨k, c, e, z⟩
        · refine .inl ⟨k, ?_⟩
          have : y ≠ x := fun e => hj (nodup_ix hN e1 (e ▸ hi))
          simp [this, e]
        · exact .inr ⟨k, c, e, z.sameBut hs (cne y c e)⟩
    · obtain ⟨w', z⟩ := I.cell y c e
      exact ⟨w', z.sameBut hs (cne y c e)⟩
    · obtain ⟨e, n, ne, nf, d⟩ := I.pin p hp
      exact ⟨(hs.2 p.1 ne).trans e, n, ne, nf, d⟩
  · have hfn : X.fn x = true := by
      rcases hf with z | z
      · exact z
      · rw [z] at hk; cases hk
    obtain ⟨c, hc⟩ := I.ok.has x (.inl hk)
    obtain ⟨w', z⟩ := I.cell x c hc
    refine wpAny_storeName_cell I.ok.kind hk hc z (fun h' hc' hs => ?_)
    obtain ⟨oc, hoc, hocd⟩ := id z
    refine h { s with heap := h' } ⟨I.ok, I.os, I.bare, ⟨fun b o e n hb hx => ?_, fun b o e n hb hx => ?_, I.base.free, fun b o e hx => ?_, I.base.tups, I.base.frzs, I.base.tbls⟩, ⟨m, hn.sameBut hs (Ne.symm (cne x c hc)), fun j y v' e1 e2 e3 => ?_⟩, fun y c' e => ?_, I.free, I.freeC, fun p hp => ?_, tracked ⟨oc, hoc, I.freeC x c hc⟩ hs, by simpa using I.len⟩ ⟨c, hs, .inr hc⟩
    · exact (hs.2 b (Nat.ne_of_lt (Nat.lt_of_lt_of_le (Heap.lt_size e) (I.ok.cab x c hfn hc)))).trans (I.base.keep b o e n hb hx)
    · obtain ⟨sl, e1⟩ := I.base.slot b o e n hb hx
      exact ⟨sl, (hs.2 b (Nat.ne_of_lt (Nat.lt_of_lt_of_le (Heap.lt_size e) (I.ok.cab x c hfn hc)))).trans e1⟩
    · obtain ⟨o', e1⟩ := I.base.there b o e hx
      exact ⟨o', (hs.2 b (Nat.ne_of_lt (Nat.lt_of_lt_of_le (Heap.lt_size e) (I.ok.cab x c hfn hc)))).trans e1⟩
    · by_cases hj : j = i
      · subst hj
        rw [hi] at e1; cases e1
        rw [List.getElem?_set_self hiσ] at e2
        cases e2
        exact ⟨u, r, .inr ⟨.inl hk, c, hc, hc'⟩⟩
      · rw [List.getElem?_set_ne (Ne.symm hj)] at e2
        obtain ⟨u', r', q⟩ := hl j y v' e1 e2 e3
        refine ⟨u', r', ?_⟩
        rcases q with q | ⟨k, c', e, z'⟩
        · exact .inl q
        · refine .inr ⟨k, c', e, z'.sameBut hs ?_⟩
          rintro rfl
          exact hj (nodup_ix hN e1 (I.ok.inj _ _ _ e hc ▸ hi))
    · by_cases hcc : c' = c
      · subst hcc; exact ⟨_, hc'⟩
      · obtain ⟨w2, z2⟩ := I.cell y c' e
        exact ⟨w2, z2.sameBut hs hcc⟩
    · obtain ⟨e, n, ne, nf, d⟩ := I.pin p hp
      refine ⟨(hs.2 p.1 ?_).trans e, n, ne, nf, d⟩
      intro q
      rw [q, hoc] at e
      have q' : oc = p.2 := Option.some.inj e
      exact d w' (by rw [← q']; exact hocd)
theorem store_ok {M : Model} {A : Around} {E : Value → Shared → Prop} {i : Nat} {x : Str} {v : V} {u : Value} {Q : Unit → Shared → Prop} (I : Inv X pins σ H s) (hN : X.N.Nodup) (hi : X.N[i]? = some x) (hx : Loc X.env.scope x) (r : RelV v u)
    (h : ∀ s', Inv X pins (σ.set i (some v)) H s' → Q () s') (hf : X.fn x = true ∨ X.env.scope.names.lookup x = some .local := by first | exact .inl rfl | exact .inr rfl | assumption) : wpAny M A (storeName X.env x u) Q E s :=
  store_ok2 I hN hi hx r (fun s' I' _ => h s' I') hf
end
abbrev XK := Value → Option Addr → Hp → Prop
abbrev St := List (Option V)
abbrev VK := V → Hp → Prop
abbrev TE := St → Hp → VK → Prop
abbrev TT := St → Hp → (Bool → Hp → Prop) → Prop
abbrev TA := St → Hp → (List V → Hp → Prop) → Prop
structure Ends where
  nx : St → Hp → Prop
  rt : VK
  bk : St → Hp → Prop := fun _ _ => False
  ct : St → Hp → Prop := fun _ _ => False
abbrev TS := Ends → St → Hp → Prop
def EP (X : Cx) (pins : List (Addr × Obj)) (σ : St) (Q : VK) (u : Value) (s' : Shared) : Prop := ∃ v H', Inv X pins σ H' s' ∧ RelV v u ∧ Q v H'
def TP (X : Cx) (pins : List (Addr × Obj)) (σ : St) (Q : Bool → Hp → Prop) (b : Bool) (s' : Shared) : Prop := ∃ H', Inv X pins σ H' s' ∧ Q b H'
def AP (X : Cx) (pins : List (Addr × Obj)) (σ : St) (Q : List V → Hp → Prop) (us : List Value) (s' : Shared) : Prop := ∃ vs H', Inv X pins σ H' s' ∧ Vals vs us ∧ Q vs H'
def SP (X : Cx) (pins : List (Addr × Obj)) (D : Ends) (f : Flow) (s' : Shared) : Prop :=
  match f with
  | .next => ∃ σ' H', Inv X pins σ' H' s' ∧ D.nx σ' H'
  | .brk => ∃ σ' H', Inv X pins σ' H' s' ∧ D.bk σ' H'
  | .cont => ∃ σ' H', Inv X pins σ' H' s' ∧ D.ct σ' H'
  | .ret u => ∃ v σ' H', Inv X pins σ' H' s' ∧ RelV v u ∧ D.rt v H'
def PE (X : Cx) (e : Expr) (t : TE) : Prop :=
  ∀ (pins : List (Addr × Obj)) (s : Shared) (σ : St) (H : Hp) (Q : VK), Inv X pins σ H s → t σ H Q → wpAny (model X.prog X.w) X.A (eval e X.env) (EP X pins σ Q) X.xe s
def PT (X : Cx) (e : Expr) (t : TT) : Prop :=
  ∀ (pins : List (Addr × Obj)) (s : Shared) (σ : St) (H : Hp) (Q : Bool → Hp → Prop), Inv X pins σ H s → t σ H Q → wpAny (model X.prog X.w) X.A (isTrue e X.env (eval e X.env)) (TP X pins σ Q) X.xe s
def PW (X : Cx) (e : Expr) (t : TT) : Prop :=
  ∀ (whole : Sem Value) (pins : List (Addr × Obj)) (s : Shared) (σ : St) (H : Hp) (Q : Bool → Hp → Prop), Inv X pins σ H s → t σ H Q → wpAny (model X.prog X.w) X.A (isTrue e X.env whole) (TP X pins σ Q) X.xe s
theorem PW.pt {X : Cx} {e : Expr} {t : TT} (h : PW X e t) : PT X e t := h _
def PA (X : Cx) (es : List Expr) (t : TA) : Prop :=
  ∀ (pos : Pos) (pins : List (Addr × Obj)) (s : Shared) (σ : St) (H : Hp) (Q : List V → Hp → Prop), Inv X pins σ H s → t σ H Q → wpAny (model X.prog X.w) X.A (spliced (backTo pos (starEach es X.env))) (AP X pins σ Q) X.xe s
def PS (X : Cx) (st : Stmt) (t : TS) : Prop :=
  ∀ (pins : List (Addr × Obj)) (s : Shared) (σ : St) (H : Hp) (D : Ends), Inv X pins σ H s → t D σ H → wpAny (model X.prog X.w) X.A (exec st X.env) (SP X pins D) X.xe s
def PSs (X : Cx) (st : List Stmt) (t : TS) : Prop :=
  ∀ (pins : List (Addr × Obj)) (s : Shared) (σ : St) (H : Hp) (D : Ends), Inv X pins σ H s → t D σ H → wpAny (model X.prog X.w) X.A (execs st X.env) (SP X pins D) X.xe s
theorem thn {α : Type} {t : Sem α} {Q Q' : α → Shared → Prop} {M : Model} {A : Around} {E : Value → Shared → Prop} {s : Shared} (h : wpAny M A t Q E s) (hQ : ∀ a s, Q a s → Q' a s) : wpAny M A t Q' E s := wpAny_mono h hQ fun _ _ x => x
end L2
namespace L2
open PySem PySem.Spec PyProof.Rows
section
variable {X : Cx}
def tVar (i : Nat) : TE := fun σ H Q => ∃ v, σ[i]? = some (some v) ∧ Q v H
def tC (v : V) : TE := fun _ H Q => Q v H
theorem pe_var {i : Nat} {x : Str} {pos : Pos} (hN : X.N[i]? = some x) (hv : Vis X.env.scope x) (hd : (x == ("__debug__" : Str)) = false := by decide) (hcd : (x == ("__classdict__" : Str)) = false := by decide) : PE X (.Name x pos) (tVar i) := by
  intro pins s σ H Q I h
  obtain ⟨v, e, h⟩ := h
  obtain ⟨m, hn, hl⟩ := I.loc
  obtain ⟨u, r, l⟩ := hl i x v hN e hv
  have fin : EP X pins σ Q u s := ⟨v, H, I, r, h⟩
  rcases l with ⟨hk, hm⟩ | ⟨hk, c, hc, hcell⟩
  · exact wpAny_Name (wpAny_loadName_local I.ok.kind hk hn hm fin) hd
  · rcases hk with hk | hk
    · exact wpAny_Name (wpAny_loadName_cell I.ok.kind hk hc hcell fin) hd
    · exact wpAny_Name (wpAny_loadName_free I.ok.kind hk hc hcell fin hcd) hd
theorem pe_int {i j pos} : PE X (.Constant (.int i) j pos) (tC (.int i)) := fun _ _ _ H _ I h => wpAny_Constant_int ⟨.int i, H, I.tok _, ⟨_, rfl⟩, h⟩
theorem pe_bl {b j pos} : PE X (.Constant (.bool b) j pos) (tC (.bl b)) := fun _ _ _ H _ I h => Constant_bool ⟨.bl b, H, I, rfl, h⟩
theorem pe_str {x j pos} : PE X (.Constant (.str x) j pos) (tC (.str x)) := fun _ _ _ H _ I h => Calls.Constant_str ⟨.str x, H, I.tok _, ⟨_, rfl⟩, h⟩
def Gl (X : Cx) (x : Str) : Prop := X.env.kindOf x = some .globalImplicit
theorem ld_glob {E : Value → Shared → Prop} {pins : List (Addr × Obj)} {s : Shared} {σ : St} {H : Hp} {x : Str} {u : Value} {pos : Pos} {Q : Value → Shared → Prop} (I : Inv X pins σ H s) (hg : Gl X x) (hm : X.mg x = some u) (h : Q u s)
    (hd : (x == ("__debug__" : Str)) = false := by decide) : wpAny (model X.prog X.w) X.A (eval (.Name x pos) X.env) Q E s :=
  Calls.Name_function_global I.ok.kind hg (Calls.loadGlobal_global (by rw [I.ok.glob]; exact I.mod.glob.keeps I.bk) hm h) hd
theorem ld_blt {E : Value → Shared → Prop} {pins : List (Addr × Obj)} {s : Shared} {σ : St} {H : Hp} {x : Str} {u : Value} {pos : Pos} {Q : Value → Shared → Prop} (I : Inv X pins σ H s) (hg : Gl X x) (hm : X.mg x = none) (hv : bootBuiltins x = some u) (h : Q u s)
    (hn : x ≠ "__name__" := by decide) (hd : (x == ("__debug__" : Str)) = false := by decide) : wpAny (model X.prog X.w) X.A (eval (.Name x pos) X.env) Q E s := by
  obtain ⟨mb, h1, h2⟩ := I.mod.blt
  exact Calls.Name_function_global I.ok.kind hg (Calls.loadGlobal_builtin (by rw [I.ok.glob]; exact I.mod.glob.keeps I.bk) hm (by rw [I.ok.blt]; exact h1.keeps I.bk) ((h2 x hn).trans hv) h) hd
theorem pe_bltn {x : Str} {v : V} {u : Value} {pos : Pos} (hg : Gl X x) (hm : X.mg x = none) (hv : bootBuiltins x = some u) (r : RelV v u) (hn : x ≠ "__name__" := by decide) (hd : (x == ("__debug__" : Str)) = false := by decide) : PE X (.Name x pos) (tC v) :=
  fun _ _ _ H _ I h => ld_blt I hg hm hv ⟨v, H, I, r, h⟩ hn hd
variable {a b : Expr} {ta tb : TE} {pos : Pos}
def PC (X : Cx) (op : CmpOp) (a b : Expr) (t : TE) : Prop :=
  ∀ (pins : List (Addr × Obj)) (s : Shared) (σ : St) (H : Hp) (Q : VK), Inv X pins σ H s → t σ H Q →
    wpAny (model X.prog X.w) X.A (eval a X.env) (fun v s₁ => wpAny (model X.prog X.w) X.A (eval b X.env) (fun u s₂ => wpAny (model X.prog X.w) X.A (compareOp op v u) (EP X pins σ Q) X.xe s₂) X.xe s₁) X.xe s
theorem nobehind (b : Expr) {op : CmpOp} (h : op ≠ .In) (h2 : op ≠ .NotIn) : behindInMarks op b = false := by
  have e1 : (op == CmpOp.In) = false := by cases op <;> first | rfl | exact absurd rfl h
  have e2 : (op == CmpOp.NotIn) = false := by cases op <;> first | rfl | exact absurd rfl h2
  cases b <;> simp [behindInMarks, e1, e2]
variable {tA tB' : TT} {rest : List Expr}
def tNot (t : TT) : TT := fun σ H Q => t σ H fun c H1 => Q (!c) H1
theorem pw_or1 (ha : PT X a tA) : PW X (.BoolOp .Or [a] pos) tA := by
  intro wh pins s σ H Q I h
  refine isTrue_or (thn (ha pins s σ H Q I h) fun c s1 e => ?_)
  cases c with
  | false => exact isTrue_or_nil e
  | true => exact e
theorem pt_not (ha : PT X a tA) : PT X (.UnaryOp .Not a pos) (tNot tA) := by
  intro pins s σ H Q I h
  exact isTrue_not (ha pins s σ H (fun c H1 => Q (!c) H1) I h)
theorem pe_one {op} {t : TE} (h : PE X a t) : PE X (.BoolOp op [a] pos) t := fun pins s σ H Q I hw => BoolOp_one (h pins s σ H Q I hw)
end
end L2
namespace L2
open PySem PySem.Spec PyProof.Rows
def SqL (K : PySem.W.Frag) (H : Hp) (a : Addr) (xs : List V) : Prop :=
  Rd H a (.lst xs) ∨
    ∃ (o : Obj) (its : Array Value) (n : Nat), K.lookup a = some o ∧ o.cls = .type "list" ∧ o.dict = none ∧ o.data = .seq its n ∧ its.size ≤ sizeLine ∧ Vals xs its.toList
def SqT (K : PySem.W.Frag) (H : Hp) (a : Addr) (xs : List V) : Prop :=
  Rd H a (.tup xs) ∨
    ∃ (o : Obj) (its : Array Value) (n : Nat), K.lookup a = some o ∧ o.cls = .type "tuple" ∧ o.data = .seq its n ∧ its.size ≤ sizeLine ∧ Vals xs its.toList
def absV : Value → Option V
  | .none => some .non
  | .bool b => some (.bl b)
  | .int i _ => some (.int i)
  | .str x _ => some (.str x)
  | .bytes b _ => some (.byt b)
  | .float b _ => some (.flt b)
  | .ref a => some (.ref a)
  | .type n => some (.ty n)
  | _ => none
theorem RelV.abs {x : V} {u : Value} (r : RelV x u) : absV u = some x := by
  cases x with
  | non => cases r; rfl
  | bl _ => cases r; rfl
  | int _ => obtain ⟨t, rfl⟩ := r; rfl
  | str _ => obtain ⟨t, rfl⟩ := r; rfl
  | byt _ => obtain ⟨t, rfl⟩ := r; rfl
  | flt _ => obtain ⟨t, rfl⟩ := r; rfl
  | ref _ => cases r; rfl
  | ty _ => cases r; rfl
theorem RelV.inj {x y : V} {u : Value} (r : RelV x u) (q : RelV y u) : x = y := Option.some.inj (r.abs.symm.trans q.abs)
theorem Vals.inj : ∀ {xs ys : List V} {us : List Value}, Vals xs us → Vals ys us → xs = ys
  | _, _, _, .nil, .nil => rfl
  | _, _, _, .cons r t, .cons r' t' => by rw [r.inj r', Vals.inj t t']
section
variable {X : Cx} {pins : List (Addr × Obj)} {σ : St} {H : Hp} {s : Shared} {a : Addr} {xs ys : List V}
theorem SqL.of {K : PySem.W.Frag} (h : H a = some (.lst xs)) : SqL K H a xs := .inl (.inl h)
theorem SqT.of {K : PySem.W.Frag} (h : H a = some (.tup xs)) : SqT K H a xs := .inl (.inl h)
theorem Inv.list (I : Inv X pins σ H s) (h : SqL X.K H a xs) : ∃ its : List Value, Vals xs its ∧ PlainL s.heap a its.toArray ∧ xs.length ≤ sizeLine := by
  rcases h with h | ⟨o, its, n, hk, hc, hd, hs, hz, r⟩
  · obtain ⟨z, its, n, r, e⟩ := h.ok I.hok
    exact ⟨its, r, ⟨_, n, e, rfl, rfl, rfl⟩, z⟩
  · refine ⟨its.toList, r, ⟨o, n, I.kIn a o hk, hc, hd, by simpa using hs⟩, ?_⟩
    have e := r.length
    simp only [Array.length_toList] at e
    omega
theorem Inv.tuple (I : Inv X pins σ H s) (h : SqT X.K H a xs) : ∃ its : List Value, Vals xs its ∧ IsTup s.heap a its.toArray ∧ xs.length ≤ sizeLine := by
  rcases h with h | ⟨o, its, n, hk, hc, hs, hz, r⟩
  · obtain ⟨z, its, r, p⟩ := h.ok I.hok
    exact ⟨its, r, p, z⟩
  · refine ⟨its.toList, r, ⟨o, I.kIn a o hk, hc, n, by simpa using hs⟩, ?_⟩
    have e := r.length
    simp only [Array.length_toList] at e
    omega
theorem Inv.list_inj (I : Inv X pins σ H s) (h : SqL X.K H a xs) (h' : SqL X.K H a ys) : xs = ys := by
  obtain ⟨its, r, ⟨o, n, e, _, _, d⟩, _⟩ := I.list h
  obtain ⟨its', r', ⟨o', n', e', _, _, d'⟩, _⟩ := I.list h'
  rw [e] at e'; cases e'
  rw [d] at d'
  injection d' with d1 _
  have : its = its' := by simpa using congrArg Array.toList d1
  subst this
  exact r.inj r'
theorem Inv.tuple_inj (I : Inv X pins σ H s) (h : SqT X.K H a xs) (h' : SqT X.K H a ys) : xs = ys := by
  obtain ⟨its, r, ⟨o, e, _, n, d⟩, _⟩ := I.tuple h
  obtain ⟨its', r', ⟨o', e', _, n', d'⟩, _⟩ := I.tuple h'
  rw [e] at e'; cases e'
  rw [d] at d'
  injection d' with d1 _
  have : its = its' := by simpa using congrArg Array.toList d1
  subst this
  exact r.inj r'
end
abbrev Cx.wish (X : Cx) (E : Value → Shared → Prop) : Cx := { X with xe := E }
abbrev Cx.nox (X : Cx) : Cx := X.wish fun _ _ => False
theorem Cx.Ok.wish {X : Cx} (ok : X.Ok) (E : Value → Shared → Prop) : (X.wish E).Ok :=
  ⟨ok.mod, ok.kind, ok.glob, ok.blt, ok.above, ok.inj, ok.has, ok.cab, ok.hd, ok.frames, ok.stk, ok.exf, ok.bs, ok.bsz, ok.noex, ok.exfs, ok.funs, ok.frf⟩
theorem Cx.Ok.unwish {X : Cx} {E : Value → Shared → Prop} (ok : (X.wish E).Ok) : X.Ok :=
  ⟨ok.mod, ok.kind, ok.glob, ok.blt, ok.above, ok.inj, ok.has, ok.cab, ok.hd, ok.frames, ok.stk, ok.exf, ok.bs, ok.bsz, ok.noex, ok.exfs, ok.funs, ok.frf⟩
section
variable {X : Cx} {pins : List (Addr × Obj)} {σ : St} {H : Hp} {s : Shared} {E : Value → Shared → Prop}
theorem Inv.wish (I : Inv X pins σ H s) (E : Value → Shared → Prop) : Inv (X.wish E) pins σ H s := ⟨I.ok.wish E, I.os, I.bare, I.base, I.loc, I.cell, I.free, I.freeC, I.pin, I.hok, I.len⟩
theorem Inv.unwish (I : Inv (X.wish E) pins σ H s) : Inv X pins σ H s := ⟨I.ok.unwish, I.os, I.bare, I.base, I.loc, I.cell, I.free, I.freeC, I.pin, I.hok, I.len⟩
theorem SP.unwish {D : Ends} {f : Flow} {s' : Shared} (h : SP (X.wish E) pins D f s') : SP X pins D f s' := by
  cases f with
  | next => obtain ⟨σ', H', I, q⟩ := h; exact ⟨σ', H', I.unwish, q⟩
  | brk => obtain ⟨σ', H', I, q⟩ := h; exact ⟨σ', H', I.unwish, q⟩
  | cont => obtain ⟨σ', H', I, q⟩ := h; exact ⟨σ', H', I.unwish, q⟩
  | ret u => obtain ⟨v, σ', H', I, r, q⟩ := h; exact ⟨v, σ', H', I.unwish, r, q⟩
theorem PE.nox {e : Expr} {t : TE} (h : PE X.nox e t) : PE X e t := fun pins s σ H Q I hw =>
  wpAny_mono (h pins s σ H Q (I.wish _) hw) (fun _ _ ⟨v, H', I', r, q⟩ => ⟨v, H', I'.unwish, r, q⟩) fun _ _ z => False.elim z
theorem PT.nox {e : Expr} {t : TT} (h : PT X.nox e t) : PT X e t := fun pins s σ H Q I hw =>
  wpAny_mono (h pins s σ H Q (I.wish _) hw) (fun _ _ ⟨H', I', q⟩ => ⟨H', I'.unwish, q⟩) fun _ _ z => False.elim z
theorem PSs.nox {st : List Stmt} {t : TS} (h : PSs X.nox st t) : PSs X st t := fun pins s σ H D I hw =>
  wpAny_mono (h pins s σ H D (I.wish _) hw) (fun _ _ q => q.unwish) fun _ _ z => False.elim z
end
section
variable {X : Cx} {st : Stmt} {rest : List Stmt} {t u : TS} {e : Expr} {te : TE} {pos : Pos}
def tNext : TS := fun D σ H => D.nx σ H
def tSeq (t u : TS) : TS := fun D σ H => t { D with nx := u D } σ H
theorem pss_nil : PSs X [] tNext := fun _ _ σ H _ I h => wpAny_execs_nil ⟨σ, H, I, h⟩
theorem pss_cons (h1 : PS X st t) (h2 : PSs X rest u) : PSs X (st :: rest) (tSeq t u) := by
  intro pins s σ H D I h
  refine wpAny_execs_cons (thn (h1 pins s σ H { D with nx := u D } I h) fun f s1 q => ?_)
  cases f with
  | next =>
    obtain ⟨σ', H', I', q⟩ := q
    exact h2 pins s1 σ' H' D I' q
  | ret v => exact q
  | brk => exact q
  | cont => exact q
theorem pss_one (h1 : PS X st t) : PSs X [st] t := by
  intro pins s σ H D I h
  refine wpAny_execs_cons (thn (h1 pins s σ H D I h) fun f s1 q => ?_)
  cases f with
  | next => exact wpAny_execs_nil q
  | ret v => exact q
  | brk => exact q
  | cont => exact q
theorem Inv.quiet {pins : List (Addr × Obj)} {σ : St} {H : Hp} {s : Shared} (I : Inv X pins σ H s) : interactive X.env = false := by simp [interactive, I.ok.kind]
def tDrop (te : TE) : TS := fun D σ H => te σ H fun _ H1 => D.nx σ H1
theorem ps_expr (he : PE X e te) (hs : swapsWith e none pos.line X.env = pure false := by rfl) : PS X (.Expr e pos) (tDrop te) := by
  intro pins s σ H D I h
  exact wpAny_Expr_any (thn (he pins s σ H _ I h) fun v s1 ⟨x, H1, I1, r1, q1⟩ => ⟨σ, H1, I1, q1⟩) I.quiet hs
def tRet (te : TE) : TS := fun D σ H => te σ H D.rt
theorem ps_ret (he : PE X e te) : PS X (.Return (some e) pos) (tRet te) := by
  intro pins s σ H D I h
  exact wpAny_Return_some (thn (he pins s σ H _ I h) fun v s1 ⟨x, H1, I1, r1, q1⟩ => ⟨x, σ, H1, I1, r1, q1⟩)
end
abbrev TG := V → St → Hp → (St → Hp → Prop) → Prop
def PG (X : Cx) (target : Expr) (t : TG) : Prop :=
  ∀ (pins : List (Addr × Obj)) (s : Shared) (σ : St) (H : Hp) (v : V) (u : Value) (Q : St → Hp → Prop), Inv X pins σ H s → RelV v u → t v σ H Q →
    wpAny (model X.prog X.w) X.A (assign target X.env u) (fun _ s' => ∃ σ' H', Inv X pins σ' H' s' ∧ Q σ' H') X.xe s
abbrev TSet := V → V → V → Hp → (Hp → Prop) → Prop
def PSet (X : Cx) (t : TSet) : Prop :=
  ∀ (pins : List (Addr × Obj)) (s : Shared) (σ : St) (H : Hp) (o i v : V) (ov iv u : Value) (Q : Hp → Prop), Inv X pins σ H s → RelV o ov → RelV i iv → RelV v u → t o i v H Q →
    wpAny (model X.prog X.w) X.A (setItem ov iv u) (fun _ s' => ∃ H', Inv X pins σ H' s' ∧ Q H') X.xe s
section
variable {X : Cx} {pos : Pos}
def gName (i : Nat) : TG := fun v σ H Q => Q (σ.set i (some v)) H
theorem pg_name {i : Nat} {x : Str} (hN : X.N.Nodup) (hi : X.N[i]? = some x) (hx : Loc X.env.scope x) (hf : X.fn x = true ∨ X.env.scope.names.lookup x = some .local := by first | exact .inl rfl | exact .inr rfl | assumption) : PG X (.Name x pos) (gName i) := by
  intro pins s σ H v u Q I r h
  exact wpAny_assign_Name (store_ok I hN hi hx r (fun s' I' => ⟨_, H, I', h⟩) hf)
def gSub (to ti : TE) (t : TSet) : TG := fun v σ H Q => to σ H fun o H1 => ti σ H1 fun i H2 => t o i v H2 fun H3 => Q σ H3
theorem pg_sub {o i : Expr} {to ti : TE} {t : TSet} (ho : PE X o to) (hi : PE X i ti) (hs : PSet X t)
    (ha : ∀ v, assign (.Subscript o i pos) X.env v = (do
      let ov ← holding [v] (eval o X.env)
      let iv ← holding [v, ov] (eval i X.env)
      standAt pos
      holding [v, ov, iv] (setItem ov iv v)
      release [v, ov, iv] []) := by intro _; rfl) : PG X (.Subscript o i pos) (gSub to ti t) := by
  intro pins s σ H v u Q I r h
  rw [ha]
  refine wpAny_bind (wpAny_holding (thn (ho pins s σ H _ I h) fun ov s1 ⟨x, H1, I1, r1, q1⟩ => ?_))
  refine wpAny_bind (wpAny_holding (thn (hi pins s1 σ H1 _ I1 q1) fun iv s2 ⟨y, H2, I2, r2, q2⟩ => ?_))
  refine wpAny_bind (wpAny_standAt (wpAny_bind (wpAny_holding (thn (hs pins s2 σ H2 x y v ov iv u _ I2 r1 r2 r q2) fun _ s3 ⟨H3, I3, q3⟩ => ?_))))
  exact wpAny_release ⟨σ, H3, I3, q3⟩
def tAsg (te : TE) (g : TG) : TS := fun D σ H => te σ H fun x H1 => g x σ H1 D.nx
theorem ps_asg {tg e : Expr} {te : TE} {g : TG} (he : PE X e te) (hg : PG X tg g) (hs : swapsWithSole [tg] e pos.line X.env = pure false := by rfl) (hw : swappedStores [tg] e X.env = pure none := by rfl)
    (h1 : (assignEach [tg] X.env).map (·.2) = [assign tg X.env] := by rfl) : PS X (.Assign [tg] e pos) (tAsg te g) := by
  intro pins s σ H D I h
  refine wpAny_Assign_stores (thn (he pins s σ H _ I h) fun v s1 ⟨x, H1, I1, r1, q1⟩ => ?_) hs hw
  rw [h1]
  exact thn (hg pins s1 σ H1 x v _ I1 r1 q1) fun _ s2 q => q
theorem ps_set {i : Nat} {x : Str} {e : Expr} {te : TE} {pos' : Pos} (hN : X.N.Nodup) (hi : X.N[i]? = some x) (hx : Loc X.env.scope x) (he : PE X e te) (hs : swapsWith e (some (.Name x pos')) pos.line X.env = pure false := by rfl) (hf : X.fn x = true ∨ X.env.scope.names.lookup x = some .local := by first | exact .inl rfl | exact .inr rfl | assumption) :
    PS X (.Assign [.Name x pos'] e pos) (tAsg te (gName i)) := by
  intro pins s σ H D I h
  refine wpAny_Assign_Name (thn (he pins s σ H _ I h) fun v s1 ⟨y, H1, I1, r1, q1⟩ => ?_) hs
  exact store_ok I1 hN hi hx r1 (fun s2 I2 => ⟨_, H1, I2, q1⟩) hf
end
section
variable {X : Cx} {pos : Pos}
end
structure It where
  go : Nat → Hp → Prop
  yld : Nat → Hp → V → Hp → Prop
  stop : Nat → Hp → Prop
def FpOk (X : Cx) (pins : List (Addr × Obj)) (H : Hp) (b : Addr) : Prop :=
  H b = none ∧ b ≠ X.env.locals ∧ b ∉ X.fs ∧ (b ∈ X.ex ∨ X.s₀.heap.objs.size ≤ b) ∧ (∀ x c, X.env.cells.lookup x = some c → c ≠ b) ∧ ∀ p ∈ X.pn ++ pins, p.1 ≠ b
theorem Inv.fpOk {X : Cx} {pins : List (Addr × Obj)} {σ : St} {H H' : Hp} {s : Shared} {b : Addr} (I : Inv X pins σ H s) (hb : s.heap.objs.size ≤ b) (hn : H' b = none) : FpOk X pins H' b := by
  refine ⟨hn, Nat.ne_of_gt (Nat.lt_of_lt_of_le I.lt hb), I.nofs hb, .inr (Nat.le_trans I.sz hb), fun x c e z => ?_, fun p hp z => ?_⟩
  · obtain ⟨v, q⟩ := I.cell x c e
    exact absurd (Nat.lt_of_lt_of_le q.lt (by rw [z]; exact hb)) (Nat.lt_irrefl _)
  · exact absurd (Nat.lt_of_lt_of_le (Heap.lt_size (I.pin p hp).1) (by rw [z]; exact hb)) (Nat.lt_irrefl _)
structure Turn (P : Program) (w : World) (K : PySem.W.Frag) (tg : Expr) (J : It) (fp : List Addr) (it : Addr) (tn : Nat → Heap → Prop) : Prop where
  mem : it ∈ fp
  obj : ∀ i h, tn i h → ∀ b ∈ fp, ∃ o, h.get? b = some o ∧ ∀ v, o.data ≠ .cell v
  keep : ∀ i h h', tn i h → (∀ b ∈ fp, ∀ o, h.get? b = some o → h'.get? b = some o) → tn i h'
  item : ∀ (X : Cx), X.prog = P → X.w = w → X.K = K → X.calm = true → ∀ (i : Nat) (pins : List (Addr × Obj)) (s : Shared) (σ : St) (H : Hp) (E : Value → Shared → Prop), Inv X pins σ H s → (∀ b ∈ fp, FpOk X pins H b) → tn i s.heap → J.go i H →
    wpAny (model P w) X.A (pyNext (.ref it)) (fun r s1 => ∃ u, r = some u ∧
      wpAny (model P w) X.A (letOwnedTupleGo tg (.ref it) u) (fun _ s2 => ∃ x H', Inv X pins σ H' s2 ∧ RelV x u ∧ J.yld i H x H' ∧ tn (i + 1) s2.heap ∧ ∀ b ∈ fp, H' b = none) E s1) E s
  done : ∀ (X : Cx), X.prog = P → X.w = w → X.K = K → X.calm = true → ∀ (i : Nat) (pins : List (Addr × Obj)) (s : Shared) (σ : St) (H : Hp) (E : Value → Shared → Prop), Inv X pins σ H s → (∀ b ∈ fp, FpOk X pins H b) → tn i s.heap → J.stop i H →
    wpAny (model P w) X.A (pyNext (.ref it)) (fun r s1 => r = none ∧ Inv X pins σ H s1) E s
  self : ∀ (A : Around) (i : Nat) (s : Shared) (Q : Value → Shared → Prop) (E : Value → Shared → Prop), tn i s.heap → Q (.ref it) s → wpAny (model P w) A (pyIter (.ref it)) Q E s
abbrev TI := St → Hp → (It → Hp → Prop) → Prop
def PIE (X : Cx) (pins : List (Addr × Obj)) (σ : St) (tg : Expr) (R : It → Hp → Prop) (itv : Value) (s2 : Shared) : Prop :=
  ∃ (it : Addr) (fp : List Addr) (tn : Nat → Heap → Prop) (J : It) (H' : Hp), itv = .ref it ∧ Inv X pins σ H' s2 ∧ Turn X.prog X.w X.K tg J fp it tn ∧ tn 0 s2.heap ∧ (∀ b ∈ fp, FpOk X pins H' b) ∧ R J H'
def PI (X : Cx) (tg iter : Expr) (wi : TI) : Prop :=
  ∀ (pins : List (Addr × Obj)) (s : Shared) (σ : St) (H : Hp) (R : It → Hp → Prop), Inv X pins σ H s → wi σ H R →
    wpAny (model X.prog X.w) X.A (eval iter X.env) (fun v s1 => wpAny (model X.prog X.w) X.A (pyIter v) (PIE X pins σ tg R) X.xe s1) X.xe s
theorem go_of {M : Model} {A : Around} {E : Value → Shared → Prop} {s : Shared} {tg : Expr} {it : Addr} {u : Value} {o : Obj} {n : String} {vs : Array Value} {Q : Unit → Shared → Prop} (ho : s.heap.get? it = some o) (hc : o.cls = .type n) (hd : o.data = .fields vs)
    (hn : ["enumerate", "zip", "dict_itemiterator", "dict_reverseitemiterator", "odict_iterator", "itertools.zip_longest", "itertools.pairwise"].contains n = false) (hQ : Q () s) : wpAny M A (letOwnedTupleGo tg (.ref it) u) Q E s := by
  unfold letOwnedTupleGo
  cases tg <;> first
    | exact wpAny_pure hQ
    | (cases u <;> first
        | exact wpAny_pure hQ
        | (refine wpAny_bind (wpAny_load ho ?_)
           rw [hc, hd]
           show wpAny M A (if (["enumerate", "zip", "dict_itemiterator", "dict_reverseitemiterator", "odict_iterator", "itertools.zip_longest", "itertools.pairwise"].contains n && vs[0]? == some (rawInt _)) = true then _ else _) Q E s
           rw [if_neg (by intro h; rw [hn, Bool.false_and] at h; cases h)]
           exact wpAny_pure hQ))
def Itl (K : PySem.W.Frag) (a : Addr) : It :=
  ⟨fun i H => ∃ xs x, SqL K H a xs ∧ xs[i]? = some x, fun i H x H' => H' = H ∧ ∀ xs, SqL K H a xs → xs[i]? = some x, fun i H => ∃ xs, SqL K H a xs ∧ xs.length ≤ i⟩
def Itt (K : PySem.W.Frag) (a : Addr) : It :=
  ⟨fun i H => ∃ xs x, SqT K H a xs ∧ xs[i]? = some x, fun i H x H' => H' = H ∧ ∀ xs, SqT K H a xs → xs[i]? = some x, fun i H => ∃ xs, SqT K H a xs ∧ xs.length ≤ i⟩
def Itr (lo : Int) (n : Nat) : It := ⟨fun i _ => i < n, fun i H x H' => H' = H ∧ x = .int (lo + i), fun i _ => n ≤ i⟩
theorem turn_list {P : Program} {w : World} {K : PySem.W.Frag} {tg : Expr} (a it : Addr) : Turn P w K tg (Itl K a) [it] it (fun i h => h.IsListIter it a i) where
  mem := by simp
  obj := fun i h st b hb => by
    have e : b = it := by simpa using hb
    subst e
    obtain ⟨o, e, c, d⟩ := st
    exact ⟨o, e, fun v z => by rw [d] at z; cases z⟩
  keep := fun i h h' st k => st.at fun o e => k it (by simp) o e
  item := by
    intro X hP hw hK hc i pins s σ H E I hf st hg
    subst hP hw hK
    obtain ⟨xs, x, hq, hx⟩ := hg
    obtain ⟨its, rv, p, hz⟩ := I.list hq
    obtain ⟨u, hu, ru⟩ := rv.get hx
    obtain ⟨f0, f1, f2, f3, f4, f5⟩ := hf it (by simp)
    refine wpAny_pyNext_list_item st p.isList (x := u) (by simpa using hu) fun h' st' sb => ?_
    have I1 : Inv X pins σ H { s with heap := h' } := I.turned (t' := s.toks) (fun b o hb e => (sb.2 b hb).trans e) f0 f1 f3 f4 f5
    obtain ⟨o, e, c, d⟩ := id st'
    exact ⟨u, rfl, go_of (s := { s with heap := h' }) e c d (by decide) ⟨x, H, I1, ru, ⟨rfl, fun ys hy => by rw [I.list_inj hy hq]; exact hx⟩, st', fun b hb => (hf b hb).1⟩⟩
  done := by
    intro X hP hw hK hc i pins s σ H E I hf st hg
    subst hP hw hK
    obtain ⟨xs, hq, hx⟩ := hg
    obtain ⟨its, rv, p, hz⟩ := I.list hq
    obtain ⟨f0, f1, f2, f3, f4, f5⟩ := hf it (by simp)
    have hl := rv.length
    exact wpAny_pyNext_list_end (I.ok.hd hc) st p.isList (by simp; omega) fun h' eb => ⟨rfl, I.turned (t' := s.toks) (fun b o hb e => eb b o hb e) f0 f1 f3 f4 f5⟩
  self := fun _ _ _ _ _ st h => wpAny_pyIter_listiter st h
theorem turn_tuple {P : Program} {w : World} {K : PySem.W.Frag} {tg : Expr} (a it : Addr) : Turn P w K tg (Itt K a) [it] it (fun i h => h.IsTupleIter it a i) where
  mem := by simp
  obj := fun i h st b hb => by
    have e : b = it := by simpa using hb
    subst e
    obtain ⟨o, e, c, d⟩ := st
    exact ⟨o, e, fun v z => by rw [d] at z; cases z⟩
  keep := fun i h h' st k => st.at fun o e => k it (by simp) o e
  item := by
    intro X hP hw hK hc i pins s σ H E I hf st hg
    subst hP hw hK
    obtain ⟨xs, x, hq, hx⟩ := hg
    obtain ⟨its, rv, p, hz⟩ := I.tuple hq
    obtain ⟨u, hu, ru⟩ := rv.get hx
    obtain ⟨f0, f1, f2, f3, f4, f5⟩ := hf it (by simp)
    refine wpAny_pyNext_tuple_item st (show s.heap.IsTuple a its.toArray from p) (x := u) (by simpa using hu) fun h' st' sb => ?_
    have I1 : Inv X pins σ H { s with heap := h' } := I.turned (t' := s.toks) (fun b o hb e => (sb.2 b hb).trans e) f0 f1 f3 f4 f5
    obtain ⟨o, e, c, d⟩ := id st'
    exact ⟨u, rfl, go_of (s := { s with heap := h' }) e c d (by decide) ⟨x, H, I1, ru, ⟨rfl, fun ys hy => by rw [I.tuple_inj hy hq]; exact hx⟩, st', fun b hb => (hf b hb).1⟩⟩
  done := by
    intro X hP hw hK hc i pins s σ H E I hf st hg
    subst hP hw hK
    obtain ⟨xs, hq, hx⟩ := hg
    obtain ⟨its, rv, p, hz⟩ := I.tuple hq
    obtain ⟨f0, f1, f2, f3, f4, f5⟩ := hf it (by simp)
    have hl := rv.length
    exact wpAny_pyNext_tuple_end (I.ok.hd hc) st (show s.heap.IsTuple a its.toArray from p) (by simp; omega) fun h' eb => ⟨rfl, I.turned (t' := s.toks) (fun b o hb e => eb b o hb e) f0 f1 f3 f4 f5⟩
  self := fun _ _ _ _ _ st h => wpAny_pyIter_tupleiter st h
theorem turn_range {P : Program} {w : World} {K : PySem.W.Frag} {tg : Expr} (it : Addr) (lo : Int) (n : Nat) : Turn P w K tg (Itr lo n) [it] it (fun i h => IsRangeIter h it (lo + (i : Nat) * 1) ((n : Int) - (i : Nat)) 1) where
  mem := by simp
  obj := fun i h st b hb => by
    have e : b = it := by simpa using hb
    subst e
    exact ⟨_, st, fun v z => by
      have z' : Data.fields _ = Data.cell v := z
      cases z'⟩
  keep := fun i h h' st k => k it (by simp) _ st
  item := by
    intro X hP hw hK hc i pins s σ H E I hf st hg
    subst hP hw hK
    obtain ⟨f0, f1, f2, f3, f4, f5⟩ := hf it (by simp)
    have W := Walks.range (prog := X.prog) (w := X.w) (I.ok.hd hc) it lo 1 n
    refine W.item i s _ _ hg st fun v h' tk hv st' kk => ?_
    obtain ⟨t, rfl⟩ := hv
    have I1 : Inv X pins σ H { s with heap := h', toks := tk } := I.turned (fun b o hb e => kk b o (by simpa using hb) e) f0 f1 f3 f4 f5
    refine ⟨_, rfl, go_of (s := { s with heap := h', toks := tk }) (n := "range_iterator") st' rfl rfl (by decide) ⟨.int (lo + i), H, I1, ⟨t, ?_⟩, ⟨rfl, rfl⟩, st', fun b hb => (hf b hb).1⟩⟩
    rw [Int.mul_one]
  done := by
    intro X hP hw hK hc i pins s σ H E I hf st hg
    subst hP hw hK
    obtain ⟨f0, f1, f2, f3, f4, f5⟩ := hf it (by simp)
    exact wpAny_pyNext_range_end (I.ok.hd hc) st (by have : n ≤ i := hg; omega) fun h' eb => ⟨rfl, I.turned (t' := s.toks) (fun b o hb e => eb b o hb e) f0 f1 f3 f4 f5⟩
  self := fun _ _ _ _ _ st h => wpAny_pyIter_rangeiter st h
end L2
namespace L2
open PySem PySem.Spec PyProof.Rows
section
variable {X : Cx} {tg : Expr}
theorem range_it {pins : List (Addr × Obj)} {σ : St} {H : Hp} {s : Shared} {R : It → Hp → Prop} {E : Value → Shared → Prop} {lo hi : Int} {t u v : Tok} {tk : Nat} (I : Inv X pins σ H s) (h1 : -(2 ^ 62) ≤ lo) (h2 : lo < 2 ^ 62) (h3 : -(2 ^ 62) ≤ hi) (h4 : hi < 2 ^ 62)
    (q : R (Itr lo (hi - lo).toNat) H) : wpAny (model X.prog X.w) X.A (pyIter (.ref s.heap.objs.size)) (PIE X pins σ tg R) E { s with heap := s.heap.push { cls := .type "range", data := .fields #[.int lo t, .int hi u, .int 1 v] }, toks := tk } := by
  refine wpAny_pyIter_range (IsRange.new ..) (small_one h1 h2 h3 h4) ?_
  have I1 : Inv X pins σ H { s with heap := s.heap.push { cls := .type "range", data := .fields #[.int lo t, .int hi u, .int 1 v] }, toks := tk } := I.kept fun b o e => Heap.get?_push_of_some _ e
  refine ⟨(s.heap.push { cls := .type "range", data := .fields #[.int lo t, .int hi u, .int 1 v] }).objs.size, [(s.heap.push { cls := .type "range", data := .fields #[.int lo t, .int hi u, .int 1 v] }).objs.size], _, _, H, rfl,
    I1.kept (t' := tk) fun b o e => Heap.get?_push_of_some _ e, turn_range _ lo (hi - lo).toNat, ?_, fun b hb => ?_, q⟩
  · have e1 : lo + ((0 : Nat) : Int) * 1 = lo := by simp
    have e2 : (((hi - lo).toNat : Nat) : Int) - ((0 : Nat) : Int) = Builtin.Range.rangeSize lo hi 1 := by rw [rangeSize_one]; split <;> omega
    show IsRangeIter _ _ (lo + ((0 : Nat) : Int) * 1) ((((hi - lo).toNat : Nat) : Int) - ((0 : Nat) : Int)) 1
    rw [e1, e2]
    exact Heap.get?_push_size _ rfl
  · have e : b = (s.heap.push { cls := .type "range", data := .fields #[.int lo t, .int hi u, .int 1 v] }).objs.size := by simpa using hb
    subst e
    exact I1.fpOk (Nat.le_refl _) (I1.hok.fresh (Nat.le_refl _))
def tFor (wi : TI) (g : TG) (tb : TS) : TS := fun D σ H => wi σ H fun J H1 => ∃ W : Nat → Nat → St → Hp → Prop, (∃ m, W 0 m σ H1) ∧ ∀ i m σ H, W i m σ H →
  (J.stop i H ∧ D.nx σ H) ∨ (J.go i H ∧ ∃ N : St → Hp → Prop, (∀ σ' H', N σ' H' → ∃ m', m' < m ∧ W (i + 1) m' σ' H') ∧ ∀ x H', J.yld i H x H' → g x σ H' fun σ2 H2 => tb { D with nx := N, ct := N, bk := D.nx } σ2 H2)
def pinsAt (fp : List Addr) (h : Heap) : List (Addr × Obj) := fp.filterMap fun b => (h.get? b).map fun o => (b, o)
theorem mem_pinsAt {fp : List Addr} {h : Heap} {b : Addr} {o : Obj} (hb : b ∈ fp) (e : h.get? b = some o) : (b, o) ∈ pinsAt fp h := List.mem_filterMap.mpr ⟨b, hb, by rw [e]; rfl⟩
theorem of_pinsAt {fp : List Addr} {h : Heap} {p : Addr × Obj} (hp : p ∈ pinsAt fp h) : p.1 ∈ fp ∧ h.get? p.1 = some p.2 := by
  obtain ⟨b, hb, e⟩ := List.mem_filterMap.mp hp
  cases q : h.get? b with
  | none => rw [q] at e; cases e
  | some o =>
    rw [q] at e
    have e' : (b, o) = p := Option.some.inj e
    subst e'
    exact ⟨hb, q⟩
theorem Inv.pinned {pins : List (Addr × Obj)} {σ : St} {H : Hp} {s : Shared} {fp : List Addr} (I : Inv X pins σ H s) (hf : ∀ b ∈ fp, FpOk X pins H b) (ho : ∀ b ∈ fp, ∃ o, s.heap.get? b = some o ∧ ∀ v, o.data ≠ .cell v) : Inv X (pins ++ pinsAt fp s.heap) σ H s :=
  I.pins_of fun p hp => (List.mem_append.mp hp).elim (fun z => I.pin p (List.mem_append_right _ z)) fun z => by
    obtain ⟨hb, e⟩ := of_pinsAt z
    obtain ⟨f0, f1, f2, _⟩ := hf p.1 hb
    obtain ⟨o, e', d⟩ := ho p.1 hb
    rw [e] at e'; cases e'
    exact ⟨e, f0, f1, f2, d⟩
theorem Inv.unpinned {pins pl : List (Addr × Obj)} {σ : St} {H : Hp} {s : Shared} (I : Inv X (pins ++ pl) σ H s) : Inv X pins σ H s := I.pins_of fun p hp => I.pin p (List.mem_append_right _ (List.mem_append_left _ hp))
theorem ps_for {iter : Expr} {body : List Stmt} {wi : TI} {g : TG} {tb : TS} {pos : Pos} (hp : PassesOwn (model X.prog X.w) X.A X.env X.xe) (hc : X.calm = true) (hi : PI X tg iter wi) (hg : PG X tg g) (hb : PSs X body tb)
    (hs : ∀ x, foldedSetIterable iter X.env x = pure x := by intro _; rfl) : PS X (.For tg iter body [] pos) (tFor wi g tb) := by
  intro pins s σ H D I h
  refine wpAny_For (thn (hi pins s σ H _ I h) fun v s1 h1 => thn h1 fun itv s2 h2 => ?_) hs
  obtain ⟨it, fp, tn, J, H2, e, I2, T, st2, f2, W, ⟨m0, w0⟩, turn⟩ := h2
  subst e
  have stat : ∀ {H' : Hp}, (∀ b ∈ fp, H' b = none) → ∀ b ∈ fp, FpOk X pins H' b := fun hn b hb => ⟨hn b hb, (f2 b hb).2⟩
  refine codeAny_forLoop_any (fun n s' => ∃ i σ' H', Inv X pins σ' H' s' ∧ tn i s'.heap ∧ (∀ b ∈ fp, H' b = none) ∧ W i n σ' H') ?_ m0 ⟨0, σ, H2, I2, st2, fun b hb => (f2 b hb).1, w0⟩
  rintro n s3 ⟨i, σ3, H3, I3, st3, fr3, w3⟩
  rcases turn i n σ3 H3 w3 with ⟨stop, qn⟩ | ⟨go, N, hN, step⟩
  · refine wpAny_passesOwn hp (thn (T.done X rfl rfl rfl hc i pins s3 σ3 H3 X.xe I3 (stat fr3) st3 stop) fun r s4 ⟨hr, I4⟩ => ?_)
    subst hr
    exact wpAny_execs_nil ⟨σ3, H3, I4, qn⟩
  · refine wpAny_passesOwn hp (thn (T.item X rfl rfl rfl hc i pins s3 σ3 H3 X.xe I3 (stat fr3) st3 go) fun r s4 ⟨u, hr, h4⟩ => ?_)
    subst hr
    refine wpAny_passesOwn hp (thn h4 fun _ s5 ⟨x, H5, I5, r5, y5, st5, fr5⟩ => ?_)
    have I5' := I5.pinned (stat fr5) (T.obj _ _ st5)
    refine wpAny_passesOwn hp (thn (hg _ s5 σ3 H5 x u _ I5' r5 (step x H5 y5)) fun _ s6 ⟨σ6, H6, I6, q6⟩ => ?_)
    refine wpAny_passesOwn hp (thn (hb _ s6 σ6 H6 _ I6 q6) fun f s7 q7 => ?_)
    have again : ∀ {σ7 : St} {H7 : Hp}, Inv X (pins ++ pinsAt fp s5.heap) σ7 H7 s7 → N σ7 H7 → ∃ m, m < n ∧ ∃ i σ' H', Inv X pins σ' H' s7 ∧ tn i s7.heap ∧ (∀ b ∈ fp, H' b = none) ∧ W i m σ' H' := fun {σ7 H7} I7 n7 => by
      obtain ⟨m', hm, w7⟩ := hN σ7 H7 n7
      refine ⟨m', hm, i + 1, σ7, H7, I7.unpinned, T.keep _ _ _ st5 fun b hb o e => (I7.pin (b, o) (List.mem_append_right _ (List.mem_append_right _ (mem_pinsAt hb e)))).1, fun b hb => ?_, w7⟩
      obtain ⟨o, e, d⟩ := T.obj _ _ st5 b hb
      exact (I7.pin (b, o) (List.mem_append_right _ (List.mem_append_right _ (mem_pinsAt hb e)))).2.1
    cases f with
    | next => obtain ⟨σ7, H7, I7, n7⟩ := q7; exact again I7 n7
    | cont => obtain ⟨σ7, H7, I7, n7⟩ := q7; exact again I7 n7
    | brk => obtain ⟨σ7, H7, I7, q7⟩ := q7; exact ⟨σ7, H7, I7.unpinned, q7⟩
    | ret v => obtain ⟨x7, σ7, H7, I7, r7, q7⟩ := q7; exact ⟨x7, σ7, H7, I7.unpinned, r7, q7⟩
end
end L2
namespace L2
open PySem PySem.Spec PyProof.Rows
abbrev R2 := V → V → Hp → VK → Prop
def OpR (X : Cx) (f : Value → Value → Sem Value) (r : R2) : Prop :=
  ∀ (pins : List (Addr × Obj)) (s : Shared) (σ : St) (H : Hp) (x y : V) (v u : Value) (Q : VK), Inv X pins σ H s → RelV x v → RelV y u → r x y H Q →
    wpAny (model X.prog X.w) X.A (f v u) (EP X pins σ Q) X.xe s
def CallR (X : Cx) (f : Value) (r : List V → Hp → VK → Prop) : Prop :=
  ∀ (pins : List (Addr × Obj)) (s : Shared) (σ : St) (H : Hp) (xs : List V) (us : List Value) (Q : VK), Inv X pins σ H s → Vals xs us → r xs H Q →
    wpAny (model X.prog X.w) X.A (call f us) (EP X pins σ Q) X.xe s
def tOp (r : R2) (ta tb : TE) : TE := fun σ H Q => ta σ H fun x H1 => tb σ H1 fun y H2 => r x y H2 Q
def rI (C : Int → Int → Prop) (g : Int → Int → V) : R2 := fun x y H Q => ∃ i j, x = .int i ∧ y = .int j ∧ C i j ∧ Q (g i j) H
def rI0 (g : Int → Int → V) : R2 := fun x y H Q => ∃ i j, x = .int i ∧ y = .int j ∧ Q (g i j) H
section
variable {X : Cx} {a b c : Expr} {ta tb tc : TE} {pos : Pos}
theorem binT (ha : PE X a ta) (hb : PE X b tb) {pins : List (Addr × Obj)} {s : Shared} {σ : St} {H : Hp} {R : V → V → Hp → Prop} (I : Inv X pins σ H s)
    (h : ta σ H fun x H1 => tb σ H1 fun y H2 => R x y H2) {Q : Value → Shared → Prop} {f : Value → Value → Sem Value}
    (hf : ∀ v u s2 x y H2, Inv X pins σ H2 s2 → RelV x v → RelV y u → R x y H2 → wpAny (model X.prog X.w) X.A (f v u) Q X.xe s2) :
    wpAny (model X.prog X.w) X.A (eval a X.env) (fun v s₁ => wpAny (model X.prog X.w) X.A (eval b X.env) (fun u s₂ => wpAny (model X.prog X.w) X.A (f v u) Q X.xe s₂) X.xe s₁) X.xe s := by
  refine thn (ha pins s σ H _ I h) fun v s1 ⟨x, H1, I1, r1, q1⟩ => ?_
  refine thn (hb pins s1 σ H1 _ I1 q1) fun u s2 ⟨y, H2, I2, r2, q2⟩ => ?_
  exact hf v u s2 x y H2 I2 r1 r2 q2
theorem pe_op {op : Operator} {r : R2} (ho : OpR X (binaryOp op) r) (ha : PE X a ta) (hb : PE X b tb) : PE X (.BinOp a op b pos) (tOp r ta tb) := by
  intro pins s σ H Q I h
  exact wpAny_BinOp (binT ha hb I h fun v u s2 x y H2 I2 rx ry q => ho pins s2 σ H2 x y v u Q I2 rx ry q)
theorem opI {f : Value → Value → Sem Value} {C : Int → Int → Prop} {g : Int → Int → Int}
    (rule : ∀ (i j : Int) (t u : Tok) (s : Shared) (Q : Value → Shared → Prop) (E : Value → Shared → Prop), C i j → Q (.int (g i j) s.toks) { s with toks := s.toks + 1 } → wpAny (model X.prog X.w) X.A (f (.int i t) (.int j u)) Q E s) :
    OpR X f (rI C fun i j => .int (g i j)) := by
  intro pins s σ H x y v u Q I rx ry h
  obtain ⟨i, j, rfl, rfl, hc, q⟩ := h
  obtain ⟨t, rfl⟩ := rx
  obtain ⟨t', rfl⟩ := ry
  exact rule i j t t' s _ _ hc ⟨.int (g i j), H, I.tok _, ⟨_, rfl⟩, q⟩
theorem opI0 {f : Value → Value → Sem Value} {g : Int → Int → Int}
    (rule : ∀ (i j : Int) (t u : Tok) (s : Shared) (Q : Value → Shared → Prop) (E : Value → Shared → Prop), Q (.int (g i j) s.toks) { s with toks := s.toks + 1 } → wpAny (model X.prog X.w) X.A (f (.int i t) (.int j u)) Q E s) :
    OpR X f (rI0 fun i j => .int (g i j)) := by
  intro pins s σ H x y v u Q I rx ry h
  obtain ⟨i, j, rfl, rfl, q⟩ := h
  obtain ⟨t, rfl⟩ := rx
  obtain ⟨t', rfl⟩ := ry
  exact rule i j t t' s _ _ ⟨.int (g i j), H, I.tok _, ⟨_, rfl⟩, q⟩
theorem opB0 {f : Value → Value → Sem Value} {g : Int → Int → Bool}
    (rule : ∀ (i j : Int) (t u : Tok) (s : Shared) (Q : Value → Shared → Prop) (E : Value → Shared → Prop), Q (.bool (g i j)) s → wpAny (model X.prog X.w) X.A (f (.int i t) (.int j u)) Q E s) :
    OpR X f (rI0 fun i j => .bl (g i j)) := by
  intro pins s σ H x y v u Q I rx ry h
  obtain ⟨i, j, rfl, rfl, q⟩ := h
  obtain ⟨t, rfl⟩ := rx
  obtain ⟨t', rfl⟩ := ry
  exact rule i j t t' s _ _ ⟨.bl (g i j), H, I, rfl, q⟩
def CDiv (i j : Int) : Prop := 0 < j ∧ j < 1073741824
def CPow (i j : Int) : Prop := 0 ≤ j ∧ j ≤ 1000000 ∧ i.natAbs < 2 ^ 64
def CMul (i j : Int) : Prop := (-(2 ^ 64) < i ∧ i < 2 ^ 64) ∨ (-(2 ^ 64) < j ∧ j < 2 ^ 64)
theorem CMul.ok {i j : Int} (h : CMul i j) : IntMulOk i j := by
  rcases h with ⟨h1, h2⟩ | ⟨h1, h2⟩
  · exact .of_left (intBits_le_64 h1 h2)
  · exact .of_right (intBits_le_64 h1 h2)
theorem op_add : OpR X (binaryOp .Add) (rI0 fun i j => .int (i + j)) := opI0 fun _ _ _ _ _ _ _ q => add_int q
theorem op_sub : OpR X (binaryOp .Sub) (rI0 fun i j => .int (i - j)) := opI0 fun _ _ _ _ _ _ _ q => sub_int q
theorem op_mod : OpR X (binaryOp .Mod) (rI (fun _ j => 0 < j) fun i j => .int (i % j)) := opI fun i j _ _ _ _ _ hc q => by
  have h1 : (0 : Int) < j := hc
  exact mod_int' (by omega) (by rw [Int.fmod_eq_emod_of_nonneg i (by omega)]; exact q)
theorem op_pow : OpR X (binaryOp .Pow) (rI CPow fun i j => .int (i ^ j.toNat)) := opI fun _ _ _ _ _ _ _ hc q => pow_int_small hc.1 hc.2.1 hc.2.2 q
end
def scal : V → V → Bool
  | .non, .non => true | .non, .int _ => true | .int _, .non => true | .non, .bl _ => true | .bl _, .non => true | .non, .str _ => true | .str _, .non => true
  | .int _, .int _ => true | .bl _, .bl _ => true | .str _, .str _ => true | .byt _, .byt _ => true
  | .int _, .str _ => true | .str _, .int _ => true | .bl _, .str _ => true | .str _, .bl _ => true
  | _, _ => false
def rEq : R2 := fun x y H Q => scal x y = true ∧ Q (.bl (decide (x = y))) H
def rNe : R2 := fun x y H Q => scal x y = true ∧ Q (.bl (!decide (x = y))) H
theorem dec_int {i j : Int} : decide (V.int i = V.int j) = (i == j) := by
  rw [Bool.eq_iff_iff]
  simp
theorem dec_bl {i j : Bool} : decide (V.bl i = V.bl j) = (i == j) := by
  rw [Bool.eq_iff_iff]
  simp
theorem dec_str {i j : Str} : decide (V.str i = V.str j) = (i == j) := by
  rw [Bool.eq_iff_iff]
  simp
theorem dec_byt {i j : Array UInt8} : decide (V.byt i = V.byt j) = (i.toList == j.toList) := by
  rw [Bool.eq_iff_iff]
  cases i
  cases j
  simp
section
variable {X : Cx} {a b c : Expr} {ta tb tc : TE} {pos : Pos}
theorem fin_bl {pins : List (Addr × Obj)} {σ : St} {H : Hp} {s : Shared} {Q : VK} {k k' : Bool} (I : Inv X pins σ H s) (q : Q (.bl k) H) (e : k = k') : EP X pins σ Q (.bool k') s := by
  subst e
  exact ⟨.bl k, H, I, rfl, q⟩
theorem op_eq : OpR X (compareOp .Eq) rEq := by
  intro pins s σ H x y v u Q I rx ry h
  obtain ⟨hs, q⟩ := h
  cases x with
  | non =>
    cases rx
    cases y with
    | non => cases ry; exact PySem.EqNone.eq_none_none (fin_bl I q (by simp))
    | bl j => cases ry; exact PySem.EqNone.eq_none_bool (fin_bl I q (by simp))
    | int j => obtain ⟨t', rfl⟩ := ry; exact PySem.EqNone.eq_none_int (fin_bl I q (by simp))
    | str j => obtain ⟨t', rfl⟩ := ry; exact PySem.EqNone.eq_none_str (fin_bl I q (by simp))
    | _ => exact absurd (show false = true from hs) Bool.false_ne_true
  | bl i =>
    cases rx
    cases y with
    | non => cases ry; exact PySem.EqNone.eq_bool_none (fin_bl I q (by simp))
    | bl j => cases ry; exact eq_bool (fin_bl I q dec_bl)
    | str j => obtain ⟨t', rfl⟩ := ry; exact PySem.EqMixed.eq_bool_str (fin_bl I q (by simp))
    | _ => exact absurd (show false = true from hs) Bool.false_ne_true
  | int i =>
    obtain ⟨t, rfl⟩ := rx
    cases y with
    | non => cases ry; exact PySem.EqNone.eq_int_none (fin_bl I q (by simp))
    | int j => obtain ⟨t', rfl⟩ := ry; exact eq_int (fin_bl I q dec_int)
    | str j => obtain ⟨t', rfl⟩ := ry; exact PySem.EqMixed.eq_int_str (fin_bl I q (by simp))
    | _ => exact absurd (show false = true from hs) Bool.false_ne_true
  | str i =>
    obtain ⟨t, rfl⟩ := rx
    cases y with
    | non => cases ry; exact PySem.EqNone.eq_str_none (fin_bl I q (by simp))
    | bl j => cases ry; exact PySem.EqMixed.eq_str_bool (fin_bl I q (by simp))
    | int j => obtain ⟨t', rfl⟩ := ry; exact PySem.EqMixed.eq_str_int (fin_bl I q (by simp))
    | str j => obtain ⟨t', rfl⟩ := ry; exact eq_str (fin_bl I q dec_str)
    | _ => exact absurd (show false = true from hs) Bool.false_ne_true
  | byt i =>
    obtain ⟨t, rfl⟩ := rx
    cases y with
    | byt j => obtain ⟨t', rfl⟩ := ry; exact PySem.W.eq_bytes (fin_bl I q dec_byt)
    | _ => exact absurd (show false = true from hs) Bool.false_ne_true
  | _ => cases y <;> exact absurd (show false = true from hs) Bool.false_ne_true
theorem op_ne : OpR X (compareOp .NotEq) rNe := by
  intro pins s σ H x y v u Q I rx ry h
  obtain ⟨hs, q⟩ := h
  cases x with
  | non =>
    cases rx
    cases y with
    | non => cases ry; exact PySem.EqNone.ne_none_none (fin_bl I q (by simp))
    | bl j => cases ry; exact PySem.EqNone.ne_none_bool (fin_bl I q (by simp))
    | int j => obtain ⟨t', rfl⟩ := ry; exact PySem.EqNone.ne_none_int (fin_bl I q (by simp))
    | str j => obtain ⟨t', rfl⟩ := ry; exact PySem.EqNone.ne_none_str (fin_bl I q (by simp))
    | _ => exact absurd (show false = true from hs) Bool.false_ne_true
  | bl i =>
    cases rx
    cases y with
    | non => cases ry; exact PySem.EqNone.ne_bool_none (fin_bl I q (by simp))
    | bl j => cases ry; exact ne_bool (fin_bl I q (congrArg not dec_bl))
    | str j => obtain ⟨t', rfl⟩ := ry; exact PySem.EqMixed.ne_bool_str (fin_bl I q (by simp))
    | _ => exact absurd (show false = true from hs) Bool.false_ne_true
  | int i =>
    obtain ⟨t, rfl⟩ := rx
    cases y with
    | non => cases ry; exact PySem.EqNone.ne_int_none (fin_bl I q (by simp))
    | int j => obtain ⟨t', rfl⟩ := ry; exact ne_int (fin_bl I q (congrArg not dec_int))
    | str j => obtain ⟨t', rfl⟩ := ry; exact PySem.EqMixed.ne_int_str (fin_bl I q (by simp))
    | _ => exact absurd (show false = true from hs) Bool.false_ne_true
  | str i =>
    obtain ⟨t, rfl⟩ := rx
    cases y with
    | non => cases ry; exact PySem.EqNone.ne_str_none (fin_bl I q (by simp))
    | bl j => cases ry; exact PySem.EqMixed.ne_str_bool (fin_bl I q (by simp))
    | int j => obtain ⟨t', rfl⟩ := ry; exact PySem.EqMixed.ne_str_int (fin_bl I q (by simp))
    | str j => obtain ⟨t', rfl⟩ := ry; exact ne_str (fin_bl I q (congrArg not dec_str))
    | _ => exact absurd (show false = true from hs) Bool.false_ne_true
  | byt i =>
    obtain ⟨t, rfl⟩ := rx
    cases y with
    | byt j => obtain ⟨t', rfl⟩ := ry; exact PySem.W.ne_bytes (fin_bl I q (congrArg not dec_byt))
    | _ => exact absurd (show false = true from hs) Bool.false_ne_true
  | _ => cases y <;> exact absurd (show false = true from hs) Bool.false_ne_true
theorem op_lt : OpR X (compareOp .Lt) (rI0 fun i j => .bl (decide (i < j))) := opB0 fun _ _ _ _ _ _ _ q => lt_int q
theorem op_ge : OpR X (compareOp .GtE) (rI0 fun i j => .bl (decide (j ≤ i))) := opB0 fun _ _ _ _ _ _ _ q => ge_int q
theorem op_lt_str : OpR X (compareOp .Lt) (fun x y H Q => ∃ i j, x = .str i ∧ y = .str j ∧ Q (.bl (decide (i.cps.toList < j.cps.toList))) H) := by
  intro pins s σ H x y v u Q I rx ry h
  obtain ⟨i, j, rfl, rfl, q⟩ := h
  obtain ⟨t, rfl⟩ := rx
  obtain ⟨t', rfl⟩ := ry
  exact lt_str (fin_bl I q rfl)
theorem pe_cmpR {op : CmpOp} {r : R2} (ho : OpR X (compareOp op) r) (ha : PE X a ta) (hb : PE X b tb) (hm : behindInMarks op b = false) : PE X (.Compare a [op] [b] pos) (tOp r ta tb) := by
  intro pins s σ H Q I h
  exact wpAny_Compare1 (binT ha hb I h fun v u s2 x y H2 I2 rx ry q => ho pins s2 σ H2 x y v u Q I2 rx ry q) hm
theorem line63 : (sizeLine : Nat) < 2 ^ 63 := by rw [sizeLine_eq]; decide
theorem op_add_str : OpR X (binaryOp .Add) (fun x y H Q => ∃ i j, x = .str i ∧ y = .str j ∧ i.length + j.length ≤ sizeLine ∧ Q (.str (i ++ j)) H) := by
  intro pins s σ H x y v u Q I rx ry h
  obtain ⟨i, j, rfl, rfl, hz, q⟩ := h
  obtain ⟨t, rfl⟩ := rx
  obtain ⟨t', rfl⟩ := ry
  exact add_str (fun t' tk => ⟨.str (i ++ j), H, I.tok _, ⟨_, rfl⟩, q⟩) hz
theorem vals1 {x : V} {us : List Value} (r : Vals [x] us) : ∃ u, us = [u] ∧ RelV x u := by
  cases r with
  | cons r1 r2 => cases r2; exact ⟨_, rfl, r1⟩
theorem vals2 {x y : V} {us : List Value} (r : Vals [x, y] us) : ∃ u w', us = [u, w'] ∧ RelV x u ∧ RelV y w' := by
  cases r with
  | cons r1 r2 =>
    cases r2 with
    | cons r3 r4 => cases r4; exact ⟨_, _, rfl, r1, r3⟩
theorem call_str_int : CallR X (.type "str") (fun xs H Q => ∃ i, xs = [.int i] ∧ i.natAbs.log2 < 1920 ∧ Q (.str (toString i)) H) := by
  intro pins s σ H xs us Q I r h
  obtain ⟨i, rfl, hz, q⟩ := h
  obtain ⟨u, rfl, t, rfl⟩ := vals1 r
  exact PySem.P.str_of_int hz ⟨.str _, H, I.tok _, ⟨_, rfl⟩, q⟩
end
end L2
namespace L2
open PySem PySem.Spec PyProof.Rows
structure ObjM (h : Heap) (x dx C : Addr) (mA : Str → Option Value) : Prop where
  obj : h.get? x = some (PySem.W.instObj C dx)
  ns : h.Ns1 dx mA
  ne : dx ≠ x
theorem lookIn_ns {h : Heap} {dx : Addr} {mA : Str → Option Value} (n : h.Ns1 dx mA) : ∃ od, h.get? dx = some od ∧ ∀ name, PySem.W.lookIn name od = some (mA name) := by
  obtain ⟨o, es, ep, ho, hd, hk, _, hm⟩ := n
  refine ⟨o, ho, fun name => ?_⟩
  have e := hm name
  unfold nsFind findBy at e
  rw [← Array.find?_toList] at e
  unfold PySem.W.lookIn
  rw [hd]
  dsimp only
  split
  · rename_i y q
    rw [q] at e
    exact congrArg some e
  · rename_i q
    rw [q] at e
    have a : es.toList.any (·.refKey) = false := by
      rw [List.any_eq_false]
      intro y hy
      obtain ⟨z, t, hkey⟩ := hk y (Array.mem_toList_iff.mp hy)
      simp [DictEntry.refKey, hkey]
    have a' : ¬ es.toList.any (·.refKey) = true := by rw [a]; exact Bool.false_ne_true
    rw [if_neg a']
    exact congrArg some e
theorem ObjM.look {h : Heap} {x dx C : Addr} {mA : Str → Option Value} (I : ObjM h x dx C mA) : ∃ od, PySem.W.InstAt h x (PySem.W.instObj C dx) C (some od) ∧ ∀ name, PySem.W.lookIn name od = some (mA name) :=
  let ⟨od, ho, hl⟩ := lookIn_ns I.ns
  ⟨od, ⟨I.obj, rfl, rfl, ho⟩, hl⟩
section
variable {prog : Program} {w : World} {A : Around} {E : Value → Shared → Prop} {s : Shared} {K : PySem.W.Frag} {x dx C f : Addr} {mA : Str → Option Value} {name : Str} {v : Value}
theorem get_map {expr : Bool} {Q : Value → Shared → Prop} (X : K.In s.heap) (I : ObjM s.heap x dx C mA) (hg : PySem.W.plainGet K C name = true) (hh : PySem.W.hasDictIn K C = true)
    (ha : PySem.W.findIn K (.ref C) name = some none) (hv : mA name = some v) (hv' : PySem.W.handedIn v = true) (h : Q v { s with toks := s.toks + 1 }) :
    wpAny (model prog w) A (getAttr (.ref x) name expr) Q E s := by
  obtain ⟨od, J, hl⟩ := I.look
  exact PySem.W.get_value X J (PySem.W.plainGet_of hg).1 (PySem.W.findObj_own hh ha rfl (by rw [hl, hv])) hv' h
theorem get_meth {pl : Sem Bool} {Q : Value × List Value → Shared → Prop} (X : K.In s.heap) (I : ObjM s.heap x dx C mA) (hg : PySem.W.plainGet K C name = true)
    (hf : PySem.W.findIn K (.ref C) name = some (some (.ref f))) (ht : PySem.W.isFn K (.ref f) = true) (hv : mA name = none) (h : Q (.ref f, [.ref x]) s) :
    wpAny (model prog w) A (getMethod (.ref x) name pl) Q E s := by
  obtain ⟨od, J, hl⟩ := I.look
  exact PySem.W.method_fn X J (PySem.W.plainGet_of hg).1 (PySem.W.plainGet_of hg).2 hf (beq_iff_eq.mp ht) (by show (PySem.W.lookIn name od).map (·.isSome) = some false; rw [hl, hv]; rfl) h
theorem set_map {ns : List Str} {Q : Unit → Shared → Prop} (X : K.In s.heap) (I : ObjM s.heap x dx C mA)
    (hs : PySem.W.findIn K (.ref C) "__setattr__" = some (some (.builtin "object.__setattr__"))) (hp : PySem.W.plainOver K C = true) (ht : PySem.W.takerIn K C name = some none) (hh : PySem.W.hasDictIn K C = true)
    (hw : PySem.Within mA ns) (hsz : ns.length ≤ sizeLine)
    (h : ∀ h', ObjM h' x dx C (fun y => if y = name then some v else mA y) → Heap.SameBut dx s.heap h' → Q () { s with heap := h', toks := s.toks + 2 }) :
    wpAny (model prog w) A (setAttr (.ref x) name v) Q E s := by
  obtain ⟨od, J, hl⟩ := I.look
  refine PySem.W.set_plain X J hs (PySem.W.osa_open (s := { s with toks := s.toks + 1 }) (r := none) X J hp ht fun b => ?_)
  obtain ⟨cd, hc, hd'⟩ := PySem.W.any_some hh
  have hx : s.heap.get? x = some ⟨.ref C, some dx, .plain, #[]⟩ := I.obj
  refine wpAny_bind (wpAny_pure (wpAny_bind (wpAny_bind (wpAny_loadPart hx (wpAny_bind (PySem.W.Looks.here (s := { s with toks := s.toks + 1 }) (PySem.W.looks_clsIn X hc) ?_))))))
  rw [hd']
  refine wpAny_pure (a := some dx) (wpAny_bind (wpAny_pure (wpAny_bind ?_)))
  refine wpAny_nsSet1 (s := { s with toks := s.toks + 1 }) I.ns fun h' hn2 hs2 => ?_
  obtain ⟨oD, esD, epD, hoD, hdD, hcD⟩ := hn2.count (PySem.Within.cons name v hw)
  refine wpAny_bind (wpAny_lookBehind hoD (by rw [hdD]; exact pastItsLine_dict (Nat.le_trans hcD (by rw [List.length_cons]; omega))) ?_)
  exact wpAny_pure (h _ ⟨(hs2.2 _ (Ne.symm I.ne)).trans I.obj, hn2, I.ne⟩ hs2)
theorem make_map {R : Result → Shared → Prop} {vs : List Value} {kw : List (Str × Value)} (X : K.In s.heap) (hm : PySem.W.makesIn K C = true)
    (hi : PySem.W.findIn K (.ref C) "__init__" = some (some (.ref f))) (hf : PySem.W.typeIn K (.ref f) = some (.type "function"))
    (h : codeAny (model prog w) (A.under (.builtin "type.__call__" ⟨.ref C :: vs, kw⟩)) (.call (.ref f) ⟨.ref (s.heap.objs.size + 1) :: vs, kw⟩) (PySem.W.InitBack (s.heap.objs.size + 1) R)
      { s with heap := (s.heap.push PySem.W.emptyDict).push (PySem.W.instObj C s.heap.objs.size) }) :
    codeAny (model prog w) A (.call (.ref C) ⟨vs, kw⟩) R s := by
  obtain ⟨hh, g, d, t, os⟩ := s
  exact PySem.W.make_core (PySem.W.makes_of X hm) (PySem.W.looks_findIn X hi) (fun self => PySem.W.bind_fn X self hf) (.inl rfl) h
end
def putF (f : Str) (v : V) : List (Str × V) → List (Str × V)
  | [] => [(f, v)]
  | (g, x) :: r => if g = f then (g, v) :: r else (g, x) :: putF f v r
theorem lookup_putF (f g : Str) (v : V) : ∀ fs : List (Str × V), (putF f v fs).lookup g = if g = f then some v else fs.lookup g
  | [] => by
    show List.lookup g [(f, v)] = _
    by_cases h : g = f
    · have hb : (g == f) = true := beq_iff_eq.mpr h
      simp only [List.lookup, hb, if_pos h]
    · have hb : (g == f) = false := beq_eq_false_iff_ne.mpr h
      simp only [List.lookup, hb, if_neg h]
  | (k, x) :: r => by
    have ih := lookup_putF f g v r
    rw [show putF f v ((k, x) :: r) = (if k = f then (k, v) :: r else (k, x) :: putF f v r) from rfl]
    by_cases hk : k = f
    · rw [if_pos hk]
      by_cases h : g = k
      · have hb : (g == k) = true := beq_iff_eq.mpr h
        simp only [List.lookup, hb, if_pos (h.trans hk)]
      · have hb : (g == k) = false := beq_eq_false_iff_ne.mpr h
        simp only [List.lookup, hb, if_neg (fun e : g = f => h (e.trans hk.symm))]
    · rw [if_neg hk]
      by_cases h : g = k
      · have hb : (g == k) = true := beq_iff_eq.mpr h
        simp only [List.lookup, hb, if_neg (fun e : g = f => hk (h.symm.trans e))]
      · have hb : (g == k) = false := beq_eq_false_iff_ne.mpr h
        simp only [List.lookup, hb]
        exact ih
theorem keys_putF (f : Str) (v : V) : ∀ fs : List (Str × V), f ∈ (putF f v fs).map (·.1) ∧ ∀ g, g ∈ fs.map (·.1) → g ∈ (putF f v fs).map (·.1)
  | [] => ⟨by simp [putF], fun g h => by simp at h⟩
  | (k, x) :: r => by
    obtain ⟨i1, i2⟩ := keys_putF f v r
    rw [show putF f v ((k, x) :: r) = (if k = f then (k, v) :: r else (k, x) :: putF f v r) from rfl]
    by_cases hk : k = f
    · rw [if_pos hk]
      subst hk
      exact ⟨by simp, fun g h => by simpa using h⟩
    · rw [if_neg hk]
      refine ⟨?_, fun g h => ?_⟩
      · rw [List.map_cons]
        exact List.mem_cons_of_mem _ i1
      · rw [List.map_cons] at h ⊢
        rcases List.mem_cons.mp h with e | e
        · exact List.mem_cons.mpr (.inl e)
        · exact List.mem_cons_of_mem _ (i2 g e)
theorem length_putF (f : Str) (v : V) : ∀ fs : List (Str × V), (putF f v fs).length ≤ fs.length + 1
  | [] => by simp [putF]
  | (k, x) :: r => by
    have ih := length_putF f v r
    rw [show putF f v ((k, x) :: r) = (if k = f then (k, v) :: r else (k, x) :: putF f v r) from rfl]
    by_cases hk : k = f
    · rw [if_pos hk, List.length_cons, List.length_cons]; omega
    · rw [if_neg hk, List.length_cons, List.length_cons]; omega
theorem RelO.some_of {v : V} {o : Option Value} (r : RelO (some v) o) : ∃ u, o = some u ∧ RelV v u := by
  cases o with
  | none => exact (show False from r).elim
  | some u => exact ⟨u, rfl, r⟩
theorem RelO.none_of {o : Option Value} (r : RelO none o) : o = none := by
  cases o with
  | none => rfl
  | some u => exact (show False from r).elim
theorem handed_of {v : V} {u : Value} (r : RelV v u) : PySem.W.handedIn u = true := by
  cases v with
  | non => cases (show u = Value.none from r); rfl
  | bl b => cases (show u = Value.bool b from r); rfl
  | int i => obtain ⟨t, e⟩ := (show ∃ t, u = Value.int i t from r); cases e; rfl
  | str x => obtain ⟨t, e⟩ := (show ∃ t, u = Value.str x t from r); cases e; rfl
  | byt b => obtain ⟨t, e⟩ := (show ∃ t, u = Value.bytes b t from r); cases e; rfl
  | flt b => obtain ⟨t, e⟩ := (show ∃ t, u = Value.float b t from r); cases e; rfl
  | ref a => cases (show u = Value.ref a from r); rfl
  | ty n => cases (show u = Value.type n from r); rfl
section
variable {P : Program} {w : World} {H H' : Hp} {h h' : Heap} {a C dx : Addr} {fs fs' : List (Str × V)}
theorem ins_get (hok : HOk P w H h) (e : H a = some (.ins C dx fs)) : ∃ mA, ObjM h a dx C mA ∧ (∀ f, RelO (fs.lookup f) (mA f)) ∧ PySem.Within mA (fs.map (·.1)) ∧ fs.length ≤ 1000 ∧ H dx = some (.own a) := by
  obtain ⟨d, z, ne, ob, mA, n, r, q⟩ := (show ObjOk P w H h a (.ins C dx fs) from hok a _ e)
  exact ⟨mA, ⟨ob, n, ne⟩, r, q, z, d⟩
end
structure Cls (K : PySem.W.Frag) (C : Addr) : Prop where
  pg : PySem.W.plainGet K C Str.empty = true
  hd : PySem.W.hasDictIn K C = true
  po : PySem.W.plainOver K C = true
  sa : PySem.W.findIn K (.ref C) "__setattr__" = some (some (.builtin "object.__setattr__"))
theorem Cls.get {K : PySem.W.Frag} {C : Addr} (c : Cls K C) (f : Str) : PySem.W.plainGet K C f = true := c.pg
def NoAttr (K : PySem.W.Frag) (C : Addr) (f : Str) : Prop := PySem.W.findIn K (.ref C) f = some none
theorem NoAttr.taker {K : PySem.W.Frag} {C : Addr} {f : Str} (n : NoAttr K C f) : PySem.W.takerIn K C f = some none := by
  unfold PySem.W.takerIn
  rw [show PySem.W.findIn K (.ref C) f = some none from n]
  rfl
structure Meth (K : PySem.W.Frag) (C : Addr) (m : Str) (f : Addr) : Prop where
  at_ : PySem.W.findIn K (.ref C) m = some (some (.ref f))
  fn : PySem.W.isFn K (.ref f) = true
  kp : PySem.W.keepIn K (.ref f) = true
section
variable {X : Cx} {pins : List (Addr × Obj)} {σ : St} {H : Hp} {s : Shared} {a C dx : Addr} {fs : List (Str × V)} {f : Str} {v : V} {A : Around} {E : Value → Shared → Prop}
theorem getattr_ok {b : Bool} {Q : Value → Shared → Prop} (I : Inv X pins σ H s) (e : H a = some (.ins C dx fs)) (c : Cls X.K C) (n : NoAttr X.K C f) (l : fs.lookup f = some v)
    (h : ∀ u s', Inv X pins σ H s' → RelV v u → Q u s') : wpAny (model X.prog X.w) A (getAttr (.ref a) f b) Q E s := by
  obtain ⟨mA, O, r, _, _, _⟩ := ins_get I.hok e
  obtain ⟨u, hu, ru⟩ := RelO.some_of (v := v) (o := mA f) (by rw [← l]; exact r f)
  exact get_map I.kIn O (c.get f) c.hd n hu (handed_of ru) (h u _ (I.tok _) ru)
theorem getmeth_ok {m : Str} {g : Addr} {pl : Sem Bool} {Q : Value × List Value → Shared → Prop} (I : Inv X pins σ H s) (e : H a = some (.ins C dx fs)) (c : Cls X.K C) (k : Meth X.K C m g) (l : fs.lookup m = none)
    (h : Q (.ref g, [.ref a]) s) : wpAny (model X.prog X.w) A (getMethod (.ref a) m pl) Q E s := by
  obtain ⟨mA, O, r, _, _, _⟩ := ins_get I.hok e
  have hn : mA m = none := RelO.none_of (by rw [← l]; exact r m)
  exact get_meth I.kIn O (c.get m) k.at_ k.fn hn h
theorem setattr_ok {y : V} {u : Value} {Q : Unit → Shared → Prop} (I : Inv X pins σ H s) (e : H a = some (.ins C dx fs)) (c : Cls X.K C) (n : NoAttr X.K C f) (hl : fs.length < 1000) (ry : RelV y u)
    (h : ∀ s', Inv X pins σ (upd H a (.ins C dx (putF f y fs))) s' → Q () s') : wpAny (model X.prog X.w) A (setAttr (.ref a) f u) Q E s := by
  obtain ⟨mA, O, r, wi, _, ho⟩ := ins_get I.hok e
  have hz : (fs.map (·.1)).length ≤ sizeLine := by rw [List.length_map, sizeLine_eq]; omega
  refine set_map I.kIn O c.sa c.po n.taker c.hd wi hz fun h' O' sb => h _ ?_
  have hd : ∃ o, h'.get? dx = some o := let ⟨o, _, _, e', _⟩ := O'.ns; ⟨o, e'⟩
  refine I.write (x := a) (e := dx) (by rw [e]; exact True.intro) (.inr ho) (fun b q hb z => (sb.2 b hb).trans z) hd ?_
  refine ⟨by rw [upd_ne O.ne]; exact ho, ?_, O.ne, O'.obj, _, O'.ns, fun g => ?_, fun g hg => ?_⟩
  · have := length_putF f y fs; omega
  · show RelO ((putF f y fs).lookup g) (if g = f then some u else mA g)
    rw [lookup_putF]
    by_cases q : g = f
    · rw [if_pos q, if_pos q]; exact ry
    · rw [if_neg q, if_neg q]; exact r g
  · by_cases q : g = f
    · rw [q]; exact (keys_putF f y fs).1
    · refine (keys_putF f y fs).2 g (wi g fun z => hg ?_)
      show (if g = f then some u else mA g) = none
      rw [if_neg q]; exact z
theorem Inv.made (I : Inv X pins σ H s) : Inv X pins σ (upd (upd H s.heap.objs.size (.own (s.heap.objs.size + 1))) (s.heap.objs.size + 1) (.ins C s.heap.objs.size []))
    { s with heap := (s.heap.push PySem.W.emptyDict).push (PySem.W.instObj C s.heap.objs.size) } := by
  have e1 : (s.heap.push PySem.W.emptyDict).get? s.heap.objs.size = some PySem.W.emptyDict := Heap.get?_push_size s.heap rfl
  have e2 : ((s.heap.push PySem.W.emptyDict).push (PySem.W.instObj C s.heap.objs.size)).get? (s.heap.objs.size + 1) = some (PySem.W.instObj C s.heap.objs.size) := by
    have := Heap.get?_push_size (s.heap.push PySem.W.emptyDict) (o := PySem.W.instObj C s.heap.objs.size) rfl
    rwa [Heap.size_push] at this
  have e3 : (s.heap.push PySem.W.emptyDict).Ns s.heap.objs.size (fun _ => none) := ⟨PySem.W.emptyDict, #[], _, e1, rfl, (fun e he => absurd he (by simp)), fun _ => rfl⟩
  have I1 := I.laid (a := s.heap.objs.size) (o := .own (s.heap.objs.size + 1)) (h' := s.heap.push PySem.W.emptyDict) (t' := s.toks) (fun b u q => Heap.get?_push_of_some _ q) (Nat.le_refl _) ⟨_, e1⟩
  refine I1.laid (a := s.heap.objs.size + 1) (o := .ins C s.heap.objs.size []) (t' := s.toks) (fun b u q => Heap.get?_push_of_some _ q) (Nat.le_of_eq (Heap.size_push _ _)) ?_
  have ne : s.heap.objs.size ≠ s.heap.objs.size + 1 := Nat.ne_of_lt (Nat.lt_succ_self _)
  refine ⟨by rw [upd_ne ne, upd_same], Nat.zero_le _, ne, e2, fun _ => none, (Heap.Ns1.of_empty e3).at fun o q => Heap.get?_push_of_some _ q, fun _ => True.intro, fun y hy => absurd rfl hy⟩
theorem attr_of {prog : Program} {w : World} {env : Env} {e : Expr} {f : Str} {pos : Pos} {s : Shared} {Q : Value → Shared → Prop} (hb : attributeBase e f env (eval e env) = eval e env)
    (h : wpAny (model prog w) A (eval e env) (fun o s₁ => wpAny (model prog w) A (getAttr o f true) Q E s₁) E s) : wpAny (model prog w) A (eval (.Attribute e f pos) env) Q E s :=
  Attribute_any_ h (by rw [arm_eval_Attribute, hb])
end
section
variable {X : Cx} {o e value : Expr} {f : Str} {pos pos' tpos : Pos} {ta tv : TE}
end
section
variable {X : Cx} {pins : List (Addr × Obj)} {σ : St} {H : Hp} {s : Shared} {A : Around} {E : Value → Shared → Prop} {Q : Value → Shared → Prop} {c : Value} {b : Bool}
inductive TyOf (K : PySem.W.Frag) (H : Hp) : V → Value → Prop where
  | non : TyOf K H .non (.type "NoneType")
  | bl (x : Bool) : TyOf K H (.bl x) (.type "bool")
  | int (i : Int) : TyOf K H (.int i) (.type "int")
  | str (x : Str) : TyOf K H (.str x) (.type "str")
  | flt (x : UInt64) : TyOf K H (.flt x) (.type "float")
  | lst {a : Addr} {xs : List V} (e : H a = some (.lst xs)) : TyOf K H (.ref a) (.type "list")
  | frz {a : Addr} {o : Obj} {xs : List V} (e : H a = some (.frz o (.lst xs))) : TyOf K H (.ref a) (.type "list")
  | tup {a : Addr} {xs : List V} (e : H a = some (.tup xs)) : TyOf K H (.ref a) (.type "tuple")
  | dK {a : Addr} {kvs : List (Key × V)} (e : H a = some (.dK kvs)) : TyOf K H (.ref a) (.type "dict")
  | dT {a : Addr} {kvs : List (List Key × V)} (e : H a = some (.dT kvs)) : TyOf K H (.ref a) (.type "dict")
  | ins {a C dx : Addr} {fs : List (Str × V)} (e : H a = some (.ins C dx fs)) (cl : Cls K C) (ha : PySem.W.findIn K (.ref C) "__class__" = some (some (.builtin "object.__class__")))
      (hn : PySem.W.specialIn K (.builtin "object.__class__") "__get__" = some (some (.builtin "getset_descriptor.__get__"))) (htk : PySem.W.takesIn K (.builtin "object.__class__") = some true)
      (hm : PySem.W.mroIn K C (.type "object") = some true) : TyOf K H (.ref a) (.ref C)
theorem isinst_ok {x : V} {u t : Value} (I : Inv X pins σ H s) (rx : RelV x u) (ty : TyOf X.K H x t) (e : PySem.W.kitOne X.K t c = some b) (h : ∀ tk, Q (.bool b) { s with toks := tk }) :
    wpAny (model X.prog X.w) A (call (.builtin "isinstance") [u, c]) Q E s := by
  cases ty with
  | non => cases (show u = Value.none from rx); exact PySem.W.kia_one PySem.W.kitx_none I.kIn True.intro e (fun z => nomatch z) h
  | bl y => cases (show u = Value.bool y from rx); exact PySem.W.kia_one PySem.W.kitx_bool I.kIn True.intro e (fun z => nomatch z) h
  | int i => obtain ⟨t, q⟩ := (show ∃ t, u = Value.int i t from rx); cases q; exact PySem.W.kia_one PySem.W.kitx_int I.kIn True.intro e (fun z => nomatch z) h
  | str y => obtain ⟨t, q⟩ := (show ∃ t, u = Value.str y t from rx); cases q; exact PySem.W.kia_one PySem.W.kitx_str I.kIn True.intro e (fun z => nomatch z) h
  | flt y => obtain ⟨t, q⟩ := (show ∃ t, u = Value.float y t from rx); cases q; exact PySem.W.kia_one PySem.W.kitx_float I.kIn True.intro e (fun z => nomatch z) h
  | @lst a xs ea =>
    cases (show u = Value.ref a from rx)
    obtain ⟨_, _, n, _, h1⟩ := (show ObjOk X.prog X.w H s.heap a (.lst xs) from I.hok a _ ea)
    exact PySem.W.kia_one PySem.W.kitx_list I.kIn ⟨_, h1, rfl⟩ e (fun z => nomatch z) h
  | @frz a ob xs ea =>
    cases (show u = Value.ref a from rx)
    obtain ⟨_, _, _, n, _, h1⟩ := (show ObjOk X.prog X.w H s.heap a (.frz ob (.lst xs)) from I.hok a _ ea)
    exact PySem.W.kia_one PySem.W.kitx_list I.kIn ⟨_, h1, rfl⟩ e (fun z => nomatch z) h
  | @tup a xs ea =>
    cases (show u = Value.ref a from rx)
    obtain ⟨_, _, _, p⟩ := (show ObjOk X.prog X.w H s.heap a (.tup xs) from I.hok a _ ea)
    obtain ⟨o, h1, h2, _⟩ := p
    exact PySem.W.kia_one PySem.W.kitx_tuple I.kIn ⟨o, h1, h2⟩ e (fun z => nomatch z) h
  | @dK a kvs ea =>
    cases (show u = Value.ref a from rx)
    obtain ⟨_, _, vs, _, p⟩ := (show ObjOk X.prog X.w H s.heap a (.dK kvs) from I.hok a _ ea)
    obtain ⟨o, es, ep, h1, h2, _⟩ := p
    exact PySem.W.kia_one PySem.W.kitx_dict I.kIn ⟨o, h1, h2.1⟩ e (fun z => nomatch z) h
  | @dT a kvs ea =>
    cases (show u = Value.ref a from rx)
    obtain ⟨_, _, xs, _, o, es, ep, h1, h2, _⟩ := (show ObjOk X.prog X.w H s.heap a (.dT kvs) from I.hok a _ ea)
    exact PySem.W.kia_one PySem.W.kitx_dict I.kIn ⟨o, h1, h2.1⟩ e (fun z => nomatch z) h
  | @ins a C dx fs ea cl ha hn htk hm =>
    cases (show u = Value.ref a from rx)
    obtain ⟨mA, O, _⟩ := ins_get I.hok ea
    obtain ⟨od, J, _⟩ := O.look
    exact PySem.W.kia_one (PySem.W.kitx_own (cl.get _) cl.hd ha hn htk hm) I.kIn J e (fun z => nomatch z) h
end
end L2
namespace L2
open PySem PySem.Spec PyProof.Rows
structure Room (k : Nat) (A : Around) : Prop where
  hd : A.handled = none
  dp : A.depth + 3 * k + 5 < recursionLimit
  un : A.units + 16 * k + 200 < cLine
theorem Room.mono {j k : Nat} {A : Around} (r : Room k A) (h : j ≤ k) : Room j A := ⟨r.hd, by have := r.dp; omega, by have := r.un; omega⟩
theorem Room.deeper {k : Nat} {A : Around} (r : Room (k + 1) A) (env : Env) : Room k (A.deeper env) :=
  ⟨r.hd, by have := r.dp; show A.depth + 1 + 3 * k + 5 < _; omega, by have := r.un; show A.units + 3 + 16 * k + 200 < _; omega⟩
theorem Room.in1 {k : Nat} {A : Around} (r : Room (k + 1) A) : Room k A.in1 :=
  ⟨r.hd, by have := r.dp; show A.depth + 3 * k + 5 < _; omega, by have := r.un; show A.units + 1 + 16 * k + 200 < _; omega⟩
theorem make_depth {A : Around} {C : Addr} {us : List Value} {kw : List (Str × Value)} : (A.under (.builtin "type.__call__" ⟨.ref C :: us, kw⟩)).depth = A.depth + 1 := by
  first | rfl | simp [Around.under, Code.weight, Code.isCreation, Code.isGuard, Code.isCaller, Code.frames, Code.isFrame, guardIds]
theorem make_units {A : Around} {C : Addr} {us : List Value} {kw : List (Str × Value)} : (A.under (.builtin "type.__call__" ⟨.ref C :: us, kw⟩)).units = A.units + 1 := by
  first | rfl | simp [Around.under, Code.cUnits, Code.frames, Code.isFrame]
theorem Room.make {k : Nat} {A : Around} (r : Room (k + 1) A) (C : Addr) (us : List Value) (kw : List (Str × Value)) : Room k (A.under (.builtin "type.__call__" ⟨.ref C :: us, kw⟩)) :=
  ⟨r.hd, by have := r.dp; rw [make_depth]; omega, by have := r.un; rw [make_units]; omega⟩
theorem Room.depth {k : Nat} {A : Around} (r : Room k A) : A.depth < recursionLimit := by have := r.dp; omega
theorem Room.units {k : Nat} {A : Around} (r : Room k A) : A.units + 64 < cLine := by have := r.un; omega
def tNil : TA := fun _ H Q => Q [] H
def tCons (ta : TE) (tr : TA) : TA := fun σ H Q => ta σ H fun x H1 => tr σ H1 fun xs H2 => Q (x :: xs) H2
section
variable {X : Cx} {e : Expr} {es : List Expr} {te : TE} {t : TA} {pos : Pos}
theorem pa_nil : PA X [] tNil := fun _ _ _ _ H Q I h => Calls.spliced_nil ⟨[], H, I, .nil, h⟩
theorem pa_cons (ha : PE X e te) (hr : PA X es t) (hs : starEach (e :: es) X.env = (false, eval e X.env) :: starEach es X.env := by rfl) : PA X (e :: es) (tCons te t) := by
  intro pos pins s σ H Q I h
  rw [hs]
  show wpAny _ _ (spliced ((false, eval e X.env) :: backTo pos (starEach es X.env))) _ _ s
  refine Calls.spliced_cons (thn (ha pins s σ H _ I h) fun u s1 ⟨x, H1, I1, r1, q1⟩ => ?_)
  exact thn (hr pos pins s1 σ H1 _ I1 q1) fun us s2 ⟨xs, H2, I2, r2, q2⟩ => ⟨x :: xs, H2, I2, .cons r1 r2, q2⟩
def tLst (t : TA) : TE := fun σ H Q => t σ H fun xs H1 => xs.length ≤ sizeLine ∧ ∀ p, H1 p = none → Q (.ref p) (upd H1 p (.lst xs))
theorem pe_lst (h : PA X es t) : PE X (.List es pos) (tLst t) := by
  intro pins s σ H Q I hq
  refine wpAny_List_spliced (thn (h pos pins s σ H _ I hq) fun us s1 ⟨xs, H1, I1, r, z, q⟩ => ⟨by rw [← r.length]; exact z, ?_⟩)
  have hf : H1 s1.heap.objs.size = none := I1.hok.fresh (Nat.le_refl _)
  refine ⟨.ref s1.heap.objs.size, upd H1 s1.heap.objs.size (.lst xs), I1.laid (t' := s1.toks) (fun b u e => Heap.get?_push_of_some _ e) (Nat.le_refl _) ?_, rfl, q _ hf⟩
  exact ⟨z, us, 0, r, Heap.get?_push_size _ rfl⟩
end
abbrev Sp := List V → Hp → VK → XK → Prop
abbrev CXT := List Env → Hp → Shared → XK → Value → Shared → Prop
structure Env0 (P : Program) (w : World) (K : PySem.W.Frag) (mg : Str → Option Value) (base : Heap) (A : Around) (outer : List Env) (s : Shared) (H : Hp) : Prop where
  frames : A.frames = some outer
  mod : Mod K mg base
  bs : ∀ b o, base.get? b = some o → s.heap.get? b = some o ∧ H b = none
  bsz : base.objs.size ≤ s.heap.objs.size
  funs : s.heap.FunFrames base outer
  frf : ∀ b ∈ frs outer, H b = none
  hok : HOk P w H s.heap
  bare : AllBare s.gens
def CE (outer : List Env) (P : Program) (w : World) (H : Hp) (s : Shared) (Q : VK) (u : Value) (s' : Shared) : Prop :=
  ∃ v H', s'.os = s.os ∧ AllBare s'.gens ∧ Un (frs outer) [] H H' s.heap s'.heap ∧ HOk P w H' s'.heap ∧ RelV v u ∧ Q v H'
def CR (CX : CXT) (outer : List Env) (P : Program) (w : World) (H : Hp) (s : Shared) (Q : VK) (E : XK) (r : Result) (s' : Shared) : Prop :=
  match r with
  | .ok (.ret u) => CE outer P w H s Q u s'
  | .ok _ => False
  | .error e => CX outer H s E e s'
structure FnOk (P : Program) (w : World) (K : PySem.W.Frag) (mg : Str → Option Value) (base : Heap) (CX : CXT) (k : Nat) (f : Addr) (fd : FuncData) (ps : List Str) (sp : Sp) : Prop where
  len : ∀ vs H Q E, sp vs H Q E → vs.length = ps.length
  run : ∀ (A : Around) (outer : List Env) (s : Shared) (H : Hp) (args : Args) (us : List Value) (vs : List V) (Q : VK) (E : XK), Room k A → Env0 P w K mg base A outer s H → BindsTo s fd args (ps.zip us) → Vals vs us → sp vs H Q E →
    codeAny (model P w) A (.call (.ref f) args) (CR CX outer P w H s Q E) s
theorem FnOk.mono {P : Program} {w : World} {K : PySem.W.Frag} {mg : Str → Option Value} {base : Heap} {CX : CXT} {j k : Nat} {f : Addr} {fd : FuncData} {ps : List Str} {sp : Sp} (F : FnOk P w K mg base CX j f fd ps sp) (h : j ≤ k) :
    FnOk P w K mg base CX k f fd ps sp := ⟨F.len, fun A outer s H args us vs Q E hr => F.run A outer s H args us vs Q E (hr.mono h)⟩
theorem FnOk.imp {P : Program} {w : World} {K : PySem.W.Frag} {mg : Str → Option Value} {base : Heap} {CX : CXT} {k : Nat} {f : Addr} {fd : FuncData} {ps : List Str} {sp sp' : Sp} (F : FnOk P w K mg base CX k f fd ps sp)
    (h : ∀ vs H Q E, sp' vs H Q E → sp vs H Q E) : FnOk P w K mg base CX k f fd ps sp' :=
  ⟨fun vs H Q E q => F.len vs H Q E (h _ _ _ _ q), fun A outer s H args us vs Q E hr he hb hv hs => F.run A outer s H args us vs Q E hr he hb hv (h _ _ _ _ hs)⟩
theorem Env0.make {P : Program} {w : World} {K : PySem.W.Frag} {mg : Str → Option Value} {base : Heap} {A : Around} {outer : List Env} {s : Shared} {H : Hp} (e : Env0 P w K mg base A outer s H) (C : Addr) (us : List Value) (kw : List (Str × Value)) :
    Env0 P w K mg base (A.under (.builtin "type.__call__" ⟨.ref C :: us, kw⟩)) outer s H := ⟨by first | exact e.frames | (simpa [Around.under, Code.envs, Code.isFrame, pushEnvs] using e.frames), e.mod, e.bs, e.bsz, e.funs, e.frf, e.hok, e.bare⟩
theorem Env0.in1 {P : Program} {w : World} {K : PySem.W.Frag} {mg : Str → Option Value} {base : Heap} {A : Around} {outer : List Env} {s : Shared} {H : Hp} (e : Env0 P w K mg base A outer s H) :
    Env0 P w K mg base A.in1 outer s H := ⟨e.frames, e.mod, e.bs, e.bsz, e.funs, e.frf, e.hok, e.bare⟩
section
variable {X : Cx} {pins : List (Addr × Obj)} {σ : St} {H : Hp} {s s' : Shared}
theorem Inv.env0 (I : Inv X pins σ H s) : Env0 X.prog X.w X.K X.mg X.base X.A X.stack s H :=
  ⟨I.ok.frames, I.ok.mod, I.bs, Nat.le_trans I.ok.bsz I.sz, I.stack, I.stkFree, I.hok, I.bare⟩
theorem Inv.after {Q : VK} {u : Value} (I : Inv X pins σ H s) (h : CE X.stack X.prog X.w H s Q u s') : EP X pins σ Q u s' := by
  obtain ⟨v, H', os, bare, un, hok, r, q⟩ := h
  obtain ⟨hh, g, d, t, os'⟩ := s'
  obtain rfl : os' = s.os := os
  exact ⟨v, H', I.call (h' := hh) (g' := g) (d' := d) (t' := t) (ch := []) un hok bare (fun b z => absurd z (by simp)), r, q⟩
end
def tCall (sp : Sp) (dvs : List V) (E : XK) (t : TA) : TE := fun σ H Q => t σ H fun vs H1 => sp (vs ++ dvs) H1 Q E
def tMeth (C : Addr) (m : Str) (sp : Sp) (dvs : List V) (E : XK) (ta : TE) (t : TA) : TE := fun σ H Q => ta σ H fun x H1 => ∃ a dx fs, x = .ref a ∧ H1 a = some (.ins C dx fs) ∧ fs.lookup m = none ∧
  t σ H1 fun vs H2 => sp (x :: (vs ++ dvs)) H2 Q E
def tMake (C : Addr) (sp : Sp) (dvs : List V) (E : XK) (t : TA) : TE := fun σ H Q => t σ H fun vs H1 => ∀ x dx, H1 x = none → H1 dx = none → dx ≠ x →
  sp (.ref x :: (vs ++ dvs)) (upd (upd H1 dx (.own x)) x (.ins C dx [])) (fun v H2 => v = .non ∧ Q (.ref x) H2) E
def Binds (K : PySem.W.Frag) (fd : FuncData) (ps : List Str) (ds : List Value) : Prop :=
  ∀ (s : Shared) (us : List Value), K.In s.heap → (us ++ ds).length = ps.length → BindsTo s fd ⟨us, []⟩ (ps.zip (us ++ ds))
theorem Binds.all {K : PySem.W.Frag} {fd : FuncData} {ps : List Str} (h : ∀ us : List Value, us.length = ps.length → bindArgs fd ⟨us, []⟩ = pure (ps.zip us)) : Binds K fd ps [] := fun s us _ hl => by
  rw [List.append_nil] at hl ⊢
  exact .of_eq (h us hl)
def Passes (CX : CXT) (X : Cx) (E : XK) : Prop := ∀ (pins : List (Addr × Obj)) (σ : St) (H : Hp) (s : Shared) (e : Value) (s' : Shared), Inv X pins σ H s → CX X.stack H s E e s' → X.xe e s'
section
variable {X : Cx} {CX : CXT} {k : Nat} {f C : Addr} {fd : FuncData} {ps : List Str} {sp : Sp} {dvs : List V} {ds : List Value} {E : XK} {x m : Str} {p pos apos : Pos} {e o : Expr} {es : List Expr} {ta : TE} {t : TA}
theorem run_fn {pins : List (Addr × Obj)} {σ : St} {H : Hp} {s : Shared} {Q : VK} {us : List Value} {vs : List V} (F : FnOk X.prog X.w X.K X.mg X.base CX k f fd ps sp) (hr : Room k X.A) (hb : Binds X.K fd ps ds) (hd : Vals dvs ds) (hx : Passes CX X E)
    (I : Inv X pins σ H s) (r : Vals vs us) (h : sp (vs ++ dvs) H Q E) : wpAny (model X.prog X.w) X.A (call (.ref f) us) (EP X pins σ Q) X.xe s := by
  have r2 : Vals (vs ++ dvs) (us ++ ds) := r.append hd
  have hl : (us ++ ds).length = ps.length := by rw [← r2.length]; exact F.len _ _ _ _ h
  refine wpAny_call (codeAny_mono (F.run X.A X.stack s H ⟨us, []⟩ (us ++ ds) (vs ++ dvs) Q E hr I.env0 (hb s us I.kIn hl) r2 h) fun r s' hq => ?_)
  cases r with
  | error e => exact hx pins σ H s e s' I hq
  | ok fl =>
    cases fl with
    | ret u => exact I.after hq
    | next => exact False.elim hq
    | brk => exact False.elim hq
    | cont => exact False.elim hq
theorem pe_call (F : FnOk X.prog X.w X.K X.mg X.base CX k f fd ps sp) (hr : Room k X.A) (hg : Gl X x) (hm : X.mg x = some (.ref f)) (hk : PySem.W.keepIn X.K (.ref f) = true) (hb : Binds X.K fd ps ds) (hd : Vals dvs ds) (hx : Passes CX X E)
    (ha : PA X (e :: es) t) (hdb : (x == ("__debug__" : Str)) = false := by decide) (he : starEach (e :: es) X.env = (false, eval e X.env) :: starEach es X.env := by rfl) (hpl : (backTo pos (starEach es X.env)).any (·.1) = false := by rfl) :
    PE X (.Call (.Name x p) (e :: es) [] pos) (tCall sp dvs E t) := by
  intro pins s σ H Q I h
  refine wpAny_Call_Name_kw (ld_glob I hg hm ?_ hdb)
  refine PySem.W.callWith_K (h₀ := X.base) I.ok.mod.kin hk (thn (ha pos pins s σ H _ I h) fun us s1 ⟨vs, H1, I1, r, q⟩ => ⟨I1.kIn, ?_⟩) he hpl
  exact run_fn F hr hb hd hx I1 r q
theorem pe_meth {pl : Sem Bool} (he : PE X o ta) (c : Cls X.K C) (hm : Meth X.K C m f) (F : FnOk X.prog X.w X.K X.mg X.base CX k f fd ps sp) (hr : Room k X.A) (hb : Binds X.K fd ps ds) (hd : Vals dvs ds) (hx : Passes CX X E) (ha : PA X (e :: es) t)
    (hst : starEach (e :: es) X.env = (false, eval e X.env) :: starEach es X.env := by rfl) (hpl : (backTo pos (starEach es X.env)).any (·.1) = false := by rfl)
    (ht : eval (.Call (.Attribute o m apos) (e :: es) [] pos) X.env = (do
      let ov ← eval o X.env
      standAt apos.atName
      let (f, first) ← holding [ov] (getMethod ov m pl)
      callWith pos f first (backTo pos (starEach (e :: es) X.env)) (backToKw pos (keywordEach [] X.env))) := by rfl) :
    PE X (.Call (.Attribute o m apos) (e :: es) [] pos) (tMeth C m sp dvs E ta t) := by
  intro pins s σ H Q I h
  refine PySem.W.methodCall_KW (pl := pl) (thn (he pins s σ H _ I h) fun u s1 ⟨x, H1, I1, rx, a, dx, fs, ex, ea, l, q⟩ => ?_) ht
  subst ex
  obtain rfl : u = Value.ref a := rx
  refine getmeth_ok I1 ea c hm l ?_
  refine PySem.W.callWith_K (first := [.ref a]) (h₀ := X.base) I.ok.mod.kin hm.kp (thn (ha pos pins s1 σ H1 _ I1 q) fun us s2 ⟨vs, H2, I2, r, q2⟩ => ⟨I2.kIn, ?_⟩) hst hpl
  exact run_fn (us := .ref a :: us) (vs := .ref a :: vs) F hr hb hd hx I2 (.cons rfl r) q2
theorem pe_meth0 {pl : Sem Bool} (he : PE X o ta) (c : Cls X.K C) (hm : Meth X.K C m f) (F : FnOk X.prog X.w X.K X.mg X.base CX k f fd ps sp) (hr : Room k X.A) (hb : Binds X.K fd ps ds) (hd : Vals dvs ds) (hx : Passes CX X E)
    (ht : eval (.Call (.Attribute o m apos) [] [] pos) X.env = (do
      let ov ← eval o X.env
      standAt apos.atName
      let (f, first) ← holding [ov] (getMethod ov m pl)
      callWith pos f first (backTo pos (starEach [] X.env)) (backToKw pos (keywordEach [] X.env))) := by rfl) :
    PE X (.Call (.Attribute o m apos) [] [] pos) (tMeth C m sp dvs E ta tNil) := by
  intro pins s σ H Q I h
  refine PySem.W.methodCall_KW (pl := pl) (thn (he pins s σ H _ I h) fun u s1 ⟨x, H1, I1, rx, a, dx, fs, ex, ea, l, q⟩ => ?_) ht
  subst ex
  obtain rfl : u = Value.ref a := rx
  refine getmeth_ok I1 ea c hm l ?_
  exact PySem.W.callWith_K0 (first := [.ref a]) I1.kIn hm.kp (run_fn (us := [.ref a]) (vs := [.ref a]) F hr hb hd hx I1 (.cons rfl .nil) q)
structure Mk (K : PySem.W.Frag) (C f : Addr) : Prop where
  makes : PySem.W.makesIn K C = true
  init : PySem.W.findIn K (.ref C) "__init__" = some (some (.ref f))
  fn : PySem.W.isFn K (.ref f) = true
  kp : PySem.W.keepIn K (.ref C) = true
theorem run_make {pins : List (Addr × Obj)} {σ : St} {H : Hp} {s : Shared} {Q : VK} {us : List Value} {vs : List V} (M : Mk X.K C f) (F : FnOk X.prog X.w X.K X.mg X.base CX k f fd ps sp) (hr : Room (k + 1) X.A) (hb : Binds X.K fd ps ds) (hd : Vals dvs ds)
    (hx : Passes CX X E) (I : Inv X pins σ H s) (r : Vals vs us)
    (h : ∀ x dx, H x = none → H dx = none → dx ≠ x → sp (.ref x :: (vs ++ dvs)) (upd (upd H dx (.own x)) x (.ins C dx [])) (fun v H2 => v = .non ∧ Q (.ref x) H2) E) :
    wpAny (model X.prog X.w) X.A (call (.ref C) us) (EP X pins σ Q) X.xe s := by
  have hq := h (s.heap.objs.size + 1) s.heap.objs.size (I.hok.fresh (Nat.le_succ _)) (I.hok.fresh (Nat.le_refl _)) (Nat.ne_of_lt (Nat.lt_succ_self _))
  have I2 := Inv.made (C := C) I
  have r2 : Vals (V.ref (s.heap.objs.size + 1) :: (vs ++ dvs)) (Value.ref (s.heap.objs.size + 1) :: (us ++ ds)) := .cons rfl (r.append hd)
  have hl : (Value.ref (s.heap.objs.size + 1) :: us ++ ds).length = ps.length := by
    have e := r2.length
    rw [F.len _ _ _ _ hq] at e
    exact e.symm
  refine wpAny_call (make_map (f := f) I.kIn M.makes M.init (beq_iff_eq.mp M.fn) (codeAny_mono (F.run _ X.stack _ _ ⟨Value.ref (s.heap.objs.size + 1) :: us, []⟩ (Value.ref (s.heap.objs.size + 1) :: (us ++ ds)) _ _ E (hr.make C us [])
    (I2.env0.make C us []) (hb _ (Value.ref (s.heap.objs.size + 1) :: us) I2.kIn hl) r2 hq) fun r s' hq' => ?_))
  cases r with
  | error e => exact hx pins σ _ _ e s' I2 hq'
  | ok fl =>
    cases fl with
    | ret u =>
      obtain ⟨v, H', I3, rv, ev, q3⟩ := I2.after hq'
      subst ev
      exact ⟨rv, ⟨V.ref (s.heap.objs.size + 1), H', I3, rfl, q3⟩⟩
    | next => exact False.elim hq'
    | brk => exact False.elim hq'
    | cont => exact False.elim hq'
theorem pe_make (M : Mk X.K C f) (F : FnOk X.prog X.w X.K X.mg X.base CX k f fd ps sp) (hr : Room (k + 1) X.A) (hg : Gl X x) (hm : X.mg x = some (.ref C)) (hb : Binds X.K fd ps ds) (hd : Vals dvs ds) (hx : Passes CX X E)
    (ha : PA X (e :: es) t) (hdb : (x == ("__debug__" : Str)) = false := by decide) (he : starEach (e :: es) X.env = (false, eval e X.env) :: starEach es X.env := by rfl) (hpl : (backTo pos (starEach es X.env)).any (·.1) = false := by rfl) :
    PE X (.Call (.Name x p) (e :: es) [] pos) (tMake C sp dvs E t) := by
  intro pins s σ H Q I h
  refine wpAny_Call_Name_kw (ld_glob I hg hm ?_ hdb)
  refine PySem.W.callWith_K (h₀ := X.base) I.ok.mod.kin M.kp (thn (ha pos pins s σ H _ I h) fun us s1 ⟨vs, H1, I1, r, q⟩ => ⟨I1.kIn, ?_⟩) he hpl
  exact run_make M F hr hb hd hx I1 r q
end
section
variable {X : Cx} {CX : CXT} {k : Nat} {f C : Addr} {fd : FuncData} {ps ks : List Str} {sp : Sp} {E : XK} {x m : Str} {p pos apos kpos : Pos} {e o : Expr} {es : List Expr} {kws : List Keyword} {te ta : TE} {t tk : TA} {nm : Option Str}
variable {g : List Value → List Value → List Value} {gV : List V → List V → List V}
end
structure FnScope (N P : List Str) (sc : Scope) : Prop where
  kind : sc.kind = .function
  co : sc.isCoroutine = false
  gen : sc.isGenerator = false
  nd : N.Nodup
  pre : N.take P.length = P
  par : ∀ x ∈ P, sc.names.lookup x = some .local ∨ sc.names.lookup x = some .cell
  nofree : ∀ y ∈ sc.names, y.2 ≠ .free
theorem bindL_out {kindOf : Str → Option NameKind} {x : Str} : ∀ {binds : List (Str × Value)} {m : Str → Option Value}, (∀ v, (x, v) ∉ binds) → bindL kindOf binds m x = m x
  | [], _, _ => rfl
  | (n, v) :: r, m, h => by
    unfold bindL
    rw [bindL_out fun w hw => h w (List.mem_cons_of_mem _ hw)]
    split
    · have : x ≠ n := by rintro rfl; exact h v List.mem_cons_self
      simp [this]
    · rfl
theorem bindC_out {kindOf : Str → Option NameKind} {x : Str} : ∀ {binds : List (Str × Value)} {m : Str → Option Value}, (∀ v, (x, v) ∉ binds) → bindC kindOf binds m x = m x
  | [], _, _ => rfl
  | (n, v) :: r, m, h => by
    unfold bindC
    rw [bindC_out fun w hw => h w (List.mem_cons_of_mem _ hw)]
    split
    · rfl
    · have : x ≠ n := by rintro rfl; exact h v List.mem_cons_self
      simp [this]
theorem bindL_get {kindOf : Str → Option NameKind} {x : Str} {v : Value} : ∀ {P : List Str} {vs : List Value} {i : Nat} {m : Str → Option Value}, P.Nodup → P[i]? = some x → vs[i]? = some v → kindOf x = some .local →
    bindL kindOf (P.zip vs) m x = some v
  | [], _, _, _, _, h, _, _ => by simp at h
  | _ :: _, [], _, _, _, _, h, _ => by simp at h
  | p :: P, w :: vs, 0, m, nd, h1, h2, hk => by
    simp at h1 h2; subst h1; subst h2
    show bindL kindOf ((p, w) :: P.zip vs) m p = _
    unfold bindL
    rw [bindL_out fun v hv => (List.nodup_cons.mp nd).1 (List.of_mem_zip hv).1, if_pos hk]
    simp
  | p :: P, w :: vs, i + 1, m, nd, h1, h2, hk => by
    show bindL kindOf ((p, w) :: P.zip vs) m x = _
    unfold bindL
    exact bindL_get (i := i) (List.nodup_cons.mp nd).2 (by simpa using h1) (by simpa using h2) hk
theorem bindC_get {kindOf : Str → Option NameKind} {x : Str} {v : Value} : ∀ {P : List Str} {vs : List Value} {i : Nat} {m : Str → Option Value}, P.Nodup → P[i]? = some x → vs[i]? = some v → kindOf x ≠ some .local →
    bindC kindOf (P.zip vs) m x = some v
  | [], _, _, _, _, h, _, _ => by simp at h
  | _ :: _, [], _, _, _, _, h, _ => by simp at h
  | p :: P, w :: vs, 0, m, nd, h1, h2, hk => by
    simp at h1 h2; subst h1; subst h2
    show bindC kindOf ((p, w) :: P.zip vs) m p = _
    unfold bindC
    rw [bindC_out fun v hv => (List.nodup_cons.mp nd).1 (List.of_mem_zip hv).1, if_neg hk]
    simp
  | p :: P, w :: vs, i + 1, m, nd, h1, h2, hk => by
    show bindC kindOf ((p, w) :: P.zip vs) m x = _
    unfold bindC
    exact bindC_get (i := i) (List.nodup_cons.mp nd).2 (by simpa using h1) (by simpa using h2) hk
def start (N : List Str) (vs : List V) : St := vs.map some ++ List.replicate (N.length - vs.length) none
def cxOf (CX : CXT) (P : Program) (w : World) (K : PySem.W.Frag) (mg : Str → Option Value) (base : Heap) (N : List Str) (qual : Str) (scope : Scope) (f : Addr) (cd : Value) (A : Around) (outer : List Env) (s : Shared) (H : Hp) (E : XK) : Cx where
  prog := P
  w := w
  K := K
  mg := mg
  base := base
  A := A.deeper (envOfC qual scope s.heap.objs.size f cd)
  N := N
  s₀ := s
  H₀ := H
  env := envOfC qual scope s.heap.objs.size f cd
  outer := outer
  stack := envOfC qual scope s.heap.objs.size f cd :: outer
  ex := []
  calm := true
  fn := fun _ => true
  pn := []
  xe := fun e s' => wpAny (model P w) (A.deeper (envOfC qual scope s.heap.objs.size f cd)) (leaving (envOfC qual scope s.heap.objs.size f cd) e) (fun _ s'' => CX outer H s E e s'') (fun e' s'' => CX outer H s E e' s'') s'
theorem cell_has {sc : Scope} {n : Nat} {x : Str} (h : sc.names.lookup x = some .cell) : ∃ c, (cellsFrom n sc.names []).lookup x = some c := by
  have q := PySem.W.cellsFrom_some sc.names n [] (.inl h)
  exact Option.isSome_iff_exists.mp q
theorem inv_start {CX : CXT} {P : Program} {w : World} {K : PySem.W.Frag} {mg : Str → Option Value} {base : Heap} {N ps : List Str} {qual : Str} {scope : Scope} {f : Addr} {cd : Value} {A : Around} {outer : List Env} {s s1 : Shared} {H : Hp} {E : XK} {us : List Value} {vs : List V}
    (S : FnScope N ps scope) (hd : A.handled = none) (e0 : Env0 P w K mg base A outer s H) (hl : vs.length = ps.length) (r : Vals vs us)
    (x : InCallC s s.heap.objs.size (bindL (envOfC qual scope s.heap.objs.size f cd).kindOf (ps.zip us) fun _ => none) (cellsFrom (s.heap.objs.size + 1) scope.names []) (bindC (envOfC qual scope s.heap.objs.size f cd).kindOf (ps.zip us) fun _ => none) s1) :
    Inv (cxOf CX P w K mg base N qual scope f cd A outer s H E) [] (start N vs) H s1 := by
  have hpl : ps.length ≤ N.length := by have := congrArg List.length S.pre; rw [List.length_take] at this; omega
  obtain ⟨h1, tk, rfl, hk⟩ := x.done
  have noA : ∀ b : Addr, b ∉ (cxOf CX P w K mg base N qual scope f cd A outer s H E).ex := fun b z => absurd (show b ∈ ([] : List Addr) from z) (by simp)
  refine ⟨⟨e0.mod, S.kind, rfl, rfl, Nat.le_refl _, fun y z c h1 h2 => ?_, fun y hy => ?_, fun y c _ h => ?_, fun _ => hd, Around.frames_deeper e0.frames, .inr ⟨rfl, rfl⟩, fun b z => absurd z (noA b), e0.bs, e0.bsz, fun b _ _ => noA b, fun b z => absurd z (noA b), e0.funs, e0.frf⟩,
    rfl, e0.bare, Un.kept hk, ⟨_, x.toInCall.ns, fun i y v h1 h2 h3 => ?_⟩, fun y c h => ⟨_, x.cell y c h⟩, e0.hok.fresh (Nat.le_refl _), fun y c h => ?_, fun p hp => absurd (show p ∈ ([] : List (Addr × Obj)) from hp) (by simp), e0.hok.kept hk, ?_⟩
  · exact name_of_addr x.apart (PySem.mem_of_lookup h1) (PySem.mem_of_lookup h2)
  · have hy : scope.names.lookup y = some .cell ∨ scope.names.lookup y = some .free := hy
    rcases hy with hy | hy
    · exact cell_has hy
    · exact absurd rfl (S.nofree _ (PySem.mem_of_lookup hy))
  · exact Nat.le_of_lt (x.above y c (PySem.mem_of_lookup h))
  · have hi : i < vs.length := by
      unfold start at h2
      by_cases hi : i < vs.length
      · exact hi
      · rw [List.getElem?_append_right (by simpa using hi)] at h2
        rw [List.getElem?_replicate] at h2
        split at h2 <;> cases h2
    have ha : vs[i]? = some v := by
      unfold start at h2
      rw [List.getElem?_append_left (by simpa using hi), List.getElem?_map] at h2
      cases e : vs[i]? with
      | none => rw [e] at h2; cases h2
      | some a => rw [e] at h2; cases h2; rfl
    obtain ⟨u, hu, rv⟩ := r.get ha
    have hp : ps[i]? = some y := by
      rw [← S.pre, List.getElem?_take_of_lt (by omega)]; exact h1
    have ndP : ps.Nodup := by rw [← S.pre]; exact S.nd.sublist (List.take_sublist _ _)
    refine ⟨u, rv, ?_⟩
    rcases S.par y (List.mem_of_getElem? hp) with k | k
    · exact .inl ⟨k, bindL_get ndP hp hu k⟩
    · obtain ⟨c, e⟩ := cell_has (n := s.heap.objs.size + 1) k
      refine .inr ⟨.inl k, c, e, ?_⟩
      have q := x.cell y c e
      rw [bindC_get ndP hp hu (by show scope.names.lookup y ≠ _; rw [k]; decide)] at q
      exact q
  · exact e0.hok.fresh (Nat.le_of_lt (x.above y c (PySem.mem_of_lookup h)))
  · unfold start
    show _ = N.length
    rw [List.length_append, List.length_map, List.length_replicate]
    omega
theorem fn_of {CX : CXT} {P : Program} {w : World} {K : PySem.W.Frag} {mg : Str → Option Value} {base : Heap} {k : Nat} {f : Addr} {name qual : Str} {params : Arguments} {body : List Stmt} {scope : Scope} {dV kV doc pm cdv ct oc : Value} {an od : Option Addr}
    {osl : Array (Option Value)} {N ps : List Str} {sp : Sp} (lk : K.lookup f = some ⟨oc, od, .func (PySem.W.fnOf name qual params body scope dV kV doc pm an cdv ct), osl⟩) (hcd : PySem.W.codeIn K cdv qual = true) (S : FnScope N ps scope)
    (len : ∀ vs H Q E, sp vs H Q E → vs.length = ps.length)
    (hbody : ∀ (A : Around) (outer : List Env) (s : Shared) (H : Hp) (vs : List V) (Q : VK) (E : XK), Room k (A.deeper (envOfC qual scope s.heap.objs.size f cdv)) → sp vs H Q E →
      ∃ t, PSs (cxOf CX P w K mg base N qual scope f cdv A outer s H E) body t ∧ t { nx := fun _ H' => Q .non H', rt := Q } (start N vs) H) :
    FnOk P w K mg base CX (k + 1) f (PySem.W.fnOf name qual params body scope dV kV doc pm an cdv ct) ps sp := by
  refine ⟨len, fun A outer s H args us vs Q E hr e0 hb r hsp => ?_⟩
  have hl := len _ _ _ _ hsp
  have KX : K.In s.heap := e0.mod.kin.keeps fun b o e => (e0.bs b o e).1
  have lim : s.heap.NoLimit := e0.mod.nolimit.keeps fun b o e => (e0.bs b o e).1
  have hkind : ∀ y ∈ ps.zip us, scope.names.lookup y.1 = some .local ∨ (scope.names.lookup y.1 = some .cell ∧ ((cellsFrom (s.heap.objs.size + 1) scope.names []).lookup y.1).isSome = true) := fun ⟨n, v⟩ hy => by
    rcases S.par n (List.of_mem_zip hy).1 with q | q
    · exact .inl q
    · exact .inr ⟨q, PySem.W.cellsFrom_some _ _ _ (.inl q)⟩
  refine codeAny_call_function hr.depth (KX _ _ lk) rfl S.co S.gen rfl (PySem.W.codeRec_of KX hcd) (hb _ _ _ _ ?_)
  refine wpAny_newFunctionEnv_cells S.kind hkind fun env he s1 x => ?_
  subst he
  refine ⟨lim.keeps x.toInCall.keep, codeAny_func ?_⟩
  obtain ⟨t, ht, hq⟩ := hbody A outer s H vs Q E (hr.deeper _) hsp
  have I : Inv (cxOf CX P w K mg base N qual scope f cdv A outer s H E) [] (start N vs) H s1 := inv_start S hr.hd e0 hl r x
  refine wpAny_mono (ht [] s1 (start N vs) H _ I hq) (fun fl s' hs => ?_) fun e s' hs => hs
  have fin : ∀ {σ' : St} {H' : Hp} {v : V} {u : Value}, Inv (cxOf CX P w K mg base N qual scope f cdv A outer s H E) [] σ' H' s' → RelV v u → Q v H' → CE outer P w H s Q u s' :=
    fun {σ' H' v u} J rv q => ⟨v, H', J.os, J.bare, J.base, J.hok, rv, q⟩
  cases fl with
  | ret u =>
    obtain ⟨v, σ', H', J, rv, q⟩ := hs
    exact fin J rv q
  | next =>
    obtain ⟨σ', H', J, q⟩ := hs
    exact fin (v := V.non) (u := Value.none) J rfl q
  | brk =>
    obtain ⟨_, _, _, q⟩ := hs
    exact False.elim q
  | cont =>
    obtain ⟨_, _, _, q⟩ := hs
    exact False.elim q
end L2
namespace L2
open PySem PySem.Spec PyProof.Rows
section
variable {X : Cx} {x : Str} {p pos : Pos} {e : Expr} {es : List Expr} {t : TA} {id T : String} {r : List V → Hp → VK → Prop}
def tCB (r : List V → Hp → VK → Prop) (t : TA) : TE := fun σ H Q => t σ H fun vs H1 => r vs H1 Q
theorem pe_callB (hc : CallR X (.builtin id) r) (hg : Gl X x) (hm : X.mg x = none) (hv : bootBuiltins x = some (.builtin id)) (ha : PA X (e :: es) t) (hn : x ≠ "__name__" := by decide) (hdb : (x == ("__debug__" : Str)) = false := by decide)
    (he : starEach (e :: es) X.env = (false, eval e X.env) :: starEach es X.env := by rfl) (hpl : (backTo pos (starEach es X.env)).any (·.1) = false := by rfl) : PE X (.Call (.Name x p) (e :: es) [] pos) (tCB r t) := by
  intro pins s σ H Q I h
  refine wpAny_Call_Name_kw (ld_blt I hg hm hv ?_ hn hdb)
  exact PyProof.Rows.callWith_builtin1 (thn (ha pos pins s σ H _ I h) fun us s1 ⟨vs, H1, I1, r1, q1⟩ => hc pins s1 σ H1 vs us Q I1 r1 q1) he hpl
theorem pe_callTy (hc : CallR X (.type T) r) (hg : Gl X x) (hm : X.mg x = none) (hv : bootBuiltins x = some (.type T)) (ha : PA X (e :: es) t) (hn : x ≠ "__name__" := by decide) (hdb : (x == ("__debug__" : Str)) = false := by decide)
    (he : starEach (e :: es) X.env = (false, eval e X.env) :: starEach es X.env := by rfl) (hpl : (backTo pos (starEach es X.env)).any (·.1) = false := by rfl) : PE X (.Call (.Name x p) (e :: es) [] pos) (tCB r t) := by
  intro pins s σ H Q I h
  refine wpAny_Call_Name_kw (ld_blt I hg hm hv ?_ hn hdb)
  exact PyProof.Rows.callWith_type1 (thn (ha pos pins s σ H _ I h) fun us s1 ⟨vs, H1, I1, r1, q1⟩ => hc pins s1 σ H1 vs us Q I1 r1 q1) he hpl
end
end L2
namespace HT
open PySem PyProof.Rows
def lexLt : List Int → List Int → Bool
  | [], [] => false
  | [], _ :: _ => true
  | _ :: _, [] => false
  | x :: xs, y :: ys => if x = y then lexLt xs ys else decide (x < y)
theorem lexLt_cons (x y : Int) (xs ys : List Int) : lexLt (x :: xs) (y :: ys) = if x = y then lexLt xs ys else decide (x < y) := rfl
theorem eqAt_int (A : Around) (s : Shared) (a : Int) (t : Tok) (c : Int) (u : Tok) : ∃ e, SeqAt.EqAt A s (.int a t) (.int c u) e ∧ (e = true ↔ a = c) :=
  ⟨(a == c), SeqAt.EqAt.int_int a t c u, by simp⟩
theorem rcLt_int (A : Around) (s : Shared) (a : Int) (t : Tok) (c : Int) (u : Tok) (prog : Program) (w : World) (E : Value → Shared → Prop) (Q : Value → Shared → Prop) (h : Q (.bool (decide (a < c))) s) :
    wpAny (model prog w) A (richCompare .Lt (.int a t) (.int c u)) Q E s :=
  (PyProof.Rows.lt_int h : wpAny (model prog w) A (compareOp .Lt (.int a t) (.int c u)) Q E s)
section
open PySem.SeqAt
open PySem.AutoSeq1 (wpAny_loadPart')
open PySem.MeetsSeq PySem.MeetsSeq2 PySem.MeetsSeq3
end
section
variable {prog : Program} {w : World} {A : Around} {E : Value → Shared → Prop} {s : Shared}
def sIx (n d : Nat) : Option Int → Nat
  | none => d
  | some v => if v < 0 then (v + (n : Int)).toNat else min v.toNat n
theorem sIx_le (n d : Nat) (hd : d ≤ n) (o : Option Int) : sIx n d o ≤ n := by
  cases o with
  | none => exact hd
  | some v =>
    show (if v < 0 then (v + (n : Int)).toNat else min v.toNat n) ≤ n
    by_cases hv : v < 0
    · rw [if_pos hv]; omega
    · rw [if_neg hv]; exact Nat.min_le_right _ _
end
end HT
namespace L2
open PySem PySem.Spec PyProof.Rows
abbrev TO := St → Hp → (Option Int → Hp → Prop) → Prop
def PO (X : Cx) (e : Option Expr) (t : TO) : Prop :=
  ∀ (pins : List (Addr × Obj)) (s : Shared) (σ : St) (H : Hp) (Q : Option Int → Hp → Prop), Inv X pins σ H s → t σ H Q →
    wpAny (model X.prog X.w) X.A (evalPart e X.env) (fun u s' => ∃ o H', Inv X pins σ H' s' ∧ IsPart u o ∧ Q o H') X.xe s
theorem intsAre_of {ns : List Int} : ∀ {us : List Value}, Vals (ns.map V.int) us → IntsAre us ns := by
  induction ns with
  | nil => intro us r; rw [List.map_nil] at r; cases r; exact .nil
  | cons n ns ih =>
    intro us r
    rw [List.map_cons] at r
    cases r with
    | cons r1 r2 =>
      obtain ⟨t, e⟩ := r1
      subst e
      exact .cons n t (ih r2)
section
variable {X : Cx} {e : Expr} {te : TE} {lo hi : Option Expr} {tl th : TO} {pos p2 : Pos}
def SlR (X : Cx) (r : V → Option Int → Option Int → Hp → VK → Prop) : Prop :=
  ∀ (pins : List (Addr × Obj)) (s : Shared) (σ : St) (H : Hp) (x : V) (v vl vu : Value) (lo hi : Option Int) (sl : Addr) (Q : VK), Inv X pins σ H s → RelV x v → s.heap.IsSliceOf sl vl vu .none → IsPart vl lo → IsPart vu hi → r x lo hi H Q →
    ∃ T id, typeLookup (.type T) "__getitem__" = pure (some (.builtin id)) ∧ s.TypeIs v T ∧ wpAny (model X.prog X.w) X.A (getItem v (.ref sl)) (EP X pins σ Q) X.xe s
def tSl (r : V → Option Int → Option Int → Hp → VK → Prop) (te : TE) (tl th : TO) : TE := fun σ H Q => te σ H fun x H1 => tl σ H1 fun l H2 => th σ H2 fun u H3 => r x l u H3 Q
theorem pe_slice {r : V → Option Int → Option Int → Hp → VK → Prop} (hr : SlR X r) (he : PE X e te) (hl : PO X lo tl) (hu : PO X hi th) : PE X (.Subscript e (.Slice lo hi none p2) pos) (tSl r te tl th) := by
  intro pins s σ H Q I h
  refine Subscript_ (thn (he pins s σ H _ I h) fun v s1 ⟨x, H1, I1, r1, q1⟩ => ?_)
  refine wpAny_Slice (thn (hl pins s1 σ H1 _ I1 q1) fun vl s2 ⟨l, H2, I2, pl, q2⟩ => thn (hu pins s2 σ H2 _ I2 q2) fun vu s3 ⟨u, H3, I3, pu, q3⟩ => ?_)
  rw [evalPart_none]
  refine wpAny_pure ?_
  have I4 : Inv X pins σ H3 { s3 with heap := s3.heap.push { cls := .type "slice", data := .fields #[vl, vu, .none] } } := I3.kept (t' := s3.toks) fun b ob q => Heap.get?_push_of_some _ q
  obtain ⟨T, id, hT, ht, hg⟩ := hr pins { s3 with heap := s3.heap.push { cls := .type "slice", data := .fields #[vl, vu, .none] } } σ H3 x v vl vu l u s3.heap.objs.size Q I4 r1 (Heap.IsSliceOf.new ..) pl pu q3
  show wpAny (model X.prog X.w) X.A (subscriptTail e (.Slice lo hi none p2) v (.ref s3.heap.objs.size)) (EP X pins σ Q) X.xe { s3 with heap := s3.heap.push { cls := .type "slice", data := .fields #[vl, vu, .none] } }
  exact tail_any (ops := [.ref s3.heap.objs.size, v]) ht hT hg (by with_unfolding_all rfl)
def cutV (xs : List V) (lo hi : Option Int) : List V := (xs.drop (HT.sIx xs.length 0 lo)).take (HT.sIx xs.length xs.length hi - HT.sIx xs.length 0 lo)
theorem cutV_length (xs : List V) (lo hi : Option Int) : (cutV xs lo hi).length ≤ xs.length := by
  unfold cutV
  rw [List.length_take, List.length_drop]
  omega
end
end L2
namespace L2
open PySem PySem.Spec PyProof.Rows
def ixN (n : Nat) (i : Int) : Option Nat := if 0 ≤ i then (if i < n then some i.toNat else none) else if -(n : Int) ≤ i then some (i + n).toNat else none
def atI {α : Type} (xs : List α) (i : Int) : Option α := (ixN xs.length i).bind fun j => xs[j]?
theorem ixN_seq {n : Nat} {i : Int} {j : Nat} (h : ixN n i = some j) : seqIndex? i n = some j ∧ j < n ∧ -(n : Int) ≤ i ∧ i < n := by
  unfold ixN at h
  by_cases h0 : 0 ≤ i
  · rw [if_pos h0] at h
    by_cases h1 : i < n
    · rw [if_pos h1] at h
      have e : i.toNat = j := Option.some.inj h
      exact ⟨by rw [seqIndex_of h0 h1, e], by omega, by omega, h1⟩
    · rw [if_neg h1] at h; cases h
  · rw [if_neg h0] at h
    by_cases h1 : -(n : Int) ≤ i
    · rw [if_pos h1] at h
      have e : (i + n).toNat = j := Option.some.inj h
      exact ⟨by rw [seqIndex_neg (by omega) h1, e], by omega, h1, by omega⟩
    · rw [if_neg h1] at h; cases h
theorem atI_get {α : Type} {xs : List α} {i : Int} {v : α} (h : atI xs i = some v) : ∃ j, seqIndex? i xs.length = some j ∧ xs[j]? = some v ∧ j < xs.length ∧ -(xs.length : Int) ≤ i ∧ i < xs.length := by
  unfold atI at h
  cases e : ixN xs.length i with
  | none => rw [e] at h; cases h
  | some j =>
    rw [e] at h
    obtain ⟨h1, h2, h3, h4⟩ := ixN_seq e
    exact ⟨j, h1, h, h2, h3, h4⟩
def PlainIx (b : Expr) : Prop := ∀ o i, subscripted b false o i = operate [o, i] (getItem o i)
def IxR (X : Cx) (r : R2) : Prop :=
  ∀ (value slice : Expr) (pins : List (Addr × Obj)) (s : Shared) (σ : St) (H : Hp) (x y : V) (v u : Value) (Q : VK), Inv X pins σ H s → RelV x v → RelV y u → r x y H Q →
    subscripted slice false v u = operate [v, u] (getItem v u) → wpAny (model X.prog X.w) X.A (subscriptTail value slice v u) (EP X pins σ Q) X.xe s
def MtR (X : Cx) (id : String) (r : V → List V → Hp → VK → Prop) : Prop :=
  ∀ (pins : List (Addr × Obj)) (s : Shared) (σ : St) (H : Hp) (x : V) (xs : List V) (v : Value) (us : List Value) (Q : VK), Inv X pins σ H s → RelV x v → Vals xs us → r x xs H Q →
    wpAny (model X.prog X.w) X.A (call (.builtin id) (v :: us)) (EP X pins σ Q) X.xe s
section
variable {X : Cx} {a b : Expr} {ta tb : TE} {pos : Pos}
theorem pe_ix {r : R2} (hr : IxR X r) (ha : PE X a ta) (hb : PE X b tb) (hs : PlainIx b) : PE X (.Subscript a b pos) (tOp r ta tb) := by
  intro pins s σ H Q I h
  exact Subscript_ (binT ha hb I h fun v u s2 x y H2 I2 rx ry q => hr a b pins s2 σ H2 x y v u Q I2 rx ry q (hs _ _))
def rIxL (K : PySem.W.Frag) : R2 := fun x y H Q => ∃ p xs i v, x = .ref p ∧ y = .int i ∧ SqL K H p xs ∧ atI xs i = some v ∧ Q v H
def rIxT (K : PySem.W.Frag) : R2 := fun x y H Q => ∃ p xs i v, x = .ref p ∧ y = .int i ∧ SqT K H p xs ∧ atI xs i = some v ∧ Q v H
def rIxS : R2 := fun x y H Q => ∃ z i c, x = .str z ∧ y = .int i ∧ z.length ≤ sizeLine ∧ atI z.cps.toList i = some c ∧ Q (.str ⟨#[c]⟩) H
theorem ix_list : IxR X (rIxL X.K) := by
  intro value slice pins s σ H x y v u Q I rx ry h hs
  obtain ⟨p, xs, i, z, rfl, rfl, hq, he, q⟩ := h
  cases rx
  obtain ⟨t, rfl⟩ := ry
  obtain ⟨its, r, pl, hz⟩ := I.list hq
  obtain ⟨j, h1, h2, h3, h4, h5⟩ := atI_get he
  obtain ⟨w, ew, rw'⟩ := r.get h2
  have hl := r.length
  have hn := line63
  have fin : EP X pins σ Q w s := ⟨z, H, I, rw', q⟩
  by_cases h0 : 0 ≤ i
  · have hj : i.toNat = j := by
      rw [seqIndex_of h0 h5] at h1
      exact Option.some.inj h1
    exact item_listR pl.isList h0 (by omega) (by rw [hj]; simpa using ew) fin hs
  · have hj : (i + (its.toArray.size : Int)).toNat = j := by
      rw [seqIndex_neg (by omega) h4] at h1
      rw [List.size_toArray, ← hl]
      exact Option.some.inj h1
    exact subscriptTail_builtinR (x := w) pl.isList.typeIs slot_list_getitem.lookup
      (wpAny_getItem_list_neg (Q := fun r s' => r = w ∧ EP X pins σ Q r s') pl.isList (by omega) (by rw [List.size_toArray] <;> omega) (by omega) (by rw [hj]; simpa using ew) ⟨rfl, fin⟩) hs
theorem ix_tup : IxR X (rIxT X.K) := by
  intro value slice pins s σ H x y v u Q I rx ry h hs
  obtain ⟨p, xs, i, z, rfl, rfl, hq, he, q⟩ := h
  cases rx
  obtain ⟨t, rfl⟩ := ry
  obtain ⟨its, r, pl, hz⟩ := I.tuple hq
  obtain ⟨j, h1, h2, h3, h4, h5⟩ := atI_get he
  obtain ⟨w, ew, rw'⟩ := r.get h2
  have hl := r.length
  have hn := line63
  have fin : EP X pins σ Q w s := ⟨z, H, I, rw', q⟩
  exact subscriptTail_builtinR (x := w) pl.typeIs slot_tuple_getitem.lookup
    (getItem_tuple (j := j) (Q := fun r s' => r = w ∧ EP X pins σ Q r s') pl (by omega) (by omega) (by rw [List.size_toArray, ← hl]; exact h1) (by simpa using ew) ⟨rfl, fin⟩) hs
theorem ix_str : IxR X rIxS := by
  intro value slice pins s σ H x y v u Q I rx ry h hs
  obtain ⟨z, i, c, rfl, rfl, hz, he, q⟩ := h
  obtain ⟨t, rfl⟩ := rx
  obtain ⟨t', rfl⟩ := ry
  obtain ⟨j, h1, h2, h3, h4, h5⟩ := atI_get he
  have hl : z.cps.toList.length = z.length := by simp [Str.length]
  rw [hl] at h1 h4 h5
  have hn := line63
  exact tail_any (typeIs_str s z t) slot_str_getitem.lookup (getItem_str (c := c) (by
    have e1 : decide (i < -(2 ^ 63 : Int)) = false := decide_eq_false (by omega)
    have e2 : decide (i ≥ 2 ^ 63) = false := decide_eq_false (by omega)
    rw [e1, e2, Bool.or_false]) (by rw [h1]; simpa using h2) ⟨.str ⟨#[c]⟩, H, I.tok _, ⟨_, rfl⟩, q⟩) hs
theorem mapSeq_set (its : List Value) (n j : Nat) (u : Value) : Obj.mapSeq (·.setIfInBounds j u) { cls := .type "list", data := .seq its.toArray n } = { cls := .type "list", data := .seq (its.set j u).toArray n } := by
  simp [Obj.mapSeq]
theorem Inv.lst {pins : List (Addr × Obj)} {σ : St} {H : Hp} {s : Shared} {p : Addr} {xs : List V} (I : Inv X pins σ H s) (h : H p = some (.lst xs)) :
    ∃ (its : List Value) (n : Nat), Vals xs its ∧ s.heap.get? p = some { cls := .type "list", data := .seq its.toArray n } ∧ xs.length ≤ sizeLine := by
  obtain ⟨z, its, n, r, e⟩ := I.hok p _ h
  exact ⟨its, n, r, e, z⟩
theorem Inv.lstUpd {pins : List (Addr × Obj)} {σ : St} {H : Hp} {s : Shared} {p : Addr} {xs ys : List V} {its its' : List Value} {n n' : Nat} {f : Obj → Obj} (I : Inv X pins σ H s) (h : H p = some (.lst xs))
    (ho : s.heap.get? p = some { cls := .type "list", data := .seq its.toArray n }) (hf : f { cls := .type "list", data := .seq its.toArray n } = { cls := .type "list", data := .seq its'.toArray n' }) (r : Vals ys its') (hz : ys.length ≤ sizeLine) (t : Nat) :
    Inv X pins σ (upd H p (.lst ys)) { s with heap := s.heap.update p f, toks := t } := by
  have e : (s.heap.update p f).get? p = some { cls := .type "list", data := .seq its'.toArray n' } := by
    rw [Heap.get?_update_self f ho (by rw [hf] <;> rfl), hf]
  refine I.write (x := p) (e := p) (by rw [h]; trivial) (.inl rfl) (fun b u hb q => (Heap.get?_update_other _ _ (Ne.symm hb)).trans q) ⟨_, e⟩ ?_
  exact ⟨hz, its', n', r, e⟩
def rSetL : V → V → V → Hp → (Hp → Prop) → Prop := fun o i v H Q => ∃ p xs k j, o = .ref p ∧ i = .int k ∧ H p = some (.lst xs) ∧ ixN xs.length k = some j ∧ Q (upd H p (.lst (xs.set j v)))
theorem set_list : PSet X rSetL := by
  intro pins s σ H o i v ov iv u Q I ro ri rv h
  obtain ⟨p, xs, k, j, rfl, rfl, hp, hj, q⟩ := h
  cases ro
  obtain ⟨t, rfl⟩ := ri
  obtain ⟨its, n, r, ho, hz⟩ := I.lst hp
  obtain ⟨h1, h2, h3, h4⟩ := ixN_seq hj
  have hl := r.length
  have hn := line63
  have I' : Inv X pins σ (upd H p (.lst (xs.set j v))) { s with heap := s.heap.update p (Obj.mapSeq (·.setIfInBounds j u)) } :=
    I.lstUpd hp ho (mapSeq_set its n j u) (r.set rv j) (by rw [List.length_set]; exact hz) s.toks
  by_cases h0 : 0 ≤ k
  · have hk : k.toNat = j := by
      rw [seqIndex_of h0 h4] at h1
      exact Option.some.inj h1
    exact PySem.W.ki_setAt ho h0 (by omega) (by rw [List.size_toArray, ← hl]; exact h4) (by rw [hk]; exact ⟨_, I', q⟩)
  · have hk : (k + (its.toArray.size : Int)).toNat = j := by
      rw [seqIndex_neg (by omega) h3] at h1
      rw [List.size_toArray, ← hl]
      exact Option.some.inj h1
    exact PySem.W.ki_setBack ho (by omega) (by rw [List.size_toArray, ← hl]; exact h3) (by omega) (by rw [hk]; exact ⟨_, I', q⟩)
theorem slice_bounds (lo hi : Option Int) (n : Nat) : (sliceBounds lo hi none n).1 = ((HT.sIx n 0 lo : Nat) : Int) ∧ (sliceBounds lo hi none n).2.1 = ((HT.sIx n n hi : Nat) : Int) ∧ (sliceBounds lo hi none n).2.2 = 1 := by
  refine ⟨?_, ?_, rfl⟩
  · cases lo with
    | none => simp [sliceBounds, HT.sIx]
    | some i =>
      simp only [sliceBounds, HT.sIx, Option.getD_none, show (1 : Int) > 0 by decide, if_true]
      by_cases h : i < 0
      · simp only [h, if_true] <;> omega
      · simp only [h, if_false] <;> omega
  · cases hi with
    | none => simp [sliceBounds, HT.sIx]
    | some i =>
      simp only [sliceBounds, HT.sIx, Option.getD_none, show (1 : Int) > 0 by decide, if_true]
      by_cases h : i < 0
      · simp only [h, if_true] <;> omega
      · simp only [h, if_false] <;> omega
theorem slicePick_cut (its : List Value) (lo hi : Option Int) : slicePick its.toArray lo hi none = ((its.drop (HT.sIx its.length 0 lo)).take (HT.sIx its.length its.length hi - HT.sIx its.length 0 lo)).toArray := by
  obtain ⟨h1, h2, h3⟩ := slice_bounds lo hi its.toArray.size
  unfold slicePick
  rw [h1, h2, h3]
  simp only [sliceRange_one, pick_run, List.size_toArray] <;> rfl
def rSlL (K : PySem.W.Frag) : V → Option Int → Option Int → Hp → VK → Prop := fun x lo hi H Q => ∃ a xs, x = .ref a ∧ SqL K H a xs ∧ ∀ p, H p = none → Q (.ref p) (upd H p (.lst (cutV xs lo hi)))
theorem sl_list : SlR X (rSlL X.K) := by
  intro pins s σ H x v vl vu lo hi sl Q I rx hs pl pu h
  obtain ⟨a, xs, rfl, hx, q⟩ := h
  cases rx
  obtain ⟨its, r, ht, hz⟩ := I.list hx
  have hlen := r.length
  refine ⟨"list", _, slot_list_getitem.lookup, ht.isList.typeIs, ?_⟩
  refine wpAny_getItem_list_slice ht.isList hs pl pu .none (by simp) ?_ (by rw [List.size_toArray] <;> omega)
  rw [slicePick_cut, ← hlen]
  refine ⟨.ref s.heap.objs.size, _, I.laid (t' := s.toks) (o := .lst (cutV xs lo hi)) (fun b ob q => Heap.get?_push_of_some _ q) (Nat.le_refl _) ?_, rfl, q _ (I.hok.fresh (Nat.le_refl _))⟩
  exact ⟨Nat.le_trans (cutV_length xs lo hi) hz, _, 0, (r.drop (HT.sIx xs.length 0 lo)).take (HT.sIx xs.length xs.length hi - HT.sIx xs.length 0 lo), Heap.get?_push_size _ rfl⟩
def flatV : V → Bool
  | .non => true
  | .bl _ => true
  | .int _ => true
  | .str _ => true
  | _ => false
def eqV : V → V → Bool
  | .non, .non => true
  | .bl a, .bl b => a == b
  | .bl a, .int b => (if a then 1 else 0) == b
  | .int a, .bl b => a == (if b then 1 else 0)
  | .int a, .int b => a == b
  | .str a, .str b => a == b
  | _, _ => false
theorem eqAt_V {A : Around} {s : Shared} {y x : V} {u v : Value} (ry : RelV y u) (rx : RelV x v) (fy : flatV y = true) (fx : flatV x = true) : SeqAt.EqAt A s u v (eqV y x) := by
  cases y with
  | non =>
    cases ry
    cases x with
    | non => cases rx; exact SeqAt.EqAt.same _
    | bl b => cases rx; exact SeqAt.EqAt.none_bool b
    | int b => obtain ⟨t, rfl⟩ := rx; exact SeqAt.EqAt.none_int b t
    | str b => obtain ⟨t, rfl⟩ := rx; exact SeqAt.EqAt.none_str b t
    | _ => exact absurd (show false = true from fx) Bool.false_ne_true
  | bl a =>
    cases ry
    cases x with
    | non => cases rx; exact SeqAt.EqAt.bool_none a
    | bl b => cases rx; exact SeqAt.EqAt.bool_bool a b
    | int b => obtain ⟨t, rfl⟩ := rx; exact SeqAt.EqAt.bool_int a b t
    | str b => obtain ⟨t, rfl⟩ := rx; exact SeqAt.EqAt.bool_str a b t
    | _ => exact absurd (show false = true from fx) Bool.false_ne_true
  | int a =>
    obtain ⟨t', rfl⟩ := ry
    cases x with
    | non => cases rx; exact SeqAt.EqAt.int_none a t'
    | bl b => cases rx; exact SeqAt.EqAt.int_bool a t' b
    | int b => obtain ⟨t, rfl⟩ := rx; exact SeqAt.EqAt.int_int a t' b t
    | str b => obtain ⟨t, rfl⟩ := rx; exact SeqAt.EqAt.int_str a t' b t
    | _ => exact absurd (show false = true from fx) Bool.false_ne_true
  | str a =>
    obtain ⟨t', rfl⟩ := ry
    cases x with
    | non => cases rx; exact SeqAt.EqAt.str_none a t'
    | bl b => cases rx; exact SeqAt.EqAt.str_bool a t' b
    | int b => obtain ⟨t, rfl⟩ := rx; exact SeqAt.EqAt.str_int a t' b t
    | str b => obtain ⟨t, rfl⟩ := rx; exact SeqAt.EqAt.str_str a t' b t
    | _ => exact absurd (show false = true from fx) Bool.false_ne_true
  | _ => exact absurd (show false = true from fy) Bool.false_ne_true
theorem call_len_seq : CallR X (.builtin "len") (fun xs H Q => ∃ p ys, xs = [.ref p] ∧ (SqL X.K H p ys ∨ SqT X.K H p ys) ∧ Q (.int ys.length) H) := by
  intro pins s σ H xs us Q I r h
  obtain ⟨p, ys, rfl, hq, q⟩ := h
  obtain ⟨u, rfl, rx⟩ := vals1 r
  cases rx
  have hn := line63
  rcases hq with hq | hq
  · obtain ⟨its, r', pl, hz⟩ := I.list hq
    have hlen := r'.length
    exact Calls.call_len_list pl.isList (by simp only [List.size_toArray] <;> omega) ⟨.int ys.length, H, I.tok _, ⟨s.toks + 1, by rw [List.size_toArray, hlen]⟩, q⟩
  · obtain ⟨its, r', pl, hz⟩ := I.tuple hq
    have hlen := r'.length
    exact len_tuple pl (by simp only [List.size_toArray] <;> omega) ⟨.int ys.length, H, I.tok _, ⟨s.toks + 1, by rw [List.size_toArray, hlen]⟩, q⟩
theorem call_len_str : CallR X (.builtin "len") (fun xs H Q => ∃ z, xs = [.str z] ∧ z.length ≤ sizeLine ∧ Q (.int z.length) H) := by
  intro pins s σ H xs us Q I r h
  obtain ⟨z, rfl, hz, q⟩ := h
  obtain ⟨u, rfl, t, rfl⟩ := vals1 r
  have hn := line63
  exact len_str (by omega) ⟨.int z.length, H, I.tok _, ⟨_, rfl⟩, q⟩
def tyV (K : PySem.W.Frag) (T : String) (x : V) (H : Hp) : Prop := match x with
  | .str _ => T = "str"
  | .int _ => T = "int"
  | .ref p => (T = "list" ∧ ∃ xs, SqL K H p xs) ∨ (T = "tuple" ∧ ∃ o, K.lookup p = some o ∧ o.cls = .type "tuple" ∧ o.dict = none) ∨
      (T = "dict" ∧ ((∃ kvs, H p = some (.dK kvs)) ∨ ∃ kvs, H p = some (.dT kvs))) ∨ (T = "set" ∧ ∃ S n, H p = some (.set S n))
  | _ => False
theorem tyV_is {pins : List (Addr × Obj)} {σ : St} {H : Hp} {s : Shared} {T : String} {x : V} {v : Value} (I : Inv X pins σ H s) (r : RelV x v) (ty : tyV X.K T x H) :
    s.TypeIs v T ∧ ∀ a, v = .ref a → ∃ ob, s.heap.get? a = some ob ∧ ob.dict = none := by
  cases x with
  | str z =>
    obtain ⟨t, rfl⟩ := r
    cases (show T = "str" from ty)
    exact ⟨typeIs_str s z t, fun _ e => nomatch e⟩
  | int i =>
    obtain ⟨t, rfl⟩ := r
    cases (show T = "int" from ty)
    exact ⟨typeIs_int s i t, fun _ e => nomatch e⟩
  | ref p =>
    cases r
    rcases ty with ⟨rfl, xs, hq⟩ | ⟨rfl, o, hk, hc, hd⟩ | ⟨rfl, hk⟩ | ⟨rfl, S, n, hk⟩
    · obtain ⟨its, _, pl, _⟩ := I.list hq
      refine ⟨pl.isList.typeIs, fun a e => ?_⟩
      cases e
      obtain ⟨o, n, e, c, hd, _⟩ := pl
      exact ⟨o, e, hd⟩
    · refine ⟨⟨o, I.kIn p o hk, hc⟩, fun a e => ?_⟩
      cases e
      exact ⟨o, I.kIn _ o hk, hd⟩
    · have z : ∃ o, s.heap.get? p = some o ∧ o.ExactDict := by
        rcases hk with ⟨kvs, hk⟩ | ⟨kvs, hk⟩
        · obtain ⟨_, _, _, _, o, _, _, e, ex, _⟩ := I.hok p _ hk
          exact ⟨o, e, ex⟩
        · obtain ⟨_, _, _, _, o, _, _, e, ex, _⟩ := I.hok p _ hk
          exact ⟨o, e, ex⟩
      obtain ⟨o, e, ex⟩ := z
      refine ⟨⟨o, e, ex.1⟩, fun a e2 => ?_⟩
      cases e2
      exact ⟨o, e, ex.2.1⟩
    · obtain ⟨o, _, _, _, e, ex, _⟩ := I.hok p _ hk
      refine ⟨⟨o, e, ex.1⟩, fun a e2 => ?_⟩
      cases e2
      exact ⟨o, e, ex.2.1⟩
  | _ => exact False.elim ty
def tBM (K : PySem.W.Frag) (T : String) (r : V → List V → Hp → VK → Prop) (to : TE) (t : TA) : TE := fun σ H Q => to σ H fun x H1 => tyV K T x H1 ∧ t σ H1 fun xs H2 => r x xs H2 Q
variable {o e : Expr} {es : List Expr} {to : TE} {t : TA} {name : Str} {apos cpos : Pos} {T id : String} {r : V → List V → Hp → VK → Prop}
theorem pe_bm (pa : PlainAttrs T) (slot : Slot T name id) (hty : typeOf (.builtin id) = pure (.type "method_descriptor")) (hm : MtR X id r) (ho : PE X o to) (ha : PA X (e :: es) t)
    (hbase : attributeBase o name X.env (eval o X.env) = eval o X.env := by rfl)
    (hfew : ((backTo cpos (starEach (e :: es) X.env)).all (fun x => !x.1) && (backToKw cpos (keywordEach [] X.env)).all (fun x => x.1.isSome)
      && decide ((e :: es).length + ([] : List Keyword).length + (if ([] : List Keyword).isEmpty then 0 else 1) < 30)) = true := by rfl)
    (hline : (apos.endLine == cpos.line) = true := by rfl) (hs : starEach (e :: es) X.env = (false, eval e X.env) :: starEach es X.env := by rfl) (hplain : (backTo cpos (starEach es X.env)).any (·.1) = false := by rfl) :
    PE X (.Call (.Attribute o name apos) (e :: es) [] cpos) (tBM X.K T r to t) := by
  intro pins s σ H Q I h
  refine wpAny_Call_method_late hbase hfew hline rfl (thn (ho pins s σ H _ I h) fun v s1 ⟨x, H1, I1, r1, ty, q1⟩ => ?_)
  obtain ⟨h1, h2⟩ := tyV_is I1 r1 ty
  refine ⟨T, id, pa, slot, hty, h1, h2, ?_⟩
  have hA := ha cpos pins s1 σ H1 _ I1 q1
  rw [hs] at hA ⊢
  refine Calls.callWith_builtin (by show (false || (backTo cpos (starEach es X.env)).any (·.1)) = false; rw [hplain] <;> rfl) (Calls.evalArgs_plain ?_)
  exact thn hA fun us s2 ⟨vs, H2, I2, r2, q2⟩ => hm pins s2 σ H2 x vs v us Q I2 r1 r2 q2
end
end L2
namespace L2
open PySem PySem.Spec PyProof.Rows
theorem Vals.one : ∀ {x : V} {us : List Value}, Vals [x] us → ∃ u, us = [u] ∧ RelV x u
  | _, _, .cons r .nil => ⟨_, rfl, r⟩
theorem Vals.two : ∀ {x y : V} {us : List Value}, Vals [x, y] us → ∃ u v, us = [u, v] ∧ RelV x u ∧ RelV y v
  | _, _, _, .cons r (.cons q .nil) => ⟨_, _, rfl, r, q⟩
theorem Vals.zero : ∀ {us : List Value}, Vals [] us → us = []
  | _, .nil => rfl
theorem Vals.rep {xs : List V} {us : List Value} (h : Vals xs us) : ∀ k : Nat, Vals (List.replicate k xs).flatten (List.replicate k us).flatten
  | 0 => .nil
  | k + 1 => by
    rw [List.replicate_succ, List.replicate_succ, List.flatten_cons, List.flatten_cons]
    exact Vals.append h (Vals.rep h k)
theorem foldl_rep (its : List Value) : ∀ (k : Nat) (acc : List Value),
    List.foldl (fun x1 x2 => x1 ++ x2) acc.toArray (List.replicate k its.toArray) = (acc ++ (List.replicate k its).flatten).toArray
  | 0, acc => by simp
  | k + 1, acc => by
    have e : acc.toArray ++ its.toArray = (acc ++ its).toArray := by simp
    have e2 : (acc ++ its) ++ (List.replicate k its).flatten = acc ++ (List.replicate (k + 1) its).flatten := by
      rw [List.replicate_succ, List.flatten_cons, List.append_assoc]
    rw [← e2, ← foldl_rep its k (acc ++ its), ← e, List.replicate_succ, List.foldl_cons]
section
variable {X : Cx} {pins : List (Addr × Obj)} {σ : St} {H : Hp} {s : Shared} {l b : Addr} {xs ys zs : List V}
theorem Inv.lnew {its : List Value} {t' : Nat} (I : Inv X pins σ H s) (hv : Vals ys its) (hz : ys.length ≤ sizeLine) :
    Inv X pins σ (upd H s.heap.objs.size (.lst ys)) { s with heap := s.heap.push { cls := .type "list", data := .seq its.toArray }, toks := t' } :=
  I.laid (fun _ _ q => Heap.get?_push_of_some _ q) (Nat.le_refl _) ⟨hz, its, 0, hv, Heap.get?_push_size _ rfl⟩
theorem Inv.fresh (I : Inv X pins σ H s) : H s.heap.objs.size = none := I.hok.fresh (Nat.le_refl _)
theorem Inv.lstM (I : Inv X pins σ H s) (hH : H l = some (.lst xs)) : xs.length ≤ sizeLine ∧ ∃ (its : List Value) (n : Nat), Vals xs its ∧ xs.length = its.length ∧ s.heap.get? l = some { cls := .type "list", data := .seq its.toArray n } := by
  obtain ⟨z, its, n, r, e⟩ := I.hok l _ hH
  exact ⟨z, its, n, r, r.length, e⟩
theorem notLongL {n : Nat} (h : n ≤ sizeLine) : Builtin.List.listTooLong n = false := by
  unfold Builtin.List.listTooLong
  exact decide_eq_false (by omega)
end
section
variable {X : Cx}
def rCat : R2 := fun x y H Q => ∃ l b xs zs, x = .ref l ∧ y = .ref b ∧ H l = some (.lst xs) ∧ H b = some (.lst zs) ∧ xs.length + zs.length ≤ sizeLine ∧ ∀ p, H p = none → Q (.ref p) (upd H p (.lst (xs ++ zs)))
theorem op_cat : OpR X (binaryOp .Add) rCat := by
  intro pins s σ H x y v u Q I rx ry h
  obtain ⟨l, b, xs, zs, rfl, rfl, hH, hB, hz, q⟩ := h
  cases rx
  cases ry
  obtain ⟨z, its, n, r, hl, e⟩ := I.lstM hH
  obtain ⟨z2, its2, n2, r2, hl2, e2⟩ := I.lstM hB
  refine PySem.P.add_list e e2 ?_ (by rw [List.size_toArray, List.size_toArray]; omega)
  have ea : its.toArray ++ its2.toArray = (its ++ its2).toArray := by simp
  rw [ea]
  exact ⟨.ref _, _, I.lnew (t' := s.toks) (r.append r2) (by rw [List.length_append]; omega), rfl, q _ I.fresh⟩
def rRep : R2 := fun x y H Q => ∃ l k xs, x = .ref l ∧ y = .int k ∧ H l = some (.lst xs) ∧ -(2 ^ 63) ≤ k ∧ k < 2 ^ 63 ∧ xs.length * k.toNat ≤ sizeLine ∧
  ∀ p, H p = none → Q (.ref p) (upd H p (.lst (List.replicate k.toNat xs).flatten))
theorem len_rep {α : Type} (xs : List α) (k : Nat) : (List.replicate k xs).flatten.length = k * xs.length := by
  induction k with
  | zero => simp
  | succ k ih => rw [List.replicate_succ, List.flatten_cons, List.length_append, ih, Nat.succ_mul, Nat.add_comm]
theorem op_rep : OpR X (binaryOp .Mult) rRep := by
  intro pins s σ H x y v u Q I rx ry h
  obtain ⟨l, k, xs, rfl, rfl, hH, h1, h2, hz, q⟩ := h
  cases rx
  obtain ⟨t, rfl⟩ := ry
  obtain ⟨z, its, n, r, hl, e⟩ := I.lstM hH
  have hlen : its.toArray.size * k.toNat ≤ sizeLine := by rw [List.size_toArray, ← hl]; exact hz
  have hcap : ¬ its.toArray.size * k.toNat > (2 ^ 63 - 1) / 8 := by
    have : (sizeLine : Nat) ≤ (2 ^ 63 - 1) / 8 := by decide
    omega
  have hfit : ¬ (!Builtin.List.listFitsIndex k) = true := by
    rw [fitsIndex_both h1 h2]
    exact Bool.false_ne_true
  have hlong : ¬ Builtin.List.listTooLong (its.toArray.size * k.toNat) = true := by
    rw [notLongL hlen]
    exact Bool.false_ne_true
  have hnew : List.foldl (fun x1 x2 => x1 ++ x2) #[] (List.replicate (if its.toArray.isEmpty = true then 0 else k.toNat) its.toArray) = (List.replicate k.toNat its).flatten.toArray := by
    have f0 : ∀ m : Nat, List.foldl (fun x1 x2 => x1 ++ x2) #[] (List.replicate m its.toArray) = (List.replicate m its).flatten.toArray := fun m => by
      have := foldl_rep its m []
      rw [List.nil_append] at this
      exact this
    rw [f0]
    cases its with
    | nil => simp
    | cons a r' => rw [if_neg (by simp)]
  refine wpAny_binaryOp_repeat_ref (T := "list") (U := "int") (by decide) ⟨_, e, rfl⟩ (fun s' => typeIs_int s' k t) noFill_list_mul F.fills_int_mul F.slot_int_rmul repeat_list F.slot_int_index.lookup
    (call_meets F.slot_int_rmul (typeIs_int s k t) F.entry_int_rmul (F.args_int_rmul_2 _ _) (int___rmul___int_list k t l its.toArray n)
      ⟨e, rfl, ⟨_, e, rfl⟩, call_meets F.slot_list_mul ⟨_, e, rfl⟩ F.entry_list_mul (F.args_list_mul_2 _ _) (AutoListH.list___mul___list_int_3 l its.toArray n k t hfit hcap hlong) ⟨e, ?_⟩⟩)
  rw [hnew]
  exact ⟨.ref _, _, I.lnew (t' := s.toks) (r.rep k.toNat) (by rw [len_rep, Nat.mul_comm]; exact hz), rfl, q _ I.fresh⟩
end
section
variable {prog : Program} {w : World} {A : Around} {E : Value → Shared → Prop} {s : Shared}
end
section
variable {X : Cx}
end
end L2
namespace Att
open PySem PySem.W PySem.Calls PyProof.Rows
theorem ints_of_wellAll {P : Params} {h : Heap} : ∀ (ns : List Int) (vs : List Value), WellAll P h vs (ns.map WData.int) → IntsAre vs ns := by
  intro ns
  induction ns with
  | nil =>
    intro vs w
    rw [List.map_nil] at w
    cases w
    exact .nil
  | cons n ns ih =>
    intro vs w
    rw [List.map_cons] at w
    cases w with
    | cons a b =>
      cases a
      exact .cons _ _ (ih _ b)
theorem script_of {l : OpenLaw} {n : Nat} (hn : l.most = some n) {P : Params} {h : Heap} {args : List WData} {vals : List Value}
    (hpre : l.row.toRowW.claim.pre args = true) (hwl : WellAll P h vals args) :
    ∃ a vs ns, vals = [Value.ref a] ∧ args = [WData.list (ns.map WData.int)] ∧ h.get? a = some { cls := .type "list", data := .seq vs.toArray } ∧ IntsAre vs ns ∧ ns.length ≤ n := by
  have hsh : WShape.hasAll [] args [.list .int] = true := (pre_splitW hpre).1
  have hc : l.pre.holds [] { args := args } = true := (pre_splitW hpre).2
  obtain ⟨d, r, rfl, h1, h2⟩ := hasAllW_cons hsh
  obtain rfl := hasAllW_nil h2
  obtain ⟨xs, rfl, h3⟩ := hasW_list h1
  obtain ⟨ns, rfl⟩ := items_int h3
  have hlen : ns.length ≤ n := by
    unfold OpenLaw.pre at hc
    have h4 : (WTm.not (.lt (.lit (.int (n : Int))) (.len (.arg 0)))).holds [] { args := [.list (ns.map .int)] } = true := by
      have h4 := (holds_andW hc).1
      rw [hn] at h4
      exact h4
    have h5 := condW_of h4 (w_not (w_lt w_lit (w_len_list (w_arg rfl))))
    rw [List.length_map] at h5
    refine Nat.le_of_not_lt fun q => ?_
    have q' : (n : Int) < ((ns.length : Nat) : Int) := by omega
    first
      | (rw [decide_eq_true q'] at h5; exact absurd h5 (by decide))
      | (simp at h5; omega)
  cases hwl with
  | cons w1 w2 =>
    cases w2
    cases w1 with
    | list ho hall => exact ⟨_, _, ns, rfl, rfl, ho, ints_of_wellAll ns _ hall, hlen⟩
theorem post_true (l : OpenLaw) (args : List WData) : l.row.toRowW.claim.post args (.bool true) args = true :=
  postW_of (r := l.row.toRowW) (X := (true == true))
    (show WShape.has [] (.bool true) .bool = true by first | rfl | decide | simp [WShape.has, WShape.arms, WShape.armsAll])
    (show (WTm.eq .res (.lit (.bool true))).value [] { args := args, res := some (.bool true), after := args } = some (.bool (true == true)) from w_eq_bool (w_res rfl) w_lit) rfl
section
variable {prog : Program} {w : World} {A : Around} {E : Value → Shared → Prop} {s : Shared} {K : Frag}
end
end Att
namespace L2
open PySem PySem.Spec PyProof.Rows
theorem vals_ints : ∀ {vs : List Value} {ns : List Int}, IntsAre vs ns → Vals (ns.map V.int) vs
  | _, _, .nil => .nil
  | _, _, .cons n t h => .cons ⟨t, rfl⟩ (vals_ints h)
def Only (H : Hp) : Prop := ∀ b, H b = none ∨ ∃ o xs, H b = some (.frz o (.lst xs))
theorem law_call {P : Program} {w : World} {K : PySem.W.Frag} {mg mb : Str → Option Value} {CX : CXT} {k : Nat} {fa a : Addr} {fd : FuncData} {x : Str} {sp : Sp} {s₁ : Shared} {vs : List Value} {ns : List Int}
    (KX : K.In s₁.heap) (hns : s₁.heap.Ns mainGlobals mg) (hb : s₁.heap.Ns builtinsNs mb) (hbb : ∀ x : Str, x ≠ "__name__" → mb x = bootBuiltins x) (hlim : s₁.heap.NoLimit) (hg : s₁.gens = #[])
    (ha : s₁.heap.get? a = some { cls := .type "list", data := .seq vs.toArray }) (hi : IntsAre vs ns) (hl : ns.length ≤ sizeLine) (hr : Room k callerA)
    (F : ∀ base : Heap, K.In base → base.Ns mainGlobals mg → FnOk P w K mg base CX k fa fd [x] sp) (hbind : ∀ (s : Shared) (u : Value), BindsTo s fd ⟨[u], []⟩ [(x, u)])
    (hsp : ∀ H : Hp, Only H → SqL K H a (ns.map V.int) → sp [.ref a] H (fun v _ => v = .bl true) fun _ _ _ => False)
    (hCX : ∀ H e s', CX [] H s₁ (fun _ _ _ => False) e s' → False) :
    codeAny (model P w) callerA (.call (.ref fa) ⟨[.ref a], []⟩) (fun r s' => r = .ok (.ret (.bool true)) ∧ OldK s₁.heap s'.heap ∧ s'.os = s₁.os ∧ AllBare s'.gens) s₁ := by
  have rv := vals_ints hi
  have lenV := hi.length
  have core : ∀ H : Hp, Only H → SqL K H a (ns.map V.int) → HOk P w H s₁.heap → (∀ b, H b ≠ none → b = a) → (H a ≠ none → K.lookup a = none) →
      codeAny (model P w) callerA (.call (.ref fa) ⟨[.ref a], []⟩) (fun r s' => r = .ok (.ret (.bool true)) ∧ OldK s₁.heap s'.heap ∧ s'.os = s₁.os ∧ AllBare s'.gens) s₁ := by
    intro H hO hS hok hA hK
    have base_of : ∀ {b : Addr} {o : Obj}, s₁.heap.get? b = some o → H b = none → (hidT s₁.heap H).get? b = some o := fun e n => hidT_get e n
    have noA : ∀ {b : Addr} {o : Obj} {es : Array DictEntry} {ep : Nat}, s₁.heap.get? b = some o → o.data = .dict es ep → H b = none := fun {b o es ep} e d => by
      cases q : H b with
      | none => rfl
      | some u =>
        have e' : b = a := hA b (by rw [q]; simp)
        subst e'
        rw [ha] at e; cases e
        have d' : Data.seq vs.toArray _ = Data.dict es ep := d
        cases d'
    have nsK : ∀ {b : Addr} {m : Str → Option Value}, s₁.heap.Ns b m → (hidT s₁.heap H).Ns b m := fun {b m} ⟨o, es, ep, e, d, r⟩ => ⟨o, es, ep, base_of e (noA e d), d, r⟩
    have hKb : K.In (hidT s₁.heap H) := fun b o e => base_of (KX b o e) (by
      cases q : H b with
      | none => rfl
      | some u =>
        have e' : b = a := hA b (by rw [q]; simp)
        subst e'
        rw [hK (by rw [q]; simp)] at e; cases e)
    have hM : Mod K mg (hidT s₁.heap H) := ⟨hKb, nsK hns, ⟨mb, nsK hb, hbb⟩, let ⟨mc, h1, h2⟩ := hlim; ⟨mc, nsK h1, h2⟩⟩
    have e0 : Env0 P w K mg (hidT s₁.heap H) callerA [] s₁ H := ⟨rfl, hM, fun b o e => of_hidT e, Nat.le_of_eq (hidT_size _ _), trivial, fun b hb => absurd (show b ∈ ([] : List Addr) from hb) (by simp), hok, .of_eq hg⟩
    refine codeAny_mono ((F _ hKb (nsK hns)).run callerA [] s₁ H ⟨[.ref a], []⟩ [.ref a] [.ref a] _ _ hr e0 (hbind s₁ (.ref a)) (.cons rfl .nil) (hsp H hO hS)) fun r s' h => ?_
    cases r with
    | error e => exact (hCX H e s' h).elim
    | ok fl =>
      cases fl with
      | next => exact False.elim h
      | brk => exact False.elim h
      | cont => exact False.elim h
      | ret u =>
        obtain ⟨v, H', os, bare, un, hok', r', q⟩ := h
        have q' : v = .bl true := q
        subst q'
        obtain rfl : u = Value.bool true := r'
        refine ⟨rfl, OldK.of_keep fun b o e => ?_, os, bare⟩
        cases q : H b with
        | none => exact un.keep b o e q (by intro z; exact absurd (show b ∈ ([] : List Addr) from z) (by simp)) (by simp)
        | some u =>
          rcases hO b with z | ⟨ob, xs, z⟩
          · rw [q] at z; cases z
          · have z2 := un.frzs b ob _ z
            obtain ⟨e1, _⟩ := hok b _ z
            obtain ⟨e2, _⟩ := hok' b _ z2
            rw [e] at e1; cases e1
            exact e2
  cases hk : K.lookup a with
  | some o =>
    have e := KX a o hk
    rw [ha] at e
    cases e
    refine core (fun _ => none) (fun _ => .inl rfl) (.inr ⟨_, vs.toArray, _, hk, rfl, rfl, rfl, by rw [List.size_toArray, lenV]; exact hl, by simpa using rv⟩) (fun b u z => by have z' : (none : Option HO) = some u := z; cases z') (fun b z => absurd rfl z) fun z => absurd rfl z
  | none =>
    refine core (fun b => if b = a then some (.frz { cls := .type "list", data := .seq vs.toArray } (.lst (ns.map V.int))) else none) (fun b => ?_) (.inl (.inr ⟨{ cls := .type "list", data := .seq vs.toArray }, if_pos rfl⟩)) (fun b u z => ?_) (fun b z => ?_) fun _ => hk
    · by_cases hb : b = a
      · exact .inr ⟨_, _, if_pos hb⟩
      · exact .inl (if_neg hb)
    · by_cases hb : b = a
      · have z' := (if_pos hb).symm.trans z
        cases z'
        subst hb
        exact ⟨ha, by rw [List.length_map]; exact hl, vs, _, rv, ha⟩
      · have z' := (if_neg hb).symm.trans z
        cases z'
    · by_cases hb : b = a
      · exact hb
      · exact absurd (if_neg hb) z
end L2
namespace L2
open PySem PySem.Spec PyProof.Rows
end L2
namespace L2
open PySem PySem.Spec PyProof.Rows
def inClass (s : Stmt) (j : Nat) : Stmt := match s with
  | .ClassDef _ _ _ body _ _ _ _ _ _ _ => body.getD j (.Pass ⟨0, 0, 0, 0⟩)
  | _ => .Pass ⟨0, 0, 0, 0⟩
def defArgs (s : Stmt) : Arguments := match s with
  | .FunctionDef _ a _ _ _ _ _ _ _ _ => a
  | _ => { posonlyargs := [], args := [], vararg := none, kwonlyargs := [], kw_defaults := [], kwarg := none, defaults := [] }
def defBody (s : Stmt) : List Stmt := match s with
  | .FunctionDef _ _ b _ _ _ _ _ _ _ => b
  | _ => []
def defScope (s : Stmt) : Scope := match s with
  | .FunctionDef _ _ _ _ _ _ sc _ _ _ => sc
  | _ => { kind := .function, names := [], isGenerator := false, isCoroutine := false }
abbrev CX0 : CXT := fun _ _ _ _ _ _ => False
abbrev E0 : XK := fun _ _ _ => False
theorem pass0 {X : Cx} : Passes CX0 X E0 := fun _ _ _ _ _ _ _ h => h.elim
structure Fun (K : PySem.W.Frag) (x qual : Str) (st : Stmt) (f : Addr) (fd : FuncData) : Prop where
  ex : ∃ (oc : Value) (od : Option Addr) (kV doc pm : Value) (an : Option Addr) (cdv ct : Value) (osl : Array (Option Value)),
    fd = PySem.W.fnOf x qual (defArgs st) (defBody st) (defScope st) .none kV doc pm an cdv ct ∧ K.lookup f = some ⟨oc, od, .func fd, osl⟩ ∧ PySem.W.codeIn K cdv qual = true
  kp : PySem.W.keepIn K (.ref f) = true
section
variable {P : Program} {w : World} {K : PySem.W.Frag} {mg : Str → Option Value} {base : Heap}
theorem Fun.ok {x qual : Str} {st : Stmt} {f : Addr} {fd : FuncData} {N ps : List Str} {k : Nat} {sp : Sp} (F : Fun K x qual st f fd) (S : FnScope N ps (defScope st)) (len : ∀ vs H Q E, sp vs H Q E → vs.length = ps.length)
    (hbody : ∀ (cdv : Value) (A : Around) (outer : List Env) (s : Shared) (H : Hp) (vs : List V) (Q : VK) (E : XK), Room k (A.deeper (envOfC qual (defScope st) s.heap.objs.size f cdv)) → sp vs H Q E →
      ∃ t, PSs (cxOf CX0 P w K mg base N qual (defScope st) f cdv A outer s H E).nox (defBody st) t ∧ t { nx := fun _ H' => Q .non H', rt := Q } (start N vs) H) : FnOk P w K mg base CX0 (k + 1) f fd ps sp := by
  obtain ⟨oc, od, kV, doc, pm, an, cdv, ct, osl, rfl, lk, hcd⟩ := F.ex
  refine fn_of lk hcd S len fun A outer s H vs Q E hr hsp => ?_
  obtain ⟨t, h, q⟩ := hbody cdv A outer s H vs Q E hr hsp
  exact ⟨t, h.nox, q⟩
theorem Fun.binds {x qual : Str} {st : Stmt} {f : Addr} {fd : FuncData} {ps : List Str} (F : Fun K x qual st f fd)
    (h : ∀ (kV doc pm : Value) (an : Option Addr) (cdv ct : Value) (us : List Value), us.length = ps.length → bindArgs (PySem.W.fnOf x qual (defArgs st) (defBody st) (defScope st) .none kV doc pm an cdv ct) ⟨us, []⟩ = pure (ps.zip us)) : Binds K fd ps [] := by
  obtain ⟨oc, od, kV, doc, pm, an, cdv, ct, osl, rfl, lk, hcd⟩ := F.ex
  exact .all (h kV doc pm an cdv ct)
theorem fun_mk {x qual : Str} {st : Stmt} {f : Addr} {oc : Value} {od an : Option Addr} {osl : Array (Option Value)} {kV doc pm cdv ct : Value} (l : K.lookup f = some ⟨oc, od, .func (PySem.W.fnOf x qual (defArgs st) (defBody st) (defScope st) .none kV doc pm an cdv ct), osl⟩)
    (c : PySem.W.codeIn K cdv qual = true) (k : PySem.W.keepIn K (.ref f) = true) : Fun K x qual st f (PySem.W.fnOf x qual (defArgs st) (defBody st) (defScope st) .none kV doc pm an cdv ct) := ⟨⟨oc, od, kV, doc, pm, an, cdv, ct, osl, rfl, l, c⟩, k⟩
end
section
variable {X : Cx}
end
def Same (H H' : Hp) : Prop := ∀ b o, H b = some o → H' b = some o
theorem Same.refl (H : Hp) : Same H H := fun _ _ h => h
theorem Same.trans {H H1 H2 : Hp} (a : Same H H1) (b : Same H1 H2) : Same H H2 := fun c o h => b c o (a c o h)
theorem Same.free {H H' : Hp} (e : Same H H') {l : Addr} (h : H' l = Option.none) : H l = Option.none := by
  cases q : H l with
  | none => rfl
  | some o =>
    rw [e l o q] at h
    cases h
theorem Same.seq {K : PySem.W.Frag} {H H' : Hp} {a : Addr} {xs : List V} (e : Same H H') (h : SqL K H a xs) : SqL K H' a xs := by
  rcases h with (h | ⟨o, h⟩) | h
  · exact .inl (.inl (e _ _ h))
  · exact .inl (.inr ⟨o, e _ _ h⟩)
  · exact .inr h
end L2
namespace L2
open PySem PySem.Spec PyProof.Rows
def Itp (n : Nat) (f : Nat → V) : It := ⟨fun i _ => i < n, fun i H x H' => H' = H ∧ x = f i, fun i _ => n ≤ i⟩
def ownTups : List String := ["enumerate", "zip", "dict_itemiterator", "dict_reverseitemiterator", "odict_iterator", "itertools.zip_longest", "itertools.pairwise"]
theorem turn_pure {P : Program} {w : World} {K : PySem.W.Frag} {tg : Expr} {it : Addr} {n : Nat} {f : Nat → V} {Pw : Nat → Value → Prop} {St : Nat → Heap → Prop}
    (W : ∀ A : Around, A.handled = none → Walks P w A it [it] [it] n Pw St) (hv : ∀ i v, i < n → Pw i v → RelV (f i) v)
    (ho : ∀ i h, St i h → ∃ o nm vs, h.get? it = some o ∧ o.cls = .type nm ∧ o.data = .fields vs ∧ ownTups.contains nm = false)
    (hself : ∀ (A : Around) (i : Nat) (s : Shared) (Q : Value → Shared → Prop) (E : Value → Shared → Prop), St i s.heap → Q (.ref it) s → wpAny (model P w) A (pyIter (.ref it)) Q E s)
    (hkeep : ∀ i h h', St i h → (∀ b ∈ [it], ∀ o, h.get? b = some o → h'.get? b = some o) → St i h') :
    Turn P w K tg (Itp n f) [it] it (fun i h => i ≤ n ∧ St i h) where
  mem := by simp
  obj := fun i h st b hb => by
    have e : b = it := by simpa using hb
    subst e
    obtain ⟨o, nm, vs, e, c, d, _⟩ := ho i h st.2
    exact ⟨o, e, fun v z => by rw [d] at z; cases z⟩
  keep := fun i h h' st k => ⟨st.1, hkeep i h h' st.2 k⟩
  item := by
    intro X hP hw hK hc i pins s σ H E I hf st hg
    subst hP hw hK
    obtain ⟨f0, f1, f2, f3, f4, f5⟩ := hf it (by simp)
    have hi : i < n := hg
    refine (W X.A (I.ok.hd hc)).item i s _ _ hi st.2 fun v h' tk hv' st' kk => ?_
    have I1 : Inv X pins σ H { s with heap := h', toks := tk } := I.turned (fun b o hb e => kk b o (by simpa using hb) e) f0 f1 f3 f4 f5
    obtain ⟨o, nm, vs, e, c, d, hn⟩ := ho _ _ st'
    exact ⟨_, rfl, go_of (s := { s with heap := h', toks := tk }) (n := nm) e c d hn ⟨f i, H, I1, hv i v hi hv', ⟨rfl, rfl⟩, ⟨hi, st'⟩, fun b hb => (hf b hb).1⟩⟩
  done := by
    intro X hP hw hK hc i pins s σ H E I hf st hg
    subst hP hw hK
    obtain ⟨f0, f1, f2, f3, f4, f5⟩ := hf it (by simp)
    have hi : n ≤ i := hg
    have e : i = n := Nat.le_antisymm st.1 hi
    subst e
    exact (W X.A (I.ok.hd hc)).done s _ _ st.2 fun h' tk kk => ⟨rfl, I.turned (fun b o hb e => kk b o (by simpa using hb) e) f0 f1 f3 f4 f5⟩
  self := fun A i s Q E st h => hself A i s Q E st.2 h
def sgn (x : Str) (i : Nat) : V := .str ⟨#[x.cps.getD i 0]⟩
theorem walks_str {P : Program} {w : World} {it : Addr} {x : Str} {t : Tok} (A : Around) (hA : A.handled = none) : Walks P w A it [it] [it] x.cps.size (SignAt x) (fun i h => h.IsStrIter it (strIterType x) x t i) := by
  cases ha : x.cps.all (· < 128)
  · have e : strIterType x = "str_iterator" := by simp [strIterType, ha]
    rw [e]; exact Walks.strWide hA it x t
  · have e : strIterType x = "str_ascii_iterator" := by simp [strIterType, ha]
    rw [e]; exact Walks.strAscii hA it x t
theorem signAt_rel {x : Str} {i : Nat} {v : Value} (h : SignAt x i v) : RelV (sgn x i) v := by
  obtain ⟨c, u, e, rfl⟩ := h
  refine ⟨u, ?_⟩
  have : x.cps.getD i 0 = c := by simp [Array.getD_eq_getD_getElem?, e]
  rw [this]
theorem strIterType_no (x : Str) : ownTups.contains (strIterType x) = false := by
  unfold strIterType; split <;> decide
theorem turn_str {P : Program} {w : World} {K : PySem.W.Frag} {tg : Expr} (it : Addr) (x : Str) (t : Tok) : Turn P w K tg (Itp x.cps.size (sgn x)) [it] it (fun i h => i ≤ x.cps.size ∧ h.IsStrIter it (strIterType x) x t i) := by
  refine turn_pure (Pw := SignAt x) (fun A hA => walks_str A hA) (fun i v _ h => signAt_rel h) (fun i h st => ?_) (fun A i s Q E st h => ?_) (fun i h h' st k => ?_)
  · obtain ⟨o, e, c, d⟩ := st
    exact ⟨o, _, _, e, c, d, strIterType_no x⟩
  · cases ha : x.cps.all (· < 128)
    · have e : strIterType x = "str_iterator" := by simp [strIterType, ha]
      rw [e] at st; exact wpAny_pyIter_striter_wide st h
    · have e : strIterType x = "str_ascii_iterator" := by simp [strIterType, ha]
      rw [e] at st; exact wpAny_pyIter_striter_ascii st h
  · obtain ⟨o, e, r⟩ := st
    exact ⟨o, k it (by simp) o e, r⟩
section
variable {X : Cx} {tg : Expr}
end
end L2
namespace L2
open PySem PySem.Spec PyProof.Rows
section
variable {X : Cx} {elts : List Expr} {kk : Nat} {tpos : Pos}
end
end L2
namespace L2
open PySem PySem.Spec PyProof.Rows
section
variable {prog : Program} {w : World} {A : Around} {R : Result → Shared → Prop} {s : Shared}
end
end L2
namespace L2
open PySem PySem.Spec PyProof.Rows
section
variable {X : Cx} {scope : Scope} {cl : List (Str × Addr)} {lv : List Str} {fr : List (Str × Nat)} {elt tg iter : Expr} {ifs : List Expr} {pos : Pos} {g : TG} {tt : TT} {te : TE}
end
end L2
namespace L2
open PySem PySem.Spec PyProof.Rows
abbrev tx (l : List Nat) : V := .str ⟨l.toArray⟩
def br (b : Bool) (A B : Prop) : Prop := (b = true → A) ∧ (b = false → B)
theorem str_app (a b : Str) : a ++ b = ⟨(a.cps.toList ++ b.cps.toList).toArray⟩ := by
  cases a; cases b
  show Str.mk (_ ++ _) = _
  simp
theorem str_eta (a : Str) : a = ⟨a.cps.toList.toArray⟩ := by cases a; simp
def cutL (l : List Nat) (lo hi : Option Int) : List Nat := (l.drop (HT.sIx l.length 0 lo)).take (HT.sIx l.length l.length hi - HT.sIx l.length 0 lo)
theorem strSl_bounds (lo hi : Option Int) (n : Nat) : Builtin.Str.strSliceIndices lo hi 1 n = sliceRange ((HT.sIx n 0 lo : Nat) : Int) ((HT.sIx n n hi : Nat) : Int) 1 := by
  unfold Builtin.Str.strSliceIndices
  simp only [show (1 : Int) > 0 by decide, if_true]
  congr 1
  · cases lo with
    | none => simp [HT.sIx]
    | some i =>
      simp only [HT.sIx]
      by_cases h : i < 0
      · simp only [h, if_true] <;> omega
      · simp only [h, if_false] <;> omega
  · cases hi with
    | none => simp [HT.sIx]
    | some i =>
      simp only [HT.sIx]
      by_cases h : i < 0
      · simp only [h, if_true] <;> omega
      · simp only [h, if_false] <;> omega
theorem picked_cut (x : Str) (lo hi : Option Int) : (Builtin.Str.strSliceIndices lo hi 1 x.length).filterMap (x.cps[·]?) = cutL x.cps.toList lo hi := by
  rw [strSl_bounds, sliceRange_one, pick_run]
  unfold cutL Str.length
  simp only [Array.length_toList]
theorem cutL_length_le (l : List Nat) (lo hi : Option Int) : (cutL l lo hi).length ≤ l.length := by
  unfold cutL
  rw [List.length_take, List.length_drop]
  omega
theorem cutL_full {l : List Nat} {lo hi : Option Int} (h : (cutL l lo hi).length = l.length) : cutL l lo hi = l := by
  unfold cutL at h ⊢
  rw [List.length_take, List.length_drop] at h
  have h1 : HT.sIx l.length l.length hi ≤ l.length := HT.sIx_le _ _ (Nat.le_refl _) _
  by_cases hl : l.length = 0
  · have : l = [] := List.length_eq_zero_iff.mp hl
    subst this
    simp
  · have h2 : HT.sIx l.length 0 lo = 0 := by omega
    rw [h2, List.drop_zero, List.take_of_length_le]
    omega
section
variable {X : Cx}
def rSlS : V → Option Int → Option Int → Hp → VK → Prop := fun x lo hi H Q => match x with | .str z => z.length ≤ sizeLine ∧ Q (tx (cutL z.cps.toList lo hi)) H | _ => False
theorem isPart_value {v : Value} {o : Option Int} (p : IsPart v o) : ∃ l : Option (Int × Tok), v = partValue l ∧ l.map (·.1) = o := by
  cases p with
  | none => exact ⟨none, rfl, rfl⟩
  | int i t => exact ⟨some (i, t), rfl, rfl⟩
theorem sl_str : SlR X rSlS := by
  intro pins s σ H x v vl vu lo hi sl Q I rx hs pl pu h
  cases x with
  | str z =>
    obtain ⟨hz, q⟩ := h
    obtain ⟨t, rfl⟩ := rx
    obtain ⟨l, rfl, rfl⟩ := isPart_value pl
    obtain ⟨u, rfl, rfl⟩ := isPart_value pu
    refine ⟨"str", _, F.slot_str_getitem.lookup, typeIs_str _ _ _, ?_⟩
    refine wpAny_getItem_str_slice (l := l) (u := u) (st := none) hs rfl ?_
    unfold sliceMade
    have e : slicePicked z l u none = Builtin.Str.strSliceIndices (l.map (·.1)) (u.map (·.1)) 1 z.length := rfl
    rw [e]
    have hlen : (Builtin.Str.strSliceIndices (l.map (·.1)) (u.map (·.1)) 1 z.length).length = (cutL z.cps.toList (l.map (·.1)) (u.map (·.1))).length := by
      rw [strSl_bounds, sliceRange_one, List.length_map, List.length_range]
      unfold cutL
      rw [List.length_take, List.length_drop]
      have h1 : HT.sIx z.length z.length (u.map (·.1)) ≤ z.length := HT.sIx_le _ _ (Nat.le_refl _) _
      have h2 : z.cps.toList.length = z.length := by simp [Str.length]
      rw [h2]
      omega
    split
    · rename_i hc
      have hc' : (cutL z.cps.toList (l.map (·.1)) (u.map (·.1))).length = z.cps.toList.length := by
        rw [← hlen]
        simpa [Str.length] using hc
      rw [cutL_full hc'] at q
      have q' : Q (.str z) H := by rw [str_eta z]; exact q
      exact ⟨.str z, H, I, ⟨_, rfl⟩, q'⟩
    · rw [picked_cut]
      have h3 := cutL_length_le z.cps.toList (l.map (·.1)) (u.map (·.1))
      have h2 : z.cps.toList.length = z.length := by simp [Str.length]
      refine ⟨?_, tx (cutL z.cps.toList (l.map (·.1)) (u.map (·.1))), H, I.tok _, ⟨_, rfl⟩, q⟩
      show (cutL z.cps.toList (l.map (·.1)) (u.map (·.1))).toArray.size ≤ sizeLine
      rw [List.size_toArray]
      exact Nat.le_trans h3 (by rw [h2]; exact hz)
  | _ => exact h.elim
end
end L2
namespace L2
open PySem PySem.Spec PyProof.Rows
def mVar (i : Nat) : TE := fun σ H Q => match σ[i]? with | some (some v) => Q v H | _ => False
section
variable {X : Cx} {a b c : Expr} {ta tb tc : TE} {pos : Pos}
theorem pe_mvar (i : Nat) {x : Str} {pos : Pos} (hN : X.N[i]? = some x := by rfl) (hv : Vis X.env.scope x := by first | exact Or.inl rfl | exact Or.inr (Or.inl rfl) | exact Or.inr (Or.inr rfl)) (hd : (x == ("__debug__" : Str)) = false := by decide)
    (hcd : (x == ("__classdict__" : Str)) = false := by decide) : PE X (.Name x pos) (mVar i) := by
  intro pins s σ H Q I h
  unfold mVar at h
  cases e : σ[i]? with
  | none => rw [e] at h; exact h.elim
  | some o =>
    rw [e] at h
    cases o with
    | none => exact h.elim
    | some v => exact pe_var hN hv hd hcd pins s σ H Q I ⟨v, e, h⟩
theorem pe_txt {x : Str} {l : List Nat} {j pos} (h : x = ⟨l.toArray⟩ := by rfl) : PE X (.Constant (.str x) j pos) (tC (tx l)) := h ▸ pe_str
def mAdd : R2 := fun x y H Q => match x, y with
  | .int i, .int j => Q (.int (i + j)) H
  | .str a, .str b => a.cps.toList.length + b.cps.toList.length ≤ sizeLine ∧ Q (tx (a.cps.toList ++ b.cps.toList)) H
  | .ref a, .ref b => ∃ xs zs, H a = some (.lst xs) ∧ H b = some (.lst zs) ∧ xs.length + zs.length ≤ sizeLine ∧ ∀ p, H p = none → Q (.ref p) (upd H p (.lst (xs ++ zs)))
  | _, _ => False
theorem op_addM : OpR X (binaryOp .Add) mAdd := by
  intro pins s σ H x y v u Q I rx ry h
  cases x <;> cases y <;> first
    | exact h.elim
    | exact op_add pins s σ H _ _ v u Q I rx ry ⟨_, _, rfl, rfl, h⟩
    | exact op_add_str pins s σ H _ _ v u Q I rx ry ⟨_, _, rfl, rfl, by simpa [Str.length] using h.1, by rw [str_app]; exact h.2⟩
    | (obtain ⟨xs, zs, h1, h2, h3, h4⟩ := h; exact op_cat pins s σ H _ _ v u Q I rx ry ⟨_, _, xs, zs, rfl, rfl, h1, h2, h3, h4⟩)
def mI (C : Int → Int → Prop) (g : Int → Int → V) : R2 := fun x y H Q => match x, y with | .int i, .int j => C i j ∧ Q (g i j) H | _, _ => False
def mI0 (g : Int → Int → V) : R2 := fun x y H Q => match x, y with | .int i, .int j => Q (g i j) H | _, _ => False
theorem opM {f : Value → Value → Sem Value} {C : Int → Int → Prop} {g : Int → Int → V} (h : OpR X f (rI C g)) : OpR X f (mI C g) := by
  intro pins s σ H x y v u Q I rx ry q
  cases x <;> cases y <;> first | exact q.elim | exact h pins s σ H _ _ v u Q I rx ry ⟨_, _, rfl, rfl, q.1, q.2⟩
theorem opM0 {f : Value → Value → Sem Value} {g : Int → Int → V} (h : OpR X f (rI0 g)) : OpR X f (mI0 g) := by
  intro pins s σ H x y v u Q I rx ry q
  cases x <;> cases y <;> first | exact q.elim | exact h pins s σ H _ _ v u Q I rx ry ⟨_, _, rfl, rfl, q⟩
abbrev mSub : R2 := mI0 fun i j => .int (i - j)
abbrev mMod : R2 := mI (fun _ j => 0 < j) fun i j => .int (i % j)
abbrev mPow : R2 := mI CPow fun i j => .int (i ^ j.toNat)
theorem op_subM : OpR X (binaryOp .Sub) mSub := opM0 op_sub
theorem op_modM : OpR X (binaryOp .Mod) mMod := opM op_mod
theorem op_powM : OpR X (binaryOp .Pow) mPow := opM op_pow
def mEqB (x y : V) : Option Bool := match x, y with
  | .int i, .int j => some (decide (i = j))
  | .str a, .str b => some (decide (a.cps.toList = b.cps.toList))
  | .bl a, .bl b => some (decide (a = b))
  | .non, .non => some true
  | .non, .int _ => some false | .int _, .non => some false | .non, .bl _ => some false | .bl _, .non => some false | .non, .str _ => some false | .str _, .non => some false
  | .int _, .str _ => some false | .str _, .int _ => some false | .bl _, .str _ => some false | .str _, .bl _ => some false
  | _, _ => none
theorem mEqB_dec {x y : V} {b : Bool} (h : mEqB x y = some b) : scal x y = true ∧ decide (x = y) = b := by
  cases x <;> cases y <;> first
    | (simp [mEqB] at h; done)
    | (refine ⟨rfl, ?_⟩; have h' := Option.some.inj h; rw [← h']; first | rfl | (simp; done))
    | (rename_i a b'
       refine ⟨rfl, ?_⟩
       have h' := Option.some.inj h
       rw [← h', decide_eq_decide]
       constructor
       · intro e; cases e; rfl
       · intro e; rw [str_eta a, str_eta b', e])
def mEq : R2 := fun x y H Q => match mEqB x y with | some b => Q (.bl b) H | none => False
def mNe : R2 := fun x y H Q => match mEqB x y with | some b => Q (.bl (!b)) H | none => False
theorem op_eqM : OpR X (compareOp .Eq) mEq := by
  intro pins s σ H x y v u Q I rx ry h
  unfold mEq at h
  cases e : mEqB x y with
  | none => rw [e] at h; exact h.elim
  | some b =>
    rw [e] at h
    obtain ⟨h1, h2⟩ := mEqB_dec e
    exact op_eq pins s σ H x y v u Q I rx ry ⟨h1, by rw [h2]; exact h⟩
theorem op_neM : OpR X (compareOp .NotEq) mNe := by
  intro pins s σ H x y v u Q I rx ry h
  unfold mNe at h
  cases e : mEqB x y with
  | none => rw [e] at h; exact h.elim
  | some b =>
    rw [e] at h
    obtain ⟨h1, h2⟩ := mEqB_dec e
    exact op_ne pins s σ H x y v u Q I rx ry ⟨h1, by rw [h2]; exact h⟩
abbrev mGe : R2 := mI0 fun i j => .bl (decide (j ≤ i))
theorem op_geM : OpR X (compareOp .GtE) mGe := opM0 op_ge
def mTest (t : TE) : TT := fun σ H Q => t σ H fun x H' => match x with | .bl k => Q k H' | _ => False
theorem PE.imp {e : Expr} {t t' : TE} (h : PE X e t) (hi : ∀ σ H Q, t' σ H Q → t σ H Q) : PE X e t' := fun pins s σ H Q I q => h pins s σ H Q I (hi σ H Q q)
theorem PT.imp {e : Expr} {t t' : TT} (h : PT X e t) (hi : ∀ σ H Q, t' σ H Q → t σ H Q) : PT X e t' := fun pins s σ H Q I q => h pins s σ H Q I (hi σ H Q q)
def mAndV (ta tb : TE) : TE := fun σ H Q => ta σ H fun x H1 => match x with | .bl c => br c (tb σ H1 Q) (Q (.bl false) H1) | _ => False
def mOrV (ta tb : TE) : TE := fun σ H Q => ta σ H fun x H1 => match x with | .bl c => br c (Q (.bl true) H1) (tb σ H1 Q) | _ => False
def mNotV (ta : TE) : TE := fun σ H Q => ta σ H fun x H1 => match x with | .bl c => Q (.bl (!c)) H1 | _ => False
def mOr (t u : TT) : TT := fun σ H Q => t σ H fun c H1 => br c (Q true H1) (u σ H1 Q)
variable {rest : List Expr} {tA tB' : TT}
theorem pe_andM (ha : PE X a ta) (hb : PE X (.BoolOp .And (b :: rest) pos) tb) : PE X (.BoolOp .And (a :: b :: rest) pos) (mAndV ta tb) := by
  intro pins s σ H Q I h
  refine BoolOp_and (thn (ha pins s σ H _ I h) fun v s1 ⟨x, H1, I1, r1, q1⟩ => ?_)
  cases x with
  | bl c =>
    cases r1
    refine wpAny_truthy_bool ?_
    cases c with
    | true => exact hb pins s1 σ H1 Q I1 (q1.1 rfl)
    | false => exact ⟨.bl false, H1, I1, rfl, q1.2 rfl⟩
  | _ => exact q1.elim
theorem pe_orM (ha : PE X a ta) (hb : PE X (.BoolOp .Or (b :: rest) pos) tb) : PE X (.BoolOp .Or (a :: b :: rest) pos) (mOrV ta tb) := by
  intro pins s σ H Q I h
  refine BoolOp_or (thn (ha pins s σ H _ I h) fun v s1 ⟨x, H1, I1, r1, q1⟩ => ?_)
  cases x with
  | bl c =>
    cases r1
    refine wpAny_truthy_bool ?_
    cases c with
    | false => exact hb pins s1 σ H1 Q I1 (q1.2 rfl)
    | true => exact ⟨.bl true, H1, I1, rfl, q1.1 rfl⟩
  | _ => exact q1.elim
theorem pe_notM (ha : PE X a ta) : PE X (.UnaryOp .Not a pos) (mNotV ta) := by
  intro pins s σ H Q I h
  refine UnaryOp_ (thn (ha pins s σ H _ I h) fun v s1 ⟨x, H1, I1, r1, q1⟩ => ?_)
  cases x with
  | bl c => cases r1; exact not_of (wpAny_truthy_bool ⟨.bl (!c), H1, I1, rfl, q1⟩)
  | _ => exact q1.elim
theorem pw_orM (ha : PT X a tA) (hb : PW X (.BoolOp .Or (b :: rest) pos) tB') : PW X (.BoolOp .Or (a :: b :: rest) pos) (mOr tA tB') := by
  intro wh pins s σ H Q I h
  refine isTrue_or (thn (ha pins s σ H _ I h) fun c s1 ⟨H1, I1, q1⟩ => ?_)
  cases c with
  | true => exact ⟨H1, I1, q1.1 rfl⟩
  | false => exact hb wh pins s1 σ H1 Q I1 (q1.2 rfl)
theorem pt_valM {e : Expr} {t : TE} (h : PE X e t) (he : ∀ whole, isTrue e X.env whole = (do let v ← whole; standAt e.pos; holding [v] (truthy v)) := by intro _; rfl) : PT X e (mTest t) := by
  intro pins s σ H Q I hw
  refine isTrue_plain (thn (h pins s σ H _ I hw) fun v s1 ⟨x, H1, I1, r1, q1⟩ => ?_) (he _)
  cases x with
  | bl c => cases r1; exact wpAny_truthy_bool ⟨H1, I1, q1⟩
  | _ => exact q1.elim
theorem pt_cmpM {op : CmpOp} {r : R2} (ho : OpR X (compareOp op) r) (ha : PE X a ta) (hb : PE X b tb) (hm : behindInMarks op b = false := by first | exact nobehind _ (by decide) (by decide) | rfl) : PT X (.Compare a [op] [b] pos) (mTest (tOp r ta tb)) := by
  intro pins s σ H Q I hw
  refine wpAny_isTrue_Compare1 (binT ha hb I hw fun v u s2 x y H2 I2 rx ry q => ?_) hm
  refine thn (ho pins s2 σ H2 x y v u _ I2 rx ry q) fun c s3 ⟨z, H3, I3, r3, q3⟩ => ?_
  cases z with
  | bl k => cases r3; exact wpAny_truthy_bool ⟨H3, I3, q3⟩
  | _ => exact q3.elim
theorem pe_cmpM {op : CmpOp} {r : R2} (ho : OpR X (compareOp op) r) (ha : PE X a ta) (hb : PE X b tb) (hm : behindInMarks op b = false := by first | exact nobehind _ (by decide) (by decide) | rfl) : PE X (.Compare a [op] [b] pos) (tOp r ta tb) := pe_cmpR ho ha hb hm
def mIfS (c : TT) (t u : TS) : TS := fun D σ H => c σ H fun b H1 => br b (t D σ H1) (u D σ H1)
theorem ps_ifM {c : Expr} {a b : List Stmt} {tc : TT} {t u : TS} (hc : PT X c tc) (ha : PSs X a t) (hb : PSs X b u) : PS X (.If c a b pos) (mIfS tc t u) := by
  intro pins s σ H D I h
  refine wpAny_If (thn (hc pins s σ H _ I h) fun d s1 ⟨H1, I1, q1⟩ => ?_)
  cases d with
  | true => exact ha pins s1 σ H1 D I1 (q1.1 rfl)
  | false => exact hb pins s1 σ H1 D I1 (q1.2 rfl)
end
end L2
namespace L2
open PySem PySem.Spec PyProof.Rows
section
variable {X : Cx} {a b c e o : Expr} {es : List Expr} {ta tb tc : TE} {t : TA} {pos : Pos}
def mIx (K : PySem.W.Frag) : R2 := fun x y H Q => match y with
  | .int i => (match x with
    | .ref p => ∃ xs, (SqL K H p xs ∨ SqT K H p xs) ∧ (match atI xs i with | some v => Q v H | none => False)
    | .str z => z.cps.toList.length ≤ sizeLine ∧ (match atI z.cps.toList i with | some c => Q (tx [c]) H | none => False)
    | _ => False)
  | _ => False
theorem ix_M : IxR X (mIx X.K) := by
  intro value slice pins s σ H x y v u Q I rx ry h hs0
  unfold mIx at h
  cases y with
  | int i =>
    cases x with
    | ref p =>
      obtain ⟨xs, hs, h⟩ := h
      cases ev : atI xs i with
      | none => rw [ev] at h; exact h.elim
      | some w' =>
        rw [ev] at h
        rcases hs with hs | hs
        · exact ix_list value slice pins s σ H _ _ v u Q I rx ry ⟨p, xs, i, w', rfl, rfl, hs, ev, h⟩ hs0
        · exact ix_tup value slice pins s σ H _ _ v u Q I rx ry ⟨p, xs, i, w', rfl, rfl, hs, ev, h⟩ hs0
    | str z =>
      obtain ⟨hz, h⟩ := h
      cases ev : atI z.cps.toList i with
      | none => rw [ev] at h; exact h.elim
      | some w' =>
        rw [ev] at h
        exact ix_str value slice pins s σ H _ _ v u Q I rx ry ⟨z, i, w', rfl, rfl, by simpa [Str.length] using hz, ev, h⟩ hs0
    | _ => exact h.elim
  | _ => exact h.elim
def mSl (K : PySem.W.Frag) : V → Option Int → Option Int → Hp → VK → Prop := fun x lo hi H Q => match x with
  | .str z => z.cps.toList.length ≤ sizeLine ∧ Q (tx (cutL z.cps.toList lo hi)) H
  | .ref a => ∃ xs, SqL K H a xs ∧ ∀ p, H p = none → Q (.ref p) (upd H p (.lst (cutV xs lo hi)))
  | _ => False
theorem sl_M : SlR X (mSl X.K) := by
  intro pins s σ H x v vl vu lo hi sl Q I rx hs pl pu h
  unfold mSl at h
  cases x with
  | str z => exact sl_str pins s σ H _ v vl vu lo hi sl Q I rx hs pl pu ⟨by simpa [Str.length] using h.1, h.2⟩
  | ref p =>
    obtain ⟨xs, h1, h2⟩ := h
    exact sl_list pins s σ H _ v vl vu lo hi sl Q I rx hs pl pu ⟨p, xs, rfl, h1, h2⟩
  | _ => exact h.elim
def mPart (t : TE) : TO := fun σ H Q => t σ H fun x H1 => match x with | .int i => Q (some i) H1 | _ => False
theorem po_M (h : PE X e ta) : PO X (some e) (mPart ta) := by
  intro pins s σ H Q I hw
  rw [evalPart_some]
  refine thn (h pins s σ H _ I hw) fun u s1 ⟨x, H1, I1, r1, q1⟩ => ?_
  cases x with
  | int i => obtain ⟨t, rfl⟩ := r1; exact ⟨some i, H1, I1, .int i t, q1⟩
  | _ => exact q1.elim
def mLen (K : PySem.W.Frag) : List V → Hp → VK → Prop := fun xs H Q => match xs with
  | [.str z] => z.cps.toList.length ≤ sizeLine ∧ Q (.int z.cps.toList.length) H
  | [.ref p] => ∃ ys, (SqL K H p ys ∨ SqT K H p ys) ∧ Q (.int ys.length) H
  | _ => False
theorem call_lenM : CallR X (.builtin "len") (mLen X.K) := by
  intro pins s σ H xs us Q I r h
  unfold mLen at h
  split at h
  · exact call_len_str pins s σ H _ us Q I r ⟨_, rfl, by simpa [Str.length] using h.1, by simpa [Str.length] using h.2⟩
  · obtain ⟨ys, h1, h2⟩ := h
    exact call_len_seq pins s σ H _ us Q I r ⟨_, ys, rfl, h1, h2⟩
  · exact h.elim
def tyS (K : PySem.W.Frag) (H : Hp) : V → String → Prop := fun x T => match x with
  | .non => T = "NoneType" | .bl _ => T = "bool" | .int _ => T = "int" | .str _ => T = "str"
  | .ref p => (T = "list" ∧ ∃ xs, H p = some (.lst xs)) ∨ (T = "tuple" ∧ ∃ xs, H p = some (.tup xs))
  | _ => False
theorem tyS_of {K : PySem.W.Frag} {H : Hp} {x : V} {T : String} (h : tyS K H x T) : TyOf K H x (.type T) := by
  unfold tyS at h
  cases x with
  | non => subst h; exact .non
  | bl b => subst h; exact .bl b
  | int i => subst h; exact .int i
  | str z => subst h; exact .str z
  | ref p =>
    rcases h with ⟨rfl, xs, h⟩ | ⟨rfl, xs, h⟩
    · exact .lst h
    · exact .tup h
  | _ => exact h.elim
def isaB (T c : String) : Option Bool :=
  if T = c then some true else if T = "bool" ∧ c = "int" then some true
  else if (T = "bool" ∨ T = "int" ∨ T = "str" ∨ T = "list" ∨ T = "tuple" ∨ T = "NoneType") ∧ (c = "bool" ∨ c = "int" ∨ c = "str" ∨ c = "list" ∨ c = "tuple" ∨ c = "dict") then some false else none
theorem kit_isa {K : PySem.W.Frag} {T c : String} {b : Bool} (h : isaB T c = some b) : PySem.W.kitOne K (.type T) (.type c) = some b := by
  unfold isaB at h
  split at h
  · rename_i e; subst e; cases h
    unfold PySem.W.kitOne
    rw [if_pos (by simp)]
  · split at h
    · rename_i e; obtain ⟨rfl, rfl⟩ := e; cases h; rfl
    · split at h
      · rename_i h1 h2 e
        cases h
        obtain ⟨e1, e2⟩ := e
        rcases e1 with rfl | rfl | rfl | rfl | rfl | rfl <;> rcases e2 with rfl | rfl | rfl | rfl | rfl | rfl <;> first | rfl | exact absurd rfl h1 | exact absurd ⟨rfl, rfl⟩ h2
      · cases h
def mIsa (K : PySem.W.Frag) : List V → Hp → VK → Prop := fun xs H Q => match xs with
  | [.int _, .ty c] => (match isaB "int" c with | some b => Q (.bl b) H | none => False)
  | [.bl _, .ty c] => (match isaB "bool" c with | some b => Q (.bl b) H | none => False)
  | [.str _, .ty c] => (match isaB "str" c with | some b => Q (.bl b) H | none => False)
  | [.non, .ty c] => (match isaB "NoneType" c with | some b => Q (.bl b) H | none => False)
  | [.ref p, .ty c] => ∃ T, tyS K H (.ref p) T ∧ (match isaB T c with | some b => Q (.bl b) H | none => False)
  | _ => False
theorem call_isa : CallR X (.builtin "isinstance") (mIsa X.K) := by
  intro pins s σ H xs us Q I r h
  have key : ∀ (x : V) (T c : String), xs = [x, .ty c] → tyS X.K H x T → (match isaB T c with | some b => Q (.bl b) H | none => False) → wpAny (model X.prog X.w) X.A (call (.builtin "isinstance") us) (EP X pins σ Q) X.xe s := by
    intro x T c e ht hq
    subst e
    obtain ⟨u, w', rfl, r1, r2⟩ := vals2 r
    cases r2
    cases eb : isaB T c with
    | none => rw [eb] at hq; exact hq.elim
    | some b =>
      rw [eb] at hq
      exact isinst_ok I r1 (tyS_of ht) (kit_isa eb) fun tk => ⟨.bl b, H, I.tok tk, rfl, hq⟩
  unfold mIsa at h
  split at h
  · exact key _ "int" _ rfl rfl h
  · exact key _ "bool" _ rfl rfl h
  · exact key _ "str" _ rfl rfl h
  · exact key _ "NoneType" _ rfl rfl h
  · obtain ⟨T, h1, h2⟩ := h
    exact key _ T _ rfl h1 h2
  · exact h.elim
end
end L2
namespace L2
open PySem PySem.Spec PyProof.Rows
def Gd (P : Program) (w : World) (K : PySem.W.Frag) (mg : Str → Option Value) (base : Heap) (CX : CXT) (k : Nat) (x : Str) (ps : List Str) (sp : Sp) : Prop :=
  ∃ f fd, FnOk P w K mg base CX k f fd ps sp ∧ mg x = some (.ref f) ∧ PySem.W.keepIn K (.ref f) = true ∧ Binds K fd ps []
abbrev Gb (mg : Str → Option Value) (x : Str) : Prop := mg x = none
section
variable {X : Cx} {CX : CXT} {k : Nat} {x : Str} {ps : List Str} {sp : Sp} {p pos : Pos} {e : Expr} {es : List Expr} {t : TA} {tg : Expr}
theorem pe_callG (G : Gd X.prog X.w X.K X.mg X.base CX0 k x ps sp) (hr : Room k X.A) (ha : PA X (e :: es) t) (hg : Gl X x := by rfl) (hdb : (x == ("__debug__" : Str)) = false := by decide)
    (he : starEach (e :: es) X.env = (false, eval e X.env) :: starEach es X.env := by rfl) (hpl : (backTo pos (starEach es X.env)).any (·.1) = false := by rfl) :
    PE X (.Call (.Name x p) (e :: es) [] pos) (tCall sp [] E0 t) := by
  obtain ⟨f, fd, F, hm, hk, hb⟩ := G
  exact pe_call F hr hg hm hk hb .nil pass0 ha hdb he hpl
theorem pe_ty (T : String) (hm : Gb X.mg x) (hg : Gl X x := by rfl) (hv : bootBuiltins x = some (.type T) := by rfl) (hn : x ≠ "__name__" := by decide) (hd : (x == ("__debug__" : Str)) = false := by decide) : PE X (.Name x pos) (tC (.ty T)) :=
  pe_bltn hg hm hv rfl hn hd
theorem pe_bf {id : String} {r : List V → Hp → VK → Prop} (hc : CallR X (.builtin id) r) (hm : Gb X.mg x) (ha : PA X (e :: es) t) (hg : Gl X x := by rfl) (hv : bootBuiltins x = some (.builtin id) := by rfl) (hn : x ≠ "__name__" := by decide) (hdb : (x == ("__debug__" : Str)) = false := by decide)
    (hs : starEach (e :: es) X.env = (false, eval e X.env) :: starEach es X.env := by rfl) (hpl : (backTo pos (starEach es X.env)).any (·.1) = false := by rfl) : PE X (.Call (.Name x p) (e :: es) [] pos) (tCB r t) :=
  pe_callB hc hg hm hv ha hn hdb hs hpl
theorem pe_sm {o : Expr} {to : TE} {name : Str} {id : String} {r : V → List V → Hp → VK → Prop} {apos cpos : Pos} (slot : Slot "str" name id) (hty : typeOf (.builtin id) = pure (.type "method_descriptor")) (hm : MtR X id r) (ho : PE X o to) (ha : PA X (e :: es) t)
    (h1 : attributeBase o name X.env (eval o X.env) = eval o X.env := by rfl) (h2 : ((((backTo cpos (starEach (e :: es) X.env)).all fun x => !x.fst) && (backToKw cpos (keywordEach [] X.env)).all fun x => x.fst.isSome) && decide (((e :: es).length + ([] : List Keyword).length + if ([] : List Keyword).isEmpty = true then 0 else 1) < 30)) = true := by rfl)
    (h3 : (apos.endLine == cpos.line) = true := by rfl) (h4 : starEach (e :: es) X.env = (false, eval e X.env) :: starEach es X.env := by rfl) (h5 : ((backTo cpos (starEach es X.env)).any fun x => x.fst) = false := by rfl) :
    PE X (.Call (.Attribute o name apos) (e :: es) [] cpos) (tBM X.K "str" r to t) := pe_bm PySem.F.plainAttrs_str slot hty hm ho ha h1 h2 h3 h4 h5
def iAny (K : PySem.W.Frag) (tl : TE) : TI := fun σ H R => tl σ H fun x H1 => match x with
  | .str z => R (Itp z.cps.toList.length (fun i => tx [z.cps.toList.getD i 0])) H1
  | .ref a => ((∃ xs, SqL K H1 a xs) ∧ R (Itl K a) H1) ∨ ((∃ xs, SqT K H1 a xs) ∧ R (Itt K a) H1)
  | _ => False
theorem sgn_tx (z : Str) : sgn z = fun i => tx [z.cps.toList.getD i 0] := by
  funext i
  unfold sgn
  simp [Array.getD_eq_getD_getElem?, List.getD_eq_getElem?_getD]
theorem pi_any {l : Expr} {tl : TE} (hl : PE X l tl) : PI X tg l (iAny X.K tl) := by
  intro pins s σ H R I h
  refine thn (hl pins s σ H _ I h) fun v s1 ⟨x, H1, I1, r1, q1⟩ => ?_
  have pt : ∀ (v : V), PE X l (tC v) → PE X l (tC v) := fun _ h => h
  cases x with
  | str z =>
    obtain ⟨t, rfl⟩ := r1
    refine wpAny_pyIter_strU ?_
    have q : R (Itp z.cps.size (sgn z)) H1 := by
      have e : z.cps.toList.length = z.cps.size := by simp
      rw [sgn_tx, ← e]
      exact q1
    refine ⟨s1.heap.objs.size, [s1.heap.objs.size], _, _, H1, rfl, I1.kept (t' := s1.toks) fun b o e => Heap.get?_push_of_some _ e, turn_str _ z t, ⟨Nat.zero_le _, ⟨_, Heap.get?_push_size _ rfl, rfl, rfl⟩⟩, fun b hb => ?_, q⟩
    have e : b = s1.heap.objs.size := by simpa using hb
    subst e
    exact I1.fpOk (Nat.le_refl _) (I1.hok.fresh (Nat.le_refl _))
  | ref a =>
    cases r1
    rcases q1 with ⟨⟨xs, hq⟩, q⟩ | ⟨⟨xs, hq⟩, q⟩
    · obtain ⟨its, rv, p, hz⟩ := I1.list hq
      refine wpAny_pyIter_list p.isList ?_
      refine ⟨s1.heap.objs.size, [s1.heap.objs.size], _, _, H1, rfl, I1.kept (t' := s1.toks) fun b o e => Heap.get?_push_of_some _ e, turn_list a _, ⟨_, Heap.get?_push_size _ rfl, rfl, rfl⟩, fun b hb => ?_, q⟩
      have e : b = s1.heap.objs.size := by simpa using hb
      subst e
      exact I1.fpOk (Nat.le_refl _) (I1.hok.fresh (Nat.le_refl _))
    · obtain ⟨its, rv, p, hz⟩ := I1.tuple hq
      refine wpAny_pyIter_tuple (show s1.heap.IsTuple a its.toArray from p) ?_
      refine ⟨s1.heap.objs.size, [s1.heap.objs.size], _, _, H1, rfl, I1.kept (t' := s1.toks) fun b o e => Heap.get?_push_of_some _ e, turn_tuple a _, ⟨_, Heap.get?_push_size _ rfl, rfl, rfl⟩, fun b hb => ?_, q⟩
      have e : b = s1.heap.objs.size := by simpa using hb
      subst e
      exact I1.fpOk (Nat.le_refl _) (I1.hok.fresh (Nat.le_refl _))
  | _ => exact q1.elim
def mRng1 (ta : TA) : TI := fun σ H R => ta σ H fun vs H1 => match vs with | [.int j] => -(2 ^ 62) ≤ j ∧ j < 2 ^ 62 ∧ R (Itr 0 j.toNat) H1 | _ => False
theorem PI.imp {iter : Expr} {wi wi' : TI} (h : PI X tg iter wi) (hi : ∀ σ H R, wi' σ H R → wi σ H R) : PI X tg iter wi' := fun pins s σ H R I q => h pins s σ H R I (hi σ H R q)
end
section
variable {X : Cx} {tg : Expr}
theorem pi_rngM1 {a : Expr} {ta : TA} {p pos : Pos} (hm : Gb X.mg "range") (ha : PA X [a] ta) (hg : Gl X "range" := by rfl) (hs : starEach [a] X.env = [(false, eval a X.env)] := by rfl) : PI X tg (.Call (.Name "range" p) [a] [] pos) (mRng1 ta) := by
  intro pins s σ H R I h
  refine Call_ (ld_blt I hg hm boot_range (PyProof.Rows.callWith_type1 (thn (ha pos pins s σ H _ I h) fun us s1 ⟨vs, H1, I1, r1, q1⟩ => ?_) hs rfl))
  dsimp only at q1
  split at q1
  · obtain ⟨q2, q3, q⟩ := q1
    cases r1 with
    | cons r rr =>
      cases rr
      obtain ⟨t, rfl⟩ := r
      exact call_range_1 (range_it I1 (by omega) (by omega) q2 q3 (by simpa using q))
  · exact q1.elim
variable {elts : List Expr} {kk : Nat} {tpos : Pos}
end
theorem same_new {H : Hp} {p : Addr} (h : H p = none) (o : HO) : Same H (upd H p o) := fun b u q => by rw [upd_ne (ne_of_none q h)]; exact q
theorem Same.tup {K : PySem.W.Frag} {H H' : Hp} {a : Addr} {xs : List V} (e : Same H H') (h : SqT K H a xs) : SqT K H' a xs := by
  rcases h with (h | ⟨o, h⟩) | h
  · exact .inl (.inl (e _ _ h))
  · exact .inl (.inr ⟨o, e _ _ h⟩)
  · exact .inr h
end L2
namespace L2
open PySem PySem.Spec PyProof.Rows
theorem small_n {n : Nat} (h : n ≤ 100000) : n ≤ sizeLine := by rw [sizeLine_eq]; omega
end L2
namespace L2
open PySem PySem.Spec PyProof.Rows
section
variable {X : Cx} {tg : Expr}
def mSet : TSet := fun o i v H Q => match i with
  | .int k => (match o with
    | .ref p => ∃ xs, H p = some (.lst xs) ∧ (match ixN xs.length k with | some j => Q (upd H p (.lst (xs.set j v))) | none => False)
    | _ => False)
  | _ => False
theorem set_M : PSet X mSet := by
  intro pins s σ H o i v ov iv u Q I ro ri rv h
  unfold mSet at h
  cases i with
  | int k =>
    cases o with
    | ref p =>
      obtain ⟨xs, h1, h⟩ := h
      cases e : ixN xs.length k with
      | none => rw [e] at h; exact h.elim
      | some j =>
        rw [e] at h
        exact set_list pins s σ H _ _ v ov iv u Q I ro ri rv ⟨p, xs, k, j, rfl, rfl, h1, e, h⟩
    | _ => exact h.elim
  | _ => exact h.elim
theorem ixN_lt {n : Nat} {k : Int} (h0 : 0 ≤ k) (h1 : k < n) : ixN n k = some k.toNat := by unfold ixN; rw [if_pos h0, if_pos h1]
def strI (i : Int) : List Nat := (Str.ofString (toString i)).cps.toList
def mStr : List V → Hp → VK → Prop := fun xs H Q => match xs with | [.int i] => i.natAbs.log2 < 1920 ∧ Q (tx (strI i)) H | _ => False
theorem call_strM : CallR X (.type "str") mStr := by
  intro pins s σ H xs us Q I r h
  unfold mStr at h
  split at h
  · rename_i i
    refine call_str_int pins s σ H _ us Q I r ⟨i, rfl, h.1, ?_⟩
    have e : tx (strI i) = V.str (Str.ofString (toString i)) := by unfold strI tx; rw [← str_eta]
    rw [← e]
    exact h.2
  · exact h.elim
def mZfill : V → List V → Hp → VK → Prop := fun x xs H Q => match x, xs with | .str l, [.int i] => PadOk i = true ∧ Q (tx (Txt.zfill l i).cps.toList) H | _, _ => False
theorem mt_zfill : MtR X "str.zfill" mZfill := by
  intro pins s σ H x xs v us Q I rx rv h
  unfold mZfill at h
  split at h
  · rename_i l i
    obtain ⟨k, rfl⟩ := rx
    obtain ⟨u, rfl, ru⟩ := rv.one
    obtain ⟨k', rfl⟩ := ru
    exact SC.zfill h.1 fun t' k => ⟨tx (Txt.zfill l i).cps.toList, H, I.tok _, ⟨t', by rw [← str_eta]⟩, h.2⟩
  · exact h.elim
end
section
variable {X : Cx} {x : Str} {p pos : Pos} {e : Expr} {es : List Expr} {t : TA}
theorem pe_tf (T : String) {r : List V → Hp → VK → Prop} (hc : CallR X (.type T) r) (hm : Gb X.mg x) (ha : PA X (e :: es) t) (hg : Gl X x := by rfl) (hv : bootBuiltins x = some (.type T) := by rfl) (hn : x ≠ "__name__" := by decide) (hdb : (x == ("__debug__" : Str)) = false := by decide)
    (hs : starEach (e :: es) X.env = (false, eval e X.env) :: starEach es X.env := by rfl) (hpl : (backTo pos (starEach es X.env)).any (·.1) = false := by rfl) : PE X (.Call (.Name x p) (e :: es) [] pos) (tCB r t) :=
  pe_callTy hc hg hm hv ha hn hdb hs hpl
end
def digs : Nat → Nat → List Nat
  | 0, _ => []
  | w + 1, n => digs w (n / 10) ++ [48 + n % 10]
theorem digs_length : ∀ (w n : Nat), (digs w n).length = w
  | 0, _ => rfl
  | w + 1, n => by rw [digs, List.length_append, digs_length w]; rfl
theorem digs_zero : ∀ (w : Nat), digs w 0 = List.replicate w 48
  | 0 => rfl
  | w + 1 => by rw [digs, digs_zero w, List.replicate_succ']
end L2
namespace L2
open PySem PySem.Spec PyProof.Rows
def dg (m : Nat) : List Nat := (Nat.toDigits 10 m).map Char.toNat
theorem strI_nat (m : Nat) : strI (m : Int) = dg m := PySem.W.KIN.signs_num m
theorem digit_code : ∀ d : Nat, d < 10 → (Nat.digitChar d).toNat = 48 + d := by decide
theorem dg_lt {m : Nat} (h : m < 10) : dg m = [48 + m] := by
  unfold dg
  rw [Nat.toDigits_of_lt_base h]
  show [(Nat.digitChar m).toNat] = _
  rw [digit_code m h]
theorem dg_ge {m : Nat} (h : ¬ m < 10) : dg m = dg (m / 10) ++ [48 + m % 10] := by
  unfold dg
  have hm : m % 10 < 10 := Nat.mod_lt m (by decide)
  have t : Nat.toDigits 10 (m / 10) ++ Nat.toDigits 10 (m % 10) = Nat.toDigits 10 (10 * (m / 10) + m % 10) := Nat.toDigits_append_toDigits (by decide) (by omega) hm
  rw [Nat.div_add_mod] at t
  rw [← t, List.map_append, Nat.toDigits_of_lt_base hm]
  show _ ++ [(Nat.digitChar (m % 10)).toNat] = _
  rw [digit_code _ hm]
theorem dg_pad : ∀ (w m : Nat), m < 10 ^ (w + 1) → (dg m).length ≤ w + 1 ∧ List.replicate (w + 1 - (dg m).length) 48 ++ dg m = digs (w + 1) m
  | w, m, h => by
    by_cases hm : m < 10
    · rw [dg_lt hm]
      refine ⟨by show 1 ≤ w + 1; omega, ?_⟩
      rw [digs, show m / 10 = 0 by omega, digs_zero, show m % 10 = m by omega]
      rfl
    · cases w with
      | zero => exact absurd h (by simpa using hm)
      | succ w =>
        have hd : m / 10 < 10 ^ (w + 1) := by
          rw [Nat.div_lt_iff_lt_mul (by decide)]
          rw [Nat.pow_succ] at h
          exact h
        obtain ⟨h1, h2⟩ := dg_pad w (m / 10) hd
        rw [dg_ge hm]
        refine ⟨by rw [List.length_append]; show _ + 1 ≤ _; omega, ?_⟩
        have e : digs (w + 1 + 1) m = digs (w + 1) (m / 10) ++ [48 + m % 10] := rfl
        rw [e, ← h2, List.append_assoc, List.length_append]
        have e2 : w + 1 + 1 - ((dg (m / 10)).length + [48 + m % 10].length) = w + 1 - (dg (m / 10)).length := by
          show w + 1 + 1 - ((dg (m / 10)).length + 1) = _
          omega
        rw [e2]
theorem dg_head (m : Nat) : ∃ c r, dg m = c :: r ∧ 48 ≤ c := by
  induction m using Nat.strongRecOn with
  | _ m ih =>
    by_cases h : m < 10
    · exact ⟨48 + m, [], dg_lt h, by omega⟩
    · obtain ⟨c, r, e, hc⟩ := ih (m / 10) (by omega)
      exact ⟨c, r ++ [48 + m % 10], by rw [dg_ge h, e]; rfl, hc⟩
theorem zfill_digs {w m : Nat} (hw : 1 ≤ w) (h : m < 10 ^ w) : (Txt.zfill ⟨(dg m).toArray⟩ (w : Int)).cps.toList = digs w m := by
  obtain ⟨w', rfl⟩ : ∃ w', w = w' + 1 := ⟨w - 1, by omega⟩
  obtain ⟨h1, h2⟩ := dg_pad w' m h
  have hl : (⟨(dg m).toArray⟩ : Str).length = (dg m).length := by simp [Str.length]
  unfold Txt.zfill
  rw [hl]
  by_cases he : ((w' + 1 : Nat) : Int) ≤ ((dg m).length : Int)
  · rw [if_pos he]
    have e : (dg m).length = w' + 1 := by omega
    rw [← h2, e, Nat.sub_self]
    simp
  · rw [if_neg he]
    obtain ⟨c, r, ec, hc⟩ := dg_head m
    have e : zfilled ⟨(dg m).toArray⟩ ((((w' + 1 : Nat) : Int)).toNat - (dg m).length) = Builtin.Str.padded ⟨(dg m).toArray⟩ ((((w' + 1 : Nat) : Int)).toNat - (dg m).length) 0 48 := by
      unfold zfilled
      have e0 : ((⟨(dg m).toArray⟩ : Str).cps)[0]? = some c := by rw [ec]; simp
      rw [e0]
      split
      · rename_i h'; cases h'; omega
      · rename_i h'; cases h'; omega
      · rfl
    rw [e]
    unfold Builtin.Str.padded
    rw [← h2]
    simp
theorem digs_front : ∀ (j n : Nat), digs (j + 1) n = (48 + n / 10 ^ j % 10) :: digs j n
  | 0, n => by simp [digs]
  | j + 1, n => by
    have e : digs (j + 1 + 1) n = digs (j + 1) (n / 10) ++ [48 + n % 10] := rfl
    rw [e, digs_front j (n / 10), Nat.div_div_eq_div_mul]
    have e2 : 10 * 10 ^ j = 10 ^ (j + 1) := by rw [Nat.pow_succ, Nat.mul_comm]
    rw [e2]
    rfl
end L2
namespace L2
open PySem PySem.Spec PyProof.Rows
end L2
namespace L2
open PySem PySem.Spec PyProof.Rows
structure FlyX (x T C : Addr) (H : Hp) (hb h : Heap) : Prop where
  obj : ∃ oe vs a0 oT ts, h.get? x = some oe ∧ (oe.cls = .ref C ∧ vs[0]? = some a0) ∧ oe.data = .fields vs ∧ vs[1]? = some (.ref T) ∧ T ≠ x ∧ h.get? T = some oT ∧ oT.data = .fields ts ∧ ts[3]? = some .none
  hx : H x = none
  hT : H T = none
  nx : hb.get? x = none
  nT : hb.get? T = none
def CXx (P : Program) (w : World) : CXT := fun outer H s E e s' => ∃ x T C H', e = .ref x ∧ s'.os = s.os ∧ AllBare s'.gens ∧ Un (frs outer) [] H H' s.heap s'.heap ∧ HOk P w H' s'.heap ∧
  FlyX x T C H' s.heap s'.heap ∧ E (.ref C) none H'
theorem HOk.at_ {P : Program} {w : World} {H : Hp} {h : Heap} {a : Addr} {o : HO} (x : HOk P w H h) (e : H a = some o) : ∃ u, h.get? a = some u := by
  have q := x a o e
  clear e x
  induction o with
  | lst xs => obtain ⟨_, _, _, _, e⟩ := q; exact ⟨_, e⟩
  | tup xs => obtain ⟨_, _, _, o, e, _⟩ := q; exact ⟨_, e⟩
  | dK kvs => obtain ⟨_, _, _, _, o, _, _, e, _⟩ := q; exact ⟨_, e⟩
  | dT kvs => obtain ⟨_, _, _, _, o, _, _, e, _⟩ := q; exact ⟨_, e⟩
  | set S n => obtain ⟨o, _, _, _, e, _⟩ := q; exact ⟨_, e⟩
  | ins C dx fs => obtain ⟨_, _, _, e, _⟩ := q; exact ⟨_, e⟩
  | own y => obtain ⟨_, e⟩ := q; exact ⟨_, e⟩
  | xd fs => obtain ⟨_, ⟨_, _, _, e, _⟩, _⟩ := q; exact ⟨_, e⟩
  | rng lo hi => obtain ⟨_, _, _, e⟩ := q; exact ⟨_, e⟩
  | frz ob u _ => obtain ⟨e, _⟩ := q; exact ⟨_, e⟩
  | tbl ps => exact ⟨_, (show h.get? a = some _ from q)⟩
  | met f y => exact ⟨_, (show h.get? a = some _ from q)⟩
  | ext φ => obtain ⟨_, ⟨_, e⟩, _⟩ := q; exact ⟨_, e⟩
section
variable {X : Cx} {pins : List (Addr × Obj)} {σ : St} {H : Hp} {s : Shared}
end
section
variable {P : Program} {w : World} {K : PySem.W.Frag} {mg : Str → Option Value} {base : Heap} {N : List Str} {qual : Str} {scope : Scope} {f : Addr} {cd : Value} {A : Around} {outer : List Env} {s0 : Shared} {H0 : Hp} {E : XK}
end
end L2
namespace L2
open PySem PySem.Spec PyProof.Rows
def gA (K : PySem.W.Frag) (x : Str) : Addr := match PySem.W.nsIn K mainGlobals x with | some (some (.ref c)) => c | _ => 0
theorem gA_of {K : PySem.W.Frag} {x : Str} {c : Addr} (h : PySem.W.nsIn K mainGlobals x = some (some (.ref c))) : gA K x = c := by unfold gA; rw [h]
section
variable {X : Cx} {E : XK} {C : Addr} {x : Str} {e : Expr} {es : List Expr} {t : TA} {np cpos pos : Pos}
end
section
variable {X : Cx} {a : Expr} {ta : TE} {pos : Pos}
end
end L2
namespace LX
open PySem PySem.W PySem.Calls PyProof.Rows Builtin Builtin.ObjectAttr Builtin.Getset_descriptor
section
variable {prog : Program} {w : World} {A : Around} {K : Frag} {x D : Addr}
end
end LX
namespace L2
open PySem PySem.Spec PyProof.Rows
end L2
namespace L2
open PySem PySem.Spec PyProof.Rows
section
variable {X : Cx} {k : Nat} {x : Str} {ps : List Str} {sp : Sp} {E : XK} {p pos : Pos} {e : Expr} {es : List Expr} {t : TA}
end
def XP (X : Cx) (pins : List (Addr × Obj)) (W : St → XK) (e : Value) (s' : Shared) : Prop := ∃ σ' Hb sb, Inv X pins σ' Hb sb ∧ CXx X.prog X.w X.stack Hb sb (W σ') e s'
abbrev TX := Ends → (St → XK) → St → Hp → Prop
theorem PA.nox {X : Cx} {es : List Expr} {t : TA} (h : PA X.nox es t) : PA X es t := fun pos pins s σ H Q I hw =>
  wpAny_mono (h pos pins s σ H Q (I.wish _) hw) (fun _ _ ⟨v, H', I', r, q⟩ => ⟨v, H', I'.unwish, r, q⟩) fun _ _ z => False.elim z
section
variable {X : Cx} {st : Stmt} {rest : List Stmt} {t u : TX} {k : Nat} {x : Str} {ps : List Str} {sp : Sp} {p pos pos' : Pos} {e : Expr} {es : List Expr} {ta : TA}
end
section
variable {X : Cx} {pins : List (Addr × Obj)} {σ : St} {Hb H' : Hp} {sb s1 : Shared} {x T C : Addr}
end
end L2
namespace L2
open PySem PySem.Spec PyProof.Rows
section
variable {X : Cx} {body : List Stmt} {tb : TX} {ts : TS} {S : Addr} {sx n : Str} {i : Nat} {b₀ : Stmt} {suite : List Stmt} {np hpos pos : Pos}
end
end L2
namespace L2
open PySem PySem.Spec PyProof.Rows
structure RoomN (k : Nat) (A : Around) : Prop where
  dp : A.depth + 3 * k + 5 < recursionLimit
  un : A.units + 16 * k + 200 < cLine
theorem Room.n {k : Nat} {A : Around} (r : Room k A) : RoomN k A := ⟨r.dp, r.un⟩
theorem RoomN.mono {j k : Nat} {A : Around} (r : RoomN k A) (h : j ≤ k) : RoomN j A := ⟨by have := r.dp; omega, by have := r.un; omega⟩
theorem RoomN.deeper {k : Nat} {A : Around} (r : RoomN (k + 1) A) (env : Env) : RoomN k (A.deeper env) := ⟨by have := r.dp; show A.depth + 1 + 3 * k + 5 < _; omega, by have := r.un; show A.units + 3 + 16 * k + 200 < _; omega⟩
structure FnOkN (P : Program) (w : World) (K : PySem.W.Frag) (mg : Str → Option Value) (base : Heap) (k : Nat) (f : Addr) (fd : FuncData) (ps : List Str) (sp : Sp) : Prop where
  len : ∀ vs H Q E, sp vs H Q E → vs.length = ps.length
  run : ∀ (A : Around) (outer : List Env) (s : Shared) (H : Hp) (args : Args) (us : List Value) (vs : List V) (Q : VK) (E : XK), RoomN k A → Env0 P w K mg base A outer s H → BindsTo s fd args (ps.zip us) → Vals vs us → sp vs H Q E →
    codeAny (model P w) A (.call (.ref f) args) (CR CX0 outer P w H s Q E) s
theorem FnOkN.ok {P : Program} {w : World} {K : PySem.W.Frag} {mg : Str → Option Value} {base : Heap} {k : Nat} {f : Addr} {fd : FuncData} {ps : List Str} {sp : Sp} (F : FnOkN P w K mg base k f fd ps sp) : FnOk P w K mg base CX0 k f fd ps sp :=
  ⟨F.len, fun A outer s H args us vs Q E hr => F.run A outer s H args us vs Q E hr.n⟩
section
variable {P : Program} {w : World} {K : PySem.W.Frag} {mg : Str → Option Value} {base : Heap}
end
def GdN (P : Program) (w : World) (K : PySem.W.Frag) (mg : Str → Option Value) (base : Heap) (k : Nat) (x : Str) (ps : List Str) (sp : Sp) : Prop :=
  ∃ f fd, FnOkN P w K mg base k f fd ps sp ∧ mg x = some (.ref f) ∧ PySem.W.keepIn K (.ref f) = true ∧ Binds K fd ps []
theorem GdN.g {P : Program} {w : World} {K : PySem.W.Frag} {mg : Str → Option Value} {base : Heap} {k : Nat} {x : Str} {ps : List Str} {sp : Sp} (G : GdN P w K mg base k x ps sp) : Gd P w K mg base CX0 k x ps sp := by
  obtain ⟨f, fd, F, r⟩ := G
  exact ⟨f, fd, F.ok, r⟩
section
variable {X : Cx} {k : Nat} {x : Str} {ps : List Str} {sp : Sp} {p pos : Pos} {e : Expr} {es : List Expr} {t : TA}
end
end L2
namespace L2
open PySem PySem.Spec PyProof.Rows
section
variable {X : Cx} {k : Nat} {x : Str} {ps : List Str} {sp : Sp} {p pos pos' : Pos} {e : Expr} {es : List Expr} {ta : TA} {i : Nat} {y : Str} {py : Pos}
end
def SG : List Nat := [32, 48, 49, 50, 51, 52, 53, 54, 55, 56, 57, 65, 66, 67, 68, 69, 70, 71, 72, 73, 74, 75, 76, 77, 78, 79, 80, 81, 82, 83, 84, 85, 86, 87, 88, 89, 90]
def rk (l : List Nat) : Option Nat := match l with | [c] => SG.findIdx? (· == c) | _ => none
end L2
namespace L2
open PySem PySem.Spec PyProof.Rows
section
variable {X : Cx}
end
section
variable {X : Cx}
end
inductive EqD (K : PySem.W.Frag) (H : Hp) : Nat → V → V → Bool → Prop
  | flat {x y : V} (hx : flatV x = true) (hy : flatV y = true) : EqD K H 0 x y (eqV x y)
  | lst {n : Nat} {p q : Addr} {xs ys : List V} (e : Nat → Bool) (hp : SqL K H p xs) (hq : SqL K H q ys) (hl : xs.length = ys.length) (h : ∀ (i : Nat) x y, xs[i]? = some x → ys[i]? = some y → EqD K H n x y (e i)) : EqD K H (n + 1) (.ref p) (.ref q) ((List.range xs.length).all e)
  | lstN {n : Nat} {p q : Addr} {xs ys : List V} (hp : SqL K H p xs) (hq : SqL K H q ys) (hl : xs.length ≠ ys.length) : EqD K H n (.ref p) (.ref q) false
  | tup {n : Nat} {p q : Addr} {xs ys : List V} (e : Nat → Bool) (hp : SqT K H p xs) (hq : SqT K H q ys) (h : ∀ (i : Nat) x y, xs[i]? = some x → ys[i]? = some y → EqD K H n x y (e i)) : EqD K H (n + 1) (.ref p) (.ref q) ((List.range (min xs.length ys.length)).all e && xs.length == ys.length)
  | lt {n : Nat} {p q : Addr} {xs ys : List V} (hp : SqL K H p xs) (hq : SqT K H q ys) : EqD K H n (.ref p) (.ref q) false
  | tl {n : Nat} {p q : Addr} {xs ys : List V} (hp : SqT K H p xs) (hq : SqL K H q ys) : EqD K H n (.ref p) (.ref q) false
  | lf {n : Nat} {p : Addr} {xs : List V} {y : V} (hp : SqL K H p xs) (hy : flatV y = true) : EqD K H n (.ref p) y false
  | fl {n : Nat} {p : Addr} {xs : List V} {y : V} (hp : SqL K H p xs) (hy : flatV y = true) : EqD K H n y (.ref p) false
  | tf {n : Nat} {p : Addr} {xs : List V} {y : V} (hp : SqT K H p xs) (hy : flatV y = true) : EqD K H n (.ref p) y false
  | ft {n : Nat} {p : Addr} {xs : List V} {y : V} (hp : SqT K H p xs) (hy : flatV y = true) : EqD K H n y (.ref p) false
  | up {n : Nat} {x y : V} {b : Bool} (h : EqD K H n x y b) : EqD K H (n + 1) x y b
section
variable {X : Cx} {pins : List (Addr × Obj)} {σ : St} {H : Hp} {s : Shared}
theorem vals_at {xs : List V} {us : List Value} (r : Vals xs us) {i : Nat} (h : i < us.toArray.size) : ∃ x, xs[i]? = some x ∧ RelV x us.toArray[i] := by
  have hi : i < us.length := by simpa using h
  have hl := r.length
  obtain ⟨u, hu, ru⟩ := r.get (List.getElem?_eq_getElem (show i < xs.length by omega))
  refine ⟨_, List.getElem?_eq_getElem (by omega), ?_⟩
  rw [List.getElem?_eq_getElem hi] at hu
  cases hu
  simpa using ru
theorem eqd_same (I : Inv X pins σ H s) {n : Nat} {x y : V} {b : Bool} (h : EqD X.K H n x y b) : x = y → b = true := by
  induction h with
  | flat hx hy =>
    rename_i x y
    rintro rfl
    cases x <;> first | (cases hx; done) | (simp [eqV]; done) | rfl
  | lst e hp hq hl h ih =>
    rename_i n p q xs ys
    intro e0
    cases e0
    have exy := I.list_inj hp hq
    subst exy
    rw [List.all_eq_true]
    intro i hi
    have hi := List.mem_range.mp hi
    exact ih i _ _ (List.getElem?_eq_getElem hi) (List.getElem?_eq_getElem hi) rfl
  | lstN hp hq hl =>
    intro e0
    cases e0
    exact absurd (by rw [I.list_inj hp hq]) hl
  | tup e hp hq h ih =>
    rename_i n p q xs ys
    intro e0
    cases e0
    have exy := I.tuple_inj hp hq
    subst exy
    rw [Bool.and_eq_true, List.all_eq_true]
    refine ⟨?_, by simp⟩
    intro i hi
    have hi := List.mem_range.mp hi
    have hi : i < xs.length := by omega
    exact ih i _ _ (List.getElem?_eq_getElem hi) (List.getElem?_eq_getElem hi) rfl
  | lt hp hq =>
    intro e0
    cases e0
    obtain ⟨its, r1, p1, z1⟩ := I.list hp
    obtain ⟨its2, r2, p2, z2⟩ := I.tuple hq
    exact absurd rfl (SeqAt.ne_of_list_tuple p1.isList p2)
  | tl hp hq =>
    intro e0
    cases e0
    obtain ⟨its, r1, p1, z1⟩ := I.tuple hp
    obtain ⟨its2, r2, p2, z2⟩ := I.list hq
    exact absurd rfl (SeqAt.ne_of_list_tuple p2.isList p1)
  | lf hp hy => rintro rfl; cases hy
  | fl hp hy => rintro rfl; cases hy
  | tf hp hy => rintro rfl; cases hy
  | ft hp hy => rintro rfl; cases hy
  | up h ih => exact ih
theorem eqd_rc (I : Inv X pins σ H s) {n : Nat} {x y : V} {b : Bool} (h : EqD X.K H n x y b) : ∀ (A : Around) (v u : Value), A.units + n < cLine → RelV x v → RelV y u →
    SeqAt.EqAt A s v u b ∧ (∀ p q, x = .ref p → y = .ref q → SeqAt.RcAt A s v u b) := by
  induction h with
  | flat hx hy =>
    intro A v u _ rx ry
    refine ⟨eqAt_V rx ry hx hy, fun p q e _ => ?_⟩
    subst e; cases hx
  | lst e hp hq hl h ih =>
    rename_i n p q xs ys
    intro A v u hu rx ry
    cases rx; cases ry
    obtain ⟨its, r1, p1, z1⟩ := I.list hp
    obtain ⟨its2, r2, p2, z2⟩ := I.list hq
    have l1 := r1.length
    have l2 := r2.length
    have rc : SeqAt.RcAt A s (.ref p) (.ref q) ((List.range xs.length).all e) := by
      have := SeqAt.RcAt.lists (A := A) (e := e) p1.isList p2.isList (by simp only [List.size_toArray]; omega) (by omega) (fun j h1 h2 => by
        obtain ⟨x, ex, rx⟩ := vals_at r1 h1
        obtain ⟨y, ey, ry⟩ := vals_at r2 h2
        exact (ih j x y ex ey A.in1 _ _ (by show A.units + 1 + n < _; omega) rx ry).1)
      rw [List.size_toArray, ← l1] at this
      exact this
    refine ⟨?_, fun _ _ _ _ => rc⟩
    by_cases hpq : p = q
    · subst hpq
      have exy := I.list_inj hp hq
      subst exy
      have : (List.range xs.length).all e = true := by
        rw [List.all_eq_true]
        intro i hi
        have hi := List.mem_range.mp hi
        exact eqd_same I (h i _ _ (List.getElem?_eq_getElem hi) (List.getElem?_eq_getElem hi)) rfl
      rw [this]
      exact SeqAt.EqAt.same _
    · exact .of_refs hpq rc
  | lstN hp hq hl =>
    rename_i n p q xs ys
    intro A v u hu rx ry
    cases rx; cases ry
    obtain ⟨its, r1, p1, z1⟩ := I.list hp
    obtain ⟨its2, r2, p2, z2⟩ := I.list hq
    have l1 := r1.length
    have l2 := r2.length
    have rc : SeqAt.RcAt A s (.ref p) (.ref q) false := SeqAt.RcAt.lists_lengths p1.isList p2.isList (by simp only [List.size_toArray, bne_iff_ne, ne_eq]; omega) (by omega)
    refine ⟨.of_refs (fun e => ?_) rc, fun _ _ _ _ => rc⟩
    subst e
    exact hl (by rw [I.list_inj hp hq])
  | tup e hp hq h ih =>
    rename_i n p q xs ys
    intro A v u hu rx ry
    cases rx; cases ry
    obtain ⟨its, r1, p1, z1⟩ := I.tuple hp
    obtain ⟨its2, r2, p2, z2⟩ := I.tuple hq
    have l1 := r1.length
    have l2 := r2.length
    have rc : SeqAt.RcAt A s (.ref p) (.ref q) ((List.range (min xs.length ys.length)).all e && xs.length == ys.length) := by
      have := SeqAt.RcAt.tuples (A := A) (e := e) (show s.heap.IsTuple p its.toArray from p1) (show s.heap.IsTuple q its2.toArray from p2) (by omega) (fun j h1 h2 => by
        obtain ⟨x, ex, rx⟩ := vals_at r1 h1
        obtain ⟨y, ey, ry⟩ := vals_at r2 h2
        exact (ih j x y ex ey A.in1 _ _ (by show A.units + 1 + n < _; omega) rx ry).1)
      rw [List.size_toArray, List.size_toArray, ← l1, ← l2] at this
      exact this
    refine ⟨?_, fun _ _ _ _ => rc⟩
    by_cases hpq : p = q
    · subst hpq
      have exy := I.tuple_inj hp hq
      subst exy
      have : ((List.range (min xs.length xs.length)).all e && xs.length == xs.length) = true := by
        rw [Bool.and_eq_true, List.all_eq_true]
        refine ⟨?_, by simp⟩
        intro i hi
        have hi := List.mem_range.mp hi
        have hi : i < xs.length := by omega
        exact eqd_same I (h i _ _ (List.getElem?_eq_getElem hi) (List.getElem?_eq_getElem hi)) rfl
      rw [this]
      exact SeqAt.EqAt.same _
    · exact .of_refs hpq rc
  | lt hp hq =>
    intro A v u hu rx ry
    cases rx; cases ry
    obtain ⟨its, r1, p1, z1⟩ := I.list hp
    obtain ⟨its2, r2, p2, z2⟩ := I.tuple hq
    exact ⟨.list_tuple p1.isList p2 (by omega), fun _ _ _ _ => .list_tuple p1.isList p2 (by omega)⟩
  | tl hp hq =>
    intro A v u hu rx ry
    cases rx; cases ry
    obtain ⟨its, r1, p1, z1⟩ := I.tuple hp
    obtain ⟨its2, r2, p2, z2⟩ := I.list hq
    exact ⟨.tuple_list p1 p2.isList (by omega), fun _ _ _ _ => .tuple_list p1 p2.isList (by omega)⟩
  | lf hp hy =>
    rename_i n p xs y
    intro A v u hu rx ry
    cases rx
    obtain ⟨its, r1, p1, z1⟩ := I.list hp
    refine ⟨?_, fun _ _ _ e => by subst e; cases hy⟩
    cases y with
    | non => cases ry; exact .list_none p1.isList (by omega)
    | bl b => cases ry; exact .list_bool b p1.isList (by omega)
    | int b => obtain ⟨t, rfl⟩ := ry; exact .list_int b t p1.isList (by omega)
    | str b => obtain ⟨t, rfl⟩ := ry; exact .list_str b t p1.isList (by omega)
    | _ => cases hy
  | fl hp hy =>
    rename_i n p xs y
    intro A v u hu rx ry
    cases ry
    obtain ⟨its, r1, p1, z1⟩ := I.list hp
    refine ⟨?_, fun _ _ e _ => by subst e; cases hy⟩
    cases y with
    | non => cases rx; exact .none_list p1.isList (by omega)
    | bl b => cases rx; exact .bool_list b p1.isList (by omega)
    | int b => obtain ⟨t, rfl⟩ := rx; exact .int_list b t p1.isList (by omega)
    | str b => obtain ⟨t, rfl⟩ := rx; exact .str_list b t p1.isList (by omega)
    | _ => cases hy
  | tf hp hy =>
    rename_i n p xs y
    intro A v u hu rx ry
    cases rx
    obtain ⟨its, r1, p1, z1⟩ := I.tuple hp
    refine ⟨?_, fun _ _ _ e => by subst e; cases hy⟩
    cases y with
    | non => cases ry; exact .tuple_none p1 (by omega)
    | bl b => cases ry; exact .tuple_bool b p1 (by omega)
    | int b => obtain ⟨t, rfl⟩ := ry; exact .tuple_int b t p1 (by omega)
    | str b => obtain ⟨t, rfl⟩ := ry; exact .tuple_str b t p1 (by omega)
    | _ => cases hy
  | ft hp hy =>
    rename_i n p xs y
    intro A v u hu rx ry
    cases ry
    obtain ⟨its, r1, p1, z1⟩ := I.tuple hp
    refine ⟨?_, fun _ _ e _ => by subst e; cases hy⟩
    cases y with
    | non => cases rx; exact .none_tuple p1 (by omega)
    | bl b => cases rx; exact .bool_tuple b p1 (by omega)
    | int b => obtain ⟨t, rfl⟩ := rx; exact .int_tuple b t p1 (by omega)
    | str b => obtain ⟨t, rfl⟩ := rx; exact .str_tuple b t p1 (by omega)
    | _ => cases hy
  | up h ih =>
    intro A v u hu rx ry
    exact ih A v u (by omega) rx ry
end
section
variable {X : Cx}
def mEqK (K : PySem.W.Frag) : R2 := fun x y H Q => match x, y with
  | .ref p, .ref q => ∃ n b, n ≤ 50 ∧ EqD K H n (.ref p) (.ref q) b ∧ Q (.bl b) H
  | _, _ => mEq x y H Q
def mNeK (K : PySem.W.Frag) : R2 := fun x y H Q => match x, y with
  | .ref p, .ref q => ∃ n b, n ≤ 50 ∧ EqD K H n (.ref p) (.ref q) b ∧ Q (.bl (!b)) H
  | _, _ => mNe x y H Q
theorem op_eqK (hu : X.A.units + 60 < cLine) : OpR X (compareOp .Eq) (mEqK X.K) := by
  intro pins s σ H x y v u Q I rx ry h
  unfold mEqK at h
  split at h
  · rename_i p q
    obtain ⟨n, b, hn, h, q⟩ := h
    have := (eqd_rc I h X.A v u (by omega) rx ry).2 _ _ rfl rfl
    exact this X.prog X.w X.xe _ ⟨.bl b, H, I, rfl, q⟩
  · exact op_eqM pins s σ H x y v u Q I rx ry h
end
section
variable {X : Cx} {pins : List (Addr × Obj)} {σ : St} {H : Hp} {s : Shared}
theorem eqd_ne (I : Inv X pins σ H s) {n : Nat} {x y : V} {b : Bool} (h : EqD X.K H n x y b) : ∀ (A : Around) (v u : Value), A.units + n < cLine → RelV x v → RelV y u → ∀ p q, x = .ref p → y = .ref q → SeqAt.RcNeAt A s v u (!b) := by
  induction h with
  | flat hx hy => intro A v u _ rx ry p q e _; subst e; cases hx
  | lst e hp hq hl h ih =>
    rename_i n p q xs ys
    intro A v u hu rx ry _ _ _ _
    cases rx; cases ry
    obtain ⟨its, r1, p1, z1⟩ := I.list hp
    obtain ⟨its2, r2, p2, z2⟩ := I.list hq
    have l1 := r1.length
    have l2 := r2.length
    have := SeqAt.RcNeAt.lists (A := A) (e := e) p1.isList p2.isList (by simp only [List.size_toArray]; omega) (by omega) (fun j h1 h2 => by
      obtain ⟨x, ex, rx⟩ := vals_at r1 h1
      obtain ⟨y, ey, ry⟩ := vals_at r2 h2
      exact (eqd_rc I (h j x y ex ey) A.in1 _ _ (by show A.units + 1 + n < _; omega) rx ry).1)
    rw [List.size_toArray, ← l1] at this
    exact this
  | lstN hp hq hl =>
    intro A v u hu rx ry _ _ _ _
    cases rx; cases ry
    obtain ⟨its, r1, p1, z1⟩ := I.list hp
    obtain ⟨its2, r2, p2, z2⟩ := I.list hq
    have l1 := r1.length
    have l2 := r2.length
    exact SeqAt.RcNeAt.lists_lengths p1.isList p2.isList (by simp only [List.size_toArray, bne_iff_ne, ne_eq]; omega) (by omega)
  | tup e hp hq h ih =>
    rename_i n p q xs ys
    intro A v u hu rx ry _ _ _ _
    cases rx; cases ry
    obtain ⟨its, r1, p1, z1⟩ := I.tuple hp
    obtain ⟨its2, r2, p2, z2⟩ := I.tuple hq
    have l1 := r1.length
    have l2 := r2.length
    have := SeqAt.RcNeAt.tuples (A := A) (e := e) (show s.heap.IsTuple p its.toArray from p1) (show s.heap.IsTuple q its2.toArray from p2) (by omega) (fun j h1 h2 => by
      obtain ⟨x, ex, rx⟩ := vals_at r1 h1
      obtain ⟨y, ey, ry⟩ := vals_at r2 h2
      exact (eqd_rc I (h j x y ex ey) A.in1 _ _ (by show A.units + 1 + n < _; omega) rx ry).1)
    rw [List.size_toArray, List.size_toArray, ← l1, ← l2] at this
    exact this
  | lt hp hq =>
    intro A v u hu rx ry _ _ _ _
    cases rx; cases ry
    obtain ⟨its, r1, p1, z1⟩ := I.list hp
    obtain ⟨its2, r2, p2, z2⟩ := I.tuple hq
    exact .list_tuple p1.isList p2 (by omega)
  | tl hp hq =>
    intro A v u hu rx ry _ _ _ _
    cases rx; cases ry
    obtain ⟨its, r1, p1, z1⟩ := I.tuple hp
    obtain ⟨its2, r2, p2, z2⟩ := I.list hq
    exact .tuple_list p1 p2.isList (by omega)
  | lf hp hy => intro A v u hu rx ry _ _ _ e; subst e; cases hy
  | fl hp hy => intro A v u hu rx ry _ _ e _; subst e; cases hy
  | tf hp hy => intro A v u hu rx ry _ _ _ e; subst e; cases hy
  | ft hp hy => intro A v u hu rx ry _ _ e _; subst e; cases hy
  | up h ih => intro A v u hu rx ry; exact ih A v u (by omega) rx ry
theorem op_neK (hu : X.A.units + 60 < cLine) : OpR X (compareOp .NotEq) (mNeK X.K) := by
  intro pins s σ H x y v u Q I rx ry h
  unfold mNeK at h
  split at h
  · rename_i p q
    obtain ⟨n, b, hn, h, q⟩ := h
    have := eqd_ne I h X.A v u (by omega) rx ry _ _ rfl rfl
    exact this X.prog X.w X.xe _ ⟨.bl (!b), H, I, rfl, q⟩
  · exact op_neM pins s σ H x y v u Q I rx ry h
end
theorem Room.u60 {k : Nat} {A : Around} (r : Room k A) : A.units + 60 < cLine := by have := r.units; omega
theorem RoomN.u60 {k : Nat} {A : Around} (r : RoomN k A) : A.units + 60 < cLine := by have := r.un; omega
end L2
namespace LX
open PySem Builtin Builtin.Str
section
variable {prog : Program} {w : World} {A : Around} {E : Value → Shared → Prop} {s : Shared} {x : Str} {t : Tok} {Q : Value → Shared → Prop}
end
end LX
namespace L2
open PySem PySem.Spec PyProof.Rows
section
variable {X : Cx}
end
section
variable {X : Cx} {a b c d : Expr} {ta tb tc td : TE} {pos : Pos}
end
end L2
namespace L2
open PySem PySem.Spec PyProof.Rows
section
variable {κ : Type} [DecidableEq κ]
def valV (kvs : List (κ × V)) (k : κ) : Option V := (kvs.find? fun kv => decide (kv.1 = k)).map (·.2)
def putK (kvs : List (κ × V)) (k : κ) (v : V) : List (κ × V) :=
  if (kvs.any fun kv => decide (kv.1 = k)) = true then kvs.map (fun kv => if kv.1 = k then (kv.1, v) else kv) else kvs ++ [(k, v)]
def dropK (kvs : List (κ × V)) (k : κ) : List (κ × V) := kvs.filter fun kv => decide (kv.1 ≠ k)
theorem valV_pos {p : κ × V} {r : List (κ × V)} {k : κ} (e : p.1 = k) : valV (p :: r) k = some p.2 := by simp [valV, List.find?_cons, e]
theorem valV_neg {p : κ × V} {r : List (κ × V)} {k : κ} (e : ¬ p.1 = k) : valV (p :: r) k = valV r k := by simp [valV, List.find?_cons, e]
theorem valV_any (k : κ) : ∀ kvs : List (κ × V), (kvs.any fun kv => decide (kv.1 = k)) = (valV kvs k).isSome
  | [] => rfl
  | p :: r => by
    rw [List.any_cons]
    by_cases e : p.1 = k
    · simp only [valV_pos e, decide_eq_true e, Bool.true_or, Option.isSome_some]
    · rw [valV_neg e, decide_eq_false e, Bool.false_or]; exact valV_any k r
theorem RelO.isSome_eq {o : Option V} {u : Option Value} (r : RelO o u) : o.isSome = u.isSome := by
  cases o with
  | none => cases u with
    | none => rfl
    | some _ => exact (show False from r).elim
  | some _ => cases u with
    | none => exact (show False from r).elim
    | some _ => rfl
theorem RelO.getD {o : Option V} {u : Option Value} {d : V} {d' : Value} (r : RelO o u) (rd : RelV d d') : RelV (o.getD d) (u.getD d') := by
  cases o with
  | none => cases u with
    | none => exact rd
    | some _ => exact (show False from r).elim
  | some _ => cases u with
    | none => exact (show False from r).elim
    | some _ => exact r
theorem KV.val {kvs : List (κ × V)} {vs : List (κ × Value)} (r : KV kvs vs) (k : κ) : RelO (valV kvs k) (valueAt vs k) := by
  unfold KV at r
  induction r with
  | nil => exact True.intro
  | @cons p q ps qs h t ih =>
    obtain ⟨h1, h2⟩ := h
    by_cases e : p.1 = k
    · have e' : q.1 = k := h1.symm.trans e
      have b : valueAt (q :: qs) k = some q.2 := by simp [valueAt, List.find?_cons, e']
      rw [valV_pos e, b]; exact h2
    · have e' : ¬ q.1 = k := fun z => e (h1.trans z)
      have b : valueAt (q :: qs) k = valueAt qs k := by simp [valueAt, List.find?_cons, e']
      rw [valV_neg e, b]; exact ih
theorem KV.any {kvs : List (κ × V)} {vs : List (κ × Value)} (r : KV kvs vs) (k : κ) : (kvs.any fun kv => decide (kv.1 = k)) = vs.any fun kv => decide (kv.1 = k) := by
  unfold KV at r
  induction r with
  | nil => rfl
  | cons h t ih => rw [List.any_cons, List.any_cons, ih, h.1]
theorem KV.repl {kvs : List (κ × V)} {vs : List (κ × Value)} (r : KV kvs vs) (k : κ) {y : V} {u : Value} (ry : RelV y u) :
    KV (kvs.map fun kv => if kv.1 = k then (kv.1, y) else kv) (vs.map fun kv => if kv.1 = k then (kv.1, u) else kv) := by
  unfold KV at r ⊢
  induction r with
  | nil => exact .nil
  | @cons p q ps qs h t ih =>
    rw [List.map_cons, List.map_cons]
    refine .cons ?_ ih
    obtain ⟨h1, h2⟩ := h
    by_cases e : p.1 = k
    · rw [if_pos e, if_pos (h1.symm.trans e)]; exact ⟨h1, ry⟩
    · rw [if_neg e, if_neg (fun z => e (h1.trans z))]; exact ⟨h1, h2⟩
theorem KV.put {kvs : List (κ × V)} {vs : List (κ × Value)} (r : KV kvs vs) (k : κ) {y : V} {u : Value} (ry : RelV y u) : KV (putK kvs k y) (stored vs k u) := by
  unfold putK stored
  rw [r.any k]
  by_cases e : (vs.any fun kv => decide (kv.1 = k)) = true
  · rw [if_pos e, if_pos e]; exact r.repl k ry
  · rw [if_neg e, if_neg e]; exact Paired.snoc r ⟨rfl, ry⟩
theorem KV.drop {kvs : List (κ × V)} {vs : List (κ × Value)} (r : KV kvs vs) (k : κ) : KV (dropK kvs k) (without vs k) := by
  unfold KV at r ⊢
  unfold dropK without
  induction r with
  | nil => exact .nil
  | @cons p q ps qs h t ih =>
    obtain ⟨h1, h2⟩ := h
    rw [List.filter_cons, List.filter_cons]
    by_cases e : p.1 = k
    · have a : ¬ decide (p.1 ≠ k) = true := by simp [e]
      have b : ¬ decide (q.1 ≠ k) = true := by simp [h1.symm.trans e]
      rw [if_neg a, if_neg b]; exact ih
    · have e' : ¬ q.1 = k := fun z => e (h1.trans z)
      have a : decide (p.1 ≠ k) = true := by simp [e]
      have b : decide (q.1 ≠ k) = true := by simp [e']
      rw [if_pos a, if_pos b]; exact .cons ⟨h1, h2⟩ ih
theorem KV.length {kvs : List (κ × V)} {vs : List (κ × Value)} (r : KV kvs vs) : kvs.length = vs.length := Paired.length r
end
abbrev KT (H : Hp) : List (List Key × V) → List (List Key × Addr × Value) → Prop := Paired fun p q => p.1 = q.1 ∧ H q.2.1 = some (.tup (p.1.map kV)) ∧ RelV p.2 q.2.2
theorem KT.val {H : Hp} {kvs : List (List Key × V)} {xs : List (List Key × Addr × Value)} (r : KT H kvs xs) (k : List Key) : RelO (valV kvs k) ((atKey xs k).map (·.2)) := by
  induction r with
  | nil => exact True.intro
  | @cons p q ps qs h t ih =>
    obtain ⟨h1, _, h2⟩ := h
    by_cases e : p.1 = k
    · have e' : q.1 = k := h1.symm.trans e
      have b : atKey (q :: qs) k = some q.2 := by simp [atKey, List.find?_cons, e']
      rw [valV_pos e, b]; exact h2
    · have e' : ¬ q.1 = k := fun z => e (h1.trans z)
      have b : atKey (q :: qs) k = atKey qs k := by simp [atKey, List.find?_cons, e']
      rw [valV_neg e, b]; exact ih
theorem KT.repl {H : Hp} {kvs : List (List Key × V)} {xs : List (List Key × Addr × Value)} (r : KT H kvs xs) (k : List Key) {y : V} {u : Value} (ry : RelV y u) :
    KT H (kvs.map fun kv => if kv.1 = k then (kv.1, y) else kv) (xs.map (putAt k u)) := by
  induction r with
  | nil => exact .nil
  | @cons p q ps qs h t ih =>
    rw [List.map_cons, List.map_cons]
    refine .cons ?_ ih
    obtain ⟨h1, h2, h3⟩ := h
    unfold putAt
    by_cases e : p.1 = k
    · rw [if_pos e, if_pos (h1.symm.trans e)]; exact ⟨h1, h2, ry⟩
    · rw [if_neg e, if_neg (fun z => e (h1.trans z))]; exact ⟨h1, h2, h3⟩
theorem KT.put {H : Hp} {kvs : List (List Key × V)} {xs : List (List Key × Addr × Value)} (r : KT H kvs xs) (k : List Key) {b : Addr} {y : V} {u : Value} (hb : H b = some (.tup (k.map kV))) (ry : RelV y u) :
    KT H (putK kvs k y) (storedH xs k b u) := by
  have e : (kvs.any fun kv => decide (kv.1 = k)) = (atKey xs k).isSome := by
    rw [valV_any, (r.val k).isSome_eq, Option.isSome_map]
  unfold putK storedH
  rw [e]
  by_cases q : (atKey xs k).isSome = true
  · rw [if_pos q, if_pos q]; exact r.repl k ry
  · rw [if_neg q, if_neg q]; exact Paired.snoc r ⟨rfl, hb, ry⟩
theorem KT.keeps {H H' : Hp} {kvs : List (List Key × V)} {xs : List (List Key × Addr × Value)} (r : KT H kvs xs) (ht : ∀ b ys, H b = some (.tup ys) → H' b = some (.tup ys)) : KT H' kvs xs :=
  Paired.mapP r fun _ _ z => ⟨z.1, ht _ _ z.2.1, z.2.2⟩
section
variable {P : Program} {w : World} {H : Hp} {h : Heap} {a : Addr}
end
def DGet (H : Hp) (a : Addr) (y : V) (r : Option V) : Prop :=
  (∃ kvs k, Rd H a (.dK kvs) ∧ y = kV k ∧ r = valV kvs k) ∨ ∃ kvs k b, Rd H a (.dT kvs) ∧ y = .ref b ∧ H b = some (.tup (k.map kV)) ∧ r = valV kvs k
def DPut (H : Hp) (a : Addr) (y v : V) (H' : Hp) : Prop :=
  (∃ kvs k, H a = some (.dK kvs) ∧ y = kV k ∧ kvs.length < sizeLine ∧ H' = upd H a (.dK (putK kvs k v))) ∨
  ∃ kvs k b, H a = some (.dT kvs) ∧ y = .ref b ∧ H b = some (.tup (k.map kV)) ∧ kvs.length < sizeLine ∧ H' = upd H a (.dT (putK kvs k v))
theorem DGet.k {H : Hp} {a : Addr} {kvs : List (Key × V)} {k : Key} (e : H a = some (.dK kvs)) : DGet H a (kV k) (valV kvs k) := .inl ⟨kvs, k, .inl e, rfl, rfl⟩
theorem DGet.t {H : Hp} {a b : Addr} {kvs : List (List Key × V)} {k : List Key} (e : H a = some (.dT kvs)) (eb : H b = some (.tup (k.map kV))) : DGet H a (.ref b) (valV kvs k) := .inr ⟨kvs, k, b, .inl e, rfl, eb, rfl⟩
theorem DPut.k {H : Hp} {a : Addr} {kvs : List (Key × V)} {k : Key} {v : V} (e : H a = some (.dK kvs)) (hl : kvs.length < sizeLine) : DPut H a (kV k) v (upd H a (.dK (putK kvs k v))) := .inl ⟨kvs, k, e, rfl, hl, rfl⟩
theorem DPut.t {H : Hp} {a b : Addr} {kvs : List (List Key × V)} {k : List Key} {v : V} (e : H a = some (.dT kvs)) (eb : H b = some (.tup (k.map kV))) (hl : kvs.length < sizeLine) :
    DPut H a (.ref b) v (upd H a (.dT (putK kvs k v))) := .inr ⟨kvs, k, b, e, rfl, eb, hl, rfl⟩
section
variable {X : Cx} {pins : List (Addr × Obj)} {σ : St} {H : Hp} {s : Shared} {a : Addr} {y v : V} {u r : Value} {o : Option V} {A : Around} {E : Value → Shared → Prop}
end
section
variable {X : Cx} {pins : List (Addr × Obj)} {σ : St} {H : Hp} {s : Shared} {a : Addr} {kvs : List (Key × V)} {k : Key} {u : Value} {A : Around} {E : Value → Shared → Prop}
end
section
variable {X : Cx} {o i e value : Expr} {pos pos' tpos : Pos} {td ty tv : TE}
end
section
variable {X : Cx} {pos : Pos}
end
section
variable {X : Cx} {pins : List (Addr × Obj)} {σ : St} {H : Hp} {s : Shared} {a : Addr} {y d : V} {u r : Value} {o : Option V} {A : Around} {E : Value → Shared → Prop}
end
section
variable {X : Cx} {o e f : Expr} {apos cpos : Pos} {td ty tx : TE}
end
section
variable {X : Cx} {pins : List (Addr × Obj)} {σ : St} {H : Hp} {s : Shared} {a : Addr} {kvs : List (Key × V)} {A : Around} {E : Value → Shared → Prop}
end
section
variable {X : Cx} {pins : List (Addr × Obj)} {σ : St} {H : Hp} {s : Shared} {a : Addr} {y : V} {u : Value} {A : Around} {E : Value → Shared → Prop}
namespace L2
open PySem PySem.Spec PyProof.Rows
section
variable {X : Cx}
end
section
variable {κ : Type} [DecidableEq κ]
end
end L2
end
end L2
namespace L2
open PySem PySem.Spec PyProof.Rows
section
variable {X : Cx}
end
section
variable {X : Cx} {elts : List Expr} {kk : Nat} {tpos : Pos}
end
section
variable {X : Cx} {e st : Expr} {te : TE} {ts : TO} {pos p2 : Pos}
end
end L2
namespace L2
open PySem PySem.Spec PyProof.Rows
def keyV : V → Option Key
  | .int i => some (.inl i)
  | .str z => some (.inr z)
  | _ => none
section
variable {X : Cx} {o i e value : Expr} {pos pos' tpos : Pos} {td ty tv : TE}
end
section
variable {X : Cx} {o e f : Expr} {apos cpos : Pos} {td ty tx' : TE}
end
section
variable {X : Cx} {o i : Expr} {pos : Pos} {td ty : TE}
end
end L2
namespace L2
open PySem PySem.Spec PyProof.Rows
inductive Mo (α : Type) where
  | ok (a : α) | ex (c : String) | no
namespace Mo
variable {α β γ : Type}
def bind (x : Mo α) (f : α → Mo β) : Mo β := match x with | .ok a => f a | .ex c => .ex c | .no => .no
def noex (x : Mo α) : Mo α := match x with | .ok a => .ok a | _ => .no
def lim (n : Nat) (k : Mo α) : Mo α := if n ≤ sizeLine then k else .no
theorem lim_ok {n : Nat} {k : Mo α} (h : n ≤ 100000) : lim n k = k := if_pos (small_n h)
def grd (p : Prop) [Decidable p] (k : Mo α) : Mo α := if p then k else .no
theorem grd_ok {p : Prop} [Decidable p] {k : Mo α} (h : p) : grd p k = k := if_pos h
def opt (x : Option α) : Mo α := match x with | some a => .ok a | none => .no
end Mo
def un (F h : Hp) : Hp := fun p => match F p with | some o => some o | none => h p
def Dj (F h : Hp) : Prop := ∀ p, F p = none ∨ h p = none
def Jn (h1 h2 h : Hp) : Prop := ∀ p, (h1 p = none ∧ h p = h2 p) ∨ (h2 p = none ∧ h p = h1 p)
def Ext (F H F' H' : Hp) : Prop := Same F F' ∧ Same F' H' ∧ Same H H' ∧ ∀ p, F p = none → F' p ≠ none → H p = none
theorem Ext.refl {F H : Hp} (h : Same F H) : Ext F H F H := ⟨Same.refl _, h, Same.refl _, fun p a b => absurd a b⟩
theorem Ext.trans {F H F1 H1 F2 H2 : Hp} (a : Ext F H F1 H1) (b : Ext F1 H1 F2 H2) : Ext F H F2 H2 := by
  obtain ⟨a1, a2, a3, a4⟩ := a
  obtain ⟨b1, b2, b3, b4⟩ := b
  refine ⟨a1.trans b1, b2, a3.trans b3, fun p hp hq => ?_⟩
  cases e : F1 p with
  | none => exact a3.free (b4 p e hq)
  | some o => exact a4 p hp (by rw [e]; exact Option.some_ne_none _)
theorem Ext.heap {F H H' : Hp} (h : Same F H) (g : Same H H') : Ext F H F H' := ⟨Same.refl _, h.trans g, g, fun p a b => absurd a b⟩
theorem Ext.new {F H : Hp} (h : Same F H) {p : Addr} {o : HO} (hp : H p = none) : Ext F H (upd F p o) (upd H p o) := by
  refine ⟨same_new (h.free hp) _, fun b u e => ?_, same_new hp _, fun q a b => ?_⟩
  · unfold upd at e ⊢
    split
    · rename_i z; rw [if_pos z] at e; exact e
    · rename_i z; rw [if_neg z] at e; exact h _ _ e
  · unfold upd at b
    split at b
    · rename_i z; rw [z]; exact hp
    · exact absurd a b
structure Ty (α : Type) where
  R : α → V → Hp → Prop
  mono : ∀ {a v H H'}, Same H H' → R a v H → R a v H'
def Tups (H H' : Hp) : Prop := ∀ p xs, H p = some (.tup xs) → H' p = some (.tup xs)
theorem Same.tups {H H' : Hp} (h : Same H H') : Tups H H' := fun p xs e => h _ _ e
def Imm {α : Type} (T : Ty α) : Prop := ∀ {a v H H'}, Tups H H' → T.R a v H → T.R a v H'
abbrev tyInt : Ty Int := ⟨fun a v _ => v = .int a, fun _ h => h⟩
abbrev tyStr : Ty (List Nat) := ⟨fun a v _ => v = tx a, fun _ h => h⟩
abbrev tyBl : Ty Bool := ⟨fun a v _ => v = .bl a, fun _ h => h⟩
abbrev tyNon : Ty Unit := ⟨fun _ v _ => v = .non, fun _ h => h⟩
theorem imm_int : Imm tyInt := fun _ h => h
theorem imm_str : Imm tyStr := fun _ h => h
theorem imm_bl : Imm tyBl := fun _ h => h
structure Cs (γ : Type) where
  R : γ → List V → Hp → Prop
  mono : ∀ {c vs H H'}, Same H H' → R c vs H → R c vs H'
def ImmC {γ : Type} (C : Cs γ) : Prop := ∀ {c vs H H'}, Tups H H' → C.R c vs H → C.R c vs H'
abbrev csNil : Cs Unit := ⟨fun _ vs _ => vs = [], fun _ h => h⟩
abbrev csLast {α : Type} (T : Ty α) : Cs α := ⟨fun a vs H => ∃ v, vs = [v] ∧ T.R a v H, fun g ⟨v, e, h⟩ => ⟨v, e, T.mono g h⟩⟩
abbrev csCons {α γ : Type} (T : Ty α) (C : Cs γ) : Cs (α × γ) := ⟨fun a vs H => ∃ v us, vs = v :: us ∧ T.R a.1 v H ∧ C.R a.2 us H, fun g ⟨v, us, e, h, q⟩ => ⟨v, us, e, T.mono g h, C.mono g q⟩⟩
theorem immc_nil : ImmC csNil := fun _ h => h
theorem immc_last {α : Type} {T : Ty α} (i : Imm T) : ImmC (csLast T) := fun g ⟨v, e, h⟩ => ⟨v, e, i g h⟩
theorem immc_cons {α γ : Type} {T : Ty α} {C : Cs γ} (i : Imm T) (j : ImmC C) : ImmC (csCons T C) := fun g ⟨v, us, e, h, q⟩ => ⟨v, us, e, i g h, j g q⟩
abbrev Prs {α : Type} (T : Ty α) (H : Hp) (xs : List α) (vs : List V) : Prop := Paired (fun x v => T.R x v H) xs vs
theorem paired_imp {α β : Type} {R R' : α → β → Prop} (h : ∀ a b, R a b → R' a b) : ∀ {xs : List α} {ys : List β}, Paired R xs ys → Paired R' xs ys
  | _, _, .nil => .nil
  | _, _, .cons a t => .cons (h _ _ a) (paired_imp h t)
theorem Prs.mono {α : Type} {T : Ty α} {H H' : Hp} {xs : List α} {vs : List V} (g : Same H H') (h : Prs T H xs vs) : Prs T H' xs vs := paired_imp (fun _ _ r => T.mono g r) h
theorem Prs.imm {α : Type} {T : Ty α} (i : Imm T) {H H' : Hp} {xs : List α} {vs : List V} (g : Tups H H') (h : Prs T H xs vs) : Prs T H' xs vs := paired_imp (fun _ _ r => i g r) h
abbrev tyL {α : Type} (T : Ty α) : Ty (List α) := ⟨fun xs v H => ∃ p vs, v = .ref p ∧ H p = some (.lst vs) ∧ Prs T H xs vs, fun g ⟨p, vs, e, h, q⟩ => ⟨p, vs, e, g _ _ h, q.mono g⟩⟩
abbrev tySc (K : PySem.W.Frag) : Ty (List Int) := ⟨fun xs v H => ∃ p, v = .ref p ∧ SqL K H p (xs.map V.int), fun g ⟨p, e, h⟩ => ⟨p, e, g.seq h⟩⟩
structure Own (α : Type) where
  O : α → V → Hp → Hp → Prop
  fr : Ty α
  mono : ∀ {a v F F' h}, Same F F' → O a v F h → O a v F' h
  frz : ∀ {a v F h}, Dj F h → O a v F h → fr.R a v (un F h)
  notup : ∀ {a v F h}, O a v F h → ∀ p xs, h p ≠ some (.tup xs)
def ImmO {α : Type} (O : Own α) : Prop := ∀ {a v F F' h}, Tups F F' → O.O a v F h → O.O a v F' h
theorem un_same {F h : Hp} : Same F (un F h) := fun p o e => by unfold un; rw [e]
theorem un_own {F h : Hp} (d : Dj F h) : Same h (un F h) := fun p o e => by
  unfold un
  rcases d p with z | z
  · rw [z]; exact e
  · rw [z] at e; cases e
abbrev owF {α : Type} (T : Ty α) : Own α := ⟨fun a v F h => (∀ p, h p = none) ∧ T.R a v F, T, fun g ⟨e, h⟩ => ⟨e, T.mono g h⟩, fun _ ⟨_, h⟩ => T.mono un_same h, fun ⟨e, _⟩ p xs z => by rw [e] at z; cases z⟩
theorem immo_f {α : Type} {T : Ty α} (i : Imm T) : ImmO (owF T) := fun g ⟨e, h⟩ => ⟨e, i g h⟩
def one (p : Addr) (o : HO) : Hp := fun q => if q = p then some o else none
theorem one_same {p : Addr} {o : HO} : one p o p = some o := if_pos rfl
abbrev owL {α : Type} (T : Ty α) : Own (List α) := ⟨fun xs v F h => ∃ p vs, v = .ref p ∧ h = one p (.lst vs) ∧ Prs T F xs vs, tyL T, fun g ⟨p, vs, e, z, q⟩ => ⟨p, vs, e, z, q.mono g⟩,
  fun d ⟨p, vs, e, z, q⟩ => ⟨p, vs, e, un_own d _ _ (by rw [z]; exact one_same), q.mono un_same⟩,
  fun ⟨p, vs, e, z, q⟩ b xs y => by rw [z] at y; unfold one at y; split at y <;> cases y⟩
theorem immo_l {α : Type} {T : Ty α} (i : Imm T) : ImmO (owL T) := fun g ⟨p, vs, e, z, q⟩ => ⟨p, vs, e, z, q.imm i g⟩
inductive Sl : Type 1 where
  | dead
  | fz {α : Type} (T : Ty α) (a : α)
  | ow {α : Type} (O : Own α) (a : α)
def Sl.P : Sl → Option V → Hp → Hp → Prop
  | .dead, _, _, _ => True
  | .fz T a, o, F, _ => ∃ v, o = some v ∧ T.R a v F
  | .ow O a, o, F, h => ∃ v, o = some v ∧ O.O a v F h
def Sl.Z : Sl → Option V → Hp → Prop
  | .dead, _, _ => True
  | .fz T a, o, F => ∃ v, o = some v ∧ T.R a v F
  | .ow O a, o, F => ∃ v, o = some v ∧ O.fr.R a v F
def Sl.cold : Sl → Sl
  | .ow _ _ => .dead
  | s => s
def Hold : List Sl → St → Hp → Hp → Prop
  | [], [], _, _ => True
  | s :: L, o :: σ, F, h => ∃ h1 h2, Jn h1 h2 h ∧ s.P o F h1 ∧ Hold L σ F h2
  | _, _, _, _ => False
def HoldF (L : List Sl) (σ : St) (F : Hp) : Prop := ∀ (i : Nat) (s : Sl), L[i]? = some s → s.Z (σ[i]?.join) F
theorem Sl.P.mono {s : Sl} {o : Option V} {F F' h : Hp} (g : Same F F') (q : s.P o F h) : s.P o F' h := by
  cases s with
  | dead => exact q
  | fz T a => obtain ⟨v, e, r⟩ := q; exact ⟨v, e, T.mono g r⟩
  | ow O a => obtain ⟨v, e, r⟩ := q; exact ⟨v, e, O.mono g r⟩
theorem Sl.Z.mono {s : Sl} {o : Option V} {F F' : Hp} (g : Same F F') (q : s.Z o F) : s.Z o F' := by
  cases s with
  | dead => exact q
  | fz T a => obtain ⟨v, e, r⟩ := q; exact ⟨v, e, T.mono g r⟩
  | ow O a => obtain ⟨v, e, r⟩ := q; exact ⟨v, e, O.fr.mono g r⟩
theorem HoldF.mono {L : List Sl} {σ : St} {F F' : Hp} (g : Same F F') (q : HoldF L σ F) : HoldF L σ F' := fun i s e => (q i s e).mono g
theorem Hold.mono : ∀ {L : List Sl} {σ : St} {F F' h : Hp}, Same F F' → Hold L σ F h → Hold L σ F' h
  | [], [], _, _, _, _, q => q
  | s :: L, o :: σ, F, F', h, g, ⟨h1, h2, j, p, r⟩ => ⟨h1, h2, j, p.mono g, r.mono g⟩
  | [], _ :: _, _, _, _, _, q => q.elim
  | _ :: _, [], _, _, _, _, q => q.elim
theorem Hold.len : ∀ {L : List Sl} {σ : St} {F h : Hp}, Hold L σ F h → L.length = σ.length
  | [], [], _, _, _ => rfl
  | s :: L, o :: σ, F, h, ⟨h1, h2, j, p, r⟩ => by rw [List.length_cons, List.length_cons, r.len]
  | [], _ :: _, _, _, q => q.elim
  | _ :: _, [], _, _, q => q.elim
theorem Jn.l {h1 h2 h : Hp} (j : Jn h1 h2 h) : Same h1 h := fun p o e => by
  rcases j p with ⟨a, b⟩ | ⟨a, b⟩
  · rw [a] at e; cases e
  · rw [b]; exact e
theorem Jn.r {h1 h2 h : Hp} (j : Jn h1 h2 h) : Same h2 h := fun p o e => by
  rcases j p with ⟨a, b⟩ | ⟨a, b⟩
  · rw [b]; exact e
  · rw [a] at e; cases e
theorem Jn.dj {h1 h2 h : Hp} (j : Jn h1 h2 h) : Dj h1 h2 := fun p => by
  rcases j p with ⟨a, b⟩ | ⟨a, b⟩
  · exact .inl a
  · exact .inr a
theorem jn_of {h1 h2 : Hp} (d : Dj h1 h2) : Jn h1 h2 (un h1 h2) := fun p => by
  unfold un
  rcases d p with a | a
  · rw [a]; exact .inl ⟨rfl, rfl⟩
  · refine .inr ⟨a, ?_⟩
    cases h1 p with
    | none => exact a
    | some o => rfl
theorem Hold.at : ∀ {L : List Sl} {σ : St} {F h : Hp} (i : Nat) {s : Sl}, Hold L σ F h → L[i]? = some s →
    ∃ o h1 h2, σ[i]? = some o ∧ Jn h1 h2 h ∧ s.P o F h1 ∧ ∀ s' o' h1' h', Jn h1' h2 h' → s'.P o' F h1' → Hold (L.set i s') (σ.set i o') F h'
  | [], _, _, _, _, _, _, e => by cases e
  | s :: L, [], _, _, _, _, q, _ => q.elim
  | s :: L, o :: σ, F, h, 0, t, ⟨h1, h2, j, p, r⟩, e => by
    cases e
    exact ⟨o, h1, h2, rfl, j, p, fun s' o' h1' h' j' p' => ⟨h1', h2, j', p', r⟩⟩
  | s :: L, o :: σ, F, h, i + 1, t, ⟨h1, h2, j, p, r⟩, e => by
    obtain ⟨o1, k1, k2, e1, j1, p1, f⟩ := Hold.at i r (by simpa using e)
    have d1 : Dj h1 k1 := fun p => by
      rcases j.dj p with a | a
      · exact .inl a
      · exact .inr (j1.l.free a)
    have d2 : Dj h1 k2 := fun p => by
      rcases j.dj p with a | a
      · exact .inl a
      · exact .inr (j1.r.free a)
    refine ⟨o1, k1, un h1 k2, by simpa using e1, fun p => ?_, p1, fun s' o' k1' h' j' p' => ?_⟩
    · rcases j p with ⟨a, b⟩ | ⟨a, b⟩
      · rcases j1 p with ⟨c, d⟩ | ⟨c, d⟩
        · refine .inl ⟨c, ?_⟩; unfold un; rw [a, b, d]
        · refine .inr ⟨?_, by rw [b, d]⟩; unfold un; rw [a, c]
      · refine .inl ⟨j1.l.free a, ?_⟩
        have : k2 p = none := j1.r.free a
        unfold un; rw [b]
        cases h1 p with
        | none => rw [this]
        | some u => rfl
    · have dd : Dj k1' k2 := fun p => by
        rcases j' p with ⟨a, b⟩ | ⟨a, b⟩
        · exact .inl a
        · right; unfold un at a
          cases z : h1 p with
          | none => rw [z] at a; exact a
          | some u => rw [z] at a; cases a
      refine ⟨h1, un k1' k2, fun p => ?_, p, f s' o' k1' _ (jn_of dd) p'⟩
      rcases j' p with ⟨a, b⟩ | ⟨a, b⟩
      · unfold un at b ⊢
        cases z : h1 p with
        | none => rw [z] at b; exact .inl ⟨rfl, by rw [b, a]⟩
        | some u =>
          rw [z] at b
          refine .inr ⟨?_, b⟩
          rw [a]
          rcases d2 p with y | y
          · rw [y] at z; cases z
          · exact y
      · unfold un at a
        cases z : h1 p with
        | some u => rw [z] at a; cases a
        | none =>
          rw [z] at a
          refine .inl ⟨rfl, ?_⟩
          unfold un; rw [b]
          cases k1' p with
          | none => exact a.symm
          | some u => rfl
theorem Hold.froz {L : List Sl} {σ : St} {F h : Hp} (d : Dj F h) (q : Hold L σ F h) : HoldF L σ (un F h) := by
  intro i s e
  obtain ⟨o, h1, h2, e1, j, p, _⟩ := q.at i e
  rw [e1]
  have d1 : Dj F h1 := fun p => by
    rcases d p with a | a
    · exact .inl a
    · exact .inr (j.l.free a)
  cases s with
  | dead => trivial
  | fz T a => obtain ⟨v, e2, r⟩ := p; exact ⟨v, e2, T.mono un_same r⟩
  | ow O a =>
    obtain ⟨v, e2, r⟩ := p
    refine ⟨v, e2, O.fr.mono (fun p u z => ?_) (O.frz d1 r)⟩
    unfold un at z ⊢
    cases y : F p with
    | some w => rw [y] at z; exact z
    | none => rw [y] at z; exact j.l _ _ z
theorem Hold.coldF {L : List Sl} {σ : St} {F h : Hp} (q : Hold L σ F h) : HoldF (L.map Sl.cold) σ F := by
  intro i s e
  rw [List.getElem?_map] at e
  cases e1 : L[i]? with
  | none => rw [e1] at e; cases e
  | some t =>
    rw [e1] at e
    cases e
    obtain ⟨o, h1, h2, e2, j, p, _⟩ := q.at i e1
    rw [e2]
    cases t with
    | dead => trivial
    | fz T a => obtain ⟨v, e2, r⟩ := p; exact ⟨v, e2, r⟩
    | ow O a => trivial
end L2
namespace L2
open PySem PySem.Spec PyProof.Rows
def After {α : Type} (K : PySem.W.Frag) (r : Mo α) (E : XK) (F H : Hp) (k : α → Hp → Hp → Prop) : Prop := match r with
  | .ok a => ∀ F' H', Ext F H F' H' → k a F' H'
  | .ex c => ∀ F' H', Ext F H F' H' → E (.ref (gA K c)) none H'
  | .no => False
section
variable {K : PySem.W.Frag} {E : XK} {α β γ ρ : Type} {F H : Hp}
theorem After.bind {r : Mo α} {f : α → Mo β} {k : β → Hp → Hp → Prop} (h : After K (r.bind f) E F H k) : After K r E F H fun a F1 H1 => After K (f a) E F1 H1 k := by
  cases r with
  | ok a =>
    intro F1 H1 x
    have h' : After K (f a) E F H k := h
    cases e : f a with
    | ok b => rw [e] at h'; exact fun F2 H2 y => h' F2 H2 (x.trans y)
    | ex c => rw [e] at h'; exact fun F2 H2 y => h' F2 H2 (x.trans y)
    | no => rw [e] at h'; exact h'
  | ex c => exact h
  | no => exact h
theorem After.imp {r : Mo α} {k k' : α → Hp → Hp → Prop} (h : After K r E F H k) (g : ∀ a F' H', Ext F H F' H' → k a F' H' → k' a F' H') : After K r E F H k' := by
  cases r with
  | ok a => exact fun F' H' x => g a F' H' x (h F' H' x)
  | ex c => exact h
  | no => exact h
theorem After.ok {a : α} {k : α → Hp → Hp → Prop} (hs : Same F H) (h : After K (.ok a) E F H k) : k a F H := h F H (.refl hs)
theorem After.noex {r : Mo α} {k : α → Hp → Hp → Prop} (h : After K r.noex E F H k) : After K r E0 F H k := by
  cases r with
  | ok a => exact h
  | ex c => exact h.elim
  | no => exact h
theorem After.lim {n : Nat} {r : Mo α} {k : α → Hp → Hp → Prop} (h : After K (Mo.lim n r) E F H k) : n ≤ sizeLine ∧ After K r E F H k := by
  unfold Mo.lim at h
  split at h
  · exact ⟨by assumption, h⟩
  · exact h.elim
theorem After.grd {p : Prop} [Decidable p] {r : Mo α} {k : α → Hp → Hp → Prop} (h : After K (Mo.grd p r) E F H k) : p ∧ After K r E F H k := by
  unfold Mo.grd at h
  split at h
  · exact ⟨by assumption, h⟩
  · exact h.elim
theorem After.opt {x : Option α} {k : α → Hp → Hp → Prop} (h : After K (Mo.opt x) E F H k) : ∃ a, x = some a ∧ After K (.ok a) E F H k := by
  cases x with
  | none => exact h.elim
  | some a => exact ⟨a, rfl, h⟩
def EvF (K : PySem.W.Frag) (e : TE) (E : XK) (L : List Sl) (r : Mo α) (T : Ty α) : Prop :=
  ∀ σ F H (Q : VK), HoldF L σ F → Same F H → After K r E F H (fun a F' H' => ∀ v, T.R a v F' → Q v H') → e σ H Q
def OwnK (O : Own α) (H : Hp) (Q : VK) (a : α) (F' H' : Hp) : Prop := ∀ v h, (∀ p, h p ≠ none → H p = none) → Dj F' h → Same h H' → O.O a v F' h → Q v H'
def EvO (K : PySem.W.Frag) (e : TE) (E : XK) (L : List Sl) (r : Mo α) (O : Own α) : Prop :=
  ∀ σ F H (Q : VK), HoldF L σ F → Same F H → After K r E F H (OwnK O H Q) → e σ H Q
def EvT (K : PySem.W.Frag) (t : TT) (E : XK) (L : List Sl) (r : Mo Bool) : Prop :=
  ∀ σ F H (Q : Bool → Hp → Prop), HoldF L σ F → Same F H → After K r E F H (fun b _ H' => Q b H') → t σ H Q
def EvA (K : PySem.W.Frag) (t : TA) (E : XK) (L : List Sl) (r : Mo γ) (C : Cs γ) : Prop :=
  ∀ σ F H (Q : List V → Hp → Prop), HoldF L σ F → Same F H → After K r E F H (fun c F' H' => ∀ vs, C.R c vs F' → Q vs H') → t σ H Q
variable {L : List Sl} {e e1 e2 : TE} {T : Ty α} {r : Mo α}
theorem EvO.fr {O : Own α} (h : EvO K e E L r O) : EvF K e E L r O.fr := by
  intro σ F H Q hL hs q
  refine h σ F H Q hL hs ?_
  cases r with
  | ok a =>
    intro F' H' x v h' fresh d s o
    refine q (un F' h') H' ⟨x.1.trans un_same, fun p o e => ?_, x.2.2.1, fun p a b => ?_⟩ v (O.frz d o)
    · unfold un at e
      cases z : F' p with
      | some w => rw [z] at e; cases e; exact x.2.1 _ _ z
      | none => rw [z] at e; exact s _ _ e
    · unfold un at b
      cases z : F' p with
      | some w => exact x.2.2.2 p a (by rw [z]; exact Option.some_ne_none _)
      | none => rw [z] at b; exact fresh p b
  | ex c => exact q
  | no => exact q
theorem EvF.ow (h : EvF K e E L r T) : EvO K e E L r (owF T) := by
  intro σ F H Q hL hs q
  refine h σ F H Q hL hs (q.imp fun a F' H' x k v hv => ?_)
  exact k v (fun _ => none) (fun p z => absurd rfl z) (fun p => .inr rfl) (fun p o z => by cases z) ⟨fun _ => rfl, hv⟩
theorem ev_c {v : V} {a : α} (h : ∀ F, T.R a v F) : EvF K (tC v) E L (.ok a) T := fun σ F H Q hL hs q => q.ok hs v (h F)
theorem ev_int (i : Int) : EvF K (tC (.int i)) E L (.ok i) tyInt := ev_c fun _ => rfl
theorem ev_str (l : List Nat) : EvF K (tC (tx l)) E L (.ok l) tyStr := ev_c fun _ => rfl
theorem ev_bl (b : Bool) : EvF K (tC (.bl b)) E L (.ok b) tyBl := ev_c fun _ => rfl
theorem ev_var (i : Nat) {a : α} (h : L[i]? = some (.fz T a)) : EvF K (mVar i) E L (.ok a) T := by
  intro σ F H Q hL hs q
  obtain ⟨v, e, r⟩ := hL i _ h
  unfold mVar
  cases z : σ[i]? with
  | none => rw [z] at e; cases e
  | some o =>
    rw [z] at e
    cases (show o = some v from e)
    exact q.ok hs v r
theorem ev_varO (i : Nat) {O : Own α} {a : α} (h : L[i]? = some (.ow O a)) : EvF K (mVar i) E L (.ok a) O.fr := by
  intro σ F H Q hL hs q
  obtain ⟨v, e, r⟩ := hL i _ h
  unfold mVar
  cases z : σ[i]? with
  | none => rw [z] at e; cases e
  | some o =>
    rw [z] at e
    cases (show o = some v from e)
    exact q.ok hs v r
def Op2 (K : PySem.W.Frag) (m : R2) (E : XK) (T1 : Ty α) (T2 : Ty β) (g : α → β → Mo γ) (T : Ty γ) : Prop :=
  ∀ a b x y F H (Q : VK), Same F H → T1.R a x F → T2.R b y F → After K (g a b) E F H (fun c F' H' => ∀ v, T.R c v F' → Q v H') → m x y H Q
theorem OwnK.back {O : Own α} {H H1 : Hp} {Q : VK} {a : α} {F' H' : Hp} (g : Same H H1) (h : OwnK O H Q a F' H') : OwnK O H1 Q a F' H' :=
  fun v k fresh d s o => h v k (fun p z => g.free (fresh p z)) d s o
theorem ev_op {m : R2} {T1 : Ty α} {T2 : Ty β} {T : Ty γ} {g : α → β → Mo γ} {r1 : Mo α} {r2 : Mo β} (hop : Op2 K m E T1 T2 g T) (h1 : EvF K e1 E L r1 T1) (h2 : EvF K e2 E L r2 T2) :
    EvF K (tOp m e1 e2) E L (r1.bind fun a => r2.bind fun b => g a b) T := by
  intro σ F H Q hL hs q
  refine h1 σ F H _ hL hs (q.bind.imp fun a F1 H1 x1 k1 v1 hv1 => ?_)
  refine h2 σ F1 H1 _ (hL.mono x1.1) x1.2.1 (k1.bind.imp fun b F2 H2 x2 k2 v2 hv2 => ?_)
  exact hop a b v1 v2 F2 H2 Q x2.2.1 (T1.mono x2.1 hv1) hv2 k2
theorem op_i0 {g : Int → Int → V} {f : Int → Int → α} (h : ∀ i j F, T.R (f i j) (g i j) F) : Op2 K (mI0 g) E tyInt tyInt (fun i j => .ok (f i j)) T := by
  intro a b x y F H Q hs hx hy q
  cases hx; cases hy
  exact q.ok hs _ (h a b F)
theorem op_i {C : Int → Int → Prop} [∀ i j, Decidable (C i j)] {g : Int → Int → V} {f : Int → Int → α} (h : ∀ i j F, T.R (f i j) (g i j) F) : Op2 K (mI C g) E tyInt tyInt (fun i j => .grd (C i j) (.ok (f i j))) T := by
  intro a b x y F H Q hs hx hy q
  cases hx; cases hy
  obtain ⟨c, q⟩ := q.grd
  exact ⟨c, q.ok hs _ (h a b F)⟩
instance (i j : Int) : Decidable (CMul i j) := inferInstanceAs (Decidable (_ ∨ _))
instance (i j : Int) : Decidable (CDiv i j) := inferInstanceAs (Decidable (_ ∧ _))
instance (i j : Int) : Decidable (CPow i j) := inferInstanceAs (Decidable (_ ∧ _ ∧ _))
theorem op_addI : Op2 K mAdd E tyInt tyInt (fun i j => .ok (i + j)) tyInt := by
  intro a b x y F H Q hs hx hy q
  cases hx; cases hy
  exact q.ok hs _ rfl
theorem op_subI : Op2 K mSub E tyInt tyInt (fun i j => .ok (i - j)) tyInt := op_i0 fun _ _ _ => rfl
theorem op_modI : Op2 K mMod E tyInt tyInt (fun i j => .grd (0 < j) (.ok (i % j))) tyInt := op_i (C := fun _ j => 0 < j) fun _ _ _ => rfl
theorem op_powI : Op2 K mPow E tyInt tyInt (fun i j => .grd (CPow i j) (.ok (i ^ j.toNat))) tyInt := op_i fun _ _ _ => rfl
theorem op_geI : Op2 K mGe E tyInt tyInt (fun i j => .ok (decide (j ≤ i))) tyBl := op_i0 fun _ _ _ => rfl
theorem op_addS : Op2 K mAdd E tyStr tyStr (fun i j => .lim (i.length + j.length) (.ok (i ++ j))) tyStr := by
  intro a b x y F H Q hs hx hy q
  cases hx; cases hy
  obtain ⟨c, q⟩ := q.lim
  exact ⟨c, q.ok hs _ rfl⟩
theorem Prs.append {xs ys : List α} {vs us : List V} (a : Prs T H xs vs) (b : Prs T H ys us) : Prs T H (xs ++ ys) (vs ++ us) := by
  induction a with
  | nil => exact b
  | cons r t ih => exact .cons r ih
theorem Prs.len {xs : List α} {vs : List V} (a : Prs T H xs vs) : xs.length = vs.length := Paired.length a
theorem Prs.get {xs : List α} {vs : List V} (a : Prs T H xs vs) (i : Nat) : (xs[i]? = none ∧ vs[i]? = none) ∨ ∃ x v, xs[i]? = some x ∧ vs[i]? = some v ∧ T.R x v H := by
  induction a generalizing i with
  | nil => exact .inl ⟨rfl, rfl⟩
  | cons r t ih =>
    cases i with
    | zero => exact .inr ⟨_, _, rfl, rfl, r⟩
    | succ i => simpa using ih i
theorem Prs.take {xs : List α} {vs : List V} (a : Prs T H xs vs) (n : Nat) : Prs T H (xs.take n) (vs.take n) := by
  induction a generalizing n with
  | nil => rw [List.take_nil, List.take_nil]; exact .nil
  | cons r t ih =>
    cases n with
    | zero => exact .nil
    | succ n => exact .cons r (ih n)
theorem Prs.drop {xs : List α} {vs : List V} (a : Prs T H xs vs) (n : Nat) : Prs T H (xs.drop n) (vs.drop n) := by
  induction a generalizing n with
  | nil => rw [List.drop_nil, List.drop_nil]; exact .nil
  | cons r t ih =>
    cases n with
    | zero => exact .cons r t
    | succ n => exact ih n
theorem Prs.set {xs : List α} {vs : List V} (a : Prs T H xs vs) (i : Nat) {x : α} {v : V} (q : T.R x v H) : Prs T H (xs.set i x) (vs.set i v) := by
  induction a generalizing i with
  | nil => exact .nil
  | cons r t ih =>
    cases i with
    | zero => exact .cons q t
    | succ i => exact .cons r (ih i)
theorem own_new {vs : List V} {xs : List α} {p : Addr} {F' H' : Hp} {Q : VK} (hp : H p = none) (h2 : H' p = some (.lst vs)) (hf : F' p = none) (hr : Prs T F' xs vs) (q : OwnK (owL T) H Q xs F' H') : Q (.ref p) H' := by
  refine q (.ref p) (one p (.lst vs)) (fun b z => ?_) (fun b => ?_) (fun b o z => ?_) ⟨p, vs, rfl, rfl, hr⟩
  · unfold one at z; split at z
    · rename_i e; rw [e]; exact hp
    · exact absurd rfl z
  · unfold one; split
    · rename_i e; rw [e]; exact .inl hf
    · exact .inr rfl
  · unfold one at z; split at z
    · rename_i e; rw [e]; cases z; exact h2
    · cases z
theorem own_upd {vs : List V} {xs : List α} {p : Addr} {Q : VK} (hs : Same F H) (hp : H p = none) (hr : Prs T F xs vs) (q : After K (.ok xs) E F H (OwnK (owL T) H Q)) : Q (.ref p) (upd H p (.lst vs)) :=
  own_new hp upd_same (hs.free hp) hr (q F _ (.heap hs (same_new hp _)))
theorem ea_nil : EvA K tNil E L (.ok ()) csNil := fun σ F H Q hL hs q => q.ok hs [] rfl
theorem ea_last (h : EvF K e E L r T) : EvA K (tCons e tNil) E L r (csLast T) := by
  intro σ F H Q hL hs q
  exact h σ F H _ hL hs (q.imp fun a F1 H1 x k v hv => k [v] ⟨v, rfl, hv⟩)
theorem ea_cons {ta : TA} {r2 : Mo γ} {C : Cs γ} (h : EvF K e E L r T) (h2 : EvA K ta E L r2 C) : EvA K (tCons e ta) E L (r.bind fun a => r2.bind fun c => .ok (a, c)) (csCons T C) := by
  intro σ F H Q hL hs q
  refine h σ F H _ hL hs (q.bind.imp fun a F1 H1 x1 k1 v1 hv1 => ?_)
  refine h2 σ F1 H1 _ (hL.mono x1.1) x1.2.1 (k1.bind.imp fun c F2 H2 x2 k2 vs hvs => ?_)
  exact k2.ok x2.2.1 (v1 :: vs) ⟨v1, vs, rfl, T.mono x2.1 hv1, hvs⟩
def Ct (K : PySem.W.Frag) (C : Cs γ) (f : γ → Mo ρ) (O : Own ρ) : Sp := fun vs H Q E => ∃ F c, Same F H ∧ C.R c vs F ∧ After K (f c) E F H (OwnK O H Q)
theorem ev_call0 {C : Cs γ} {f : γ → Mo ρ} {O : Own ρ} {ta : TA} {r : Mo γ} (h : EvA K ta E L r C) : EvO K (tCall (Ct K C f O) [] E0 ta) E L (r.bind fun c => (f c).noex) O := by
  intro σ F H Q hL hs q
  refine h σ F H _ hL hs (q.bind.imp fun c F1 H1 x1 k1 vs hvs => ?_)
  rw [List.append_nil]
  exact ⟨F1, c, x1.2.1, hvs, k1.noex.imp fun r F2 H2 x2 k2 => k2.back x1.2.2.1⟩
def Bl (K : PySem.W.Frag) (m : List V → Hp → VK → Prop) (E : XK) (C : Cs γ) (g : γ → Mo α) (T : Ty α) : Prop :=
  ∀ c vs F H (Q : VK), Same F H → C.R c vs F → After K (g c) E F H (fun c F' H' => ∀ v, T.R c v F' → Q v H') → m vs H Q
theorem ev_cb {m : List V → Hp → VK → Prop} {C : Cs γ} {g : γ → Mo α} {ta : TA} {r : Mo γ} (hb : Bl K m E C g T) (h : EvA K ta E L r C) : EvF K (tCB m ta) E L (r.bind g) T := by
  intro σ F H Q hL hs q
  exact h σ F H _ hL hs (q.bind.imp fun c F1 H1 x1 k1 vs hvs => hb c vs F1 H1 Q x1.2.1 hvs k1)
theorem bl_lenSc : Bl K (mLen K) E (csLast (tySc K)) (fun l => .ok (l.length : Int)) tyInt := by
  rintro c vs F H Q hs ⟨v, rfl, p, rfl, h⟩ q
  exact ⟨_, .inl (hs.seq h), q.ok hs _ (by rw [List.length_map])⟩
theorem bl_str : Bl K mStr E (csLast tyInt) (fun i => .grd (i.natAbs.log2 < 1920) (.ok (strI i))) tyStr := by
  rintro c vs F H Q hs ⟨v, rfl, rfl⟩ q
  obtain ⟨z, q⟩ := q.grd
  exact ⟨z, q.ok hs _ rfl⟩
theorem prs_int {xs : List Int} : Prs tyInt H xs (xs.map V.int) := by
  induction xs with
  | nil => exact .nil
  | cons x xs ih => exact .cons rfl ih
theorem op_ixS : Op2 K (mIx K) E tyStr tyInt (fun l i => .lim l.length (.opt ((atI l i).map fun c => [c]))) tyStr := by
  rintro a b x y F H Q hs rfl rfl q
  obtain ⟨z, q⟩ := q.lim
  obtain ⟨l, e, q⟩ := q.opt
  refine ⟨z, ?_⟩
  show (match atI a b with | some c => Q (tx [c]) H | none => False)
  cases e1 : atI a b with
  | none => rw [e1] at e; cases e
  | some c => rw [e1] at e; cases e; exact q.ok hs _ rfl
theorem atI_prs {xs : List α} {vs : List V} (r : Prs T H xs vs) {i : Int} {x : α} (e : atI xs i = some x) : ∃ v, atI vs i = some v ∧ T.R x v H := by
  unfold atI at e ⊢
  rw [← r.len]
  cases e1 : ixN xs.length i with
  | none => rw [e1] at e; cases e
  | some j =>
    rw [e1] at e
    rcases r.get j with ⟨a, b⟩ | ⟨y, v, a, b, c⟩
    · have : xs[j]? = some x := e
      rw [a] at this; cases this
    · have : xs[j]? = some x := e
      rw [a] at this; cases this
      exact ⟨v, b, c⟩
theorem op_ixL : Op2 K (mIx K) E (tyL T) tyInt (fun l i => .opt (atI l i)) T := by
  rintro a b x y F H Q hs ⟨p, vs, rfl, h, r⟩ rfl q
  obtain ⟨l, e, q⟩ := q.opt
  refine ⟨vs, .inl (.of (hs _ _ h)), ?_⟩
  obtain ⟨v, e2, rv⟩ := atI_prs r e
  rw [e2]
  exact q.ok hs v rv
theorem op_ixSc : Op2 K (mIx K) E (tySc K) tyInt (fun l i => .opt (atI l i)) tyInt := by
  rintro a b x y F H Q hs ⟨p, rfl, h⟩ rfl q
  obtain ⟨l, e, q⟩ := q.opt
  refine ⟨_, .inl (hs.seq h), ?_⟩
  obtain ⟨v, e2, rv⟩ := atI_prs (H := F) prs_int e
  rw [e2]
  exact q.ok hs v rv
def CsAt (C : Cs γ) (i : Nat) (T : Ty α) (pr : γ → α) : Prop := ∀ {c vs H}, C.R c vs H → ∃ v, vs[i]? = some v ∧ T.R (pr c) v H
theorem at_last : CsAt (csLast T) 0 T id := fun ⟨v, e, h⟩ => ⟨v, by rw [e]; rfl, h⟩
theorem at_0 {C : Cs γ} : CsAt (csCons T C) 0 T Prod.fst := fun ⟨v, us, e, h, q⟩ => ⟨v, by rw [e]; rfl, h⟩
theorem at_s {C : Cs γ} {i : Nat} {pr : γ → α} {T' : Ty β} (h : CsAt C i T pr) : CsAt (csCons T' C) (i + 1) T (fun c => pr c.2) := fun ⟨v, us, e, _, q⟩ => by
  obtain ⟨w, e2, r⟩ := h q
  exact ⟨w, by rw [e]; exact e2, r⟩
end
end L2
namespace L2
open PySem PySem.Spec PyProof.Rows
section
variable {K : PySem.W.Frag} {E : XK} {α β γ ρ : Type} {F H : Hp} {L : List Sl} {e e1 e2 : TE} {T : Ty α} {r : Mo α}
variable {t t1 t2 : TT} {b b1 b2 : Mo Bool}
theorem et_val (h : EvF K e E L b tyBl) : EvT K (mTest e) E L b := by
  intro σ F H Q hL hs q
  refine h σ F H _ hL hs (q.imp fun a F1 H1 x k v hv => ?_)
  cases hv
  exact k
theorem et_not (h : EvT K t E L b) : EvT K (tNot t) E L (b.bind fun c => .ok (!c)) := by
  intro σ F H Q hL hs q
  exact h σ F H _ hL hs (q.bind.imp fun a F1 H1 x k => k.ok x.2.1)
theorem et_or (h1 : EvT K t1 E L b1) (h2 : EvT K t2 E L b2) : EvT K (mOr t1 t2) E L (b1.bind fun c => if c then .ok true else b2) := by
  intro σ F H Q hL hs q
  refine h1 σ F H _ hL hs (q.bind.imp fun a F1 H1 x k => ⟨fun c => ?_, fun c => ?_⟩)
  · rw [if_pos c] at k; exact k.ok x.2.1
  · rw [if_neg (by rw [c]; decide)] at k; exact h2 σ F1 H1 _ (hL.mono x.1) x.2.1 k
theorem ev_and (h1 : EvF K e1 E L b1 tyBl) (h2 : EvF K e2 E L b2 tyBl) : EvF K (mAndV e1 e2) E L (b1.bind fun c => if c then b2 else .ok false) tyBl := by
  intro σ F H Q hL hs q
  refine h1 σ F H _ hL hs (q.bind.imp fun a F1 H1 x k v hv => ?_)
  cases hv
  refine ⟨fun c => ?_, fun c => ?_⟩
  · rw [if_pos c] at k; exact h2 σ F1 H1 _ (hL.mono x.1) x.2.1 k
  · rw [if_neg (by rw [c]; decide)] at k; exact k.ok x.2.1 _ rfl
theorem ev_or (h1 : EvF K e1 E L b1 tyBl) (h2 : EvF K e2 E L b2 tyBl) : EvF K (mOrV e1 e2) E L (b1.bind fun c => if c then .ok true else b2) tyBl := by
  intro σ F H Q hL hs q
  refine h1 σ F H _ hL hs (q.bind.imp fun a F1 H1 x k v hv => ?_)
  cases hv
  refine ⟨fun c => ?_, fun c => ?_⟩
  · rw [if_pos c] at k; exact k.ok x.2.1 _ rfl
  · rw [if_neg (by rw [c]; decide)] at k; exact h2 σ F1 H1 _ (hL.mono x.1) x.2.1 k
theorem ev_not (h1 : EvF K e1 E L b1 tyBl) : EvF K (mNotV e1) E L (b1.bind fun c => .ok (!c)) tyBl := by
  intro σ F H Q hL hs q
  refine h1 σ F H _ hL hs (q.bind.imp fun a F1 H1 x k v hv => ?_)
  cases hv
  exact k.ok x.2.1 _ rfl
theorem After.more {k : α → Hp → Hp → Prop} (h : After K r E F H k) : After K r E F H fun a F1 H1 => ∀ F2 H2, Ext F1 H1 F2 H2 → k a F2 H2 := by
  cases r with
  | ok a => exact fun F1 H1 x F2 H2 y => h F2 H2 (x.trans y)
  | ex c => exact h
  | no => exact h
def CsN (C : Cs γ) (n : Nat) : Prop := ∀ {c vs H}, C.R c vs H → vs.length = n
theorem csn_nil : CsN csNil 0 := fun e => by rw [e]; rfl
theorem csn_last : CsN (csLast T) 1 := fun ⟨v, e, _⟩ => by rw [e]; rfl
theorem csn_cons {C : Cs γ} {n : Nat} (h : CsN C n) : CsN (csCons T C) (n + 1) := fun ⟨v, us, e, _, q⟩ => by rw [e, List.length_cons, h q]
def CsL (C : Cs γ) (T : Ty α) (f : γ → List α) : Prop := ∀ {c vs H}, C.R c vs H → Prs T H (f c) vs
theorem csl_last : CsL (csLast T) T fun a => [a] := fun ⟨v, e, h⟩ => by rw [e]; exact .cons h .nil
theorem csl_cons {C : Cs γ} {f : γ → List α} (h : CsL C T f) : CsL (csCons T C) T fun c => c.1 :: f c.2 := fun ⟨v, us, e, q, z⟩ => by rw [e]; exact .cons q (h z)
theorem ev_lst {ta : TA} {C : Cs γ} {r : Mo γ} {n : Nat} {f : γ → List α} (hl : CsN C n) (hf : CsL C T f) (h : EvA K ta E L r C) (hn : n ≤ 100 := by decide) : EvO K (tLst ta) E L (r.bind fun c => .ok (f c)) (owL T) := by
  intro σ F H Q hL hs q
  refine h σ F H _ hL hs (q.bind.imp fun c F1 H1 x1 k1 vs hvs => ⟨small_n (by rw [hl hvs]; omega), fun p hp => ?_⟩)
  exact own_upd x1.2.1 hp (hf hvs) (k1.imp fun a F2 H2 x2 k2 => k2.back x1.2.2.1)
def EvP (K : PySem.W.Frag) (t : TO) (E : XK) (L : List Sl) (r : Mo (Option Int)) : Prop :=
  ∀ σ F H (Q : Option Int → Hp → Prop), HoldF L σ F → Same F H → After K r E F H (fun b _ H' => Q b H') → t σ H Q
theorem ep_of {r : Mo Int} (h : EvF K e E L r tyInt) : EvP K (mPart e) E L (r.bind fun i => .ok (some i)) := by
  intro σ F H Q hL hs q
  refine h σ F H _ hL hs (q.bind.imp fun a F1 H1 x k v hv => ?_)
  cases hv
  exact k.ok x.2.1
def cutG (xs : List α) (lo hi : Option Int) : List α := (xs.drop (HT.sIx xs.length 0 lo)).take (HT.sIx xs.length xs.length hi - HT.sIx xs.length 0 lo)
theorem prs_cut {xs : List α} {vs : List V} (q : Prs T H xs vs) (lo hi : Option Int) : Prs T H (cutG xs lo hi) (cutV vs lo hi) := by
  unfold cutG cutV
  rw [← q.len]
  exact (q.drop _).take _
variable {tl th : TO} {rl rh : Mo (Option Int)}
theorem ev_slSc {r : Mo (List Int)} (h : EvF K e E L r (tySc K)) (hl : EvP K tl E L rl) (hh : EvP K th E L rh) : EvO K (tSl (mSl K) e tl th) E L (r.bind fun l => rl.bind fun a => rh.bind fun b => .ok (cutG l a b)) (owL tyInt) := by
  intro σ F H Q hL hs q
  refine h σ F H _ hL hs (q.bind.imp fun l F1 H1 x1 k1 v hv => ?_)
  refine hl σ F1 H1 _ (hL.mono x1.1) x1.2.1 (k1.bind.imp fun a F2 H2 x2 k2 => ?_)
  refine hh σ F2 H2 _ (hL.mono (x1.1.trans x2.1)) x2.2.1 (k2.bind.imp fun b F3 H3 x3 k3 => ?_)
  obtain ⟨p, rfl, hp⟩ := hv
  have x := x2.1.trans x3.1
  exact ⟨_, x3.2.1.seq (x.seq hp), fun q hq => own_upd x3.2.1 hq (prs_cut prs_int a b) (k3.imp fun _ _ _ _ z => z.back ((x1.2.2.1.trans x2.2.2.1).trans x3.2.2.1))⟩
theorem EqD.le {H : Hp} {n m : Nat} {x y : V} {b : Bool} (h : EqD K H n x y b) (g : n ≤ m) : EqD K H m x y b := by
  induction g with
  | refl => exact h
  | step _ ih => exact .up ih
theorem op_eqI : Op2 K (mEqK K) E tyInt tyInt (fun a b => .ok (decide (a = b))) tyBl := by
  rintro a b x y F H Q hs rfl rfl k
  exact k.ok hs _ rfl
theorem op_neI : Op2 K (mNeK K) E tyInt tyInt (fun a b => .ok (!decide (a = b))) tyBl := by
  rintro a b x y F H Q hs rfl rfl k
  exact k.ok hs _ rfl
theorem op_neB : Op2 K (mNeK K) E tyBl tyBl (fun a b => .ok (!decide (a = b))) tyBl := by
  rintro a b x y F H Q hs rfl rfl k
  exact k.ok hs _ rfl
theorem op_neS : Op2 K (mNeK K) E tyStr tyStr (fun a b => .ok (!decide (a = b))) tyBl := by
  rintro a b x y F H Q hs rfl rfl k
  exact k.ok hs _ rfl
def TyN (K : PySem.W.Frag) (T : Ty α) (n : String) : Prop := ∀ {a x H}, T.R a x H → tyS K H x n
theorem tn_int : TyN K tyInt "int" := fun h => by cases h; rfl
theorem tn_bl : TyN K tyBl "bool" := fun h => by cases h; rfl
theorem tn_str : TyN K tyStr "str" := fun h => by cases h; rfl
theorem isa_any {x : V} {n c : String} {bb : Bool} {Q : VK} (h : tyS K H x n) (hb : isaB n c = some bb) (q : Q (.bl bb) H) : mIsa K [x, .ty c] H Q := by
  cases x with
  | non => cases (show n = _ from h); show (match isaB "NoneType" c with | some b => Q (.bl b) H | none => False); rw [hb]; exact q
  | bl _ => cases (show n = _ from h); show (match isaB "bool" c with | some b => Q (.bl b) H | none => False); rw [hb]; exact q
  | int _ => cases (show n = _ from h); show (match isaB "int" c with | some b => Q (.bl b) H | none => False); rw [hb]; exact q
  | str _ => cases (show n = _ from h); show (match isaB "str" c with | some b => Q (.bl b) H | none => False); rw [hb]; exact q
  | ref p => exact ⟨n, h, by rw [hb]; exact q⟩
  | _ => exact h.elim
theorem ev_isa {n c : String} {bb : Bool} (hn : TyN K T n) (h : EvF K e E L r T) (hb : isaB n c = some bb := by decide) : EvF K (tCB (mIsa K) (tCons e (tCons (tC (.ty c)) tNil))) E L (r.bind fun _ => .ok bb) tyBl := by
  intro σ F H Q hL hs q
  refine h σ F H _ hL hs (q.bind.imp fun l F1 H1 x1 k1 v hv => ?_)
  exact isa_any (hn (T.mono x1.2.1 hv)) hb (k1.ok x1.2.1 _ rfl)
def Me (K : PySem.W.Frag) (m : V → List V → Hp → VK → Prop) (E : XK) (C : Cs γ) (g : List Nat → γ → Mo α) (T : Ty α) : Prop :=
  ∀ l c vs F H (Q : VK), Same F H → C.R c vs F → After K (g l c) E F H (fun c F' H' => ∀ v, T.R c v F' → Q v H') → m (tx l) vs H Q
theorem ev_me {m : V → List V → Hp → VK → Prop} {C : Cs γ} {g : List Nat → γ → Mo α} {ta : TA} {r0 : Mo (List Nat)} {r : Mo γ} (hb : Me K m E C g T) (h0 : EvF K e E L r0 tyStr) (h : EvA K ta E L r C) : EvF K (tBM K "str" m e ta) E L (r0.bind fun l => r.bind fun c => g l c) T := by
  intro σ F H Q hL hs q
  refine h0 σ F H _ hL hs (q.bind.imp fun l F1 H1 x1 k1 v hv => ?_)
  cases hv
  refine ⟨rfl, h σ F1 H1 _ (hL.mono x1.1) x1.2.1 (k1.bind.imp fun c F2 H2 x2 k2 vs hvs => hb l c vs F2 H2 Q x2.2.1 hvs k2)⟩
def zfL (l : List Nat) (i : Int) : List Nat := (Txt.zfill ⟨l.toArray⟩ i).cps.toList
theorem me_zfill : Me K mZfill E (csLast tyInt) (fun l i => .grd (PadOk i = true) (.ok (zfL l i))) tyStr := by
  rintro l c vs F H Q hs ⟨v, rfl, rfl⟩ k
  obtain ⟨z, k⟩ := k.grd
  exact ⟨z, k.ok hs _ rfl⟩
end
end L2
namespace L2
open PySem PySem.Spec PyProof.Rows
section
variable {K : PySem.W.Frag} {E : XK} {α β γ ρ S S' B : Type} {F H : Hp} {L : List Sl} {e e1 e2 : TE} {T : Ty α} {r : Mo α}
def setL (L : List Sl) (ss : List (Nat × Sl)) : List Sl := ss.foldl (fun L q => L.set q.1 q.2) L
def setS (σ : St) (ss : List (Nat × Option V)) : St := ss.foldl (fun L q => L.set q.1 q.2) σ
inductive Plain (F : Hp) : List (Nat × Sl) → List (Nat × Option V) → Prop
  | nil : Plain F [] []
  | cons {α : Type} {T : Ty α} {a : α} {i : Nat} {v : V} {ss vs} (h : T.R a v F) (t : Plain F ss vs) : Plain F ((i, .fz T a) :: ss) ((i, some v) :: vs)
def TgR (K : PySem.W.Frag) (g : TG) (T : Ty α) (ss : α → List (Nat × Sl)) : Prop :=
  ∀ a v σ F H (Q : St → Hp → Prop), Same F H → T.R a v F → (∀ vs, Plain F (ss a) vs → Q (setS σ vs) H) → g v σ H Q
theorem tg_name (i : Nat) : TgR K (gName i) T fun a => [(i, .fz T a)] := by
  intro a v σ F H Q hs hv q
  exact q [(i, some v)] (.cons hv .nil)
structure Yl (K : PySem.W.Frag) (J : It) (xs : List α) (T : Ty α) (F1 : Hp) : Prop where
  go : ∀ i H x, Same F1 H → xs[i]? = some x → J.go i H ∧ ∀ v H', J.yld i H v H' → ∀ F, Same F1 F → Same F H → ∃ F', Ext F H F' H' ∧ T.R x v F'
  stop : ∀ H, Same F1 H → J.stop xs.length H
def EvI (K : PySem.W.Frag) (wi : TI) (E : XK) (L : List Sl) (r : Mo (List α)) (T : Ty α) : Prop :=
  ∀ σ F H (R : It → Hp → Prop), HoldF L σ F → Same F H → After K r E F H (fun xs F' H' => ∀ J, Yl K J xs T F' → R J H') → wi σ H R
theorem ei_l {r : Mo (List α)} (h : EvF K e E L r (tyL T)) : EvI K (iAny K e) E L r T := by
  intro σ F H R hL hs q
  refine h σ F H _ hL hs (q.imp fun l F1 H1 x1 k1 v hv => ?_)
  obtain ⟨p, vs, rfl, hp, hr⟩ := hv
  refine .inl ⟨⟨vs, .of (x1.2.1 _ _ hp)⟩, k1 _ ⟨fun i H x hH hx => ?_, fun H hH => ⟨vs, .of (hH _ _ hp), by rw [hr.len]; exact Nat.le_refl _⟩⟩⟩
  rcases hr.get i with ⟨a, _⟩ | ⟨y, u, a, b, c⟩
  · rw [a] at hx; cases hx
  · rw [a] at hx; cases hx
    refine ⟨⟨vs, u, .of (hH _ _ hp), b⟩, ?_⟩
    rintro v H' ⟨rfl, z⟩ F hF hF'
    have e := z vs (.of (hH _ _ hp))
    rw [b] at e; cases e
    exact ⟨F, .refl hF', T.mono hF c⟩
def rngI (lo : Int) (n : Nat) : List Int := (List.range n).map fun (i : Nat) => lo + i
theorem yl_rng {lo : Int} {n : Nat} {F1 : Hp} : Yl K (Itr lo n) (rngI lo n) tyInt F1 := by
  refine ⟨fun i H x hH hx => ?_, fun H hH => ?_⟩
  · unfold rngI at hx
    rw [List.getElem?_map] at hx
    cases e : (List.range n)[i]? with
    | none => rw [e] at hx; cases hx
    | some c =>
      rw [e] at hx; cases hx
      obtain ⟨hi, e⟩ := List.getElem?_eq_some_iff.mp e
      rw [List.getElem_range] at e; subst e
      rw [List.length_range] at hi
      refine ⟨hi, ?_⟩
      rintro v H' ⟨rfl, rfl⟩ F _ hF
      exact ⟨F, .refl hF, rfl⟩
  · show n ≤ _
    unfold rngI; rw [List.length_map, List.length_range]; exact Nat.le_refl _
theorem ei_rng1 {r : Mo Int} {ta : TA} (h : EvA K ta E L r (csLast tyInt)) : EvI K (mRng1 ta) E L (r.bind fun j => .grd (-(2 ^ 62) ≤ j ∧ j < 2 ^ 62) (.ok (rngI 0 j.toNat))) tyInt := by
  intro σ F H R hL hs q
  refine h σ F H _ hL hs (q.bind.imp fun l F1 H1 x1 k1 v hv => ?_)
  obtain ⟨u, rfl, rfl⟩ := hv
  obtain ⟨z, k1⟩ := k1.grd
  exact ⟨z.1, z.2, k1.ok x1.2.1 _ yl_rng⟩
end
end L2
namespace L2
open PySem PySem.Spec PyProof.Rows
inductive Out (ρ B S : Type) where
  | nx (s : S) | rt (r : ρ) | bk (b : B) | ct (b : B)
def Okk (F0 H0 F h H : Hp) : Prop := Ext F0 H0 F H ∧ Dj F h ∧ Same h H ∧ (∀ p, h p ≠ none → H0 p = none) ∧ ∀ p xs, h p ≠ some (.tup xs)
section
variable {K : PySem.W.Frag} {E : XK} {α β γ ρ S S' B B' : Type} {F0 H0 F h H : Hp} {L : List Sl} {e e1 e2 : TE} {T : Ty α} {r : Mo α} {O : Own ρ}
def Fin (K : PySem.W.Frag) (r : Mo (Out ρ B S)) (E : XK) (LS : S → List Sl) (LB : B → List Sl) (O : Own ρ) (F0 H0 : Hp) (D : Ends) : Prop := match r with
  | .ok (.nx s) => ∀ σ F h H, Hold (LS s) σ F h → Okk F0 H0 F h H → D.nx σ H
  | .ok (.bk b) => ∀ σ F h H, Hold (LB b) σ F h → Okk F0 H0 F h H → D.bk σ H
  | .ok (.ct b) => ∀ σ F h H, Hold (LB b) σ F h → Okk F0 H0 F h H → D.ct σ H
  | .ok (.rt a) => ∀ v F h H, Okk F0 H0 F h H → O.O a v F h → D.rt v H
  | .ex c => ∀ F h H, Okk F0 H0 F h H → E (.ref (gA K c)) none H
  | .no => False
def EvS (K : PySem.W.Frag) (t : TS) (E : XK) (L : List Sl) (r : Mo (Out ρ B S)) (LS : S → List Sl) (LB : B → List Sl) (O : Own ρ) : Prop :=
  ∀ F0 H0 σ F h H (D : Ends), Hold L σ F h → Okk F0 H0 F h H → Fin K r E LS LB O F0 H0 D → t D σ H
variable {t u : TS} {LS : S → List Sl} {LS' : S' → List Sl} {LB : B → List Sl}
def thenO (r : Mo (Out ρ B S)) (k : S → Mo (Out ρ B S')) : Mo (Out ρ B S') := r.bind fun o => match o with | .nx s => k s | .rt a => .ok (.rt a) | .bk b => .ok (.bk b) | .ct b => .ok (.ct b)
theorem s_seq {r : Mo (Out ρ B S)} {k : S → Mo (Out ρ B S')} (h1 : EvS K t E L r LS LB O) (h2 : ∀ s, EvS K u E (LS s) (k s) LS' LB O) : EvS K (tSeq t u) E L (thenO r k) LS' LB O := by
  intro F0 H0 σ F h H D hL ok fin
  refine h1 F0 H0 σ F h H { D with nx := u D } hL ok ?_
  cases r with
  | no => exact fin
  | ex c => exact fin
  | ok o =>
    cases o with
    | nx s => exact fun σ F h H hL ok => h2 s F0 H0 σ F h H D hL ok fin
    | rt a => exact fin
    | bk b => exact fin
    | ct b => exact fin
theorem Okk.thaw (ok : Okk F0 H0 F h H) : Same (un F h) H := fun p o e => by
  unfold un at e
  cases z : F p with
  | some w => rw [z] at e; cases e; exact ok.1.2.1 _ _ z
  | none => rw [z] at e; exact ok.2.2.1 _ _ e
def less (G h : Hp) : Hp := fun p => match h p with | none => G p | some _ => none
theorem less_none {G h : Hp} {p : Addr} (e : h p = none) : less G h p = G p := by unfold less; rw [e]
theorem Okk.back (ok : Okk F0 H0 F h H) {G' H' : Hp} (x : Ext (un F h) H G' H') : Okk F0 H0 (less G' h) h H' ∧ Same F (less G' h) ∧ Tups G' (less G' h) := by
  obtain ⟨o1, o2, o3, o4, o5⟩ := ok
  have hs : Same F (less G' h) := fun p o e => by
    have hp : h p = none := by
      rcases o2 p with z | z
      · rw [z] at e; cases e
      · exact z
    rw [less_none hp]; exact x.1 _ _ (un_same _ _ e)
  refine ⟨⟨⟨o1.1.trans hs, fun p o e => ?_, o1.2.2.1.trans x.2.2.1, fun p a b => ?_⟩, fun p => ?_, fun p o e => ?_, o4, o5⟩, hs, fun p xs e => ?_⟩
  · unfold less at e
    split at e
    · exact x.2.1 _ _ e
    · cases e
  · unfold less at b
    split at b
    · rename_i z
      cases y : un F h p with
      | none => exact o1.2.2.1.free (x.2.2.2 p y b)
      | some o =>
        unfold un at y
        cases w : F p with
        | some _ => exact o1.2.2.2 p a (by rw [w]; exact Option.some_ne_none _)
        | none => rw [w, z] at y; cases y
    · exact absurd rfl b
  · unfold less
    cases z : h p with
    | none => exact .inr rfl
    | some o => exact .inl rfl
  · exact x.2.1 _ _ (x.1 _ _ (un_own o2 _ _ e))
  · unfold less
    cases z : h p with
    | none => exact e
    | some o =>
      have := x.1 _ _ (un_own o2 _ _ z)
      rw [e] at this; cases this
      exact absurd z (o5 p xs)
theorem fin_ok {r : Mo α} {k : α → Mo (Out ρ B S)} {G : Hp} {D : Ends} {kk : α → Hp → Hp → Prop} (ok : Okk F0 H0 F h H) (G1 : Hp) (hG : G1 = un F h ∨ G1 = F) (fin : Fin K (r.bind k) E LS LB O F0 H0 D)
    (hk : ∀ a F' H', r = .ok a → Ext G1 H F' H' → kk a F' H') : After K r E G1 H kk := by
  cases r with
  | ok a => exact fun F' H' x => hk a F' H' rfl x
  | no => exact fin
  | ex c =>
    intro F' H' x
    rcases hG with rfl | rfl
    · exact fin _ _ _ (ok.back x).1
    · refine fin F' h H' ⟨ok.1.trans x, fun p => ?_, ok.2.2.1.trans x.2.2.1, ok.2.2.2.1, ok.2.2.2.2⟩
      cases z : h p with
      | none => exact .inr rfl
      | some o =>
        left
        rcases ok.2.1 p with y | y
        · cases w : F' p with
          | none => rfl
          | some o' => have := x.2.2.2 p y (by rw [w]; exact Option.some_ne_none _); rw [ok.2.2.1 _ _ z] at this; cases this
        · rw [y] at z; cases z
theorem Okk.cold (ok : Okk F0 H0 F h H) {F' H' : Hp} (x : Ext F H F' H') : Okk F0 H0 F' h H' := by
  refine ⟨ok.1.trans x, fun p => ?_, ok.2.2.1.trans x.2.2.1, ok.2.2.2.1, ok.2.2.2.2⟩
  cases z : h p with
  | none => exact .inr rfl
  | some o =>
    left
    rcases ok.2.1 p with y | y
    · cases w : F' p with
      | none => rfl
      | some o' => have := x.2.2.2 p y (by rw [w]; exact Option.some_ne_none _); rw [ok.2.2.1 _ _ z] at this; cases this
    · rw [y] at z; cases z
theorem hold_setF {i : Nat} {s : Sl} {σ : St} {a : α} {v : V} (hi : L[i]? = some s) (hL : Hold L σ F h) (hv : T.R a v F) : Hold (L.set i (.fz T a)) (σ.set i (some v)) F h := by
  obtain ⟨o, h1, h2, _, j, _, f⟩ := hL.at i hi
  exact f (.fz T a) (some v) h1 h j ⟨v, rfl, hv⟩
theorem hold_setO {i : Nat} {s : Sl} {σ : St} {a : α} {v : V} {O1 : Own α} {hn : Hp} (ok : Okk F0 H0 F h H) (hi : L[i]? = some s) (hL : Hold L σ F h) (fresh : ∀ p, hn p ≠ none → H0 p = none) (dj : Dj F hn) (dh : Dj hn h) (hs : Same hn H) (hv : O1.O a v F hn) :
    ∃ h', Hold (L.set i (.ow O1 a)) (σ.set i (some v)) F h' ∧ Okk F0 H0 F h' H := by
  obtain ⟨o, h1, h2, _, j, _, f⟩ := hL.at i hi
  have d2 : Dj hn h2 := fun p => by
    rcases dh p with z | z
    · exact .inl z
    · exact .inr (j.r.free z)
  refine ⟨un hn h2, f (.ow O1 a) (some v) hn _ (jn_of d2) ⟨v, rfl, hv⟩, ok.1, fun p => ?_, fun p o e => ?_, fun p e => ?_, fun p xs e => ?_⟩
  · unfold un
    cases z : hn p with
    | some w =>
      rcases dj p with y | y
      · exact .inl y
      · rw [y] at z; cases z
    | none =>
      rcases ok.2.1 p with y | y
      · exact .inl y
      · exact .inr (j.r.free y)
  · unfold un at e
    cases z : hn p with
    | some w => rw [z] at e; cases e; exact hs _ _ z
    | none => rw [z] at e; exact ok.2.2.1 _ _ (j.r _ _ e)
  · unfold un at e
    cases z : hn p with
    | some w => exact fresh p (by rw [z]; exact Option.some_ne_none _)
    | none =>
      rw [z] at e
      cases y : h2 p with
      | none => exact absurd y e
      | some w => exact ok.2.2.2.1 p (by rw [j.r _ _ y]; exact Option.some_ne_none _)
  · unfold un at e
    cases z : hn p with
    | some w => rw [z] at e; cases e; exact O1.notup hv p xs z
    | none => rw [z] at e; exact ok.2.2.2.2 p xs (j.r _ _ e)
theorem s_asg {i : Nat} {s : Sl} {k : α → Mo (Out ρ B S)} (hi : L[i]? = some s) (hT : Imm T) (he : EvF K e E L r T) (hk : ∀ a, EvS K u E (L.set i (.fz T a)) (k a) LS LB O) : EvS K (tSeq (tAsg e (gName i)) u) E L (r.bind k) LS LB O := by
  intro F0 H0 σ F h H D hL ok fin
  refine he σ (un F h) H _ (hL.froz ok.2.1) ok.thaw (fin_ok (G := F) ok _ (.inl rfl) fin fun a F' H' hr x v hv => ?_)
  obtain ⟨o, hs, ht⟩ := ok.back x
  rw [hr] at fin
  exact hk a F0 H0 _ _ h H' D (hold_setF hi (hL.mono hs) (hT ht hv)) o fin
theorem dj_own {hn h : Hp} (hh : Same h H) (fresh : ∀ p, hn p ≠ none → H p = none) : Dj hn h := fun p => by
  cases z : hn p with
  | none => exact .inl rfl
  | some w =>
    have := fresh p (by rw [z]; exact Option.some_ne_none _)
    exact .inr (hh.free this)
theorem s_asgO {i : Nat} {s : Sl} {O1 : Own α} {k : α → Mo (Out ρ B S)} (hi : L[i]? = some s) (hO : ImmO O1) (he : EvO K e E L r O1) (hk : ∀ a, EvS K u E (L.set i (.ow O1 a)) (k a) LS LB O) : EvS K (tSeq (tAsg e (gName i)) u) E L (r.bind k) LS LB O := by
  intro F0 H0 σ F h H D hL ok fin
  refine he σ (un F h) H _ (hL.froz ok.2.1) ok.thaw (fin_ok (G := F) ok _ (.inl rfl) fin fun a F' H' hr x v hn fresh dj hsn hv => ?_)
  obtain ⟨o, hs, ht⟩ := ok.back x
  rw [hr] at fin
  have dj' : Dj (less F' h) hn := fun p => by
    unfold less
    cases z : h p with
    | none => exact dj p
    | some w => exact .inl rfl
  obtain ⟨h', a1, a2⟩ := hold_setO o hi (hL.mono hs) (fun p z => ok.1.2.2.1.free (fresh p z)) dj' (dj_own ok.2.2.1 fresh) hsn (hO ht hv)
  exact hk a F0 H0 _ _ h' H' D a1 a2 fin
theorem s_asgOC {i : Nat} {s : Sl} {O1 : Own α} {k : α → Mo (Out ρ B S)} (hi : L[i]? = some s) (he : EvO K e E (L.map Sl.cold) r O1) (hk : ∀ a, EvS K u E (L.set i (.ow O1 a)) (k a) LS LB O) : EvS K (tSeq (tAsg e (gName i)) u) E L (r.bind k) LS LB O := by
  intro F0 H0 σ F h H D hL ok fin
  refine he σ F H _ hL.coldF ok.1.2.1 (fin_ok (G := F) ok _ (.inr rfl) fin fun a F' H' hr x v hn fresh dj hsn hv => ?_)
  rw [hr] at fin
  obtain ⟨h', a1, a2⟩ := hold_setO (ok.cold x) hi (hL.mono x.1) (fun p z => ok.1.2.2.1.free (fresh p z)) dj (dj_own ok.2.2.1 fresh) hsn hv
  exact hk a F0 H0 _ _ h' H' D a1 a2 fin
theorem set_self {α : Type} {l : List α} {i : Nat} {o : α} (h : l[i]? = some o) : l.set i o = l := by
  obtain ⟨hi, e⟩ := List.getElem?_eq_some_iff.mp h
  rw [← e]; exact List.set_getElem_self hi
theorem s_frz {i : Nat} {O1 : Own α} {a : α} {r : Mo (Out ρ B S)} (hi : L[i]? = some (.ow O1 a)) (hk : EvS K u E (L.set i (.fz O1.fr a)) r LS LB O) : EvS K u E L r LS LB O := by
  intro F0 H0 σ F h H D hL ok fin
  obtain ⟨o, h1, h2, e1, j, ⟨v, e2, hv⟩, f⟩ := hL.at i hi
  obtain ⟨o1, o2, o3, o4, o5⟩ := ok
  have dj1 : Dj F h1 := fun p => by
    rcases o2 p with z | z
    · exact .inl z
    · exact .inr (j.l.free z)
  have dj2 : Dj F h2 := fun p => by
    rcases o2 p with z | z
    · exact .inl z
    · exact .inr (j.r.free z)
  have g1 : Hold (L.set i (.dead)) σ F h2 := by
    have := f .dead o (fun _ => none) h2 (fun p => .inl ⟨rfl, rfl⟩) trivial
    rwa [set_self e1] at this
  have g2 : Hold (L.set i (.fz O1.fr a)) σ (un F h1) h2 := by
    have g3 := g1.mono (un_same (h := h1))
    have hi' : (L.set i Sl.dead)[i]? = some .dead := by
      rw [List.getElem?_set_self]
      exact (List.getElem?_eq_some_iff.mp hi).1
    have := hold_setF (T := O1.fr) hi' g3 (O1.frz dj1 hv)
    rw [List.set_set] at this
    subst e2
    rwa [set_self e1] at this
  refine hk F0 H0 σ _ h2 H D g2 ⟨⟨o1.1.trans un_same, fun p o e => ?_, o1.2.2.1, fun p a b => ?_⟩, fun p => ?_, j.r.trans o3, fun p z => ?_, fun p xs e => o5 p xs (j.r _ _ e)⟩ fin
  · unfold un at e
    cases z : F p with
    | some w => rw [z] at e; cases e; exact o1.2.1 _ _ z
    | none => rw [z] at e; exact o3 _ _ (j.l _ _ e)
  · unfold un at b
    cases z : F p with
    | some w => exact o1.2.2.2 p a (by rw [z]; exact Option.some_ne_none _)
    | none =>
      rw [z] at b
      cases y : h1 p with
      | none => exact absurd y b
      | some w => exact o4 p (by rw [j.l _ _ y]; exact Option.some_ne_none _)
  · unfold un
    cases z : F p with
    | some w =>
      rcases dj2 p with y | y
      · rw [y] at z; cases z
      · exact .inr y
    | none => exact j.dj p
  · cases y : h2 p with
    | none => exact absurd y z
    | some w => exact o4 p (by rw [j.r _ _ y]; exact Option.some_ne_none _)
theorem s_ret {r : Mo ρ} (hO : ImmO O) (he : EvO K e E L r O) : EvS K (tRet e) E L (r.bind fun a => .ok (.rt a)) LS LB O := by
  intro F0 H0 σ F h H D hL ok fin
  refine he σ (un F h) H _ (hL.froz ok.2.1) ok.thaw (fin_ok (G := F) ok _ (.inl rfl) fin fun a F' H' hr x v hn fresh dj hsn hv => ?_)
  obtain ⟨o, hs, ht⟩ := ok.back x
  rw [hr] at fin
  refine fin v _ hn H' ⟨o.1, fun p => ?_, hsn, fun p z => ok.1.2.2.1.free (fresh p z), O.notup hv⟩ (hO ht hv)
  unfold less
  cases z : h p with
  | none => exact dj p
  | some w => exact .inl rfl
theorem s_if {c : TT} {b : Mo Bool} {r1 r2 : Mo (Out ρ B S)} (hc : EvT K c E L b) (h1 : EvS K t E L r1 LS LB O) (h2 : EvS K u E L r2 LS LB O) : EvS K (mIfS c t u) E L (b.bind fun c => if c then r1 else r2) LS LB O := by
  intro F0 H0 σ F h H D hL ok fin
  refine hc σ (un F h) H _ (hL.froz ok.2.1) ok.thaw (fin_ok (G := F) ok _ (.inl rfl) fin fun a F' H' hr x => ?_)
  obtain ⟨o, hs, ht⟩ := ok.back x
  rw [hr] at fin
  have fin' : Fin K (if a then r1 else r2) E LS LB O F0 H0 D := fin
  refine ⟨fun z => ?_, fun z => ?_⟩
  · rw [if_pos z] at fin'; exact h1 F0 H0 σ _ h H' D (hL.mono hs) o fin'
  · rw [if_neg (by rw [z]; decide)] at fin'; exact h2 F0 H0 σ _ h H' D (hL.mono hs) o fin'
inductive Sub : List Sl → List Sl → Prop
  | nil : Sub [] []
  | same {s : Sl} {L L' : List Sl} (h : Sub L L') : Sub (s :: L) (s :: L')
  | dead {s : Sl} {L L' : List Sl} (h : Sub L L') : Sub (s :: L) (.dead :: L')
theorem Sub.hold {L L' : List Sl} (w : Sub L L') : ∀ {σ : St} {F h : Hp}, Hold L σ F h → Hold L' σ F h := by
  induction w with
  | nil => exact fun h => h
  | same _ ih =>
    intro σ F h q
    cases σ with
    | nil => exact q.elim
    | cons o σ => obtain ⟨h1, h2, j, p, r⟩ := q; exact ⟨h1, h2, j, p, ih r⟩
  | dead _ ih =>
    intro σ F h q
    cases σ with
    | nil => exact q.elim
    | cons o σ => obtain ⟨h1, h2, j, p, r⟩ := q; exact ⟨h1, h2, j, trivial, ih r⟩
theorem s_nextW {s : S} (w : Sub L (LS s)) : EvS K tNext E L (.ok (.nx s)) LS LB O := fun F0 H0 σ F h H D hL ok fin => fin σ F h H (w.hold hL) ok
theorem s_end {r : Mo (Out ρ B S)} (h : EvS K (tSeq t tNext) E L r LS LB O) : EvS K t E L r LS LB O := h
def forO (step : S → α → Mo (Out ρ S S)) : List α → S → Mo (Out ρ B S)
  | [], s => .ok (.nx s)
  | x :: xs, s => (step s x).bind fun o => match o with | .nx s' => forO step xs s' | .ct s' => forO step xs s' | .bk s' => .ok (.nx s') | .rt a => .ok (.rt a)
theorem hold_plain {ss : List (Nat × Sl)} {vs : List (Nat × Option V)} (p : Plain F ss vs) : ∀ {L : List Sl} {σ : St}, Hold L σ F h → Hold (setL L ss) (setS σ vs) F h := by
  induction p with
  | nil => exact fun h => h
  | cons hv t ih =>
    rename_i T a i v ss vs
    intro L σ q
    refine ih (L := L.set i (.fz T a)) (σ := σ.set i (some v)) ?_
    by_cases hi : i < L.length
    · exact hold_setF (List.getElem?_eq_getElem hi) q hv
    · rw [List.set_eq_of_length_le (by omega), List.set_eq_of_length_le (by have := q.len; omega)]; exact q
theorem Okk.rebase {F1 H1 : Hp} (x : Ext F0 H0 F1 H1) (ok : Okk F0 H0 F h H) (s : Same F1 F) : Okk F1 H0 F h H := by
  obtain ⟨o1, o2, o3, o4, o5⟩ := ok
  refine ⟨⟨s, o1.2.1, o1.2.2.1, fun p a b => o1.2.2.2 p (x.1.free a) b⟩, o2, o3, o4, o5⟩
theorem Okk.unbase {F1 H1 : Hp} (x : Ext F0 H0 F1 H1) (ok : Okk F1 H0 F h H) : Okk F0 H0 F h H := by
  obtain ⟨o1, o2, o3, o4, o5⟩ := ok
  refine ⟨⟨x.1.trans o1.1, o1.2.1, o1.2.2.1, fun p a b => ?_⟩, o2, o3, o4, o5⟩
  cases z : F1 p with
  | none => exact o1.2.2.2 p z b
  | some w => exact x.2.2.2 p a (by rw [z]; exact Option.some_ne_none _)
theorem s_for {wi : TI} {g : TG} {tb : TS} {s0 : S} {r : Mo (List α)} {ss : α → List (Nat × Sl)} {step : S → α → Mo (Out ρ S S)} (hi : EvI K wi E ((LS s0).map Sl.cold) r T) (hg : TgR K g T ss)
    (hb : ∀ s a, EvS K tb E (setL (LS s) (ss a)) (step s a) LS LS O) : EvS K (tFor wi g tb) E (LS s0) (r.bind fun xs => forO step xs s0) LS LB O := by
  intro F0 H0 σ F h H D hL ok fin
  refine hi σ F H _ hL.coldF ok.1.2.1 (fin_ok (G := F) ok _ (.inr rfl) fin fun xs F1 H1 hr x1 J Y => ?_)
  rw [hr] at fin
  have xx := ok.1.trans x1
  refine ⟨fun i m σ H => m = xs.length - i ∧ i ≤ xs.length ∧ ∃ s F h, Hold (LS s) σ F h ∧ Okk F1 H0 F h H ∧ Fin K (forO (B := B) step (xs.drop i) s) E LS LB O F0 H0 D,
    ⟨_, rfl, Nat.zero_le _, s0, F1, h, hL.mono x1.1, (ok.cold x1).rebase xx (Same.refl _), fin⟩, ?_⟩
  rintro i m σ H ⟨rfl, hi, s, F, h, hL, ok, fin⟩
  have s1 : Same F1 H := ok.1.1.trans ok.1.2.1
  by_cases hlt : i < xs.length
  · right
    obtain ⟨g1, g2⟩ := Y.go i H xs[i] s1 (List.getElem?_eq_getElem hlt)
    refine ⟨g1, fun σ' H' => i + 1 ≤ xs.length ∧ ∃ s F h, Hold (LS s) σ' F h ∧ Okk F1 H0 F h H' ∧ Fin K (forO (B := B) step (xs.drop (i + 1)) s) E LS LB O F0 H0 D, fun σ' H' z => ⟨xs.length - (i + 1), by omega, rfl, z⟩, fun v H2 hy => ?_⟩
    obtain ⟨F2, x2, hv⟩ := g2 v H2 hy F ok.1.1 ok.1.2.1
    refine hg xs[i] v σ F2 H2 _ x2.2.1 hv fun vs hp => ?_
    refine hb s xs[i] F1 H0 _ F2 h H2 _ (hold_plain hp (hL.mono x2.1)) (ok.cold x2) ?_
    rw [List.drop_eq_getElem_cons hlt] at fin
    unfold forO at fin
    cases e : step s xs[i] with
    | no => rw [e] at fin; exact fin
    | ex c => rw [e] at fin; exact fun F h H ok => fin F h H (ok.unbase xx)
    | ok o =>
      rw [e] at fin
      cases o with
      | nx s' => exact fun σ' F' h' H' hL' ok' => ⟨hlt, s', F', h', hL', ok', fin⟩
      | ct s' => exact fun σ' F' h' H' hL' ok' => ⟨hlt, s', F', h', hL', ok', fin⟩
      | bk s' => exact fun σ' F' h' H' hL' ok' => fin σ' F' h' H' hL' (ok'.unbase xx)
      | rt a => exact fun v F h H ok => fin v F h H (ok.unbase xx)
  · left
    have e : i = xs.length := by omega
    subst e
    rw [List.drop_length] at fin
    exact ⟨Y.stop H s1, fin σ F h H hL (ok.unbase xx)⟩
theorem hold_mut {i : Nat} {σ : St} {xs : List α} (hL : Hold L σ F h) (hi : L[i]? = some (.ow (owL T) xs)) (ok : Okk F0 H0 F h H) :
    ∃ p vs, σ[i]? = some (some (.ref p)) ∧ H p = some (.lst vs) ∧ Prs T F xs vs ∧ ∀ xs' vs', Prs T F xs' vs' → ∃ h', Hold (L.set i (.ow (owL T) xs')) σ F h' ∧ Okk F0 H0 F h' (upd H p (.lst vs')) := by
  obtain ⟨o, h1, h2, e1, j, ⟨v, e2, p, vs, rfl, rfl, hr⟩, f⟩ := hL.at i hi
  subst e2
  obtain ⟨o1, o2, o3, o4, o5⟩ := ok
  have hp : h p = some (.lst vs) := j.l _ _ one_same
  have h2p : h2 p = none := by
    rcases j.dj p with z | z
    · rw [one_same] at z; cases z
    · exact z
  have Fp : F p = none := by
    rcases o2 p with z | z
    · exact z
    · rw [hp] at z; cases z
  have H0p : H0 p = none := o4 p (by rw [hp]; exact Option.some_ne_none _)
  refine ⟨p, vs, e1, o3 _ _ hp, hr, fun xs' vs' hr' => ?_⟩
  have d2 : Dj (one p (.lst vs')) h2 := fun q => by
    unfold one; split
    · rename_i z; rw [z]; exact .inr h2p
    · exact .inl rfl
  have g := f (.ow (owL T) xs') (some (.ref p)) (one p (.lst vs')) _ (jn_of d2) ⟨_, rfl, p, vs', rfl, rfl, hr'⟩
  rw [set_self e1] at g
  refine ⟨_, g, ⟨o1.1, fun q o z => ?_, fun q o z => ?_, o1.2.2.2⟩, fun q => ?_, fun q o z => ?_, fun q z => ?_, fun q ys z => ?_⟩
  · unfold upd; split
    · rename_i w; rw [w, Fp] at z; cases z
    · exact o1.2.1 _ _ z
  · unfold upd; split
    · rename_i w; rw [w, H0p] at z; cases z
    · exact o1.2.2.1 _ _ z
  · by_cases w : q = p
    · rw [w]; exact .inl Fp
    · unfold un one; simp only [if_neg w]
      rcases o2 q with z | z
      · exact .inl z
      · exact .inr (j.r.free z)
  · unfold un one at z
    unfold upd
    by_cases w : q = p
    · rw [if_pos w]; simp only [if_pos w] at z; exact z
    · rw [if_neg w]; simp only [if_neg w] at z; exact o3 _ _ (j.r _ _ z)
  · unfold un one at z
    by_cases w : q = p
    · rw [w]; exact H0p
    · simp only [if_neg w] at z
      cases y : h2 q with
      | none => exact absurd y z
      | some u => exact o4 q (by rw [j.r _ _ y]; exact Option.some_ne_none _)
  · unfold un one at z
    by_cases w : q = p
    · simp only [if_pos w] at z; cases z
    · simp only [if_neg w] at z; exact o5 q ys (j.r _ _ z)
theorem mvar_at {i : Nat} {σ : St} {v : V} {Q : VK} (e : σ[i]? = some (some v)) (q : Q v H) : mVar i σ H Q := by unfold mVar; rw [e]; exact q
theorem fin_opt {x : Option α} {k : α → Mo (Out ρ B S)} {D : Ends} (h : Fin K ((Mo.opt x).bind k) E LS LB O F0 H0 D) : ∃ a, x = some a ∧ Fin K (k a) E LS LB O F0 H0 D := by
  cases x with
  | none => exact h.elim
  | some a => exact ⟨a, rfl, h⟩
def fnO (r : Mo (Out ρ Unit Unit)) : Mo ρ := r.bind fun o => match o with | .rt a => .ok a | _ => .no
inductive Args (F : Hp) : List V → List Sl → Prop
  | nil : Args F [] []
  | cons {α : Type} {T : Ty α} {a : α} {v : V} {vs ss} (h : T.R a v F) (t : Args F vs ss) : Args F (v :: vs) (.fz T a :: ss)
theorem Args.hold {vs : List V} {ss : List Sl} (a : Args F vs ss) (n : Nat) : Hold (ss ++ List.replicate n .dead) (vs.map some ++ List.replicate n none) F (fun _ => none) := by
  induction a with
  | nil =>
    induction n with
    | zero => trivial
    | succ n ih => exact ⟨fun _ => none, fun _ => none, fun p => .inl ⟨rfl, rfl⟩, trivial, ih⟩
  | cons hv t ih => exact ⟨fun _ => none, fun _ => none, fun p => .inl ⟨rfl, rfl⟩, ⟨_, rfl, hv⟩, ih⟩
def CsS (C : Cs γ) (ss : γ → List Sl) : Prop := ∀ {c vs F}, C.R c vs F → Args F vs (ss c)
theorem css_nil : CsS csNil fun _ => [] := fun e => by rw [e]; exact .nil
theorem css_last : CsS (csLast T) fun a => [.fz T a] := fun ⟨v, e, h⟩ => by rw [e]; exact .cons h .nil
theorem css_cons {C : Cs γ} {ss : γ → List Sl} (h : CsS C ss) : CsS (csCons T C) fun c => .fz T c.1 :: ss c.2 := fun ⟨v, us, e, q, z⟩ => by rw [e]; exact .cons q (h z)
theorem okk_start (hs : Same F H) : Okk F H F (fun _ => none) H := by
  refine ⟨.refl hs, fun p => .inr rfl, fun p o e => ?_, fun p e => absurd rfl e, fun p xs e => ?_⟩
  · cases e
  · cases e
theorem fn_rd {t : XK → TS} {C : Cs γ} {ss : γ → List Sl} {f : γ → Mo (Out ρ Unit Unit)} {N : List Str} (n m : Nat) (hn : CsN C n) (hm : N.length - n = m) (hC : CsS C ss) (h : ∀ c E, EvS K (t E) E (ss c ++ List.replicate m .dead) (f c) (fun _ : Unit => []) (fun _ : Unit => []) O) :
    ∀ vs H Q E, Ct K C (fun c => fnO (f c)) O vs H Q E → t E { nx := fun _ H' => Q .non H', rt := Q } (start N vs) H := by
  rintro vs H Q E ⟨F, c, hs, hc, q⟩
  have hstart : start N vs = vs.map some ++ List.replicate m none := by unfold start; rw [hn hc, hm]
  rw [hstart]
  refine h c E F H _ F (fun _ => none) H _ ((hC hc).hold m) (okk_start hs) ?_
  have q : After K (fnO (f c)) E F H (OwnK O H Q) := q
  cases e : f c with
  | no => rw [e] at q; exact q
  | ex cc => rw [e] at q; exact fun F h H ok => q F H ok.1
  | ok o =>
    rw [e] at q
    cases o with
    | nx s => exact q.elim
    | bk s => exact q.elim
    | ct s => exact q.elim
    | rt a => exact fun v F' h' H' ok hv => q F' H' ok.1 v h' (fun p z => ok.2.2.2.1 p z) ok.2.1 ok.2.2.1 hv
end
end L2
namespace L2
open PySem PySem.Spec PyProof.Rows
section
variable {K : PySem.W.Frag} {E : XK} {α β γ ρ S S' B B' : Type} {F0 H0 F h H : Hp} {L L' : List Sl} {e e1 e2 : TE} {T : Ty α} {r : Mo α} {O : Own ρ} {t u : TS} {LS : S → List Sl} {LS' : S' → List Sl} {LB : B → List Sl}
def CDivG (i j : Int) : Prop := 0 < j ∧ Builtin.divisionGoesByPylong i j = false
instance (i j : Int) : Decidable (CDivG i j) := inferInstanceAs (Decidable (_ ∧ _))
instance (i j : Int) : Decidable (IntMulOk i j) := inferInstanceAs (Decidable (¬ _))
abbrev mMulG : R2 := mI IntMulOk fun i j => .int (i * j)
abbrev mDivG : R2 := mI CDivG fun i j => .int (i / j)
theorem op_mulG {X : Cx} : OpR X (binaryOp .Mult) mMulG := opM (opI fun _ _ _ _ _ _ _ hc q => mul_int q hc)
theorem op_divG {X : Cx} : OpR X (binaryOp .FloorDiv) mDivG := opM (opI fun i j _ _ _ _ _ hc q => by
  have h1 : (0 : Int) < j := hc.1
  exact floordiv_int (by omega) (by rw [Int.fdiv_eq_ediv_of_nonneg i (by omega)]; exact q) (.inl hc.2))
theorem op_divGI : Op2 K mDivG E tyInt tyInt (fun i j => .grd (CDivG i j) (.ok (i / j))) tyInt := op_i fun _ _ _ => rfl
theorem s_weak {r : Mo (Out ρ B S)} (w : Sub L L') (hk : EvS K t E L' r LS LB O) : EvS K t E L r LS LB O := fun F0 H0 σ F h H D hL ok fin => hk F0 H0 σ F h H D (w.hold hL) ok fin
theorem at_ {r : Mo (Out ρ B S)} (L : List Sl) (hk : EvS K t E L r LS LB O) : EvS K t E L r LS LB O := hk
theorem ev_varL (i : Nat) {xs : List α} (h : L[i]? = some (.ow (owL T) xs)) : EvF K (mVar i) E L (.ok xs) (tyL T) := ev_varO i h
end
end L2
namespace L2
open PySem PySem.Spec PyProof.Rows
section
variable {α β γ ρ S S' B : Type}
@[simp] theorem Mo.okB (a : α) (f : α → Mo β) : (Mo.ok a).bind f = f a := of_eq_true (eq_self _)
@[simp] theorem Mo.exB (c : String) (f : α → Mo β) : (Mo.ex c : Mo α).bind f = .ex c := of_eq_true (eq_self _)
@[simp] theorem Mo.noB (f : α → Mo β) : (Mo.no : Mo α).bind f = .no := of_eq_true (eq_self _)
@[simp] theorem Mo.noexO (a : α) : (Mo.ok a).noex = .ok a := of_eq_true (eq_self _)
@[simp] theorem Mo.optS (a : α) : Mo.opt (some a) = .ok a := of_eq_true (eq_self _)
@[simp] theorem thenO_nx (s : S) (k : S → Mo (Out ρ B S')) : thenO (.ok (.nx s)) k = k s := of_eq_true (eq_self _)
@[simp] theorem thenO_rt (a : ρ) (k : S → Mo (Out ρ B S')) : thenO (.ok (.rt a)) k = .ok (.rt a) := of_eq_true (eq_self _)
@[simp] theorem thenO_bk (b : B) (k : S → Mo (Out ρ B S')) : thenO (.ok (.bk b)) k = .ok (.bk b) := of_eq_true (eq_self _)
@[simp] theorem thenO_ct (b : B) (k : S → Mo (Out ρ B S')) : thenO (.ok (.ct b)) k = .ok (.ct b) := of_eq_true (eq_self _)
@[simp] theorem fnO_rt (a : ρ) : fnO (.ok (.rt a)) = .ok a := of_eq_true (eq_self _)
@[simp] theorem forO_nil (step : S → α → Mo (Out ρ S S)) (s : S) : forO (B := B) step [] s = .ok (.nx s) := of_eq_true (eq_self _)
theorem forO_cons (step : S → α → Mo (Out ρ S S)) (x : α) (xs : List α) (s : S) : forO (B := B) step (x :: xs) s = (step s x).bind fun o => match o with | .nx s' => forO step xs s' | .ct s' => forO step xs s' | .bk s' => .ok (.nx s') | .rt a => .ok (.rt a) := rfl
theorem forO_nx {step : S → α → Mo (Out ρ S S)} {x : α} {xs : List α} {s s' : S} (h : step s x = .ok (.nx s')) : forO (B := B) step (x :: xs) s = forO step xs s' := by rw [forO_cons, h]; rfl
theorem forO_foldl {step : S → α → Mo (Out ρ S S)} (g : S → α → S) : ∀ {xs : List α} {s : S}, (∀ s x, x ∈ xs → step s x = .ok (.nx (g s x))) → forO (B := B) step xs s = .ok (.nx (xs.foldl g s))
  | [], s, _ => rfl
  | x :: xs, s, h => by rw [forO_nx (h s x List.mem_cons_self), forO_foldl g fun s y hy => h s y (List.mem_cons_of_mem _ hy)]; rfl
theorem forO_inv {step : S → α → Mo (Out ρ S S)} (P : List α → S → Prop) : ∀ {xs : List α} (done : List α) {s : S}, P done s → (∀ d x s, (∃ r, done ++ xs = d ++ x :: r) → P d s → ∃ s', step s x = .ok (.nx s') ∧ P (d ++ [x]) s') → ∃ s', forO (B := B) step xs s = .ok (.nx s') ∧ P (done ++ xs) s'
  | [], done, s, h0, _ => ⟨s, rfl, by rw [List.append_nil]; exact h0⟩
  | x :: xs, done, s, h0, h => by
    obtain ⟨s1, e1, p1⟩ := h done x s ⟨xs, rfl⟩ h0
    obtain ⟨s2, e2, p2⟩ := forO_inv P (xs := xs) (done ++ [x]) p1 fun d y s ⟨r, hr⟩ hp => h d y s ⟨r, by rw [← hr]; simp⟩ hp
    exact ⟨s2, by rw [forO_nx e1, e2], by simpa using p2⟩
theorem forO_all {step : Unit → α → Mo (Out ρ Unit Unit)} : ∀ {xs : List α}, (∀ x ∈ xs, step () x = .ok (.nx ())) → forO (B := B) step xs () = .ok (.nx ())
  | [], _ => rfl
  | x :: xs, h => by rw [forO_nx (h x List.mem_cons_self), forO_all fun y hy => h y (List.mem_cons_of_mem _ hy)]
open PySem PySem.Spec PyProof.Rows in
theorem divG_ok {a j : Int} (h0 : 0 < j) (h : j.natAbs.log2 < 9000) : CDivG a j := by
  refine ⟨h0, ?_⟩
  unfold Builtin.divisionGoesByPylong
  simp only
  rw [Bool.and_eq_false_iff]
  left
  rw [decide_eq_false_iff_not]
  split <;> omega
theorem log2_lt {n k : Nat} (h : n < 2 ^ k) : n.log2 < k ∨ n = 0 := by
  by_cases hz : n = 0
  · exact .inr hz
  · exact .inl ((Nat.log2_lt hz).mpr h)
theorem divG_lt {a j : Int} (h0 : 0 < j) (h : j < 2 ^ 1000) : CDivG a j := by
  refine divG_ok h0 ?_
  have h1 : j.natAbs < 2 ^ 1000 := by
    have : ((2 : Int) ^ 1000) = ((2 ^ 1000 : Nat) : Int) := by rw [Int.natCast_pow]; rfl
    rw [this] at h
    omega
  rcases log2_lt h1 with h | h
  · omega
  · rw [h]; decide
open PySem PySem.Spec PyProof.Rows in
theorem mulG_small {i j : Int} (h : -(2 ^ 64) < i ∧ i < 2 ^ 64 ∨ -(2 ^ 64) < j ∧ j < 2 ^ 64) : IntMulOk i j := CMul.ok h
@[simp] theorem grd_div {a j : Int} {k : Mo α} (h0 : 0 < j) (h1 : j < 1073741824) : Mo.grd (CDivG a j) k = k := Mo.grd_ok (divG_lt h0 (by omega))
@[simp] theorem grd_T {k : Mo α} [Decidable True] : Mo.grd True k = k := Mo.grd_ok trivial
@[simp] theorem grd_mod {j : Int} {k : Mo α} (h0 : 0 < j) : Mo.grd (0 < j) k = k := Mo.grd_ok h0
open PySem PySem.Spec PyProof.Rows in
@[simp] theorem grd_mulL {i j : Int} {k : Mo α} (h0 : -18446744073709551616 < i) (h1 : i < 18446744073709551616) : Mo.grd (IntMulOk i j) k = k := Mo.grd_ok (mulG_small (.inl ⟨by omega, by omega⟩))
open PySem PySem.Spec PyProof.Rows in
theorem grd_mulR {i j : Int} {k : Mo α} (h0 : -18446744073709551616 < j) (h1 : j < 18446744073709551616) : Mo.grd (IntMulOk i j) k = k := Mo.grd_ok (mulG_small (.inr ⟨by omega, by omega⟩))
theorem rngI_len (lo : Int) (n : Nat) : (rngI lo n).length = n := by unfold rngI; rw [List.length_map, List.length_range]
theorem rngI_mem {lo x : Int} {n : Nat} : x ∈ rngI lo n ↔ lo ≤ x ∧ x < lo + n := by
  unfold rngI
  simp only [List.mem_map, List.mem_range]
  constructor
  · rintro ⟨a, h, rfl⟩; omega
  · rintro ⟨h1, h2⟩; exact ⟨(x - lo).toNat, by omega, by omega⟩
theorem atI_nn {xs : List α} {k : Int} (h0 : 0 ≤ k) : atI xs k = xs[k.toNat]? := by
  unfold atI ixN
  rw [if_pos h0]
  split
  · rfl
  · rename_i h
    rw [List.getElem?_eq_none (by omega)]; rfl
theorem atI_some {xs : List α} {k : Int} (h0 : 0 ≤ k) (h1 : k < xs.length) : ∃ x, atI xs k = some x ∧ x ∈ xs := by
  rw [atI_nn h0, List.getElem?_eq_getElem (show k.toNat < xs.length by omega)]
  exact ⟨_, rfl, List.getElem_mem _⟩
end
end L2
namespace L2
open PySem PySem.Spec PyProof.Rows
section
variable {K : PySem.W.Frag} {E : XK} {α β γ ρ S S' B B' : Type} {F0 H0 F h H : Hp} {L L' : List Sl} {e e1 e2 : TE} {T : Ty α} {r : Mo α} {O : Own ρ} {t u : TS} {LS : S → List Sl} {LS' : S' → List Sl} {LB : B → List Sl}
def OwIn (T : Ty α) (F : Hp) : List (List α) → List V → Hp → Prop
  | [], [], h => ∀ p, h p = none
  | xs :: xss, v :: vs, h => ∃ h1 h2, Jn h1 h2 h ∧ (owL T).O xs v F h1 ∧ OwIn T F xss vs h2
  | _, _, _ => False
theorem OwIn.mono : ∀ {xss : List (List α)} {vs : List V} {F F' h : Hp}, Same F F' → OwIn T F xss vs h → OwIn T F' xss vs h
  | [], [], _, _, _, _, q => q
  | xs :: xss, v :: vs, F, F', h, g, ⟨h1, h2, j, o, r⟩ => ⟨h1, h2, j, (owL T).mono g o, r.mono g⟩
  | [], _ :: _, _, _, _, _, q => q.elim
  | _ :: _, [], _, _, _, _, q => q.elim
theorem OwIn.imm (i : Imm T) : ∀ {xss : List (List α)} {vs : List V} {F F' h : Hp}, Tups F F' → OwIn T F xss vs h → OwIn T F' xss vs h
  | [], [], _, _, _, _, q => q
  | xs :: xss, v :: vs, F, F', h, g, ⟨h1, h2, j, o, r⟩ => ⟨h1, h2, j, immo_l i g o, r.imm i g⟩
  | [], _ :: _, _, _, _, _, q => q.elim
  | _ :: _, [], _, _, _, _, q => q.elim
theorem OwIn.notup : ∀ {xss : List (List α)} {vs : List V} {F h : Hp}, OwIn T F xss vs h → ∀ p xs, h p ≠ some (.tup xs)
  | [], [], _, _, q, p, xs => by rw [q p]; exact fun z => by cases z
  | xs :: xss, v :: vs, F, h, ⟨h1, h2, j, o, r⟩, p, ys => by
    rcases j p with ⟨_, b⟩ | ⟨_, b⟩
    · rw [b]; exact r.notup p ys
    · rw [b]; exact (owL T).notup o p ys
  | [], _ :: _, _, _, q, _, _ => q.elim
  | _ :: _, [], _, _, q, _, _ => q.elim
theorem OwIn.len : ∀ {xss : List (List α)} {vs : List V} {F h : Hp}, OwIn T F xss vs h → xss.length = vs.length
  | [], [], _, _, _ => rfl
  | xs :: xss, v :: vs, F, h, ⟨h1, h2, j, o, r⟩ => by rw [List.length_cons, List.length_cons, r.len]
  | [], _ :: _, _, _, q => q.elim
  | _ :: _, [], _, _, q => q.elim
theorem OwIn.prs : ∀ {xss : List (List α)} {vs : List V} {F h G : Hp}, Same F G → Same h G → OwIn T F xss vs h → Prs (tyL T) G xss vs
  | [], [], _, _, _, _, _, _ => .nil
  | xs :: xss, v :: vs, F, h, G, gF, gh, ⟨h1, h2, j, ⟨p, us, e, z, q⟩, r⟩ => by
    refine .cons ⟨p, us, e, gh _ _ (j.l _ _ (by rw [z]; exact one_same)), q.mono gF⟩ (r.prs gF (j.r.trans gh))
  | [], _ :: _, _, _, _, _, _, q => q.elim
  | _ :: _, [], _, _, _, _, _, q => q.elim
theorem OwIn.at : ∀ {xss : List (List α)} {vs : List V} {F h : Hp} (i : Nat) {xs : List α}, OwIn T F xss vs h → xss[i]? = some xs →
    ∃ p us h2, vs[i]? = some (.ref p) ∧ Jn (one p (.lst us)) h2 h ∧ Prs T F xs us ∧ ∀ xs' us' h', Prs T F xs' us' → Jn (one p (.lst us')) h2 h' → OwIn T F (xss.set i xs') vs h'
  | [], _, _, _, _, _, _, e => by cases e
  | xs :: xss, [], _, _, _, _, q, _ => q.elim
  | xs :: xss, v :: vs, F, h, 0, ys, ⟨h1, h2, j, ⟨p, us, ev, z, q⟩, r⟩, e => by
    cases e
    subst ev z
    exact ⟨p, us, h2, rfl, j, q, fun xs' us' h' q' j' => ⟨_, h2, j', ⟨p, us', rfl, rfl, q'⟩, r⟩⟩
  | xs :: xss, v :: vs, F, h, i + 1, ys, ⟨h1, h2, j, o, r⟩, e => by
    obtain ⟨p, us, k2, e1, j1, q1, f⟩ := OwIn.at i r (by simpa using e)
    have d2 : Dj h1 k2 := fun q => by
      rcases j.dj q with a | a
      · exact .inl a
      · exact .inr (j1.r.free a)
    have h1p : h1 p = none := by
      rcases j.dj p with a | a
      · exact a
      · have := j1.l p _ one_same; rw [a] at this; cases this
    refine ⟨p, us, un h1 k2, by simpa using e1, fun q => ?_, q1, fun xs' us' h' q' j' => ?_⟩
    · rcases j q with ⟨a, b⟩ | ⟨a, b⟩
      · rcases j1 q with ⟨c, d⟩ | ⟨c, d⟩
        · refine .inl ⟨c, ?_⟩; unfold un; rw [a, b, d]
        · refine .inr ⟨?_, by rw [b, d]⟩; unfold un; rw [a, c]
      · refine .inl ⟨j1.l.free a, ?_⟩
        have : k2 q = none := j1.r.free a
        unfold un; rw [b]
        cases h1 q with
        | none => rw [this]
        | some u => rfl
    · have dd : Dj (one p (.lst us')) k2 := fun q => by
        unfold one; split
        · rename_i z; rw [z]
          rcases j1.dj p with a | a
          · rw [one_same] at a; cases a
          · exact .inr a
        · exact .inl rfl
      refine ⟨h1, un (one p (.lst us')) k2, fun q => ?_, o, f xs' us' _ q' (jn_of dd)⟩
      rcases j' q with ⟨a, b⟩ | ⟨a, b⟩
      · unfold un at b ⊢
        rw [a]
        cases z : h1 q with
        | none => rw [z] at b; exact .inl ⟨rfl, b⟩
        | some w =>
          rw [z] at b
          refine .inr ⟨?_, b⟩
          rcases d2 q with y | y
          · rw [y] at z; cases z
          · exact y
      · unfold un at a
        cases z : h1 q with
        | some w => rw [z] at a; cases a
        | none =>
          rw [z] at a
          refine .inl ⟨rfl, ?_⟩
          unfold un; rw [b]
          cases one p (.lst us') q with
          | none => exact a.symm
          | some w => rfl
theorem ixN_some {n : Nat} {j : Int} {k : Nat} (h : ixN n j = some k) : k < n := by
  unfold ixN at h
  split at h
  · split at h
    · cases h; omega
    · cases h
  · split at h
    · cases h; omega
    · cases h
end
end L2
namespace L2
open PySem PySem.Spec PyProof.Rows
section
variable {K : PySem.W.Frag} {E : XK} {α β γ ρ S S' B B' : Type} {F0 H0 F h H : Hp} {L L' : List Sl} {e e1 e2 : TE} {T : Ty α} {r : Mo α} {O : Own ρ} {t u : TS} {LS : S → List Sl} {LS' : S' → List Sl} {LB : B → List Sl}
theorem OwIn.snoc : ∀ {xss : List (List α)} {vs : List V} {h h1 h' : Hp} {xs : List α} {v : V}, OwIn T F xss vs h → (owL T).O xs v F h1 → Jn h h1 h' → OwIn T F (xss ++ [xs]) (vs ++ [v]) h'
  | [], [], h, h1, h', xs, v, q, o, j => by
    refine ⟨h', fun _ => none, fun p => .inr ⟨rfl, rfl⟩, ?_, fun _ => rfl⟩
    have : h' = h1 := by
      funext p
      rcases j p with ⟨a, b⟩ | ⟨a, b⟩
      · exact b
      · rw [b, q p, a]
    rw [this]; exact o
  | ys :: xss, w :: vs, h, h1, h', xs, v, ⟨k1, k2, jk, o1, r1⟩, o, j => by
    have d : Dj k2 h1 := fun p => by
      rcases j.dj p with a | a
      · exact .inl (jk.r.free a)
      · exact .inr a
    refine ⟨k1, un k2 h1, fun p => ?_, o1, r1.snoc o (jn_of d)⟩
    rcases j p with ⟨a, b⟩ | ⟨a, b⟩
    · have z1 : k1 p = none := jk.l.free a
      have z2 : k2 p = none := jk.r.free a
      refine .inl ⟨z1, ?_⟩
      unfold un; rw [z2]; exact b
    · rcases jk p with ⟨c, dd⟩ | ⟨c, dd⟩
      · refine .inl ⟨c, ?_⟩
        unfold un; rw [b, dd]
        cases z : k2 p with
        | none => exact a.symm
        | some w => rfl
      · refine .inr ⟨?_, by rw [b, dd]⟩
        unfold un; rw [c]; exact a
  | [], _ :: _, _, _, _, _, _, q, _, _ => q.elim
  | _ :: _, [], _, _, _, _, _, q, _, _ => q.elim
@[irreducible] def fuelW : Nat := 100000
def mLtS : R2 := fun x y H Q => match x, y with
  | .int i, .int j => Q (.bl (decide (i < j))) H
  | .str i, .str j => Q (.bl (decide (i.cps.toList < j.cps.toList))) H
  | _, _ => False
theorem op_ltM2 {X : Cx} : OpR X (compareOp .Lt) mLtS := by
  intro pins s σ H x y v u Q I rx ry h
  cases x <;> cases y <;> first
    | exact h.elim
    | exact op_lt pins s σ H _ _ v u Q I rx ry ⟨_, _, rfl, rfl, h⟩
    | exact op_lt_str pins s σ H _ _ v u Q I rx ry ⟨_, _, rfl, rfl, h⟩
end
end L2
namespace L2
open PySem PySem.Spec PyProof.Rows
section
variable {α : Type}
theorem forO_elim {S B ρ : Type} {step : S → α → Mo (Out ρ S S)} {xs : List α} {s : S} {G : Mo (Out ρ B S) → Prop} (P : List α → S → Prop) (h0 : P [] s) (hs : ∀ d x s, (∃ r, xs = d ++ x :: r) → P d s → ∃ s', step s x = .ok (.nx s') ∧ P (d ++ [x]) s') (hk : ∀ s', P xs s' → G (.ok (.nx s'))) : G (forO step xs s) := by
  obtain ⟨s', e, p⟩ := forO_inv (B := B) P (xs := xs) [] h0 (fun d x s hr hp => hs d x s hr hp)
  rw [e]
  exact hk s' p
end
abbrev Crd := List Nat
def sg (c : Crd) (col : Int) : Nat := c.getD (col - 1).toNat 0
def rk1 (x : Nat) : Nat := (SG.findIdx? (· == x)).getD 0 % 37
def rnk (c : Crd) (col : Int) : Nat := rk1 (sg c col)
def kv : List Int → Crd → Nat
  | [], _ => 0
  | c :: L, a => rnk a c * 37 ^ L.length + kv L a
end L2
namespace L2
open PySem PySem.Spec PyProof.Rows
end L2
namespace L2
open PySem PySem.Spec PyProof.Rows
open PySem.SeqAt
open PySem.AutoSeq1 (wpAny_loadPart')
open PySem.MeetsSeq PySem.MeetsSeq2 PySem.MeetsSeq3
theorem ent_loop : entryFor table "list.__eq__.loop" = some Builtin.«list.__eq__.loop» := by kernel_rfl!
theorem under_loop (A : Around) (args : PySem.Args) : A.under (Code.builtin "list.__eq__.loop" args) = A.in1 := by rfl
theorem quiet_loop (args : PySem.Args) : (Code.builtin "list.__eq__.loop" args).quiet = true := by first | kernel_rfl! | simp [Code.quiet] | (unfold Code.quiet; decide +kernel)
theorem ints_get : ∀ {vs : List Value} {ns : List Int}, IntsAre vs ns → ∀ i : Nat, (vs[i]? = none ∧ ns[i]? = none) ∨ ∃ a t, vs[i]? = some (.int a t) ∧ ns[i]? = some a
  | _, _, .nil, i => .inl ⟨rfl, rfl⟩
  | _, _, .cons a t h, 0 => .inr ⟨a, t, rfl, rfl⟩
  | _, _, .cons a t h, i + 1 => by simpa using ints_get h i
theorem drop_of_get {α : Type} {xs : List α} {i : Nat} {a : α} (h : xs[i]? = some a) : xs.drop i = a :: xs.drop (i + 1) := by
  obtain ⟨hi, e⟩ := List.getElem?_eq_some_iff.mp h
  rw [← e]; exact List.drop_eq_getElem_cons hi
theorem drop_none {α : Type} {xs : List α} {i : Nat} (h : xs[i]? = none) : xs.drop i = [] := List.drop_eq_nil_of_le (List.getElem?_eq_none_iff.mp h)
theorem list_lt_loop (l b : Addr) (items items2 : Array Value) (n n2 : Nat) (dd dd2 : Option Addr) (sl sl2 : Array (Option Value)) (ns ms : List Int) (hi : IntsAre items.toList ns) (hj : IntsAre items2.toList ms) : ∀ (k i : Nat), items.size - i = k → i ≤ items.size → i ≤ items2.size →
    Meets (Builtin.«list.__eq__.loop» ⟨[.ref l, .ref b, rawInt (i : Nat), rawInt 0], []⟩)
      (fun _ R s => s.heap.get? l = some { cls := .type "list", dict := dd, data := .seq items n, slots := sl } ∧ s.heap.get? b = some { cls := .type "list", dict := dd2, data := .seq items2 n2, slots := sl2 } ∧
        R (.ok (.ret (.bool (HT.lexLt (ns.drop i) (ms.drop i))))) s) := by
  intro k
  induction k with
  | zero =>
    intro i hk b1 b2 prog w A R s h
    obtain ⟨hl, hb, h⟩ := h
    wp_walk using wpAny_listItems hl rfl, wpAny_listItems hb rfl
    have e1 : items[i]? = none := Array.getElem?_eq_none (by omega)
    have e1' : ns[i]? = none := by
      rcases ints_get hi i with ⟨_, z⟩ | ⟨a, t, z, _⟩
      · exact z
      · rw [Array.getElem?_toList, e1] at z; cases z
    rw [Int.toNat_natCast, e1]
    rw [drop_none e1'] at h
    rcases ints_get hj i with ⟨z1, z2⟩ | ⟨c, u, z1, z2⟩
    · rw [Array.getElem?_toList] at z1
      rw [z1]
      rw [drop_none z2] at h
      wp_walk using wpAny_listItems hl rfl, wpAny_listItems hb rfl
      show R (.ok (.ret (.bool (decide (items.size < items2.size))))) s
      have z1 := Array.getElem?_eq_none_iff.mp z1
      rw [decide_eq_false (by omega)]; exact h
    · rw [Array.getElem?_toList] at z1
      rw [z1]
      rw [drop_of_get z2] at h
      wp_walk using wpAny_listItems hl rfl, wpAny_listItems hb rfl
      show R (.ok (.ret (.bool (decide (items.size < items2.size))))) s
      have z3 := (Array.getElem?_eq_some_iff.mp z1).1
      rw [decide_eq_true (by omega)]; exact h
  | succ k ih =>
    intro i hk b1 b2 prog w A R s h
    obtain ⟨hl, hb, h⟩ := h
    wp_walk using wpAny_listItems hl rfl, wpAny_listItems hb rfl
    rw [Int.toNat_natCast]
    rcases ints_get hi i with ⟨z1, z2⟩ | ⟨a, t, z1, z2⟩
    · rw [Array.getElem?_toList] at z1
      rw [Array.getElem?_eq_none_iff] at z1; omega
    rw [Array.getElem?_toList] at z1
    rw [z1]
    rw [drop_of_get z2] at h
    rcases ints_get hj i with ⟨y1, y2⟩ | ⟨c, u, y1, y2⟩
    · rw [Array.getElem?_toList] at y1
      rw [y1]
      rw [drop_none y2] at h
      wp_walk using wpAny_listItems hl rfl, wpAny_listItems hb rfl
      show R (.ok (.ret (.bool (decide (items.size < items2.size))))) s
      have z3 := (Array.getElem?_eq_some_iff.mp z1).1
      have y3 := Array.getElem?_eq_none_iff.mp y1
      rw [decide_eq_false (by omega)]; exact h
    rw [Array.getElem?_toList] at y1
    rw [y1]
    rw [drop_of_get y2, HT.lexLt_cons] at h
    obtain ⟨e, he, hiff⟩ := HT.eqAt_int A.in1 s a t c u
    refine wpAny_bind (he prog w _ _ ?_)
    cases e with
    | true =>
      rw [if_pos (hiff.mp rfl)] at h
      wp_walk
      refine ⟨quiet_loop _, codeAny_builtin ent_loop ?_⟩
      rw [under_loop]
      have q1 := (Array.getElem?_eq_some_iff.mp z1).1
      have q2 := (Array.getElem?_eq_some_iff.mp y1).1
      exact ih (i + 1) (by omega) (by omega) (by omega) prog w A R s ⟨hl, hb, h⟩
    | false =>
      rw [if_neg (fun q => absurd (hiff.mpr q) Bool.false_ne_true)] at h
      have hri := HT.rcLt_int A.in1 s a t c u prog w
      wp_walk using wpAny_listItems hl rfl, wpAny_listItems hb rfl
      rw [z1, y1]
      wp_walk using hri
      exact h
theorem list_lt_ints (l b : Addr) (items items2 : Array Value) (n n2 : Nat) (dd dd2 : Option Addr) (sl sl2 : Array (Option Value)) (ns ms : List Int) (hi : IntsAre items.toList ns) (hj : IntsAre items2.toList ms) :
    Meets (Builtin.«list.__lt__» ⟨[.ref l, .ref b], []⟩)
      (fun _ R s => s.heap.get? l = some { cls := .type "list", dict := dd, data := .seq items n, slots := sl } ∧ s.heap.get? b = some { cls := .type "list", dict := dd2, data := .seq items2 n2, slots := sl2 } ∧
        R (.ok (.ret (.bool (HT.lexLt ns ms)))) s) := by
  intro prog w A R s h
  obtain ⟨hl, hb, h⟩ := h
  have f2 := AutoSeq1.sub_list_list
  wp_walk using wpAny_loadPart' hl, wpAny_loadPart' hb
  refine ⟨quiet_loop _, codeAny_builtin ent_loop ?_⟩
  rw [under_loop]
  exact list_lt_loop l b items items2 n n2 dd dd2 sl sl2 ns ms hi hj _ 0 rfl (Nat.zero_le _) (Nat.zero_le _) prog w A R s ⟨hl, hb, h⟩
theorem lt_listInts {prog : Program} {w : World} {A : Around} {E : Value → Shared → Prop} {s : Shared} {l b : Addr} {items items2 : Array Value} {ns ms : List Int} {Q : Value → Shared → Prop} (hl : s.heap.IsList l items) (hb : s.heap.IsList b items2) (hi : IntsAre items.toList ns) (hj : IntsAre items2.toList ms)
    (hu : A.units < cLine) (h : Q (.bool (HT.lexLt ns ms)) s) : wpAny (model prog w) A (compareOp .Lt (.ref l) (.ref b)) Q E s := by
  obtain ⟨⟨cls, dd, data, sl⟩, ho, hc, n, hd⟩ := id hl
  obtain ⟨⟨cls2, dd2, data2, sl2⟩, ho2, hc2, n2, hd2⟩ := id hb
  simp only at hc hd hc2 hd2
  subst hc hd hc2 hd2
  exact richCompare_meets_room (op := .Lt) ⟨_, ho, rfl⟩ ⟨_, ho2, rfl⟩ PySem.F.slot_list_lt PySem.F.entry_list_lt (PySem.F.args_list_lt_2 _ _) (list_lt_ints l b items items2 n n2 dd dd2 sl sl2 ns ms hi hj)
    ⟨ho, ho2, show Value.bool (HT.lexLt ns ms) ≠ Value.notImplemented ∧ Q (.bool (HT.lexLt ns ms)) s from ⟨(fun x => nomatch x), h⟩⟩ hu
end L2
namespace L2
open PySem PySem.Spec PyProof.Rows
def mLtK (K : PySem.W.Frag) : R2 := fun x y H Q => match x, y with
  | .ref a, .ref b => ∃ ns ms, SqL K H a (ns.map V.int) ∧ SqL K H b (ms.map V.int) ∧ Q (.bl (HT.lexLt ns ms)) H
  | _, _ => mLtS x y H Q
theorem op_ltK {X : Cx} (hu : X.A.units + 60 < cLine) : OpR X (compareOp .Lt) (mLtK X.K) := by
  intro pins s σ H x y v u Q I rx ry h
  cases x <;> cases y <;> first
    | exact op_ltM2 pins s σ H _ _ v u Q I rx ry h
    | (obtain ⟨ns, ms, ha, hb, q⟩ := h
       cases rx
       cases ry
       obtain ⟨its, r1, p1, _⟩ := I.list ha
       obtain ⟨its2, r2, p2, _⟩ := I.list hb
       have i1 : IntsAre its.toArray.toList ns := intsAre_of r1
       have i2 : IntsAre its2.toArray.toList ms := intsAre_of r2
       exact lt_listInts p1.isList p2.isList i1 i2 (by omega) ⟨.bl (HT.lexLt ns ms), H, I, rfl, q⟩)
section
variable {K : PySem.W.Frag} {E : XK} {H : Hp}
theorem op_ltKI : Op2 K (mLtK K) E tyInt tyInt (fun i j => .ok (decide (i < j))) tyBl := by
  rintro a b x y F H Q hs rfl rfl k
  exact k.ok hs _ rfl
end
end L2
namespace L2
open PySem PySem.Spec PyProof.Rows
section
variable {α : Type}
theorem atI_any {xs : List α} {k : Int} (h0 : -(xs.length : Int) ≤ k) (h1 : k < xs.length) : ∃ x, atI xs k = some x ∧ x ∈ xs := by
  by_cases h : 0 ≤ k
  · exact atI_some h h1
  · unfold atI ixN
    rw [if_neg h, if_pos h0]
    have : (k + xs.length).toNat < xs.length := by omega
    exact ⟨xs[(k + xs.length).toNat], by simp [List.getElem?_eq_getElem this], List.getElem_mem _⟩
end
end L2
namespace L2
open PySem PySem.Spec PyProof.Rows
section
variable {K : PySem.W.Frag} {E : XK} {α β γ ρ S S' B B' : Type} {F0 H0 F h H : Hp} {L L' : List Sl} {e e1 e2 : TE} {T : Ty α} {r : Mo α} {O : Own ρ} {t u : TS} {LS : S → List Sl} {LS' : S' → List Sl} {LB : B → List Sl}
theorem ev_callF0 {C : Cs γ} {f : γ → Mo α} {ta : TA} {r : Mo γ} (h : EvA K ta E L r C) : EvF K (tCall (Ct K C f (owF T)) [] E0 ta) E L (r.bind fun c => (f c).noex) T := (ev_call0 h).fr
end
end L2
namespace L2
open PySem PySem.Spec PyProof.Rows
def repL {α : Type} (xs : List α) (n : Int) : List α := (List.replicate n.toNat xs).flatten
def CRep (m : Nat) (n : Int) : Prop := 0 ≤ n ∧ n ≤ 100000 ∧ m ≤ 100000 ∧ m * n.toNat ≤ 100000
instance (m : Nat) (n : Int) : Decidable (CRep m n) := inferInstanceAs (Decidable (_ ∧ _))
def mMulX : R2 := fun x y H Q => match x, y with
  | .int i, .int j => IntMulOk i j ∧ Q (.int (i * j)) H
  | .str z, .int n => CRep z.cps.toList.length n ∧ Q (tx (repL z.cps.toList n)) H
  | .ref l, .int k => ∃ xs, H l = some (.lst xs) ∧ CRep xs.length k ∧ ∀ p, H p = none → Q (.ref p) (upd H p (.lst (repL xs k)))
  | _, _ => False
theorem rep_arr (z : Array Nat) (n : Nat) : (List.foldl (fun x1 x2 => x1 ++ x2) #[] (List.replicate n z)).toList = (List.replicate n z.toList).flatten := by
  have : ∀ (l : List (Array Nat)) (acc : Array Nat), (l.foldl (fun x1 x2 => x1 ++ x2) acc).toList = acc.toList ++ (l.map Array.toList).flatten := by
    intro l
    induction l with
    | nil => intro acc; simp
    | cons a l ih => intro acc; rw [List.foldl_cons, ih]; simp
  rw [this]
  simp
theorem op_mulX {X : Cx} : OpR X (binaryOp .Mult) mMulX := by
  intro pins s σ H x y v u Q I rx ry h
  cases x <;> cases y <;> first
    | exact h.elim
    | exact op_mulG pins s σ H _ _ v u Q I rx ry h
    | (obtain ⟨xs, hl, ⟨c1, c2, c3, c4⟩, q⟩ := h
       exact op_rep pins s σ H _ _ v u Q I rx ry ⟨_, _, xs, rfl, rfl, hl, by omega, by omega, small_n c4, q⟩)
    | (rename_i z n
       obtain ⟨⟨c1, c2, c3, c4⟩, q⟩ := h
       obtain ⟨t, rfl⟩ := rx
       obtain ⟨t', rfl⟩ := ry
       have hz : z.length = z.cps.toList.length := by simp [Str.length]
       refine PySem.P.mul_str (by simp; omega) (fun h1 h2 => ?_) (fun h1 h2 => ?_) ?_
       · rw [hz]
         have hn : 0 < n := by omega
         have : (z.cps.toList.length : Int) * n ≤ 2 ^ 63 - 1 := by
           have e : n = (n.toNat : Int) := by omega
           rw [e, ← Int.natCast_mul]; omega
         have := Int.le_ediv_of_mul_le hn this
         omega
       · unfold Builtin.Str.tooLong
         rw [hz]
         have := small_n c4
         exact decide_eq_false (by omega)
       · by_cases h1 : n < 1
         · rw [if_pos h1]
           have : n = 0 := by omega
           subst this
           exact ⟨Nat.zero_le _, tx [], H, I.tok _, ⟨_, rfl⟩, q⟩
         · rw [if_neg h1]
           by_cases h2 : (n == 1 || z.length == 0) = true
           · rw [if_pos h2]
             have e : repL z.cps.toList n = z.cps.toList := by
               unfold repL
               rw [Bool.or_eq_true] at h2
               rcases h2 with h2 | h2
               · have : n = 1 := by simpa using h2
                 subst this; simp
               · have : z.cps.toList = [] := List.length_eq_zero_iff.mp (by rw [← hz]; simpa using h2)
                 rw [this]; simp
             rw [e] at q
             refine ⟨tx z.cps.toList, H, I, ⟨t, ?_⟩, q⟩
             show Value.str z t = Value.str ⟨z.cps.toList.toArray⟩ t
             rw [← str_eta]
           · rw [if_neg h2]
             refine ⟨?_, tx (repL z.cps.toList n), H, I.tok _, ⟨s.toks, ?_⟩, q⟩
             · have e : (⟨List.foldl (fun x1 x2 => x1 ++ x2) #[] (List.replicate n.toNat z.cps)⟩ : Str).length = (List.replicate n.toNat z.cps.toList).flatten.length := by
                 rw [← rep_arr]; simp [Str.length]
               rw [e, len_rep]
               exact small_n (by rw [Nat.mul_comm]; exact c4)
             show Value.str _ _ = Value.str _ _
             congr 1
             unfold repL
             rw [← rep_arr])
section
variable {K : PySem.W.Frag} {E : XK} {α β γ ρ S S' B B' : Type} {F0 H0 F h H : Hp} {L L' : List Sl} {e e1 e2 : TE} {T : Ty α} {r : Mo α} {O : Own ρ} {t u : TS} {LS : S → List Sl} {LB : B → List Sl}
theorem op_mulXI : Op2 K mMulX E tyInt tyInt (fun i j => .grd (IntMulOk i j) (.ok (i * j))) tyInt := by
  rintro a b x y F H Q hs rfl rfl k
  obtain ⟨c, k⟩ := k.grd
  exact ⟨c, k.ok hs _ rfl⟩
end
end L2
namespace L2
open PySem PySem.Spec PyProof.Rows
structure KyT (κ : Type) where
  T : Ty κ
  key : κ → Key
  inj : ∀ {a b}, key a = key b → a = b
  of : ∀ {a v H}, T.R a v H → keyV v = some (key a)
section
variable {K : PySem.W.Frag} {E : XK} {α β γ ρ κ S S' B B' : Type} {F0 H0 F h H : Hp} {L L' : List Sl} {e e1 e2 : TE} {T : Ty α} {r : Mo α} {O : Own ρ} {t u : TS} {LS : S → List Sl} {LB : B → List Sl} {KY : KyT κ}
abbrev DPr (KY : KyT κ) (T : Ty α) (H : Hp) (m : List (κ × α)) (kvs : List (Key × V)) : Prop := Paired (fun (q : κ × α) (w : Key × V) => w.1 = KY.key q.1 ∧ T.R q.2 w.2 H) m kvs
theorem DPr.mono {m : List (κ × α)} {kvs : List (Key × V)} {H H' : Hp} (g : Same H H') (h : DPr KY T H m kvs) : DPr KY T H' m kvs := paired_imp (fun _ _ r => ⟨r.1, T.mono g r.2⟩) h
theorem DPr.imm (i : Imm T) {m : List (κ × α)} {kvs : List (Key × V)} {H H' : Hp} (g : Tups H H') (h : DPr KY T H m kvs) : DPr KY T H' m kvs := paired_imp (fun _ _ r => ⟨r.1, i g r.2⟩) h
variable [DecidableEq κ]
end
end L2
namespace L2
open PySem PySem.Spec PyProof.Rows
section
variable {α κ : Type} [DecidableEq κ]
end
section
variable {α : Type}
end
end L2
namespace L2
open PySem PySem.Spec PyProof.Rows
section
variable {K : PySem.W.Frag} {E : XK}
end
end L2
namespace Att
open PySem PySem.W PySem.Calls PyProof.Rows
theorem bits_all {ns : List Int} (h : WData.layableAll [WData.list (ns.map WData.int)] = true) : ∀ x ∈ ns, Builtin.Int.intBits x ≤ 1048576 := by
  intro x hx
  have h1 := layableW_arg h _ (List.mem_singleton.mpr rfl)
  have h2 := layableW_item h1 (.int x) (List.mem_map.mpr ⟨x, hx, rfl⟩)
  exact PyData.bits_of_layable (layable_int h2)
theorem attach_callB {l : OpenLaw} {n : Nat} {q : Program} {loose : List Str} {XP : (Str → Option Value) → Heap → Prop} {YP : World → Heap → Prop} {d : DefRec}
    (hn : l.most = some n) (hdf : d.params.defaults = [])
    (call : ∀ (w : World) (s₀ s₁ : Shared) (mg mb : Str → Option Value) (fa : Addr) (o : Obj) (pm cd doc : Value) (a : Addr) (vs : List Value) (ns : List Int),
      (∀ x ∈ ns, Builtin.Int.intBits x ≤ 1048576) →
      Ground q loose [] XP w s₀ mg mb s₁.heap → YP w s₁.heap →
      s₁.heap.get? fa = some o → o.data = .func (docDef d.name d.params d.body d.scope pm cd doc) → s₁.heap.CodeRec cd d.name → mg d.name = some (.ref fa) →
      s₁.heap.get? a = some { cls := .type "list", data := .seq vs.toArray } → IntsAre vs ns → ns.length ≤ n → s₁.gens = #[] →
      codeAny (model l.prog w) callerA (.call (.ref fa) ⟨[.ref a], []⟩) (fun r s' => r = .ok (.ret (.bool true)) ∧ OldK s₁.heap s'.heap ∧ s'.os = s₁.os ∧ AllBare s'.gens) s₁) :
    WalkO q loose XP YP l.row.toRowW d [] (fun f vs => PySem.call f vs) := by
  intro w s₀ s₁ mg mb G Y fa o pm cd doc dV kV ho hd hcd hD hmg hg args vals as hpre hlay hrd hwl hlo
  obtain rfl : dV = .none := Dflts.none hD hdf
  obtain rfl : kV = .none := Dflts.noKw hD
  obtain ⟨a, vs, ns, rfl, rfl, hobj, hints, hlen⟩ := script_of hn hpre hwl
  refine enter_call (codeAny_mono (call w s₀ s₁ mg mb fa o pm cd doc a vs ns (bits_all hlay) G Y ho (fd_plain hd) hcd hmg hobj hints hlen hg) fun r s' hq => ?_)
  obtain ⟨rfl, h2, h3, h4⟩ := hq
  exact ⟨.inl ⟨.bool true, .bool true, [], rfl, fun _ => rfl, .bool true, post_true l _, fun _ => ⟨List.Pairwise.nil, fun _ hm => (nomatch hm)⟩⟩, h2, h3, h4⟩
end Att
namespace L2
open PySem PySem.Spec PyProof.Rows
theorem walk_ofB {l : PySem.W.OpenLaw} {n k : Nat} {q : Program} {loose : List Str} {XP : (Str → Option Value) → Heap → Prop} {YP : World → Heap → Prop} {d : DefRec} {K : Params → PySem.W.Frag} {CX : World → CXT} {sp : World → Sp} {x : Str}
    (hn : l.most = some n) (hn2 : n ≤ sizeLine) (hdf : d.params.defaults = []) (hr : Room k callerA)
    (hY : ∀ (w : World) (h : Heap), YP w h → (K w.params).In h)
    (F : ∀ (w : World) (mg : Str → Option Value) (fa : Addr) (h : Heap), (K w.params).In h → h.Ns mainGlobals mg → mg d.name = some (.ref fa) →
      ∃ fd : FuncData, (∀ (s : Shared) (u : Value), BindsTo s fd ⟨[u], []⟩ [(x, u)]) ∧
        ∀ base : Heap, (K w.params).In base → base.Ns mainGlobals mg → FnOk l.prog w (K w.params) mg base (CX w) k fa fd [x] (sp w))
    (hsp : ∀ (w : World) (H : Hp) (a : Addr) (ns : List Int), ns.length ≤ n → (∀ x ∈ ns, Builtin.Int.intBits x ≤ 1048576) → Only H → SqL (K w.params) H a (ns.map V.int) → sp w [.ref a] H (fun v _ => v = .bl true) fun _ _ _ => False)
    (hCX : ∀ (w : World) (H : Hp) (s : Shared) (e : Value) (s' : Shared), CX w [] H s (fun _ _ _ => False) e s' → False) :
    PySem.W.WalkO q loose XP YP l.row.toRowW d [] (fun f vs => PySem.call f vs) := by
  refine Att.attach_callB hn hdf fun w s₀ s₁ mg mb fa o pm cd doc a vs ns hbits G Y ho hd hcd hmg hobj hints hlen hg => ?_
  have KX := hY w _ Y
  obtain ⟨fd, hb, hF⟩ := F w mg fa _ KX G.T.g hmg
  exact law_call KX G.T.g G.T.b G.T.builtins G.T.nolimit hg hobj hints (Nat.le_trans hlen hn2) hr hF hb (fun H hO hS => hsp w H a ns hlen hbits hO hS) fun H e s' => hCX w H s₁ e s'
abbrev BitsOk (ns : List Int) : Prop := ∀ x ∈ ns, Builtin.Int.intBits x ≤ 1048576
end L2
namespace L2
open PySem PySem.Spec PyProof.Rows PySem.W
section
variable {α β : Type}
variable {lt : Nat → Nat → Bool} {n : Nat}
structure WOr (lt : Nat → Nat → Bool) : Prop where
  asym : ∀ {a b}, lt a b = true → lt b a = false
  tr : ∀ {a b c}, lt b a = false → lt c b = false → lt c a = false
abbrev le (lt : Nat → Nat → Bool) (a b : Nat) : Prop := lt b a = false
theorem WOr.refl (w : WOr lt) (a : Nat) : le lt a a := by
  cases h : lt a a with
  | false => exact h
  | true => exact w.asym h
def Asc (lt : Nat → Nat → Bool) (p : Array Nat) (k : Nat) : Prop := ∀ i j, i ≤ j → j < k → le lt (p.getD i 0) (p.getD j 0)
theorem Asc.one (w : WOr lt) (p : Array Nat) : Asc lt p 1 := fun i j a b => by
  obtain rfl : i = j := by omega
  exact w.refl _
end
section
variable {prog : Program} {w : World} {A : Around} {E : Value → Shared → Prop} {s : Shared} {vs : List Value} {lt : Nat → Nat → Bool}
end
end L2
namespace L2
open PySem PySem.Spec PyProof.Rows PySem.W
section
variable {prog : Program} {w : World} {A : Around} {E : Value → Shared → Prop} {s : Shared} {Q : Bool → Shared → Prop}
end
section
variable {X : Cx}
end
end L2
namespace L2
open PySem PySem.Spec PyProof.Rows PySem.W
section
variable {α β : Type}
end
end L2
namespace L2
open PySem PySem.Spec PyProof.Rows PySem.W
section
variable {α β γ : Type} {K : PySem.W.Frag} {E : XK}
end
end L2
universe u
namespace L2
open PySem PySem.Spec PyProof.Rows
section
variable {α γ : Type} {K : PySem.W.Frag} {E : XK} {L : List Sl} {T : Ty α} {e : TE}
abbrev tyH {γ : Type} (C : Cs γ) : Ty γ := ⟨fun c v H => ∃ p us, v = .ref p ∧ H p = some (.lst us) ∧ C.R c us H, fun g ⟨p, us, e, h, q⟩ => ⟨p, us, e, g _ _ h, C.mono g q⟩⟩
theorem ev_ixH {C : Cs γ} {i : Nat} {pr : γ → α} {r : Mo γ} (ha : CsAt C i T pr) (h : EvF K e E L r (tyH C)) : EvF K (tOp (mIx K) e (tC (.int i))) E L (r.bind fun c => .ok (pr c)) T := by
  intro σ F H Q hL hs q
  refine h σ F H _ hL hs (q.bind.imp fun c F1 H1 x1 k1 v1 ⟨p, us, ev, hp, hc⟩ => ?_)
  subst ev
  obtain ⟨w, e2, rw'⟩ := ha hc
  refine ⟨us, .inl (.of (x1.2.1 _ _ hp)), ?_⟩
  have e3 : atI us (i : Int) = some w := by
    unfold atI
    rw [ixN_lt (by omega) (by have := (List.getElem?_eq_some_iff.mp e2).1; omega)]
    simpa using e2
  rw [e3]
  exact k1.ok x1.2.1 w rw'
end
section
variable {α : Type} {K : PySem.W.Frag} {E : XK} {L : List Sl} {T : Ty α} {F h H F0 H0 : Hp} {ρ B S : Type} {LS : S → List Sl} {LB : B → List Sl} {O : Own ρ}
end
end L2
namespace L2
open PySem PySem.Spec PyProof.Rows PySem.W
section
variable {prog : Program} {w : World} {A : Around} {E : Value → Shared → Prop} {s : Shared} {T : String} {rr dd : Addr} {n : Nat} {PP : Nat → Value → Prop} {OK : Heap → Prop}
end
section
variable {prog : Program} {w : World} {A : Around} {E : Value → Shared → Prop} {s : Shared} {lt : Nat → Nat → Bool}
end
section
variable {X : Cx}
end
section
variable {α β γ κ : Type} {K : PySem.W.Frag} {E : XK}
end
end L2
namespace L2
open PySem PySem.Spec PyProof.Rows PySem.W
section
variable {prog : Program} {w : World} {A : Around} {E : Value → Shared → Prop} {s : Shared} {z ti to i j : Addr} {f g : List Addr} {n1 n2 k : Nat} {P1 P2 : Nat → Value → Prop} {S1 S2 : Nat → Heap → Prop} {a b : Value}
end
end L2
namespace L2
open PySem PySem.Spec PyProof.Rows PySem.W
section
variable {prog : Program} {w : World} {A : Around} {E : Value → Shared → Prop} {s : Shared}
end
section
variable {X : Cx} {elts : List Expr} {kk : Nat} {tpos : Pos}
end
section
variable {K : PySem.W.Frag} {E : XK} {α β : Type} {L : List Sl} {T : Ty α}
end
end L2
namespace L2
open PySem PySem.Spec PyProof.Rows
section
variable {K : PySem.W.Frag} {E : XK} {α β γ ρ S B : Type} {F0 H0 F h H : Hp} {L : List Sl} {e : TE} {T : Ty α} {r : Mo α} {O : Own ρ} {u : TS} {LS : S → List Sl} {LB : B → List Sl}
theorem Hold.atM : ∀ {L : List Sl} {σ : St} {F h : Hp} (i : Nat) {s : Sl}, Hold L σ F h → L[i]? = some s →
    ∃ o h1 h2, σ[i]? = some o ∧ Jn h1 h2 h ∧ s.P o F h1 ∧ ∀ F' s' o' h1' h', Same F F' → Jn h1' h2 h' → s'.P o' F' h1' → Hold (L.set i s') (σ.set i o') F' h'
  | [], _, _, _, _, _, _, e => by cases e
  | s :: L, [], _, _, _, _, q, _ => q.elim
  | s :: L, o :: σ, F, h, 0, t, ⟨h1, h2, j, p, r⟩, e => by
    cases e
    exact ⟨o, h1, h2, rfl, j, p, fun F' s' o' h1' h' g j' p' => ⟨h1', h2, j', p', r.mono g⟩⟩
  | s :: L, o :: σ, F, h, i + 1, t, ⟨h1, h2, j, p, r⟩, e => by
    obtain ⟨o1, k1, k2, e1, j1, p1, f⟩ := Hold.atM i r (by simpa using e)
    have d1 : Dj h1 k1 := fun p => by
      rcases j.dj p with a | a
      · exact .inl a
      · exact .inr (j1.l.free a)
    have d2 : Dj h1 k2 := fun p => by
      rcases j.dj p with a | a
      · exact .inl a
      · exact .inr (j1.r.free a)
    refine ⟨o1, k1, un h1 k2, by simpa using e1, fun p => ?_, p1, fun F' s' o' k1' h' g j' p' => ?_⟩
    · rcases j p with ⟨a, b⟩ | ⟨a, b⟩
      · rcases j1 p with ⟨c, d⟩ | ⟨c, d⟩
        · refine .inl ⟨c, ?_⟩; unfold un; rw [a, b, d]
        · refine .inr ⟨?_, by rw [b, d]⟩; unfold un; rw [a, c]
      · refine .inl ⟨j1.l.free a, ?_⟩
        have : k2 p = none := j1.r.free a
        unfold un; rw [b]
        cases h1 p with
        | none => rw [this]
        | some u => rfl
    · have dd : Dj k1' k2 := fun p => by
        rcases j' p with ⟨a, b⟩ | ⟨a, b⟩
        · exact .inl a
        · right; unfold un at a
          cases z : h1 p with
          | none => rw [z] at a; exact a
          | some u => rw [z] at a; cases a
      refine ⟨h1, un k1' k2, fun p => ?_, p.mono g, f F' s' o' k1' _ g (jn_of dd) p'⟩
      rcases j' p with ⟨a, b⟩ | ⟨a, b⟩
      · unfold un at b ⊢
        cases z : h1 p with
        | none => rw [z] at b; exact .inl ⟨rfl, by rw [b, a]⟩
        | some u =>
          rw [z] at b
          refine .inr ⟨?_, b⟩
          rw [a]
          rcases d2 p with y | y
          · rw [y] at z; cases z
          · exact y
      · unfold un at a
        cases z : h1 p with
        | some u => rw [z] at a; cases a
        | none =>
          rw [z] at a
          refine .inl ⟨rfl, ?_⟩
          unfold un; rw [b]
          cases k1' p with
          | none => exact a.symm
          | some u => rfl
structure PutC (F2 H2 h H0 k k' F3 H3 : Hp) : Prop where
  ff : Same F2 F3
  fh : Same F3 H3
  ol : Same (less H2 k) H3
  nw : ∀ q, F2 q = none → F3 q ≠ none → H2 q = none ∨ k q ≠ none
  kh : Same k' H3
  dj : Dj F3 k'
  fr : ∀ q, k q = none → k' q ≠ none → h q = none ∧ H0 q = none
theorem hold_put {O1 : Own α} {i : Nat} {σ : St} {x : α} (hL : Hold L σ F h) (hi : L[i]? = some (.ow O1 x)) (ok : Okk F0 H0 F h H) :
    ∃ v k, σ[i]? = some (some v) ∧ O1.O x v F k ∧ Same k H ∧ Same k h ∧ Dj F k ∧ ∀ {β : Type} (O2 : Own β) (x' : β) (v' : V) (k' F3 H3 : Hp), PutC F H h H0 k k' F3 H3 → O2.O x' v' F3 k' →
      ∃ h', Hold (L.set i (.ow O2 x')) (σ.set i (some v')) F3 h' ∧ Okk F0 H0 F3 h' H3 := by
  obtain ⟨o, k, hr, e1, j, ⟨v, e2, ho⟩, f⟩ := hL.atM i hi
  subst e2
  obtain ⟨o1, o2, o3, o4, o5⟩ := ok
  have kh : Same k h := j.l
  have rh : Same hr h := j.r
  have kne : ∀ q, k q ≠ none → h q ≠ none := fun q z w => z (kh.free w)
  refine ⟨v, k, e1, ho, kh.trans o3, kh, fun q => ?_, ?_⟩
  · rcases o2 q with z | z
    · exact .inl z
    · exact .inr (kh.free z)
  intro β O2 x' v' k' F3 H3 P hv'
  have rk : ∀ {q o}, hr q = some o → k q = none := fun {q o} z => by
    rcases j.dj q with y | y
    · exact y
    · rw [y] at z; cases z
  have dj : Dj k' hr := fun q => by
    by_cases w : k' q = none
    · exact .inl w
    · right
      by_cases w2 : k q = none
      · exact rh.free (P.fr q w2 w).1
      · rcases j.dj q with y | y
        · exact absurd y w2
        · exact y
  have rH : ∀ {q o}, hr q = some o → H3 q = some o := fun {q o} z => P.ol q o (by rw [less_none (rk z)]; exact o3 _ _ (rh _ _ z))
  refine ⟨un k' hr, f F3 (.ow O2 x') (some v') k' _ P.ff (jn_of dj) ⟨_, rfl, hv'⟩, ⟨o1.1.trans P.ff, P.fh, fun q o z => ?_, fun q a b => ?_⟩, fun q => ?_, fun q o z => ?_, fun q z => ?_, fun q xs z => ?_⟩
  · have hq : h q = none := by
      cases w : h q with
      | none => rfl
      | some s => have := o4 q (by rw [w]; exact Option.some_ne_none _); rw [this] at z; cases z
    exact P.ol q o (by rw [less_none (kh.free hq)]; exact o1.2.2.1 _ _ z)
  · by_cases w : F q = none
    · rcases P.nw q w b with y | y
      · exact o1.2.2.1.free y
      · exact o4 q (kne q y)
    · exact o1.2.2.2 q a w
  · unfold un
    cases w : k' q with
    | some s =>
      left
      rcases P.dj q with y | y
      · exact y
      · rw [y] at w; cases w
    | none =>
      cases y : hr q with
      | none => exact .inr rfl
      | some s =>
        left
        have hq : h q = some s := rh _ _ y
        have Fq : F q = none := by
          rcases o2 q with d | d
          · exact d
          · rw [d] at hq; cases hq
        by_cases w3 : F3 q = none
        · exact w3
        · rcases P.nw q Fq w3 with d | d
          · rw [o3 _ _ hq] at d; cases d
          · exact absurd (rk y) d
  · unfold un at z
    cases w : k' q with
    | some s => rw [w] at z; rw [P.kh q s w]; exact z
    | none => rw [w] at z; exact rH z
  · unfold un at z
    cases w : k' q with
    | some s =>
      by_cases y : k q = none
      · exact (P.fr q y (by rw [w]; exact Option.some_ne_none _)).2
      · exact o4 q (kne q y)
    | none =>
      rw [w] at z
      exact o4 q fun y => z (rh.free y)
  · unfold un at z
    cases w : k' q with
    | some s => rw [w] at z; refine O2.notup hv' q xs ?_; rw [w]; exact z
    | none => rw [w] at z; exact o5 q xs (rh _ _ z)
theorem PutC.same {k k' : Hp} {H3 : Hp} (ok : Okk F0 H0 F h H) (kh : Same k h) (a : Same k' H3) (b : ∀ q, k q = none → k' q = none → H3 q = H q) (c : ∀ q, k q = none → k' q ≠ none → F q = none ∧ h q = none ∧ H0 q = none ∧ H q = k' q) : PutC F H h H0 k k' F H3 := by
  have dj : Dj F k' := fun q => by
    by_cases w : k' q = none
    · exact .inr w
    · left
      by_cases y : k q = none
      · exact (c q y w).1
      · rcases ok.2.1 q with d | d
        · exact d
        · exact absurd (kh.free d) y
  have ol : ∀ q o, k q = none → H q = some o → H3 q = some o := fun q o y z => by
    by_cases w : k' q = none
    · rw [b q y w]; exact z
    · obtain ⟨_, _, _, e⟩ := c q y w
      rw [z] at e
      exact a _ _ e.symm
  refine ⟨Same.refl _, fun q o z => ?_, fun q o z => ?_, fun q y z => absurd y z, a, dj, fun q y z => ⟨(c q y z).2.1, (c q y z).2.2.1⟩⟩
  · have y : k q = none := by
      rcases ok.2.1 q with d | d
      · rw [d] at z; cases z
      · exact kh.free d
    exact ol q o y (ok.1.2.1 _ _ z)
  · unfold less at z
    split at z
    · rename_i y; exact ol q o y z
    · cases z
theorem PutC.one {p : Addr} {o o' : HO} (ok : Okk F0 H0 F h H) (kh : Same (one p o) h) : PutC F H h H0 (one p o) (one p o') F (upd H p o') := by
  have ne : ∀ q, L2.one p o q = none → q ≠ p := fun q z w => by rw [w, one_same] at z; cases z
  refine PutC.same ok kh (fun q s z => ?_) (fun q z1 z2 => upd_ne (ne q z1)) fun q z1 z2 => ?_
  · unfold L2.one at z
    split at z
    · rename_i w; unfold upd; rw [if_pos w]; exact z
    · cases z
  · unfold L2.one at z2
    rw [if_neg (ne q z1)] at z2
    exact absurd rfl z2
end
section
variable {K : PySem.W.Frag} {E : XK} {α β γ ρ S B : Type} {F0 H0 F h H : Hp} {L : List Sl} {e : TE} {T : Ty α} {r : Mo α} {O : Own ρ} {u : TS} {LS : S → List Sl} {LB : B → List Sl} {p : Addr} {vs : List V}
end
end L2
namespace L2
open PySem PySem.Spec PyProof.Rows
section
variable {α β γ : Type}
def OwAll (O : Own α) (F : Hp) : List α → List V → Hp → Prop
  | [], [], h => ∀ p, h p = none
  | x :: xs, v :: vs, h => ∃ h1 h2, Jn h1 h2 h ∧ O.O x v F h1 ∧ OwAll O F xs vs h2
  | _, _, _ => False
variable {O : Own α}
theorem OwAll.mono : ∀ {xs : List α} {vs : List V} {F F' h : Hp}, Same F F' → OwAll O F xs vs h → OwAll O F' xs vs h
  | [], [], _, _, _, _, q => q
  | x :: xs, v :: vs, F, F', h, g, ⟨h1, h2, j, o, r⟩ => ⟨h1, h2, j, O.mono g o, r.mono g⟩
  | [], _ :: _, _, _, _, _, q => q.elim
  | _ :: _, [], _, _, _, _, q => q.elim
theorem OwAll.imm (i : ImmO O) : ∀ {xs : List α} {vs : List V} {F F' h : Hp}, Tups F F' → OwAll O F xs vs h → OwAll O F' xs vs h
  | [], [], _, _, _, _, q => q
  | x :: xs, v :: vs, F, F', h, g, ⟨h1, h2, j, o, r⟩ => ⟨h1, h2, j, i g o, r.imm i g⟩
  | [], _ :: _, _, _, _, _, q => q.elim
  | _ :: _, [], _, _, _, _, q => q.elim
theorem OwAll.notup : ∀ {xs : List α} {vs : List V} {F h : Hp}, OwAll O F xs vs h → ∀ p ys, h p ≠ some (.tup ys)
  | [], [], _, _, q, p, ys => by rw [q p]; exact fun z => by cases z
  | x :: xs, v :: vs, F, h, ⟨h1, h2, j, o, r⟩, p, ys => by
    rcases j p with ⟨_, b⟩ | ⟨_, b⟩
    · rw [b]; exact r.notup p ys
    · rw [b]; exact O.notup o p ys
  | [], _ :: _, _, _, q, _, _ => q.elim
  | _ :: _, [], _, _, q, _, _ => q.elim
theorem OwAll.len : ∀ {xs : List α} {vs : List V} {F h : Hp}, OwAll O F xs vs h → xs.length = vs.length
  | [], [], _, _, _ => rfl
  | x :: xs, v :: vs, F, h, ⟨h1, h2, j, o, r⟩ => by rw [List.length_cons, List.length_cons, r.len]
  | [], _ :: _, _, _, q => q.elim
  | _ :: _, [], _, _, q => q.elim
theorem un_mono {F h1 h : Hp} (d : Dj F h) (s : Same h1 h) : Same (un F h1) (un F h) := fun p o e => by
  unfold un at e ⊢
  cases z : F p with
  | some w => rw [z] at e; exact e
  | none => rw [z] at e; exact s _ _ e
theorem OwAll.prs : ∀ {xs : List α} {vs : List V} {F h G : Hp}, Dj F h → Same (un F h) G → OwAll O F xs vs h → Prs O.fr G xs vs
  | [], [], _, _, _, _, _, _ => .nil
  | x :: xs, v :: vs, F, h, G, d, g, ⟨h1, h2, j, o, r⟩ => by
    have d1 : Dj F h1 := fun p => by
      rcases d p with z | z
      · exact .inl z
      · exact .inr (j.l.free z)
    have d2 : Dj F h2 := fun p => by
      rcases d p with z | z
      · exact .inl z
      · exact .inr (j.r.free z)
    exact .cons (O.fr.mono ((un_mono d j.l).trans g) (O.frz d1 o)) (r.prs d2 ((un_mono d j.r).trans g))
  | [], _ :: _, _, _, _, _, _, q => q.elim
  | _ :: _, [], _, _, _, _, _, q => q.elim
theorem jn_sym {h1 h2 h : Hp} (j : Jn h1 h2 h) : Jn h2 h1 h := fun p => by
  rcases j p with ⟨a, b⟩ | ⟨a, b⟩
  · exact .inr ⟨a, b⟩
  · exact .inl ⟨a, b⟩
theorem jn_assoc {h1 h2 h12 h3 h : Hp} (j : Jn h1 h2 h12) (k : Jn h12 h3 h) : ∃ h23, Jn h2 h3 h23 ∧ Jn h1 h23 h := by
  have d : Dj h2 h3 := fun p => by
    rcases k.dj p with z | z
    · exact .inl (j.r.free z)
    · exact .inr z
  refine ⟨un h2 h3, jn_of d, fun p => ?_⟩
  unfold un
  rcases k p with ⟨a, b⟩ | ⟨a, b⟩
  · refine .inl ⟨j.l.free a, ?_⟩
    rw [j.r.free a]; exact b
  · rcases j p with ⟨c, e⟩ | ⟨c, e⟩
    · refine .inl ⟨c, ?_⟩
      rw [b, e]
      cases z : h2 p with
      | none => exact a.symm ▸ rfl
      | some w => rfl
    · refine .inr ⟨?_, by rw [b, e]⟩
      rw [c]; exact a
theorem OwAll.at : ∀ {xs : List α} {vs : List V} {F h : Hp} (i : Nat) {x : α}, OwAll O F xs vs h → xs[i]? = some x →
    ∃ v h1 h2, vs[i]? = some v ∧ Jn h1 h2 h ∧ O.O x v F h1 ∧ ∀ x' h1' h' F3, Same F F3 → O.O x' v F3 h1' → Jn h1' h2 h' → OwAll O F3 (xs.set i x') vs h'
  | [], _, _, _, _, _, _, e => by cases e
  | x :: xs, [], _, _, _, _, q, _ => q.elim
  | x :: xs, v :: vs, F, h, 0, y, ⟨h1, h2, j, o, r⟩, e => by
    cases e
    exact ⟨v, h1, h2, rfl, j, o, fun x' h1' h' F3 g o' j' => ⟨h1', h2, j', o', r.mono g⟩⟩
  | x :: xs, v :: vs, F, h, i + 1, y, ⟨h1, h2, j, o, r⟩, e => by
    obtain ⟨w, k1, k2, e1, j1, o1, f⟩ := OwAll.at i r (by simpa using e)
    obtain ⟨m, jm, jh⟩ := jn_assoc j1 (jn_sym j)
    refine ⟨w, k1, m, by simpa using e1, jh, o1, fun x' k1' h' F3 g o' j' => ?_⟩
    have d : Dj k1' k2 := fun p => by
      rcases j'.dj p with z | z
      · exact .inl z
      · exact .inr (jm.l.free z)
    refine ⟨h1, un k1' k2, ?_, O.mono g o, f x' k1' _ F3 g o' (jn_of d)⟩
    intro p
    rcases j' p with ⟨a, b⟩ | ⟨a, b⟩
    · rcases jm p with ⟨c, e⟩ | ⟨c, e⟩
      · right
        refine ⟨by unfold un; rw [a, c], by rw [b, e]⟩
      · left
        refine ⟨c, by unfold un; rw [a, b, e]⟩
    · left
      refine ⟨jm.r.free a, ?_⟩
      unfold un
      rw [b]
      cases z : k1' p with
      | none => exact (jm.l.free a).symm ▸ rfl
      | some w => rfl
theorem OwAll.snoc : ∀ {xs : List α} {vs : List V} {F h : Hp} {x : α} {v : V} {hn : Hp}, OwAll O F xs vs h → O.O x v F hn → Dj h hn → OwAll O F (xs ++ [x]) (vs ++ [v]) (un h hn)
  | [], [], F, h, x, v, hn, q, o, d => by
    refine ⟨hn, fun _ => none, fun p => .inr ⟨rfl, ?_⟩, o, fun _ => rfl⟩
    unfold un; rw [q p]
  | y :: xs, w :: vs, F, h, x, v, hn, ⟨h1, h2, j, o1, r⟩, o, d => by
    obtain ⟨m, jm, jh⟩ := jn_assoc j (jn_of d)
    have d2 : Dj h2 hn := jm.dj
    have e : m = un h2 hn := by
      funext p
      unfold un
      rcases jm p with ⟨a, b⟩ | ⟨a, b⟩
      · rw [a]; exact b
      · rw [b]
        cases z : h2 p with
        | none => exact a.symm ▸ rfl
        | some w => rfl
    rw [e] at jh
    exact ⟨h1, _, jh, o1, r.snoc o d2⟩
  | [], _ :: _, _, _, _, _, _, q, _, _ => q.elim
  | _ :: _, [], _, _, _, _, _, q, _, _ => q.elim
abbrev owLO (O : Own α) : Own (List α) := ⟨fun xs v F h => ∃ p vs h2, v = .ref p ∧ Jn (one p (.lst vs)) h2 h ∧ OwAll O F xs vs h2, tyL O.fr, fun g ⟨p, vs, h2, e, j, q⟩ => ⟨p, vs, h2, e, j, q.mono g⟩,
  fun {a v F h} d ⟨p, vs, h2, e, j, q⟩ => ⟨p, vs, e, un_own d _ _ (j.l _ _ one_same), q.prs (fun b => by
    rcases d b with z | z
    · exact .inl z
    · exact .inr (j.r.free z)) (un_mono d j.r)⟩,
  fun ⟨p, vs, h2, e, j, q⟩ b xs y => by
    rcases j b with ⟨_, z⟩ | ⟨_, z⟩
    · rw [z] at y; exact q.notup b xs y
    · rw [z] at y; unfold one at y; split at y <;> cases y⟩
theorem immo_lo (i : ImmO O) : ImmO (owLO O) := fun g ⟨p, vs, h2, e, j, q⟩ => ⟨p, vs, h2, e, j, q.imm i g⟩
end
section
variable {K : PySem.W.Frag} {E : XK} {α β γ ρ S B : Type} {F0 H0 F h H : Hp} {L : List Sl} {e te ei : TE} {T : Ty α} {r : Mo α} {Or : Own ρ} {u : TS} {LS : S → List Sl} {LB : B → List Sl} {σ : St}
def Foc (F0 H0 : Hp) (σ : St) (h F1 : Hp) (O' : Own β) (y : β) (u : V) (LF : β → List Sl) : Prop :=
  ∀ F2 H2, Same F1 F2 → Okk F0 H0 F2 h H2 → ∃ k, O'.O y u F2 k ∧ Same k h ∧
    ∀ y' k' F3 H3, PutC F2 H2 h H0 k k' F3 H3 → O'.O y' u F3 k' → ∃ h', Hold (LF y') σ F3 h' ∧ Okk F0 H0 F3 h' H3
theorem foc_root {O : Own α} {x : α} {i : Nat} (hL : Hold L σ F h) (hi : L[i]? = some (.ow O x)) : ∃ v, σ[i]? = some (some v) ∧ Foc F0 H0 σ h F O x v (fun x' => L.set i (.ow O x')) := by
  obtain ⟨o, _, _, e1, _, ⟨v, e2, _⟩, _⟩ := hL.at i hi
  subst e2
  refine ⟨v, e1, fun F2 H2 s ok => ?_⟩
  obtain ⟨v', k, e1', ho, _, kh, _, g⟩ := hold_put (hL.mono s) hi ok
  rw [e1] at e1'; cases e1'
  refine ⟨k, ho, kh, fun y' k' F3 H3 a b => ?_⟩
  obtain ⟨h', a1, a2⟩ := g O y' v k' F3 H3 a b
  rw [set_self e1] at a1
  exact ⟨h', a1, a2⟩
theorem Foc.part {O : Own α} {O' : Own β} {F1 : Hp} {y : α} {z : β} {w u : V} {LF : α → List Sl} {put : β → α} (f : Foc F0 H0 σ h F1 O y u LF)
    (pt : ∀ F2 k, Same F1 F2 → Same k h → O.O y u F2 k → ∃ k1 k2, Jn k1 k2 k ∧ O'.O z w F2 k1 ∧ ∀ z' k1' k' F3, Same F2 F3 → O'.O z' w F3 k1' → Jn k1' k2 k' → O.O (put z') u F3 k') : Foc F0 H0 σ h F1 O' z w (fun z' => LF (put z')) := by
  intro F2 H2 s ok
  obtain ⟨k, ho, kh, g⟩ := f F2 H2 s ok
  obtain ⟨k1, k2, j, ho', pp⟩ := pt F2 k s kh ho
  refine ⟨k1, ho', j.l.trans kh, fun z' k1' F3 H3 P hz => ?_⟩
  have d : Dj k1' k2 := fun q => by
    by_cases w1 : k1' q = none
    · exact .inl w1
    · right
      by_cases w2 : k1 q = none
      · exact (j.r.trans kh).free (P.fr q w2 w1).1
      · rcases j.dj q with y | y
        · exact absurd y w2
        · exact y
  have k2h : ∀ {q o}, k2 q = some o → k1 q = none ∧ H3 q = some o := fun {q o} e => by
    have y1 : k1 q = none := by
      rcases j.dj q with y1 | y1
      · exact y1
      · rw [y1] at e; cases e
    exact ⟨y1, P.ol q o (by rw [less_none y1]; exact ok.2.2.1 _ _ (kh _ _ (j.r _ _ e)))⟩
  refine g (put z') (un k1' k2) F3 H3 ⟨P.ff, P.fh, fun q o e => ?_, (fun q a b => (P.nw q a b).imp id fun z w => z (j.l.free w)), fun q o e => ?_, fun q => ?_, fun q a1 a2 => ?_⟩ (pp z' k1' _ F3 P.ff hz (jn_of d))
  · unfold less at e
    split at e
    · rename_i y; exact P.ol q o (by rw [less_none (j.l.free y)]; exact e)
    · cases e
  · unfold un at e
    cases y : k1' q with
    | some s => rw [y] at e; rw [P.kh q s y]; exact e
    | none => rw [y] at e; exact (k2h e).2
  · unfold un
    cases y : k1' q with
    | some s =>
      rcases P.dj q with d | d
      · exact .inl d
      · rw [d] at y; cases y
    | none =>
      cases e : k2 q with
      | none => exact .inr rfl
      | some s =>
        left
        have hq : h q = some s := kh _ _ (j.r _ _ e)
        have Fq : F2 q = none := by
          rcases ok.2.1 q with d | d
          · exact d
          · rw [d] at hq; cases hq
        by_cases w3 : F3 q = none
        · exact w3
        · rcases P.nw q Fq w3 with d | d
          · rw [ok.2.2.1 _ _ hq] at d; cases d
          · exact absurd (k2h e).1 d
  · unfold un at a2
    have y2 : k2 q = none := j.r.free a1
    have y : k1' q ≠ none := fun y => by rw [y] at a2; exact a2 y2
    exact P.fr q (j.l.free a1) y
def EvPt (K : PySem.W.Frag) (te : TE) (E : XK) (L : List Sl) (i : Nat) (O : Own α) (O' : Own β) (r : Mo (β × (β → α))) : Prop :=
  ∀ F0 H0 σ F h H (Q : VK), Hold L σ F h → Okk F0 H0 F h H → After K r E (un F h) H (fun yp G1 H1 => ∀ u, Foc F0 H0 σ h (less G1 h) O' yp.1 u (fun z => L.set i (.ow O (yp.2 z))) → Q u H1) → te σ H Q
theorem evp_var {O : Own α} {x : α} {i : Nat} (hi : L[i]? = some (.ow O x)) : EvPt K (mVar i) E L i O O (.ok (x, fun z => z)) := by
  intro F0 H0 σ F h H Q hL ok q
  obtain ⟨o, hs, _⟩ := ok.back (Ext.refl ok.thaw)
  obtain ⟨v, ev, fc⟩ := foc_root (F0 := F0) (H0 := H0) (hL.mono hs) hi
  exact mvar_at ev (q.ok ok.thaw v fc)
theorem owLO_at {O : Own β} {p : Addr} {xs : List β} {n : Nat} {y : β} {vs : List V} {w : V} (hv : h p = some (.lst vs)) (hw : vs[n]? = some w) (e : xs[n]? = some y) :
    ∀ F2 k, Same k h → (owLO O).O xs (.ref p) F2 k → ∃ k1 k2, Jn k1 k2 k ∧ O.O y w F2 k1 ∧ ∀ y' k1' k' F3, Same F2 F3 → O.O y' w F3 k1' → Jn k1' k2 k' → (owLO O).O (xs.set n y') (.ref p) F3 k' := by
  rintro F2 k kh ⟨p', vs', k2, ep, j, all⟩
  cases ep
  have ev : vs' = vs := by
    have := kh _ _ (j.l _ _ one_same)
    rw [hv] at this
    injection this with this
    injection this with this
    exact this.symm
  subst ev
  obtain ⟨w', a1, a2, e1, j1, o1, f⟩ := all.at n e
  rw [hw] at e1; cases e1
  obtain ⟨m, jm, jk⟩ := jn_assoc j1 (jn_sym j)
  refine ⟨a1, m, jk, o1, fun y' k1' k' F3 g o' j' => ?_⟩
  have d : Dj k1' a2 := fun q => by
    rcases j'.dj q with z | z
    · exact .inl z
    · exact .inr (jm.l.free z)
  refine ⟨p, vs', un k1' a2, rfl, ?_, f y' k1' _ F3 g o' (jn_of d)⟩
  intro q
  rcases j' q with ⟨a, b⟩ | ⟨a, b⟩
  · rcases jm q with ⟨c, e⟩ | ⟨c, e⟩
    · right
      refine ⟨by unfold un; rw [a, c], by rw [b, e]⟩
    · left
      refine ⟨c, by unfold un; rw [a, b, e]⟩
  · left
    refine ⟨jm.r.free a, ?_⟩
    unfold un
    rw [b]
    cases z : k1' q with
    | none => exact (jm.l.free a).symm ▸ rfl
    | some w => rfl
theorem less_mono {G1 G2 h : Hp} (s : Same G1 G2) : Same (less G1 h) (less G2 h) := fun p o e => by
  unfold less at e ⊢
  split at e
  · exact s _ _ e
  · cases e
theorem evp_ix {O : Own α} {O' : Own β} {i : Nat} {r : Mo (List β × (List β → α))} {rj : Mo Int} (hp : EvPt K te E L i O (owLO O') r) (hj : EvF K ei E L rj tyInt) :
    EvPt K (tOp (mIx K) te ei) E L i O O' (r.bind fun yp => rj.bind fun j => (Mo.opt (ixN yp.1.length j)).bind fun n => (Mo.opt (yp.1[n]?)).bind fun z => .ok (z, fun z' => yp.2 (yp.1.set n z'))) := by
  intro F0 H0 σ F h H Q hL ok q
  refine hp F0 H0 σ F h H _ hL ok (q.bind.imp fun yp G1 H1 x1 k1 u fc => ?_)
  refine hj σ G1 H1 _ ((hL.froz ok.2.1).mono x1.1) x1.2.1 (k1.bind.imp fun j G2 H2 x2 k2 v2 hv2 => ?_)
  cases hv2
  obtain ⟨n, en, k3⟩ := k2.bind.opt
  obtain ⟨z, ez, k4⟩ := (k3.ok x2.2.1).bind.opt
  have k5 := (k4.ok x2.2.1).ok x2.2.1
  obtain ⟨o2, _, _⟩ := ok.back (x1.trans x2)
  obtain ⟨k, ⟨p, vs, m, rfl, jn, all⟩, kh, _⟩ := fc (less G2 h) H2 (less_mono x2.1) o2
  have hp1 : h p = some (.lst vs) := kh _ _ (jn.l _ _ one_same)
  refine ⟨vs, .inl (.of (o2.2.2.1 _ _ hp1)), ?_⟩
  have hl := all.len
  have hn := ixN_some en
  have hw : vs[n]? = some vs[n] := List.getElem?_eq_getElem (by omega)
  have en' : ixN vs.length j = some n := by rw [← hl]; exact en
  have ea : atI vs j = some vs[n] := by unfold atI; rw [en']; exact hw
  rw [ea]
  refine k5 _ (Foc.part (O := owLO O') (y := yp.1) (put := fun z' => yp.1.set n z') (LF := fun y' => L.set i (.ow O (yp.2 y'))) (u := .ref p) (fun F2 H3 s ok => fc F2 H3 ((less_mono x2.1).trans s) ok) fun F2 k s kh ho => ?_)
  exact owLO_at hp1 hw ez F2 k kh ho
end
end L2
namespace L2
open PySem PySem.Spec PyProof.Rows
def mFld (C : Addr) (te : TE) (f : Str) : TE := fun σ H Q => te σ H fun x H1 => match x with
  | .ref a => ∃ dx fs v, H1 a = some (.ins C dx fs) ∧ fs.lookup f = some v ∧ Q v H1
  | _ => False
def mSFld (C : Addr) (te tv : TE) (f : Str) : TS := fun D σ H => tv σ H fun y H1 => te σ H1 fun x H2 => match x with
  | .ref a => ∃ dx fs, H2 a = some (.ins C dx fs) ∧ fs.length < 1000 ∧ D.nx σ (upd H2 a (.ins C dx (putF f y fs)))
  | _ => False
def Gm (P : Program) (w : World) (K : PySem.W.Frag) (mg : Str → Option Value) (base : Heap) (CX : CXT) (k : Nat) (C : Addr) (m : Str) (ps : List Str) (sp : Sp) : Prop :=
  ∃ f fd, FnOk P w K mg base CX k f fd ps sp ∧ Cls K C ∧ Meth K C m f ∧ Binds K fd ps []
def Gk (P : Program) (w : World) (K : PySem.W.Frag) (mg : Str → Option Value) (base : Heap) (CX : CXT) (k : Nat) (x : Str) (C : Addr) (ps : List Str) (sp : Sp) : Prop :=
  ∃ f fd, FnOk P w K mg base CX k f fd ps sp ∧ Mk K C f ∧ mg x = some (.ref C) ∧ Binds K fd ps []
section
variable {X : Cx} {e value o : Expr} {es : List Expr} {f m x : Str} {p pos pos' apos : Pos} {ta tv : TE} {t : TA} {C : Addr} {k : Nat} {ps : List Str} {sp : Sp}
theorem pe_fldC (c : Cls X.K C) (n : NoAttr X.K C f) (he : PE X e ta) (hb : attributeBase e f X.env (eval e X.env) = eval e X.env := by rfl) : PE X (.Attribute e f pos) (mFld C ta f) := by
  intro pins s σ H Q I h
  refine attr_of hb (thn (he pins s σ H _ I h) fun u s1 ⟨x, H1, I1, rx, q1⟩ => ?_)
  cases x with
  | ref a =>
    obtain ⟨dx, fs, v, ea, l, q⟩ := q1
    obtain rfl : u = Value.ref a := rx
    exact getattr_ok I1 ea c n l fun u' s2 I2 ru => ⟨v, H1, I2, ru, q⟩
  | _ => exact q1.elim
theorem ps_fldC (c : Cls X.K C) (n : NoAttr X.K C f) (ha : PE X o ta) (hv : PE X value tv) (hs : swapsWith value (some (.Attribute o f pos')) pos.line X.env = pure false := by rfl) : PS X (.Assign [.Attribute o f pos'] value pos) (mSFld C ta tv f) := by
  intro pins s σ H D I h
  refine plainObj_wpAny_Assign_Attribute (thn (hv pins s σ H _ I h) fun u s1 ⟨y, H1, I1, ry, q⟩ => thn (ha pins s1 σ H1 _ I1 q) fun ov s2 ⟨x, H2, I2, rx, q2⟩ => ?_) hs
  cases x with
  | ref a =>
    obtain ⟨dx, fs, ea, l, q3⟩ := q2
    obtain rfl : ov = Value.ref a := rx
    exact setattr_ok I2 ea c n l ry fun s3 I3 => ⟨σ, _, I3, q3⟩
  | _ => exact q2.elim
theorem pe_methG {pl : Sem Bool} (G : Gm X.prog X.w X.K X.mg X.base CX0 k C m ps sp) (hr : Room k X.A) (he : PE X o ta) (ha : PA X (e :: es) t)
    (hst : starEach (e :: es) X.env = (false, eval e X.env) :: starEach es X.env := by rfl) (hpl : (backTo pos (starEach es X.env)).any (·.1) = false := by rfl)
    (ht : eval (.Call (.Attribute o m apos) (e :: es) [] pos) X.env = (do
      let ov ← eval o X.env
      standAt apos.atName
      let (f, first) ← holding [ov] (getMethod ov m pl)
      callWith pos f first (backTo pos (starEach (e :: es) X.env)) (backToKw pos (keywordEach [] X.env))) := by rfl) :
    PE X (.Call (.Attribute o m apos) (e :: es) [] pos) (tMeth C m sp [] E0 ta t) := by
  obtain ⟨f, fd, F, c, hm, hb⟩ := G
  exact pe_meth he c hm F hr hb .nil pass0 ha hst hpl ht
theorem pe_methG0 {pl : Sem Bool} (G : Gm X.prog X.w X.K X.mg X.base CX0 k C m ps sp) (hr : Room k X.A) (he : PE X o ta)
    (ht : eval (.Call (.Attribute o m apos) [] [] pos) X.env = (do
      let ov ← eval o X.env
      standAt apos.atName
      let (f, first) ← holding [ov] (getMethod ov m pl)
      callWith pos f first (backTo pos (starEach [] X.env)) (backToKw pos (keywordEach [] X.env))) := by rfl) :
    PE X (.Call (.Attribute o m apos) [] [] pos) (tMeth C m sp [] E0 ta tNil) := by
  obtain ⟨f, fd, F, c, hm, hb⟩ := G
  exact pe_meth0 he c hm F hr hb .nil pass0 ht
theorem pe_makeG (G : Gk X.prog X.w X.K X.mg X.base CX0 k x C ps sp) (hr : Room (k + 1) X.A) (ha : PA X (e :: es) t) (hg : Gl X x := by rfl) (hdb : (x == ("__debug__" : Str)) = false := by decide)
    (he : starEach (e :: es) X.env = (false, eval e X.env) :: starEach es X.env := by rfl) (hpl : (backTo pos (starEach es X.env)).any (·.1) = false := by rfl) :
    PE X (.Call (.Name x p) (e :: es) [] pos) (tMake C sp [] E0 t) := by
  obtain ⟨f, fd, F, M, hm, hb⟩ := G
  exact pe_make M F hr hg hm hb .nil pass0 ha hdb he hpl
end
theorem lookup_zip : ∀ {ns : List Str} {vs : List V} {i : Nat} {f : Str} {v : V}, ns.Nodup → ns[i]? = some f → vs[i]? = some v → (ns.zip vs).lookup f = some v
  | [], _, _, _, _, _, h, _ => by simp at h
  | n :: ns, [], _, _, _, _, _, h => by simp at h
  | n :: ns, w :: vs, 0, f, v, _, h, h' => by
    simp at h h'; subst h h'
    rw [List.zip_cons_cons, List.lookup_cons, beq_self_eq_true]
  | n :: ns, w :: vs, i + 1, f, v, nd, h, h' => by
    obtain ⟨h1, h2⟩ := List.nodup_cons.mp nd
    have hf : ns[i]? = some f := by simpa using h
    have hne : (f == n) = false := beq_eq_false_iff_ne.mpr fun z => h1 (z ▸ List.mem_of_getElem? hf)
    rw [List.zip_cons_cons, List.lookup_cons, hne]
    exact lookup_zip h2 hf (by simpa using h')
theorem lookup_zip_no : ∀ {ns : List Str} {vs : List V} {f : Str}, f ∉ ns → (ns.zip vs).lookup f = none
  | [], _, _, _ => rfl
  | n :: ns, [], _, _ => rfl
  | n :: ns, w :: vs, f, h => by
    have hne : (f == n) = false := beq_eq_false_iff_ne.mpr fun z => h (z ▸ List.mem_cons_self ..)
    rw [List.zip_cons_cons, List.lookup_cons, hne]
    exact lookup_zip_no fun z => h (List.mem_cons_of_mem _ z)
theorem putF_zip : ∀ {ns : List Str} {vs : List V} {i : Nat} {f : Str} (v : V), ns.Nodup → ns[i]? = some f → i < vs.length → putF f v (ns.zip vs) = ns.zip (vs.set i v)
  | [], _, _, _, _, _, h, _ => by simp at h
  | n :: ns, [], _, _, _, _, _, h => by simp at h
  | n :: ns, w :: vs, 0, f, v, _, h, _ => by
    simp at h; subst h
    rw [List.zip_cons_cons, putF, if_pos rfl]; rfl
  | n :: ns, w :: vs, i + 1, f, v, nd, h, h' => by
    obtain ⟨h1, h2⟩ := List.nodup_cons.mp nd
    have hf : ns[i]? = some f := by simpa using h
    have hne : ¬ n = f := fun z => h1 (z ▸ List.mem_of_getElem? hf)
    rw [List.zip_cons_cons, putF, if_neg hne, putF_zip v h2 hf (by simpa using h')]; rfl
theorem putF_new : ∀ {ns : List Str} {vs : List V} {f : Str} (v : V), f ∉ ns → vs.length = ns.length → putF f v (ns.zip vs) = (ns ++ [f]).zip (vs ++ [v])
  | [], [], f, v, _, _ => rfl
  | [], _ :: _, _, _, _, h => by simp at h
  | _ :: _, [], _, _, _, h => by simp at h
  | n :: ns, w :: vs, f, v, h, hl => by
    have hne : ¬ n = f := fun z => h (z ▸ List.mem_cons_self ..)
    rw [List.zip_cons_cons, putF, if_neg hne, putF_new v (fun z => h (List.mem_cons_of_mem _ z)) (by simpa using hl)]; rfl
structure Ps (γ : Type) where
  P : γ → List V → Hp → Hp → Prop
  fr : Cs γ
  mono : ∀ {c vs F F' h}, Same F F' → P c vs F h → P c vs F' h
  frz : ∀ {c vs F h}, Dj F h → P c vs F h → fr.R c vs (un F h)
  notup : ∀ {c vs F h}, P c vs F h → ∀ p xs, h p ≠ some (.tup xs)
section
variable {α β γ : Type}
theorem dj_l {F h1 h2 h : Hp} (d : Dj F h) (j : Jn h1 h2 h) : Dj F h1 := fun p => by
  rcases d p with z | z
  · exact .inl z
  · exact .inr (j.l.free z)
theorem dj_r {F h1 h2 h : Hp} (d : Dj F h) (j : Jn h1 h2 h) : Dj F h2 := fun p => by
  rcases d p with z | z
  · exact .inl z
  · exact .inr (j.r.free z)
abbrev psNil : Ps Unit := ⟨fun _ vs _ h => vs = [] ∧ ∀ p, h p = none, csNil, fun _ q => q, fun _ q => q.1, fun q p xs z => by rw [q.2 p] at z; cases z⟩
abbrev psO (O : Own α) (P : Ps γ) : Ps (α × γ) := ⟨fun c vs F h => ∃ v us h1 h2, vs = v :: us ∧ Jn h1 h2 h ∧ O.O c.1 v F h1 ∧ P.P c.2 us F h2, csCons O.fr P.fr,
  fun g ⟨v, us, h1, h2, e, j, a, b⟩ => ⟨v, us, h1, h2, e, j, O.mono g a, P.mono g b⟩,
  fun d ⟨v, us, h1, h2, e, j, a, b⟩ => ⟨v, us, e, O.fr.mono (un_mono d j.l) (O.frz (dj_l d j) a), P.fr.mono (un_mono d j.r) (P.frz (dj_r d j) b)⟩,
  fun ⟨v, us, h1, h2, e, j, a, b⟩ p xs z => by
    rcases j p with ⟨_, y⟩ | ⟨_, y⟩
    · rw [y] at z; exact P.notup b p xs z
    · rw [y] at z; exact O.notup a p xs z⟩
def two (p dx : Addr) (o : HO) : Hp := fun q => if q = p then some o else if q = dx then some (.own p) else none
theorem two_p {p dx : Addr} {o : HO} : two p dx o p = some o := if_pos rfl
theorem two_dx {p dx : Addr} {o : HO} (h : dx ≠ p) : two p dx o dx = some (.own p) := by unfold two; rw [if_neg h, if_pos rfl]
theorem two_no {p dx q : Addr} {o : HO} (h : two p dx o q = none) : q ≠ p ∧ q ≠ dx := by
  refine ⟨fun e => ?_, fun e => ?_⟩
  · rw [e, two_p] at h; cases h
  · unfold two at h; split at h
    · cases h
    · first | cases h | (rw [if_pos e] at h; cases h)
abbrev tyI (C : Addr) (ns : List Str) (Q : Cs γ) : Ty γ := ⟨fun c v H => ∃ p dx vs, v = .ref p ∧ H p = some (.ins C dx (ns.zip vs)) ∧ vs.length = ns.length ∧ Q.R c vs H, fun g ⟨p, dx, vs, e, h, l, q⟩ => ⟨p, dx, vs, e, g _ _ h, l, Q.mono g q⟩⟩
abbrev owI (C : Addr) (ns : List Str) (P : Ps γ) : Own γ := ⟨fun c v F h => ∃ p dx vs k, v = .ref p ∧ dx ≠ p ∧ Jn (two p dx (.ins C dx (ns.zip vs))) k h ∧ vs.length = ns.length ∧ P.P c vs F k, tyI C ns P.fr,
  fun g ⟨p, dx, vs, k, e, n, j, l, q⟩ => ⟨p, dx, vs, k, e, n, j, l, P.mono g q⟩,
  fun d ⟨p, dx, vs, k, e, n, j, l, q⟩ => ⟨p, dx, vs, e, un_own d _ _ (j.l _ _ two_p), l, P.fr.mono (un_mono d j.r) (P.frz (dj_r d j) q)⟩,
  fun ⟨p, dx, vs, k, e, n, j, l, q⟩ b xs y => by
    rcases j b with ⟨_, z⟩ | ⟨_, z⟩
    · rw [z] at y; exact P.notup q b xs y
    · rw [z] at y; unfold two at y; split at y
      · cases y
      · split at y <;> cases y⟩
abbrev owAt (u : V) (O : Own α) : Own α := ⟨fun a v F h => v = u ∧ O.O a v F h, O.fr, fun g q => ⟨q.1, O.mono g q.2⟩, fun d q => O.frz d q.2, fun q => O.notup q.2⟩
theorem jn_re {b t m a h : Hp} (jm : Jn b t m) (j : Jn a m h) : Jn t (un a b) h := fun q => by
  rcases j q with ⟨x, y⟩ | ⟨x, y⟩
  · rcases jm q with ⟨c, e⟩ | ⟨c, e⟩
    · right
      refine ⟨by unfold un; rw [x, c], by rw [y, e]⟩
    · left
      refine ⟨c, by unfold un; rw [x, y, e]⟩
  · left
    refine ⟨jm.r.free x, ?_⟩
    unfold un
    rw [y]
    cases z : a q with
    | none => exact (jm.l.free x).symm ▸ rfl
    | some w => rfl
theorem dj_of {a b t m h : Hp} (jm : Jn b t m) (j : Jn a m h) : Dj a b := fun q => by
  rcases j.dj q with z | z
  · exact .inl z
  · exact .inr (jm.l.free z)
def PsPut (P : Ps γ) (n : Nat) (O : Own β) (st : γ → β → γ) : Prop := ∀ {c vs F h}, P.P c vs F h → n < vs.length ∧ ∃ h2, Same h2 h ∧ ∀ z' v' h1' h' F3, Same F F3 → O.O z' v' F3 h1' → Jn h1' h2 h' → P.P (st c z') (vs.set n v') F3 h'
theorem pput_0 {O : Own β} {P : Ps γ} : PsPut (psO O P) 0 O (fun c z => (z, c.2)) := fun ⟨v, us, h1, h2, e, j, a, b⟩ => by
  subst e
  exact ⟨by simp, h2, j.r, fun z' v' h1' h' F3 g o' j' => ⟨v', us, h1', h2, rfl, j', o', P.mono g b⟩⟩
theorem pput_s {O : Own α} {O' : Own β} {P : Ps γ} {n : Nat} {st : γ → β → γ} (h : PsPut P n O' st) : PsPut (psO O P) (n + 1) O' (fun c z => (c.1, st c.2 z)) := fun ⟨v, us, h1, h2, e, j, a, b⟩ => by
  subst e
  obtain ⟨hn, k2, ks, f⟩ := h b
  have d : Dj k2 h1 := fun q => by
    rcases j.dj q with z | z
    · exact .inr z
    · exact .inl (ks.free z)
  refine ⟨by simpa using hn, un k2 h1, fun q o z => ?_, fun z' v' k1' h' F3 g o' j' => ?_⟩
  · unfold un at z
    cases y : k2 q with
    | some w => rw [y] at z; rw [← z]; exact j.r _ _ (ks _ _ y)
    | none => rw [y] at z; exact j.l _ _ z
  · exact ⟨v, us.set n v', h1, un k1' k2, rfl, jn_re (jn_of d) j', O.mono g a, f z' v' k1' _ F3 g o' (jn_of (dj_of (jn_of d) j'))⟩
def PsAdd (P : Ps γ) (O : Own β) {δ : Type} (P' : Ps δ) (ad : γ → β → δ) : Prop := ∀ {c vs F h}, P.P c vs F h → ∀ z v' h1' h' F3, Same F F3 → O.O z v' F3 h1' → Jn h1' h h' → P'.P (ad c z) (vs ++ [v']) F3 h'
theorem padd_0 {O : Own β} : PsAdd psNil O (psO O psNil) (fun _ z => (z, ())) := fun q z v' h1' h' F3 g o' j' => by
  rw [q.1]
  exact ⟨v', [], h1', _, rfl, j', o', rfl, q.2⟩
theorem padd_s {O : Own α} {O' : Own β} {P : Ps γ} {δ : Type} {P' : Ps δ} {ad : γ → β → δ} (h : PsAdd P O' P' ad) : PsAdd (psO O P) O' (psO O P') (fun c z => (c.1, ad c.2 z)) := fun ⟨v, us, h1, h2, e, j, a, b⟩ z v' k1' h' F3 g o' j' => by
  subst e
  have jm : Jn h2 h1 _ := jn_sym j
  exact ⟨v, us ++ [v'], h1, un k1' h2, rfl, jn_re jm j', O.mono g a, h b z v' k1' _ F3 g o' (jn_of (dj_of jm j'))⟩
end
section
variable {K : PySem.W.Frag} {E : XK} {α β γ δ ρ S B : Type} {F0 H0 F h H : Hp} {L : List Sl} {e te ei : TE} {T : Ty α} {r : Mo α} {Or : Own ρ} {u : TS} {LS : S → List Sl} {LB : B → List Sl} {σ : St} {C : Addr} {ns : List Str} {f : Str} {i n : Nat}
theorem ev_fld {Q : Cs γ} {pr : γ → α} {r : Mo γ} (nd : ns.Nodup) (hf : ns[n]? = some f) (ha : CsAt Q n T pr) (he : EvF K te E L r (tyI C ns Q)) : EvF K (mFld C te f) E L (r.bind fun c => .ok (pr c)) T := by
  intro σ F H R hL hs q
  refine he σ F H _ hL hs (q.bind.imp fun c F1 H1 x1 k1 v ⟨p, dx, vs, e, hp, hl, hc⟩ => ?_)
  subst e
  obtain ⟨w, ew, rw'⟩ := ha hc
  exact ⟨dx, _, w, x1.2.1 _ _ hp, lookup_zip nd hf ew, k1.ok x1.2.1 w rw'⟩
theorem evp_at {O : Own α} {O' : Own β} {w : V} {r : Mo (β × (β → α))} (hp : EvPt K te E L i O (owAt w O') r) : EvPt K te E L i O O' r := by
  intro F0 H0 σ F h H Q hL ok q
  refine hp F0 H0 σ F h H _ hL ok (q.imp fun yp G1 H1 x1 k1 u fc => k1 u fun F2 H2 s o2 => ?_)
  obtain ⟨k, ⟨e, ho⟩, kh, g⟩ := fc F2 H2 s o2
  exact ⟨k, ho, kh, fun y' k' F3 H3 P hy => g y' k' F3 H3 P ⟨e, hy⟩⟩
theorem put_obj {p dx : Addr} {o o' : HO} {m h2 hn : Hp} {k : Hp} (ok : Okk F0 H0 F h H) (kh : Same k h) (ndx : dx ≠ p) (jn : Jn (two p dx o) m k) (h2m : Same h2 m) (fresh : ∀ q, hn q ≠ none → F q = none ∧ h q = none ∧ H0 q = none) (hs : Same hn H) (dn : Dj hn h2) :
    Jn (two p dx o') (un hn h2) (un (two p dx o') (un hn h2)) ∧ PutC F H h H0 k (un (two p dx o') (un hn h2)) F (upd H p o') := by
  have hnk : ∀ q, hn q ≠ none → k q = none := fun q z => kh.free (fresh q z).2.1
  have kp : k p = some o := jn.l _ _ two_p
  have kdx : k dx = some (.own p) := jn.l _ _ (two_dx ndx)
  have m0 : ∀ q, two p dx o q ≠ none → m q = none := fun q z => by
    rcases jn.dj q with y | y
    · exact absurd y z
    · exact y
  have two_ne : ∀ {o : HO} {q}, two p dx o q ≠ none → q = p ∨ q = dx := fun {o q} z => by
    by_cases a : q = p
    · exact .inl a
    · by_cases b : q = dx
      · exact .inr b
      · exact absurd (by unfold two; rw [if_neg a, if_neg b]) z
  have dj : Dj (two p dx o') (un hn h2) := fun q => by
    by_cases z : two p dx o' q = none
    · exact .inl z
    · right
      have kq : k q ≠ none := by
        rcases two_ne z with e | e
        · rw [e, kp]; exact Option.some_ne_none _
        · rw [e, kdx]; exact Option.some_ne_none _
      have hq : hn q = none := by
        by_cases y : hn q = none
        · exact y
        · exact absurd (hnk q y) kq
      have mq : m q = none := m0 q (by
        rcases two_ne z with e | e
        · rw [e, two_p]; exact Option.some_ne_none _
        · rw [e, two_dx ndx]; exact Option.some_ne_none _)
      unfold un; rw [hq]; exact h2m.free mq
  refine ⟨jn_of dj, PutC.same ok kh (fun q s z => ?_) (fun q z1 z2 => upd_ne fun e => ?_) fun q z1 z2 => ?_⟩
  · unfold un at z
    cases y : two p dx o' q with
    | some w =>
      rw [y] at z
      by_cases e : q = p
      · rw [e, two_p] at y; rw [e, upd_same, y]; exact z
      · rw [upd_ne e]
        have e2 : q = dx := by
          rcases two_ne (o := o') (q := q) (by rw [y]; exact Option.some_ne_none _) with a | a
          · exact absurd a e
          · exact a
        rw [e2, two_dx ndx] at y
        rw [← z, ← y, e2]; exact ok.2.2.1 _ _ (kh _ _ kdx)
    | none =>
      rw [y] at z
      have e := (two_no y).1
      rw [upd_ne e]
      cases x : hn q with
      | some w => rw [x] at z; rw [← z]; exact hs _ _ x
      | none => rw [x] at z; exact ok.2.2.1 _ _ (kh _ _ (jn.r _ _ (h2m _ _ z)))
  · rw [e, kp] at z1; cases z1
  · have e1 : two p dx o' q = none := by
      by_cases y : two p dx o' q = none
      · exact y
      · rcases two_ne y with e | e
        · rw [e, kp] at z1; cases z1
        · rw [e, kdx] at z1; cases z1
    have e2 : h2 q = none := h2m.free (jn.r.free z1)
    have eu : un (two p dx o') (un hn h2) q = hn q := by
      unfold un; rw [e1]
      cases x : hn q with
      | some w => rfl
      | none => exact e2
    rw [eu] at z2 ⊢
    obtain ⟨a, b, c⟩ := fresh q z2
    refine ⟨a, b, c, ?_⟩
    cases x : hn q with
    | none => exact absurd x z2
    | some w => exact hs _ _ x
theorem s_setF {O : Own β} {P : Ps γ} {st : γ → α → γ} {r0 : Mo (γ × (γ → β))} {k : β → Mo (Out ρ B S)} (nd : ns.Nodup) (hf : ns[n]? = some f) (hsm : ns.length < 1000) (pp : PsPut P n (owF T) st) (hT : Imm T) (he : EvF K e E L r T) (hp : EvPt K te E L i O (owI C ns P) r0) (hk : ∀ x', EvS K u E (L.set i (.ow O x')) (k x') LS LB Or) :
    EvS K (tSeq (mSFld C te e f) u) E L (r.bind fun a => r0.bind fun yp => k (yp.2 (st yp.1 a))) LS LB Or := by
  intro F0 H0 σ F h H D hL ok fin
  refine he σ (un F h) H _ (hL.froz ok.2.1) ok.thaw (fin_ok (G := F) ok _ (.inl rfl) fin fun a F' H' hra x v hv => ?_)
  obtain ⟨o, hs, ht⟩ := ok.back x
  rw [hra] at fin
  refine hp F0 H0 σ (less F' h) h H' _ (hL.mono hs) o (fin_ok (G := F) o _ (.inl rfl) fin fun yp G1 H1 hr0 x1 u0 fc => ?_)
  obtain ⟨o1, hs1, _⟩ := o.back x1
  rw [hr0] at fin
  obtain ⟨k0, ⟨p, dx, vs, m, rfl, ndx, jn, hl, ps⟩, kh, g⟩ := fc _ H1 (Same.refl _) o1
  obtain ⟨hn, h2, h2m, pf⟩ := pp ps
  have hp1 : H1 p = some (.ins C dx (ns.zip vs)) := o1.2.2.1 _ _ (kh _ _ (jn.l _ _ two_p))
  refine ⟨dx, _, hp1, by rw [List.length_zip]; omega, ?_⟩
  rw [putF_zip v nd hf hn]
  have nul : ∀ q, (fun _ : Addr => (none : Option HO)) q ≠ none → less G1 h q = none ∧ h q = none ∧ H0 q = none := fun q z => absurd rfl z
  obtain ⟨j', P'⟩ := put_obj (o' := .ins C dx (ns.zip (vs.set n v))) (hn := fun _ => none) o1 kh ndx jn h2m nul (fun q o z => by cases z) (fun q => .inl rfl)
  have eu : un (fun _ => none) h2 = h2 := by funext q; rfl
  rw [eu] at j' P'
  obtain ⟨h', a1, a2⟩ := g (st yp.1 a) _ _ _ P' ⟨p, dx, vs.set n v, h2, rfl, ndx, j', by rw [List.length_set]; exact hl, pf a v (fun _ => none) h2 _ (Same.refl _) ⟨fun _ => rfl, T.mono hs1 (hT ht hv)⟩ (fun q => .inl ⟨rfl, rfl⟩)⟩
  exact hk _ F0 H0 σ _ h' _ D a1 a2 fin
theorem s_addF {P : Ps γ} {P' : Ps δ} {ad : γ → α → δ} {x : γ} {w : V} {k : δ → Mo (Out ρ B S)} (hi : L[i]? = some (.ow (owAt w (owI C ns P)) x)) (hf : f ∉ ns) (hsm : ns.length < 900) (pp : PsAdd P (owF T) P' ad) (hT : Imm T) (he : EvF K e E L r T) (hk : ∀ x', EvS K u E (L.set i (.ow (owAt w (owI C (ns ++ [f]) P')) x')) (k x') LS LB Or) :
    EvS K (tSeq (mSFld C (mVar i) e f) u) E L (r.bind fun a => k (ad x a)) LS LB Or := by
  intro F0 H0 σ F h H D hL ok fin
  refine he σ (un F h) H _ (hL.froz ok.2.1) ok.thaw (fin_ok (G := F) ok _ (.inl rfl) fin fun a F' H' hra x1 v hv => ?_)
  obtain ⟨o, hs, ht⟩ := ok.back x1
  rw [hra] at fin
  obtain ⟨v0, k0, e1, ⟨ew, p, dx, vs, m, rfl, ndx, jn, hl, ps⟩, kH, kh, _, g⟩ := hold_put (hL.mono hs) hi o
  have hp1 : H' p = some (.ins C dx (ns.zip vs)) := kH _ _ (jn.l _ _ two_p)
  refine mvar_at e1 ⟨dx, _, hp1, by rw [List.length_zip]; omega, ?_⟩
  rw [putF_new v hf hl]
  have nul : ∀ q, (fun _ : Addr => (none : Option HO)) q ≠ none → less F' h q = none ∧ h q = none ∧ H0 q = none := fun q z => absurd rfl z
  obtain ⟨j', PC⟩ := put_obj (o' := .ins C dx ((ns ++ [f]).zip (vs ++ [v]))) (hn := fun _ => none) o kh ndx jn (Same.refl m) nul (fun q o z => by cases z) (fun q => .inl rfl)
  have eu : un (fun _ => none) m = m := by funext q; rfl
  rw [eu] at j' PC
  obtain ⟨h', a1, a2⟩ := g (owAt w (owI C (ns ++ [f]) P')) (ad x a) (.ref p) _ _ _ PC ⟨ew, p, dx, vs ++ [v], m, rfl, ndx, j', by rw [List.length_append, List.length_append, hl]; rfl, pp ps a v (fun _ => none) m _ (Same.refl _) ⟨fun _ => rfl, hT ht hv⟩ (fun q => .inl ⟨rfl, rfl⟩)⟩
  rw [set_self e1] at a1
  exact hk _ F0 H0 σ _ h' _ D a1 a2 fin
end
end L2
namespace L2
open PySem PySem.Spec PyProof.Rows
section
variable {K : PySem.W.Frag} {E : XK} {α β γ δ ρ ρ' S B : Type} {F0 H0 F h H : Hp} {L : List Sl} {e te ei : TE} {T : Ty α} {r : Mo α} {Or : Own ρ} {t u : TS} {LS : S → List Sl} {LB : B → List Sl} {σ : St} {C : Addr} {ns : List Str} {f m : Str} {i n : Nat}
def FinM (K : PySem.W.Frag) (r : Mo ρ) (E : XK) (F0 H0 : Hp) (kk : ρ → Hp → Hp → Hp → Prop) : Prop := match r with
  | .ok a => ∀ F h H, Okk F0 H0 F h H → kk a F h H
  | .ex c => ∀ F h H, Okk F0 H0 F h H → E (.ref (gA K c)) none H
  | .no => False
abbrev owRM (w : V) (O2 : Own β) (Or : Own ρ) : Own (ρ × β) := ⟨fun r v F h => ∃ h1 h2, Jn h1 h2 h ∧ Or.O r.1 v F h1 ∧ O2.O r.2 w F h2, ⟨fun r v H => Or.fr.R r.1 v H, fun g q => Or.fr.mono g q⟩,
  fun g ⟨h1, h2, j, a, b⟩ => ⟨h1, h2, j, Or.mono g a, O2.mono g b⟩,
  fun d ⟨h1, h2, j, a, b⟩ => Or.fr.mono (un_mono d j.l) (Or.frz (dj_l d j) a),
  fun ⟨h1, h2, j, a, b⟩ p xs z => by
    rcases j p with ⟨_, y⟩ | ⟨_, y⟩
    · rw [y] at z; exact O2.notup b p xs z
    · rw [y] at z; exact Or.notup a p xs z⟩
def CtM (K : PySem.W.Frag) (O : Own α) (O2 : Own β) (Q : Cs γ) (g : α → γ → Mo (ρ × β)) (Or : Own ρ) : Sp := fun vs H R E => ∃ F h x c w ws, vs = w :: ws ∧ Same F H ∧ Dj F h ∧ Same h H ∧ O.O x w F h ∧ Q.R c ws F ∧
  FinM K (g x c) E F (less H h) fun r F' h' H' => ∀ v, (owRM w O2 Or).O r v F' h' → R v H'
theorem okk_sub {k : Hp} (ok : Okk F0 H0 F h H) (s : Same k h) : Okk F0 H0 F k H := by
  refine ⟨ok.1, fun p => ?_, s.trans ok.2.2.1, fun p z => ok.2.2.2.1 p fun y => z (s.free y), fun p xs z => ok.2.2.2.2 p xs (s _ _ z)⟩
  rcases ok.2.1 p with z | z
  · exact .inl z
  · exact .inr (s.free z)
theorem less_self {h : Hp} (p : Addr) (z : h p ≠ none) : less H h p = none := by
  unfold less
  cases y : h p with
  | none => exact absurd y z
  | some w => rfl
theorem less_le : Same (less H h) H := fun p o z => by
  unfold less at z
  split at z
  · exact z
  · cases z
theorem okk_self (hs : Same F H) (dj : Dj F h) (hh : Same h H) (nt : ∀ p xs, h p ≠ some (.tup xs)) : Okk F (less H h) F h H := by
  refine ⟨⟨Same.refl _, hs, less_le, fun p a b => absurd a b⟩, dj, hh, fun p z => less_self p z, nt⟩
def fnMU (r : Mo (Out (Unit × β) Unit β)) : Mo (Unit × β) := r.bind fun o => match o with | .rt a => .ok a | .nx x => .ok ((), x) | _ => .no
theorem hold_first {O : Own α} {Q : Cs γ} {ss : γ → List Sl} {x : α} {c : γ} {w : V} {ws : List V} (m : Nat) (hC : CsS Q ss) (hO : O.O x w F h) (hc : Q.R c ws F) : Hold (.ow (owAt w O) x :: (ss c ++ List.replicate m .dead)) (some w :: (ws.map some ++ List.replicate m none)) F h :=
  ⟨h, fun _ => none, fun _ => .inr ⟨rfl, rfl⟩, ⟨w, rfl, rfl, hO⟩, (hC hc).hold m⟩
theorem fnMU_rd {t : XK → TS} {O : Own α} {O2 : Own β} {Q : Cs γ} {ss : γ → List Sl} {g : α → γ → Mo (Out (Unit × β) Unit β)} {N : List Str} {LS : V → β → List Sl} (n m : Nat) (hn : CsN Q n) (hm : N.length - (n + 1) = m) (hC : CsS Q ss) (hLS : ∀ w x, (LS w x)[0]? = some (.ow (owAt w O2) x))
    (hb : ∀ w x c E, EvS K (t E) E (.ow (owAt w O) x :: (ss c ++ List.replicate m .dead)) (g x c) (LS w) (fun _ : Unit => []) (owRM w O2 (owF tyNon))) :
    ∀ vs H R E, CtM K O O2 Q (fun x c => fnMU (g x c)) (owF tyNon) vs H R E → t E { nx := fun _ H' => R .non H', rt := R } (start N vs) H := by
  rintro vs H R E ⟨F, h, x, c, w, ws, rfl, hs, dj, hh, hO, hc, q⟩
  have hstart : start N (w :: ws) = some w :: (ws.map some ++ List.replicate m none) := by
    unfold start
    rw [List.length_cons, hn hc, hm]; rfl
  rw [hstart]
  refine hb w x c E F (less H h) _ F h H _ (hold_first m hC hO hc) (okk_self hs dj hh (O.notup hO)) ?_
  cases e : g x c with
  | no => simp only [fnMU, e] at q; exact q
  | ex cc => simp only [fnMU, e] at q; exact q
  | ok o =>
    simp only [fnMU, e] at q
    cases o with
    | nx s =>
      intro σ F' h' H' hL ok
      obtain ⟨o, k, hr, e1, j, ⟨v, e2, e3, ho⟩, _⟩ := hL.at 0 (hLS w s)
      subst e3
      exact q F' k H' (okk_sub ok j.l) .non ⟨fun _ => none, k, fun _ => .inl ⟨rfl, rfl⟩, ⟨fun _ => rfl, rfl⟩, ho⟩
    | bk s => exact q.elim
    | ct s => exact q.elim
    | rt a => exact fun v F' h' H' ok hv => q F' h' H' ok v hv
theorem s_callM {O : Own α} {P : Ps β} {r0 : Mo (β × (β → α))} {Q : Cs γ} {ta : TA} {ra : Mo γ} {g : β → γ → Mo (ρ' × β)} {Or' : Own ρ'} {k : α → Mo (Out ρ B S)} (hno : m ∉ ns) (hI : ImmO (owI C ns P)) (hp : EvPt K te E L i O (owI C ns P) r0) (hC : ImmC Q) (ha : EvA K ta E L ra Q)
    (hk : ∀ x', EvS K u E (L.set i (.ow O x')) (k x') LS LB Or) :
    EvS K (tSeq (tDrop (tMeth C m (CtM K (owI C ns P) (owI C ns P) Q g Or') [] E0 te ta)) u) E L (r0.bind fun yp => ra.bind fun c => (g yp.1 c).noex.bind fun q => k (yp.2 q.2)) LS LB Or := by
  intro F0 H0 σ F h H D hL ok fin
  show te σ H fun x H1 => ∃ a dx fs, x = .ref a ∧ H1 a = some (.ins C dx fs) ∧ fs.lookup m = none ∧ ta σ H1 fun vs H2 => CtM K (owI C ns P) (owI C ns P) Q g Or' (x :: (vs ++ [])) H2 (fun _ H3 => u D σ H3) E0
  refine hp F0 H0 σ F h H _ hL ok (fin_ok (G := F) ok _ (.inl rfl) fin fun yp G1 H1 hr0 x1 u0 fc => ?_)
  obtain ⟨o1, hs1, _⟩ := ok.back x1
  rw [hr0] at fin
  obtain ⟨k0, ⟨p, dx, vs0, m0, rfl, ndx, jn, hl, ps⟩, kh, _⟩ := fc _ H1 (Same.refl _) o1
  refine ⟨p, dx, _, rfl, o1.2.2.1 _ _ (kh _ _ (jn.l _ _ two_p)), lookup_zip_no hno, ?_⟩
  refine ha σ (un (less G1 h) h) H1 _ ((hL.mono hs1).froz o1.2.1) o1.thaw (fin_ok (G := F) o1 _ (.inl rfl) fin fun c G2 H2 hra x2 vs hvs => ?_)
  obtain ⟨o2, hs2, ht2⟩ := o1.back x2
  rw [hra] at fin
  rw [List.append_nil]
  obtain ⟨k1, hO, kh1, gg⟩ := fc _ H2 hs2 o2
  have dFc : ∀ q, less h k1 q ≠ none → k1 q = none := fun q z => by
    cases y : k1 q with
    | none => rfl
    | some s => exact absurd (less_self (H := h) q (by rw [y]; exact Option.some_ne_none _)) z
  have sFc : Same (un (less G2 h) (less h k1)) H2 := fun q o z => by
    unfold un at z
    cases y : less G2 h q with
    | some s => rw [y] at z; rw [← z]; exact o2.1.2.1 _ _ y
    | none => rw [y] at z; exact o2.2.2.1 _ _ (less_le _ _ z)
  have djc : Dj (un (less G2 h) (less h k1)) k1 := fun q => by
    by_cases z : k1 q = none
    · exact .inr z
    · left
      unfold un
      have : less G2 h q = none := less_self q fun y => z (kh1.free y)
      rw [this]; exact less_self q z
  refine ⟨un (less G2 h) (less h k1), k1, yp.1, c, .ref p, vs, rfl, sFc, djc, kh1.trans o2.2.2.1, (owI C ns P).mono un_same hO, Q.mono un_same (hC ht2 hvs), ?_⟩
  have fin : Fin K ((g yp.1 c).noex.bind fun q => k (yp.2 q.2)) E LS LB Or F0 H0 D := fin
  cases e : g yp.1 c with
  | no => rw [e] at fin; exact fin
  | ex cc => rw [e] at fin; exact fin.elim
  | ok q =>
    rw [e] at fin
    rintro F' h' H' okc v ⟨hr, hs', j, _, hO2⟩
    have lo : ∀ q', less h k1 q' ≠ none → h q' ≠ none := fun q' z y => z (by unfold less; split; exact y; rfl)
    have tp : Tups F' (less F' (less h k1)) := fun b xs z => by
      cases y : less h k1 b with
      | none => rw [less_none y]; exact z
      | some s =>
        exfalso
        have y2 : un (less G2 h) (less h k1) b = some s := by
          unfold un
          have : less G2 h b = none := less_self b (lo b (by rw [y]; exact Option.some_ne_none _))
          rw [this]; exact y
        have := okc.1.1 _ _ y2
        rw [z] at this
        injection this with this
        exact o2.2.2.2.2 b xs (by rw [this]; exact less_le _ _ y)
    have PC : PutC (less G2 h) H2 h H0 k1 hs' (less F' (less h k1)) H' := by
      refine ⟨fun b o z => ?_, fun b o z => okc.1.2.1 _ _ (less_le _ _ z), okc.1.2.2.1, fun b a1 a2 => ?_, j.r.trans okc.2.2.1, fun b => ?_, fun b a1 a2 => ?_⟩
      · have hb : h b = none := by
          cases y : h b with
          | none => rfl
          | some s => rw [less_self b (by rw [y]; exact Option.some_ne_none _)] at z; cases z
        have : less h k1 b = none := less_le.free hb
        rw [less_none this]
        exact okc.1.1 _ _ (un_same _ _ z)
      · have y : less h k1 b = none := by
          cases y : less h k1 b with
          | none => rfl
          | some s => exact absurd (less_self b (by rw [y]; exact Option.some_ne_none _)) a2
        rw [less_none y] at a2
        have y2 : un (less G2 h) (less h k1) b = none := by unfold un; rw [a1]; exact y
        have y3 := okc.1.2.2.2 b y2 a2
        by_cases z : k1 b = none
        · left; rw [less_none z] at y3; exact y3
        · exact .inr z
      · by_cases z : hs' b = none
        · exact .inr z
        · left
          rcases okc.2.1 b with y | y
          · exact less_le.free y
          · exact absurd (j.r.free y) z
      · have y := okc.2.2.2.1 b fun y => a2 (j.r.free y)
        rw [less_none a1] at y
        exact ⟨o2.2.2.1.free y, o2.1.2.2.1.free y⟩
    obtain ⟨h3, a1, a2⟩ := gg q.2 hs' _ H' PC (hI tp hO2)
    exact hk _ F0 H0 σ _ h3 H' D a1 a2 fin
theorem ev_methF0 {Q : Cs γ} {r0 : Mo γ} {g : γ → Mo α} (hno : m ∉ ns) (he : EvF K te E L r0 (tyI C ns Q)) :
    EvF K (tMeth C m (Ct K (csLast (tyI C ns Q)) g (owF T)) [] E0 te tNil) E L (r0.bind fun x => (g x).noex) T := by
  intro σ F H R hL hs q
  refine he σ F H _ hL hs (q.bind.imp fun x F1 H1 x1 k1 v hv => ?_)
  obtain ⟨p, dx, vs, rfl, hp, hl, hc⟩ := id hv
  refine ⟨p, dx, _, rfl, x1.2.1 _ _ hp, lookup_zip_no hno, ?_⟩
  exact ⟨F1, x, x1.2.1, ⟨_, rfl, hv⟩, k1.noex.imp fun a F3 H3 x3 k3 w hw _ _ _ hv => k3 w hv.2⟩
theorem ev_make {P : Ps γ} {Q : Cs δ} {ta : TA} {ra : Mo δ} {g : Unit → δ → Mo (Unit × γ)} (ha : EvA K ta E L ra Q) :
    EvO K (tMake C (CtM K (owI C [] psNil) (owI C ns P) Q g (owF tyNon)) [] E0 ta) E L (ra.bind fun c => (g () c).noex.bind fun q => .ok q.2) (owI C ns P) := by
  intro σ F H R hL hs q
  refine ha σ F H _ hL hs (q.bind.imp fun c F1 H1 x1 k1 vs hvs x dx hx hdx ndx => ?_)
  rw [List.append_nil]
  have new : ∀ b, two x dx (.ins C dx []) b ≠ none → H1 b = none := fun b z => by
    unfold two at z
    split at z
    · rename_i e; rw [e]; exact hx
    · split at z
      · rename_i e; rw [e]; exact hdx
      · exact absurd rfl z
  have at1 : ∀ b, two x dx (.ins C dx []) b = none → upd (upd H1 dx (.own x)) x (.ins C dx []) b = H1 b := fun b z => by
    obtain ⟨a1, a2⟩ := two_no z
    rw [upd_ne a1, upd_ne a2]
  have at2 : Same (two x dx (.ins C dx [])) (upd (upd H1 dx (.own x)) x (.ins C dx [])) := fun b o z => by
    unfold two at z
    split at z
    · rename_i e; rw [e, upd_same]; exact z
    · rename_i e0
      split at z
      · rename_i e; rw [upd_ne e0, e, upd_same]; exact z
      · cases z
  have dj : Dj F1 (two x dx (.ins C dx [])) := fun b => by
    by_cases z : two x dx (.ins C dx []) b = none
    · exact .inr z
    · exact .inl (x1.2.1.free (new b z))
  have sF : Same F1 (upd (upd H1 dx (.own x)) x (.ins C dx [])) := fun b o z => by
    have hb := x1.2.1 _ _ z
    rw [at1 b ?_]
    · exact hb
    · cases y : two x dx (.ins C dx []) b with
      | none => rfl
      | some s => rw [new b (by rw [y]; exact Option.some_ne_none _)] at hb; cases hb
  have eH : ∀ b, less (upd (upd H1 dx (.own x)) x (.ins C dx [])) (two x dx (.ins C dx [])) b = H1 b := fun b => by
    by_cases z : two x dx (.ins C dx []) b = none
    · rw [less_none z, at1 b z]
    · rw [less_self b z, new b z]
  refine ⟨F1, two x dx (.ins C dx []), (), c, .ref x, vs, rfl, sF, dj, at2, ⟨x, dx, [], fun _ => none, rfl, ndx, fun _ => .inr ⟨rfl, rfl⟩, rfl, rfl, fun _ => rfl⟩, hvs, ?_⟩
  cases e : g () c with
  | no => rw [e] at k1; exact k1
  | ex cc => rw [e] at k1; exact k1.elim
  | ok q0 =>
    rw [e] at k1
    rintro F' h' H' okc v ⟨hr, hs', j, ⟨_, hv⟩, hO2⟩
    refine ⟨hv, ?_⟩
    have xx : Ext F1 H1 F' H' := ⟨okc.1.1, okc.1.2.1, fun b o z => okc.1.2.2.1 b o (by rw [eH]; exact z), fun b a1 a2 => by rw [← eH b]; exact okc.1.2.2.2 b a1 a2⟩
    refine k1 F' H' xx (.ref x) hs' (fun b z => ?_) (fun b => ?_) (j.r.trans okc.2.2.1) hO2
    · have := okc.2.2.2.1 b fun y => z (j.r.free y)
      rw [eH] at this
      exact x1.2.2.1.free this
    · rcases okc.2.1 b with y | y
      · exact .inl y
      · exact .inr (j.r.free y)
end
end L2
namespace L2
open PySem PySem.Spec PyProof.Rows
section
variable {K : PySem.W.Frag} {E : XK} {α β γ δ ρ ρ' S B : Type} {F0 H0 F h H : Hp} {L : List Sl} {e te ei : TE} {T : Ty α} {r : Mo α} {Or : Own ρ} {t u : TS} {LS : S → List Sl} {LB : B → List Sl} {σ : St} {C : Addr} {ns : List Str} {f m : Str} {i n : Nat}
def ImmP (P : Ps γ) : Prop := ∀ {c vs F F' h}, Tups F F' → P.P c vs F h → P.P c vs F' h
theorem immp_nil : ImmP psNil := fun _ q => q
theorem immp_o {O : Own α} {P : Ps γ} (a : ImmO O) (b : ImmP P) : ImmP (psO O P) := fun g ⟨v, us, h1, h2, e, j, x, y⟩ => ⟨v, us, h1, h2, e, j, a g x, b g y⟩
theorem immo_i {P : Ps γ} (b : ImmP P) : ImmO (owI C ns P) := fun g ⟨p, dx, vs, k, e, nd, j, l, q⟩ => ⟨p, dx, vs, k, e, nd, j, l, b g q⟩
theorem s_setFB {O : Own β} {P : Ps γ} {st : γ → α → γ} {r0 : Mo (γ × (γ → β))} {k : β → Mo (Out ρ B S)} (nd : ns.Nodup) (hf : ns[n]? = some f) (hsm : ns.length < 1000) (pp : PsPut P n (owF T) st) (hT : Imm T) (he : EvF K e E L r T) (hp : EvPt K te E L i O (owI C ns P) r0) (hk : ∀ x', EvS K u E (L.set i (.ow O x')) (k x') LS LB Or) :
    EvS K (tSeq (mSFld C te e f) u) E L (r.bind fun a => r0.bind fun yp => (Mo.ok (yp.2 (st yp.1 a))).bind k) LS LB Or := s_setF nd hf hsm pp hT he hp hk
theorem s_addFB {P : Ps γ} {P' : Ps δ} {ad : γ → α → δ} {x : γ} {w : V} {k : δ → Mo (Out ρ B S)} (hi : L[i]? = some (.ow (owAt w (owI C ns P)) x)) (hf : f ∉ ns) (hsm : ns.length < 900) (pp : PsAdd P (owF T) P' ad) (hT : Imm T) (he : EvF K e E L r T) (hk : ∀ x', EvS K u E (L.set i (.ow (owAt w (owI C (ns ++ [f]) P')) x')) (k x') LS LB Or) :
    EvS K (tSeq (mSFld C (mVar i) e f) u) E L (r.bind fun a => (Mo.ok (ad x a)).bind k) LS LB Or := s_addF hi hf hsm pp hT he hk
theorem s_callMB {O : Own α} {P : Ps β} {r0 : Mo (β × (β → α))} {Q : Cs γ} {ta : TA} {ra : Mo γ} {g : β → γ → Mo (ρ' × β)} {Or' : Own ρ'} {k : α → Mo (Out ρ B S)} (hno : m ∉ ns) (hI : ImmO (owI C ns P)) (hp : EvPt K te E L i O (owI C ns P) r0) (hC : ImmC Q) (ha : EvA K ta E L ra Q)
    (hk : ∀ x', EvS K u E (L.set i (.ow O x')) (k x') LS LB Or) :
    EvS K (tSeq (tDrop (tMeth C m (CtM K (owI C ns P) (owI C ns P) Q g Or') [] E0 te ta)) u) E L (r0.bind fun yp => ra.bind fun c => (g yp.1 c).noex.bind fun q => (Mo.ok (yp.2 q.2)).bind k) LS LB Or := s_callM hno hI hp hC ha hk
def EvAO (K : PySem.W.Frag) (t : TA) (E : XK) (L : List Sl) (r : Mo (List α)) (O : Own α) : Prop :=
  ∀ σ F H (Q : List V → Hp → Prop), HoldF L σ F → Same F H → After K r E F H (fun xs F' H' => ∀ vs h, (∀ p, h p ≠ none → H p = none) → Dj F' h → Same h H' → OwAll O F' xs vs h → Q vs H') → t σ H Q
theorem eao_nil {O : Own α} : EvAO K tNil E L (.ok ([] : List α)) O := fun σ F H Q hL hs q => q.ok hs [] (fun _ => none) (fun p z => absurd rfl z) (fun p => .inr rfl) (fun p o z => by cases z) fun _ => rfl
theorem eao_cons {O : Own α} {t : TA} {r' : Mo (List α)} (he : EvO K e E L r O) (ht : EvAO K t E L r' O) : EvAO K (tCons e t) E L (r.bind fun a => r'.bind fun as => .ok (a :: as)) O := by
  intro σ F H Q hL hs q
  refine he σ F H _ hL hs (q.bind.imp fun a F1 H1 x1 k1 v h1 fr1 d1 s1 o1 => ?_)
  refine ht σ F1 H1 _ (hL.mono x1.1) x1.2.1 (k1.bind.imp fun as F2 H2 x2 k2 vs h2 fr2 d2 s2 o2 => ?_)
  have dj : Dj h1 h2 := fun p => by
    by_cases z : h2 p = none
    · exact .inr z
    · exact .inl (s1.free (fr2 p z))
  have k3 := k2.ok x2.2.1
  refine k3 (v :: vs) (un h1 h2) (fun p z => ?_) (fun p => ?_) (fun p o z => ?_) ⟨h1, h2, jn_of dj, O.mono x2.1 o1, o2⟩
  · unfold un at z
    cases y : h1 p with
    | some w => exact fr1 p (by rw [y]; exact Option.some_ne_none _)
    | none => rw [y] at z; exact x1.2.2.1.free (fr2 p z)
  · unfold un
    cases y : h1 p with
    | some w =>
      left
      have F1p : F1 p = none := by
        rcases d1 p with z | z
        · exact z
        · rw [z] at y; cases y
      by_cases w : F2 p = none
      · exact w
      · have := x2.2.2.2 p F1p w
        rw [s1 _ _ y] at this; cases this
    | none => exact d2 p
  · unfold un at z
    cases y : h1 p with
    | some w => rw [y] at z; rw [← z]; exact x2.2.2.1 _ _ (s1 _ _ y)
    | none => rw [y] at z; exact s2 _ _ z
theorem ev_lstO {O : Own α} {t : TA} {r : Mo (List α)} (ht : EvAO K t E L r O) : EvO K (tLst t) E L (r.bind fun xs => .lim xs.length (.ok xs)) (owLO O) := by
  intro σ F H Q hL hs q
  refine ht σ F H _ hL hs (q.bind.imp fun xs F1 H1 x1 k1 vs h1 fr d s o => ?_)
  obtain ⟨hz, k1⟩ := k1.lim
  refine ⟨by rw [← o.len]; exact hz, fun p hp => ?_⟩
  have hp1 : h1 p = none := s.free hp
  have dj : Dj (one p (.lst vs)) h1 := fun q => by
    by_cases z : q = p
    · rw [z]; exact .inr hp1
    · left; unfold one; rw [if_neg z]
  have xx : Ext F1 H1 F1 (upd H1 p (.lst vs)) := ⟨Same.refl _, fun b o z => by rw [upd_ne (fun e => by rw [e] at z; have := x1.2.1 _ _ z; rw [hp] at this; cases this)]; exact x1.2.1 _ _ z, fun b o z => by rw [upd_ne (fun e => by rw [e, hp] at z; cases z)]; exact z, fun b a c => absurd a c⟩
  refine k1 F1 _ xx (.ref p) (un (one p (.lst vs)) h1) (fun b z => ?_) (fun b => ?_) (fun b o' z => ?_) ⟨p, vs, h1, rfl, jn_of dj, o⟩
  · unfold un at z
    by_cases e : b = p
    · rw [e]; exact x1.2.2.1.free hp
    · unfold one at z; rw [if_neg e] at z; exact fr b z
  · unfold un
    by_cases e : b = p
    · left; rw [e]; exact x1.2.1.free hp
    · unfold one; rw [if_neg e]; exact d b
  · unfold un at z
    by_cases e : b = p
    · rw [e, one_same] at z; rw [e, upd_same]; exact z
    · unfold one at z; rw [if_neg e] at z; rw [upd_ne e]; exact s _ _ z
abbrev owH (Q : Cs γ) : Own γ := ⟨fun c v F h => ∃ p us, v = .ref p ∧ h = one p (.lst us) ∧ Q.R c us F, tyH Q, fun g ⟨p, us, e, z, q⟩ => ⟨p, us, e, z, Q.mono g q⟩,
  fun d ⟨p, us, e, z, q⟩ => ⟨p, us, e, un_own d _ _ (by rw [z]; exact one_same), Q.mono un_same q⟩,
  fun ⟨p, us, e, z, q⟩ b xs y => by rw [z] at y; unfold one at y; split at y <;> cases y⟩
theorem immo_h {Q : Cs γ} (j : ImmC Q) : ImmO (owH Q) := fun g ⟨p, us, e, z, q⟩ => ⟨p, us, e, z, j g q⟩
theorem ev_hlO {ta : TA} {Q : Cs γ} {r : Mo γ} {n : Nat} (hl : CsN Q n) (ha : EvA K ta E L r Q) (hn : n ≤ 100 := by decide) : EvO K (tLst ta) E L r (owH Q) := by
  intro σ F H R hL hs q
  refine ha σ F H _ hL hs (q.more.imp fun c F1 H1 x1 k1 vs hvs => ⟨small_n (by rw [hl hvs]; omega), fun p hp => ?_⟩)
  have xx : Ext F1 H1 F1 (upd H1 p (.lst vs)) := ⟨Same.refl _, fun b o z => by rw [upd_ne (fun e => by rw [e] at z; have := x1.2.1 _ _ z; rw [hp] at this; cases this)]; exact x1.2.1 _ _ z, fun b o z => by rw [upd_ne (fun e => by rw [e, hp] at z; cases z)]; exact z, fun b a c => absurd a c⟩
  refine k1 F1 _ xx (.ref p) (one p (.lst vs)) (fun b z => ?_) (fun b => ?_) (fun b o z => ?_) ⟨p, vs, rfl, rfl, hvs⟩
  · unfold one at z
    split at z
    · rename_i e; rw [e]; exact x1.2.2.1.free hp
    · exact absurd rfl z
  · unfold one
    split
    · rename_i e; left; rw [e]; exact x1.2.1.free hp
    · exact .inr rfl
  · unfold one at z
    split at z
    · rename_i e; rw [e, upd_same]; exact z
    · cases z
theorem okk_add {hn : Hp} (ok : Okk F0 H0 F h H) (fr : ∀ p, hn p ≠ none → H0 p = none ∧ h p = none) (s : Same hn H) : Okk F0 H0 (un F hn) h H := by
  refine ⟨⟨ok.1.1.trans un_same, fun p o z => ?_, ok.1.2.2.1, fun p a b => ?_⟩, fun p => ?_, ok.2.2.1, ok.2.2.2.1, ok.2.2.2.2⟩
  · unfold un at z
    cases y : F p with
    | some w => rw [y] at z; rw [← z]; exact ok.1.2.1 _ _ y
    | none => rw [y] at z; exact s _ _ z
  · unfold un at b
    cases y : F p with
    | some w => exact ok.1.2.2.2 p a (by rw [y]; exact Option.some_ne_none _)
    | none => rw [y] at b; exact (fr p b).1
  · unfold un
    cases y : F p with
    | some w =>
      right
      rcases ok.2.1 p with z | z
      · rw [z] at y; cases y
      · exact z
    | none =>
      by_cases z : hn p = none
      · exact .inl z
      · exact .inr (fr p z).2
theorem s_setIO {O1 : Own α} {xs : List α} {ri : Mo Int} {k : List α → Mo (Out ρ B S)} (hi : L[i]? = some (.ow (owL O1.fr) xs)) (hO : ImmO O1) (he : EvO K e E L r O1) (hei : EvF K ei E L ri tyInt) (hk : ∀ a, EvS K u E (L.set i (.ow (owL O1.fr) a)) (k a) LS LB Or) :
    EvS K (tSeq (tAsg e (gSub (mVar i) ei mSet)) u) E L (r.bind fun a => ri.bind fun j => (Mo.opt ((ixN xs.length j).map fun n => xs.set n a)).bind k) LS LB Or := by
  intro F0 H0 σ F h H D hL ok fin
  refine he σ (un F h) H _ (hL.froz ok.2.1) ok.thaw (fin_ok (G := F) ok _ (.inl rfl) fin fun a F' H' hra x v hn fresh dj hsn hv => ?_)
  obtain ⟨o0, hs0, ht⟩ := ok.back x
  rw [hra] at fin
  have dl : Dj (less F' h) hn := fun p => by
    unfold less
    cases z : h p with
    | none => exact dj p
    | some w => exact .inl rfl
  have o := okk_add o0 (fun p z => ⟨ok.1.2.2.1.free (fresh p z), ok.2.2.1.free (fresh p z)⟩) hsn
  have hs : Same F (un (less F' h) hn) := hs0.trans un_same
  have hv' : O1.fr.R a v (un (less F' h) hn) := O1.frz dl (hO ht hv)
  have hL' := hL.mono hs
  obtain ⟨p, vs, e1, hp, hr, _⟩ := hold_mut hL' hi o
  refine mvar_at e1 ?_
  refine hei σ (un _ h) H' _ (hL'.froz o.2.1) o.thaw (fin_ok (G := F) o _ (.inl rfl) fin fun j F2 H2 hrj x2 v2 hv2 => ?_)
  cases hv2
  obtain ⟨o', hs', ht'⟩ := o.back x2
  rw [hrj] at fin
  obtain ⟨ys, ey, fin⟩ := fin_opt fin
  obtain ⟨p', vs', e1', hp', hr', mm⟩ := hold_mut (hL'.mono hs') hi o'
  rw [e1] at e1'; cases e1'
  cases ej : ixN xs.length j with
  | none => rw [ej] at ey; cases ey
  | some n =>
    rw [ej] at ey; cases ey
    obtain ⟨h', a1, a2⟩ := mm (xs.set n a) (vs'.set n v) (hr'.set n (O1.fr.mono hs' hv'))
    refine ⟨vs', hp', ?_⟩
    rw [← hr'.len, ej]
    exact hk _ F0 H0 σ _ h' _ D a1 a2 fin
end
end L2
namespace L2
open PySem PySem.Spec PyProof.Rows
section
variable {K : PySem.W.Frag} {E : XK} {γ : Type} {L : List Sl} {C : Addr} {ns : List Str}
theorem ev_varIA (i : Nat) {P : Ps γ} {x : γ} {w : V} (h : L[i]? = some (.ow (owAt w (owI C ns P)) x)) : EvF K (mVar i) E L (.ok x) (tyI C ns P.fr) := ev_varO i h
theorem ev_varLO (i : Nat) {P : Ps γ} {xs : List γ} (h : L[i]? = some (.ow (owLO (owI C ns P)) xs)) : EvF K (mVar i) E L (.ok xs) (tyL (tyI C ns P.fr)) := ev_varO i h
end
end L2
namespace K31
open PySem PySem.Spec PyProof.Rows L2
def b_ten_to (p_power : Int) : Mo (Out Int Unit Unit) :=
  (Mo.bind (Mo.ok (1 : Int)) fun value_1 => (thenO (S := Int) (Mo.bind (Mo.bind (Mo.ok p_power) fun c_3 => Mo.grd (-(2 ^ 62) ≤ c_3 ∧ c_3 < 2 ^ 62) (Mo.ok (rngI 0 c_3.toNat))) fun xs_8 => forO (fun (s_2 : Int) x_4 => (Mo.bind (Mo.bind (Mo.ok s_2) fun a_6 => Mo.bind (Mo.ok (10 : Int)) fun b_7 => Mo.grd (IntMulOk a_6 b_7) (Mo.ok (a_6 * b_7))) fun value_5 => (Mo.ok (.nx value_5)))) xs_8 value_1) fun s_2 => (Mo.bind (Mo.ok s_2) fun r_9 => Mo.ok (.rt r_9))))
def f_ten_to (p_power : Int) : Mo Int := fnO (b_ten_to p_power)
def b_Wheel___init__ (p_self : Unit) (p_figures : Int) : Mo (Out (Unit × (Int × (Int × (Int × (Bool × Unit))))) Unit (Int × (Int × (Int × (Bool × Unit))))) :=
  (Mo.bind (Mo.ok p_figures) fun a_1 => Mo.bind (Mo.ok (a_1, ())) fun x_2 => (Mo.bind (Mo.bind (Mo.ok p_figures) fun c_3 => Mo.noex (f_ten_to c_3)) fun a_4 => Mo.bind (Mo.ok (x_2.1, (a_4, ()))) fun x_5 => (Mo.bind (Mo.ok (0 : Int)) fun a_6 => Mo.bind (Mo.ok (x_5.1, (x_5.2.1, (a_6, ())))) fun x_7 => (Mo.bind (Mo.ok false) fun a_8 => Mo.bind (Mo.ok (x_7.1, (x_7.2.1, (x_7.2.2.1, (a_8, ()))))) fun x_9 => (Mo.ok (.nx x_9))))))
def f_Wheel___init__ (p_self : Unit) (p_figures : Int) : Mo (Unit × (Int × (Int × (Int × (Bool × Unit))))) := fnMU (b_Wheel___init__ p_self p_figures)
def b_law_power (p_many : Int) : Mo (Out Int Unit Unit) :=
  (Mo.bind (Mo.ok (1 : Int)) fun number_1 => (thenO (S := Int) (Mo.bind (Mo.bind (Mo.ok p_many) fun c_3 => Mo.grd (-(2 ^ 62) ≤ c_3 ∧ c_3 < 2 ^ 62) (Mo.ok (rngI 0 c_3.toNat))) fun xs_8 => forO (fun (s_2 : Int) x_4 => (Mo.bind (Mo.bind (Mo.ok (10 : Int)) fun a_6 => Mo.bind (Mo.ok s_2) fun b_7 => Mo.grd (IntMulOk a_6 b_7) (Mo.ok (a_6 * b_7))) fun number_5 => (Mo.ok (.nx number_5)))) xs_8 number_1) fun s_2 => (Mo.bind (Mo.ok s_2) fun r_9 => Mo.ok (.rt r_9))))
def f_law_power (p_many : Int) : Mo Int := fnO (b_law_power p_many)
def b_Wheel_reset (p_self : (Int × (Int × (Int × (Bool × Unit))))) : Mo (Out (Unit × (Int × (Int × (Int × (Bool × Unit))))) Unit (Int × (Int × (Int × (Bool × Unit))))) :=
  (Mo.bind (Mo.ok (0 : Int)) fun a_1 => Mo.bind (Mo.ok (p_self, fun (z : (Int × (Int × (Int × (Bool × Unit))))) => z)) fun y_3 => Mo.bind (Mo.ok (y_3.2 (y_3.1.1, (y_3.1.2.1, (a_1, y_3.1.2.2.2))))) fun x_2 => (Mo.bind (Mo.ok false) fun a_4 => Mo.bind (Mo.ok (x_2, fun (z : (Int × (Int × (Int × (Bool × Unit))))) => z)) fun y_6 => Mo.bind (Mo.ok (y_6.2 (y_6.1.1, (y_6.1.2.1, (y_6.1.2.2.1, (a_4, y_6.1.2.2.2.2)))))) fun x_5 => (Mo.ok (.nx x_5))))
def f_Wheel_reset (p_self : (Int × (Int × (Int × (Bool × Unit))))) : Mo (Unit × (Int × (Int × (Int × (Bool × Unit))))) := fnMU (b_Wheel_reset p_self)
def b_Wheel_rise (p_self : (Int × (Int × (Int × (Bool × Unit))))) (p_value : Int) : Mo (Out (Unit × (Int × (Int × (Int × (Bool × Unit))))) Unit (Int × (Int × (Int × (Bool × Unit))))) :=
  (Mo.bind (Mo.bind (Mo.bind (Mo.ok p_self) fun a_2 => Mo.ok a_2.2.2.1) fun a_3 => Mo.bind (Mo.ok p_value) fun b_4 => Mo.ok (a_3 + b_4)) fun risen_1 => (thenO (S := (Int × (Int × (Int × (Bool × Unit))))) (Mo.bind (Mo.bind (Mo.ok risen_1) fun a_6 => Mo.bind (Mo.bind (Mo.ok p_self) fun a_5 => Mo.ok a_5.2.1) fun b_7 => Mo.ok (decide (b_7 ≤ a_6))) fun c_8 => if c_8 then (Mo.bind (Mo.ok true) fun a_10 => Mo.bind (Mo.ok (p_self, fun (z : (Int × (Int × (Int × (Bool × Unit))))) => z)) fun y_12 => Mo.bind (Mo.ok (y_12.2 (y_12.1.1, (y_12.1.2.1, (y_12.1.2.2.1, (a_10, y_12.1.2.2.2.2)))))) fun x_11 => (Mo.ok (.nx x_11))) else (Mo.ok (.nx p_self))) fun s_9 => (Mo.bind (Mo.bind (Mo.ok risen_1) fun a_14 => Mo.bind (Mo.bind (Mo.ok s_9) fun a_13 => Mo.ok a_13.2.1) fun b_15 => Mo.grd (0 < b_15) (Mo.ok (a_14 % b_15))) fun a_16 => Mo.bind (Mo.ok (s_9, fun (z : (Int × (Int × (Int × (Bool × Unit))))) => z)) fun y_18 => Mo.bind (Mo.ok (y_18.2 (y_18.1.1, (y_18.1.2.1, (a_16, y_18.1.2.2.2))))) fun x_17 => (Mo.ok (.nx x_17)))))
def f_Wheel_rise (p_self : (Int × (Int × (Int × (Bool × Unit))))) (p_value : Int) : Mo (Unit × (Int × (Int × (Int × (Bool × Unit))))) := fnMU (b_Wheel_rise p_self p_value)
def b_Wheel_amount (p_self : (Int × (Int × (Int × (Bool × Unit))))) : Mo (Out Int Unit Unit) :=
  (Mo.bind (Mo.bind (Mo.ok p_self) fun a_1 => Mo.ok a_1.2.2.1) fun r_2 => Mo.ok (.rt r_2))
def f_Wheel_amount (p_self : (Int × (Int × (Int × (Bool × Unit))))) : Mo Int := fnO (b_Wheel_amount p_self)
def b_Wheel_shown (p_self : (Int × (Int × (Int × (Bool × Unit))))) : Mo (Out (List Nat) Unit Unit) :=
  (Mo.bind (Mo.bind (Mo.bind (Mo.bind (Mo.ok p_self) fun a_1 => Mo.ok a_1.2.2.1) fun c_2 => Mo.grd (c_2.natAbs.log2 < 1920) (Mo.ok (strI c_2))) fun a_4 => Mo.bind (Mo.bind (Mo.ok p_self) fun a_3 => Mo.ok a_3.1) fun b_5 => Mo.grd (PadOk b_5 = true) (Mo.ok (zfL a_4 b_5))) fun r_6 => Mo.ok (.rt r_6))
def f_Wheel_shown (p_self : (Int × (Int × (Int × (Bool × Unit))))) : Mo (List Nat) := fnO (b_Wheel_shown p_self)
def b_Wheel_ran_over (p_self : (Int × (Int × (Int × (Bool × Unit))))) : Mo (Out Bool Unit Unit) :=
  (Mo.bind (Mo.bind (Mo.ok p_self) fun a_1 => Mo.ok a_1.2.2.2.1) fun r_2 => Mo.ok (.rt r_2))
def f_Wheel_ran_over (p_self : (Int × (Int × (Int × (Bool × Unit))))) : Mo Bool := fnO (b_Wheel_ran_over p_self)
def b_law_whole (p_found : Int) : Mo (Out Bool Unit Unit) :=
  (Mo.bind (Mo.bind (Mo.bind (Mo.ok p_found) fun a_1 => Mo.ok true) fun c_4 => if c_4 then (Mo.bind (Mo.bind (Mo.ok p_found) fun a_2 => Mo.ok false) fun a_3 => Mo.ok (!a_3)) else Mo.ok false) fun r_5 => Mo.ok (.rt r_5))
def f_law_whole (p_found : Int) : Mo Bool := fnO (b_law_whole p_found)
def b_law_shown (p_number : Int) (p_figures : Int) : Mo (Out (List Nat) Unit Unit) :=
  (Mo.bind (Mo.ok ([] : List Nat)) fun found_1 => (thenO (S := ((List Nat) × Int)) (Mo.bind (Mo.bind (Mo.ok p_figures) fun c_3 => Mo.grd (-(2 ^ 62) ≤ c_3 ∧ c_3 < 2 ^ 62) (Mo.ok (rngI 0 c_3.toNat))) fun xs_15 => forO (fun (s_2 : ((List Nat) × Int)) x_4 => (Mo.bind (Mo.bind (Mo.bind (Mo.ok ([48, 49, 50, 51, 52, 53, 54, 55, 56, 57] : List Nat)) fun a_8 => Mo.bind (Mo.bind (Mo.ok s_2.2) fun a_6 => Mo.bind (Mo.ok (10 : Int)) fun b_7 => Mo.grd (0 < b_7) (Mo.ok (a_6 % b_7))) fun b_9 => Mo.lim a_8.length (Mo.opt ((atI a_8 b_9).map fun c => [c]))) fun a_10 => Mo.bind (Mo.ok s_2.1) fun b_11 => Mo.lim (a_10.length + b_11.length) (Mo.ok (a_10 ++ b_11))) fun found_5 => (Mo.bind (Mo.bind (Mo.ok s_2.2) fun a_13 => Mo.bind (Mo.ok (10 : Int)) fun b_14 => Mo.grd (CDivG a_13 b_14) (Mo.ok (a_13 / b_14))) fun number_12 => (Mo.ok (.nx (found_5, number_12)))))) xs_15 (found_1, p_number)) fun s_2 => (Mo.bind (Mo.ok s_2.1) fun r_16 => Mo.ok (.rt r_16))))
def f_law_shown (p_number : Int) (p_figures : Int) : Mo (List Nat) := fnO (b_law_shown p_number p_figures)
def b_law_good (p_wheel : (Int × (Int × (Int × (Bool × Unit))))) (p_kept : (Int × Bool)) (p_figures : Int) (p_turn : Int) : Mo (Out Bool Unit Unit) :=
  (thenO (S := Unit) (Mo.bind (Mo.bind (Mo.ok (3 : Int)) fun c_2 => Mo.grd (-(2 ^ 62) ≤ c_2 ∧ c_2 < 2 ^ 62) (Mo.ok (rngI 0 c_2.toNat))) fun xs_54 => forO (fun (_ : Unit) x_3 => (Mo.bind (Mo.bind (Mo.bind (Mo.ok p_turn) fun a_5 => Mo.bind (Mo.ok x_3) fun b_6 => Mo.ok (a_5 + b_6)) fun a_7 => Mo.bind (Mo.ok (3 : Int)) fun b_8 => Mo.grd (0 < b_8) (Mo.ok (a_7 % b_8))) fun asked_4 => (thenO (S := Unit) (Mo.bind (Mo.bind (Mo.ok asked_4) fun a_9 => Mo.bind (Mo.ok (0 : Int)) fun b_10 => Mo.ok (decide (a_9 = b_10))) fun c_11 => if c_11 then (Mo.bind (Mo.bind (Mo.ok p_wheel) fun o_14 => Mo.noex (f_Wheel_amount o_14)) fun found_13 => (Mo.bind (Mo.bind (Mo.bind (Mo.bind (Mo.ok found_13) fun c_15 => Mo.noex (f_law_whole c_15)) fun a_16 => Mo.ok (!a_16)) fun c_20 => if c_20 then Mo.ok true else (Mo.bind (Mo.ok found_13) fun a_18 => Mo.bind (Mo.bind (Mo.ok p_kept) fun a_17 => Mo.ok a_17.1) fun b_19 => Mo.ok (!decide (a_18 = b_19)))) fun c_21 => if c_21 then (Mo.bind (Mo.ok false) fun r_22 => Mo.ok (.rt r_22)) else (Mo.ok (.nx ())))) else (Mo.ok (.nx ()))) fun _ => (thenO (S := Unit) (Mo.bind (Mo.bind (Mo.ok asked_4) fun a_23 => Mo.bind (Mo.ok (1 : Int)) fun b_24 => Mo.ok (decide (a_23 = b_24))) fun c_25 => if c_25 then (Mo.bind (Mo.bind (Mo.ok p_wheel) fun o_28 => Mo.noex (f_Wheel_shown o_28)) fun found_27 => (Mo.bind (Mo.bind (Mo.bind (Mo.bind (Mo.ok found_27) fun a_29 => Mo.ok true) fun a_30 => Mo.ok (!a_30)) fun c_37 => if c_37 then Mo.ok true else (Mo.bind (Mo.ok found_27) fun a_35 => Mo.bind (Mo.bind (Mo.bind (Mo.bind (Mo.ok p_kept) fun a_31 => Mo.ok a_31.1) fun a_32 => Mo.bind (Mo.ok p_figures) fun c_33 => Mo.ok (a_32, c_33)) fun c_34 => Mo.noex (f_law_shown c_34.1 c_34.2)) fun b_36 => Mo.ok (!decide (a_35 = b_36)))) fun c_38 => if c_38 then (Mo.bind (Mo.ok false) fun r_39 => Mo.ok (.rt r_39)) else (Mo.ok (.nx ())))) else (Mo.ok (.nx ()))) fun _ => (thenO (S := Unit) (Mo.bind (Mo.bind (Mo.ok asked_4) fun a_40 => Mo.bind (Mo.ok (2 : Int)) fun b_41 => Mo.ok (decide (a_40 = b_41))) fun c_42 => if c_42 then (Mo.bind (Mo.bind (Mo.ok p_wheel) fun o_45 => Mo.noex (f_Wheel_ran_over o_45)) fun found_44 => (Mo.bind (Mo.bind (Mo.bind (Mo.bind (Mo.ok found_44) fun a_46 => Mo.ok true) fun a_47 => Mo.ok (!a_47)) fun c_51 => if c_51 then Mo.ok true else (Mo.bind (Mo.ok found_44) fun a_49 => Mo.bind (Mo.bind (Mo.ok p_kept) fun a_48 => Mo.ok a_48.2) fun b_50 => Mo.ok (!decide (a_49 = b_50)))) fun c_52 => if c_52 then (Mo.bind (Mo.ok false) fun r_53 => Mo.ok (.rt r_53)) else (Mo.ok (.nx ())))) else (Mo.ok (.nx ()))) fun _ => (Mo.ok (.nx ()))))))) xs_54 ()) fun _ => (Mo.bind (Mo.ok true) fun r_55 => Mo.ok (.rt r_55)))
def f_law_good (p_wheel : (Int × (Int × (Int × (Bool × Unit))))) (p_kept : (Int × Bool)) (p_figures : Int) (p_turn : Int) : Mo Bool := fnO (b_law_good p_wheel p_kept p_figures p_turn)
def b_law_value (p_cell : Int) (p_full : Int) (p_kept : Int) : Mo (Out Int Unit Unit) :=
  (thenO (S := Unit) (Mo.bind (Mo.bind (Mo.bind (Mo.ok p_cell) fun a_1 => Mo.bind (Mo.ok (3 : Int)) fun b_2 => Mo.grd (0 < b_2) (Mo.ok (a_1 % b_2))) fun a_3 => Mo.bind (Mo.ok (0 : Int)) fun b_4 => Mo.ok (decide (a_3 = b_4))) fun c_5 => if c_5 then (Mo.bind (Mo.bind (Mo.bind (Mo.ok p_cell) fun a_7 => Mo.bind (Mo.ok (3 : Int)) fun b_8 => Mo.grd (CDivG a_7 b_8) (Mo.ok (a_7 / b_8))) fun a_9 => Mo.bind (Mo.ok (10 : Int)) fun b_10 => Mo.grd (0 < b_10) (Mo.ok (a_9 % b_10))) fun r_11 => Mo.ok (.rt r_11)) else (Mo.ok (.nx ()))) fun _ => (thenO (S := Unit) (Mo.bind (Mo.bind (Mo.bind (Mo.ok p_cell) fun a_12 => Mo.bind (Mo.ok (3 : Int)) fun b_13 => Mo.grd (0 < b_13) (Mo.ok (a_12 % b_13))) fun a_14 => Mo.bind (Mo.ok (1 : Int)) fun b_15 => Mo.ok (decide (a_14 = b_15))) fun c_16 => if c_16 then (Mo.bind (Mo.bind (Mo.bind (Mo.ok (0 : Int)) fun a_41 => Mo.bind (Mo.bind (Mo.ok (1 : Int)) fun a_39 => Mo.bind (Mo.bind (Mo.ok (9 : Int)) fun a_37 => Mo.bind (Mo.bind (Mo.bind (Mo.ok p_full) fun a_19 => Mo.bind (Mo.ok (1 : Int)) fun b_20 => Mo.ok (a_19 - b_20)) fun a_35 => Mo.bind (Mo.bind (Mo.ok p_full) fun a_33 => Mo.bind (Mo.bind (Mo.bind (Mo.ok p_full) fun a_21 => Mo.bind (Mo.ok (1 : Int)) fun b_22 => Mo.ok (a_21 + b_22)) fun a_31 => Mo.bind (Mo.bind (Mo.bind (Mo.ok p_full) fun a_23 => Mo.bind (Mo.ok p_kept) fun b_24 => Mo.ok (a_23 - b_24)) fun a_29 => Mo.bind (Mo.bind (Mo.bind (Mo.ok p_full) fun a_25 => Mo.bind (Mo.ok (1 : Int)) fun b_26 => Mo.ok (a_25 - b_26)) fun a_27 => Mo.bind (Mo.ok p_kept) fun b_28 => Mo.ok (a_27 - b_28)) fun c_30 => Mo.ok (a_29, c_30)) fun c_32 => Mo.ok (a_31, c_32)) fun c_34 => Mo.ok (a_33, c_34)) fun c_36 => Mo.ok (a_35, c_36)) fun c_38 => Mo.ok (a_37, c_38)) fun c_40 => Mo.ok (a_39, c_40)) fun c_42 => Mo.ok (a_41, c_42)) fun c_43 => Mo.ok [c_43.1, c_43.2.1, c_43.2.2.1, c_43.2.2.2.1, c_43.2.2.2.2.1, c_43.2.2.2.2.2.1, c_43.2.2.2.2.2.2.1, c_43.2.2.2.2.2.2.2]) fun some_18 => (Mo.bind (Mo.bind (Mo.ok some_18) fun a_48 => Mo.bind (Mo.bind (Mo.bind (Mo.ok p_cell) fun a_44 => Mo.bind (Mo.ok (3 : Int)) fun b_45 => Mo.grd (CDivG a_44 b_45) (Mo.ok (a_44 / b_45))) fun a_46 => Mo.bind (Mo.ok (8 : Int)) fun b_47 => Mo.grd (0 < b_47) (Mo.ok (a_46 % b_47))) fun b_49 => Mo.opt (atI a_48 b_49)) fun r_50 => Mo.ok (.rt r_50))) else (Mo.ok (.nx ()))) fun _ => (Mo.bind (Mo.bind (Mo.bind (Mo.ok p_cell) fun a_51 => Mo.bind (Mo.ok (3 : Int)) fun b_52 => Mo.grd (CDivG a_51 b_52) (Mo.ok (a_51 / b_52))) fun a_55 => Mo.bind (Mo.bind (Mo.ok (10 : Int)) fun a_53 => Mo.bind (Mo.ok (60 : Int)) fun b_54 => Mo.grd (CPow a_53 b_54) (Mo.ok (a_53 ^ b_54.toNat))) fun b_56 => Mo.grd (0 < b_56) (Mo.ok (a_55 % b_56))) fun r_57 => Mo.ok (.rt r_57))))
def f_law_value (p_cell : Int) (p_full : Int) (p_kept : Int) : Mo Int := fnO (b_law_value p_cell p_full p_kept)
def b_law_cell_at (p_script : (List Int)) (p_k : Int) : Mo (Out Int Unit Unit) :=
  (thenO (S := Unit) (Mo.bind (Mo.bind (Mo.ok p_k) fun a_2 => Mo.bind (Mo.bind (Mo.ok p_script) fun c_1 => Mo.ok (c_1.length : Int)) fun b_3 => Mo.ok (decide (a_2 < b_3))) fun c_4 => if c_4 then (Mo.bind (Mo.bind (Mo.ok p_script) fun a_6 => Mo.bind (Mo.ok p_k) fun b_7 => Mo.opt (atI a_6 b_7)) fun r_8 => Mo.ok (.rt r_8)) else (Mo.ok (.nx ()))) fun _ => (Mo.bind (Mo.ok (0 : Int)) fun r_9 => Mo.ok (.rt r_9)))
def f_law_cell_at (p_script : (List Int)) (p_k : Int) : Mo Int := fnO (b_law_cell_at p_script p_k)
def b_law (p_script : (List Int)) : Mo (Out Bool Unit Unit) :=
  (Mo.bind (Mo.bind (Mo.bind (Mo.bind (Mo.ok (1 : Int)) fun a_7 => Mo.bind (Mo.bind (Mo.bind (Mo.bind (Mo.ok p_script) fun a_2 => Mo.bind (Mo.ok (0 : Int)) fun c_3 => Mo.ok (a_2, c_3)) fun c_4 => Mo.noex (f_law_cell_at c_4.1 c_4.2)) fun a_5 => Mo.bind (Mo.ok (12 : Int)) fun b_6 => Mo.grd (0 < b_6) (Mo.ok (a_5 % b_6))) fun b_8 => Mo.ok (a_7 + b_8)) fun a_16 => Mo.bind (Mo.bind (Mo.ok (1 : Int)) fun a_14 => Mo.bind (Mo.bind (Mo.bind (Mo.bind (Mo.ok p_script) fun a_9 => Mo.bind (Mo.ok (1 : Int)) fun c_10 => Mo.ok (a_9, c_10)) fun c_11 => Mo.noex (f_law_cell_at c_11.1 c_11.2)) fun a_12 => Mo.bind (Mo.ok (12 : Int)) fun b_13 => Mo.grd (0 < b_13) (Mo.ok (a_12 % b_13))) fun b_15 => Mo.ok (a_14 + b_15)) fun c_17 => Mo.ok (a_16, c_17)) fun c_18 => Mo.ok [c_18.1, c_18.2]) fun figures_1 => (Mo.bind (Mo.bind (Mo.bind (Mo.bind (Mo.bind (Mo.ok figures_1) fun a_26 => Mo.bind (Mo.ok (0 : Int)) fun b_27 => Mo.opt (atI a_26 b_27)) fun c_28 => Mo.bind (Mo.noex (f_Wheel___init__ () c_28)) fun q_29 => Mo.ok q_29.2) fun a_30 => Mo.bind (Mo.bind (Mo.bind (Mo.bind (Mo.ok figures_1) fun a_20 => Mo.bind (Mo.ok (1 : Int)) fun b_21 => Mo.opt (atI a_20 b_21)) fun c_22 => Mo.bind (Mo.noex (f_Wheel___init__ () c_22)) fun q_23 => Mo.ok q_23.2) fun a_24 => Mo.bind (Mo.ok ([] : List (Int × (Int × (Int × (Bool × Unit)))))) fun l_25 => Mo.ok (a_24 :: l_25)) fun l_31 => Mo.ok (a_30 :: l_31)) fun l_32 => Mo.lim l_32.length (Mo.ok l_32)) fun wheels_19 => (Mo.bind (Mo.bind (Mo.bind (Mo.bind (Mo.ok (0 : Int)) fun a_41 => Mo.bind (Mo.ok false) fun c_42 => Mo.ok (a_41, c_42)) fun a_45 => Mo.bind (Mo.bind (Mo.ok (0 : Int)) fun a_43 => Mo.bind (Mo.ok false) fun c_44 => Mo.ok (a_43, c_44)) fun c_46 => Mo.ok (a_45, c_46)) fun c_47 => Mo.ok [c_47.1, c_47.2]) fun kept_33 => (thenO (S := ((List (Int × Bool)) × (List (Int × (Int × (Int × (Bool × Unit))))))) (Mo.bind (Mo.bind (Mo.ok p_script) fun a_51 => Mo.bind (Mo.bind (Mo.ok (2 : Int)) fun i_49 => Mo.ok (some i_49)) fun b_52 => Mo.bind (Mo.bind (Mo.ok (82 : Int)) fun i_50 => Mo.ok (some i_50)) fun d_53 => Mo.ok (cutG a_51 b_52 d_53)) fun xs_145 => forO (fun (s_48 : ((List (Int × Bool)) × (List (Int × (Int × (Int × (Bool × Unit))))))) x_54 => (Mo.bind (Mo.bind (Mo.ok x_54) fun a_56 => Mo.bind (Mo.ok (2 : Int)) fun b_57 => Mo.grd (0 < b_57) (Mo.ok (a_56 % b_57))) fun who_55 => (Mo.bind (Mo.bind (Mo.bind (Mo.ok figures_1) fun a_59 => Mo.bind (Mo.ok who_55) fun b_60 => Mo.opt (atI a_59 b_60)) fun c_61 => Mo.noex (f_law_power c_61)) fun full_58 => (thenO (S := ((List (Int × (Int × (Int × (Bool × Unit))))) × (List (Int × Bool)))) (Mo.bind (Mo.bind (Mo.bind (Mo.bind (Mo.ok x_54) fun a_62 => Mo.bind (Mo.ok (2 : Int)) fun b_63 => Mo.grd (CDivG a_62 b_63) (Mo.ok (a_62 / b_63))) fun a_64 => Mo.bind (Mo.ok (7 : Int)) fun b_65 => Mo.grd (0 < b_65) (Mo.ok (a_64 % b_65))) fun a_66 => Mo.bind (Mo.ok (3 : Int)) fun b_67 => Mo.ok (decide (a_66 = b_67))) fun c_68 => if c_68 then (Mo.bind (Mo.bind (Mo.ok (s_48.2, fun (z : (List (Int × (Int × (Int × (Bool × Unit)))))) => z)) fun y_70 => Mo.bind (Mo.ok who_55) fun j_71 => Mo.bind (Mo.opt (ixN y_70.1.length j_71)) fun n_72 => Mo.bind (Mo.opt (y_70.1[n_72]?)) fun z_73 => Mo.ok (z_73, fun (z' : (Int × (Int × (Int × (Bool × Unit))))) => y_70.2 (y_70.1.set n_72 z'))) fun y_74 => Mo.bind (Mo.ok ()) fun c_75 => Mo.bind (Mo.noex (f_Wheel_reset y_74.1)) fun q_76 => Mo.bind (Mo.ok (y_74.2 q_76.2)) fun x_77 => (Mo.bind (Mo.bind (Mo.ok (0 : Int)) fun a_78 => Mo.bind (Mo.ok false) fun c_79 => Mo.ok (a_78, c_79)) fun a_80 => Mo.bind (Mo.ok who_55) fun j_81 => Mo.bind (Mo.opt ((ixN (s_48.1).length j_81).map fun n => (s_48.1).set n a_80)) fun kept_82 => (Mo.ok (.nx (x_77, kept_82))))) else (Mo.bind (Mo.bind (Mo.bind (Mo.bind (Mo.ok x_54) fun a_84 => Mo.bind (Mo.ok (14 : Int)) fun b_85 => Mo.grd (CDivG a_84 b_85) (Mo.ok (a_84 / b_85))) fun a_91 => Mo.bind (Mo.bind (Mo.ok full_58) fun a_89 => Mo.bind (Mo.bind (Mo.bind (Mo.ok s_48.1) fun a_86 => Mo.bind (Mo.ok who_55) fun b_87 => Mo.opt (atI a_86 b_87)) fun a_88 => Mo.ok a_88.1) fun c_90 => Mo.ok (a_89, c_90)) fun c_92 => Mo.ok (a_91, c_92)) fun c_93 => Mo.noex (f_law_value c_93.1 c_93.2.1 c_93.2.2)) fun value_here_83 => (Mo.bind (Mo.bind (Mo.ok (s_48.2, fun (z : (List (Int × (Int × (Int × (Bool × Unit)))))) => z)) fun y_94 => Mo.bind (Mo.ok who_55) fun j_95 => Mo.bind (Mo.opt (ixN y_94.1.length j_95)) fun n_96 => Mo.bind (Mo.opt (y_94.1[n_96]?)) fun z_97 => Mo.ok (z_97, fun (z' : (Int × (Int × (Int × (Bool × Unit))))) => y_94.2 (y_94.1.set n_96 z'))) fun y_98 => Mo.bind (Mo.ok value_here_83) fun c_99 => Mo.bind (Mo.noex (f_Wheel_rise y_98.1 c_99)) fun q_100 => Mo.bind (Mo.ok (y_98.2 q_100.2)) fun x_101 => (Mo.bind (Mo.bind (Mo.bind (Mo.bind (Mo.ok s_48.1) fun a_103 => Mo.bind (Mo.ok who_55) fun b_104 => Mo.opt (atI a_103 b_104)) fun a_105 => Mo.ok a_105.1) fun a_106 => Mo.bind (Mo.ok value_here_83) fun b_107 => Mo.ok (a_106 + b_107)) fun total_102 => (Mo.bind (Mo.bind (Mo.bind (Mo.ok total_102) fun a_108 => Mo.bind (Mo.ok full_58) fun b_109 => Mo.grd (0 < b_109) (Mo.ok (a_108 % b_109))) fun a_116 => Mo.bind (Mo.bind (Mo.bind (Mo.bind (Mo.ok s_48.1) fun a_110 => Mo.bind (Mo.ok who_55) fun b_111 => Mo.opt (atI a_110 b_111)) fun a_112 => Mo.ok a_112.2) fun c_115 => if c_115 then Mo.ok true else (Mo.bind (Mo.ok total_102) fun a_113 => Mo.bind (Mo.ok full_58) fun b_114 => Mo.ok (decide (b_114 ≤ a_113)))) fun c_117 => Mo.ok (a_116, c_117)) fun a_118 => Mo.bind (Mo.ok who_55) fun j_119 => Mo.bind (Mo.opt ((ixN (s_48.1).length j_119).map fun n => (s_48.1).set n a_118)) fun kept_120 => (Mo.ok (.nx (x_101, kept_120)))))))) fun s_69 => (thenO (S := Unit) (Mo.bind (Mo.bind (Mo.ok (2 : Int)) fun c_122 => Mo.grd (-(2 ^ 62) ≤ c_122 ∧ c_122 < 2 ^ 62) (Mo.ok (rngI 0 c_122.toNat))) fun xs_144 => forO (fun (_ : Unit) x_123 => (Mo.bind (Mo.bind (Mo.bind (Mo.bind (Mo.bind (Mo.ok s_69.1) fun a_124 => Mo.bind (Mo.ok x_123) fun b_125 => Mo.opt (atI a_124 b_125)) fun a_138 => Mo.bind (Mo.bind (Mo.bind (Mo.ok s_69.2) fun a_126 => Mo.bind (Mo.ok x_123) fun b_127 => Mo.opt (atI a_126 b_127)) fun a_136 => Mo.bind (Mo.bind (Mo.bind (Mo.ok figures_1) fun a_128 => Mo.bind (Mo.ok x_123) fun b_129 => Mo.opt (atI a_128 b_129)) fun a_134 => Mo.bind (Mo.bind (Mo.bind (Mo.ok x_54) fun a_130 => Mo.bind (Mo.ok (28 : Int)) fun b_131 => Mo.grd (CDivG a_130 b_131) (Mo.ok (a_130 / b_131))) fun a_132 => Mo.bind (Mo.ok (3 : Int)) fun b_133 => Mo.grd (0 < b_133) (Mo.ok (a_132 % b_133))) fun c_135 => Mo.ok (a_134, c_135)) fun c_137 => Mo.ok (a_136, c_137)) fun c_139 => Mo.ok (a_138, c_139)) fun c_140 => Mo.noex (f_law_good c_140.1 c_140.2.1 c_140.2.2.1 c_140.2.2.2)) fun a_141 => Mo.ok (!a_141)) fun c_142 => if c_142 then (Mo.bind (Mo.ok false) fun r_143 => Mo.ok (.rt r_143)) else (Mo.ok (.nx ())))) xs_144 ()) fun _ => (Mo.ok (.nx (s_69.2, s_69.1)))))))) xs_145 (kept_33, wheels_19)) fun s_48 => (Mo.bind (Mo.bind (Mo.bind (Mo.bind (Mo.bind (Mo.ok s_48.2) fun a_146 => Mo.bind (Mo.ok (0 : Int)) fun b_147 => Mo.opt (atI a_146 b_147)) fun a_156 => Mo.bind (Mo.bind (Mo.bind (Mo.ok s_48.1) fun a_148 => Mo.bind (Mo.ok (0 : Int)) fun b_149 => Mo.opt (atI a_148 b_149)) fun a_154 => Mo.bind (Mo.bind (Mo.bind (Mo.ok figures_1) fun a_150 => Mo.bind (Mo.ok (0 : Int)) fun b_151 => Mo.opt (atI a_150 b_151)) fun a_152 => Mo.bind (Mo.ok (0 : Int)) fun c_153 => Mo.ok (a_152, c_153)) fun c_155 => Mo.ok (a_154, c_155)) fun c_157 => Mo.ok (a_156, c_157)) fun c_158 => Mo.noex (f_law_good c_158.1 c_158.2.1 c_158.2.2.1 c_158.2.2.2)) fun c_172 => if c_172 then (Mo.bind (Mo.bind (Mo.bind (Mo.ok s_48.2) fun a_159 => Mo.bind (Mo.ok (1 : Int)) fun b_160 => Mo.opt (atI a_159 b_160)) fun a_169 => Mo.bind (Mo.bind (Mo.bind (Mo.ok s_48.1) fun a_161 => Mo.bind (Mo.ok (1 : Int)) fun b_162 => Mo.opt (atI a_161 b_162)) fun a_167 => Mo.bind (Mo.bind (Mo.bind (Mo.ok figures_1) fun a_163 => Mo.bind (Mo.ok (1 : Int)) fun b_164 => Mo.opt (atI a_163 b_164)) fun a_165 => Mo.bind (Mo.ok (2 : Int)) fun c_166 => Mo.ok (a_165, c_166)) fun c_168 => Mo.ok (a_167, c_168)) fun c_170 => Mo.ok (a_169, c_170)) fun c_171 => Mo.noex (f_law_good c_171.1 c_171.2.1 c_171.2.2.1 c_171.2.2.2)) else Mo.ok false) fun r_173 => Mo.ok (.rt r_173))))))
def f_law (p_script : (List Int)) : Mo Bool := fnO (b_law p_script)
end K31
namespace K31
open PySem PySem.Spec PyProof.Rows L2
def top (i : Nat) : Stmt := PySem.Challenge.pw_cardshop_k31_a_wheel.main.body.getD i (.Pass ⟨0, 0, 0, 0⟩)
abbrev s_ten_to : Stmt := top 1
abbrev s_Wheel___init__ : Stmt := inClass (top 3) 0
abbrev s_law_power : Stmt := top 7
abbrev s_Wheel_reset : Stmt := inClass (top 3) 4
abbrev s_Wheel_rise : Stmt := inClass (top 3) 1
abbrev s_Wheel_amount : Stmt := inClass (top 3) 2
abbrev s_Wheel_shown : Stmt := inClass (top 3) 5
abbrev s_Wheel_ran_over : Stmt := inClass (top 3) 3
abbrev s_law_whole : Stmt := top 6
abbrev s_law_shown : Stmt := top 9
abbrev s_law_good : Stmt := top 10
abbrev s_law_value : Stmt := top 8
abbrev s_law_cell_at : Stmt := top 5
abbrev s_law : Stmt := top 11
def sp_ten_to (K : PySem.W.Frag) : Sp := Ct K (csLast tyInt) (fun c => f_ten_to c) (owF tyInt)
def sp_Wheel___init__ (K : PySem.W.Frag) : Sp := CtM K (owI (gA K "Wheel") [] psNil) (owI (gA K "Wheel") ["figures", "power", "kept", "over"] (psO (owF tyInt) (psO (owF tyInt) (psO (owF tyInt) (psO (owF tyBl) psNil))))) (csLast tyInt) (fun x c => f_Wheel___init__ x c) (owF tyNon)
def sp_law_power (K : PySem.W.Frag) : Sp := Ct K (csLast tyInt) (fun c => f_law_power c) (owF tyInt)
def sp_Wheel_reset (K : PySem.W.Frag) : Sp := CtM K (owI (gA K "Wheel") ["figures", "power", "kept", "over"] (psO (owF tyInt) (psO (owF tyInt) (psO (owF tyInt) (psO (owF tyBl) psNil))))) (owI (gA K "Wheel") ["figures", "power", "kept", "over"] (psO (owF tyInt) (psO (owF tyInt) (psO (owF tyInt) (psO (owF tyBl) psNil))))) csNil (fun x c => f_Wheel_reset x) (owF tyNon)
def sp_Wheel_rise (K : PySem.W.Frag) : Sp := CtM K (owI (gA K "Wheel") ["figures", "power", "kept", "over"] (psO (owF tyInt) (psO (owF tyInt) (psO (owF tyInt) (psO (owF tyBl) psNil))))) (owI (gA K "Wheel") ["figures", "power", "kept", "over"] (psO (owF tyInt) (psO (owF tyInt) (psO (owF tyInt) (psO (owF tyBl) psNil))))) (csLast tyInt) (fun x c => f_Wheel_rise x c) (owF tyNon)
def sp_Wheel_amount (K : PySem.W.Frag) : Sp := Ct K (csLast (tyI (gA K "Wheel") ["figures", "power", "kept", "over"] (csCons tyInt (csCons tyInt (csCons tyInt (csCons tyBl csNil)))))) (fun c => f_Wheel_amount c) (owF tyInt)
def sp_Wheel_shown (K : PySem.W.Frag) : Sp := Ct K (csLast (tyI (gA K "Wheel") ["figures", "power", "kept", "over"] (csCons tyInt (csCons tyInt (csCons tyInt (csCons tyBl csNil)))))) (fun c => f_Wheel_shown c) (owF tyStr)
def sp_Wheel_ran_over (K : PySem.W.Frag) : Sp := Ct K (csLast (tyI (gA K "Wheel") ["figures", "power", "kept", "over"] (csCons tyInt (csCons tyInt (csCons tyInt (csCons tyBl csNil)))))) (fun c => f_Wheel_ran_over c) (owF tyBl)
def sp_law_whole (K : PySem.W.Frag) : Sp := Ct K (csLast tyInt) (fun c => f_law_whole c) (owF tyBl)
def sp_law_shown (K : PySem.W.Frag) : Sp := Ct K (csCons tyInt (csLast tyInt)) (fun c => f_law_shown c.1 c.2) (owF tyStr)
def sp_law_good (K : PySem.W.Frag) : Sp := Ct K (csCons (tyI (gA K "Wheel") ["figures", "power", "kept", "over"] (csCons tyInt (csCons tyInt (csCons tyInt (csCons tyBl csNil))))) (csCons (tyH (csCons tyInt (csLast tyBl))) (csCons tyInt (csLast tyInt)))) (fun c => f_law_good c.1 c.2.1 c.2.2.1 c.2.2.2) (owF tyBl)
def sp_law_value (K : PySem.W.Frag) : Sp := Ct K (csCons tyInt (csCons tyInt (csLast tyInt))) (fun c => f_law_value c.1 c.2.1 c.2.2) (owF tyInt)
def sp_law_cell_at (K : PySem.W.Frag) : Sp := Ct K (csCons (tySc K) (csLast tyInt)) (fun c => f_law_cell_at c.1 c.2) (owF tyInt)
def sp_law (K : PySem.W.Frag) : Sp := fun vs H Q _ => ∃ (a : Addr) (ns : List Int), vs = [.ref a] ∧ SqL K H a (ns.map V.int) ∧ ns.length ≤ 63 ∧ BitsOk ns ∧ ∀ H', Q (.bl true) H'
def t_ten_to (K : PySem.W.Frag) : TS := (tSeq (tAsg (tC (.int 1)) (gName 1)) (tSeq (tFor (mRng1 (tCons (mVar 0) tNil)) (gName 2) (tAsg (tOp mMulX (mVar 1) (tC (.int 10))) (gName 1))) (tRet (mVar 1))))
abbrev RD_ten_to (K : PySem.W.Frag) : Prop := ∀ vs H Q E, sp_ten_to K vs H Q E → t_ten_to K { nx := fun _ H' => Q .non H', rt := Q } (start ["power", "value", "step"] vs) H
theorem len_ten_to {K : PySem.W.Frag} : ∀ vs H Q E, sp_ten_to K vs H Q E → vs.length = 1 := by
  rintro vs H Q E ⟨F, c, _, hc, _⟩; exact (csn_last : CsN (csLast tyInt) 1) hc
def t_Wheel___init__ (K : PySem.W.Frag) : TS := (tSeq (mSFld (gA K "Wheel") (mVar 0) (mVar 1) "figures") (tSeq (mSFld (gA K "Wheel") (mVar 0) (tCall (sp_ten_to K) [] E0 (tCons (mVar 1) tNil)) "power") (tSeq (mSFld (gA K "Wheel") (mVar 0) (tC (.int 0)) "kept") (mSFld (gA K "Wheel") (mVar 0) (tC (.bl false)) "over"))))
abbrev RD_Wheel___init__ (K : PySem.W.Frag) : Prop := ∀ vs H Q E, sp_Wheel___init__ K vs H Q E → t_Wheel___init__ K { nx := fun _ H' => Q .non H', rt := Q } (start ["self", "figures"] vs) H
theorem len_Wheel___init__ {K : PySem.W.Frag} : ∀ vs H Q E, sp_Wheel___init__ K vs H Q E → vs.length = 2 := by
  rintro vs H Q E ⟨F, h, x, c, w, ws, rfl, _, _, _, _, hc, _⟩; rw [List.length_cons, (csn_last : CsN (csLast tyInt) 1) hc]
def t_law_power (K : PySem.W.Frag) : TS := (tSeq (tAsg (tC (.int 1)) (gName 1)) (tSeq (tFor (mRng1 (tCons (mVar 0) tNil)) (gName 2) (tAsg (tOp mMulX (tC (.int 10)) (mVar 1)) (gName 1))) (tRet (mVar 1))))
abbrev RD_law_power (K : PySem.W.Frag) : Prop := ∀ vs H Q E, sp_law_power K vs H Q E → t_law_power K { nx := fun _ H' => Q .non H', rt := Q } (start ["_law_many", "_law_number", "_law_k"] vs) H
theorem len_law_power {K : PySem.W.Frag} : ∀ vs H Q E, sp_law_power K vs H Q E → vs.length = 1 := by
  rintro vs H Q E ⟨F, c, _, hc, _⟩; exact (csn_last : CsN (csLast tyInt) 1) hc
def t_Wheel_reset (K : PySem.W.Frag) : TS := (tSeq (mSFld (gA K "Wheel") (mVar 0) (tC (.int 0)) "kept") (mSFld (gA K "Wheel") (mVar 0) (tC (.bl false)) "over"))
abbrev RD_Wheel_reset (K : PySem.W.Frag) : Prop := ∀ vs H Q E, sp_Wheel_reset K vs H Q E → t_Wheel_reset K { nx := fun _ H' => Q .non H', rt := Q } (start ["self"] vs) H
theorem len_Wheel_reset {K : PySem.W.Frag} : ∀ vs H Q E, sp_Wheel_reset K vs H Q E → vs.length = 1 := by
  rintro vs H Q E ⟨F, h, x, c, w, ws, rfl, _, _, _, _, hc, _⟩; rw [List.length_cons, (csn_nil : CsN csNil 0) hc]
def t_Wheel_rise (K : PySem.W.Frag) : TS := (tSeq (tAsg (tOp mAdd (mFld (gA K "Wheel") (mVar 0) "kept") (mVar 1)) (gName 2)) (tSeq (mIfS (mTest (tOp mGe (mVar 2) (mFld (gA K "Wheel") (mVar 0) "power"))) (mSFld (gA K "Wheel") (mVar 0) (tC (.bl true)) "over") tNext) (mSFld (gA K "Wheel") (mVar 0) (tOp mMod (mVar 2) (mFld (gA K "Wheel") (mVar 0) "power")) "kept")))
abbrev RD_Wheel_rise (K : PySem.W.Frag) : Prop := ∀ vs H Q E, sp_Wheel_rise K vs H Q E → t_Wheel_rise K { nx := fun _ H' => Q .non H', rt := Q } (start ["self", "value", "risen"] vs) H
theorem len_Wheel_rise {K : PySem.W.Frag} : ∀ vs H Q E, sp_Wheel_rise K vs H Q E → vs.length = 2 := by
  rintro vs H Q E ⟨F, h, x, c, w, ws, rfl, _, _, _, _, hc, _⟩; rw [List.length_cons, (csn_last : CsN (csLast tyInt) 1) hc]
def t_Wheel_amount (K : PySem.W.Frag) : TS := (tRet (mFld (gA K "Wheel") (mVar 0) "kept"))
abbrev RD_Wheel_amount (K : PySem.W.Frag) : Prop := ∀ vs H Q E, sp_Wheel_amount K vs H Q E → t_Wheel_amount K { nx := fun _ H' => Q .non H', rt := Q } (start ["self"] vs) H
theorem len_Wheel_amount {K : PySem.W.Frag} : ∀ vs H Q E, sp_Wheel_amount K vs H Q E → vs.length = 1 := by
  rintro vs H Q E ⟨F, c, _, hc, _⟩; exact (csn_last : CsN (csLast (tyI (gA K "Wheel") ["figures", "power", "kept", "over"] (csCons tyInt (csCons tyInt (csCons tyInt (csCons tyBl csNil)))))) 1) hc
def t_Wheel_shown (K : PySem.W.Frag) : TS := (tRet (tBM K "str" mZfill (tCB (mStr) (tCons (mFld (gA K "Wheel") (mVar 0) "kept") tNil)) (tCons (mFld (gA K "Wheel") (mVar 0) "figures") tNil)))
abbrev RD_Wheel_shown (K : PySem.W.Frag) : Prop := ∀ vs H Q E, sp_Wheel_shown K vs H Q E → t_Wheel_shown K { nx := fun _ H' => Q .non H', rt := Q } (start ["self"] vs) H
theorem len_Wheel_shown {K : PySem.W.Frag} : ∀ vs H Q E, sp_Wheel_shown K vs H Q E → vs.length = 1 := by
  rintro vs H Q E ⟨F, c, _, hc, _⟩; exact (csn_last : CsN (csLast (tyI (gA K "Wheel") ["figures", "power", "kept", "over"] (csCons tyInt (csCons tyInt (csCons tyInt (csCons tyBl csNil)))))) 1) hc
def t_Wheel_ran_over (K : PySem.W.Frag) : TS := (tRet (mFld (gA K "Wheel") (mVar 0) "over"))
abbrev RD_Wheel_ran_over (K : PySem.W.Frag) : Prop := ∀ vs H Q E, sp_Wheel_ran_over K vs H Q E → t_Wheel_ran_over K { nx := fun _ H' => Q .non H', rt := Q } (start ["self"] vs) H
theorem len_Wheel_ran_over {K : PySem.W.Frag} : ∀ vs H Q E, sp_Wheel_ran_over K vs H Q E → vs.length = 1 := by
  rintro vs H Q E ⟨F, c, _, hc, _⟩; exact (csn_last : CsN (csLast (tyI (gA K "Wheel") ["figures", "power", "kept", "over"] (csCons tyInt (csCons tyInt (csCons tyInt (csCons tyBl csNil)))))) 1) hc
def t_law_whole (K : PySem.W.Frag) : TS := (tRet (mAndV (tCB (mIsa K) (tCons (mVar 0) (tCons (tC (.ty "int")) tNil))) (mNotV (tCB (mIsa K) (tCons (mVar 0) (tCons (tC (.ty "bool")) tNil))))))
abbrev RD_law_whole (K : PySem.W.Frag) : Prop := ∀ vs H Q E, sp_law_whole K vs H Q E → t_law_whole K { nx := fun _ H' => Q .non H', rt := Q } (start ["_law_found"] vs) H
theorem len_law_whole {K : PySem.W.Frag} : ∀ vs H Q E, sp_law_whole K vs H Q E → vs.length = 1 := by
  rintro vs H Q E ⟨F, c, _, hc, _⟩; exact (csn_last : CsN (csLast tyInt) 1) hc
def t_law_shown (K : PySem.W.Frag) : TS := (tSeq (tAsg (tC (tx [])) (gName 2)) (tSeq (tFor (mRng1 (tCons (mVar 1) tNil)) (gName 3) (tSeq (tAsg (tOp mAdd (tOp (mIx K) (tC (tx [48, 49, 50, 51, 52, 53, 54, 55, 56, 57])) (tOp mMod (mVar 0) (tC (.int 10)))) (mVar 2)) (gName 2)) (tAsg (tOp mDivG (mVar 0) (tC (.int 10))) (gName 0)))) (tRet (mVar 2))))
abbrev RD_law_shown (K : PySem.W.Frag) : Prop := ∀ vs H Q E, sp_law_shown K vs H Q E → t_law_shown K { nx := fun _ H' => Q .non H', rt := Q } (start ["_law_number", "_law_figures", "_law_found", "_law_k"] vs) H
theorem len_law_shown {K : PySem.W.Frag} : ∀ vs H Q E, sp_law_shown K vs H Q E → vs.length = 2 := by
  rintro vs H Q E ⟨F, c, _, hc, _⟩; exact ((csn_cons csn_last) : CsN (csCons tyInt (csLast tyInt)) 2) hc
def t_law_good (K : PySem.W.Frag) : TS := (tSeq (tFor (mRng1 (tCons (tC (.int 3)) tNil)) (gName 4) (tSeq (tAsg (tOp mMod (tOp mAdd (mVar 3) (mVar 4)) (tC (.int 3))) (gName 5)) (tSeq (mIfS (mTest (tOp (mEqK K) (mVar 5) (tC (.int 0)))) (tSeq (tAsg (tMeth (gA K "Wheel") "amount" (sp_Wheel_amount K) [] E0 (mVar 0) tNil) (gName 6)) (mIfS (mOr (tNot (mTest (tCall (sp_law_whole K) [] E0 (tCons (mVar 6) tNil)))) (mTest (tOp (mNeK K) (mVar 6) (tOp (mIx K) (mVar 1) (tC (.int 0)))))) (tRet (tC (.bl false))) tNext)) tNext) (tSeq (mIfS (mTest (tOp (mEqK K) (mVar 5) (tC (.int 1)))) (tSeq (tAsg (tMeth (gA K "Wheel") "shown" (sp_Wheel_shown K) [] E0 (mVar 0) tNil) (gName 6)) (mIfS (mOr (tNot (mTest (tCB (mIsa K) (tCons (mVar 6) (tCons (tC (.ty "str")) tNil))))) (mTest (tOp (mNeK K) (mVar 6) (tCall (sp_law_shown K) [] E0 (tCons (tOp (mIx K) (mVar 1) (tC (.int 0))) (tCons (mVar 2) tNil)))))) (tRet (tC (.bl false))) tNext)) tNext) (mIfS (mTest (tOp (mEqK K) (mVar 5) (tC (.int 2)))) (tSeq (tAsg (tMeth (gA K "Wheel") "ran_over" (sp_Wheel_ran_over K) [] E0 (mVar 0) tNil) (gName 6)) (mIfS (mOr (tNot (mTest (tCB (mIsa K) (tCons (mVar 6) (tCons (tC (.ty "bool")) tNil))))) (mTest (tOp (mNeK K) (mVar 6) (tOp (mIx K) (mVar 1) (tC (.int 1)))))) (tRet (tC (.bl false))) tNext)) tNext))))) (tRet (tC (.bl true))))
abbrev RD_law_good (K : PySem.W.Frag) : Prop := ∀ vs H Q E, sp_law_good K vs H Q E → t_law_good K { nx := fun _ H' => Q .non H', rt := Q } (start ["_law_wheel", "_law_kept", "_law_figures", "_law_turn", "_law_k", "_law_asked", "_law_found"] vs) H
theorem len_law_good {K : PySem.W.Frag} : ∀ vs H Q E, sp_law_good K vs H Q E → vs.length = 4 := by
  rintro vs H Q E ⟨F, c, _, hc, _⟩; exact ((csn_cons (csn_cons (csn_cons csn_last))) : CsN (csCons (tyI (gA K "Wheel") ["figures", "power", "kept", "over"] (csCons tyInt (csCons tyInt (csCons tyInt (csCons tyBl csNil))))) (csCons (tyH (csCons tyInt (csLast tyBl))) (csCons tyInt (csLast tyInt)))) 4) hc
def t_law_value (K : PySem.W.Frag) : TS := (tSeq (mIfS (mTest (tOp (mEqK K) (tOp mMod (mVar 0) (tC (.int 3))) (tC (.int 0)))) (tRet (tOp mMod (tOp mDivG (mVar 0) (tC (.int 3))) (tC (.int 10)))) tNext) (tSeq (mIfS (mTest (tOp (mEqK K) (tOp mMod (mVar 0) (tC (.int 3))) (tC (.int 1)))) (tSeq (tAsg (tLst (tCons (tC (.int 0)) (tCons (tC (.int 1)) (tCons (tC (.int 9)) (tCons (tOp mSub (mVar 1) (tC (.int 1))) (tCons (mVar 1) (tCons (tOp mAdd (mVar 1) (tC (.int 1))) (tCons (tOp mSub (mVar 1) (mVar 2)) (tCons (tOp mSub (tOp mSub (mVar 1) (tC (.int 1))) (mVar 2)) tNil))))))))) (gName 3)) (tRet (tOp (mIx K) (mVar 3) (tOp mMod (tOp mDivG (mVar 0) (tC (.int 3))) (tC (.int 8)))))) tNext) (tRet (tOp mMod (tOp mDivG (mVar 0) (tC (.int 3))) (tOp mPow (tC (.int 10)) (tC (.int 60)))))))
abbrev RD_law_value (K : PySem.W.Frag) : Prop := ∀ vs H Q E, sp_law_value K vs H Q E → t_law_value K { nx := fun _ H' => Q .non H', rt := Q } (start ["_law_cell", "_law_full", "_law_kept", "_law_some"] vs) H
theorem len_law_value {K : PySem.W.Frag} : ∀ vs H Q E, sp_law_value K vs H Q E → vs.length = 3 := by
  rintro vs H Q E ⟨F, c, _, hc, _⟩; exact ((csn_cons (csn_cons csn_last)) : CsN (csCons tyInt (csCons tyInt (csLast tyInt))) 3) hc
def t_law_cell_at (K : PySem.W.Frag) : TS := (tSeq (mIfS (mTest (tOp (mLtK K) (mVar 1) (tCB (mLen K) (tCons (mVar 0) tNil)))) (tRet (tOp (mIx K) (mVar 0) (mVar 1))) tNext) (tRet (tC (.int 0))))
abbrev RD_law_cell_at (K : PySem.W.Frag) : Prop := ∀ vs H Q E, sp_law_cell_at K vs H Q E → t_law_cell_at K { nx := fun _ H' => Q .non H', rt := Q } (start ["_law_script", "_law_k"] vs) H
theorem len_law_cell_at {K : PySem.W.Frag} : ∀ vs H Q E, sp_law_cell_at K vs H Q E → vs.length = 2 := by
  rintro vs H Q E ⟨F, c, _, hc, _⟩; exact ((csn_cons csn_last) : CsN (csCons (tySc K) (csLast tyInt)) 2) hc
def t_law (K : PySem.W.Frag) : TS := (tSeq (tAsg (tLst (tCons (tOp mAdd (tC (.int 1)) (tOp mMod (tCall (sp_law_cell_at K) [] E0 (tCons (mVar 0) (tCons (tC (.int 0)) tNil))) (tC (.int 12)))) (tCons (tOp mAdd (tC (.int 1)) (tOp mMod (tCall (sp_law_cell_at K) [] E0 (tCons (mVar 0) (tCons (tC (.int 1)) tNil))) (tC (.int 12)))) tNil))) (gName 1)) (tSeq (tAsg (tLst (tCons (tMake (gA K "Wheel") (sp_Wheel___init__ K) [] E0 (tCons (tOp (mIx K) (mVar 1) (tC (.int 0))) tNil)) (tCons (tMake (gA K "Wheel") (sp_Wheel___init__ K) [] E0 (tCons (tOp (mIx K) (mVar 1) (tC (.int 1))) tNil)) tNil))) (gName 2)) (tSeq (tAsg (tLst (tCons (tLst (tCons (tC (.int 0)) (tCons (tC (.bl false)) tNil))) (tCons (tLst (tCons (tC (.int 0)) (tCons (tC (.bl false)) tNil))) tNil))) (gName 3)) (tSeq (tFor (iAny K (tSl (mSl K) (mVar 0) (mPart (tC (.int 2))) (mPart (tC (.int 82))))) (gName 4) (tSeq (tAsg (tOp mMod (mVar 4) (tC (.int 2))) (gName 5)) (tSeq (tAsg (tCall (sp_law_power K) [] E0 (tCons (tOp (mIx K) (mVar 1) (mVar 5)) tNil)) (gName 6)) (tSeq (mIfS (mTest (tOp (mEqK K) (tOp mMod (tOp mDivG (mVar 4) (tC (.int 2))) (tC (.int 7))) (tC (.int 3)))) (tSeq (tDrop (tMeth (gA K "Wheel") "reset" (sp_Wheel_reset K) [] E0 (tOp (mIx K) (mVar 2) (mVar 5)) tNil)) (tAsg (tLst (tCons (tC (.int 0)) (tCons (tC (.bl false)) tNil))) (gSub (mVar 3) (mVar 5) mSet))) (tSeq (tAsg (tCall (sp_law_value K) [] E0 (tCons (tOp mDivG (mVar 4) (tC (.int 14))) (tCons (mVar 6) (tCons (tOp (mIx K) (tOp (mIx K) (mVar 3) (mVar 5)) (tC (.int 0))) tNil)))) (gName 7)) (tSeq (tDrop (tMeth (gA K "Wheel") "rise" (sp_Wheel_rise K) [] E0 (tOp (mIx K) (mVar 2) (mVar 5)) (tCons (mVar 7) tNil))) (tSeq (tAsg (tOp mAdd (tOp (mIx K) (tOp (mIx K) (mVar 3) (mVar 5)) (tC (.int 0))) (mVar 7)) (gName 8)) (tAsg (tLst (tCons (tOp mMod (mVar 8) (mVar 6)) (tCons (mOrV (tOp (mIx K) (tOp (mIx K) (mVar 3) (mVar 5)) (tC (.int 1))) (tOp mGe (mVar 8) (mVar 6))) tNil))) (gSub (mVar 3) (mVar 5) mSet)))))) (tFor (mRng1 (tCons (tC (.int 2)) tNil)) (gName 9) (mIfS (tNot (mTest (tCall (sp_law_good K) [] E0 (tCons (tOp (mIx K) (mVar 2) (mVar 9)) (tCons (tOp (mIx K) (mVar 3) (mVar 9)) (tCons (tOp (mIx K) (mVar 1) (mVar 9)) (tCons (tOp mMod (tOp mDivG (mVar 4) (tC (.int 28))) (tC (.int 3))) tNil))))))) (tRet (tC (.bl false))) tNext)))))) (tRet (mAndV (tCall (sp_law_good K) [] E0 (tCons (tOp (mIx K) (mVar 2) (tC (.int 0))) (tCons (tOp (mIx K) (mVar 3) (tC (.int 0))) (tCons (tOp (mIx K) (mVar 1) (tC (.int 0))) (tCons (tC (.int 0)) tNil))))) (tCall (sp_law_good K) [] E0 (tCons (tOp (mIx K) (mVar 2) (tC (.int 1))) (tCons (tOp (mIx K) (mVar 3) (tC (.int 1))) (tCons (tOp (mIx K) (mVar 1) (tC (.int 1))) (tCons (tC (.int 2)) tNil)))))))))))
abbrev RD_law (K : PySem.W.Frag) : Prop := ∀ vs H Q E, sp_law K vs H Q E → t_law K { nx := fun _ H' => Q .non H', rt := Q } (start ["_law_script", "_law_figures", "_law_wheels", "_law_kept", "_law_cell", "_law_who", "_law_full", "_law_value_here", "_law_total", "_law_k"] vs) H
theorem len_law {K : PySem.W.Frag} : ∀ vs H Q E, sp_law K vs H Q E → vs.length = 1 := by
  intro vs H Q E h; obtain ⟨a, ns, rfl, _⟩ := h; rfl
end K31
namespace K31
open PySem PySem.Spec PyProof.Rows L2
section
variable {P : Program} {w : World} {K : PySem.W.Frag} {mg : Str → Option Value} {base : Heap}
theorem sc_ten_to : FnScope ["power", "value", "step"] ["power"] (defScope s_ten_to) := ⟨rfl, rfl, rfl, by decide +kernel, rfl, by decide +kernel, by decide +kernel⟩
theorem tm_ten_to (B_range : Gb mg "range") {cdv : Value} {A : Around} {outer : List Env} {s : Shared} {H : Hp} {E : XK} {f : Addr} (hr : Room 0 (A.deeper (envOfC "ten_to" (defScope s_ten_to) s.heap.objs.size f cdv))) :
    (PSs (cxOf CX0 P w K mg base ["power", "value", "step"] "ten_to" (defScope s_ten_to) f cdv A outer s H E).nox (defBody s_ten_to) (t_ten_to K)) := 
  (pss_cons (ps_set (i := 1) sc_ten_to.nd rfl (by first | exact Or.inl rfl | exact Or.inr rfl) pe_int) (pss_cons (ps_for PassesOwn.never rfl (pi_rngM1 B_range (pa_cons (pe_mvar 0) pa_nil)) (pg_name (i := 2) sc_ten_to.nd rfl (by first | exact Or.inl rfl | exact Or.inr rfl)) (pss_one (ps_set (i := 1) sc_ten_to.nd rfl (by first | exact Or.inl rfl | exact Or.inr rfl) (pe_op op_mulX (pe_mvar 1) pe_int)))) (pss_one (ps_ret (pe_mvar 1)))))
theorem ok_ten_to (B_range : Gb mg "range") {f : Addr} {fd : FuncData} (F : Fun K "ten_to" "ten_to" s_ten_to f fd) (len : ∀ vs H Q E, sp_ten_to K vs H Q E → vs.length = 1)
    (rd : ∀ vs H Q E, sp_ten_to K vs H Q E → t_ten_to K { nx := fun _ H' => Q .non H', rt := Q } (start ["power", "value", "step"] vs) H) : FnOk P w K mg base CX0 1 f fd ["power"] (sp_ten_to K) := by
  refine F.ok sc_ten_to len (fun cdv A outer s H vs Q E hr h => ⟨_, tm_ten_to B_range hr, rd vs H Q E h⟩)
theorem sc_Wheel___init__ : FnScope ["self", "figures"] ["self", "figures"] (defScope s_Wheel___init__) := ⟨rfl, rfl, rfl, by decide +kernel, rfl, by decide +kernel, by decide +kernel⟩
theorem tm_Wheel___init__ (G_ten_to : Gd P w K mg base CX0 1 "ten_to" ["power"] (sp_ten_to K)) (CL_Wheel : Cls K (gA K "Wheel")) (NA_Wheel_figures : NoAttr K (gA K "Wheel") "figures") (NA_Wheel_power : NoAttr K (gA K "Wheel") "power") (NA_Wheel_kept : NoAttr K (gA K "Wheel") "kept") (NA_Wheel_over : NoAttr K (gA K "Wheel") "over") {cdv : Value} {A : Around} {outer : List Env} {s : Shared} {H : Hp} {E : XK} {f : Addr} (hr : Room 1 (A.deeper (envOfC "Wheel.__init__" (defScope s_Wheel___init__) s.heap.objs.size f cdv))) :
    (PSs (cxOf CX0 P w K mg base ["self", "figures"] "Wheel.__init__" (defScope s_Wheel___init__) f cdv A outer s H E).nox (defBody s_Wheel___init__) (t_Wheel___init__ K)) := 
  (pss_cons (ps_fldC CL_Wheel NA_Wheel_figures (pe_mvar 0) (pe_mvar 1)) (pss_cons (ps_fldC CL_Wheel NA_Wheel_power (pe_mvar 0) (pe_callG G_ten_to (hr.mono (j := 1) (by decide)) (pa_cons (pe_mvar 1) pa_nil))) (pss_cons (ps_fldC CL_Wheel NA_Wheel_kept (pe_mvar 0) pe_int) (pss_one (ps_fldC CL_Wheel NA_Wheel_over (pe_mvar 0) pe_bl)))))
theorem ok_Wheel___init__ (G_ten_to : Gd P w K mg base CX0 1 "ten_to" ["power"] (sp_ten_to K)) (CL_Wheel : Cls K (gA K "Wheel")) (NA_Wheel_figures : NoAttr K (gA K "Wheel") "figures") (NA_Wheel_power : NoAttr K (gA K "Wheel") "power") (NA_Wheel_kept : NoAttr K (gA K "Wheel") "kept") (NA_Wheel_over : NoAttr K (gA K "Wheel") "over") {f : Addr} {fd : FuncData} (F : Fun K "__init__" "Wheel.__init__" s_Wheel___init__ f fd) (len : ∀ vs H Q E, sp_Wheel___init__ K vs H Q E → vs.length = 2)
    (rd : ∀ vs H Q E, sp_Wheel___init__ K vs H Q E → t_Wheel___init__ K { nx := fun _ H' => Q .non H', rt := Q } (start ["self", "figures"] vs) H) : FnOk P w K mg base CX0 2 f fd ["self", "figures"] (sp_Wheel___init__ K) := by
  refine F.ok sc_Wheel___init__ len (fun cdv A outer s H vs Q E hr h => ⟨_, tm_Wheel___init__ G_ten_to CL_Wheel NA_Wheel_figures NA_Wheel_power NA_Wheel_kept NA_Wheel_over hr, rd vs H Q E h⟩)
theorem sc_law_power : FnScope ["_law_many", "_law_number", "_law_k"] ["_law_many"] (defScope s_law_power) := ⟨rfl, rfl, rfl, by decide +kernel, rfl, by decide +kernel, by decide +kernel⟩
theorem tm_law_power (B_range : Gb mg "range") {cdv : Value} {A : Around} {outer : List Env} {s : Shared} {H : Hp} {E : XK} {f : Addr} (hr : Room 0 (A.deeper (envOfC "_law_power" (defScope s_law_power) s.heap.objs.size f cdv))) :
    (PSs (cxOf CX0 P w K mg base ["_law_many", "_law_number", "_law_k"] "_law_power" (defScope s_law_power) f cdv A outer s H E).nox (defBody s_law_power) (t_law_power K)) := 
  (pss_cons (ps_set (i := 1) sc_law_power.nd rfl (by first | exact Or.inl rfl | exact Or.inr rfl) pe_int) (pss_cons (ps_for PassesOwn.never rfl (pi_rngM1 B_range (pa_cons (pe_mvar 0) pa_nil)) (pg_name (i := 2) sc_law_power.nd rfl (by first | exact Or.inl rfl | exact Or.inr rfl)) (pss_one (ps_set (i := 1) sc_law_power.nd rfl (by first | exact Or.inl rfl | exact Or.inr rfl) (pe_op op_mulX pe_int (pe_mvar 1))))) (pss_one (ps_ret (pe_mvar 1)))))
theorem ok_law_power (B_range : Gb mg "range") {f : Addr} {fd : FuncData} (F : Fun K "_law_power" "_law_power" s_law_power f fd) (len : ∀ vs H Q E, sp_law_power K vs H Q E → vs.length = 1)
    (rd : ∀ vs H Q E, sp_law_power K vs H Q E → t_law_power K { nx := fun _ H' => Q .non H', rt := Q } (start ["_law_many", "_law_number", "_law_k"] vs) H) : FnOk P w K mg base CX0 1 f fd ["_law_many"] (sp_law_power K) := by
  refine F.ok sc_law_power len (fun cdv A outer s H vs Q E hr h => ⟨_, tm_law_power B_range hr, rd vs H Q E h⟩)
theorem sc_Wheel_reset : FnScope ["self"] ["self"] (defScope s_Wheel_reset) := ⟨rfl, rfl, rfl, by decide +kernel, rfl, by decide +kernel, by decide +kernel⟩
theorem tm_Wheel_reset (CL_Wheel : Cls K (gA K "Wheel")) (NA_Wheel_kept : NoAttr K (gA K "Wheel") "kept") (NA_Wheel_over : NoAttr K (gA K "Wheel") "over") {cdv : Value} {A : Around} {outer : List Env} {s : Shared} {H : Hp} {E : XK} {f : Addr} (hr : Room 0 (A.deeper (envOfC "Wheel.reset" (defScope s_Wheel_reset) s.heap.objs.size f cdv))) :
    (PSs (cxOf CX0 P w K mg base ["self"] "Wheel.reset" (defScope s_Wheel_reset) f cdv A outer s H E).nox (defBody s_Wheel_reset) (t_Wheel_reset K)) := 
  (pss_cons (ps_fldC CL_Wheel NA_Wheel_kept (pe_mvar 0) pe_int) (pss_one (ps_fldC CL_Wheel NA_Wheel_over (pe_mvar 0) pe_bl)))
theorem ok_Wheel_reset (CL_Wheel : Cls K (gA K "Wheel")) (NA_Wheel_kept : NoAttr K (gA K "Wheel") "kept") (NA_Wheel_over : NoAttr K (gA K "Wheel") "over") {f : Addr} {fd : FuncData} (F : Fun K "reset" "Wheel.reset" s_Wheel_reset f fd) (len : ∀ vs H Q E, sp_Wheel_reset K vs H Q E → vs.length = 1)
    (rd : ∀ vs H Q E, sp_Wheel_reset K vs H Q E → t_Wheel_reset K { nx := fun _ H' => Q .non H', rt := Q } (start ["self"] vs) H) : FnOk P w K mg base CX0 1 f fd ["self"] (sp_Wheel_reset K) := by
  refine F.ok sc_Wheel_reset len (fun cdv A outer s H vs Q E hr h => ⟨_, tm_Wheel_reset CL_Wheel NA_Wheel_kept NA_Wheel_over hr, rd vs H Q E h⟩)
theorem sc_Wheel_rise : FnScope ["self", "value", "risen"] ["self", "value"] (defScope s_Wheel_rise) := ⟨rfl, rfl, rfl, by decide +kernel, rfl, by decide +kernel, by decide +kernel⟩
theorem tm_Wheel_rise (CL_Wheel : Cls K (gA K "Wheel")) (NA_Wheel_kept : NoAttr K (gA K "Wheel") "kept") (NA_Wheel_power : NoAttr K (gA K "Wheel") "power") (NA_Wheel_over : NoAttr K (gA K "Wheel") "over") {cdv : Value} {A : Around} {outer : List Env} {s : Shared} {H : Hp} {E : XK} {f : Addr} (hr : Room 0 (A.deeper (envOfC "Wheel.rise" (defScope s_Wheel_rise) s.heap.objs.size f cdv))) :
    (PSs (cxOf CX0 P w K mg base ["self", "value", "risen"] "Wheel.rise" (defScope s_Wheel_rise) f cdv A outer s H E).nox (defBody s_Wheel_rise) (t_Wheel_rise K)) := 
  (pss_cons (ps_set (i := 2) sc_Wheel_rise.nd rfl (by first | exact Or.inl rfl | exact Or.inr rfl) (pe_op op_addM (pe_fldC CL_Wheel NA_Wheel_kept (pe_mvar 0)) (pe_mvar 1))) (pss_cons (ps_ifM (pt_cmpM op_geM (pe_mvar 2) (pe_fldC CL_Wheel NA_Wheel_power (pe_mvar 0))) (pss_one (ps_fldC CL_Wheel NA_Wheel_over (pe_mvar 0) pe_bl)) pss_nil) (pss_one (ps_fldC CL_Wheel NA_Wheel_kept (pe_mvar 0) (pe_op op_modM (pe_mvar 2) (pe_fldC CL_Wheel NA_Wheel_power (pe_mvar 0)))))))
theorem ok_Wheel_rise (CL_Wheel : Cls K (gA K "Wheel")) (NA_Wheel_kept : NoAttr K (gA K "Wheel") "kept") (NA_Wheel_power : NoAttr K (gA K "Wheel") "power") (NA_Wheel_over : NoAttr K (gA K "Wheel") "over") {f : Addr} {fd : FuncData} (F : Fun K "rise" "Wheel.rise" s_Wheel_rise f fd) (len : ∀ vs H Q E, sp_Wheel_rise K vs H Q E → vs.length = 2)
    (rd : ∀ vs H Q E, sp_Wheel_rise K vs H Q E → t_Wheel_rise K { nx := fun _ H' => Q .non H', rt := Q } (start ["self", "value", "risen"] vs) H) : FnOk P w K mg base CX0 1 f fd ["self", "value"] (sp_Wheel_rise K) := by
  refine F.ok sc_Wheel_rise len (fun cdv A outer s H vs Q E hr h => ⟨_, tm_Wheel_rise CL_Wheel NA_Wheel_kept NA_Wheel_power NA_Wheel_over hr, rd vs H Q E h⟩)
theorem sc_Wheel_amount : FnScope ["self"] ["self"] (defScope s_Wheel_amount) := ⟨rfl, rfl, rfl, by decide +kernel, rfl, by decide +kernel, by decide +kernel⟩
theorem tm_Wheel_amount (CL_Wheel : Cls K (gA K "Wheel")) (NA_Wheel_kept : NoAttr K (gA K "Wheel") "kept") {cdv : Value} {A : Around} {outer : List Env} {s : Shared} {H : Hp} {E : XK} {f : Addr} (hr : Room 0 (A.deeper (envOfC "Wheel.amount" (defScope s_Wheel_amount) s.heap.objs.size f cdv))) :
    (PSs (cxOf CX0 P w K mg base ["self"] "Wheel.amount" (defScope s_Wheel_amount) f cdv A outer s H E).nox (defBody s_Wheel_amount) (t_Wheel_amount K)) := 
  (pss_one (ps_ret (pe_fldC CL_Wheel NA_Wheel_kept (pe_mvar 0))))
theorem ok_Wheel_amount (CL_Wheel : Cls K (gA K "Wheel")) (NA_Wheel_kept : NoAttr K (gA K "Wheel") "kept") {f : Addr} {fd : FuncData} (F : Fun K "amount" "Wheel.amount" s_Wheel_amount f fd) (len : ∀ vs H Q E, sp_Wheel_amount K vs H Q E → vs.length = 1)
    (rd : ∀ vs H Q E, sp_Wheel_amount K vs H Q E → t_Wheel_amount K { nx := fun _ H' => Q .non H', rt := Q } (start ["self"] vs) H) : FnOk P w K mg base CX0 1 f fd ["self"] (sp_Wheel_amount K) := by
  refine F.ok sc_Wheel_amount len (fun cdv A outer s H vs Q E hr h => ⟨_, tm_Wheel_amount CL_Wheel NA_Wheel_kept hr, rd vs H Q E h⟩)
theorem sc_Wheel_shown : FnScope ["self"] ["self"] (defScope s_Wheel_shown) := ⟨rfl, rfl, rfl, by decide +kernel, rfl, by decide +kernel, by decide +kernel⟩
theorem tm_Wheel_shown (B_str : Gb mg "str") (CL_Wheel : Cls K (gA K "Wheel")) (NA_Wheel_kept : NoAttr K (gA K "Wheel") "kept") (NA_Wheel_figures : NoAttr K (gA K "Wheel") "figures") {cdv : Value} {A : Around} {outer : List Env} {s : Shared} {H : Hp} {E : XK} {f : Addr} (hr : Room 0 (A.deeper (envOfC "Wheel.shown" (defScope s_Wheel_shown) s.heap.objs.size f cdv))) :
    (PSs (cxOf CX0 P w K mg base ["self"] "Wheel.shown" (defScope s_Wheel_shown) f cdv A outer s H E).nox (defBody s_Wheel_shown) (t_Wheel_shown K)) := 
  (pss_one (ps_ret (pe_sm PySem.F.slot_str_zfill PySem.F.type_str_zfill mt_zfill (pe_tf "str" call_strM B_str (pa_cons (pe_fldC CL_Wheel NA_Wheel_kept (pe_mvar 0)) pa_nil)) (pa_cons (pe_fldC CL_Wheel NA_Wheel_figures (pe_mvar 0)) pa_nil))))
theorem ok_Wheel_shown (B_str : Gb mg "str") (CL_Wheel : Cls K (gA K "Wheel")) (NA_Wheel_kept : NoAttr K (gA K "Wheel") "kept") (NA_Wheel_figures : NoAttr K (gA K "Wheel") "figures") {f : Addr} {fd : FuncData} (F : Fun K "shown" "Wheel.shown" s_Wheel_shown f fd) (len : ∀ vs H Q E, sp_Wheel_shown K vs H Q E → vs.length = 1)
    (rd : ∀ vs H Q E, sp_Wheel_shown K vs H Q E → t_Wheel_shown K { nx := fun _ H' => Q .non H', rt := Q } (start ["self"] vs) H) : FnOk P w K mg base CX0 1 f fd ["self"] (sp_Wheel_shown K) := by
  refine F.ok sc_Wheel_shown len (fun cdv A outer s H vs Q E hr h => ⟨_, tm_Wheel_shown B_str CL_Wheel NA_Wheel_kept NA_Wheel_figures hr, rd vs H Q E h⟩)
theorem sc_Wheel_ran_over : FnScope ["self"] ["self"] (defScope s_Wheel_ran_over) := ⟨rfl, rfl, rfl, by decide +kernel, rfl, by decide +kernel, by decide +kernel⟩
theorem tm_Wheel_ran_over (CL_Wheel : Cls K (gA K "Wheel")) (NA_Wheel_over : NoAttr K (gA K "Wheel") "over") {cdv : Value} {A : Around} {outer : List Env} {s : Shared} {H : Hp} {E : XK} {f : Addr} (hr : Room 0 (A.deeper (envOfC "Wheel.ran_over" (defScope s_Wheel_ran_over) s.heap.objs.size f cdv))) :
    (PSs (cxOf CX0 P w K mg base ["self"] "Wheel.ran_over" (defScope s_Wheel_ran_over) f cdv A outer s H E).nox (defBody s_Wheel_ran_over) (t_Wheel_ran_over K)) := 
  (pss_one (ps_ret (pe_fldC CL_Wheel NA_Wheel_over (pe_mvar 0))))
theorem ok_Wheel_ran_over (CL_Wheel : Cls K (gA K "Wheel")) (NA_Wheel_over : NoAttr K (gA K "Wheel") "over") {f : Addr} {fd : FuncData} (F : Fun K "ran_over" "Wheel.ran_over" s_Wheel_ran_over f fd) (len : ∀ vs H Q E, sp_Wheel_ran_over K vs H Q E → vs.length = 1)
    (rd : ∀ vs H Q E, sp_Wheel_ran_over K vs H Q E → t_Wheel_ran_over K { nx := fun _ H' => Q .non H', rt := Q } (start ["self"] vs) H) : FnOk P w K mg base CX0 1 f fd ["self"] (sp_Wheel_ran_over K) := by
  refine F.ok sc_Wheel_ran_over len (fun cdv A outer s H vs Q E hr h => ⟨_, tm_Wheel_ran_over CL_Wheel NA_Wheel_over hr, rd vs H Q E h⟩)
theorem sc_law_whole : FnScope ["_law_found"] ["_law_found"] (defScope s_law_whole) := ⟨rfl, rfl, rfl, by decide +kernel, rfl, by decide +kernel, by decide +kernel⟩
theorem tm_law_whole (B_isinstance : Gb mg "isinstance") (B_int : Gb mg "int") (B_bool : Gb mg "bool") {cdv : Value} {A : Around} {outer : List Env} {s : Shared} {H : Hp} {E : XK} {f : Addr} (hr : Room 0 (A.deeper (envOfC "_law_whole" (defScope s_law_whole) s.heap.objs.size f cdv))) :
    (PSs (cxOf CX0 P w K mg base ["_law_found"] "_law_whole" (defScope s_law_whole) f cdv A outer s H E).nox (defBody s_law_whole) (t_law_whole K)) := 
  (pss_one (ps_ret (pe_andM (pe_bf call_isa B_isinstance (pa_cons (pe_mvar 0) (pa_cons (pe_ty "int" B_int) pa_nil))) (pe_one (pe_notM (pe_bf call_isa B_isinstance (pa_cons (pe_mvar 0) (pa_cons (pe_ty "bool" B_bool) pa_nil))))))))
theorem ok_law_whole (B_isinstance : Gb mg "isinstance") (B_int : Gb mg "int") (B_bool : Gb mg "bool") {f : Addr} {fd : FuncData} (F : Fun K "_law_whole" "_law_whole" s_law_whole f fd) (len : ∀ vs H Q E, sp_law_whole K vs H Q E → vs.length = 1)
    (rd : ∀ vs H Q E, sp_law_whole K vs H Q E → t_law_whole K { nx := fun _ H' => Q .non H', rt := Q } (start ["_law_found"] vs) H) : FnOk P w K mg base CX0 1 f fd ["_law_found"] (sp_law_whole K) := by
  refine F.ok sc_law_whole len (fun cdv A outer s H vs Q E hr h => ⟨_, tm_law_whole B_isinstance B_int B_bool hr, rd vs H Q E h⟩)
theorem sc_law_shown : FnScope ["_law_number", "_law_figures", "_law_found", "_law_k"] ["_law_number", "_law_figures"] (defScope s_law_shown) := ⟨rfl, rfl, rfl, by decide +kernel, rfl, by decide +kernel, by decide +kernel⟩
theorem tm_law_shown (B_range : Gb mg "range") {cdv : Value} {A : Around} {outer : List Env} {s : Shared} {H : Hp} {E : XK} {f : Addr} (hr : Room 0 (A.deeper (envOfC "_law_shown" (defScope s_law_shown) s.heap.objs.size f cdv))) :
    (PSs (cxOf CX0 P w K mg base ["_law_number", "_law_figures", "_law_found", "_law_k"] "_law_shown" (defScope s_law_shown) f cdv A outer s H E).nox (defBody s_law_shown) (t_law_shown K)) := 
  (pss_cons (ps_set (i := 2) sc_law_shown.nd rfl (by first | exact Or.inl rfl | exact Or.inr rfl) (pe_txt (l := []))) (pss_cons (ps_for PassesOwn.never rfl (pi_rngM1 B_range (pa_cons (pe_mvar 1) pa_nil)) (pg_name (i := 3) sc_law_shown.nd rfl (by first | exact Or.inl rfl | exact Or.inr rfl)) (pss_cons (ps_set (i := 2) sc_law_shown.nd rfl (by first | exact Or.inl rfl | exact Or.inr rfl) (pe_op op_addM (pe_ix ix_M (pe_txt (l := [48, 49, 50, 51, 52, 53, 54, 55, 56, 57])) (pe_op op_modM (pe_mvar 0) pe_int) (fun _ _ => rfl)) (pe_mvar 2))) (pss_one (ps_set (i := 0) sc_law_shown.nd rfl (by first | exact Or.inl rfl | exact Or.inr rfl) (pe_op op_divG (pe_mvar 0) pe_int))))) (pss_one (ps_ret (pe_mvar 2)))))
theorem ok_law_shown (B_range : Gb mg "range") {f : Addr} {fd : FuncData} (F : Fun K "_law_shown" "_law_shown" s_law_shown f fd) (len : ∀ vs H Q E, sp_law_shown K vs H Q E → vs.length = 2)
    (rd : ∀ vs H Q E, sp_law_shown K vs H Q E → t_law_shown K { nx := fun _ H' => Q .non H', rt := Q } (start ["_law_number", "_law_figures", "_law_found", "_law_k"] vs) H) : FnOk P w K mg base CX0 1 f fd ["_law_number", "_law_figures"] (sp_law_shown K) := by
  refine F.ok sc_law_shown len (fun cdv A outer s H vs Q E hr h => ⟨_, tm_law_shown B_range hr, rd vs H Q E h⟩)
theorem sc_law_good : FnScope ["_law_wheel", "_law_kept", "_law_figures", "_law_turn", "_law_k", "_law_asked", "_law_found"] ["_law_wheel", "_law_kept", "_law_figures", "_law_turn"] (defScope s_law_good) := ⟨rfl, rfl, rfl, by decide +kernel, rfl, by decide +kernel, by decide +kernel⟩
theorem tm_law_good (G_Wheel_amount : Gm P w K mg base CX0 1 (gA K "Wheel") "amount" ["self"] (sp_Wheel_amount K)) (G_law_whole : Gd P w K mg base CX0 1 "_law_whole" ["_law_found"] (sp_law_whole K)) (G_Wheel_shown : Gm P w K mg base CX0 1 (gA K "Wheel") "shown" ["self"] (sp_Wheel_shown K)) (G_law_shown : Gd P w K mg base CX0 1 "_law_shown" ["_law_number", "_law_figures"] (sp_law_shown K)) (G_Wheel_ran_over : Gm P w K mg base CX0 1 (gA K "Wheel") "ran_over" ["self"] (sp_Wheel_ran_over K)) (B_range : Gb mg "range") (B_isinstance : Gb mg "isinstance") (B_str : Gb mg "str") (B_bool : Gb mg "bool") {cdv : Value} {A : Around} {outer : List Env} {s : Shared} {H : Hp} {E : XK} {f : Addr} (hr : Room 1 (A.deeper (envOfC "_law_good" (defScope s_law_good) s.heap.objs.size f cdv))) :
    (PSs (cxOf CX0 P w K mg base ["_law_wheel", "_law_kept", "_law_figures", "_law_turn", "_law_k", "_law_asked", "_law_found"] "_law_good" (defScope s_law_good) f cdv A outer s H E).nox (defBody s_law_good) (t_law_good K)) := 
  (pss_cons (ps_for PassesOwn.never rfl (pi_rngM1 B_range (pa_cons pe_int pa_nil)) (pg_name (i := 4) sc_law_good.nd rfl (by first | exact Or.inl rfl | exact Or.inr rfl)) (pss_cons (ps_set (i := 5) sc_law_good.nd rfl (by first | exact Or.inl rfl | exact Or.inr rfl) (pe_op op_modM (pe_op op_addM (pe_mvar 3) (pe_mvar 4)) pe_int)) (pss_cons (ps_ifM (pt_cmpM (op_eqK hr.u60) (pe_mvar 5) pe_int) (pss_cons (ps_set (i := 6) sc_law_good.nd rfl (by first | exact Or.inl rfl | exact Or.inr rfl) (pe_methG0 G_Wheel_amount (hr.mono (j := 1) (by decide)) (pe_mvar 0))) (pss_one (ps_ifM (PW.pt (pw_orM (pt_not (pt_valM (pe_callG G_law_whole (hr.mono (j := 1) (by decide)) (pa_cons (pe_mvar 6) pa_nil)))) (pw_or1 (pt_cmpM (op_neK hr.u60) (pe_mvar 6) (pe_ix ix_M (pe_mvar 1) pe_int (fun _ _ => rfl)))))) (pss_one (ps_ret pe_bl)) pss_nil))) pss_nil) (pss_cons (ps_ifM (pt_cmpM (op_eqK hr.u60) (pe_mvar 5) pe_int) (pss_cons (ps_set (i := 6) sc_law_good.nd rfl (by first | exact Or.inl rfl | exact Or.inr rfl) (pe_methG0 G_Wheel_shown (hr.mono (j := 1) (by decide)) (pe_mvar 0))) (pss_one (ps_ifM (PW.pt (pw_orM (pt_not (pt_valM (pe_bf call_isa B_isinstance (pa_cons (pe_mvar 6) (pa_cons (pe_ty "str" B_str) pa_nil))))) (pw_or1 (pt_cmpM (op_neK hr.u60) (pe_mvar 6) (pe_callG G_law_shown (hr.mono (j := 1) (by decide)) (pa_cons (pe_ix ix_M (pe_mvar 1) pe_int (fun _ _ => rfl)) (pa_cons (pe_mvar 2) pa_nil))))))) (pss_one (ps_ret pe_bl)) pss_nil))) pss_nil) (pss_one (ps_ifM (pt_cmpM (op_eqK hr.u60) (pe_mvar 5) pe_int) (pss_cons (ps_set (i := 6) sc_law_good.nd rfl (by first | exact Or.inl rfl | exact Or.inr rfl) (pe_methG0 G_Wheel_ran_over (hr.mono (j := 1) (by decide)) (pe_mvar 0))) (pss_one (ps_ifM (PW.pt (pw_orM (pt_not (pt_valM (pe_bf call_isa B_isinstance (pa_cons (pe_mvar 6) (pa_cons (pe_ty "bool" B_bool) pa_nil))))) (pw_or1 (pt_cmpM (op_neK hr.u60) (pe_mvar 6) (pe_ix ix_M (pe_mvar 1) pe_int (fun _ _ => rfl)))))) (pss_one (ps_ret pe_bl)) pss_nil))) pss_nil)))))) (pss_one (ps_ret pe_bl)))
theorem ok_law_good (G_Wheel_amount : Gm P w K mg base CX0 1 (gA K "Wheel") "amount" ["self"] (sp_Wheel_amount K)) (G_law_whole : Gd P w K mg base CX0 1 "_law_whole" ["_law_found"] (sp_law_whole K)) (G_Wheel_shown : Gm P w K mg base CX0 1 (gA K "Wheel") "shown" ["self"] (sp_Wheel_shown K)) (G_law_shown : Gd P w K mg base CX0 1 "_law_shown" ["_law_number", "_law_figures"] (sp_law_shown K)) (G_Wheel_ran_over : Gm P w K mg base CX0 1 (gA K "Wheel") "ran_over" ["self"] (sp_Wheel_ran_over K)) (B_range : Gb mg "range") (B_isinstance : Gb mg "isinstance") (B_str : Gb mg "str") (B_bool : Gb mg "bool") {f : Addr} {fd : FuncData} (F : Fun K "_law_good" "_law_good" s_law_good f fd) (len : ∀ vs H Q E, sp_law_good K vs H Q E → vs.length = 4)
    (rd : ∀ vs H Q E, sp_law_good K vs H Q E → t_law_good K { nx := fun _ H' => Q .non H', rt := Q } (start ["_law_wheel", "_law_kept", "_law_figures", "_law_turn", "_law_k", "_law_asked", "_law_found"] vs) H) : FnOk P w K mg base CX0 2 f fd ["_law_wheel", "_law_kept", "_law_figures", "_law_turn"] (sp_law_good K) := by
  refine F.ok sc_law_good len (fun cdv A outer s H vs Q E hr h => ⟨_, tm_law_good G_Wheel_amount G_law_whole G_Wheel_shown G_law_shown G_Wheel_ran_over B_range B_isinstance B_str B_bool hr, rd vs H Q E h⟩)
theorem sc_law_value : FnScope ["_law_cell", "_law_full", "_law_kept", "_law_some"] ["_law_cell", "_law_full", "_law_kept"] (defScope s_law_value) := ⟨rfl, rfl, rfl, by decide +kernel, rfl, by decide +kernel, by decide +kernel⟩
theorem tm_law_value  {cdv : Value} {A : Around} {outer : List Env} {s : Shared} {H : Hp} {E : XK} {f : Addr} (hr : Room 0 (A.deeper (envOfC "_law_value" (defScope s_law_value) s.heap.objs.size f cdv))) :
    (PSs (cxOf CX0 P w K mg base ["_law_cell", "_law_full", "_law_kept", "_law_some"] "_law_value" (defScope s_law_value) f cdv A outer s H E).nox (defBody s_law_value) (t_law_value K)) := 
  (pss_cons (ps_ifM (pt_cmpM (op_eqK hr.u60) (pe_op op_modM (pe_mvar 0) pe_int) pe_int) (pss_one (ps_ret (pe_op op_modM (pe_op op_divG (pe_mvar 0) pe_int) pe_int))) pss_nil) (pss_cons (ps_ifM (pt_cmpM (op_eqK hr.u60) (pe_op op_modM (pe_mvar 0) pe_int) pe_int) (pss_cons (ps_set (i := 3) sc_law_value.nd rfl (by first | exact Or.inl rfl | exact Or.inr rfl) (pe_lst (pa_cons pe_int (pa_cons pe_int (pa_cons pe_int (pa_cons (pe_op op_subM (pe_mvar 1) pe_int) (pa_cons (pe_mvar 1) (pa_cons (pe_op op_addM (pe_mvar 1) pe_int) (pa_cons (pe_op op_subM (pe_mvar 1) (pe_mvar 2)) (pa_cons (pe_op op_subM (pe_op op_subM (pe_mvar 1) pe_int) (pe_mvar 2)) pa_nil)))))))))) (pss_one (ps_ret (pe_ix ix_M (pe_mvar 3) (pe_op op_modM (pe_op op_divG (pe_mvar 0) pe_int) pe_int) (fun _ _ => rfl))))) pss_nil) (pss_one (ps_ret (pe_op op_modM (pe_op op_divG (pe_mvar 0) pe_int) (pe_op op_powM pe_int pe_int))))))
theorem ok_law_value  {f : Addr} {fd : FuncData} (F : Fun K "_law_value" "_law_value" s_law_value f fd) (len : ∀ vs H Q E, sp_law_value K vs H Q E → vs.length = 3)
    (rd : ∀ vs H Q E, sp_law_value K vs H Q E → t_law_value K { nx := fun _ H' => Q .non H', rt := Q } (start ["_law_cell", "_law_full", "_law_kept", "_law_some"] vs) H) : FnOk P w K mg base CX0 1 f fd ["_law_cell", "_law_full", "_law_kept"] (sp_law_value K) := by
  refine F.ok sc_law_value len (fun cdv A outer s H vs Q E hr h => ⟨_, tm_law_value  hr, rd vs H Q E h⟩)
theorem sc_law_cell_at : FnScope ["_law_script", "_law_k"] ["_law_script", "_law_k"] (defScope s_law_cell_at) := ⟨rfl, rfl, rfl, by decide +kernel, rfl, by decide +kernel, by decide +kernel⟩
theorem tm_law_cell_at (B_len : Gb mg "len") {cdv : Value} {A : Around} {outer : List Env} {s : Shared} {H : Hp} {E : XK} {f : Addr} (hr : Room 0 (A.deeper (envOfC "_law_cell_at" (defScope s_law_cell_at) s.heap.objs.size f cdv))) :
    (PSs (cxOf CX0 P w K mg base ["_law_script", "_law_k"] "_law_cell_at" (defScope s_law_cell_at) f cdv A outer s H E).nox (defBody s_law_cell_at) (t_law_cell_at K)) := 
  (pss_cons (ps_ifM (pt_cmpM (op_ltK hr.u60) (pe_mvar 1) (pe_bf call_lenM B_len (pa_cons (pe_mvar 0) pa_nil))) (pss_one (ps_ret (pe_ix ix_M (pe_mvar 0) (pe_mvar 1) (fun _ _ => rfl)))) pss_nil) (pss_one (ps_ret pe_int)))
theorem ok_law_cell_at (B_len : Gb mg "len") {f : Addr} {fd : FuncData} (F : Fun K "_law_cell_at" "_law_cell_at" s_law_cell_at f fd) (len : ∀ vs H Q E, sp_law_cell_at K vs H Q E → vs.length = 2)
    (rd : ∀ vs H Q E, sp_law_cell_at K vs H Q E → t_law_cell_at K { nx := fun _ H' => Q .non H', rt := Q } (start ["_law_script", "_law_k"] vs) H) : FnOk P w K mg base CX0 1 f fd ["_law_script", "_law_k"] (sp_law_cell_at K) := by
  refine F.ok sc_law_cell_at len (fun cdv A outer s H vs Q E hr h => ⟨_, tm_law_cell_at B_len hr, rd vs H Q E h⟩)
theorem sc_law : FnScope ["_law_script", "_law_figures", "_law_wheels", "_law_kept", "_law_cell", "_law_who", "_law_full", "_law_value_here", "_law_total", "_law_k"] ["_law_script"] (defScope s_law) := ⟨rfl, rfl, rfl, by decide +kernel, rfl, by decide +kernel, by decide +kernel⟩
theorem tm_law (G_law_cell_at : Gd P w K mg base CX0 1 "_law_cell_at" ["_law_script", "_law_k"] (sp_law_cell_at K)) (G_Wheel___init__ : Gk P w K mg base CX0 2 "Wheel" (gA K "Wheel") ["self", "figures"] (sp_Wheel___init__ K)) (G_law_power : Gd P w K mg base CX0 1 "_law_power" ["_law_many"] (sp_law_power K)) (G_Wheel_reset : Gm P w K mg base CX0 1 (gA K "Wheel") "reset" ["self"] (sp_Wheel_reset K)) (G_law_value : Gd P w K mg base CX0 1 "_law_value" ["_law_cell", "_law_full", "_law_kept"] (sp_law_value K)) (G_Wheel_rise : Gm P w K mg base CX0 1 (gA K "Wheel") "rise" ["self", "value"] (sp_Wheel_rise K)) (G_law_good : Gd P w K mg base CX0 2 "_law_good" ["_law_wheel", "_law_kept", "_law_figures", "_law_turn"] (sp_law_good K)) (B_range : Gb mg "range") {cdv : Value} {A : Around} {outer : List Env} {s : Shared} {H : Hp} {E : XK} {f : Addr} (hr : Room 3 (A.deeper (envOfC "law" (defScope s_law) s.heap.objs.size f cdv))) :
    (PSs (cxOf CX0 P w K mg base ["_law_script", "_law_figures", "_law_wheels", "_law_kept", "_law_cell", "_law_who", "_law_full", "_law_value_here", "_law_total", "_law_k"] "law" (defScope s_law) f cdv A outer s H E).nox (defBody s_law) (t_law K)) := 
  (pss_cons (ps_set (i := 1) sc_law.nd rfl (by first | exact Or.inl rfl | exact Or.inr rfl) (pe_lst (pa_cons (pe_op op_addM pe_int (pe_op op_modM (pe_callG G_law_cell_at (hr.mono (j := 1) (by decide)) (pa_cons (pe_mvar 0) (pa_cons pe_int pa_nil))) pe_int)) (pa_cons (pe_op op_addM pe_int (pe_op op_modM (pe_callG G_law_cell_at (hr.mono (j := 1) (by decide)) (pa_cons (pe_mvar 0) (pa_cons pe_int pa_nil))) pe_int)) pa_nil)))) (pss_cons (ps_set (i := 2) sc_law.nd rfl (by first | exact Or.inl rfl | exact Or.inr rfl) (pe_lst (pa_cons (pe_makeG G_Wheel___init__ (hr.mono (j := 2 + 1) (by decide)) (pa_cons (pe_ix ix_M (pe_mvar 1) pe_int (fun _ _ => rfl)) pa_nil)) (pa_cons (pe_makeG G_Wheel___init__ (hr.mono (j := 2 + 1) (by decide)) (pa_cons (pe_ix ix_M (pe_mvar 1) pe_int (fun _ _ => rfl)) pa_nil)) pa_nil)))) (pss_cons (ps_set (i := 3) sc_law.nd rfl (by first | exact Or.inl rfl | exact Or.inr rfl) (pe_lst (pa_cons (pe_lst (pa_cons pe_int (pa_cons pe_bl pa_nil))) (pa_cons (pe_lst (pa_cons pe_int (pa_cons pe_bl pa_nil))) pa_nil)))) (pss_cons (ps_for PassesOwn.never rfl (pi_any (pe_slice sl_M (pe_mvar 0) (po_M pe_int) (po_M pe_int))) (pg_name (i := 4) sc_law.nd rfl (by first | exact Or.inl rfl | exact Or.inr rfl)) (pss_cons (ps_set (i := 5) sc_law.nd rfl (by first | exact Or.inl rfl | exact Or.inr rfl) (pe_op op_modM (pe_mvar 4) pe_int)) (pss_cons (ps_set (i := 6) sc_law.nd rfl (by first | exact Or.inl rfl | exact Or.inr rfl) (pe_callG G_law_power (hr.mono (j := 1) (by decide)) (pa_cons (pe_ix ix_M (pe_mvar 1) (pe_mvar 5) (fun _ _ => rfl)) pa_nil))) (pss_cons (ps_ifM (pt_cmpM (op_eqK hr.u60) (pe_op op_modM (pe_op op_divG (pe_mvar 4) pe_int) pe_int) pe_int) (pss_cons (ps_expr (pe_methG0 G_Wheel_reset (hr.mono (j := 1) (by decide)) (pe_ix ix_M (pe_mvar 2) (pe_mvar 5) (fun _ _ => rfl)))) (pss_one (ps_asg (pe_lst (pa_cons pe_int (pa_cons pe_bl pa_nil))) (pg_sub (pe_mvar 3) (pe_mvar 5) set_M)))) (pss_cons (ps_set (i := 7) sc_law.nd rfl (by first | exact Or.inl rfl | exact Or.inr rfl) (pe_callG G_law_value (hr.mono (j := 1) (by decide)) (pa_cons (pe_op op_divG (pe_mvar 4) pe_int) (pa_cons (pe_mvar 6) (pa_cons (pe_ix ix_M (pe_ix ix_M (pe_mvar 3) (pe_mvar 5) (fun _ _ => rfl)) pe_int (fun _ _ => rfl)) pa_nil))))) (pss_cons (ps_expr (pe_methG G_Wheel_rise (hr.mono (j := 1) (by decide)) (pe_ix ix_M (pe_mvar 2) (pe_mvar 5) (fun _ _ => rfl)) (pa_cons (pe_mvar 7) pa_nil))) (pss_cons (ps_set (i := 8) sc_law.nd rfl (by first | exact Or.inl rfl | exact Or.inr rfl) (pe_op op_addM (pe_ix ix_M (pe_ix ix_M (pe_mvar 3) (pe_mvar 5) (fun _ _ => rfl)) pe_int (fun _ _ => rfl)) (pe_mvar 7))) (pss_one (ps_asg (pe_lst (pa_cons (pe_op op_modM (pe_mvar 8) (pe_mvar 6)) (pa_cons (pe_orM (pe_ix ix_M (pe_ix ix_M (pe_mvar 3) (pe_mvar 5) (fun _ _ => rfl)) pe_int (fun _ _ => rfl)) (pe_one (pe_cmpM op_geM (pe_mvar 8) (pe_mvar 6)))) pa_nil))) (pg_sub (pe_mvar 3) (pe_mvar 5) set_M))))))) (pss_one (ps_for PassesOwn.never rfl (pi_rngM1 B_range (pa_cons pe_int pa_nil)) (pg_name (i := 9) sc_law.nd rfl (by first | exact Or.inl rfl | exact Or.inr rfl)) (pss_one (ps_ifM (pt_not (pt_valM (pe_callG G_law_good (hr.mono (j := 2) (by decide)) (pa_cons (pe_ix ix_M (pe_mvar 2) (pe_mvar 9) (fun _ _ => rfl)) (pa_cons (pe_ix ix_M (pe_mvar 3) (pe_mvar 9) (fun _ _ => rfl)) (pa_cons (pe_ix ix_M (pe_mvar 1) (pe_mvar 9) (fun _ _ => rfl)) (pa_cons (pe_op op_modM (pe_op op_divG (pe_mvar 4) pe_int) pe_int) pa_nil))))))) (pss_one (ps_ret pe_bl)) pss_nil)))))))) (pss_one (ps_ret (pe_andM (pe_callG G_law_good (hr.mono (j := 2) (by decide)) (pa_cons (pe_ix ix_M (pe_mvar 2) pe_int (fun _ _ => rfl)) (pa_cons (pe_ix ix_M (pe_mvar 3) pe_int (fun _ _ => rfl)) (pa_cons (pe_ix ix_M (pe_mvar 1) pe_int (fun _ _ => rfl)) (pa_cons pe_int pa_nil))))) (pe_one (pe_callG G_law_good (hr.mono (j := 2) (by decide)) (pa_cons (pe_ix ix_M (pe_mvar 2) pe_int (fun _ _ => rfl)) (pa_cons (pe_ix ix_M (pe_mvar 3) pe_int (fun _ _ => rfl)) (pa_cons (pe_ix ix_M (pe_mvar 1) pe_int (fun _ _ => rfl)) (pa_cons pe_int pa_nil)))))))))))))
theorem ok_law (G_law_cell_at : Gd P w K mg base CX0 1 "_law_cell_at" ["_law_script", "_law_k"] (sp_law_cell_at K)) (G_Wheel___init__ : Gk P w K mg base CX0 2 "Wheel" (gA K "Wheel") ["self", "figures"] (sp_Wheel___init__ K)) (G_law_power : Gd P w K mg base CX0 1 "_law_power" ["_law_many"] (sp_law_power K)) (G_Wheel_reset : Gm P w K mg base CX0 1 (gA K "Wheel") "reset" ["self"] (sp_Wheel_reset K)) (G_law_value : Gd P w K mg base CX0 1 "_law_value" ["_law_cell", "_law_full", "_law_kept"] (sp_law_value K)) (G_Wheel_rise : Gm P w K mg base CX0 1 (gA K "Wheel") "rise" ["self", "value"] (sp_Wheel_rise K)) (G_law_good : Gd P w K mg base CX0 2 "_law_good" ["_law_wheel", "_law_kept", "_law_figures", "_law_turn"] (sp_law_good K)) (B_range : Gb mg "range") {f : Addr} {fd : FuncData} (F : Fun K "law" "law" s_law f fd) (len : ∀ vs H Q E, sp_law K vs H Q E → vs.length = 1)
    (rd : ∀ vs H Q E, sp_law K vs H Q E → t_law K { nx := fun _ H' => Q .non H', rt := Q } (start ["_law_script", "_law_figures", "_law_wheels", "_law_kept", "_law_cell", "_law_who", "_law_full", "_law_value_here", "_law_total", "_law_k"] vs) H) : FnOk P w K mg base CX0 4 f fd ["_law_script"] (sp_law K) := by
  refine F.ok sc_law len (fun cdv A outer s H vs Q E hr h => ⟨_, tm_law G_law_cell_at G_Wheel___init__ G_law_power G_Wheel_reset G_law_value G_Wheel_rise G_law_good B_range hr, rd vs H Q E h⟩)
end
end K31
namespace K31
open PySem PySem.Spec PyProof.Rows L2
theorem ev_ten_to {K : PySem.W.Frag} {E : XK} (c : Int) : EvS K (t_ten_to K) E [(Sl.fz tyInt c), Sl.dead, Sl.dead] (b_ten_to c) (fun _ : Unit => []) (fun _ : Unit => []) (owF tyInt) :=
  (s_asg (i := 1) rfl imm_int (ev_int 1) fun value_1 => (at_ [(Sl.fz tyInt c), (Sl.fz tyInt value_1), Sl.dead] (s_seq (LS := (fun s_2 : Int => [(Sl.fz tyInt c), (Sl.fz tyInt s_2), Sl.dead])) (s_weak (L' := [(Sl.fz tyInt c), (Sl.fz tyInt value_1), Sl.dead]) (.same (.same (.same .nil))) (s_for (LS := (fun s_2 : Int => [(Sl.fz tyInt c), (Sl.fz tyInt s_2), Sl.dead])) (s0 := value_1) (ei_rng1 (ea_last (ev_var 0 rfl))) (tg_name 2) fun s_2 x_4 => at_ [(Sl.fz tyInt c), (Sl.fz tyInt s_2), (Sl.fz tyInt x_4)] (s_end (s_asg (i := 1) rfl imm_int (ev_op op_mulXI (ev_var 1 rfl) (ev_int 10)) fun value_5 => (at_ [(Sl.fz tyInt c), (Sl.fz tyInt value_5), (Sl.fz tyInt x_4)] (s_nextW (.same (.same (.dead .nil))))))))) fun s_2 => (at_ [(Sl.fz tyInt c), (Sl.fz tyInt s_2), Sl.dead] (s_ret (immo_f imm_int) (EvF.ow (ev_var 1 rfl)))))))
theorem rd_ten_to {K : PySem.W.Frag} : RD_ten_to K := fn_rd (K := K) (N := ["power", "value", "step"]) (C := (csLast tyInt)) (O := (owF tyInt)) (t := fun E => t_ten_to K) (ss := fun c => [(Sl.fz tyInt c)]) (f := fun c => b_ten_to c) 1 2 csn_last rfl css_last fun c E => ev_ten_to c
theorem ev_Wheel___init__ {K : PySem.W.Frag} {E : XK} (w_ : V) (x : Unit) (c : Int) : EvS K (t_Wheel___init__ K) E [(Sl.ow (owAt w_ (owI (gA K "Wheel") [] psNil)) x), (Sl.fz tyInt c)] (b_Wheel___init__ x c) (fun x' : (Int × (Int × (Int × (Bool × Unit)))) => [(Sl.ow (owAt w_ (owI (gA K "Wheel") ["figures", "power", "kept", "over"] (psO (owF tyInt) (psO (owF tyInt) (psO (owF tyInt) (psO (owF tyBl) psNil)))))) x'), Sl.dead]) (fun _ : Unit => []) (owRM w_ (owI (gA K "Wheel") ["figures", "power", "kept", "over"] (psO (owF tyInt) (psO (owF tyInt) (psO (owF tyInt) (psO (owF tyBl) psNil))))) (owF tyNon)) :=
  (s_addFB (i := 0) rfl (by decide +kernel) (by decide) padd_0 imm_int (ev_var 1 rfl) fun x_2 => (at_ [(Sl.ow (owAt w_ (owI (gA K "Wheel") ["figures"] (psO (owF tyInt) psNil))) x_2), (Sl.fz tyInt c)] (s_addFB (i := 0) rfl (by decide +kernel) (by decide) (padd_s padd_0) imm_int (ev_callF0 (ea_last (ev_var 1 rfl))) fun x_5 => (at_ [(Sl.ow (owAt w_ (owI (gA K "Wheel") ["figures", "power"] (psO (owF tyInt) (psO (owF tyInt) psNil)))) x_5), (Sl.fz tyInt c)] (s_addFB (i := 0) rfl (by decide +kernel) (by decide) (padd_s (padd_s padd_0)) imm_int (ev_int 0) fun x_7 => (at_ [(Sl.ow (owAt w_ (owI (gA K "Wheel") ["figures", "power", "kept"] (psO (owF tyInt) (psO (owF tyInt) (psO (owF tyInt) psNil))))) x_7), (Sl.fz tyInt c)] (s_end (s_addFB (i := 0) rfl (by decide +kernel) (by decide) (padd_s (padd_s (padd_s padd_0))) imm_bl (ev_bl false) fun x_9 => (at_ [(Sl.ow (owAt w_ (owI (gA K "Wheel") ["figures", "power", "kept", "over"] (psO (owF tyInt) (psO (owF tyInt) (psO (owF tyInt) (psO (owF tyBl) psNil)))))) x_9), (Sl.fz tyInt c)] (s_nextW (.same (.dead .nil))))))))))))
theorem rd_Wheel___init__ {K : PySem.W.Frag} : RD_Wheel___init__ K := fnMU_rd (K := K) (N := ["self", "figures"]) (O := (owI (gA K "Wheel") [] psNil)) (O2 := (owI (gA K "Wheel") ["figures", "power", "kept", "over"] (psO (owF tyInt) (psO (owF tyInt) (psO (owF tyInt) (psO (owF tyBl) psNil)))))) (Q := (csLast tyInt)) (t := fun E => t_Wheel___init__ K) (ss := fun c => [(Sl.fz tyInt c)]) (g := fun x c => b_Wheel___init__ x c) (LS := fun w_ => (fun x' : (Int × (Int × (Int × (Bool × Unit)))) => [(Sl.ow (owAt w_ (owI (gA K "Wheel") ["figures", "power", "kept", "over"] (psO (owF tyInt) (psO (owF tyInt) (psO (owF tyInt) (psO (owF tyBl) psNil)))))) x'), Sl.dead])) 1 0 csn_last rfl css_last (fun _ _ => rfl) fun w_ x c E => ev_Wheel___init__ w_ x c
theorem ev_law_power {K : PySem.W.Frag} {E : XK} (c : Int) : EvS K (t_law_power K) E [(Sl.fz tyInt c), Sl.dead, Sl.dead] (b_law_power c) (fun _ : Unit => []) (fun _ : Unit => []) (owF tyInt) :=
  (s_asg (i := 1) rfl imm_int (ev_int 1) fun number_1 => (at_ [(Sl.fz tyInt c), (Sl.fz tyInt number_1), Sl.dead] (s_seq (LS := (fun s_2 : Int => [(Sl.fz tyInt c), (Sl.fz tyInt s_2), Sl.dead])) (s_weak (L' := [(Sl.fz tyInt c), (Sl.fz tyInt number_1), Sl.dead]) (.same (.same (.same .nil))) (s_for (LS := (fun s_2 : Int => [(Sl.fz tyInt c), (Sl.fz tyInt s_2), Sl.dead])) (s0 := number_1) (ei_rng1 (ea_last (ev_var 0 rfl))) (tg_name 2) fun s_2 x_4 => at_ [(Sl.fz tyInt c), (Sl.fz tyInt s_2), (Sl.fz tyInt x_4)] (s_end (s_asg (i := 1) rfl imm_int (ev_op op_mulXI (ev_int 10) (ev_var 1 rfl)) fun number_5 => (at_ [(Sl.fz tyInt c), (Sl.fz tyInt number_5), (Sl.fz tyInt x_4)] (s_nextW (.same (.same (.dead .nil))))))))) fun s_2 => (at_ [(Sl.fz tyInt c), (Sl.fz tyInt s_2), Sl.dead] (s_ret (immo_f imm_int) (EvF.ow (ev_var 1 rfl)))))))
theorem rd_law_power {K : PySem.W.Frag} : RD_law_power K := fn_rd (K := K) (N := ["_law_many", "_law_number", "_law_k"]) (C := (csLast tyInt)) (O := (owF tyInt)) (t := fun E => t_law_power K) (ss := fun c => [(Sl.fz tyInt c)]) (f := fun c => b_law_power c) 1 2 csn_last rfl css_last fun c E => ev_law_power c
theorem ev_Wheel_reset {K : PySem.W.Frag} {E : XK} (w_ : V) (x : (Int × (Int × (Int × (Bool × Unit))))) (c : Unit) : EvS K (t_Wheel_reset K) E [(Sl.ow (owAt w_ (owI (gA K "Wheel") ["figures", "power", "kept", "over"] (psO (owF tyInt) (psO (owF tyInt) (psO (owF tyInt) (psO (owF tyBl) psNil)))))) x)] (b_Wheel_reset x) (fun x' : (Int × (Int × (Int × (Bool × Unit)))) => [(Sl.ow (owAt w_ (owI (gA K "Wheel") ["figures", "power", "kept", "over"] (psO (owF tyInt) (psO (owF tyInt) (psO (owF tyInt) (psO (owF tyBl) psNil)))))) x')]) (fun _ : Unit => []) (owRM w_ (owI (gA K "Wheel") ["figures", "power", "kept", "over"] (psO (owF tyInt) (psO (owF tyInt) (psO (owF tyInt) (psO (owF tyBl) psNil))))) (owF tyNon)) :=
  (s_setFB (i := 0) (n := 2) (by decide +kernel) rfl (by decide) (pput_s (pput_s pput_0)) imm_int (ev_int 0) (evp_at (evp_var rfl)) fun x_2 => (at_ [(Sl.ow (owAt w_ (owI (gA K "Wheel") ["figures", "power", "kept", "over"] (psO (owF tyInt) (psO (owF tyInt) (psO (owF tyInt) (psO (owF tyBl) psNil)))))) x_2)] (s_end (s_setFB (i := 0) (n := 3) (by decide +kernel) rfl (by decide) (pput_s (pput_s (pput_s pput_0))) imm_bl (ev_bl false) (evp_at (evp_var rfl)) fun x_5 => (at_ [(Sl.ow (owAt w_ (owI (gA K "Wheel") ["figures", "power", "kept", "over"] (psO (owF tyInt) (psO (owF tyInt) (psO (owF tyInt) (psO (owF tyBl) psNil)))))) x_5)] (s_nextW (.same .nil)))))))
theorem rd_Wheel_reset {K : PySem.W.Frag} : RD_Wheel_reset K := fnMU_rd (K := K) (N := ["self"]) (O := (owI (gA K "Wheel") ["figures", "power", "kept", "over"] (psO (owF tyInt) (psO (owF tyInt) (psO (owF tyInt) (psO (owF tyBl) psNil)))))) (O2 := (owI (gA K "Wheel") ["figures", "power", "kept", "over"] (psO (owF tyInt) (psO (owF tyInt) (psO (owF tyInt) (psO (owF tyBl) psNil)))))) (Q := csNil) (t := fun E => t_Wheel_reset K) (ss := fun c => []) (g := fun x c => b_Wheel_reset x) (LS := fun w_ => (fun x' : (Int × (Int × (Int × (Bool × Unit)))) => [(Sl.ow (owAt w_ (owI (gA K "Wheel") ["figures", "power", "kept", "over"] (psO (owF tyInt) (psO (owF tyInt) (psO (owF tyInt) (psO (owF tyBl) psNil)))))) x')])) 0 0 csn_nil rfl css_nil (fun _ _ => rfl) fun w_ x c E => ev_Wheel_reset w_ x c
theorem ev_Wheel_rise {K : PySem.W.Frag} {E : XK} (w_ : V) (x : (Int × (Int × (Int × (Bool × Unit))))) (c : Int) : EvS K (t_Wheel_rise K) E [(Sl.ow (owAt w_ (owI (gA K "Wheel") ["figures", "power", "kept", "over"] (psO (owF tyInt) (psO (owF tyInt) (psO (owF tyInt) (psO (owF tyBl) psNil)))))) x), (Sl.fz tyInt c), Sl.dead] (b_Wheel_rise x c) (fun x' : (Int × (Int × (Int × (Bool × Unit)))) => [(Sl.ow (owAt w_ (owI (gA K "Wheel") ["figures", "power", "kept", "over"] (psO (owF tyInt) (psO (owF tyInt) (psO (owF tyInt) (psO (owF tyBl) psNil)))))) x'), Sl.dead, Sl.dead]) (fun _ : Unit => []) (owRM w_ (owI (gA K "Wheel") ["figures", "power", "kept", "over"] (psO (owF tyInt) (psO (owF tyInt) (psO (owF tyInt) (psO (owF tyBl) psNil))))) (owF tyNon)) :=
  (s_asg (i := 2) rfl imm_int (ev_op op_addI (ev_fld (ns := ["figures", "power", "kept", "over"]) (by decide +kernel) (n := 2) rfl (at_s (at_s at_0)) (ev_varIA (P := (psO (owF tyInt) (psO (owF tyInt) (psO (owF tyInt) (psO (owF tyBl) psNil))))) 0 rfl)) (ev_var 1 rfl)) fun risen_1 => (at_ [(Sl.ow (owAt w_ (owI (gA K "Wheel") ["figures", "power", "kept", "over"] (psO (owF tyInt) (psO (owF tyInt) (psO (owF tyInt) (psO (owF tyBl) psNil)))))) x), (Sl.fz tyInt c), (Sl.fz tyInt risen_1)] (s_seq (LS := (fun s_9 : (Int × (Int × (Int × (Bool × Unit)))) => [(Sl.ow (owAt w_ (owI (gA K "Wheel") ["figures", "power", "kept", "over"] (psO (owF tyInt) (psO (owF tyInt) (psO (owF tyInt) (psO (owF tyBl) psNil)))))) s_9), (Sl.fz tyInt c), (Sl.fz tyInt risen_1)])) (s_if (et_val (ev_op op_geI (ev_var 2 rfl) (ev_fld (ns := ["figures", "power", "kept", "over"]) (by decide +kernel) (n := 1) rfl (at_s at_0) (ev_varIA (P := (psO (owF tyInt) (psO (owF tyInt) (psO (owF tyInt) (psO (owF tyBl) psNil))))) 0 rfl)))) (s_end (s_setFB (i := 0) (n := 3) (by decide +kernel) rfl (by decide) (pput_s (pput_s (pput_s pput_0))) imm_bl (ev_bl true) (evp_at (evp_var rfl)) fun x_11 => (at_ [(Sl.ow (owAt w_ (owI (gA K "Wheel") ["figures", "power", "kept", "over"] (psO (owF tyInt) (psO (owF tyInt) (psO (owF tyInt) (psO (owF tyBl) psNil)))))) x_11), (Sl.fz tyInt c), (Sl.fz tyInt risen_1)] (s_nextW (.same (.same (.same .nil))))))) (s_nextW (.same (.same (.same .nil))))) fun s_9 => (at_ [(Sl.ow (owAt w_ (owI (gA K "Wheel") ["figures", "power", "kept", "over"] (psO (owF tyInt) (psO (owF tyInt) (psO (owF tyInt) (psO (owF tyBl) psNil)))))) s_9), (Sl.fz tyInt c), (Sl.fz tyInt risen_1)] (s_end (s_setFB (i := 0) (n := 2) (by decide +kernel) rfl (by decide) (pput_s (pput_s pput_0)) imm_int (ev_op op_modI (ev_var 2 rfl) (ev_fld (ns := ["figures", "power", "kept", "over"]) (by decide +kernel) (n := 1) rfl (at_s at_0) (ev_varIA (P := (psO (owF tyInt) (psO (owF tyInt) (psO (owF tyInt) (psO (owF tyBl) psNil))))) 0 rfl))) (evp_at (evp_var rfl)) fun x_17 => (at_ [(Sl.ow (owAt w_ (owI (gA K "Wheel") ["figures", "power", "kept", "over"] (psO (owF tyInt) (psO (owF tyInt) (psO (owF tyInt) (psO (owF tyBl) psNil)))))) x_17), (Sl.fz tyInt c), (Sl.fz tyInt risen_1)] (s_nextW (.same (.dead (.dead .nil)))))))))))
theorem rd_Wheel_rise {K : PySem.W.Frag} : RD_Wheel_rise K := fnMU_rd (K := K) (N := ["self", "value", "risen"]) (O := (owI (gA K "Wheel") ["figures", "power", "kept", "over"] (psO (owF tyInt) (psO (owF tyInt) (psO (owF tyInt) (psO (owF tyBl) psNil)))))) (O2 := (owI (gA K "Wheel") ["figures", "power", "kept", "over"] (psO (owF tyInt) (psO (owF tyInt) (psO (owF tyInt) (psO (owF tyBl) psNil)))))) (Q := (csLast tyInt)) (t := fun E => t_Wheel_rise K) (ss := fun c => [(Sl.fz tyInt c)]) (g := fun x c => b_Wheel_rise x c) (LS := fun w_ => (fun x' : (Int × (Int × (Int × (Bool × Unit)))) => [(Sl.ow (owAt w_ (owI (gA K "Wheel") ["figures", "power", "kept", "over"] (psO (owF tyInt) (psO (owF tyInt) (psO (owF tyInt) (psO (owF tyBl) psNil)))))) x'), Sl.dead, Sl.dead])) 1 1 csn_last rfl css_last (fun _ _ => rfl) fun w_ x c E => ev_Wheel_rise w_ x c
theorem ev_Wheel_amount {K : PySem.W.Frag} {E : XK} (c : (Int × (Int × (Int × (Bool × Unit))))) : EvS K (t_Wheel_amount K) E [(Sl.fz (tyI (gA K "Wheel") ["figures", "power", "kept", "over"] (csCons tyInt (csCons tyInt (csCons tyInt (csCons tyBl csNil))))) c)] (b_Wheel_amount c) (fun _ : Unit => []) (fun _ : Unit => []) (owF tyInt) :=
  (s_ret (immo_f imm_int) (EvF.ow (ev_fld (ns := ["figures", "power", "kept", "over"]) (by decide +kernel) (n := 2) rfl (at_s (at_s at_0)) (ev_var 0 rfl))))
theorem rd_Wheel_amount {K : PySem.W.Frag} : RD_Wheel_amount K := fn_rd (K := K) (N := ["self"]) (C := (csLast (tyI (gA K "Wheel") ["figures", "power", "kept", "over"] (csCons tyInt (csCons tyInt (csCons tyInt (csCons tyBl csNil))))))) (O := (owF tyInt)) (t := fun E => t_Wheel_amount K) (ss := fun c => [(Sl.fz (tyI (gA K "Wheel") ["figures", "power", "kept", "over"] (csCons tyInt (csCons tyInt (csCons tyInt (csCons tyBl csNil))))) c)]) (f := fun c => b_Wheel_amount c) 1 0 csn_last rfl css_last fun c E => ev_Wheel_amount c
theorem ev_Wheel_shown {K : PySem.W.Frag} {E : XK} (c : (Int × (Int × (Int × (Bool × Unit))))) : EvS K (t_Wheel_shown K) E [(Sl.fz (tyI (gA K "Wheel") ["figures", "power", "kept", "over"] (csCons tyInt (csCons tyInt (csCons tyInt (csCons tyBl csNil))))) c)] (b_Wheel_shown c) (fun _ : Unit => []) (fun _ : Unit => []) (owF tyStr) :=
  (s_ret (immo_f imm_str) (EvF.ow (ev_me me_zfill (ev_cb bl_str (ea_last (ev_fld (ns := ["figures", "power", "kept", "over"]) (by decide +kernel) (n := 2) rfl (at_s (at_s at_0)) (ev_var 0 rfl)))) (ea_last (ev_fld (ns := ["figures", "power", "kept", "over"]) (by decide +kernel) (n := 0) rfl at_0 (ev_var 0 rfl))))))
theorem rd_Wheel_shown {K : PySem.W.Frag} : RD_Wheel_shown K := fn_rd (K := K) (N := ["self"]) (C := (csLast (tyI (gA K "Wheel") ["figures", "power", "kept", "over"] (csCons tyInt (csCons tyInt (csCons tyInt (csCons tyBl csNil))))))) (O := (owF tyStr)) (t := fun E => t_Wheel_shown K) (ss := fun c => [(Sl.fz (tyI (gA K "Wheel") ["figures", "power", "kept", "over"] (csCons tyInt (csCons tyInt (csCons tyInt (csCons tyBl csNil))))) c)]) (f := fun c => b_Wheel_shown c) 1 0 csn_last rfl css_last fun c E => ev_Wheel_shown c
theorem ev_Wheel_ran_over {K : PySem.W.Frag} {E : XK} (c : (Int × (Int × (Int × (Bool × Unit))))) : EvS K (t_Wheel_ran_over K) E [(Sl.fz (tyI (gA K "Wheel") ["figures", "power", "kept", "over"] (csCons tyInt (csCons tyInt (csCons tyInt (csCons tyBl csNil))))) c)] (b_Wheel_ran_over c) (fun _ : Unit => []) (fun _ : Unit => []) (owF tyBl) :=
  (s_ret (immo_f imm_bl) (EvF.ow (ev_fld (ns := ["figures", "power", "kept", "over"]) (by decide +kernel) (n := 3) rfl (at_s (at_s (at_s at_0))) (ev_var 0 rfl))))
theorem rd_Wheel_ran_over {K : PySem.W.Frag} : RD_Wheel_ran_over K := fn_rd (K := K) (N := ["self"]) (C := (csLast (tyI (gA K "Wheel") ["figures", "power", "kept", "over"] (csCons tyInt (csCons tyInt (csCons tyInt (csCons tyBl csNil))))))) (O := (owF tyBl)) (t := fun E => t_Wheel_ran_over K) (ss := fun c => [(Sl.fz (tyI (gA K "Wheel") ["figures", "power", "kept", "over"] (csCons tyInt (csCons tyInt (csCons tyInt (csCons tyBl csNil))))) c)]) (f := fun c => b_Wheel_ran_over c) 1 0 csn_last rfl css_last fun c E => ev_Wheel_ran_over c
theorem ev_law_whole {K : PySem.W.Frag} {E : XK} (c : Int) : EvS K (t_law_whole K) E [(Sl.fz tyInt c)] (b_law_whole c) (fun _ : Unit => []) (fun _ : Unit => []) (owF tyBl) :=
  (s_ret (immo_f imm_bl) (EvF.ow (ev_and (ev_isa tn_int (ev_var 0 rfl)) (ev_not (ev_isa tn_int (ev_var 0 rfl))))))
theorem rd_law_whole {K : PySem.W.Frag} : RD_law_whole K := fn_rd (K := K) (N := ["_law_found"]) (C := (csLast tyInt)) (O := (owF tyBl)) (t := fun E => t_law_whole K) (ss := fun c => [(Sl.fz tyInt c)]) (f := fun c => b_law_whole c) 1 0 csn_last rfl css_last fun c E => ev_law_whole c
theorem ev_law_shown {K : PySem.W.Frag} {E : XK} (c : (Int × Int)) : EvS K (t_law_shown K) E [(Sl.fz tyInt c.1), (Sl.fz tyInt c.2), Sl.dead, Sl.dead] (b_law_shown c.1 c.2) (fun _ : Unit => []) (fun _ : Unit => []) (owF tyStr) :=
  (s_asg (i := 2) rfl imm_str (ev_str []) fun found_1 => (at_ [(Sl.fz tyInt c.1), (Sl.fz tyInt c.2), (Sl.fz tyStr found_1), Sl.dead] (s_seq (LS := (fun s_2 : ((List Nat) × Int) => [(Sl.fz tyInt s_2.2), (Sl.fz tyInt c.2), (Sl.fz tyStr s_2.1), Sl.dead])) (s_weak (L' := [(Sl.fz tyInt c.1), (Sl.fz tyInt c.2), (Sl.fz tyStr found_1), Sl.dead]) (.same (.same (.same (.same .nil)))) (s_for (LS := (fun s_2 : ((List Nat) × Int) => [(Sl.fz tyInt s_2.2), (Sl.fz tyInt c.2), (Sl.fz tyStr s_2.1), Sl.dead])) (s0 := (found_1, c.1)) (ei_rng1 (ea_last (ev_var 1 rfl))) (tg_name 3) fun s_2 x_4 => at_ [(Sl.fz tyInt s_2.2), (Sl.fz tyInt c.2), (Sl.fz tyStr s_2.1), (Sl.fz tyInt x_4)] (s_asg (i := 2) rfl imm_str (ev_op op_addS (ev_op op_ixS (ev_str [48, 49, 50, 51, 52, 53, 54, 55, 56, 57]) (ev_op op_modI (ev_var 0 rfl) (ev_int 10))) (ev_var 2 rfl)) fun found_5 => (at_ [(Sl.fz tyInt s_2.2), (Sl.fz tyInt c.2), (Sl.fz tyStr found_5), (Sl.fz tyInt x_4)] (s_end (s_asg (i := 0) rfl imm_int (ev_op op_divGI (ev_var 0 rfl) (ev_int 10)) fun number_12 => (at_ [(Sl.fz tyInt number_12), (Sl.fz tyInt c.2), (Sl.fz tyStr found_5), (Sl.fz tyInt x_4)] (s_nextW (.same (.same (.same (.dead .nil)))))))))))) fun s_2 => (at_ [(Sl.fz tyInt s_2.2), (Sl.fz tyInt c.2), (Sl.fz tyStr s_2.1), Sl.dead] (s_ret (immo_f imm_str) (EvF.ow (ev_var 2 rfl)))))))
theorem rd_law_shown {K : PySem.W.Frag} : RD_law_shown K := fn_rd (K := K) (N := ["_law_number", "_law_figures", "_law_found", "_law_k"]) (C := (csCons tyInt (csLast tyInt))) (O := (owF tyStr)) (t := fun E => t_law_shown K) (ss := fun c => [(Sl.fz tyInt c.1), (Sl.fz tyInt c.2)]) (f := fun c => b_law_shown c.1 c.2) 2 2 (csn_cons csn_last) rfl (css_cons css_last) fun c E => ev_law_shown c
theorem ev_law_good {K : PySem.W.Frag} {E : XK} (c : ((Int × (Int × (Int × (Bool × Unit)))) × ((Int × Bool) × (Int × Int)))) : EvS K (t_law_good K) E [(Sl.fz (tyI (gA K "Wheel") ["figures", "power", "kept", "over"] (csCons tyInt (csCons tyInt (csCons tyInt (csCons tyBl csNil))))) c.1), (Sl.fz (tyH (csCons tyInt (csLast tyBl))) c.2.1), (Sl.fz tyInt c.2.2.1), (Sl.fz tyInt c.2.2.2), Sl.dead, Sl.dead, Sl.dead] (b_law_good c.1 c.2.1 c.2.2.1 c.2.2.2) (fun _ : Unit => []) (fun _ : Unit => []) (owF tyBl) :=
  (s_seq (LS := (fun _ : Unit => [(Sl.fz (tyI (gA K "Wheel") ["figures", "power", "kept", "over"] (csCons tyInt (csCons tyInt (csCons tyInt (csCons tyBl csNil))))) c.1), (Sl.fz (tyH (csCons tyInt (csLast tyBl))) c.2.1), (Sl.fz tyInt c.2.2.1), (Sl.fz tyInt c.2.2.2), Sl.dead, Sl.dead, Sl.dead])) (s_weak (L' := [(Sl.fz (tyI (gA K "Wheel") ["figures", "power", "kept", "over"] (csCons tyInt (csCons tyInt (csCons tyInt (csCons tyBl csNil))))) c.1), (Sl.fz (tyH (csCons tyInt (csLast tyBl))) c.2.1), (Sl.fz tyInt c.2.2.1), (Sl.fz tyInt c.2.2.2), Sl.dead, Sl.dead, Sl.dead]) (.same (.same (.same (.same (.same (.same (.same .nil))))))) (s_for (LS := (fun _ : Unit => [(Sl.fz (tyI (gA K "Wheel") ["figures", "power", "kept", "over"] (csCons tyInt (csCons tyInt (csCons tyInt (csCons tyBl csNil))))) c.1), (Sl.fz (tyH (csCons tyInt (csLast tyBl))) c.2.1), (Sl.fz tyInt c.2.2.1), (Sl.fz tyInt c.2.2.2), Sl.dead, Sl.dead, Sl.dead])) (s0 := ()) (ei_rng1 (ea_last (ev_int 3))) (tg_name 4) fun _ x_3 => at_ [(Sl.fz (tyI (gA K "Wheel") ["figures", "power", "kept", "over"] (csCons tyInt (csCons tyInt (csCons tyInt (csCons tyBl csNil))))) c.1), (Sl.fz (tyH (csCons tyInt (csLast tyBl))) c.2.1), (Sl.fz tyInt c.2.2.1), (Sl.fz tyInt c.2.2.2), (Sl.fz tyInt x_3), Sl.dead, Sl.dead] (s_asg (i := 5) rfl imm_int (ev_op op_modI (ev_op op_addI (ev_var 3 rfl) (ev_var 4 rfl)) (ev_int 3)) fun asked_4 => (at_ [(Sl.fz (tyI (gA K "Wheel") ["figures", "power", "kept", "over"] (csCons tyInt (csCons tyInt (csCons tyInt (csCons tyBl csNil))))) c.1), (Sl.fz (tyH (csCons tyInt (csLast tyBl))) c.2.1), (Sl.fz tyInt c.2.2.1), (Sl.fz tyInt c.2.2.2), (Sl.fz tyInt x_3), (Sl.fz tyInt asked_4), Sl.dead] (s_seq (LS := (fun _ : Unit => [(Sl.fz (tyI (gA K "Wheel") ["figures", "power", "kept", "over"] (csCons tyInt (csCons tyInt (csCons tyInt (csCons tyBl csNil))))) c.1), (Sl.fz (tyH (csCons tyInt (csLast tyBl))) c.2.1), (Sl.fz tyInt c.2.2.1), (Sl.fz tyInt c.2.2.2), (Sl.fz tyInt x_3), (Sl.fz tyInt asked_4), Sl.dead])) (s_if (et_val (ev_op op_eqI (ev_var 5 rfl) (ev_int 0))) (s_asg (i := 6) rfl imm_int (ev_methF0 (m := "amount") (ns := ["figures", "power", "kept", "over"]) (by decide +kernel) (ev_var 0 rfl)) fun found_13 => (at_ [(Sl.fz (tyI (gA K "Wheel") ["figures", "power", "kept", "over"] (csCons tyInt (csCons tyInt (csCons tyInt (csCons tyBl csNil))))) c.1), (Sl.fz (tyH (csCons tyInt (csLast tyBl))) c.2.1), (Sl.fz tyInt c.2.2.1), (Sl.fz tyInt c.2.2.2), (Sl.fz tyInt x_3), (Sl.fz tyInt asked_4), (Sl.fz tyInt found_13)] (s_if (et_or (et_not (et_val (ev_callF0 (ea_last (ev_var 6 rfl))))) (et_val (ev_op op_neI (ev_var 6 rfl) (ev_ixH (i := 0) at_0 (ev_var 1 rfl))))) (s_ret (immo_f imm_bl) (EvF.ow (ev_bl false))) (s_nextW (.same (.same (.same (.same (.same (.same (.dead .nil))))))))))) (s_nextW (.same (.same (.same (.same (.same (.same (.same .nil))))))))) fun _ => (at_ [(Sl.fz (tyI (gA K "Wheel") ["figures", "power", "kept", "over"] (csCons tyInt (csCons tyInt (csCons tyInt (csCons tyBl csNil))))) c.1), (Sl.fz (tyH (csCons tyInt (csLast tyBl))) c.2.1), (Sl.fz tyInt c.2.2.1), (Sl.fz tyInt c.2.2.2), (Sl.fz tyInt x_3), (Sl.fz tyInt asked_4), Sl.dead] (s_seq (LS := (fun _ : Unit => [(Sl.fz (tyI (gA K "Wheel") ["figures", "power", "kept", "over"] (csCons tyInt (csCons tyInt (csCons tyInt (csCons tyBl csNil))))) c.1), (Sl.fz (tyH (csCons tyInt (csLast tyBl))) c.2.1), (Sl.fz tyInt c.2.2.1), (Sl.fz tyInt c.2.2.2), (Sl.fz tyInt x_3), (Sl.fz tyInt asked_4), Sl.dead])) (s_if (et_val (ev_op op_eqI (ev_var 5 rfl) (ev_int 1))) (s_asg (i := 6) rfl imm_str (ev_methF0 (m := "shown") (ns := ["figures", "power", "kept", "over"]) (by decide +kernel) (ev_var 0 rfl)) fun found_27 => (at_ [(Sl.fz (tyI (gA K "Wheel") ["figures", "power", "kept", "over"] (csCons tyInt (csCons tyInt (csCons tyInt (csCons tyBl csNil))))) c.1), (Sl.fz (tyH (csCons tyInt (csLast tyBl))) c.2.1), (Sl.fz tyInt c.2.2.1), (Sl.fz tyInt c.2.2.2), (Sl.fz tyInt x_3), (Sl.fz tyInt asked_4), (Sl.fz tyStr found_27)] (s_if (et_or (et_not (et_val (ev_isa tn_str (ev_var 6 rfl)))) (et_val (ev_op op_neS (ev_var 6 rfl) (ev_callF0 (ea_cons (ev_ixH (i := 0) at_0 (ev_var 1 rfl)) (ea_last (ev_var 2 rfl))))))) (s_ret (immo_f imm_bl) (EvF.ow (ev_bl false))) (s_nextW (.same (.same (.same (.same (.same (.same (.dead .nil))))))))))) (s_nextW (.same (.same (.same (.same (.same (.same (.same .nil))))))))) fun _ => (at_ [(Sl.fz (tyI (gA K "Wheel") ["figures", "power", "kept", "over"] (csCons tyInt (csCons tyInt (csCons tyInt (csCons tyBl csNil))))) c.1), (Sl.fz (tyH (csCons tyInt (csLast tyBl))) c.2.1), (Sl.fz tyInt c.2.2.1), (Sl.fz tyInt c.2.2.2), (Sl.fz tyInt x_3), (Sl.fz tyInt asked_4), Sl.dead] (s_end (s_seq (LS := (fun _ : Unit => [(Sl.fz (tyI (gA K "Wheel") ["figures", "power", "kept", "over"] (csCons tyInt (csCons tyInt (csCons tyInt (csCons tyBl csNil))))) c.1), (Sl.fz (tyH (csCons tyInt (csLast tyBl))) c.2.1), (Sl.fz tyInt c.2.2.1), (Sl.fz tyInt c.2.2.2), (Sl.fz tyInt x_3), (Sl.fz tyInt asked_4), Sl.dead])) (s_if (et_val (ev_op op_eqI (ev_var 5 rfl) (ev_int 2))) (s_asg (i := 6) rfl imm_bl (ev_methF0 (m := "ran_over") (ns := ["figures", "power", "kept", "over"]) (by decide +kernel) (ev_var 0 rfl)) fun found_44 => (at_ [(Sl.fz (tyI (gA K "Wheel") ["figures", "power", "kept", "over"] (csCons tyInt (csCons tyInt (csCons tyInt (csCons tyBl csNil))))) c.1), (Sl.fz (tyH (csCons tyInt (csLast tyBl))) c.2.1), (Sl.fz tyInt c.2.2.1), (Sl.fz tyInt c.2.2.2), (Sl.fz tyInt x_3), (Sl.fz tyInt asked_4), (Sl.fz tyBl found_44)] (s_if (et_or (et_not (et_val (ev_isa tn_bl (ev_var 6 rfl)))) (et_val (ev_op op_neB (ev_var 6 rfl) (ev_ixH (i := 1) (at_s at_last) (ev_var 1 rfl))))) (s_ret (immo_f imm_bl) (EvF.ow (ev_bl false))) (s_nextW (.same (.same (.same (.same (.same (.same (.dead .nil))))))))))) (s_nextW (.same (.same (.same (.same (.same (.same (.same .nil))))))))) fun _ => (at_ [(Sl.fz (tyI (gA K "Wheel") ["figures", "power", "kept", "over"] (csCons tyInt (csCons tyInt (csCons tyInt (csCons tyBl csNil))))) c.1), (Sl.fz (tyH (csCons tyInt (csLast tyBl))) c.2.1), (Sl.fz tyInt c.2.2.1), (Sl.fz tyInt c.2.2.2), (Sl.fz tyInt x_3), (Sl.fz tyInt asked_4), Sl.dead] (s_nextW (.same (.same (.same (.same (.dead (.dead (.same .nil))))))))))))))))))) fun _ => (at_ [(Sl.fz (tyI (gA K "Wheel") ["figures", "power", "kept", "over"] (csCons tyInt (csCons tyInt (csCons tyInt (csCons tyBl csNil))))) c.1), (Sl.fz (tyH (csCons tyInt (csLast tyBl))) c.2.1), (Sl.fz tyInt c.2.2.1), (Sl.fz tyInt c.2.2.2), Sl.dead, Sl.dead, Sl.dead] (s_ret (immo_f imm_bl) (EvF.ow (ev_bl true)))))
theorem rd_law_good {K : PySem.W.Frag} : RD_law_good K := fn_rd (K := K) (N := ["_law_wheel", "_law_kept", "_law_figures", "_law_turn", "_law_k", "_law_asked", "_law_found"]) (C := (csCons (tyI (gA K "Wheel") ["figures", "power", "kept", "over"] (csCons tyInt (csCons tyInt (csCons tyInt (csCons tyBl csNil))))) (csCons (tyH (csCons tyInt (csLast tyBl))) (csCons tyInt (csLast tyInt))))) (O := (owF tyBl)) (t := fun E => t_law_good K) (ss := fun c => [(Sl.fz (tyI (gA K "Wheel") ["figures", "power", "kept", "over"] (csCons tyInt (csCons tyInt (csCons tyInt (csCons tyBl csNil))))) c.1), (Sl.fz (tyH (csCons tyInt (csLast tyBl))) c.2.1), (Sl.fz tyInt c.2.2.1), (Sl.fz tyInt c.2.2.2)]) (f := fun c => b_law_good c.1 c.2.1 c.2.2.1 c.2.2.2) 4 3 (csn_cons (csn_cons (csn_cons csn_last))) rfl (css_cons (css_cons (css_cons css_last))) fun c E => ev_law_good c
theorem ev_law_value {K : PySem.W.Frag} {E : XK} (c : (Int × (Int × Int))) : EvS K (t_law_value K) E [(Sl.fz tyInt c.1), (Sl.fz tyInt c.2.1), (Sl.fz tyInt c.2.2), Sl.dead] (b_law_value c.1 c.2.1 c.2.2) (fun _ : Unit => []) (fun _ : Unit => []) (owF tyInt) :=
  (s_seq (LS := (fun _ : Unit => [(Sl.fz tyInt c.1), (Sl.fz tyInt c.2.1), (Sl.fz tyInt c.2.2), Sl.dead])) (s_if (et_val (ev_op op_eqI (ev_op op_modI (ev_var 0 rfl) (ev_int 3)) (ev_int 0))) (s_ret (immo_f imm_int) (EvF.ow (ev_op op_modI (ev_op op_divGI (ev_var 0 rfl) (ev_int 3)) (ev_int 10)))) (s_nextW (.same (.same (.same (.same .nil)))))) fun _ => (at_ [(Sl.fz tyInt c.1), (Sl.fz tyInt c.2.1), (Sl.fz tyInt c.2.2), Sl.dead] (s_seq (LS := (fun _ : Unit => [(Sl.fz tyInt c.1), (Sl.fz tyInt c.2.1), (Sl.fz tyInt c.2.2), Sl.dead])) (s_if (et_val (ev_op op_eqI (ev_op op_modI (ev_var 0 rfl) (ev_int 3)) (ev_int 1))) (s_asgO (i := 3) rfl (immo_l imm_int) (ev_lst (csn_cons (csn_cons (csn_cons (csn_cons (csn_cons (csn_cons (csn_cons csn_last))))))) (csl_cons (csl_cons (csl_cons (csl_cons (csl_cons (csl_cons (csl_cons csl_last))))))) (ea_cons (ev_int 0) (ea_cons (ev_int 1) (ea_cons (ev_int 9) (ea_cons (ev_op op_subI (ev_var 1 rfl) (ev_int 1)) (ea_cons (ev_var 1 rfl) (ea_cons (ev_op op_addI (ev_var 1 rfl) (ev_int 1)) (ea_cons (ev_op op_subI (ev_var 1 rfl) (ev_var 2 rfl)) (ea_last (ev_op op_subI (ev_op op_subI (ev_var 1 rfl) (ev_int 1)) (ev_var 2 rfl))))))))))) fun some_18 => s_frz (i := 3) rfl (at_ [(Sl.fz tyInt c.1), (Sl.fz tyInt c.2.1), (Sl.fz tyInt c.2.2), (Sl.fz (tyL tyInt) some_18)] (s_ret (immo_f imm_int) (EvF.ow (ev_op op_ixL (ev_var 3 rfl) (ev_op op_modI (ev_op op_divGI (ev_var 0 rfl) (ev_int 3)) (ev_int 8))))))) (s_nextW (.same (.same (.same (.same .nil)))))) fun _ => (at_ [(Sl.fz tyInt c.1), (Sl.fz tyInt c.2.1), (Sl.fz tyInt c.2.2), Sl.dead] (s_ret (immo_f imm_int) (EvF.ow (ev_op op_modI (ev_op op_divGI (ev_var 0 rfl) (ev_int 3)) (ev_op op_powI (ev_int 10) (ev_int 60)))))))))
theorem rd_law_value {K : PySem.W.Frag} : RD_law_value K := fn_rd (K := K) (N := ["_law_cell", "_law_full", "_law_kept", "_law_some"]) (C := (csCons tyInt (csCons tyInt (csLast tyInt)))) (O := (owF tyInt)) (t := fun E => t_law_value K) (ss := fun c => [(Sl.fz tyInt c.1), (Sl.fz tyInt c.2.1), (Sl.fz tyInt c.2.2)]) (f := fun c => b_law_value c.1 c.2.1 c.2.2) 3 1 (csn_cons (csn_cons csn_last)) rfl (css_cons (css_cons css_last)) fun c E => ev_law_value c
theorem ev_law_cell_at {K : PySem.W.Frag} {E : XK} (c : ((List Int) × Int)) : EvS K (t_law_cell_at K) E [(Sl.fz (tySc K) c.1), (Sl.fz tyInt c.2)] (b_law_cell_at c.1 c.2) (fun _ : Unit => []) (fun _ : Unit => []) (owF tyInt) :=
  (s_seq (LS := (fun _ : Unit => [(Sl.fz (tySc K) c.1), (Sl.fz tyInt c.2)])) (s_if (et_val (ev_op op_ltKI (ev_var 1 rfl) (ev_cb bl_lenSc (ea_last (ev_var 0 rfl))))) (s_ret (immo_f imm_int) (EvF.ow (ev_op op_ixSc (ev_var 0 rfl) (ev_var 1 rfl)))) (s_nextW (.same (.same .nil)))) fun _ => (at_ [(Sl.fz (tySc K) c.1), (Sl.fz tyInt c.2)] (s_ret (immo_f imm_int) (EvF.ow (ev_int 0)))))
theorem rd_law_cell_at {K : PySem.W.Frag} : RD_law_cell_at K := fn_rd (K := K) (N := ["_law_script", "_law_k"]) (C := (csCons (tySc K) (csLast tyInt))) (O := (owF tyInt)) (t := fun E => t_law_cell_at K) (ss := fun c => [(Sl.fz (tySc K) c.1), (Sl.fz tyInt c.2)]) (f := fun c => b_law_cell_at c.1 c.2) 2 0 (csn_cons csn_last) rfl (css_cons css_last) fun c E => ev_law_cell_at c
theorem ev_law {K : PySem.W.Frag} {E : XK} (c : (List Int)) : EvS K (t_law K) E [(Sl.fz (tySc K) c), Sl.dead, Sl.dead, Sl.dead, Sl.dead, Sl.dead, Sl.dead, Sl.dead, Sl.dead, Sl.dead] (b_law c) (fun _ : Unit => []) (fun _ : Unit => []) (owF tyBl) :=
  (s_asgO (i := 1) rfl (immo_l imm_int) (ev_lst (csn_cons csn_last) (csl_cons csl_last) (ea_cons (ev_op op_addI (ev_int 1) (ev_op op_modI (ev_callF0 (ea_cons (ev_var 0 rfl) (ea_last (ev_int 0)))) (ev_int 12))) (ea_last (ev_op op_addI (ev_int 1) (ev_op op_modI (ev_callF0 (ea_cons (ev_var 0 rfl) (ea_last (ev_int 1)))) (ev_int 12)))))) fun figures_1 => s_frz (i := 1) rfl (at_ [(Sl.fz (tySc K) c), (Sl.fz (tyL tyInt) figures_1), Sl.dead, Sl.dead, Sl.dead, Sl.dead, Sl.dead, Sl.dead, Sl.dead, Sl.dead] (s_asgO (i := 2) rfl (immo_lo (immo_i (immp_o (immo_f imm_int) (immp_o (immo_f imm_int) (immp_o (immo_f imm_int) (immp_o (immo_f imm_bl) immp_nil)))))) (ev_lstO (eao_cons (ev_make (ea_last (ev_op op_ixL (ev_var 1 rfl) (ev_int 0)))) (eao_cons (ev_make (ea_last (ev_op op_ixL (ev_var 1 rfl) (ev_int 1)))) eao_nil))) fun wheels_19 => (at_ [(Sl.fz (tySc K) c), (Sl.fz (tyL tyInt) figures_1), (Sl.ow (owLO (owI (gA K "Wheel") ["figures", "power", "kept", "over"] (psO (owF tyInt) (psO (owF tyInt) (psO (owF tyInt) (psO (owF tyBl) psNil)))))) wheels_19), Sl.dead, Sl.dead, Sl.dead, Sl.dead, Sl.dead, Sl.dead, Sl.dead] (s_asgOC (i := 3) rfl (ev_lst (csn_cons csn_last) (csl_cons csl_last) (ea_cons (EvO.fr (ev_hlO (csn_cons csn_last) (ea_cons (ev_int 0) (ea_last (ev_bl false))))) (ea_last (EvO.fr (ev_hlO (csn_cons csn_last) (ea_cons (ev_int 0) (ea_last (ev_bl false)))))))) fun kept_33 => (at_ [(Sl.fz (tySc K) c), (Sl.fz (tyL tyInt) figures_1), (Sl.ow (owLO (owI (gA K "Wheel") ["figures", "power", "kept", "over"] (psO (owF tyInt) (psO (owF tyInt) (psO (owF tyInt) (psO (owF tyBl) psNil)))))) wheels_19), (Sl.ow (owL (tyH (csCons tyInt (csLast tyBl)))) kept_33), Sl.dead, Sl.dead, Sl.dead, Sl.dead, Sl.dead, Sl.dead] (s_seq (LS := (fun s_48 : ((List (Int × Bool)) × (List (Int × (Int × (Int × (Bool × Unit)))))) => [(Sl.fz (tySc K) c), (Sl.fz (tyL tyInt) figures_1), (Sl.ow (owLO (owI (gA K "Wheel") ["figures", "power", "kept", "over"] (psO (owF tyInt) (psO (owF tyInt) (psO (owF tyInt) (psO (owF tyBl) psNil)))))) s_48.2), (Sl.ow (owL (tyH (csCons tyInt (csLast tyBl)))) s_48.1), Sl.dead, Sl.dead, Sl.dead, Sl.dead, Sl.dead, Sl.dead])) (s_weak (L' := [(Sl.fz (tySc K) c), (Sl.fz (tyL tyInt) figures_1), (Sl.ow (owLO (owI (gA K "Wheel") ["figures", "power", "kept", "over"] (psO (owF tyInt) (psO (owF tyInt) (psO (owF tyInt) (psO (owF tyBl) psNil)))))) wheels_19), (Sl.ow (owL (tyH (csCons tyInt (csLast tyBl)))) kept_33), Sl.dead, Sl.dead, Sl.dead, Sl.dead, Sl.dead, Sl.dead]) (.same (.same (.same (.same (.same (.same (.same (.same (.same (.same .nil)))))))))) (s_for (LS := (fun s_48 : ((List (Int × Bool)) × (List (Int × (Int × (Int × (Bool × Unit)))))) => [(Sl.fz (tySc K) c), (Sl.fz (tyL tyInt) figures_1), (Sl.ow (owLO (owI (gA K "Wheel") ["figures", "power", "kept", "over"] (psO (owF tyInt) (psO (owF tyInt) (psO (owF tyInt) (psO (owF tyBl) psNil)))))) s_48.2), (Sl.ow (owL (tyH (csCons tyInt (csLast tyBl)))) s_48.1), Sl.dead, Sl.dead, Sl.dead, Sl.dead, Sl.dead, Sl.dead])) (s0 := (kept_33, wheels_19)) (ei_l (EvO.fr (ev_slSc (ev_var 0 rfl) (ep_of (ev_int 2)) (ep_of (ev_int 82))))) (tg_name 4) fun s_48 x_54 => at_ [(Sl.fz (tySc K) c), (Sl.fz (tyL tyInt) figures_1), (Sl.ow (owLO (owI (gA K "Wheel") ["figures", "power", "kept", "over"] (psO (owF tyInt) (psO (owF tyInt) (psO (owF tyInt) (psO (owF tyBl) psNil)))))) s_48.2), (Sl.ow (owL (tyH (csCons tyInt (csLast tyBl)))) s_48.1), (Sl.fz tyInt x_54), Sl.dead, Sl.dead, Sl.dead, Sl.dead, Sl.dead] (s_asg (i := 5) rfl imm_int (ev_op op_modI (ev_var 4 rfl) (ev_int 2)) fun who_55 => (at_ [(Sl.fz (tySc K) c), (Sl.fz (tyL tyInt) figures_1), (Sl.ow (owLO (owI (gA K "Wheel") ["figures", "power", "kept", "over"] (psO (owF tyInt) (psO (owF tyInt) (psO (owF tyInt) (psO (owF tyBl) psNil)))))) s_48.2), (Sl.ow (owL (tyH (csCons tyInt (csLast tyBl)))) s_48.1), (Sl.fz tyInt x_54), (Sl.fz tyInt who_55), Sl.dead, Sl.dead, Sl.dead, Sl.dead] (s_asg (i := 6) rfl imm_int (ev_callF0 (ea_last (ev_op op_ixL (ev_var 1 rfl) (ev_var 5 rfl)))) fun full_58 => (at_ [(Sl.fz (tySc K) c), (Sl.fz (tyL tyInt) figures_1), (Sl.ow (owLO (owI (gA K "Wheel") ["figures", "power", "kept", "over"] (psO (owF tyInt) (psO (owF tyInt) (psO (owF tyInt) (psO (owF tyBl) psNil)))))) s_48.2), (Sl.ow (owL (tyH (csCons tyInt (csLast tyBl)))) s_48.1), (Sl.fz tyInt x_54), (Sl.fz tyInt who_55), (Sl.fz tyInt full_58), Sl.dead, Sl.dead, Sl.dead] (s_seq (LS := (fun s_69 : ((List (Int × (Int × (Int × (Bool × Unit))))) × (List (Int × Bool))) => [(Sl.fz (tySc K) c), (Sl.fz (tyL tyInt) figures_1), (Sl.ow (owLO (owI (gA K "Wheel") ["figures", "power", "kept", "over"] (psO (owF tyInt) (psO (owF tyInt) (psO (owF tyInt) (psO (owF tyBl) psNil)))))) s_69.1), (Sl.ow (owL (tyH (csCons tyInt (csLast tyBl)))) s_69.2), (Sl.fz tyInt x_54), (Sl.fz tyInt who_55), (Sl.fz tyInt full_58), Sl.dead, Sl.dead, Sl.dead])) (s_if (et_val (ev_op op_eqI (ev_op op_modI (ev_op op_divGI (ev_var 4 rfl) (ev_int 2)) (ev_int 7)) (ev_int 3))) (s_callMB (i := 2) (m := "reset") (ns := ["figures", "power", "kept", "over"]) (by decide +kernel) (immo_i (immp_o (immo_f imm_int) (immp_o (immo_f imm_int) (immp_o (immo_f imm_int) (immp_o (immo_f imm_bl) immp_nil))))) (evp_ix (evp_var rfl) (ev_var 5 rfl)) immc_nil ea_nil fun x_77 => (at_ [(Sl.fz (tySc K) c), (Sl.fz (tyL tyInt) figures_1), (Sl.ow (owLO (owI (gA K "Wheel") ["figures", "power", "kept", "over"] (psO (owF tyInt) (psO (owF tyInt) (psO (owF tyInt) (psO (owF tyBl) psNil)))))) x_77), (Sl.ow (owL (tyH (csCons tyInt (csLast tyBl)))) s_48.1), (Sl.fz tyInt x_54), (Sl.fz tyInt who_55), (Sl.fz tyInt full_58), Sl.dead, Sl.dead, Sl.dead] (s_end (s_setIO (O1 := (owH (csCons tyInt (csLast tyBl)))) (i := 3) rfl (immo_h (immc_cons imm_int (immc_last imm_bl))) (ev_hlO (csn_cons csn_last) (ea_cons (ev_int 0) (ea_last (ev_bl false)))) (ev_var 5 rfl) fun kept_82 => (at_ [(Sl.fz (tySc K) c), (Sl.fz (tyL tyInt) figures_1), (Sl.ow (owLO (owI (gA K "Wheel") ["figures", "power", "kept", "over"] (psO (owF tyInt) (psO (owF tyInt) (psO (owF tyInt) (psO (owF tyBl) psNil)))))) x_77), (Sl.ow (owL (tyH (csCons tyInt (csLast tyBl)))) kept_82), (Sl.fz tyInt x_54), (Sl.fz tyInt who_55), (Sl.fz tyInt full_58), Sl.dead, Sl.dead, Sl.dead] (s_nextW (.same (.same (.same (.same (.same (.same (.same (.same (.same (.same .nil)))))))))))))))) (s_asg (i := 7) rfl imm_int (ev_callF0 (ea_cons (ev_op op_divGI (ev_var 4 rfl) (ev_int 14)) (ea_cons (ev_var 6 rfl) (ea_last (ev_ixH (i := 0) at_0 (ev_op op_ixL (ev_varL 3 rfl) (ev_var 5 rfl))))))) fun value_here_83 => (at_ [(Sl.fz (tySc K) c), (Sl.fz (tyL tyInt) figures_1), (Sl.ow (owLO (owI (gA K "Wheel") ["figures", "power", "kept", "over"] (psO (owF tyInt) (psO (owF tyInt) (psO (owF tyInt) (psO (owF tyBl) psNil)))))) s_48.2), (Sl.ow (owL (tyH (csCons tyInt (csLast tyBl)))) s_48.1), (Sl.fz tyInt x_54), (Sl.fz tyInt who_55), (Sl.fz tyInt full_58), (Sl.fz tyInt value_here_83), Sl.dead, Sl.dead] (s_callMB (i := 2) (m := "rise") (ns := ["figures", "power", "kept", "over"]) (by decide +kernel) (immo_i (immp_o (immo_f imm_int) (immp_o (immo_f imm_int) (immp_o (immo_f imm_int) (immp_o (immo_f imm_bl) immp_nil))))) (evp_ix (evp_var rfl) (ev_var 5 rfl)) (immc_last imm_int) (ea_last (ev_var 7 rfl)) fun x_101 => (at_ [(Sl.fz (tySc K) c), (Sl.fz (tyL tyInt) figures_1), (Sl.ow (owLO (owI (gA K "Wheel") ["figures", "power", "kept", "over"] (psO (owF tyInt) (psO (owF tyInt) (psO (owF tyInt) (psO (owF tyBl) psNil)))))) x_101), (Sl.ow (owL (tyH (csCons tyInt (csLast tyBl)))) s_48.1), (Sl.fz tyInt x_54), (Sl.fz tyInt who_55), (Sl.fz tyInt full_58), (Sl.fz tyInt value_here_83), Sl.dead, Sl.dead] (s_asg (i := 8) rfl imm_int (ev_op op_addI (ev_ixH (i := 0) at_0 (ev_op op_ixL (ev_varL 3 rfl) (ev_var 5 rfl))) (ev_var 7 rfl)) fun total_102 => (at_ [(Sl.fz (tySc K) c), (Sl.fz (tyL tyInt) figures_1), (Sl.ow (owLO (owI (gA K "Wheel") ["figures", "power", "kept", "over"] (psO (owF tyInt) (psO (owF tyInt) (psO (owF tyInt) (psO (owF tyBl) psNil)))))) x_101), (Sl.ow (owL (tyH (csCons tyInt (csLast tyBl)))) s_48.1), (Sl.fz tyInt x_54), (Sl.fz tyInt who_55), (Sl.fz tyInt full_58), (Sl.fz tyInt value_here_83), (Sl.fz tyInt total_102), Sl.dead] (s_end (s_setIO (O1 := (owH (csCons tyInt (csLast tyBl)))) (i := 3) rfl (immo_h (immc_cons imm_int (immc_last imm_bl))) (ev_hlO (csn_cons csn_last) (ea_cons (ev_op op_modI (ev_var 8 rfl) (ev_var 6 rfl)) (ea_last (ev_or (ev_ixH (i := 1) (at_s at_last) (ev_op op_ixL (ev_varL 3 rfl) (ev_var 5 rfl))) (ev_op op_geI (ev_var 8 rfl) (ev_var 6 rfl)))))) (ev_var 5 rfl) fun kept_120 => (at_ [(Sl.fz (tySc K) c), (Sl.fz (tyL tyInt) figures_1), (Sl.ow (owLO (owI (gA K "Wheel") ["figures", "power", "kept", "over"] (psO (owF tyInt) (psO (owF tyInt) (psO (owF tyInt) (psO (owF tyBl) psNil)))))) x_101), (Sl.ow (owL (tyH (csCons tyInt (csLast tyBl)))) kept_120), (Sl.fz tyInt x_54), (Sl.fz tyInt who_55), (Sl.fz tyInt full_58), (Sl.fz tyInt value_here_83), (Sl.fz tyInt total_102), Sl.dead] (s_nextW (.same (.same (.same (.same (.same (.same (.same (.dead (.dead (.same .nil))))))))))))))))))))) fun s_69 => (at_ [(Sl.fz (tySc K) c), (Sl.fz (tyL tyInt) figures_1), (Sl.ow (owLO (owI (gA K "Wheel") ["figures", "power", "kept", "over"] (psO (owF tyInt) (psO (owF tyInt) (psO (owF tyInt) (psO (owF tyBl) psNil)))))) s_69.1), (Sl.ow (owL (tyH (csCons tyInt (csLast tyBl)))) s_69.2), (Sl.fz tyInt x_54), (Sl.fz tyInt who_55), (Sl.fz tyInt full_58), Sl.dead, Sl.dead, Sl.dead] (s_end (s_seq (LS := (fun _ : Unit => [(Sl.fz (tySc K) c), (Sl.fz (tyL tyInt) figures_1), (Sl.ow (owLO (owI (gA K "Wheel") ["figures", "power", "kept", "over"] (psO (owF tyInt) (psO (owF tyInt) (psO (owF tyInt) (psO (owF tyBl) psNil)))))) s_69.1), (Sl.ow (owL (tyH (csCons tyInt (csLast tyBl)))) s_69.2), (Sl.fz tyInt x_54), (Sl.fz tyInt who_55), (Sl.fz tyInt full_58), Sl.dead, Sl.dead, Sl.dead])) (s_weak (L' := [(Sl.fz (tySc K) c), (Sl.fz (tyL tyInt) figures_1), (Sl.ow (owLO (owI (gA K "Wheel") ["figures", "power", "kept", "over"] (psO (owF tyInt) (psO (owF tyInt) (psO (owF tyInt) (psO (owF tyBl) psNil)))))) s_69.1), (Sl.ow (owL (tyH (csCons tyInt (csLast tyBl)))) s_69.2), (Sl.fz tyInt x_54), (Sl.fz tyInt who_55), (Sl.fz tyInt full_58), Sl.dead, Sl.dead, Sl.dead]) (.same (.same (.same (.same (.same (.same (.same (.same (.same (.same .nil)))))))))) (s_for (LS := (fun _ : Unit => [(Sl.fz (tySc K) c), (Sl.fz (tyL tyInt) figures_1), (Sl.ow (owLO (owI (gA K "Wheel") ["figures", "power", "kept", "over"] (psO (owF tyInt) (psO (owF tyInt) (psO (owF tyInt) (psO (owF tyBl) psNil)))))) s_69.1), (Sl.ow (owL (tyH (csCons tyInt (csLast tyBl)))) s_69.2), (Sl.fz tyInt x_54), (Sl.fz tyInt who_55), (Sl.fz tyInt full_58), Sl.dead, Sl.dead, Sl.dead])) (s0 := ()) (ei_rng1 (ea_last (ev_int 2))) (tg_name 9) fun _ x_123 => at_ [(Sl.fz (tySc K) c), (Sl.fz (tyL tyInt) figures_1), (Sl.ow (owLO (owI (gA K "Wheel") ["figures", "power", "kept", "over"] (psO (owF tyInt) (psO (owF tyInt) (psO (owF tyInt) (psO (owF tyBl) psNil)))))) s_69.1), (Sl.ow (owL (tyH (csCons tyInt (csLast tyBl)))) s_69.2), (Sl.fz tyInt x_54), (Sl.fz tyInt who_55), (Sl.fz tyInt full_58), Sl.dead, Sl.dead, (Sl.fz tyInt x_123)] (s_if (et_not (et_val (ev_callF0 (ea_cons (ev_op op_ixL (ev_varLO (P := (psO (owF tyInt) (psO (owF tyInt) (psO (owF tyInt) (psO (owF tyBl) psNil))))) 2 rfl) (ev_var 9 rfl)) (ea_cons (ev_op op_ixL (ev_varL 3 rfl) (ev_var 9 rfl)) (ea_cons (ev_op op_ixL (ev_var 1 rfl) (ev_var 9 rfl)) (ea_last (ev_op op_modI (ev_op op_divGI (ev_var 4 rfl) (ev_int 28)) (ev_int 3))))))))) (s_ret (immo_f imm_bl) (EvF.ow (ev_bl false))) (s_nextW (.same (.same (.same (.same (.same (.same (.same (.same (.same (.dead .nil)))))))))))))) fun _ => (at_ [(Sl.fz (tySc K) c), (Sl.fz (tyL tyInt) figures_1), (Sl.ow (owLO (owI (gA K "Wheel") ["figures", "power", "kept", "over"] (psO (owF tyInt) (psO (owF tyInt) (psO (owF tyInt) (psO (owF tyBl) psNil)))))) s_69.1), (Sl.ow (owL (tyH (csCons tyInt (csLast tyBl)))) s_69.2), (Sl.fz tyInt x_54), (Sl.fz tyInt who_55), (Sl.fz tyInt full_58), Sl.dead, Sl.dead, Sl.dead] (s_nextW (.same (.same (.same (.same (.dead (.dead (.dead (.same (.same (.same .nil)))))))))))))))))))))) fun s_48 => (at_ [(Sl.fz (tySc K) c), (Sl.fz (tyL tyInt) figures_1), (Sl.ow (owLO (owI (gA K "Wheel") ["figures", "power", "kept", "over"] (psO (owF tyInt) (psO (owF tyInt) (psO (owF tyInt) (psO (owF tyBl) psNil)))))) s_48.2), (Sl.ow (owL (tyH (csCons tyInt (csLast tyBl)))) s_48.1), Sl.dead, Sl.dead, Sl.dead, Sl.dead, Sl.dead, Sl.dead] (s_ret (immo_f imm_bl) (EvF.ow (ev_and (ev_callF0 (ea_cons (ev_op op_ixL (ev_varLO (P := (psO (owF tyInt) (psO (owF tyInt) (psO (owF tyInt) (psO (owF tyBl) psNil))))) 2 rfl) (ev_int 0)) (ea_cons (ev_op op_ixL (ev_varL 3 rfl) (ev_int 0)) (ea_cons (ev_op op_ixL (ev_var 1 rfl) (ev_int 0)) (ea_last (ev_int 0)))))) (ev_callF0 (ea_cons (ev_op op_ixL (ev_varLO (P := (psO (owF tyInt) (psO (owF tyInt) (psO (owF tyInt) (psO (owF tyBl) psNil))))) 2 rfl) (ev_int 1)) (ea_cons (ev_op op_ixL (ev_varL 3 rfl) (ev_int 1)) (ea_cons (ev_op op_ixL (ev_var 1 rfl) (ev_int 1)) (ea_last (ev_int 2)))))))))))))))))
theorem rd_law_of (hf : ∀ ns : List Int, ns.length ≤ 63 → BitsOk ns → f_law ns = .ok true) {K : PySem.W.Frag} : RD_law K := by
  rintro vs H Q E ⟨a, ns, rfl, hS, hl, hb, q⟩
  refine fn_rd (K := K) (N := ["_law_script", "_law_figures", "_law_wheels", "_law_kept", "_law_cell", "_law_who", "_law_full", "_law_value_here", "_law_total", "_law_k"]) (C := (csLast (tySc K))) (O := owF tyBl) (t := fun E => t_law K) (ss := fun c => [(Sl.fz (tySc K) c)]) (f := fun c => b_law c) 1 9 csn_last rfl css_last (fun c E => ev_law c) _ H Q E ⟨H, ns, Same.refl _, ⟨_, rfl, a, rfl, hS⟩, ?_⟩
  show After K (f_law ns) E H H _
  rw [hf ns hl hb]
  rintro F' H' x v h _ _ _ ⟨_, rfl⟩
  exact q H'
end K31
namespace K31
open PySem PySem.Spec PyProof.Rows L2
local macro_rules | `(tactic| walk_at "mo") => `(tactic| simp only [Mo.okB, Mo.exB, Mo.noB, Mo.noexO, Mo.optS, thenO_nx, thenO_rt, thenO_bk, thenO_ct, fnO_rt, forO_nil, grd_div, grd_mod, grd_mulL, grd_T, Bool.not_true, Bool.not_false, if_true, if_false, Bool.false_eq_true, Option.map_some, Option.map_none, ite_true, ite_false, Int.reduceLT, Int.reduceLE, Int.reduceNeg, Int.reduceSub, Int.reduceAdd, Int.reduceMul, Nat.reduceAdd, Nat.reduceLT, decide_true, decide_false, Option.isSome_none, Option.isSome_some, Option.isNone_none, Option.isNone_some, Bool.and_true, Bool.and_false])
theorem cell_eq (ns : List Int) (k : Int) (h : 0 ≤ k) : ∃ c, f_law_cell_at ns k = .ok c := by
  unfold f_law_cell_at b_law_cell_at
  walk_at "mo"
  by_cases hk : k < (ns.length : Int)
  · obtain ⟨x, e, _⟩ := atI_some h hk
    rw [decide_eq_true hk, if_pos rfl, e]
    exact ⟨x, rfl⟩
  · rw [decide_eq_false hk, if_neg (by decide)]
    exact ⟨0, rfl⟩
theorem fold10 {α : Type} : ∀ (xs : List α) (a : Int), xs.foldl (fun s _ => 10 * s) a = 10 ^ xs.length * a
  | [], a => by simp
  | x :: xs, a => by rw [List.foldl_cons, fold10 xs, List.length_cons, Int.pow_succ, Int.mul_assoc]
theorem ten_to_eq {n : Int} (h0 : 0 ≤ n) (h1 : n ≤ 1000) : f_ten_to n = .ok (10 ^ n.toNat) := by
  unfold f_ten_to b_ten_to
  simp only [Mo.okB]
  rw [Mo.grd_ok ⟨by omega, by omega⟩, Mo.okB, forO_foldl (fun s _ => 10 * s) (fun s x _ => by rw [grd_mulR (by decide) (by decide)]; simp [Int.mul_comm]), fold10, rngI_len]
  simp
theorem pow10_pos (n : Nat) : (0 : Int) < 10 ^ n := Int.pow_pos (by decide)
theorem lg_small {v : Int} {n : Nat} (h0 : 0 ≤ v) (h1 : v < 10 ^ n) (hn : n ≤ 100) : v.natAbs.log2 < 1920 := by
  have h2 : v.natAbs < 10 ^ n := by
    have e1 : (10 : Int) ^ n = ((10 ^ n : Nat) : Int) := by rw [Int.natCast_pow]; rfl
    rw [e1] at h1; omega
  have h3 : 10 ^ n ≤ 10 ^ 100 := Nat.pow_le_pow_right (by decide) hn
  have h4 : (10 : Nat) ^ 100 < 2 ^ 1000 := by decide
  rcases log2_lt (Nat.lt_of_lt_of_le (Nat.lt_of_lt_of_le h2 h3) (Nat.le_of_lt h4)) with q | q
  · omega
  · rw [q]; decide
theorem zfL_digs {w : Nat} {v : Int} (hw : 1 ≤ w) (h0 : 0 ≤ v) (h1 : v < 10 ^ w) : zfL (strI v) (w : Int) = digs w v.toNat := by
  obtain ⟨m, rfl⟩ := Int.eq_ofNat_of_zero_le h0
  rw [strI_nat]
  have h2 : m < 10 ^ w := by
    have e1 : (10 : Int) ^ w = ((10 ^ w : Nat) : Int) := by rw [Int.natCast_pow]; rfl
    rw [e1] at h1; omega
  exact zfill_digs hw h2
theorem digit_mod (v : Int) {j w : Nat} (h : j < w) : ((v % 10 ^ w).toNat / 10 ^ j % 10 : Nat) = (v / 10 ^ j % 10).toNat := by
  have hp := pow10_pos j
  have hw := pow10_pos w
  obtain ⟨d, rfl⟩ : ∃ d, w = j + (d + 1) := ⟨w - j - 1, by omega⟩
  have e0 : v = v % 10 ^ (j + (d + 1)) + 10 ^ j * (10 * (10 ^ d * (v / 10 ^ (j + (d + 1))))) := by
    have := Int.emod_add_mul_ediv v (10 ^ (j + (d + 1)))
    rw [← Int.mul_assoc 10, ← Int.mul_assoc (10 ^ j), show (10 : Int) ^ j * (10 * 10 ^ d) = 10 ^ (j + (d + 1)) by rw [Int.pow_add, Int.pow_succ]; simp [Int.mul_comm, Int.mul_left_comm, Int.mul_assoc]]
    omega
  have h0 : 0 ≤ v % 10 ^ (j + (d + 1)) := Int.emod_nonneg v (Int.ne_of_gt hw)
  generalize v % 10 ^ (j + (d + 1)) = m at *
  generalize (10 ^ d * (v / 10 ^ (j + (d + 1)))) = q at *
  subst e0
  rw [Int.add_mul_ediv_left _ _ (Int.ne_of_gt hp), Int.add_mul_emod_self_left]
  obtain ⟨n, rfl⟩ := Int.eq_ofNat_of_zero_le h0
  rw [Int.toNat_natCast, show (10 : Int) ^ j = ((10 ^ j : Nat) : Int) by rw [Int.natCast_pow]; rfl]
  omega
theorem strI_digit {d : Int} (h0 : 0 ≤ d) (h1 : d < 10) : strI d = [48 + d.toNat] := by
  obtain ⟨m, rfl⟩ := Int.eq_ofNat_of_zero_le h0
  rw [strI_nat, dg_lt (by omega)]
  rfl
abbrev Whl := Int × (Int × (Int × (Bool × Unit)))
def whl (f : Nat) (k : Int) (o : Bool) : Whl := ((f : Int), 10 ^ f, k, o, ())
theorem power_eq {n : Nat} (h : n ≤ 100) : f_law_power n = .ok (10 ^ n) := by
  unfold f_law_power b_law_power
  walk_at "mo"
  rw [Mo.grd_ok ⟨by omega, by omega⟩]
  walk_at "mo"
  rw [forO_foldl (fun s _ => 10 * s) (fun s x _ => rfl), fold10, rngI_len]
  walk_at "mo"
  simp
theorem init_eq {f : Nat} (h : f ≤ 100) : f_Wheel___init__ () f = .ok ((), whl f 0 false) := by
  unfold f_Wheel___init__ b_Wheel___init__
  walk_at "mo"
  rw [ten_to_eq (by omega) (by omega)]
  rfl
theorem rise_eq {f : Nat} {k v : Int} {o : Bool} : f_Wheel_rise (whl f k o) v = .ok ((), whl f ((k + v) % 10 ^ f) (o || decide ((10 : Int) ^ f ≤ k + v))) := by
  unfold f_Wheel_rise b_Wheel_rise
  walk_at "mo"
  have e1 : (whl f k o).snd.fst = (10 : Int) ^ f := rfl
  have e2 : (whl f k o).snd.snd.fst = k := rfl
  rw [e1, e2]
  by_cases c : (10 : Int) ^ f ≤ k + v
  · rw [decide_eq_true c]
    walk_at "mo"
    rw [Mo.grd_ok (pow10_pos f), Bool.or_true]
    rfl
  · rw [decide_eq_false c]
    walk_at "mo"
    rw [e1, Mo.grd_ok (pow10_pos f), Bool.or_false]
    rfl
theorem reset_eq {f : Nat} {k : Int} {o : Bool} : f_Wheel_reset (whl f k o) = .ok ((), whl f 0 false) := rfl
theorem pad_ok {f : Nat} (h : f ≤ 12) : PadOk (f : Int) = true := by
  have : ∀ n : Nat, n ≤ 12 → PadOk (n : Int) = true := by decide
  exact this f h
theorem shown_eq {f : Nat} {k : Int} {o : Bool} (h1 : 1 ≤ f) (h2 : f ≤ 12) (h0 : 0 ≤ k) (hk : k < 10 ^ f) : f_Wheel_shown (whl f k o) = .ok (digs f k.toNat) := by
  unfold f_Wheel_shown b_Wheel_shown
  walk_at "mo"
  have e1 : (whl f k o).fst = (f : Int) := rfl
  have e2 : (whl f k o).snd.snd.fst = k := rfl
  rw [e1, e2, Mo.grd_ok (lg_small h0 hk (by omega)), Mo.okB, Mo.grd_ok (pad_ok h2), zfL_digs h1 h0 hk]
  rfl
theorem fig_at : ∀ d : Nat, d < 10 → atI [48, 49, 50, 51, 52, 53, 54, 55, 56, 57] (d : Int) = some (48 + d) := by decide
theorem lshown_eq {f : Nat} {k : Int} (h2 : f ≤ 12) (h0 : 0 ≤ k) (hk : k < 10 ^ f) : f_law_shown k f = .ok (digs f k.toNat) := by
  have ek : (k % 10 ^ f) = k := Int.emod_eq_of_lt h0 hk
  unfold f_law_shown b_law_shown
  walk_at "mo"
  rw [Mo.grd_ok ⟨by omega, by omega⟩]
  walk_at "mo"
  refine forO_elim (G := fun m => fnO (thenO m _) = _) (fun d s => s = (digs d.length (k % 10 ^ f).toNat, k / 10 ^ d.length)) (by simp [digs]) (fun d x s hx hs => ?_) (fun s hs => ?_)
  · obtain ⟨r, hr⟩ := hx
    have hd : d.length < f := by
      have := congrArg List.length hr
      rw [rngI_len, List.length_append, List.length_cons] at this
      omega
    subst hs
    have a0 : 0 ≤ k / 10 ^ d.length % 10 := Int.emod_nonneg _ (by decide)
    have a1 : k / 10 ^ d.length % 10 < 10 := Int.emod_lt_of_pos _ (by decide)
    have ea := fig_at (k / 10 ^ d.length % 10).toNat (by omega)
    rw [Int.toNat_of_nonneg a0] at ea
    refine ⟨_, by
      simp only
      rw [ea, Mo.lim_ok (by decide)]
      walk_at "mo"
      rw [Mo.lim_ok (by simp [digs_length]; omega)]
      walk_at "mo"
      rfl, ?_⟩
    rw [List.length_append, List.length_singleton, digs_front, digit_mod k hd, Int.pow_succ, ← Int.ediv_ediv_of_nonneg (Int.le_of_lt (pow10_pos _))]
    rfl
  · subst hs
    rw [rngI_len]
    show fnO _ = _
    walk_at "mo"
    rw [ek]
    rfl
theorem good_eq {f : Nat} {k : Int} {o : Bool} (h1 : 1 ≤ f) (h2 : f ≤ 12) (h0 : 0 ≤ k) (hk : k < 10 ^ f) (t : Int) : f_law_good (whl f k o) (k, o) f t = .ok true := by
  unfold f_law_good b_law_good
  walk_at "mo"
  rw [Mo.grd_ok (by decide)]
  walk_at "mo"
  rw [show f_Wheel_amount (whl f k o) = .ok k from rfl, show f_Wheel_ran_over (whl f k o) = .ok o from rfl, shown_eq h1 h2 h0 hk, lshown_eq h2 h0 hk]
  walk_at "mo"
  rw [show f_law_whole k = .ok true from rfl]
  walk_at "mo"
  rw [forO_all (fun x hx => ?_)]
  · rfl
  · by_cases c0 : (t + x) % 3 = 0
    · rw [decide_eq_true c0, decide_eq_false (by omega), decide_eq_false (by omega)]; simp
    · by_cases c1 : (t + x) % 3 = 1
      · rw [decide_eq_false c0, decide_eq_true c1, decide_eq_false (by omega)]; simp
      · rw [decide_eq_false c0, decide_eq_false c1, decide_eq_true (by omega)]; simp
theorem value_eq (c full kept : Int) : ∃ v, f_law_value c full kept = .ok v := by
  unfold f_law_value b_law_value
  walk_at "mo"
  by_cases c0 : c % 3 = 0
  · rw [decide_eq_true c0]; exact ⟨_, rfl⟩
  · rw [decide_eq_false c0]
    walk_at "mo"
    by_cases c1 : c % 3 = 1
    · rw [decide_eq_true c1]
      obtain ⟨v, ev⟩ := atI_any (xs := [0, 1, 9, full - 1, full, full + 1, full - kept, full - 1 - kept]) (k := c / 3 % 8) (by omega) (by simp; omega)
      rw [ev.1]; exact ⟨_, rfl⟩
    · rw [decide_eq_false c1]
      walk_at "mo"
      rw [Mo.grd_ok (by decide), Mo.okB, Mo.grd_ok (by decide)]
      exact ⟨_, rfl⟩
theorem at2_0 {α : Type} (a b : α) : atI [a, b] 0 = some a := rfl
theorem at2_1 {α : Type} (a b : α) : atI [a, b] 1 = some b := rfl
theorem ix2_0 : ixN 2 0 = some 0 := rfl
theorem ix2_1 : ixN 2 1 = some 1 := rfl
theorem len2 {α : Type} (a b : α) : [a, b].length = 2 := rfl
theorem g2_0 {α : Type} (a b : α) : [a, b][0]? = some a := rfl
theorem g2_1 {α : Type} (a b : α) : [a, b][1]? = some b := rfl
theorem s2_0 {α : Type} (a b c : α) : [a, b].set 0 c = [c, b] := rfl
theorem s2_1 {α : Type} (a b c : α) : [a, b].set 1 c = [a, c] := rfl
local macro_rules | `(tactic| walk_at "two") => `(tactic| simp only [at2_0, at2_1, ix2_0, ix2_1, len2, g2_0, g2_1, s2_0, s2_1])
local macro_rules | `(tactic| walk_at "tm") => `(tactic| repeat (first | walk_at "two" | walk_at "mo"))
theorem looked {BB : Type} {f0 f1 : Nat} {k0 k1 : Int} {o0 o1 : Bool} (a1 : 1 ≤ f0) (a2 : f0 ≤ 12) (b1 : 1 ≤ f1) (b2 : f1 ≤ 12) (p0 : 0 ≤ k0) (p1 : k0 < 10 ^ f0) (q0 : 0 ≤ k1) (q1 : k1 < 10 ^ f1) (t : Int) :
    forO (B := BB) (ρ := Bool) (fun (_ : Unit) (x_123 : Int) => ((((Mo.opt (atI [whl f0 k0 o0, whl f1 k1 o1] x_123)).bind fun a_138 => ((Mo.opt (atI [(k0, o0), (k1, o1)] x_123)).bind fun a_136 => ((Mo.opt (atI [(f0 : Int), (f1 : Int)] x_123)).bind fun a_134 => Mo.ok (a_134, t)).bind fun c_137 => Mo.ok (a_136, c_137)).bind fun c_139 => Mo.ok (a_138, c_139)).bind fun c_140 => (f_law_good c_140.fst c_140.snd.fst c_140.snd.snd.fst c_140.snd.snd.snd).noex).bind fun a_141 => Mo.ok !a_141).bind fun c_142 => if c_142 = true then Mo.ok (Out.rt false) else Mo.ok (Out.nx ())) (rngI 0 (Int.toNat 2)) () = .ok (.nx ()) := by
  refine forO_all fun x hx => ?_
  have := rngI_mem.mp hx
  have e2 : Int.toNat 2 = 2 := rfl
  rcases (show x = 0 ∨ x = 1 by omega) with rfl | rfl
  · walk_at "two"
    walk_at "mo"
    rw [good_eq a1 a2 p0 p1]; rfl
  · walk_at "two"
    walk_at "mo"
    rw [good_eq b1 b2 q0 q1]; rfl
theorem law_true (ns : List Int) (hl : ns.length ≤ 63) : f_law ns = .ok true := by
  unfold f_law b_law
  walk_at "mo"
  obtain ⟨c0, e0⟩ := cell_eq ns 0 (by omega)
  obtain ⟨c1, e1⟩ := cell_eq ns 1 (by omega)
  rw [e0, e1]
  walk_at "mo"
  obtain ⟨f0, hf0, a1, a2⟩ : ∃ f0 : Nat, (f0 : Int) = 1 + c0 % 12 ∧ 1 ≤ f0 ∧ f0 ≤ 12 := ⟨(1 + c0 % 12).toNat, by omega, by omega, by omega⟩
  obtain ⟨f1, hf1, b1, b2⟩ : ∃ f1 : Nat, (f1 : Int) = 1 + c1 % 12 ∧ 1 ≤ f1 ∧ f1 ≤ 12 := ⟨(1 + c1 % 12).toNat, by omega, by omega, by omega⟩
  rw [← hf0, ← hf1, show atI [(f0 : Int), (f1 : Int)] 0 = some (f0 : Int) from rfl, show atI [(f0 : Int), (f1 : Int)] 1 = some (f1 : Int) from rfl]
  walk_at "mo"
  rw [init_eq (by omega), init_eq (by omega)]
  walk_at "mo"
  rw [Mo.lim_ok (by simp)]
  walk_at "mo"
  refine forO_elim (G := fun m => fnO (thenO m _) = _) (fun d (s : List (Int × Bool) × List Whl) => ∃ k0 o0 k1 o1, s = ([(k0, o0), (k1, o1)], [whl f0 k0 o0, whl f1 k1 o1]) ∧ 0 ≤ k0 ∧ k0 < 10 ^ f0 ∧ 0 ≤ k1 ∧ k1 < 10 ^ f1) ⟨0, false, 0, false, rfl, by omega, pow10_pos _, by omega, pow10_pos _⟩ (fun d x s hx hs => ?_) (fun s hs => ?_)
  · obtain ⟨k0, o0, k1, o1, rfl, p0, p1, q0, q1⟩ := hs
    have m0 : ∀ v : Int, 0 ≤ v % 10 ^ f0 ∧ v % 10 ^ f0 < 10 ^ f0 := fun v => ⟨Int.emod_nonneg _ (Int.ne_of_gt (pow10_pos _)), Int.emod_lt_of_pos _ (pow10_pos _)⟩
    have m1 : ∀ v : Int, 0 ≤ v % 10 ^ f1 ∧ v % 10 ^ f1 < 10 ^ f1 := fun v => ⟨Int.emod_nonneg _ (Int.ne_of_gt (pow10_pos _)), Int.emod_lt_of_pos _ (pow10_pos _)⟩
    rcases (show x % 2 = 0 ∨ x % 2 = 1 by omega) with c | c
    · rw [c]
      walk_at "tm"
      rw [power_eq (by omega)]
      by_cases r : x / 2 % 7 = 3
      · rw [decide_eq_true r]
        walk_at "tm"
        rw [reset_eq]
        walk_at "tm"
        rw [Mo.grd_ok (by decide)]
        walk_at "tm"
        rw [looked a1 a2 b1 b2 (k0 := 0) (by omega) (pow10_pos _) q0 q1]
        exact ⟨_, rfl, 0, false, k1, o1, rfl, by omega, pow10_pos _, q0, q1⟩
      · rw [decide_eq_false r]
        obtain ⟨v, ev⟩ := value_eq (x / 14) (10 ^ f0) k0
        walk_at "tm"
        rw [ev]
        walk_at "tm"
        rw [rise_eq]
        walk_at "tm"
        rw [Mo.grd_ok (pow10_pos f0)]
        have eo : (if o0 = true then (Mo.ok true : Mo Bool) else Mo.ok (decide ((10 : Int) ^ f0 ≤ k0 + v))) = Mo.ok (o0 || decide ((10 : Int) ^ f0 ≤ k0 + v)) := by cases o0 <;> rfl
        walk_at "tm"
        rw [eo]
        walk_at "tm"
        rw [Mo.grd_ok (by decide)]
        walk_at "tm"
        rw [looked a1 a2 b1 b2 (m0 _).1 (m0 _).2 q0 q1]
        exact ⟨_, rfl, _, _, k1, o1, rfl, (m0 _).1, (m0 _).2, q0, q1⟩
    · rw [c]
      walk_at "tm"
      rw [power_eq (by omega)]
      by_cases r : x / 2 % 7 = 3
      · rw [decide_eq_true r]
        walk_at "tm"
        rw [reset_eq]
        walk_at "tm"
        rw [Mo.grd_ok (by decide)]
        walk_at "tm"
        rw [looked a1 a2 b1 b2 p0 p1 (k1 := 0) (by omega) (pow10_pos _)]
        exact ⟨_, rfl, k0, o0, 0, false, rfl, p0, p1, by omega, pow10_pos _⟩
      · rw [decide_eq_false r]
        obtain ⟨v, ev⟩ := value_eq (x / 14) (10 ^ f1) k1
        walk_at "tm"
        rw [ev]
        walk_at "tm"
        rw [rise_eq]
        walk_at "tm"
        rw [Mo.grd_ok (pow10_pos f1)]
        have eo : (if o1 = true then (Mo.ok true : Mo Bool) else Mo.ok (decide ((10 : Int) ^ f1 ≤ k1 + v))) = Mo.ok (o1 || decide ((10 : Int) ^ f1 ≤ k1 + v)) := by cases o1 <;> rfl
        walk_at "tm"
        rw [eo]
        walk_at "tm"
        rw [Mo.grd_ok (by decide)]
        walk_at "tm"
        rw [looked a1 a2 b1 b2 p0 p1 (m1 _).1 (m1 _).2]
        exact ⟨_, rfl, k0, o0, _, _, rfl, p0, p1, (m1 _).1, (m1 _).2⟩
  · obtain ⟨k0, o0, k1, o1, rfl, p0, p1, q0, q1⟩ := hs
    walk_at "mo"
    rw [show atI [whl f0 k0 o0, whl f1 k1 o1] 0 = some (whl f0 k0 o0) from rfl, show atI [whl f0 k0 o0, whl f1 k1 o1] 1 = some (whl f1 k1 o1) from rfl, show atI [(k0, o0), (k1, o1)] 0 = some (k0, o0) from rfl, show atI [(k0, o0), (k1, o1)] 1 = some (k1, o1) from rfl]
    walk_at "mo"
    rw [good_eq a1 a2 p0 p1, good_eq b1 b2 q0 q1]
    rfl
end K31
namespace K31
open PySem PySem.Spec PyProof.Rows L2
theorem rd_law {K : PySem.W.Frag} : RD_law K := rd_law_of (fun ns hl hb => law_true ns hl)
theorem all_mk {l : PySem.W.OpenLaw} {w : World} {K : PySem.W.Frag} {h : Heap} {mg : Str → Option Value} {fa : Addr} (X : K.In h) (G : h.Ns mainGlobals mg) (hfa : mg "law" = some (.ref fa))
    {f0 : Addr} {od0 an0 : Option Addr} {sl0 : Array (Option Value)} {oc0 kV0 dc0 pm0 cd0 ct0 : Value}
    {f1 : Addr} {od1 an1 : Option Addr} {sl1 : Array (Option Value)} {oc1 kV1 dc1 pm1 cd1 ct1 : Value}
    {f2 : Addr} {od2 an2 : Option Addr} {sl2 : Array (Option Value)} {oc2 kV2 dc2 pm2 cd2 ct2 : Value}
    {f3 : Addr} {od3 an3 : Option Addr} {sl3 : Array (Option Value)} {oc3 kV3 dc3 pm3 cd3 ct3 : Value}
    {f4 : Addr} {od4 an4 : Option Addr} {sl4 : Array (Option Value)} {oc4 kV4 dc4 pm4 cd4 ct4 : Value}
    {f5 : Addr} {od5 an5 : Option Addr} {sl5 : Array (Option Value)} {oc5 kV5 dc5 pm5 cd5 ct5 : Value}
    {f6 : Addr} {od6 an6 : Option Addr} {sl6 : Array (Option Value)} {oc6 kV6 dc6 pm6 cd6 ct6 : Value}
    {f7 : Addr} {od7 an7 : Option Addr} {sl7 : Array (Option Value)} {oc7 kV7 dc7 pm7 cd7 ct7 : Value}
    {f8 : Addr} {od8 an8 : Option Addr} {sl8 : Array (Option Value)} {oc8 kV8 dc8 pm8 cd8 ct8 : Value}
    {f9 : Addr} {od9 an9 : Option Addr} {sl9 : Array (Option Value)} {oc9 kV9 dc9 pm9 cd9 ct9 : Value}
    {f10 : Addr} {od10 an10 : Option Addr} {sl10 : Array (Option Value)} {oc10 kV10 dc10 pm10 cd10 ct10 : Value}
    {f11 : Addr} {od11 an11 : Option Addr} {sl11 : Array (Option Value)} {oc11 kV11 dc11 pm11 cd11 ct11 : Value}
    {f12 : Addr} {od12 an12 : Option Addr} {sl12 : Array (Option Value)} {oc12 kV12 dc12 pm12 cd12 ct12 : Value}
    {f13 : Addr} {od13 an13 : Option Addr} {sl13 : Array (Option Value)} {oc13 kV13 dc13 pm13 cd13 ct13 : Value}
    {cw0 : Addr} (w0 : PySem.W.nsIn K mainGlobals "Wheel" = some (some (.ref cw0))) (pg0 : PySem.W.plainGet K cw0 Str.empty = true) (hd0 : PySem.W.hasDictIn K cw0 = true) (po0 : PySem.W.plainOver K cw0 = true) (sa0 : PySem.W.findIn K (.ref cw0) "__setattr__" = some (some (.builtin "object.__setattr__"))) (mk0 : PySem.W.makesIn K cw0 = true) (kc0 : PySem.W.keepIn K (.ref cw0) = true)
    (na0 : PySem.W.findIn K (.ref cw0) "figures" = some none)
    (na1 : PySem.W.findIn K (.ref cw0) "power" = some none)
    (na2 : PySem.W.findIn K (.ref cw0) "kept" = some none)
    (na3 : PySem.W.findIn K (.ref cw0) "over" = some none)
    (a0 : PySem.W.nsIn K mainGlobals "ten_to" = some (some (.ref f0))) (l0 : K.lookup f0 = some ⟨oc0, od0, .func (PySem.W.fnOf "ten_to" "ten_to" (defArgs s_ten_to) (defBody s_ten_to) (defScope s_ten_to) .none kV0 dc0 pm0 an0 cd0 ct0), sl0⟩) (c0 : PySem.W.codeIn K cd0 "ten_to" = true) (k0 : PySem.W.keepIn K (.ref f0) = true)
    (a1 : PySem.W.findIn K (.ref cw0) "__init__" = some (some (.ref f1))) (i1 : PySem.W.isFn K (.ref f1) = true) (l1 : K.lookup f1 = some ⟨oc1, od1, .func (PySem.W.fnOf "__init__" "Wheel.__init__" (defArgs s_Wheel___init__) (defBody s_Wheel___init__) (defScope s_Wheel___init__) .none kV1 dc1 pm1 an1 cd1 ct1), sl1⟩) (c1 : PySem.W.codeIn K cd1 "Wheel.__init__" = true) (k1 : PySem.W.keepIn K (.ref f1) = true)
    (a2 : PySem.W.nsIn K mainGlobals "_law_power" = some (some (.ref f2))) (l2 : K.lookup f2 = some ⟨oc2, od2, .func (PySem.W.fnOf "_law_power" "_law_power" (defArgs s_law_power) (defBody s_law_power) (defScope s_law_power) .none kV2 dc2 pm2 an2 cd2 ct2), sl2⟩) (c2 : PySem.W.codeIn K cd2 "_law_power" = true) (k2 : PySem.W.keepIn K (.ref f2) = true)
    (a3 : PySem.W.findIn K (.ref cw0) "reset" = some (some (.ref f3))) (i3 : PySem.W.isFn K (.ref f3) = true) (l3 : K.lookup f3 = some ⟨oc3, od3, .func (PySem.W.fnOf "reset" "Wheel.reset" (defArgs s_Wheel_reset) (defBody s_Wheel_reset) (defScope s_Wheel_reset) .none kV3 dc3 pm3 an3 cd3 ct3), sl3⟩) (c3 : PySem.W.codeIn K cd3 "Wheel.reset" = true) (k3 : PySem.W.keepIn K (.ref f3) = true)
    (a4 : PySem.W.findIn K (.ref cw0) "rise" = some (some (.ref f4))) (i4 : PySem.W.isFn K (.ref f4) = true) (l4 : K.lookup f4 = some ⟨oc4, od4, .func (PySem.W.fnOf "rise" "Wheel.rise" (defArgs s_Wheel_rise) (defBody s_Wheel_rise) (defScope s_Wheel_rise) .none kV4 dc4 pm4 an4 cd4 ct4), sl4⟩) (c4 : PySem.W.codeIn K cd4 "Wheel.rise" = true) (k4 : PySem.W.keepIn K (.ref f4) = true)
    (a5 : PySem.W.findIn K (.ref cw0) "amount" = some (some (.ref f5))) (i5 : PySem.W.isFn K (.ref f5) = true) (l5 : K.lookup f5 = some ⟨oc5, od5, .func (PySem.W.fnOf "amount" "Wheel.amount" (defArgs s_Wheel_amount) (defBody s_Wheel_amount) (defScope s_Wheel_amount) .none kV5 dc5 pm5 an5 cd5 ct5), sl5⟩) (c5 : PySem.W.codeIn K cd5 "Wheel.amount" = true) (k5 : PySem.W.keepIn K (.ref f5) = true)
    (a6 : PySem.W.findIn K (.ref cw0) "shown" = some (some (.ref f6))) (i6 : PySem.W.isFn K (.ref f6) = true) (l6 : K.lookup f6 = some ⟨oc6, od6, .func (PySem.W.fnOf "shown" "Wheel.shown" (defArgs s_Wheel_shown) (defBody s_Wheel_shown) (defScope s_Wheel_shown) .none kV6 dc6 pm6 an6 cd6 ct6), sl6⟩) (c6 : PySem.W.codeIn K cd6 "Wheel.shown" = true) (k6 : PySem.W.keepIn K (.ref f6) = true)
    (a7 : PySem.W.findIn K (.ref cw0) "ran_over" = some (some (.ref f7))) (i7 : PySem.W.isFn K (.ref f7) = true) (l7 : K.lookup f7 = some ⟨oc7, od7, .func (PySem.W.fnOf "ran_over" "Wheel.ran_over" (defArgs s_Wheel_ran_over) (defBody s_Wheel_ran_over) (defScope s_Wheel_ran_over) .none kV7 dc7 pm7 an7 cd7 ct7), sl7⟩) (c7 : PySem.W.codeIn K cd7 "Wheel.ran_over" = true) (k7 : PySem.W.keepIn K (.ref f7) = true)
    (a8 : PySem.W.nsIn K mainGlobals "_law_whole" = some (some (.ref f8))) (l8 : K.lookup f8 = some ⟨oc8, od8, .func (PySem.W.fnOf "_law_whole" "_law_whole" (defArgs s_law_whole) (defBody s_law_whole) (defScope s_law_whole) .none kV8 dc8 pm8 an8 cd8 ct8), sl8⟩) (c8 : PySem.W.codeIn K cd8 "_law_whole" = true) (k8 : PySem.W.keepIn K (.ref f8) = true)
    (a9 : PySem.W.nsIn K mainGlobals "_law_shown" = some (some (.ref f9))) (l9 : K.lookup f9 = some ⟨oc9, od9, .func (PySem.W.fnOf "_law_shown" "_law_shown" (defArgs s_law_shown) (defBody s_law_shown) (defScope s_law_shown) .none kV9 dc9 pm9 an9 cd9 ct9), sl9⟩) (c9 : PySem.W.codeIn K cd9 "_law_shown" = true) (k9 : PySem.W.keepIn K (.ref f9) = true)
    (a10 : PySem.W.nsIn K mainGlobals "_law_good" = some (some (.ref f10))) (l10 : K.lookup f10 = some ⟨oc10, od10, .func (PySem.W.fnOf "_law_good" "_law_good" (defArgs s_law_good) (defBody s_law_good) (defScope s_law_good) .none kV10 dc10 pm10 an10 cd10 ct10), sl10⟩) (c10 : PySem.W.codeIn K cd10 "_law_good" = true) (k10 : PySem.W.keepIn K (.ref f10) = true)
    (a11 : PySem.W.nsIn K mainGlobals "_law_value" = some (some (.ref f11))) (l11 : K.lookup f11 = some ⟨oc11, od11, .func (PySem.W.fnOf "_law_value" "_law_value" (defArgs s_law_value) (defBody s_law_value) (defScope s_law_value) .none kV11 dc11 pm11 an11 cd11 ct11), sl11⟩) (c11 : PySem.W.codeIn K cd11 "_law_value" = true) (k11 : PySem.W.keepIn K (.ref f11) = true)
    (a12 : PySem.W.nsIn K mainGlobals "_law_cell_at" = some (some (.ref f12))) (l12 : K.lookup f12 = some ⟨oc12, od12, .func (PySem.W.fnOf "_law_cell_at" "_law_cell_at" (defArgs s_law_cell_at) (defBody s_law_cell_at) (defScope s_law_cell_at) .none kV12 dc12 pm12 an12 cd12 ct12), sl12⟩) (c12 : PySem.W.codeIn K cd12 "_law_cell_at" = true) (k12 : PySem.W.keepIn K (.ref f12) = true)
    (a13 : PySem.W.nsIn K mainGlobals "law" = some (some (.ref f13))) (l13 : K.lookup f13 = some ⟨oc13, od13, .func (PySem.W.fnOf "law" "law" (defArgs s_law) (defBody s_law) (defScope s_law) .none kV13 dc13 pm13 an13 cd13 ct13), sl13⟩) (c13 : PySem.W.codeIn K cd13 "law" = true) (k13 : PySem.W.keepIn K (.ref f13) = true)
    (z0 : PySem.W.nsIn K mainGlobals "range" = some none)
    (z1 : PySem.W.nsIn K mainGlobals "str" = some none)
    (z2 : PySem.W.nsIn K mainGlobals "isinstance" = some none)
    (z3 : PySem.W.nsIn K mainGlobals "int" = some none)
    (z4 : PySem.W.nsIn K mainGlobals "bool" = some none)
    (z5 : PySem.W.nsIn K mainGlobals "len" = some none) :
    ∃ fd : FuncData, (∀ (s : Shared) (v : Value), BindsTo s fd ⟨[v], []⟩ [("_law_script", v)]) ∧ ∀ base : Heap, K.In base → base.Ns mainGlobals mg → FnOk l.prog w K mg base CX0 4 fa fd ["_law_script"] (sp_law K) := by
  have e := hfa.symm.trans (PySem.W.mg_of X G a13)
  cases e
  have F0 := fun_mk (st := s_ten_to) l0 c0 k0
  have b0 := F0.binds (ps := ["power"]) fun _ _ _ _ _ _ us hl => match us, hl with | [_], _ => rfl
  have F1 := fun_mk (st := s_Wheel___init__) l1 c1 k1
  have b1 := F1.binds (ps := ["self", "figures"]) fun _ _ _ _ _ _ us hl => match us, hl with | [_, _], _ => rfl
  have F2 := fun_mk (st := s_law_power) l2 c2 k2
  have b2 := F2.binds (ps := ["_law_many"]) fun _ _ _ _ _ _ us hl => match us, hl with | [_], _ => rfl
  have F3 := fun_mk (st := s_Wheel_reset) l3 c3 k3
  have b3 := F3.binds (ps := ["self"]) fun _ _ _ _ _ _ us hl => match us, hl with | [_], _ => rfl
  have F4 := fun_mk (st := s_Wheel_rise) l4 c4 k4
  have b4 := F4.binds (ps := ["self", "value"]) fun _ _ _ _ _ _ us hl => match us, hl with | [_, _], _ => rfl
  have F5 := fun_mk (st := s_Wheel_amount) l5 c5 k5
  have b5 := F5.binds (ps := ["self"]) fun _ _ _ _ _ _ us hl => match us, hl with | [_], _ => rfl
  have F6 := fun_mk (st := s_Wheel_shown) l6 c6 k6
  have b6 := F6.binds (ps := ["self"]) fun _ _ _ _ _ _ us hl => match us, hl with | [_], _ => rfl
  have F7 := fun_mk (st := s_Wheel_ran_over) l7 c7 k7
  have b7 := F7.binds (ps := ["self"]) fun _ _ _ _ _ _ us hl => match us, hl with | [_], _ => rfl
  have F8 := fun_mk (st := s_law_whole) l8 c8 k8
  have b8 := F8.binds (ps := ["_law_found"]) fun _ _ _ _ _ _ us hl => match us, hl with | [_], _ => rfl
  have F9 := fun_mk (st := s_law_shown) l9 c9 k9
  have b9 := F9.binds (ps := ["_law_number", "_law_figures"]) fun _ _ _ _ _ _ us hl => match us, hl with | [_, _], _ => rfl
  have F10 := fun_mk (st := s_law_good) l10 c10 k10
  have b10 := F10.binds (ps := ["_law_wheel", "_law_kept", "_law_figures", "_law_turn"]) fun _ _ _ _ _ _ us hl => match us, hl with | [_, _, _, _], _ => rfl
  have F11 := fun_mk (st := s_law_value) l11 c11 k11
  have b11 := F11.binds (ps := ["_law_cell", "_law_full", "_law_kept"]) fun _ _ _ _ _ _ us hl => match us, hl with | [_, _, _], _ => rfl
  have F12 := fun_mk (st := s_law_cell_at) l12 c12 k12
  have b12 := F12.binds (ps := ["_law_script", "_law_k"]) fun _ _ _ _ _ _ us hl => match us, hl with | [_, _], _ => rfl
  have F13 := fun_mk (st := s_law) l13 c13 k13
  refine ⟨PySem.W.fnOf "law" "law" (defArgs s_law) (defBody s_law) (defScope s_law) .none kV13 dc13 pm13 an13 cd13 ct13, fun s v => .of_eq rfl, fun base _ _ => ?_⟩
  have B_range : Gb mg "range" := PySem.W.mg_none_of X G z0
  have B_str : Gb mg "str" := PySem.W.mg_none_of X G z1
  have B_isinstance : Gb mg "isinstance" := PySem.W.mg_none_of X G z2
  have B_int : Gb mg "int" := PySem.W.mg_none_of X G z3
  have B_bool : Gb mg "bool" := PySem.W.mg_none_of X G z4
  have B_len : Gb mg "len" := PySem.W.mg_none_of X G z5
  have CL_Wheel : Cls K (gA K "Wheel") := by rw [gA_of w0]; exact ⟨pg0, hd0, po0, sa0⟩
  have NA_Wheel_figures : NoAttr K (gA K "Wheel") "figures" := by rw [gA_of w0]; exact na0
  have NA_Wheel_power : NoAttr K (gA K "Wheel") "power" := by rw [gA_of w0]; exact na1
  have NA_Wheel_kept : NoAttr K (gA K "Wheel") "kept" := by rw [gA_of w0]; exact na2
  have NA_Wheel_over : NoAttr K (gA K "Wheel") "over" := by rw [gA_of w0]; exact na3
  have G_ten_to : Gd l.prog w K mg base CX0 1 "ten_to" ["power"] (sp_ten_to K) := ⟨_, _, ok_ten_to B_range F0 len_ten_to rd_ten_to, PySem.W.mg_of X G a0, k0, b0⟩
  have G_Wheel___init__ : Gk l.prog w K mg base CX0 2 "Wheel" (gA K "Wheel") ["self", "figures"] (sp_Wheel___init__ K) := ⟨_, _, ok_Wheel___init__ G_ten_to CL_Wheel NA_Wheel_figures NA_Wheel_power NA_Wheel_kept NA_Wheel_over F1 len_Wheel___init__ rd_Wheel___init__, (by rw [gA_of w0]; exact ⟨mk0, a1, i1, kc0⟩), (by rw [gA_of w0]; exact PySem.W.mg_of X G w0), b1⟩
  have G_law_power : Gd l.prog w K mg base CX0 1 "_law_power" ["_law_many"] (sp_law_power K) := ⟨_, _, ok_law_power B_range F2 len_law_power rd_law_power, PySem.W.mg_of X G a2, k2, b2⟩
  have G_Wheel_reset : Gm l.prog w K mg base CX0 1 (gA K "Wheel") "reset" ["self"] (sp_Wheel_reset K) := ⟨_, _, ok_Wheel_reset CL_Wheel NA_Wheel_kept NA_Wheel_over F3 len_Wheel_reset rd_Wheel_reset, CL_Wheel, (by rw [gA_of w0]; exact ⟨a3, i3, k3⟩), b3⟩
  have G_Wheel_rise : Gm l.prog w K mg base CX0 1 (gA K "Wheel") "rise" ["self", "value"] (sp_Wheel_rise K) := ⟨_, _, ok_Wheel_rise CL_Wheel NA_Wheel_kept NA_Wheel_power NA_Wheel_over F4 len_Wheel_rise rd_Wheel_rise, CL_Wheel, (by rw [gA_of w0]; exact ⟨a4, i4, k4⟩), b4⟩
  have G_Wheel_amount : Gm l.prog w K mg base CX0 1 (gA K "Wheel") "amount" ["self"] (sp_Wheel_amount K) := ⟨_, _, ok_Wheel_amount CL_Wheel NA_Wheel_kept F5 len_Wheel_amount rd_Wheel_amount, CL_Wheel, (by rw [gA_of w0]; exact ⟨a5, i5, k5⟩), b5⟩
  have G_Wheel_shown : Gm l.prog w K mg base CX0 1 (gA K "Wheel") "shown" ["self"] (sp_Wheel_shown K) := ⟨_, _, ok_Wheel_shown B_str CL_Wheel NA_Wheel_kept NA_Wheel_figures F6 len_Wheel_shown rd_Wheel_shown, CL_Wheel, (by rw [gA_of w0]; exact ⟨a6, i6, k6⟩), b6⟩
  have G_Wheel_ran_over : Gm l.prog w K mg base CX0 1 (gA K "Wheel") "ran_over" ["self"] (sp_Wheel_ran_over K) := ⟨_, _, ok_Wheel_ran_over CL_Wheel NA_Wheel_over F7 len_Wheel_ran_over rd_Wheel_ran_over, CL_Wheel, (by rw [gA_of w0]; exact ⟨a7, i7, k7⟩), b7⟩
  have G_law_whole : Gd l.prog w K mg base CX0 1 "_law_whole" ["_law_found"] (sp_law_whole K) := ⟨_, _, ok_law_whole B_isinstance B_int B_bool F8 len_law_whole rd_law_whole, PySem.W.mg_of X G a8, k8, b8⟩
  have G_law_shown : Gd l.prog w K mg base CX0 1 "_law_shown" ["_law_number", "_law_figures"] (sp_law_shown K) := ⟨_, _, ok_law_shown B_range F9 len_law_shown rd_law_shown, PySem.W.mg_of X G a9, k9, b9⟩
  have G_law_good : Gd l.prog w K mg base CX0 2 "_law_good" ["_law_wheel", "_law_kept", "_law_figures", "_law_turn"] (sp_law_good K) := ⟨_, _, ok_law_good G_Wheel_amount G_law_whole G_Wheel_shown G_law_shown G_Wheel_ran_over B_range B_isinstance B_str B_bool F10 len_law_good rd_law_good, PySem.W.mg_of X G a10, k10, b10⟩
  have G_law_value : Gd l.prog w K mg base CX0 1 "_law_value" ["_law_cell", "_law_full", "_law_kept"] (sp_law_value K) := ⟨_, _, ok_law_value  F11 len_law_value rd_law_value, PySem.W.mg_of X G a11, k11, b11⟩
  have G_law_cell_at : Gd l.prog w K mg base CX0 1 "_law_cell_at" ["_law_script", "_law_k"] (sp_law_cell_at K) := ⟨_, _, ok_law_cell_at B_len F12 len_law_cell_at rd_law_cell_at, PySem.W.mg_of X G a12, k12, b12⟩
  exact ok_law (P := l.prog) (w := w) (base := base) G_law_cell_at G_Wheel___init__ G_law_power G_Wheel_reset G_law_value G_Wheel_rise G_law_good B_range F13 len_law rd_law
theorem walk {l : PySem.W.OpenLaw} {q : Program} {loose : List Str} {XP : (Str → Option Value) → Heap → Prop} {YP : World → Heap → Prop} {d : DefRec} {K : Params → PySem.W.Frag} (hn : l.most = some 63) (hdf : d.params.defaults = [])
    (hY : ∀ (w : World) (h : Heap), YP w h → (K w.params).In h)
    (F : ∀ (w : World) (mg : Str → Option Value) (fa : Addr) (h : Heap), (K w.params).In h → h.Ns mainGlobals mg → mg d.name = some (.ref fa) →
      ∃ fd : FuncData, (∀ (s : Shared) (u : Value), BindsTo s fd ⟨[u], []⟩ [("_law_script", u)]) ∧ ∀ base : Heap, (K w.params).In base → base.Ns mainGlobals mg → FnOk l.prog w (K w.params) mg base CX0 4 fa fd ["_law_script"] (sp_law (K w.params))) :
    PySem.W.WalkO q loose XP YP l.row.toRowW d [] (fun f vs => PySem.call f vs) :=
  L2.walk_ofB (n := 63) (k := 4) (x := "_law_script") (CX := fun _ => CX0) (sp := fun w => sp_law (K w.params)) hn (by decide) hdf ⟨rfl, by decide, by decide⟩ hY F (fun _ _ a ns hl hb _ hS => ⟨a, ns, rfl, hS, hl, hb, fun _ => rfl⟩) fun _ _ _ _ _ z => z
end K31
open PySem PySem.W PyProof.Rows
set_option maxRecDepth 100000 in
set_option maxHeartbeats 0 in
theorem PySem.Challenge.cw_cardshop_k31_a_wheel_holds : PySem.Challenge.rw_cardshop_k31_a_wheel.Holds := by
  w_on; o_law; k_head; (case hw => w_witness2)
  k_fill
  refine K31.walk (l := PySem.Challenge.rw_cardshop_k31_a_wheel) rfl rfl (fun w h Y => PySem.W.kIn_of Y) ?F
  case F =>
    intro w mg fa h KX G hmg
    refine' K31.all_mk KX G hmg ?w0 ?pg0 ?hd0 ?po0 ?sa0 ?mk0 ?kc0 ?na0 ?na1 ?na2 ?na3 ?a0 ?l0 ?c0 ?k0 ?a1 ?i1 ?l1 ?c1 ?k1 ?a2 ?l2 ?c2 ?k2 ?a3 ?i3 ?l3 ?c3 ?k3 ?a4 ?i4 ?l4 ?c4 ?k4 ?a5 ?i5 ?l5 ?c5 ?k5 ?a6 ?i6 ?l6 ?c6 ?k6 ?a7 ?i7 ?l7 ?c7 ?k7 ?a8 ?l8 ?c8 ?k8 ?a9 ?l9 ?c9 ?k9 ?a10 ?l10 ?c10 ?k10 ?a11 ?l11 ?c11 ?k11 ?a12 ?l12 ?c12 ?k12 ?a13 ?l13 ?c13 ?k13 ?z0 ?z1 ?z2 ?z3 ?z4 ?z5
    (case w0 => k_is)
    (case pg0 => k_is)
    (case hd0 => k_is)
    (case po0 => k_is)
    (case sa0 => k_is)
    (case mk0 => k_is)
    (case kc0 => k_is)
    (case na0 => k_is)
    (case na1 => k_is)
    (case na2 => k_is)
    (case na3 => k_is)
    (case a0 => k_is)
    (case l0 => k_is)
    (case c0 => k_is)
    (case k0 => k_is)
    (case a1 => k_is)
    (case i1 => k_is)
    (case l1 => k_is)
    (case c1 => k_is)
    (case k1 => k_is)
    (case a2 => k_is)
    (case l2 => k_is)
    (case c2 => k_is)
    (case k2 => k_is)
    (case a3 => k_is)
    (case i3 => k_is)
    (case l3 => k_is)
    (case c3 => k_is)
    (case k3 => k_is)
    (case a4 => k_is)
    (case i4 => k_is)
    (case l4 => k_is)
    (case c4 => k_is)
    (case k4 => k_is)
    (case a5 => k_is)
    (case i5 => k_is)
    (case l5 => k_is)
    (case c5 => k_is)
    (case k5 => k_is)
    (case a6 => k_is)
    (case i6 => k_is)
    (case l6 => k_is)
    (case c6 => k_is)
    (case k6 => k_is)
    (case a7 => k_is)
    (case i7 => k_is)
    (case l7 => k_is)
    (case c7 => k_is)
    (case k7 => k_is)
    (case a8 => k_is)
    (case l8 => k_is)
    (case c8 => k_is)
    (case k8 => k_is)
    (case a9 => k_is)
    (case l9 => k_is)
    (case c9 => k_is)
    (case k9 => k_is)
    (case a10 => k_is)
    (case l10 => k_is)
    (case c10 => k_is)
    (case k10 => k_is)
    (case a11 => k_is)
    (case l11 => k_is)
    (case c11 => k_is)
    (case k11 => k_is)
    (case a12 => k_is)
    (case l12 => k_is)
    (case c12 => k_is)
    (case k12 => k_is)
    (case a13 => k_is)
    (case l13 => k_is)
    (case c13 => k_is)
    (case k13 => k_is)
    (case z0 => k_is)
    (case z1 => k_is)
    (case z2 => k_is)
    (case z3 => k_is)
    (case z4 => k_is)
    (case z5 => k_is)
#print axioms PySem.Challenge.cw_cardshop_k31_a_wheel_holds
