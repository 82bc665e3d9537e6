import PyProof.Rows.All
import Wide.All
import OpenK.AllK
import Wide.FinOn
import Lean
import PyProof.EqAt
import PyProof.EqKinds
import PyProof.TupleCall
import PyProof.StrLawsRepr
import PyProof.NeKinds
import KE.KPairComp
import PySem.Challenge.RW_cardshop_k16_what_a_sense_tells
set_option Elab.async false
set_option linter.all false
set_option maxRecDepth 100000
set_option maxHeartbeats 4000000
namespace L2
open PySem PySem.Spec PyProof.Rows
abbrev Key := Sum Int Str
def keyIs : Key → Value → Bool
  | .inl k, v => Value.isInt k v
  | .inr x, v => Value.isStrOf x v
def keyH (w : World) : Key → Int
  | .inl k => hashInt k
  | .inr x => hashStr w x
theorem keyIs_shape : ∀ {k : Key} {v : Value}, keyIs k v = true → (∃ i t, k = Sum.inl i ∧ v = Value.int i t) ∨ (∃ x t, k = Sum.inr x ∧ v = Value.str x t)
  | .inl i, v, h => by
    obtain ⟨t, e⟩ := Value.isInt_shape (k := i) (v := v) h
    exact .inl ⟨i, t, rfl, e⟩
  | .inr x, v, h => by
    obtain ⟨t, e⟩ := Value.isStrOf_shape (x := x) (v := v) h
    exact .inr ⟨x, t, rfl, e⟩
theorem keyIs_int (i : Int) (t : Tok) : keyIs (.inl i) (.int i t) = true := by simp [keyIs, Value.isInt]
theorem keyIs_str (x : Str) (t : Tok) : keyIs (.inr x) (.str x t) = true := by simp [keyIs, Value.isStrOf]
theorem key_ll (a b : Int) : decide ((Sum.inl a : Key) = Sum.inl b) = (a == b) := by
  by_cases e : a = b
  · subst e; simp
  · have h : ¬ (Sum.inl a : Key) = Sum.inl b := fun q => e (Sum.inl.inj q)
    rw [decide_eq_false h]
    exact (beq_eq_false_iff_ne.mpr e).symm
theorem key_rr (a b : Str) : decide ((Sum.inr a : Key) = Sum.inr b) = decide (a = b) := by
  by_cases e : a = b
  · subst e; simp
  · have h : ¬ (Sum.inr a : Key) = Sum.inr b := fun q => e (Sum.inr.inj q)
    rw [decide_eq_false h, decide_eq_false e]
theorem key_lr (a : Int) (b : Str) : decide ((Sum.inl a : Key) = Sum.inr b) = false := decide_eq_false (fun q => nomatch q)
theorem key_rl (a : Str) (b : Int) : decide ((Sum.inr a : Key) = Sum.inl b) = false := decide_eq_false (fun q => nomatch q)
def mixKind (prog : Program) (w : World) : PySem.KeyKind prog w Key where
  is := keyIs
  hash := keyH w
  inj := fun v a b ha hb => by
    rcases keyIs_shape ha with ⟨i, t, rfl, rfl⟩ | ⟨x, t, rfl, rfl⟩
    · rcases keyIs_shape hb with ⟨j, u, rfl, e⟩ | ⟨y, u, rfl, e⟩
      · injection e with e1 _; rw [e1]
      · exact nomatch e
    · rcases keyIs_shape hb with ⟨j, u, rfl, e⟩ | ⟨y, u, rfl, e⟩
      · exact nomatch e
      · injection e with e1 _; rw [e1]
  byValue := fun k v h => by
    rcases keyIs_shape h with ⟨i, t, rfl, rfl⟩ | ⟨x, t, rfl, rfl⟩ <;> rfl
  pyHash := fun hv h => by
    rcases keyIs_shape hv with ⟨i, t, rfl, rfl⟩ | ⟨x, t, rfl, rfl⟩
    · exact wpAny_pyHash_int h
    · exact wpAny_pyHash_str h
  eqBool := fun hu hv h => by
    rcases keyIs_shape hu with ⟨i, t, rfl, rfl⟩ | ⟨x, t, rfl, rfl⟩
    · rcases keyIs_shape hv with ⟨j, u, rfl, rfl⟩ | ⟨y, u, rfl, rfl⟩
      · rw [key_ll] at h; exact wpAny_eqBool_int h
      · rw [key_lr] at h; exact SeqAt.EqAt.int_str i t y u _ _ _ _ h
    · rcases keyIs_shape hv with ⟨j, u, rfl, rfl⟩ | ⟨y, u, rfl, rfl⟩
      · rw [key_rl] at h; exact SeqAt.EqAt.str_int x t j u _ _ _ _ h
      · rw [key_rr] at h; exact wpAny_eqBool_str h
  «strs» := fun k x t v h => by
    rcases keyIs_shape h with ⟨i, u, rfl, e⟩ | ⟨y, u, rfl, e⟩
    · exact nomatch e
    · injection e with e1 _
      subst e1
      cases v <;> rfl
theorem mixKind_int (prog : Program) (w : World) (i : Int) (t : Tok) : (mixKind prog w).is (.inl i) (.int i t) = true := keyIs_int i t
theorem mixKind_str (prog : Program) (w : World) (x : Str) (t : Tok) : (mixKind prog w).is (.inr x) (.str x t) = true := keyIs_str x t
end L2
namespace L2
open PySem PySem.Spec PyProof.Rows
inductive V where
  | non | bl (b : Bool) | int (i : Int) | str (x : Str) | byt (b : Array UInt8) | flt (b : UInt64) | ref (a : Addr) | ty (n : String)
  deriving DecidableEq
def RelV : V → Value → Prop
  | .non, u => u = Value.none
  | .bl b, u => u = Value.bool b
  | .int i, u => ∃ t, u = Value.int i t
  | .str x, u => ∃ t, u = Value.str x t
  | .byt b, u => ∃ t, u = Value.bytes b t
  | .flt b, u => ∃ t, u = Value.float b t
  | .ref a, u => u = Value.ref a
  | .ty n, u => u = Value.type n
abbrev Vals : List V → List Value → Prop := Paired RelV
theorem Vals.length {xs : List V} {us : List Value} (r : Vals xs us) : xs.length = us.length := Paired.length r
theorem Vals.get : ∀ {xs : List V} {us : List Value} {i : Nat} {x : V}, Vals xs us → xs[i]? = some x → ∃ u, us[i]? = some u ∧ RelV x u
  | _, _, _, _, .nil, e => by simp at e
  | _, _, 0, _, .cons r _, e => by simp at e; subst e; exact ⟨_, rfl, r⟩
  | _, _, i + 1, x, .cons _ t, e => by
    obtain ⟨u, h1, h2⟩ := Vals.get (i := i) (x := x) t (by simpa using e)
    exact ⟨u, by simpa using h1, h2⟩
theorem Vals.set {x : V} {u : Value} (r : RelV x u) : ∀ {xs : List V} {us : List Value} (i : Nat), Vals xs us → Vals (xs.set i x) (us.set i u)
  | _, _, _, .nil => .nil
  | _, _, 0, .cons _ t => .cons r t
  | _, _, i + 1, .cons q t => .cons q (Vals.set r i t)
theorem Vals.append : ∀ {xs ys : List V} {us ws : List Value}, Vals xs us → Vals ys ws → Vals (xs ++ ys) (us ++ ws)
  | _, _, _, _, .nil, s => s
  | _, _, _, _, .cons r t, s => .cons r (Vals.append t s)
theorem Vals.take : ∀ {xs : List V} {us : List Value} (n : Nat), Vals xs us → Vals (xs.take n) (us.take n)
  | _, _, 0, _ => .nil
  | _, _, _ + 1, .nil => .nil
  | _, _, n + 1, .cons r t => .cons r (Vals.take n t)
theorem Vals.drop : ∀ {xs : List V} {us : List Value} (n : Nat), Vals xs us → Vals (xs.drop n) (us.drop n)
  | _, _, 0, r => r
  | _, _, _ + 1, .nil => .nil
  | _, _, n + 1, .cons _ t => Vals.drop n t
def RelO : Option V → Option Value → Prop
  | some v, some u => RelV v u
  | none, none => True
  | _, _ => False
def KV {κ : Type} : List (κ × V) → List (κ × Value) → Prop := Paired fun (p : κ × V) (q : κ × Value) => p.1 = q.1 ∧ RelV p.2 q.2
def kV : Key → V
  | .inl i => .int i
  | .inr x => .str x
inductive HO where
  | lst (xs : List V)
  | tup (xs : List V)
  | dK (kvs : List (Key × V)) | dT (kvs : List (List Key × V))
  | set (S : Int → Bool) (n : Nat)
  | ins (C dx : Addr) (fs : List (Str × V))
  | own (x : Addr)
  | xd (fs : List (Str × V))
  | met (f x : Addr)
  | rng (lo hi : Int)
  | frz (o : Obj) (u : HO)
  | tbl (ps : Array Value)
  | ext (φ : Heap → Prop)
abbrev Hp := Addr → Option HO
def upd (H : Hp) (a : Addr) (o : HO) : Hp := fun b => if b = a then some o else H b
theorem upd_same {H : Hp} {a : Addr} {o : HO} : upd H a o a = some o := by unfold upd; rw [if_pos rfl]
theorem upd_ne {H : Hp} {a b : Addr} {o : HO} (h : b ≠ a) : upd H a o b = H b := by unfold upd; rw [if_neg h]
theorem ne_of {H : Hp} {a b : Addr} {o u : HO} (h : H a = some o) (h' : H b = some u) (d : o ≠ u) : a ≠ b := by
  intro e; subst e; rw [h] at h'; exact d (Option.some.inj h')
theorem ne_of_none {H : Hp} {a b : Addr} {o : HO} (h : H a = some o) (h' : H b = none) : a ≠ b := by
  intro e; subst e; rw [h] at h'; cases h'
section
variable (P : Program) (w : World)
def ObjOk (H : Hp) (h : Heap) (a : Addr) : HO → Prop
  | .lst xs => xs.length ≤ sizeLine ∧ ∃ (its : List Value) (n : Nat), Vals xs its ∧ h.get? a = some { cls := .type "list", data := .seq its.toArray n }
  | .tup xs => xs.length ≤ sizeLine ∧ ∃ its : List Value, Vals xs its ∧ IsTup h a its.toArray
  | .dK kvs => kvs.length ≤ sizeLine ∧ (a == sysModules) = false ∧ ∃ vs, KV kvs vs ∧ h.DictOf (mixKind P w) a vs
  | .dT kvs => kvs.length ≤ sizeLine ∧ (a == sysModules) = false ∧ ∃ xs : List (List Key × Addr × Value),
      Paired (fun (p : List Key × V) (q : List Key × Addr × Value) => p.1 = q.1 ∧ H q.2.1 = some (.tup (p.1.map kV)) ∧ RelV p.2 q.2.2) kvs xs ∧
      ∃ o es ep, h.get? a = some o ∧ o.ExactDict ∧ o.data = .dict es ep ∧ es.toList = xs.map (entryOfKey (tupleKind (mixKind P w))) ∧ (xs.map (·.1)).Nodup
  | .set S n => h.SetOf (intKind P w) a S n
  | .ins C dx fs => H dx = some (.own a) ∧ fs.length ≤ 1000 ∧ dx ≠ a ∧ h.get? a = some (PySem.W.instObj C dx) ∧
      ∃ mA, h.Ns1 dx mA ∧ (∀ f, RelO (fs.lookup f) (mA f)) ∧ PySem.Within mA (fs.map (·.1))
  | .own _ => ∃ o, h.get? a = some o
  | .xd fs => ∃ mA, h.Ns1 a mA ∧ ∀ f, RelO (fs.lookup f) (mA f)
  | .rng lo hi => ∃ t u v, h.get? a = some { cls := .type "range", data := .fields #[.int lo t, .int hi u, .int 1 v] }
  | .frz o u => h.get? a = some o ∧ ObjOk H h a u
  | .tbl ps => h.get? a = some { cls := .none, data := .fields ps }
  | .met f x => h.get? a = some (PySem.W.methodObj (.ref f) (.ref x))
  | .ext φ => φ h ∧ (∃ o, h.get? a = some o) ∧ ∀ h1 h2 : Heap, φ h1 → (∀ o, h1.get? a = some o → h2.get? a = some o) → φ h2
def HOk (H : Hp) (h : Heap) : Prop := ∀ a o, H a = some o → ObjOk P w H h a o
end
section
variable {P : Program} {w : World} {H H' : Hp} {h h' : Heap} {a : Addr} {o : HO}
theorem ObjOk.lt (x : ObjOk P w H h a o) : a < h.objs.size := by
  cases o with
  | lst xs => obtain ⟨_, _, _, _, e⟩ := x; exact Heap.lt_size e
  | tup xs => obtain ⟨_, _, _, p⟩ := x; exact p.lt
  | dK kvs => obtain ⟨_, _, _, _, o, _, _, e, _⟩ := x; exact Heap.lt_size e
  | dT kvs => obtain ⟨_, _, _, _, o, _, _, e, _⟩ := x; exact Heap.lt_size e
  | set S n => obtain ⟨o, _, _, _, e, _⟩ := x; exact Heap.lt_size e
  | ins C dx fs => obtain ⟨_, _, _, e, _⟩ := x; exact Heap.lt_size e
  | own y => obtain ⟨_, e⟩ := x; exact Heap.lt_size e
  | xd fs => obtain ⟨_, ⟨_, _, _, e, _⟩, _⟩ := x; exact Heap.lt_size e
  | rng lo hi => obtain ⟨_, _, _, e⟩ := x; exact Heap.lt_size e
  | frz ob u => obtain ⟨e, _⟩ := x; exact Heap.lt_size e
  | tbl ps => exact Heap.lt_size (show h.get? a = some _ from x)
  | met f y => exact Heap.lt_size (show h.get? a = some _ from x)
  | ext φ => obtain ⟨_, ⟨_, e⟩, _⟩ := x; exact Heap.lt_size e
theorem Paired.mapP {α β : Type} {F G : α → β → Prop} : ∀ {l₁ : List α} {l₂ : List β}, Paired F l₁ l₂ → (∀ a b, F a b → G a b) → Paired G l₁ l₂
  | _, _, .nil, _ => .nil
  | _, _, .cons r t, f => .cons (f _ _ r) (Paired.mapP t f)
theorem ObjOk.stay (x : ObjOk P w H h a o) (k : ∀ b u, (b = a ∨ H b = some (.own a)) → h.get? b = some u → h'.get? b = some u)
    (ho : ∀ b, H b = some (.own a) → H' b = some (.own a)) (ht : ∀ b xs, H b = some (.tup xs) → H' b = some (.tup xs)) : ObjOk P w H' h' a o := by
  induction o with
  | lst xs => obtain ⟨z, its, n, r, e⟩ := x; exact ⟨z, its, n, r, k _ _ (.inl rfl) e⟩
  | tup xs => obtain ⟨z, its, r, ob, e, c⟩ := x; exact ⟨z, its, r, ob, k _ _ (.inl rfl) e, c⟩
  | dK kvs => obtain ⟨z, y, vs, r, ob, es, ep, e, c⟩ := x; exact ⟨z, y, vs, r, ob, es, ep, k _ _ (.inl rfl) e, c⟩
  | dT kvs =>
    obtain ⟨z, y, xs, r, ob, es, ep, e, c⟩ := x
    exact ⟨z, y, xs, Paired.mapP r fun p q z => ⟨z.1, ht _ _ z.2.1, z.2.2⟩, ob, es, ep, k _ _ (.inl rfl) e, c⟩
  | set S n => obtain ⟨ob, es, ep, t, e, c⟩ := x; exact ⟨ob, es, ep, t, k _ _ (.inl rfl) e, c⟩
  | ins C dx fs =>
    obtain ⟨d, z, ne, e, mA, ⟨od, es, ep, e2, c⟩, r⟩ := x
    exact ⟨ho _ d, z, ne, k _ _ (.inl rfl) e, mA, ⟨od, es, ep, k _ _ (.inr d) e2, c⟩, r⟩
  | own y => obtain ⟨ob, e⟩ := x; exact ⟨ob, k _ _ (.inl rfl) e⟩
  | xd fs => obtain ⟨mA, ⟨od, es, ep, e, c⟩, r⟩ := x; exact ⟨mA, ⟨od, es, ep, k _ _ (.inl rfl) e, c⟩, r⟩
  | rng lo hi => obtain ⟨t, u, v, e⟩ := x; exact ⟨t, u, v, k _ _ (.inl rfl) e⟩
  | frz ob u ih => obtain ⟨e, q⟩ := x; exact ⟨k _ _ (.inl rfl) e, ih q⟩
  | tbl ps =>
    have e : h.get? a = some { cls := .none, data := .fields ps } := x
    show h'.get? a = some { cls := .none, data := .fields ps }
    exact k a _ (.inl rfl) e
  | met f y =>
    have e : h.get? a = some (PySem.W.methodObj (.ref f) (.ref y)) := x
    show h'.get? a = some (PySem.W.methodObj (.ref f) (.ref y))
    exact k a _ (.inl rfl) e
  | ext φ => obtain ⟨p, ⟨o, e⟩, st⟩ := x; exact ⟨st _ _ p fun o q => k _ _ (.inl rfl) q, ⟨o, k _ _ (.inl rfl) e⟩, st⟩
theorem HOk.lt (x : HOk P w H h) (e : H a = some o) : a < h.objs.size := (x a o e).lt
theorem HOk.fresh (x : HOk P w H h) (e : h.objs.size ≤ a) : H a = none := by
  cases q : H a with
  | none => rfl
  | some u => exact absurd (Nat.lt_of_lt_of_le (x.lt q) e) (Nat.lt_irrefl _)
theorem HOk.kept (x : HOk P w H h) (k : ∀ b u, h.get? b = some u → h'.get? b = some u) : HOk P w H h' := fun a o e =>
  (x a o e).stay (fun b u _ q => k b u q) (fun _ q => q) fun _ _ q => q
theorem HOk.laid (x : HOk P w H h) (k : ∀ b u, h.get? b = some u → h'.get? b = some u) (hp : h.objs.size ≤ a) (new : ObjOk P w (upd H a o) h' a o) : HOk P w (upd H a o) h' := fun b u e => by
  have hn := x.fresh hp
  by_cases hb : b = a
  · subst hb; rw [upd_same] at e; cases e; exact new
  · rw [upd_ne hb] at e
    exact (x b u e).stay (fun c v _ q => k c v q) (fun c q => by rw [upd_ne (ne_of_none q hn)]; exact q) fun c xs q => by rw [upd_ne (ne_of_none q hn)]; exact q
end
def Rd (H : Hp) (a : Addr) (u : HO) : Prop := H a = some u ∨ ∃ o, H a = some (.frz o u)
theorem Rd.of {H : Hp} {a : Addr} {u : HO} (h : H a = some u) : Rd H a u := .inl h
theorem Rd.ok {P : Program} {w : World} {H : Hp} {h : Heap} {a : Addr} {u : HO} (r : Rd H a u) (x : HOk P w H h) : ObjOk P w H h a u := by
  rcases r with r | ⟨o, r⟩
  · exact x a u r
  · obtain ⟨_, q⟩ := x a _ r
    exact q
def Mut : Option HO → Prop
  | some (.lst _) => True
  | some (.dK _) => True
  | some (.dT _) => True
  | some (.set _ _) => True
  | some (.ins _ _ _) => True
  | some (.ext _) => True
  | _ => False
section
variable {P : Program} {w : World} {H : Hp} {h h' : Heap} {x e : Addr} {o' : HO}
theorem HOk.write (ok : HOk P w H h) (mu : Mut (H x)) (he : e = x ∨ H e = some (.own x)) (k : ∀ b u, b ≠ e → h.get? b = some u → h'.get? b = some u) (heo : ∃ u, h'.get? e = some u)
    (new : ObjOk P w (upd H x o') h' x o') : HOk P w (upd H x o') h' := fun b u q => by
  have nown : ∀ c y, H c = some (.own y) → c ≠ x := fun c y r z => by subst z; rw [r] at mu; exact mu
  have ntup : ∀ c xs, H c = some (.tup xs) → c ≠ x := fun c xs r z => by subst z; rw [r] at mu; exact mu
  by_cases hb : b = x
  · subst hb; rw [upd_same] at q; cases q; exact new
  · rw [upd_ne hb] at q
    by_cases hbe : b = e
    · have q' : H b = some (.own x) := by
        rcases he with z | z
        · exact absurd (hbe.trans z) hb
        · rw [hbe]; exact z
      rw [q] at q'; cases q'
      obtain ⟨v, hv⟩ := heo
      exact ⟨v, by rw [hbe]; exact hv⟩
    · refine (ok b u q).stay (fun c v hc r => k c v ?_ r) (fun c r => by rw [upd_ne (nown c b r)]; exact r) fun c xs r => by rw [upd_ne (ntup c xs r)]; exact r
      rcases hc with rfl | hc
      · exact hbe
      · rintro rfl
        rcases he with z | z
        · exact nown c b hc z
        · rw [hc] at z; cases z; exact hb rfl
end
structure Un (fs ex : List Addr) (H H' : Hp) (h h' : Heap) : Prop where
  keep : ∀ b o, h.get? b = some o → H b = none → b ∉ fs → b ∉ ex → h'.get? b = some o
  slot : ∀ b o, h.get? b = some o → H b = none → b ∈ fs → b ∉ ex → ∃ sl, h'.get? b = some { o with slots := sl }
  free : ∀ b o, h.get? b = some o → H b = none → b ∉ ex → H' b = none
  there : ∀ b o, h.get? b = some o → b ∉ ex → ∃ o', h'.get? b = some o'
  tups : ∀ b xs, H b = some (.tup xs) → H' b = some (.tup xs)
  frzs : ∀ b o u, H b = some (.frz o u) → H' b = some (.frz o u)
  tbls : ∀ b ps, H b = some (.tbl ps) → ∃ more, H' b = some (.tbl (ps ++ more))
section
variable {fs fs' ex ex' : List Addr} {H H1 H2 : Hp} {h h1 h2 h' : Heap} {a x e : Addr} {o : HO}
theorem Un.any (u : Un fs ex H H1 h h1) {b : Addr} {ob : Obj} (q : h.get? b = some ob) (n : H b = none) (hx : b ∉ ex) : ∃ sl, h1.get? b = some { ob with slots := sl } := by
  by_cases hb : b ∈ fs
  · exact u.slot b ob q n hb hx
  · exact ⟨ob.slots, u.keep b ob q n hb hx⟩
theorem Un.trans (a : Un fs ex H H1 h h1) (b : Un fs ex H1 H2 h1 h2) : Un fs ex H H2 h h2 where
  keep := fun c ob q n hc hx => b.keep c ob (a.keep c ob q n hc hx) (a.free c ob q n hx) hc hx
  slot := fun c ob q n hc hx => by
    obtain ⟨sl, e1⟩ := a.slot c ob q n hc hx
    obtain ⟨sl', e2⟩ := b.slot c _ e1 (a.free c ob q n hx) hc hx
    exact ⟨sl', e2⟩
  free := fun c ob q n hx => by
    obtain ⟨o', e1⟩ := a.there c ob q hx
    exact b.free c o' e1 (a.free c ob q n hx) hx
  there := fun c ob q hx => by
    obtain ⟨o', e1⟩ := a.there c ob q hx
    exact b.there c o' e1 hx
  tups := fun c xs q => b.tups c xs (a.tups c xs q)
  frzs := fun c ob xs q => b.frzs c ob xs (a.frzs c ob xs q)
  tbls := fun c ps q => by
    obtain ⟨m1, e1⟩ := a.tbls c ps q
    obtain ⟨m2, e2⟩ := b.tbls c _ e1
    exact ⟨m1 ++ m2, by rw [e2, Array.append_assoc]⟩
theorem Un.kept (k : ∀ b u, h.get? b = some u → h'.get? b = some u) : Un fs ex H H h h' :=
  ⟨fun b ob q _ _ _ => k b ob q, fun b ob q _ _ _ => ⟨ob.slots, k b ob q⟩, fun _ _ _ n _ => n, fun b ob q _ => ⟨ob, k b ob q⟩, fun _ _ q => q, fun _ _ _ q => q, fun _ ps q => ⟨#[], by rw [q]; simp⟩⟩
theorem Un.refl : Un fs ex H H h h := Un.kept fun _ _ q => q
theorem Un.laid (k : ∀ b u, h.get? b = some u → h'.get? b = some u) (hp : h.objs.size ≤ a) (hn : H a = none) : Un fs ex H (upd H a o) h h' where
  keep := fun b u q _ _ _ => k b u q
  slot := fun b u q _ _ _ => ⟨u.slots, k b u q⟩
  free := fun b u q n _ => by rw [upd_ne (Nat.ne_of_lt (Nat.lt_of_lt_of_le (Heap.lt_size q) hp))]; exact n
  there := fun b u q _ => ⟨u, k b u q⟩
  tups := fun b xs q => by rw [upd_ne (ne_of_none q hn)]; exact q
  frzs := fun b u xs q => by rw [upd_ne (ne_of_none q hn)]; exact q
  tbls := fun b ps q => ⟨#[], by rw [upd_ne (ne_of_none q hn), q]; simp⟩
theorem Un.write (mu : Mut (H x)) (he : e = x ∨ H e = some (.own x)) (k : ∀ b u, b ≠ e → h.get? b = some u → h'.get? b = some u) (heo : ∃ u, h'.get? e = some u) : Un fs ex H (upd H x o) h h' := by
  have hx : ∀ b, H b = none → b ≠ x := fun b n z => by subst z; rw [n] at mu; exact mu
  have hb : ∀ b, H b = none → b ≠ e := fun b n z => by
    subst z
    rcases he with r | r
    · exact hx b n r
    · rw [n] at r; cases r
  have hm : ∀ b u, H b = some u → ¬ Mut (some u) → b ≠ x := fun b u q nm z => by subst z; rw [q] at mu; exact nm mu
  refine ⟨fun b u q n _ _ => k b u (hb b n) q, fun b u q n _ _ => ⟨u.slots, k b u (hb b n) q⟩, fun b u q n _ => by rw [upd_ne (hx b n)]; exact n, fun b u q _ => ?_,
    fun b xs q => by rw [upd_ne (hm b _ q fun z => z)]; exact q, fun b u xs q => by rw [upd_ne (hm b _ q fun z => z)]; exact q, fun b ps q => ⟨#[], by rw [upd_ne (hm b _ q fun z => z), q]; simp⟩⟩
  by_cases hbe : b = e
  · subst hbe; exact heo
  · exact ⟨u, k b u hbe q⟩
theorem Un.mono (u : Un fs ex H H1 h h1) (hs : ∀ b ∈ fs, b ∈ fs') (hx : ∀ b ∈ ex, b ∈ ex') : Un fs' ex' H H1 h h1 :=
  ⟨fun b ob q n hb he => u.keep b ob q n (fun z => hb (hs b z)) fun z => he (hx b z), fun _ _ q n _ he => u.any q n fun z => he (hx _ z), fun b ob q n he => u.free b ob q n fun z => he (hx b z), fun b ob q he => u.there b ob q fun z => he (hx b z), u.tups, u.frzs, u.tbls⟩
end
def trk (h : Heap) (H : Hp) : List Addr := (List.range h.objs.size).filter fun a => (H a).isSome
def hidT (h : Heap) (H : Hp) : Heap := PySem.W.hideAll h (trk h H)
theorem hidT_size (h : Heap) (H : Hp) : (hidT h H).objs.size = h.objs.size := PySem.W.hideAll_size _ _
theorem hidT_get {h : Heap} {H : Hp} {b : Addr} {o : Obj} (e : h.get? b = some o) (n : H b = none) : (hidT h H).get? b = some o :=
  PySem.W.hideAll_get _ e fun hm => by
    have q : (H b).isSome = true := (List.mem_filter.mp hm).2
    rw [n] at q; simp at q
theorem of_hidT {h : Heap} {H : Hp} {b : Addr} {o : Obj} (e : (hidT h H).get? b = some o) : h.get? b = some o ∧ H b = none := by
  have e' : h.get? b = some o := PySem.W.of_hideAll (trk h H) e
  refine ⟨e', ?_⟩
  cases q : H b with
  | none => rfl
  | some x =>
    have hm : b ∈ trk h H := List.mem_filter.mpr ⟨List.mem_range.mpr (Heap.lt_size e'), by simp [q]⟩
    have z : (hidT h H).get? b = none := PySem.W.hideAll_none (trk h H) hm
    rw [z] at e; cases e
def allNews (g h : Heap) (L : Addr) : List (Addr × Obj) := (List.range h.objs.size).filterMap fun a => if a = L ∨ (g.get? a).isSome = true then none else (h.get? a).map fun o => (a, o)
def rest (g h : Heap) (L d : Addr) : List (Addr × Obj) := (allNews g h L).filter fun p => decide (p.1 ≠ d)
end L2
namespace L2
open PySem PySem.Spec PyProof.Rows
structure Mod (K : PySem.W.Frag) (mg : Str → Option Value) (base : Heap) : Prop where
  kin : K.In base
  glob : base.Ns mainGlobals mg
  blt : ∃ mb, base.Ns builtinsNs mb ∧ ∀ x : Str, x ≠ "__name__" → mb x = bootBuiltins x
  nolimit : base.NoLimit
structure Cx where
  prog : Program
  w : World
  K : PySem.W.Frag
  mg : Str → Option Value
  base : Heap
  A : Around
  N : List Str
  s₀ : Shared
  H₀ : Hp
  env : Env
  outer : List Env
  stack : List Env
  ex : List Addr
  fn : Str → Bool
  calm : Bool
  pn : List (Addr × Obj)
  xe : Value → Shared → Prop
def frs (l : List Env) : List Addr := l.filterMap (·.frame)
abbrev Cx.fs (X : Cx) : List Addr := frs X.outer
def Vis (sc : Scope) (x : Str) : Prop := sc.names.lookup x = some .local ∨ sc.names.lookup x = some .cell ∨ sc.names.lookup x = some .free
def Loc (sc : Scope) (x : Str) : Prop := sc.names.lookup x = some .local ∨ sc.names.lookup x = some .cell
def Look (env : Env) (h : Heap) (m : Str → Option Value) (x : Str) (u : Value) : Prop :=
  (env.kindOf x = some .local ∧ m x = some u) ∨ ((env.kindOf x = some .cell ∨ env.kindOf x = some .free) ∧ ∃ c, env.cells.lookup x = some c ∧ h.IsCell c (some u))
structure Cx.Ok (X : Cx) : Prop where
  mod : Mod X.K X.mg X.base
  kind : X.env.scope.kind = .function
  glob : X.env.globals = mainGlobals
  blt : X.env.builtins = builtinsNs
  above : X.s₀.heap.objs.size ≤ X.env.locals
  inj : ∀ x y c, X.env.cells.lookup x = some c → X.env.cells.lookup y = some c → x = y
  has : ∀ x, (X.env.kindOf x = some .cell ∨ X.env.kindOf x = some .free) → ∃ c, X.env.cells.lookup x = some c
  cab : ∀ x c, X.fn x = true → X.env.cells.lookup x = some c → X.s₀.heap.objs.size ≤ c
  hd : X.calm = true → X.A.handled = none
  frames : X.A.frames = some X.stack
  stk : X.stack = X.outer ∨ (X.stack = X.env :: X.outer ∧ X.env.frame = some X.env.locals)
  exf : ∀ b ∈ X.ex, b ≠ X.env.locals ∧ ∀ x c, X.env.cells.lookup x = some c → c ≠ b
  bs : ∀ b o, X.base.get? b = some o → X.s₀.heap.get? b = some o ∧ X.H₀ b = none
  bsz : X.base.objs.size ≤ X.s₀.heap.objs.size
  noex : ∀ b o, X.base.get? b = some o → b ∉ X.ex
  exfs : ∀ b ∈ X.ex, b ∉ X.fs
  funs : X.s₀.heap.FunFrames X.base X.outer
  frf : ∀ b ∈ X.fs, X.H₀ b = none
structure Inv (X : Cx) (pins : List (Addr × Obj)) (σ : List (Option V)) (H : Hp) (s : Shared) : Prop where
  ok : X.Ok
  os : s.os = X.s₀.os
  bare : AllBare s.gens
  base : Un X.fs X.ex X.H₀ H X.s₀.heap s.heap
  loc : ∃ m, s.heap.Ns X.env.locals m ∧ ∀ (i : Nat) (x : Str) (v : V), X.N[i]? = some x → σ[i]? = some (some v) → Vis X.env.scope x → ∃ u, RelV v u ∧ Look X.env s.heap m x u
  cell : ∀ x c, X.env.cells.lookup x = some c → ∃ v, s.heap.IsCell c v
  free : H X.env.locals = none
  freeC : ∀ x c, X.env.cells.lookup x = some c → H c = none
  pin : ∀ p ∈ X.pn ++ pins, s.heap.get? p.1 = some p.2 ∧ H p.1 = none ∧ p.1 ≠ X.env.locals ∧ p.1 ∉ X.fs ∧ ∀ v, p.2.data ≠ .cell v
  hok : HOk X.prog X.w H s.heap
  len : σ.length = X.N.length
section
variable {X : Cx} {pins : List (Addr × Obj)} {σ : List (Option V)} {H H' : Hp} {s : Shared} {h' : Heap}
theorem Cx.Ok.nofr (ok : X.Ok) {b : Addr} {o : Obj} (e : X.base.get? b = some o) : b ∉ X.fs := fun hb => by
  have := (ok.funs.mem hb).1
  rw [e] at this; cases this
theorem Inv.bs (I : Inv X pins σ H s) : ∀ b o, X.base.get? b = some o → s.heap.get? b = some o ∧ H b = none := fun b o e =>
  ⟨I.base.keep b o (I.ok.bs b o e).1 (I.ok.bs b o e).2 (I.ok.nofr e) (I.ok.noex b o e), I.base.free b o (I.ok.bs b o e).1 (I.ok.bs b o e).2 (I.ok.noex b o e)⟩
theorem Inv.bk (I : Inv X pins σ H s) : ∀ b o, X.base.get? b = some o → s.heap.get? b = some o := fun b o e => (I.bs b o e).1
theorem Inv.mod (I : Inv X pins σ H s) : Mod X.K X.mg X.base := I.ok.mod
theorem Inv.kIn (I : Inv X pins σ H s) : X.K.In s.heap := I.ok.mod.kin.keeps I.bk
theorem Inv.nolimit (I : Inv X pins σ H s) : s.heap.NoLimit := I.ok.mod.nolimit.keeps I.bk
theorem Inv.fr (I : Inv X pins σ H s) : ∃ m, Fr X.base X.env.locals s.heap m :=
  let ⟨m, hn, _⟩ := I.loc
  ⟨m, hn, I.bk, Nat.le_trans I.ok.bsz I.ok.above⟩
theorem Inv.lt (I : Inv X pins σ H s) : X.env.locals < s.heap.objs.size := let ⟨_, hn, _⟩ := I.loc; hn.lt
theorem Inv.sz (I : Inv X pins σ H s) : X.s₀.heap.objs.size ≤ s.heap.objs.size := Nat.le_trans I.ok.above (Nat.le_of_lt I.lt)
theorem Inv.nofs (I : Inv X pins σ H s) {a : Addr} (h : s.heap.objs.size ≤ a) : a ∉ X.fs := fun hb => by
  obtain ⟨_, o, ho, _⟩ := I.ok.funs.mem hb
  exact absurd (Nat.lt_of_lt_of_le (Heap.lt_size ho) (Nat.le_trans I.sz h)) (Nat.lt_irrefl _)
theorem Inv.cne (I : Inv X pins σ H s) : ∀ x c, X.env.cells.lookup x = some c → c ≠ X.env.locals := fun x c e z => by
  obtain ⟨v, o, ho, hd⟩ := I.cell x c e
  obtain ⟨m, ⟨o', es, ep, ho', hd', _⟩, _⟩ := I.loc
  rw [z, ho'] at ho; cases ho; rw [hd'] at hd; cases hd
theorem Inv.funs (I : Inv X pins σ H s) : s.heap.FunFrames X.base X.outer := by
  have all : ∀ (l : List Env), (∀ b ∈ frs l, b ∈ X.fs) → X.s₀.heap.FunFrames X.base l → s.heap.FunFrames X.base l := by
    intro l
    induction l with
    | nil => intro _ _; trivial
    | cons env r ih =>
      intro hs hl
      obtain ⟨hk, ⟨L, o, hf, hn, ho, hd⟩, hr⟩ := hl
      have hL : L ∈ X.fs := hs L (by unfold frs; rw [List.filterMap_cons, hf]; exact List.mem_cons_self)
      obtain ⟨sl, e⟩ := I.base.slot L o ho (I.ok.frf L hL) hL fun z => I.ok.exfs L z hL
      exact ⟨hk, ⟨L, _, hf, hn, e, hd⟩, ih (fun b hb => hs b (by unfold frs; rw [List.filterMap_cons, hf]; exact List.mem_cons_of_mem _ hb)) hr⟩
  exact all X.outer (fun _ hb => hb) I.ok.funs
theorem Inv.stack (I : Inv X pins σ H s) : s.heap.FunFrames X.base X.stack := by
  rcases I.ok.stk with e | ⟨e, hf⟩
  · rw [e]; exact I.funs
  · rw [e]
    obtain ⟨m, hn, _⟩ := I.loc
    refine .cons (by rw [I.ok.kind]; decide) hf hn ?_ I.funs
    exact Heap.get?_none_of_le (Nat.le_trans I.ok.bsz I.ok.above)
theorem Inv.stkSub (I : Inv X pins σ H s) : ∀ b ∈ frs X.stack, b ∈ X.env.locals :: X.fs := fun b hb => by
  rcases I.ok.stk with e | ⟨e, hf⟩
  · rw [e] at hb; exact List.mem_cons_of_mem _ hb
  · rw [e] at hb
    unfold frs at hb
    rw [List.filterMap_cons, hf] at hb
    exact hb
theorem Inv.stkFree (I : Inv X pins σ H s) : ∀ b ∈ frs X.stack, H b = none := fun b hb => by
  rcases List.mem_cons.mp (I.stkSub b hb) with e | hb
  · rw [e]; exact I.free
  · obtain ⟨_, o, ho, _⟩ := I.ok.funs.mem hb
    exact I.base.free b o ho (I.ok.frf b hb) fun z => I.ok.exfs b z hb
theorem Inv.step {g' : Array GenState} {t' : Nat} {d' : Drawn} {ch : List Addr} (I : Inv X pins σ H s)
    (hch : ∀ b ∈ ch, (b ∈ X.ex ∨ X.s₀.heap.objs.size ≤ b) ∧ b ≠ X.env.locals ∧ (∀ x c, X.env.cells.lookup x = some c → c ≠ b) ∧ ∀ p ∈ X.pn ++ pins, p.1 ≠ b)
    (keep : ∀ b o, b ≠ X.env.locals → b ∉ X.fs → b ∉ ch → s.heap.get? b = some o → H b = none → h'.get? b = some o)
    (slot : ∀ b o, b ≠ X.env.locals → b ∈ X.fs → b ∉ ch → s.heap.get? b = some o → H b = none → ∃ sl, h'.get? b = some { o with slots := sl }) (free : ∀ b o, b ∉ ch → s.heap.get? b = some o → H b = none → H' b = none)
    (there : ∀ b o, b ∉ ch → s.heap.get? b = some o → ∃ o', h'.get? b = some o')
    (tups : ∀ b xs, H b = some (.tup xs) → H' b = some (.tup xs)) (frzs : ∀ b o u, H b = some (.frz o u) → H' b = some (.frz o u)) (tbls : ∀ b ps, H b = some (.tbl ps) → ∃ more, H' b = some (.tbl (ps ++ more)))
    (ns : ∀ m, s.heap.Ns X.env.locals m → h'.Ns X.env.locals m) (hok : HOk X.prog X.w H' h') (hg : AllBare g') :
    Inv X pins σ H' { s with heap := h', gens := g', drawn := d', toks := t' } := by
  have neL : ∀ b o, X.s₀.heap.get? b = some o → b ≠ X.env.locals := fun b o e => Nat.ne_of_lt (Nat.lt_of_lt_of_le (Heap.lt_size e) I.ok.above)
  have neC : ∀ b o, X.s₀.heap.get? b = some o → b ∉ X.ex → b ∉ ch := fun b o e hx hb => by
    rcases (hch b hb).1 with z | z
    · exact hx z
    · exact absurd (Nat.lt_of_lt_of_le (Heap.lt_size e) z) (Nat.lt_irrefl _)
  have cellK : ∀ x c, X.env.cells.lookup x = some c → ∀ v, s.heap.IsCell c v → h'.IsCell c v := fun x c e v ⟨o, ho, hd⟩ => by
    have nch : c ∉ ch := fun z => (hch c z).2.2.1 x c e rfl
    by_cases hc : c ∈ X.fs
    · obtain ⟨sl, q⟩ := slot c o (I.cne x c e) hc nch ho (I.freeC x c e)
      exact ⟨_, q, hd⟩
    · exact ⟨o, keep c o (I.cne x c e) hc nch ho (I.freeC x c e), hd⟩
  refine ⟨I.ok, I.os, hg, ⟨fun b o e n hb hx => ?_, fun b o e n hb hx => ?_, fun b o e n hx => ?_, fun b o e hx => ?_, fun b xs e => tups b xs (I.base.tups b xs e), fun b o xs e => frzs b o xs (I.base.frzs b o xs e), fun b ps e => ?_⟩, ?_, fun x c e => ?_, ?_, fun x c e => ?_, fun p hp => ?_, hok, I.len⟩
  · exact keep b o (neL b o e) hb (neC b o e hx) (I.base.keep b o e n hb hx) (I.base.free b o e n hx)
  · obtain ⟨sl, e1⟩ := I.base.slot b o e n hb hx
    obtain ⟨sl', e2⟩ := slot b _ (neL b o e) hb (neC b o e hx) e1 (I.base.free b o e n hx)
    exact ⟨sl', e2⟩
  · obtain ⟨o', e1⟩ := I.base.there b o e hx
    exact free b o' (neC b o e hx) e1 (I.base.free b o e n hx)
  · obtain ⟨o', e1⟩ := I.base.there b o e hx
    exact there b o' (neC b o e hx) e1
  · obtain ⟨m1, e1⟩ := I.base.tbls b ps e
    obtain ⟨m2, e2⟩ := tbls b _ e1
    exact ⟨m1 ++ m2, by rw [e2, Array.append_assoc]⟩
  · obtain ⟨m, hn, hl⟩ := I.loc
    refine ⟨m, ns m hn, fun i x v e1 e2 e3 => ?_⟩
    obtain ⟨u, r, l⟩ := hl i x v e1 e2 e3
    refine ⟨u, r, ?_⟩
    rcases l with l | ⟨k, c, e, z⟩
    · exact .inl l
    · exact .inr ⟨k, c, e, cellK x c e _ z⟩
  · obtain ⟨v, z⟩ := I.cell x c e
    exact ⟨v, cellK x c e v z⟩
  · obtain ⟨m, ⟨o, _, _, ho, _⟩, _⟩ := I.loc
    exact free _ o (fun z => (hch _ z).2.1 rfl) ho I.free
  · obtain ⟨v, o, ho, hd⟩ := I.cell x c e
    exact free c o (fun z => (hch c z).2.2.1 x c e rfl) ho (I.freeC x c e)
  · obtain ⟨e, n, ne, nf, d⟩ := I.pin p hp
    have nch : p.1 ∉ ch := fun z => (hch p.1 z).2.2.2 p hp rfl
    exact ⟨keep p.1 p.2 ne nf nch e n, free p.1 p.2 nch e n, ne, nf, d⟩
theorem Inv.un {t' : Nat} (I : Inv X pins σ H s) (u : Un X.fs [] H H' s.heap h') (hok : HOk X.prog X.w H' h') : Inv X pins σ H' { s with heap := h', toks := t' } := by
  obtain ⟨m, ⟨o, es, ep, ho, r⟩, _⟩ := id I.loc
  obtain ⟨sl, hL⟩ := u.any ho I.free (by simp)
  exact I.step (g' := s.gens) (d' := s.drawn) (ch := []) (fun _ z => nomatch z) (fun b o _ hb _ e n => u.keep b o e n hb (by simp)) (fun b o _ hb _ e n => u.slot b o e n hb (by simp)) (fun b o _ e n => u.free b o e n (by simp)) (fun b o _ e => u.there b o e (by simp)) u.tups u.frzs u.tbls (fun m' hm => by
    obtain ⟨o', es', ep', ho', r'⟩ := hm
    rw [ho] at ho'; cases ho'
    exact ⟨_, es', ep', hL, r'⟩) hok I.bare
theorem Inv.call {g' : Array GenState} {t' : Nat} {d' : Drawn} {ch : List Addr} (I : Inv X pins σ H s) (u : Un (frs X.stack) ch H H' s.heap h') (hok : HOk X.prog X.w H' h') (hg : AllBare g')
    (hch : ∀ b ∈ ch, (b ∈ X.ex ∨ X.s₀.heap.objs.size ≤ b) ∧ b ≠ X.env.locals ∧ (∀ x c, X.env.cells.lookup x = some c → c ≠ b) ∧ ∀ p ∈ X.pn ++ pins, p.1 ≠ b) :
    Inv X pins σ H' { s with heap := h', gens := g', drawn := d', toks := t' } := by
  obtain ⟨m, ⟨o, es, ep, ho, r⟩, _⟩ := id I.loc
  obtain ⟨sl, hL⟩ := u.any ho I.free fun z => (hch _ z).2.1 rfl
  exact I.step (ch := ch) hch (fun b o hL hb hc e n => u.keep b o e n (fun z => (List.mem_cons.mp (I.stkSub b z)).elim hL hb) hc) (fun b o _ _ hc e n => u.any e n hc) (fun b o hc e n => u.free b o e n hc) (fun b o hc e => u.there b o e hc) u.tups u.frzs u.tbls (fun m' hm => by
    obtain ⟨o', es', ep', ho', r'⟩ := hm
    rw [ho] at ho'; cases ho'
    exact ⟨_, es', ep', hL, r'⟩) hok hg
theorem Inv.turned {t' : Nat} {it : Addr} (I : Inv X pins σ H s) (k : ∀ b o, b ≠ it → s.heap.get? b = some o → h'.get? b = some o) (hn : H it = none) (hL : it ≠ X.env.locals)
    (h1 : it ∈ X.ex ∨ X.s₀.heap.objs.size ≤ it) (h2 : ∀ x c, X.env.cells.lookup x = some c → c ≠ it) (h3 : ∀ p ∈ X.pn ++ pins, p.1 ≠ it) : Inv X pins σ H { s with heap := h', toks := t' } := by
  have nit : ∀ b u, H b = some u → b ≠ it := fun b u e z => by rw [z, hn] at e; cases e
  refine I.step (g' := s.gens) (d' := s.drawn) (ch := [it]) (fun b hb => ?_) (fun b o _ _ hc e _ => k b o (fun z => hc (by simp [z])) e) (fun b o _ _ hc e _ => ⟨o.slots, k b o (fun z => hc (by simp [z])) e⟩) (fun _ _ _ _ n => n)
    (fun b o hc e => ⟨o, k b o (fun z => hc (by simp [z])) e⟩) (fun _ _ e => e) (fun _ _ _ e => e) (fun b ps e => ⟨#[], by rw [e]; simp⟩) (fun m hm => ?_) (fun b u e => ?_) I.bare
  · have e : b = it := by simpa using hb
    subst e
    exact ⟨h1, hL, h2, h3⟩
  · obtain ⟨o, es, ep, ho, r⟩ := hm
    exact ⟨o, es, ep, k _ o (Ne.symm hL) ho, r⟩
  · refine (I.hok b u e).stay (fun c v hc q => k c v ?_ q) (fun _ q => q) fun _ _ q => q
    rcases hc with z | z
    · rw [z]; exact nit b u e
    · exact nit c _ z
theorem Inv.tok (I : Inv X pins σ H s) (t : Nat) : Inv X pins σ H { s with toks := t } := I.un (h' := s.heap) (t' := t) Un.refl I.hok
theorem Inv.kept {t' : Nat} (I : Inv X pins σ H s) (k : ∀ b u, s.heap.get? b = some u → h'.get? b = some u) : Inv X pins σ H { s with heap := h', toks := t' } := I.un (Un.kept k) (I.hok.kept k)
theorem Inv.laid {a : Addr} {o : HO} {t' : Nat} (I : Inv X pins σ H s) (k : ∀ b u, s.heap.get? b = some u → h'.get? b = some u) (hp : s.heap.objs.size ≤ a) (new : ObjOk X.prog X.w (upd H a o) h' a o) :
    Inv X pins σ (upd H a o) { s with heap := h', toks := t' } := I.un (Un.laid k hp (I.hok.fresh hp)) (I.hok.laid k hp new)
theorem Inv.write {x e : Addr} {o : HO} {t' : Nat} (I : Inv X pins σ H s) (mu : Mut (H x)) (he : e = x ∨ H e = some (.own x)) (k : ∀ b u, b ≠ e → s.heap.get? b = some u → h'.get? b = some u) (heo : ∃ u, h'.get? e = some u)
    (new : ObjOk X.prog X.w (upd H x o) h' x o) : Inv X pins σ (upd H x o) { s with heap := h', toks := t' } := I.un (Un.write mu he k heo) (I.hok.write mu he k heo new)
theorem Inv.pins_of {pins' : List (Addr × Obj)} (I : Inv X pins σ H s) (h : ∀ p ∈ pins', s.heap.get? p.1 = some p.2 ∧ H p.1 = none ∧ p.1 ≠ X.env.locals ∧ p.1 ∉ X.fs ∧ ∀ v, p.2.data ≠ .cell v) : Inv X pins' σ H s :=
  ⟨I.ok, I.os, I.bare, I.base, I.loc, I.cell, I.free, I.freeC, fun p hp => (List.mem_append.mp hp).elim (fun z => I.pin p (List.mem_append_left _ z)) (h p), I.hok, I.len⟩
theorem nodup_ix {N : List Str} (hN : N.Nodup) {i j : Nat} {x : Str} (a : N[i]? = some x) (b : N[j]? = some x) : i = j := by
  obtain ⟨h1, e1⟩ := List.getElem?_eq_some_iff.mp a
  obtain ⟨h2, e2⟩ := List.getElem?_eq_some_iff.mp b
  exact (List.getElem_inj hN).mp (e1.trans e2.symm)
theorem store_ok2 {M : Model} {A : Around} {E : Value → Shared → Prop} {i : Nat} {x : Str} {v : V} {u : Value} {Q : Unit → Shared → Prop} (I : Inv X pins σ H s) (hN : X.N.Nodup) (hi : X.N[i]? = some x) (hx : Loc X.env.scope x) (r : RelV v u)
    (h : ∀ s', Inv X pins (σ.set i (some v)) H s' → (∃ a, Heap.SameBut a s.heap s'.heap ∧ (a = X.env.locals ∨ X.env.cells.lookup x = some a)) → Q () s') (hf : X.fn x = true ∨ X.env.scope.names.lookup x = some .local := by first | exact .inl rfl | exact .inr rfl | assumption) : wpAny M A (storeName X.env x u) Q E s := by
  obtain ⟨m, hn, hl⟩ := id I.loc
  have hcls : (X.env.scope.kind == .class || (X.env.scope.kind == .module && X.env.locals != X.env.globals)) = false := by rw [I.ok.kind]; rfl
  have hiσ : i < σ.length := by rw [I.len]; exact (List.getElem?_eq_some_iff.mp hi).1
  have cne := I.cne
  have tracked : ∀ {a : Addr} {h' : Heap}, (∃ o, s.heap.get? a = some o ∧ H a = none) → Heap.SameBut a s.heap h' → HOk X.prog X.w H h' := fun {a h'} ha hs b ob e => by
    obtain ⟨_, _, hfree⟩ := ha
    refine (I.hok b ob e).stay (fun c w' hc q => (hs.2 c ?_).trans q) (fun _ q => q) fun _ _ q => q
    rintro rfl
    rcases hc with rfl | hc
    · rw [hfree] at e; cases e
    · rw [hfree] at hc; cases hc
  rcases hx with hk | hk
  · refine wpAny_storeName_local hk hn (fun h' hn' hs => ?_) hcls
    obtain ⟨oL, _, _, hoL, _⟩ := id hn
    refine h _ ⟨I.ok, I.os, I.bare, ⟨fun b o e n hb hx => ?_, fun b o e n hb hx => ?_, I.base.free, fun b o e hx => ?_, I.base.tups, I.base.frzs, I.base.tbls⟩, ⟨_, hn', fun j y v' e1 e2 e3 => ?_⟩, fun y c e => ?_, I.free, I.freeC, fun p hp => ?_, tracked ⟨oL, hoL, I.free⟩ hs, by simpa using I.len⟩ ⟨_, hs, .inl rfl⟩
    · exact (hs.2 b (Nat.ne_of_lt (Nat.lt_of_lt_of_le (Heap.lt_size e) I.ok.above))).trans (I.base.keep b o e n hb hx)
    · obtain ⟨sl, e1⟩ := I.base.slot b o e n hb hx
      exact ⟨sl, (hs.2 b (Nat.ne_of_lt (Nat.lt_of_lt_of_le (Heap.lt_size e) I.ok.above))).trans e1⟩
    · obtain ⟨o', e1⟩ := I.base.there b o e hx
      exact ⟨o', (hs.2 b (Nat.ne_of_lt (Nat.lt_of_lt_of_le (Heap.lt_size e) I.ok.above))).trans e1⟩
    · by_cases hj : j = i
      · subst hj
        rw [hi] at e1; cases e1
        rw [List.getElem?_set_self hiσ] at e2
        cases e2
        exact ⟨u, r, .inl ⟨hk, by simp⟩⟩
      · rw [List.getElem?_set_ne (Ne.symm hj)] at e2
        obtain ⟨u', r', q⟩ := hl j y v' e1 e2 e3
        refine ⟨u', r', ?_⟩
        rcases q with ⟨k, e⟩ | ⟨k, c, e, z⟩
        · refine .inl ⟨k, ?_⟩
          have : y ≠ x := fun e => hj (nodup_ix hN e1 (e ▸ hi))
          simp [this, e]
        · exact .inr ⟨k, c, e, z.sameBut hs (cne y c e)⟩
    · obtain ⟨w', z⟩ := I.cell y c e
      exact ⟨w', z.sameBut hs (cne y c e)⟩
    · obtain ⟨e, n, ne, nf, d⟩ := I.pin p hp
      exact ⟨(hs.2 p.1 ne).trans e, n, ne, nf, d⟩
  · have hfn : X.fn x = true := by
      rcases hf with z | z
      · exact z
      · rw [z] at hk; cases hk
    obtain ⟨c, hc⟩ := I.ok.has x (.inl hk)
    obtain ⟨w', z⟩ := I.cell x c hc
    refine wpAny_storeName_cell I.ok.kind hk hc z (fun h' hc' hs => ?_)
    obtain ⟨oc, hoc, hocd⟩ := id z
    refine h { s with heap := h' } ⟨I.ok, I.os, I.bare, ⟨fun b o e n hb hx => ?_, fun b o e n hb hx => ?_, I.base.free, fun b o e hx => ?_, I.base.tups, I.base.frzs, I.base.tbls⟩, ⟨m, hn.sameBut hs (Ne.symm (cne x c hc)), fun j y v' e1 e2 e3 => ?_⟩, fun y c' e => ?_, I.free, I.freeC, fun p hp => ?_, tracked ⟨oc, hoc, I.freeC x c hc⟩ hs, by simpa using I.len⟩ ⟨c, hs, .inr hc⟩
    · exact (hs.2 b (Nat.ne_of_lt (Nat.lt_of_lt_of_le (Heap.lt_size e) (I.ok.cab x c hfn hc)))).trans (I.base.keep b o e n hb hx)
    · obtain ⟨sl, e1⟩ := I.base.slot b o e n hb hx
      exact ⟨sl, (hs.2 b (Nat.ne_of_lt (Nat.lt_of_lt_of_le (Heap.lt_size e) (I.ok.cab x c hfn hc)))).trans e1⟩
    · obtain ⟨o', e1⟩ := I.base.there b o e hx
      exact ⟨o', (hs.2 b (Nat.ne_of_lt (Nat.lt_of_lt_of_le (Heap.lt_size e) (I.ok.cab x c hfn hc)))).trans e1⟩
    · by_cases hj : j = i
      · subst hj
        rw [hi] at e1; cases e1
        rw [List.getElem?_set_self hiσ] at e2
        cases e2
        exact ⟨u, r, .inr ⟨.inl hk, c, hc, hc'⟩⟩
      · rw [List.getElem?_set_ne (Ne.symm hj)] at e2
        obtain ⟨u', r', q⟩ := hl j y v' e1 e2 e3
        refine ⟨u', r', ?_⟩
        rcases q with q | ⟨k, c', e, z'⟩
        · exact .inl q
        · refine .inr ⟨k, c', e, z'.sameBut hs ?_⟩
          rintro rfl
          exact hj (nodup_ix hN e1 (I.ok.inj _ _ _ e hc ▸ hi))
    · by_cases hcc : c' = c
      · subst hcc; exact ⟨_, hc'⟩
      · obtain ⟨w2, z2⟩ := I.cell y c' e
        exact ⟨w2, z2.sameBut hs hcc⟩
    · obtain ⟨e, n, ne, nf, d⟩ := I.pin p hp
      refine ⟨(hs.2 p.1 ?_).trans e, n, ne, nf, d⟩
      intro q
      rw [q, hoc] at e
      have q' : oc = p.2 := Option.some.inj e
      exact d w' (by rw [← q']; exact hocd)
theorem store_ok {M : Model} {A : Around} {E : Value → Shared → Prop} {i : Nat} {x : Str} {v : V} {u : Value} {Q : Unit → Shared → Prop} (I : Inv X pins σ H s) (hN : X.N.Nodup) (hi : X.N[i]? = some x) (hx : Loc X.env.scope x) (r : RelV v u)
    (h : ∀ s', Inv X pins (σ.set i (some v)) H s' → Q () s') (hf : X.fn x = true ∨ X.env.scope.names.lookup x = some .local := by first | exact .inl rfl | exact .inr rfl | assumption) : wpAny M A (storeName X.env x u) Q E s :=
  store_ok2 I hN hi hx r (fun s' I' _ => h s' I') hf
theorem Inv.call' {s' : Shared} {ch : List Addr} (I : Inv X pins σ H s) (ho : s'.os = s.os) (u : Un (frs X.stack) ch H H' s.heap s'.heap) (hok : HOk X.prog X.w H' s'.heap) (hg : AllBare s'.gens)
    (hch : ∀ b ∈ ch, (b ∈ X.ex ∨ X.s₀.heap.objs.size ≤ b) ∧ b ≠ X.env.locals ∧ (∀ x c, X.env.cells.lookup x = some c → c ≠ b) ∧ ∀ p ∈ X.pn ++ pins, p.1 ≠ b) : Inv X pins σ H' s' := by
  obtain ⟨h', g', d', t', o'⟩ := s'
  have e : o' = s.os := ho
  subst e
  exact I.call (g' := g') (t' := t') (d' := d') u hok hg hch
end
abbrev XK := Value → Option Addr → Hp → Prop
abbrev St := List (Option V)
abbrev VK := V → Hp → Prop
abbrev TE := St → Hp → VK → Prop
abbrev TT := St → Hp → (Bool → Hp → Prop) → Prop
abbrev TA := St → Hp → (List V → Hp → Prop) → Prop
structure Ends where
  nx : St → Hp → Prop
  rt : VK
  bk : St → Hp → Prop := fun _ _ => False
  ct : St → Hp → Prop := fun _ _ => False
abbrev TS := Ends → St → Hp → Prop
def EP (X : Cx) (pins : List (Addr × Obj)) (σ : St) (Q : VK) (u : Value) (s' : Shared) : Prop := ∃ v H', Inv X pins σ H' s' ∧ RelV v u ∧ Q v H'
def TP (X : Cx) (pins : List (Addr × Obj)) (σ : St) (Q : Bool → Hp → Prop) (b : Bool) (s' : Shared) : Prop := ∃ H', Inv X pins σ H' s' ∧ Q b H'
def AP (X : Cx) (pins : List (Addr × Obj)) (σ : St) (Q : List V → Hp → Prop) (us : List Value) (s' : Shared) : Prop := ∃ vs H', Inv X pins σ H' s' ∧ Vals vs us ∧ Q vs H'
def SP (X : Cx) (pins : List (Addr × Obj)) (D : Ends) (f : Flow) (s' : Shared) : Prop :=
  match f with
  | .next => ∃ σ' H', Inv X pins σ' H' s' ∧ D.nx σ' H'
  | .brk => ∃ σ' H', Inv X pins σ' H' s' ∧ D.bk σ' H'
  | .cont => ∃ σ' H', Inv X pins σ' H' s' ∧ D.ct σ' H'
  | .ret u => ∃ v σ' H', Inv X pins σ' H' s' ∧ RelV v u ∧ D.rt v H'
def PE (X : Cx) (e : Expr) (t : TE) : Prop :=
  ∀ (pins : List (Addr × Obj)) (s : Shared) (σ : St) (H : Hp) (Q : VK), Inv X pins σ H s → t σ H Q → wpAny (model X.prog X.w) X.A (eval e X.env) (EP X pins σ Q) X.xe s
def PT (X : Cx) (e : Expr) (t : TT) : Prop :=
  ∀ (pins : List (Addr × Obj)) (s : Shared) (σ : St) (H : Hp) (Q : Bool → Hp → Prop), Inv X pins σ H s → t σ H Q → wpAny (model X.prog X.w) X.A (isTrue e X.env (eval e X.env)) (TP X pins σ Q) X.xe s
def PW (X : Cx) (e : Expr) (t : TT) : Prop :=
  ∀ (whole : Sem Value) (pins : List (Addr × Obj)) (s : Shared) (σ : St) (H : Hp) (Q : Bool → Hp → Prop), Inv X pins σ H s → t σ H Q → wpAny (model X.prog X.w) X.A (isTrue e X.env whole) (TP X pins σ Q) X.xe s
theorem PW.pt {X : Cx} {e : Expr} {t : TT} (h : PW X e t) : PT X e t := h _
def PA (X : Cx) (es : List Expr) (t : TA) : Prop :=
  ∀ (pos : Pos) (pins : List (Addr × Obj)) (s : Shared) (σ : St) (H : Hp) (Q : List V → Hp → Prop), Inv X pins σ H s → t σ H Q → wpAny (model X.prog X.w) X.A (spliced (backTo pos (starEach es X.env))) (AP X pins σ Q) X.xe s
def PS (X : Cx) (st : Stmt) (t : TS) : Prop :=
  ∀ (pins : List (Addr × Obj)) (s : Shared) (σ : St) (H : Hp) (D : Ends), Inv X pins σ H s → t D σ H → wpAny (model X.prog X.w) X.A (exec st X.env) (SP X pins D) X.xe s
def PSs (X : Cx) (st : List Stmt) (t : TS) : Prop :=
  ∀ (pins : List (Addr × Obj)) (s : Shared) (σ : St) (H : Hp) (D : Ends), Inv X pins σ H s → t D σ H → wpAny (model X.prog X.w) X.A (execs st X.env) (SP X pins D) X.xe s
theorem thn {α : Type} {t : Sem α} {Q Q' : α → Shared → Prop} {M : Model} {A : Around} {E : Value → Shared → Prop} {s : Shared} (h : wpAny M A t Q E s) (hQ : ∀ a s, Q a s → Q' a s) : wpAny M A t Q' E s := wpAny_mono h hQ fun _ _ x => x
end L2
namespace L2
open PySem PySem.Spec PyProof.Rows
section
variable {X : Cx}
def tVar (i : Nat) : TE := fun σ H Q => ∃ v, σ[i]? = some (some v) ∧ Q v H
def tC (v : V) : TE := fun _ H Q => Q v H
theorem pe_var {i : Nat} {x : Str} {pos : Pos} (hN : X.N[i]? = some x) (hv : Vis X.env.scope x) (hd : (x == ("__debug__" : Str)) = false := by decide) (hcd : (x == ("__classdict__" : Str)) = false := by decide) : PE X (.Name x pos) (tVar i) := by
  intro pins s σ H Q I h
  obtain ⟨v, e, h⟩ := h
  obtain ⟨m, hn, hl⟩ := I.loc
  obtain ⟨u, r, l⟩ := hl i x v hN e hv
  have fin : EP X pins σ Q u s := ⟨v, H, I, r, h⟩
  rcases l with ⟨hk, hm⟩ | ⟨hk, c, hc, hcell⟩
  · exact wpAny_Name (wpAny_loadName_local I.ok.kind hk hn hm fin) hd
  · rcases hk with hk | hk
    · exact wpAny_Name (wpAny_loadName_cell I.ok.kind hk hc hcell fin) hd
    · exact wpAny_Name (wpAny_loadName_free I.ok.kind hk hc hcell fin hcd) hd
theorem pe_int {i j pos} : PE X (.Constant (.int i) j pos) (tC (.int i)) := fun _ _ _ H _ I h => wpAny_Constant_int ⟨.int i, H, I.tok _, ⟨_, rfl⟩, h⟩
theorem pe_bl {b j pos} : PE X (.Constant (.bool b) j pos) (tC (.bl b)) := fun _ _ _ H _ I h => Constant_bool ⟨.bl b, H, I, rfl, h⟩
theorem pe_non {j pos} : PE X (.Constant .none j pos) (tC .non) := fun _ _ _ H _ I h => Constant_none ⟨.non, H, I, rfl, h⟩
theorem pe_str {x j pos} : PE X (.Constant (.str x) j pos) (tC (.str x)) := fun _ _ _ H _ I h => Calls.Constant_str ⟨.str x, H, I.tok _, ⟨_, rfl⟩, h⟩
def Gl (X : Cx) (x : Str) : Prop := X.env.kindOf x = some .globalImplicit
theorem ld_glob {E : Value → Shared → Prop} {pins : List (Addr × Obj)} {s : Shared} {σ : St} {H : Hp} {x : Str} {u : Value} {pos : Pos} {Q : Value → Shared → Prop} (I : Inv X pins σ H s) (hg : Gl X x) (hm : X.mg x = some u) (h : Q u s)
    (hd : (x == ("__debug__" : Str)) = false := by decide) : wpAny (model X.prog X.w) X.A (eval (.Name x pos) X.env) Q E s :=
  Calls.Name_function_global I.ok.kind hg (Calls.loadGlobal_global (by rw [I.ok.glob]; exact I.mod.glob.keeps I.bk) hm h) hd
theorem ld_blt {E : Value → Shared → Prop} {pins : List (Addr × Obj)} {s : Shared} {σ : St} {H : Hp} {x : Str} {u : Value} {pos : Pos} {Q : Value → Shared → Prop} (I : Inv X pins σ H s) (hg : Gl X x) (hm : X.mg x = none) (hv : bootBuiltins x = some u) (h : Q u s)
    (hn : x ≠ "__name__" := by decide) (hd : (x == ("__debug__" : Str)) = false := by decide) : wpAny (model X.prog X.w) X.A (eval (.Name x pos) X.env) Q E s := by
  obtain ⟨mb, h1, h2⟩ := I.mod.blt
  exact Calls.Name_function_global I.ok.kind hg (Calls.loadGlobal_builtin (by rw [I.ok.glob]; exact I.mod.glob.keeps I.bk) hm (by rw [I.ok.blt]; exact h1.keeps I.bk) ((h2 x hn).trans hv) h) hd
theorem pe_glob {x : Str} {v : V} {u : Value} {pos : Pos} (hg : Gl X x) (hm : X.mg x = some u) (r : RelV v u) (hd : (x == ("__debug__" : Str)) = false := by decide) : PE X (.Name x pos) (tC v) :=
  fun _ _ _ H _ I h => ld_glob I hg hm ⟨v, H, I, r, h⟩ hd
theorem pe_bltn {x : Str} {v : V} {u : Value} {pos : Pos} (hg : Gl X x) (hm : X.mg x = none) (hv : bootBuiltins x = some u) (r : RelV v u) (hn : x ≠ "__name__" := by decide) (hd : (x == ("__debug__" : Str)) = false := by decide) : PE X (.Name x pos) (tC v) :=
  fun _ _ _ H _ I h => ld_blt I hg hm hv ⟨v, H, I, r, h⟩ hn hd
variable {a b : Expr} {ta tb : TE} {pos : Pos}
def PC (X : Cx) (op : CmpOp) (a b : Expr) (t : TE) : Prop :=
  ∀ (pins : List (Addr × Obj)) (s : Shared) (σ : St) (H : Hp) (Q : VK), Inv X pins σ H s → t σ H Q →
    wpAny (model X.prog X.w) X.A (eval a X.env) (fun v s₁ => wpAny (model X.prog X.w) X.A (eval b X.env) (fun u s₂ => wpAny (model X.prog X.w) X.A (compareOp op v u) (EP X pins σ Q) X.xe s₂) X.xe s₁) X.xe s
theorem nobehind (b : Expr) {op : CmpOp} (h : op ≠ .In) (h2 : op ≠ .NotIn) : behindInMarks op b = false := by
  have e1 : (op == CmpOp.In) = false := by cases op <;> first | rfl | exact absurd rfl h
  have e2 : (op == CmpOp.NotIn) = false := by cases op <;> first | rfl | exact absurd rfl h2
  cases b <;> simp [behindInMarks, e1, e2]
variable {tA tB' : TT} {rest : List Expr}
def tNot (t : TT) : TT := fun σ H Q => t σ H fun c H1 => Q (!c) H1
theorem pw_and1 (ha : PT X a tA) : PW X (.BoolOp .And [a] pos) tA := by
  intro wh pins s σ H Q I h
  refine isTrue_and (thn (ha pins s σ H Q I h) fun c s1 e => ?_)
  cases c with
  | true => exact isTrue_and_nil e
  | false => exact e
theorem pw_or1 (ha : PT X a tA) : PW X (.BoolOp .Or [a] pos) tA := by
  intro wh pins s σ H Q I h
  refine isTrue_or (thn (ha pins s σ H Q I h) fun c s1 e => ?_)
  cases c with
  | false => exact isTrue_or_nil e
  | true => exact e
theorem pt_not (ha : PT X a tA) : PT X (.UnaryOp .Not a pos) (tNot tA) := by
  intro pins s σ H Q I h
  exact isTrue_not (ha pins s σ H (fun c H1 => Q (!c) H1) I h)
theorem pe_one {op} {t : TE} (h : PE X a t) : PE X (.BoolOp op [a] pos) t := fun pins s σ H Q I hw => BoolOp_one (h pins s σ H Q I hw)
end
end L2
namespace L2
open PySem PySem.Spec PyProof.Rows
def SqL (K : PySem.W.Frag) (H : Hp) (a : Addr) (xs : List V) : Prop :=
  Rd H a (.lst xs) ∨
    ∃ (o : Obj) (its : Array Value) (n : Nat), K.lookup a = some o ∧ o.cls = .type "list" ∧ o.dict = none ∧ o.data = .seq its n ∧ its.size ≤ sizeLine ∧ Vals xs its.toList
def SqT (K : PySem.W.Frag) (H : Hp) (a : Addr) (xs : List V) : Prop :=
  Rd H a (.tup xs) ∨
    ∃ (o : Obj) (its : Array Value) (n : Nat), K.lookup a = some o ∧ o.cls = .type "tuple" ∧ o.data = .seq its n ∧ its.size ≤ sizeLine ∧ Vals xs its.toList
def absV : Value → Option V
  | .none => some .non
  | .bool b => some (.bl b)
  | .int i _ => some (.int i)
  | .str x _ => some (.str x)
  | .bytes b _ => some (.byt b)
  | .float b _ => some (.flt b)
  | .ref a => some (.ref a)
  | .type n => some (.ty n)
  | _ => none
theorem RelV.abs {x : V} {u : Value} (r : RelV x u) : absV u = some x := by
  cases x with
  | non => cases r; rfl
  | bl _ => cases r; rfl
  | int _ => obtain ⟨t, rfl⟩ := r; rfl
  | str _ => obtain ⟨t, rfl⟩ := r; rfl
  | byt _ => obtain ⟨t, rfl⟩ := r; rfl
  | flt _ => obtain ⟨t, rfl⟩ := r; rfl
  | ref _ => cases r; rfl
  | ty _ => cases r; rfl
theorem RelV.inj {x y : V} {u : Value} (r : RelV x u) (q : RelV y u) : x = y := Option.some.inj (r.abs.symm.trans q.abs)
theorem Vals.inj : ∀ {xs ys : List V} {us : List Value}, Vals xs us → Vals ys us → xs = ys
  | _, _, _, .nil, .nil => rfl
  | _, _, _, .cons r t, .cons r' t' => by rw [r.inj r', Vals.inj t t']
section
variable {X : Cx} {pins : List (Addr × Obj)} {σ : St} {H : Hp} {s : Shared} {a : Addr} {xs ys : List V}
theorem SqL.of {K : PySem.W.Frag} (h : H a = some (.lst xs)) : SqL K H a xs := .inl (.inl h)
theorem SqT.of {K : PySem.W.Frag} (h : H a = some (.tup xs)) : SqT K H a xs := .inl (.inl h)
theorem Inv.list (I : Inv X pins σ H s) (h : SqL X.K H a xs) : ∃ its : List Value, Vals xs its ∧ PlainL s.heap a its.toArray ∧ xs.length ≤ sizeLine := by
  rcases h with h | ⟨o, its, n, hk, hc, hd, hs, hz, r⟩
  · obtain ⟨z, its, n, r, e⟩ := h.ok I.hok
    exact ⟨its, r, ⟨_, n, e, rfl, rfl, rfl⟩, z⟩
  · refine ⟨its.toList, r, ⟨o, n, I.kIn a o hk, hc, hd, by simpa using hs⟩, ?_⟩
    have e := r.length
    simp only [Array.length_toList] at e
    omega
theorem Inv.tuple (I : Inv X pins σ H s) (h : SqT X.K H a xs) : ∃ its : List Value, Vals xs its ∧ IsTup s.heap a its.toArray ∧ xs.length ≤ sizeLine := by
  rcases h with h | ⟨o, its, n, hk, hc, hs, hz, r⟩
  · obtain ⟨z, its, r, p⟩ := h.ok I.hok
    exact ⟨its, r, p, z⟩
  · refine ⟨its.toList, r, ⟨o, I.kIn a o hk, hc, n, by simpa using hs⟩, ?_⟩
    have e := r.length
    simp only [Array.length_toList] at e
    omega
theorem Inv.list_inj (I : Inv X pins σ H s) (h : SqL X.K H a xs) (h' : SqL X.K H a ys) : xs = ys := by
  obtain ⟨its, r, ⟨o, n, e, _, _, d⟩, _⟩ := I.list h
  obtain ⟨its', r', ⟨o', n', e', _, _, d'⟩, _⟩ := I.list h'
  rw [e] at e'; cases e'
  rw [d] at d'
  injection d' with d1 _
  have : its = its' := by simpa using congrArg Array.toList d1
  subst this
  exact r.inj r'
theorem Inv.tuple_inj (I : Inv X pins σ H s) (h : SqT X.K H a xs) (h' : SqT X.K H a ys) : xs = ys := by
  obtain ⟨its, r, ⟨o, e, _, n, d⟩, _⟩ := I.tuple h
  obtain ⟨its', r', ⟨o', e', _, n', d'⟩, _⟩ := I.tuple h'
  rw [e] at e'; cases e'
  rw [d] at d'
  injection d' with d1 _
  have : its = its' := by simpa using congrArg Array.toList d1
  subst this
  exact r.inj r'
end
abbrev Cx.wish (X : Cx) (E : Value → Shared → Prop) : Cx := { X with xe := E }
abbrev Cx.nox (X : Cx) : Cx := X.wish fun _ _ => False
theorem Cx.Ok.wish {X : Cx} (ok : X.Ok) (E : Value → Shared → Prop) : (X.wish E).Ok :=
  ⟨ok.mod, ok.kind, ok.glob, ok.blt, ok.above, ok.inj, ok.has, ok.cab, ok.hd, ok.frames, ok.stk, ok.exf, ok.bs, ok.bsz, ok.noex, ok.exfs, ok.funs, ok.frf⟩
theorem Cx.Ok.unwish {X : Cx} {E : Value → Shared → Prop} (ok : (X.wish E).Ok) : X.Ok :=
  ⟨ok.mod, ok.kind, ok.glob, ok.blt, ok.above, ok.inj, ok.has, ok.cab, ok.hd, ok.frames, ok.stk, ok.exf, ok.bs, ok.bsz, ok.noex, ok.exfs, ok.funs, ok.frf⟩
section
variable {X : Cx} {pins : List (Addr × Obj)} {σ : St} {H : Hp} {s : Shared} {E : Value → Shared → Prop}
theorem Inv.wish (I : Inv X pins σ H s) (E : Value → Shared → Prop) : Inv (X.wish E) pins σ H s := ⟨I.ok.wish E, I.os, I.bare, I.base, I.loc, I.cell, I.free, I.freeC, I.pin, I.hok, I.len⟩
theorem Inv.unwish (I : Inv (X.wish E) pins σ H s) : Inv X pins σ H s := ⟨I.ok.unwish, I.os, I.bare, I.base, I.loc, I.cell, I.free, I.freeC, I.pin, I.hok, I.len⟩
theorem SP.unwish {D : Ends} {f : Flow} {s' : Shared} (h : SP (X.wish E) pins D f s') : SP X pins D f s' := by
  cases f with
  | next => obtain ⟨σ', H', I, q⟩ := h; exact ⟨σ', H', I.unwish, q⟩
  | brk => obtain ⟨σ', H', I, q⟩ := h; exact ⟨σ', H', I.unwish, q⟩
  | cont => obtain ⟨σ', H', I, q⟩ := h; exact ⟨σ', H', I.unwish, q⟩
  | ret u => obtain ⟨v, σ', H', I, r, q⟩ := h; exact ⟨v, σ', H', I.unwish, r, q⟩
theorem PE.nox {e : Expr} {t : TE} (h : PE X.nox e t) : PE X e t := fun pins s σ H Q I hw =>
  wpAny_mono (h pins s σ H Q (I.wish _) hw) (fun _ _ ⟨v, H', I', r, q⟩ => ⟨v, H', I'.unwish, r, q⟩) fun _ _ z => False.elim z
theorem PT.nox {e : Expr} {t : TT} (h : PT X.nox e t) : PT X e t := fun pins s σ H Q I hw =>
  wpAny_mono (h pins s σ H Q (I.wish _) hw) (fun _ _ ⟨H', I', q⟩ => ⟨H', I'.unwish, q⟩) fun _ _ z => False.elim z
theorem PSs.nox {st : List Stmt} {t : TS} (h : PSs X.nox st t) : PSs X st t := fun pins s σ H D I hw =>
  wpAny_mono (h pins s σ H D (I.wish _) hw) (fun _ _ q => q.unwish) fun _ _ z => False.elim z
end
section
variable {X : Cx} {st : Stmt} {rest : List Stmt} {t u : TS} {e : Expr} {te : TE} {pos : Pos}
def tNext : TS := fun D σ H => D.nx σ H
def tSeq (t u : TS) : TS := fun D σ H => t { D with nx := u D } σ H
theorem pss_nil : PSs X [] tNext := fun _ _ σ H _ I h => wpAny_execs_nil ⟨σ, H, I, h⟩
theorem pss_cons (h1 : PS X st t) (h2 : PSs X rest u) : PSs X (st :: rest) (tSeq t u) := by
  intro pins s σ H D I h
  refine wpAny_execs_cons (thn (h1 pins s σ H { D with nx := u D } I h) fun f s1 q => ?_)
  cases f with
  | next =>
    obtain ⟨σ', H', I', q⟩ := q
    exact h2 pins s1 σ' H' D I' q
  | ret v => exact q
  | brk => exact q
  | cont => exact q
theorem pss_one (h1 : PS X st t) : PSs X [st] t := by
  intro pins s σ H D I h
  refine wpAny_execs_cons (thn (h1 pins s σ H D I h) fun f s1 q => ?_)
  cases f with
  | next => exact wpAny_execs_nil q
  | ret v => exact q
  | brk => exact q
  | cont => exact q
theorem Inv.quiet {pins : List (Addr × Obj)} {σ : St} {H : Hp} {s : Shared} (I : Inv X pins σ H s) : interactive X.env = false := by simp [interactive, I.ok.kind]
def tDrop (te : TE) : TS := fun D σ H => te σ H fun _ H1 => D.nx σ H1
theorem ps_expr (he : PE X e te) (hs : swapsWith e none pos.line X.env = pure false := by rfl) : PS X (.Expr e pos) (tDrop te) := by
  intro pins s σ H D I h
  exact wpAny_Expr_any (thn (he pins s σ H _ I h) fun v s1 ⟨x, H1, I1, r1, q1⟩ => ⟨σ, H1, I1, q1⟩) I.quiet hs
def tRet (te : TE) : TS := fun D σ H => te σ H D.rt
theorem ps_ret (he : PE X e te) : PS X (.Return (some e) pos) (tRet te) := by
  intro pins s σ H D I h
  exact wpAny_Return_some (thn (he pins s σ H _ I h) fun v s1 ⟨x, H1, I1, r1, q1⟩ => ⟨x, σ, H1, I1, r1, q1⟩)
end
abbrev TG := V → St → Hp → (St → Hp → Prop) → Prop
abbrev TGs := List V → St → Hp → (St → Hp → Prop) → Prop
def PG (X : Cx) (target : Expr) (t : TG) : Prop :=
  ∀ (pins : List (Addr × Obj)) (s : Shared) (σ : St) (H : Hp) (v : V) (u : Value) (Q : St → Hp → Prop), Inv X pins σ H s → RelV v u → t v σ H Q →
    wpAny (model X.prog X.w) X.A (assign target X.env u) (fun _ s' => ∃ σ' H', Inv X pins σ' H' s' ∧ Q σ' H') X.xe s
def PGs (X : Cx) (ts : List Expr) (t : TGs) : Prop :=
  ∀ (pins : List (Addr × Obj)) (s : Shared) (σ : St) (H : Hp) (vs : List V) (us : List Value) (Q : St → Hp → Prop), Inv X pins σ H s → Vals vs us → t vs σ H Q →
    wpAny (model X.prog X.w) X.A (assignInOrder ((assignEach ts X.env).map (·.2)) us) (fun _ s' => ∃ σ' H', Inv X pins σ' H' s' ∧ Q σ' H') X.xe s
abbrev TSet := V → V → V → Hp → (Hp → Prop) → Prop
def PSet (X : Cx) (t : TSet) : Prop :=
  ∀ (pins : List (Addr × Obj)) (s : Shared) (σ : St) (H : Hp) (o i v : V) (ov iv u : Value) (Q : Hp → Prop), Inv X pins σ H s → RelV o ov → RelV i iv → RelV v u → t o i v H Q →
    wpAny (model X.prog X.w) X.A (setItem ov iv u) (fun _ s' => ∃ H', Inv X pins σ H' s' ∧ Q H') X.xe s
section
variable {X : Cx} {pos : Pos}
def gName (i : Nat) : TG := fun v σ H Q => Q (σ.set i (some v)) H
theorem pg_name {i : Nat} {x : Str} (hN : X.N.Nodup) (hi : X.N[i]? = some x) (hx : Loc X.env.scope x) (hf : X.fn x = true ∨ X.env.scope.names.lookup x = some .local := by first | exact .inl rfl | exact .inr rfl | assumption) : PG X (.Name x pos) (gName i) := by
  intro pins s σ H v u Q I r h
  exact wpAny_assign_Name (store_ok I hN hi hx r (fun s' I' => ⟨_, H, I', h⟩) hf)
def gNil : TGs := fun vs σ H Q => vs = [] ∧ Q σ H
def gCons (t : TG) (u : TGs) : TGs := fun vs σ H Q => ∃ v r, vs = v :: r ∧ t v σ H fun σ' H' => u r σ' H' Q
theorem pgs_nil : PGs X [] gNil := by
  intro pins s σ H vs us Q I r h
  obtain ⟨e, h⟩ := h
  subst e
  cases r
  exact assignInOrder_nil ⟨σ, H, I, h⟩
theorem pgs_cons {e : Expr} {es : List Expr} {t : TG} {u : TGs} (h1 : PG X e t) (h2 : PGs X es u)
    (hs : (assignEach (e :: es) X.env).map (·.2) = assign e X.env :: (assignEach es X.env).map (·.2) := by rfl) : PGs X (e :: es) (gCons t u) := by
  intro pins s σ H vs us Q I r h
  obtain ⟨v, vr, e1, h⟩ := h
  subst e1
  cases r with
  | cons r rr =>
    rw [hs]
    refine assignInOrder_cons (thn (h1 pins s σ H _ _ _ I r h) fun _ s1 ⟨σ1, H1, I1, q1⟩ => ?_)
    exact h2 pins s1 σ1 H1 _ _ Q I1 rr q1
def gTup (K : PySem.W.Frag) (n : Nat) (t : TGs) : TG := fun v σ H Q => ∃ a xs, v = .ref a ∧ SqT K H a xs ∧ xs.length = n ∧ t xs σ H Q
theorem pg_tup {es : List Expr} {k : Nat} {t : TGs} {n : Nat} (hc : X.calm = true) (h : PGs X es t)
    (hn : (assignEach es X.env).length = n := by rfl) (hst : (assignEach es X.env).findIdx? (·.1) = none := by rfl) : PG X (.Tuple es k pos) (gTup X.K n t) := by
  intro pins s σ H v u Q I r hw
  obtain ⟨a, xs, e1, hq, hl, hw⟩ := hw
  subst e1
  cases r
  obtain ⟨its, rv, ht, hz⟩ := I.tuple hq
  refine assign_Tuple_tuple (I.ok.hd hc) ht (by simp [hn, ← hl, rv.length]) hst fun h' hx => ?_
  have I1 : Inv X pins σ H { s with heap := h' } := I.kept (t' := s.toks) fun b o e => hx b o (Nat.ne_of_lt (Heap.lt_size e)) e
  exact h pins _ σ H xs _ Q I1 (by simpa using rv) hw
def gSub (to ti : TE) (t : TSet) : TG := fun v σ H Q => to σ H fun o H1 => ti σ H1 fun i H2 => t o i v H2 fun H3 => Q σ H3
theorem pg_sub {o i : Expr} {to ti : TE} {t : TSet} (ho : PE X o to) (hi : PE X i ti) (hs : PSet X t)
    (ha : ∀ v, assign (.Subscript o i pos) X.env v = (do
      let ov ← holding [v] (eval o X.env)
      let iv ← holding [v, ov] (eval i X.env)
      standAt pos
      holding [v, ov, iv] (setItem ov iv v)
      release [v, ov, iv] []) := by intro _; rfl) : PG X (.Subscript o i pos) (gSub to ti t) := by
  intro pins s σ H v u Q I r h
  rw [ha]
  refine wpAny_bind (wpAny_holding (thn (ho pins s σ H _ I h) fun ov s1 ⟨x, H1, I1, r1, q1⟩ => ?_))
  refine wpAny_bind (wpAny_holding (thn (hi pins s1 σ H1 _ I1 q1) fun iv s2 ⟨y, H2, I2, r2, q2⟩ => ?_))
  refine wpAny_bind (wpAny_standAt (wpAny_bind (wpAny_holding (thn (hs pins s2 σ H2 x y v ov iv u _ I2 r1 r2 r q2) fun _ s3 ⟨H3, I3, q3⟩ => ?_))))
  exact wpAny_release ⟨σ, H3, I3, q3⟩
def tAsg (te : TE) (g : TG) : TS := fun D σ H => te σ H fun x H1 => g x σ H1 D.nx
theorem ps_asg {tg e : Expr} {te : TE} {g : TG} (he : PE X e te) (hg : PG X tg g) (hs : swapsWithSole [tg] e pos.line X.env = pure false := by rfl) (hw : swappedStores [tg] e X.env = pure none := by rfl)
    (h1 : (assignEach [tg] X.env).map (·.2) = [assign tg X.env] := by rfl) : PS X (.Assign [tg] e pos) (tAsg te g) := by
  intro pins s σ H D I h
  refine wpAny_Assign_stores (thn (he pins s σ H _ I h) fun v s1 ⟨x, H1, I1, r1, q1⟩ => ?_) hs hw
  rw [h1]
  exact thn (hg pins s1 σ H1 x v _ I1 r1 q1) fun _ s2 q => q
theorem ps_set {i : Nat} {x : Str} {e : Expr} {te : TE} {pos' : Pos} (hN : X.N.Nodup) (hi : X.N[i]? = some x) (hx : Loc X.env.scope x) (he : PE X e te) (hs : swapsWith e (some (.Name x pos')) pos.line X.env = pure false := by rfl) (hf : X.fn x = true ∨ X.env.scope.names.lookup x = some .local := by first | exact .inl rfl | exact .inr rfl | assumption) :
    PS X (.Assign [.Name x pos'] e pos) (tAsg te (gName i)) := by
  intro pins s σ H D I h
  refine wpAny_Assign_Name (thn (he pins s σ H _ I h) fun v s1 ⟨y, H1, I1, r1, q1⟩ => ?_) hs
  exact store_ok I1 hN hi hx r1 (fun s2 I2 => ⟨_, H1, I2, q1⟩) hf
end
section
variable {X : Cx} {pos : Pos}
end
structure It where
  go : Nat → Hp → Prop
  yld : Nat → Hp → V → Hp → Prop
  stop : Nat → Hp → Prop
def FpOk (X : Cx) (pins : List (Addr × Obj)) (H : Hp) (b : Addr) : Prop :=
  H b = none ∧ b ≠ X.env.locals ∧ b ∉ X.fs ∧ (b ∈ X.ex ∨ X.s₀.heap.objs.size ≤ b) ∧ (∀ x c, X.env.cells.lookup x = some c → c ≠ b) ∧ ∀ p ∈ X.pn ++ pins, p.1 ≠ b
theorem Inv.fpOk {X : Cx} {pins : List (Addr × Obj)} {σ : St} {H H' : Hp} {s : Shared} {b : Addr} (I : Inv X pins σ H s) (hb : s.heap.objs.size ≤ b) (hn : H' b = none) : FpOk X pins H' b := by
  refine ⟨hn, Nat.ne_of_gt (Nat.lt_of_lt_of_le I.lt hb), I.nofs hb, .inr (Nat.le_trans I.sz hb), fun x c e z => ?_, fun p hp z => ?_⟩
  · obtain ⟨v, q⟩ := I.cell x c e
    exact absurd (Nat.lt_of_lt_of_le q.lt (by rw [z]; exact hb)) (Nat.lt_irrefl _)
  · exact absurd (Nat.lt_of_lt_of_le (Heap.lt_size (I.pin p hp).1) (by rw [z]; exact hb)) (Nat.lt_irrefl _)
structure Turn (P : Program) (w : World) (K : PySem.W.Frag) (tg : Expr) (J : It) (fp : List Addr) (it : Addr) (tn : Nat → Heap → Prop) : Prop where
  mem : it ∈ fp
  obj : ∀ i h, tn i h → ∀ b ∈ fp, ∃ o, h.get? b = some o ∧ ∀ v, o.data ≠ .cell v
  keep : ∀ i h h', tn i h → (∀ b ∈ fp, ∀ o, h.get? b = some o → h'.get? b = some o) → tn i h'
  item : ∀ (X : Cx), X.prog = P → X.w = w → X.K = K → X.calm = true → ∀ (i : Nat) (pins : List (Addr × Obj)) (s : Shared) (σ : St) (H : Hp) (E : Value → Shared → Prop), Inv X pins σ H s → (∀ b ∈ fp, FpOk X pins H b) → tn i s.heap → J.go i H →
    wpAny (model P w) X.A (pyNext (.ref it)) (fun r s1 => ∃ u, r = some u ∧
      wpAny (model P w) X.A (letOwnedTupleGo tg (.ref it) u) (fun _ s2 => ∃ x H', Inv X pins σ H' s2 ∧ RelV x u ∧ J.yld i H x H' ∧ tn (i + 1) s2.heap ∧ ∀ b ∈ fp, H' b = none) E s1) E s
  done : ∀ (X : Cx), X.prog = P → X.w = w → X.K = K → X.calm = true → ∀ (i : Nat) (pins : List (Addr × Obj)) (s : Shared) (σ : St) (H : Hp) (E : Value → Shared → Prop), Inv X pins σ H s → (∀ b ∈ fp, FpOk X pins H b) → tn i s.heap → J.stop i H →
    wpAny (model P w) X.A (pyNext (.ref it)) (fun r s1 => r = none ∧ Inv X pins σ H s1) E s
  self : ∀ (A : Around) (i : Nat) (s : Shared) (Q : Value → Shared → Prop) (E : Value → Shared → Prop), tn i s.heap → Q (.ref it) s → wpAny (model P w) A (pyIter (.ref it)) Q E s
abbrev TI := St → Hp → (It → Hp → Prop) → Prop
def PIE (X : Cx) (pins : List (Addr × Obj)) (σ : St) (tg : Expr) (R : It → Hp → Prop) (itv : Value) (s2 : Shared) : Prop :=
  ∃ (it : Addr) (fp : List Addr) (tn : Nat → Heap → Prop) (J : It) (H' : Hp), itv = .ref it ∧ Inv X pins σ H' s2 ∧ Turn X.prog X.w X.K tg J fp it tn ∧ tn 0 s2.heap ∧ (∀ b ∈ fp, FpOk X pins H' b) ∧ R J H'
def PI (X : Cx) (tg iter : Expr) (wi : TI) : Prop :=
  ∀ (pins : List (Addr × Obj)) (s : Shared) (σ : St) (H : Hp) (R : It → Hp → Prop), Inv X pins σ H s → wi σ H R →
    wpAny (model X.prog X.w) X.A (eval iter X.env) (fun v s1 => wpAny (model X.prog X.w) X.A (pyIter v) (PIE X pins σ tg R) X.xe s1) X.xe s
theorem go_of {M : Model} {A : Around} {E : Value → Shared → Prop} {s : Shared} {tg : Expr} {it : Addr} {u : Value} {o : Obj} {n : String} {vs : Array Value} {Q : Unit → Shared → Prop} (ho : s.heap.get? it = some o) (hc : o.cls = .type n) (hd : o.data = .fields vs)
    (hn : ["enumerate", "zip", "dict_itemiterator", "dict_reverseitemiterator", "odict_iterator", "itertools.zip_longest", "itertools.pairwise"].contains n = false) (hQ : Q () s) : wpAny M A (letOwnedTupleGo tg (.ref it) u) Q E s := by
  unfold letOwnedTupleGo
  cases tg <;> first
    | exact wpAny_pure hQ
    | (cases u <;> first
        | exact wpAny_pure hQ
        | (refine wpAny_bind (wpAny_load ho ?_)
           rw [hc, hd]
           show wpAny M A (if (["enumerate", "zip", "dict_itemiterator", "dict_reverseitemiterator", "odict_iterator", "itertools.zip_longest", "itertools.pairwise"].contains n && vs[0]? == some (rawInt _)) = true then _ else _) Q E s
           rw [if_neg (by intro h; rw [hn, Bool.false_and] at h; cases h)]
           exact wpAny_pure hQ))
def Itl (K : PySem.W.Frag) (a : Addr) : It :=
  ⟨fun i H => ∃ xs x, SqL K H a xs ∧ xs[i]? = some x, fun i H x H' => H' = H ∧ ∀ xs, SqL K H a xs → xs[i]? = some x, fun i H => ∃ xs, SqL K H a xs ∧ xs.length ≤ i⟩
def Itt (K : PySem.W.Frag) (a : Addr) : It :=
  ⟨fun i H => ∃ xs x, SqT K H a xs ∧ xs[i]? = some x, fun i H x H' => H' = H ∧ ∀ xs, SqT K H a xs → xs[i]? = some x, fun i H => ∃ xs, SqT K H a xs ∧ xs.length ≤ i⟩
def Itr (lo : Int) (n : Nat) : It := ⟨fun i _ => i < n, fun i H x H' => H' = H ∧ x = .int (lo + i), fun i _ => n ≤ i⟩
theorem turn_list {P : Program} {w : World} {K : PySem.W.Frag} {tg : Expr} (a it : Addr) : Turn P w K tg (Itl K a) [it] it (fun i h => h.IsListIter it a i) where
  mem := by simp
  obj := fun i h st b hb => by
    have e : b = it := by simpa using hb
    subst e
    obtain ⟨o, e, c, d⟩ := st
    exact ⟨o, e, fun v z => by rw [d] at z; cases z⟩
  keep := fun i h h' st k => st.at fun o e => k it (by simp) o e
  item := by
    intro X hP hw hK hc i pins s σ H E I hf st hg
    subst hP hw hK
    obtain ⟨xs, x, hq, hx⟩ := hg
    obtain ⟨its, rv, p, hz⟩ := I.list hq
    obtain ⟨u, hu, ru⟩ := rv.get hx
    obtain ⟨f0, f1, f2, f3, f4, f5⟩ := hf it (by simp)
    refine wpAny_pyNext_list_item st p.isList (x := u) (by simpa using hu) fun h' st' sb => ?_
    have I1 : Inv X pins σ H { s with heap := h' } := I.turned (t' := s.toks) (fun b o hb e => (sb.2 b hb).trans e) f0 f1 f3 f4 f5
    obtain ⟨o, e, c, d⟩ := id st'
    exact ⟨u, rfl, go_of (s := { s with heap := h' }) e c d (by decide) ⟨x, H, I1, ru, ⟨rfl, fun ys hy => by rw [I.list_inj hy hq]; exact hx⟩, st', fun b hb => (hf b hb).1⟩⟩
  done := by
    intro X hP hw hK hc i pins s σ H E I hf st hg
    subst hP hw hK
    obtain ⟨xs, hq, hx⟩ := hg
    obtain ⟨its, rv, p, hz⟩ := I.list hq
    obtain ⟨f0, f1, f2, f3, f4, f5⟩ := hf it (by simp)
    have hl := rv.length
    exact wpAny_pyNext_list_end (I.ok.hd hc) st p.isList (by simp; omega) fun h' eb => ⟨rfl, I.turned (t' := s.toks) (fun b o hb e => eb b o hb e) f0 f1 f3 f4 f5⟩
  self := fun _ _ _ _ _ st h => wpAny_pyIter_listiter st h
theorem turn_tuple {P : Program} {w : World} {K : PySem.W.Frag} {tg : Expr} (a it : Addr) : Turn P w K tg (Itt K a) [it] it (fun i h => h.IsTupleIter it a i) where
  mem := by simp
  obj := fun i h st b hb => by
    have e : b = it := by simpa using hb
    subst e
    obtain ⟨o, e, c, d⟩ := st
    exact ⟨o, e, fun v z => by rw [d] at z; cases z⟩
  keep := fun i h h' st k => st.at fun o e => k it (by simp) o e
  item := by
    intro X hP hw hK hc i pins s σ H E I hf st hg
    subst hP hw hK
    obtain ⟨xs, x, hq, hx⟩ := hg
    obtain ⟨its, rv, p, hz⟩ := I.tuple hq
    obtain ⟨u, hu, ru⟩ := rv.get hx
    obtain ⟨f0, f1, f2, f3, f4, f5⟩ := hf it (by simp)
    refine wpAny_pyNext_tuple_item st (show s.heap.IsTuple a its.toArray from p) (x := u) (by simpa using hu) fun h' st' sb => ?_
    have I1 : Inv X pins σ H { s with heap := h' } := I.turned (t' := s.toks) (fun b o hb e => (sb.2 b hb).trans e) f0 f1 f3 f4 f5
    obtain ⟨o, e, c, d⟩ := id st'
    exact ⟨u, rfl, go_of (s := { s with heap := h' }) e c d (by decide) ⟨x, H, I1, ru, ⟨rfl, fun ys hy => by rw [I.tuple_inj hy hq]; exact hx⟩, st', fun b hb => (hf b hb).1⟩⟩
  done := by
    intro X hP hw hK hc i pins s σ H E I hf st hg
    subst hP hw hK
    obtain ⟨xs, hq, hx⟩ := hg
    obtain ⟨its, rv, p, hz⟩ := I.tuple hq
    obtain ⟨f0, f1, f2, f3, f4, f5⟩ := hf it (by simp)
    have hl := rv.length
    exact wpAny_pyNext_tuple_end (I.ok.hd hc) st (show s.heap.IsTuple a its.toArray from p) (by simp; omega) fun h' eb => ⟨rfl, I.turned (t' := s.toks) (fun b o hb e => eb b o hb e) f0 f1 f3 f4 f5⟩
  self := fun _ _ _ _ _ st h => wpAny_pyIter_tupleiter st h
theorem turn_range {P : Program} {w : World} {K : PySem.W.Frag} {tg : Expr} (it : Addr) (lo : Int) (n : Nat) : Turn P w K tg (Itr lo n) [it] it (fun i h => IsRangeIter h it (lo + (i : Nat) * 1) ((n : Int) - (i : Nat)) 1) where
  mem := by simp
  obj := fun i h st b hb => by
    have e : b = it := by simpa using hb
    subst e
    exact ⟨_, st, fun v z => by
      have z' : Data.fields _ = Data.cell v := z
      cases z'⟩
  keep := fun i h h' st k => k it (by simp) _ st
  item := by
    intro X hP hw hK hc i pins s σ H E I hf st hg
    subst hP hw hK
    obtain ⟨f0, f1, f2, f3, f4, f5⟩ := hf it (by simp)
    have W := Walks.range (prog := X.prog) (w := X.w) (I.ok.hd hc) it lo 1 n
    refine W.item i s _ _ hg st fun v h' tk hv st' kk => ?_
    obtain ⟨t, rfl⟩ := hv
    have I1 : Inv X pins σ H { s with heap := h', toks := tk } := I.turned (fun b o hb e => kk b o (by simpa using hb) e) f0 f1 f3 f4 f5
    refine ⟨_, rfl, go_of (s := { s with heap := h', toks := tk }) (n := "range_iterator") st' rfl rfl (by decide) ⟨.int (lo + i), H, I1, ⟨t, ?_⟩, ⟨rfl, rfl⟩, st', fun b hb => (hf b hb).1⟩⟩
    rw [Int.mul_one]
  done := by
    intro X hP hw hK hc i pins s σ H E I hf st hg
    subst hP hw hK
    obtain ⟨f0, f1, f2, f3, f4, f5⟩ := hf it (by simp)
    exact wpAny_pyNext_range_end (I.ok.hd hc) st (by have : n ≤ i := hg; omega) fun h' eb => ⟨rfl, I.turned (t' := s.toks) (fun b o hb e => eb b o hb e) f0 f1 f3 f4 f5⟩
  self := fun _ _ _ _ _ st h => wpAny_pyIter_rangeiter st h
end L2
namespace L2
open PySem PySem.Spec PyProof.Rows
section
variable {X : Cx} {tg : Expr}
theorem range_it {pins : List (Addr × Obj)} {σ : St} {H : Hp} {s : Shared} {R : It → Hp → Prop} {E : Value → Shared → Prop} {lo hi : Int} {t u v : Tok} {tk : Nat} (I : Inv X pins σ H s) (h1 : -(2 ^ 62) ≤ lo) (h2 : lo < 2 ^ 62) (h3 : -(2 ^ 62) ≤ hi) (h4 : hi < 2 ^ 62)
    (q : R (Itr lo (hi - lo).toNat) H) : wpAny (model X.prog X.w) X.A (pyIter (.ref s.heap.objs.size)) (PIE X pins σ tg R) E { s with heap := s.heap.push { cls := .type "range", data := .fields #[.int lo t, .int hi u, .int 1 v] }, toks := tk } := by
  refine wpAny_pyIter_range (IsRange.new ..) (small_one h1 h2 h3 h4) ?_
  have I1 : Inv X pins σ H { s with heap := s.heap.push { cls := .type "range", data := .fields #[.int lo t, .int hi u, .int 1 v] }, toks := tk } := I.kept fun b o e => Heap.get?_push_of_some _ e
  refine ⟨(s.heap.push { cls := .type "range", data := .fields #[.int lo t, .int hi u, .int 1 v] }).objs.size, [(s.heap.push { cls := .type "range", data := .fields #[.int lo t, .int hi u, .int 1 v] }).objs.size], _, _, H, rfl,
    I1.kept (t' := tk) fun b o e => Heap.get?_push_of_some _ e, turn_range _ lo (hi - lo).toNat, ?_, fun b hb => ?_, q⟩
  · have e1 : lo + ((0 : Nat) : Int) * 1 = lo := by simp
    have e2 : (((hi - lo).toNat : Nat) : Int) - ((0 : Nat) : Int) = Builtin.Range.rangeSize lo hi 1 := by rw [rangeSize_one]; split <;> omega
    show IsRangeIter _ _ (lo + ((0 : Nat) : Int) * 1) ((((hi - lo).toNat : Nat) : Int) - ((0 : Nat) : Int)) 1
    rw [e1, e2]
    exact Heap.get?_push_size _ rfl
  · have e : b = (s.heap.push { cls := .type "range", data := .fields #[.int lo t, .int hi u, .int 1 v] }).objs.size := by simpa using hb
    subst e
    exact I1.fpOk (Nat.le_refl _) (I1.hok.fresh (Nat.le_refl _))
def tFor (wi : TI) (g : TG) (tb : TS) : TS := fun D σ H => wi σ H fun J H1 => ∃ W : Nat → Nat → St → Hp → Prop, (∃ m, W 0 m σ H1) ∧ ∀ i m σ H, W i m σ H →
  (J.stop i H ∧ D.nx σ H) ∨ (J.go i H ∧ ∃ N : St → Hp → Prop, (∀ σ' H', N σ' H' → ∃ m', m' < m ∧ W (i + 1) m' σ' H') ∧ ∀ x H', J.yld i H x H' → g x σ H' fun σ2 H2 => tb { D with nx := N, ct := N, bk := D.nx } σ2 H2)
def pinsAt (fp : List Addr) (h : Heap) : List (Addr × Obj) := fp.filterMap fun b => (h.get? b).map fun o => (b, o)
theorem mem_pinsAt {fp : List Addr} {h : Heap} {b : Addr} {o : Obj} (hb : b ∈ fp) (e : h.get? b = some o) : (b, o) ∈ pinsAt fp h := List.mem_filterMap.mpr ⟨b, hb, by rw [e]; rfl⟩
theorem of_pinsAt {fp : List Addr} {h : Heap} {p : Addr × Obj} (hp : p ∈ pinsAt fp h) : p.1 ∈ fp ∧ h.get? p.1 = some p.2 := by
  obtain ⟨b, hb, e⟩ := List.mem_filterMap.mp hp
  cases q : h.get? b with
  | none => rw [q] at e; cases e
  | some o =>
    rw [q] at e
    have e' : (b, o) = p := Option.some.inj e
    subst e'
    exact ⟨hb, q⟩
theorem Inv.pinned {pins : List (Addr × Obj)} {σ : St} {H : Hp} {s : Shared} {fp : List Addr} (I : Inv X pins σ H s) (hf : ∀ b ∈ fp, FpOk X pins H b) (ho : ∀ b ∈ fp, ∃ o, s.heap.get? b = some o ∧ ∀ v, o.data ≠ .cell v) : Inv X (pins ++ pinsAt fp s.heap) σ H s :=
  I.pins_of fun p hp => (List.mem_append.mp hp).elim (fun z => I.pin p (List.mem_append_right _ z)) fun z => by
    obtain ⟨hb, e⟩ := of_pinsAt z
    obtain ⟨f0, f1, f2, _⟩ := hf p.1 hb
    obtain ⟨o, e', d⟩ := ho p.1 hb
    rw [e] at e'; cases e'
    exact ⟨e, f0, f1, f2, d⟩
theorem Inv.unpinned {pins pl : List (Addr × Obj)} {σ : St} {H : Hp} {s : Shared} (I : Inv X (pins ++ pl) σ H s) : Inv X pins σ H s := I.pins_of fun p hp => I.pin p (List.mem_append_right _ (List.mem_append_left _ hp))
theorem ps_for {iter : Expr} {body : List Stmt} {wi : TI} {g : TG} {tb : TS} {pos : Pos} (hp : PassesOwn (model X.prog X.w) X.A X.env X.xe) (hc : X.calm = true) (hi : PI X tg iter wi) (hg : PG X tg g) (hb : PSs X body tb)
    (hs : ∀ x, foldedSetIterable iter X.env x = pure x := by intro _; rfl) : PS X (.For tg iter body [] pos) (tFor wi g tb) := by
  intro pins s σ H D I h
  refine wpAny_For (thn (hi pins s σ H _ I h) fun v s1 h1 => thn h1 fun itv s2 h2 => ?_) hs
  obtain ⟨it, fp, tn, J, H2, e, I2, T, st2, f2, W, ⟨m0, w0⟩, turn⟩ := h2
  subst e
  have stat : ∀ {H' : Hp}, (∀ b ∈ fp, H' b = none) → ∀ b ∈ fp, FpOk X pins H' b := fun hn b hb => ⟨hn b hb, (f2 b hb).2⟩
  refine codeAny_forLoop_any (fun n s' => ∃ i σ' H', Inv X pins σ' H' s' ∧ tn i s'.heap ∧ (∀ b ∈ fp, H' b = none) ∧ W i n σ' H') ?_ m0 ⟨0, σ, H2, I2, st2, fun b hb => (f2 b hb).1, w0⟩
  rintro n s3 ⟨i, σ3, H3, I3, st3, fr3, w3⟩
  rcases turn i n σ3 H3 w3 with ⟨stop, qn⟩ | ⟨go, N, hN, step⟩
  · refine wpAny_passesOwn hp (thn (T.done X rfl rfl rfl hc i pins s3 σ3 H3 X.xe I3 (stat fr3) st3 stop) fun r s4 ⟨hr, I4⟩ => ?_)
    subst hr
    exact wpAny_execs_nil ⟨σ3, H3, I4, qn⟩
  · refine wpAny_passesOwn hp (thn (T.item X rfl rfl rfl hc i pins s3 σ3 H3 X.xe I3 (stat fr3) st3 go) fun r s4 ⟨u, hr, h4⟩ => ?_)
    subst hr
    refine wpAny_passesOwn hp (thn h4 fun _ s5 ⟨x, H5, I5, r5, y5, st5, fr5⟩ => ?_)
    have I5' := I5.pinned (stat fr5) (T.obj _ _ st5)
    refine wpAny_passesOwn hp (thn (hg _ s5 σ3 H5 x u _ I5' r5 (step x H5 y5)) fun _ s6 ⟨σ6, H6, I6, q6⟩ => ?_)
    refine wpAny_passesOwn hp (thn (hb _ s6 σ6 H6 _ I6 q6) fun f s7 q7 => ?_)
    have again : ∀ {σ7 : St} {H7 : Hp}, Inv X (pins ++ pinsAt fp s5.heap) σ7 H7 s7 → N σ7 H7 → ∃ m, m < n ∧ ∃ i σ' H', Inv X pins σ' H' s7 ∧ tn i s7.heap ∧ (∀ b ∈ fp, H' b = none) ∧ W i m σ' H' := fun {σ7 H7} I7 n7 => by
      obtain ⟨m', hm, w7⟩ := hN σ7 H7 n7
      refine ⟨m', hm, i + 1, σ7, H7, I7.unpinned, T.keep _ _ _ st5 fun b hb o e => (I7.pin (b, o) (List.mem_append_right _ (List.mem_append_right _ (mem_pinsAt hb e)))).1, fun b hb => ?_, w7⟩
      obtain ⟨o, e, d⟩ := T.obj _ _ st5 b hb
      exact (I7.pin (b, o) (List.mem_append_right _ (List.mem_append_right _ (mem_pinsAt hb e)))).2.1
    cases f with
    | next => obtain ⟨σ7, H7, I7, n7⟩ := q7; exact again I7 n7
    | cont => obtain ⟨σ7, H7, I7, n7⟩ := q7; exact again I7 n7
    | brk => obtain ⟨σ7, H7, I7, q7⟩ := q7; exact ⟨σ7, H7, I7.unpinned, q7⟩
    | ret v => obtain ⟨x7, σ7, H7, I7, r7, q7⟩ := q7; exact ⟨x7, σ7, H7, I7.unpinned, r7, q7⟩
end
end L2
namespace L2
open PySem PySem.Spec PyProof.Rows
abbrev R2 := V → V → Hp → VK → Prop
def OpR (X : Cx) (f : Value → Value → Sem Value) (r : R2) : Prop :=
  ∀ (pins : List (Addr × Obj)) (s : Shared) (σ : St) (H : Hp) (x y : V) (v u : Value) (Q : VK), Inv X pins σ H s → RelV x v → RelV y u → r x y H Q →
    wpAny (model X.prog X.w) X.A (f v u) (EP X pins σ Q) X.xe s
def UnR (X : Cx) (f : Value → Sem Value) (r : V → Hp → VK → Prop) : Prop :=
  ∀ (pins : List (Addr × Obj)) (s : Shared) (σ : St) (H : Hp) (x : V) (v : Value) (Q : VK), Inv X pins σ H s → RelV x v → r x H Q →
    wpAny (model X.prog X.w) X.A (f v) (EP X pins σ Q) X.xe s
def CallR (X : Cx) (f : Value) (r : List V → Hp → VK → Prop) : Prop :=
  ∀ (pins : List (Addr × Obj)) (s : Shared) (σ : St) (H : Hp) (xs : List V) (us : List Value) (Q : VK), Inv X pins σ H s → Vals xs us → r xs H Q →
    wpAny (model X.prog X.w) X.A (call f us) (EP X pins σ Q) X.xe s
def tOp (r : R2) (ta tb : TE) : TE := fun σ H Q => ta σ H fun x H1 => tb σ H1 fun y H2 => r x y H2 Q
def tUn (r : V → Hp → VK → Prop) (ta : TE) : TE := fun σ H Q => ta σ H fun x H1 => r x H1 Q
def rI (C : Int → Int → Prop) (g : Int → Int → V) : R2 := fun x y H Q => ∃ i j, x = .int i ∧ y = .int j ∧ C i j ∧ Q (g i j) H
def rI0 (g : Int → Int → V) : R2 := fun x y H Q => ∃ i j, x = .int i ∧ y = .int j ∧ Q (g i j) H
def rU (g : Int → V) : V → Hp → VK → Prop := fun x H Q => ∃ i, x = .int i ∧ Q (g i) H
section
variable {X : Cx} {a b c : Expr} {ta tb tc : TE} {pos : Pos}
theorem binT (ha : PE X a ta) (hb : PE X b tb) {pins : List (Addr × Obj)} {s : Shared} {σ : St} {H : Hp} {R : V → V → Hp → Prop} (I : Inv X pins σ H s)
    (h : ta σ H fun x H1 => tb σ H1 fun y H2 => R x y H2) {Q : Value → Shared → Prop} {f : Value → Value → Sem Value}
    (hf : ∀ v u s2 x y H2, Inv X pins σ H2 s2 → RelV x v → RelV y u → R x y H2 → wpAny (model X.prog X.w) X.A (f v u) Q X.xe s2) :
    wpAny (model X.prog X.w) X.A (eval a X.env) (fun v s₁ => wpAny (model X.prog X.w) X.A (eval b X.env) (fun u s₂ => wpAny (model X.prog X.w) X.A (f v u) Q X.xe s₂) X.xe s₁) X.xe s := by
  refine thn (ha pins s σ H _ I h) fun v s1 ⟨x, H1, I1, r1, q1⟩ => ?_
  refine thn (hb pins s1 σ H1 _ I1 q1) fun u s2 ⟨y, H2, I2, r2, q2⟩ => ?_
  exact hf v u s2 x y H2 I2 r1 r2 q2
theorem pe_op {op : Operator} {r : R2} (ho : OpR X (binaryOp op) r) (ha : PE X a ta) (hb : PE X b tb) : PE X (.BinOp a op b pos) (tOp r ta tb) := by
  intro pins s σ H Q I h
  exact wpAny_BinOp (binT ha hb I h fun v u s2 x y H2 I2 rx ry q => ho pins s2 σ H2 x y v u Q I2 rx ry q)
theorem opI {f : Value → Value → Sem Value} {C : Int → Int → Prop} {g : Int → Int → Int}
    (rule : ∀ (i j : Int) (t u : Tok) (s : Shared) (Q : Value → Shared → Prop) (E : Value → Shared → Prop), C i j → Q (.int (g i j) s.toks) { s with toks := s.toks + 1 } → wpAny (model X.prog X.w) X.A (f (.int i t) (.int j u)) Q E s) :
    OpR X f (rI C fun i j => .int (g i j)) := by
  intro pins s σ H x y v u Q I rx ry h
  obtain ⟨i, j, rfl, rfl, hc, q⟩ := h
  obtain ⟨t, rfl⟩ := rx
  obtain ⟨t', rfl⟩ := ry
  exact rule i j t t' s _ _ hc ⟨.int (g i j), H, I.tok _, ⟨_, rfl⟩, q⟩
theorem opI0 {f : Value → Value → Sem Value} {g : Int → Int → Int}
    (rule : ∀ (i j : Int) (t u : Tok) (s : Shared) (Q : Value → Shared → Prop) (E : Value → Shared → Prop), Q (.int (g i j) s.toks) { s with toks := s.toks + 1 } → wpAny (model X.prog X.w) X.A (f (.int i t) (.int j u)) Q E s) :
    OpR X f (rI0 fun i j => .int (g i j)) := by
  intro pins s σ H x y v u Q I rx ry h
  obtain ⟨i, j, rfl, rfl, q⟩ := h
  obtain ⟨t, rfl⟩ := rx
  obtain ⟨t', rfl⟩ := ry
  exact rule i j t t' s _ _ ⟨.int (g i j), H, I.tok _, ⟨_, rfl⟩, q⟩
theorem opB0 {f : Value → Value → Sem Value} {g : Int → Int → Bool}
    (rule : ∀ (i j : Int) (t u : Tok) (s : Shared) (Q : Value → Shared → Prop) (E : Value → Shared → Prop), Q (.bool (g i j)) s → wpAny (model X.prog X.w) X.A (f (.int i t) (.int j u)) Q E s) :
    OpR X f (rI0 fun i j => .bl (g i j)) := by
  intro pins s σ H x y v u Q I rx ry h
  obtain ⟨i, j, rfl, rfl, q⟩ := h
  obtain ⟨t, rfl⟩ := rx
  obtain ⟨t', rfl⟩ := ry
  exact rule i j t t' s _ _ ⟨.bl (g i j), H, I, rfl, q⟩
def CDiv (i j : Int) : Prop := 0 < j ∧ j < 1073741824
def CPow (i j : Int) : Prop := 0 ≤ j ∧ j ≤ 1000000 ∧ i.natAbs < 2 ^ 64
def CMul (i j : Int) : Prop := (-(2 ^ 64) < i ∧ i < 2 ^ 64) ∨ (-(2 ^ 64) < j ∧ j < 2 ^ 64)
theorem CMul.ok {i j : Int} (h : CMul i j) : IntMulOk i j := by
  rcases h with ⟨h1, h2⟩ | ⟨h1, h2⟩
  · exact .of_left (intBits_le_64 h1 h2)
  · exact .of_right (intBits_le_64 h1 h2)
theorem op_add : OpR X (binaryOp .Add) (rI0 fun i j => .int (i + j)) := opI0 fun _ _ _ _ _ _ _ q => add_int q
theorem op_sub : OpR X (binaryOp .Sub) (rI0 fun i j => .int (i - j)) := opI0 fun _ _ _ _ _ _ _ q => sub_int q
theorem op_mod : OpR X (binaryOp .Mod) (rI (fun _ j => 0 < j) fun i j => .int (i % j)) := opI fun i j _ _ _ _ _ hc q => by
  have h1 : (0 : Int) < j := hc
  exact mod_int' (by omega) (by rw [Int.fmod_eq_emod_of_nonneg i (by omega)]; exact q)
theorem unI {f : Value → Sem Value} {g : Int → Int}
    (rule : ∀ (i : Int) (t : Tok) (s : Shared) (Q : Value → Shared → Prop) (E : Value → Shared → Prop), Q (.int (g i) s.toks) { s with toks := s.toks + 1 } → wpAny (model X.prog X.w) X.A (f (.int i t)) Q E s) :
    UnR X f (rU fun i => .int (g i)) := by
  intro pins s σ H x v Q I rx h
  obtain ⟨i, rfl, q⟩ := h
  obtain ⟨t, rfl⟩ := rx
  exact rule i t s _ _ ⟨.int (g i), H, I.tok _, ⟨_, rfl⟩, q⟩
theorem un_neg : UnR X (unaryOp .USub) (rU fun i => .int (-i)) := unI fun _ _ _ _ _ q => neg_int q
end
def scal : V → V → Bool
  | .non, .non => true | .non, .int _ => true | .int _, .non => true | .non, .bl _ => true | .bl _, .non => true | .non, .str _ => true | .str _, .non => true
  | .int _, .int _ => true | .bl _, .bl _ => true | .str _, .str _ => true | .byt _, .byt _ => true
  | .int _, .str _ => true | .str _, .int _ => true | .bl _, .str _ => true | .str _, .bl _ => true
  | _, _ => false
def rEq : R2 := fun x y H Q => scal x y = true ∧ Q (.bl (decide (x = y))) H
def rNe : R2 := fun x y H Q => scal x y = true ∧ Q (.bl (!decide (x = y))) H
theorem dec_int {i j : Int} : decide (V.int i = V.int j) = (i == j) := by
  rw [Bool.eq_iff_iff]
  simp
theorem dec_bl {i j : Bool} : decide (V.bl i = V.bl j) = (i == j) := by
  rw [Bool.eq_iff_iff]
  simp
theorem dec_str {i j : Str} : decide (V.str i = V.str j) = (i == j) := by
  rw [Bool.eq_iff_iff]
  simp
theorem dec_byt {i j : Array UInt8} : decide (V.byt i = V.byt j) = (i.toList == j.toList) := by
  rw [Bool.eq_iff_iff]
  cases i
  cases j
  simp
section
variable {X : Cx} {a b c : Expr} {ta tb tc : TE} {pos : Pos}
theorem fin_bl {pins : List (Addr × Obj)} {σ : St} {H : Hp} {s : Shared} {Q : VK} {k k' : Bool} (I : Inv X pins σ H s) (q : Q (.bl k) H) (e : k = k') : EP X pins σ Q (.bool k') s := by
  subst e
  exact ⟨.bl k, H, I, rfl, q⟩
theorem op_eq : OpR X (compareOp .Eq) rEq := by
  intro pins s σ H x y v u Q I rx ry h
  obtain ⟨hs, q⟩ := h
  cases x with
  | non =>
    cases rx
    cases y with
    | non => cases ry; exact PySem.EqNone.eq_none_none (fin_bl I q (by simp))
    | bl j => cases ry; exact PySem.EqNone.eq_none_bool (fin_bl I q (by simp))
    | int j => obtain ⟨t', rfl⟩ := ry; exact PySem.EqNone.eq_none_int (fin_bl I q (by simp))
    | str j => obtain ⟨t', rfl⟩ := ry; exact PySem.EqNone.eq_none_str (fin_bl I q (by simp))
    | _ => exact absurd (show false = true from hs) Bool.false_ne_true
  | bl i =>
    cases rx
    cases y with
    | non => cases ry; exact PySem.EqNone.eq_bool_none (fin_bl I q (by simp))
    | bl j => cases ry; exact eq_bool (fin_bl I q dec_bl)
    | str j => obtain ⟨t', rfl⟩ := ry; exact PySem.EqMixed.eq_bool_str (fin_bl I q (by simp))
    | _ => exact absurd (show false = true from hs) Bool.false_ne_true
  | int i =>
    obtain ⟨t, rfl⟩ := rx
    cases y with
    | non => cases ry; exact PySem.EqNone.eq_int_none (fin_bl I q (by simp))
    | int j => obtain ⟨t', rfl⟩ := ry; exact eq_int (fin_bl I q dec_int)
    | str j => obtain ⟨t', rfl⟩ := ry; exact PySem.EqMixed.eq_int_str (fin_bl I q (by simp))
    | _ => exact absurd (show false = true from hs) Bool.false_ne_true
  | str i =>
    obtain ⟨t, rfl⟩ := rx
    cases y with
    | non => cases ry; exact PySem.EqNone.eq_str_none (fin_bl I q (by simp))
    | bl j => cases ry; exact PySem.EqMixed.eq_str_bool (fin_bl I q (by simp))
    | int j => obtain ⟨t', rfl⟩ := ry; exact PySem.EqMixed.eq_str_int (fin_bl I q (by simp))
    | str j => obtain ⟨t', rfl⟩ := ry; exact eq_str (fin_bl I q dec_str)
    | _ => exact absurd (show false = true from hs) Bool.false_ne_true
  | byt i =>
    obtain ⟨t, rfl⟩ := rx
    cases y with
    | byt j => obtain ⟨t', rfl⟩ := ry; exact PySem.W.eq_bytes (fin_bl I q dec_byt)
    | _ => exact absurd (show false = true from hs) Bool.false_ne_true
  | _ => cases y <;> exact absurd (show false = true from hs) Bool.false_ne_true
theorem op_ne : OpR X (compareOp .NotEq) rNe := by
  intro pins s σ H x y v u Q I rx ry h
  obtain ⟨hs, q⟩ := h
  cases x with
  | non =>
    cases rx
    cases y with
    | non => cases ry; exact PySem.EqNone.ne_none_none (fin_bl I q (by simp))
    | bl j => cases ry; exact PySem.EqNone.ne_none_bool (fin_bl I q (by simp))
    | int j => obtain ⟨t', rfl⟩ := ry; exact PySem.EqNone.ne_none_int (fin_bl I q (by simp))
    | str j => obtain ⟨t', rfl⟩ := ry; exact PySem.EqNone.ne_none_str (fin_bl I q (by simp))
    | _ => exact absurd (show false = true from hs) Bool.false_ne_true
  | bl i =>
    cases rx
    cases y with
    | non => cases ry; exact PySem.EqNone.ne_bool_none (fin_bl I q (by simp))
    | bl j => cases ry; exact ne_bool (fin_bl I q (congrArg not dec_bl))
    | str j => obtain ⟨t', rfl⟩ := ry; exact PySem.EqMixed.ne_bool_str (fin_bl I q (by simp))
    | _ => exact absurd (show false = true from hs) Bool.false_ne_true
  | int i =>
    obtain ⟨t, rfl⟩ := rx
    cases y with
    | non => cases ry; exact PySem.EqNone.ne_int_none (fin_bl I q (by simp))
    | int j => obtain ⟨t', rfl⟩ := ry; exact ne_int (fin_bl I q (congrArg not dec_int))
    | str j => obtain ⟨t', rfl⟩ := ry; exact PySem.EqMixed.ne_int_str (fin_bl I q (by simp))
    | _ => exact absurd (show false = true from hs) Bool.false_ne_true
  | str i =>
    obtain ⟨t, rfl⟩ := rx
    cases y with
    | non => cases ry; exact PySem.EqNone.ne_str_none (fin_bl I q (by simp))
    | bl j => cases ry; exact PySem.EqMixed.ne_str_bool (fin_bl I q (by simp))
    | int j => obtain ⟨t', rfl⟩ := ry; exact PySem.EqMixed.ne_str_int (fin_bl I q (by simp))
    | str j => obtain ⟨t', rfl⟩ := ry; exact ne_str (fin_bl I q (congrArg not dec_str))
    | _ => exact absurd (show false = true from hs) Bool.false_ne_true
  | byt i =>
    obtain ⟨t, rfl⟩ := rx
    cases y with
    | byt j => obtain ⟨t', rfl⟩ := ry; exact PySem.W.ne_bytes (fin_bl I q (congrArg not dec_byt))
    | _ => exact absurd (show false = true from hs) Bool.false_ne_true
  | _ => cases y <;> exact absurd (show false = true from hs) Bool.false_ne_true
theorem op_lt : OpR X (compareOp .Lt) (rI0 fun i j => .bl (decide (i < j))) := opB0 fun _ _ _ _ _ _ _ q => lt_int q
theorem op_ge : OpR X (compareOp .GtE) (rI0 fun i j => .bl (decide (j ≤ i))) := opB0 fun _ _ _ _ _ _ _ q => ge_int q
theorem op_lt_str : OpR X (compareOp .Lt) (fun x y H Q => ∃ i j, x = .str i ∧ y = .str j ∧ Q (.bl (decide (i.cps.toList < j.cps.toList))) H) := by
  intro pins s σ H x y v u Q I rx ry h
  obtain ⟨i, j, rfl, rfl, q⟩ := h
  obtain ⟨t, rfl⟩ := rx
  obtain ⟨t', rfl⟩ := ry
  exact lt_str (fin_bl I q rfl)
theorem op_in_str : OpR X (compareOp .In) (fun x y H Q => ∃ i j, x = .str i ∧ y = .str j ∧ Q (.bl (!(Builtin.Str.occurrences j i 0 j.length 1).isEmpty)) H) := by
  intro pins s σ H x y v u Q I rx ry h
  obtain ⟨i, j, rfl, rfl, q⟩ := h
  obtain ⟨t, rfl⟩ := rx
  obtain ⟨t', rfl⟩ := ry
  exact in_str (fin_bl I q rfl)
theorem op_isN : OpR X (compareOp .Is) (fun x y H Q => y = .non ∧ Q (.bl (decide (x = .non))) H) := by
  intro pins s σ H x y v u Q I rx ry h
  obtain ⟨rfl, q⟩ := h
  cases ry
  refine is_none_gen (fin_bl I q ?_)
  cases x <;> first
    | (cases rx; rfl)
    | (obtain ⟨t, rfl⟩ := rx; rfl)
theorem op_notin_str : OpR X (compareOp .NotIn) (fun x y H Q => ∃ i j, x = .str i ∧ y = .str j ∧ Q (.bl (!(!(Builtin.Str.occurrences j i 0 j.length 1).isEmpty))) H) := by
  intro pins s σ H x y v u Q I rx ry h
  obtain ⟨i, j, rfl, rfl, q⟩ := h
  obtain ⟨t, rfl⟩ := rx
  obtain ⟨t', rfl⟩ := ry
  exact notIn_str (fin_bl I q rfl)
theorem pe_cmpR {op : CmpOp} {r : R2} (ho : OpR X (compareOp op) r) (ha : PE X a ta) (hb : PE X b tb) (hm : behindInMarks op b = false) : PE X (.Compare a [op] [b] pos) (tOp r ta tb) := by
  intro pins s σ H Q I h
  exact wpAny_Compare1 (binT ha hb I h fun v u s2 x y H2 I2 rx ry q => ho pins s2 σ H2 x y v u Q I2 rx ry q) hm
theorem line63 : (sizeLine : Nat) < 2 ^ 63 := by rw [sizeLine_eq]; decide
theorem op_add_str : OpR X (binaryOp .Add) (fun x y H Q => ∃ i j, x = .str i ∧ y = .str j ∧ i.length + j.length ≤ sizeLine ∧ Q (.str (i ++ j)) H) := by
  intro pins s σ H x y v u Q I rx ry h
  obtain ⟨i, j, rfl, rfl, hz, q⟩ := h
  obtain ⟨t, rfl⟩ := rx
  obtain ⟨t', rfl⟩ := ry
  exact add_str (fun t' tk => ⟨.str (i ++ j), H, I.tok _, ⟨_, rfl⟩, q⟩) hz
theorem vals1 {x : V} {us : List Value} (r : Vals [x] us) : ∃ u, us = [u] ∧ RelV x u := by
  cases r with
  | cons r1 r2 => cases r2; exact ⟨_, rfl, r1⟩
theorem vals2 {x y : V} {us : List Value} (r : Vals [x, y] us) : ∃ u w', us = [u, w'] ∧ RelV x u ∧ RelV y w' := by
  cases r with
  | cons r1 r2 =>
    cases r2 with
    | cons r3 r4 => cases r4; exact ⟨_, _, rfl, r1, r3⟩
end
end L2
namespace L2
open PySem PySem.Spec PyProof.Rows
structure ObjM (h : Heap) (x dx C : Addr) (mA : Str → Option Value) : Prop where
  obj : h.get? x = some (PySem.W.instObj C dx)
  ns : h.Ns1 dx mA
  ne : dx ≠ x
theorem lookIn_ns {h : Heap} {dx : Addr} {mA : Str → Option Value} (n : h.Ns1 dx mA) : ∃ od, h.get? dx = some od ∧ ∀ name, PySem.W.lookIn name od = some (mA name) := by
  obtain ⟨o, es, ep, ho, hd, hk, _, hm⟩ := n
  refine ⟨o, ho, fun name => ?_⟩
  have e := hm name
  unfold nsFind findBy at e
  rw [← Array.find?_toList] at e
  unfold PySem.W.lookIn
  rw [hd]
  dsimp only
  split
  · rename_i y q
    rw [q] at e
    exact congrArg some e
  · rename_i q
    rw [q] at e
    have a : es.toList.any (·.refKey) = false := by
      rw [List.any_eq_false]
      intro y hy
      obtain ⟨z, t, hkey⟩ := hk y (Array.mem_toList_iff.mp hy)
      simp [DictEntry.refKey, hkey]
    have a' : ¬ es.toList.any (·.refKey) = true := by rw [a]; exact Bool.false_ne_true
    rw [if_neg a']
    exact congrArg some e
theorem ObjM.look {h : Heap} {x dx C : Addr} {mA : Str → Option Value} (I : ObjM h x dx C mA) : ∃ od, PySem.W.InstAt h x (PySem.W.instObj C dx) C (some od) ∧ ∀ name, PySem.W.lookIn name od = some (mA name) :=
  let ⟨od, ho, hl⟩ := lookIn_ns I.ns
  ⟨od, ⟨I.obj, rfl, rfl, ho⟩, hl⟩
section
variable {prog : Program} {w : World} {A : Around} {E : Value → Shared → Prop} {s : Shared} {K : PySem.W.Frag} {x dx C f : Addr} {mA : Str → Option Value} {name : Str} {v : Value}
end
theorem RelO.some_of {v : V} {o : Option Value} (r : RelO (some v) o) : ∃ u, o = some u ∧ RelV v u := by
  cases o with
  | none => exact (show False from r).elim
  | some u => exact ⟨u, rfl, r⟩
section
variable {P : Program} {w : World} {H H' : Hp} {h h' : Heap} {a C dx : Addr} {fs fs' : List (Str × V)}
theorem ins_get (hok : HOk P w H h) (e : H a = some (.ins C dx fs)) : ∃ mA, ObjM h a dx C mA ∧ (∀ f, RelO (fs.lookup f) (mA f)) ∧ PySem.Within mA (fs.map (·.1)) ∧ fs.length ≤ 1000 ∧ H dx = some (.own a) := by
  obtain ⟨d, z, ne, ob, mA, n, r, q⟩ := (show ObjOk P w H h a (.ins C dx fs) from hok a _ e)
  exact ⟨mA, ⟨ob, n, ne⟩, r, q, z, d⟩
end
structure Cls (K : PySem.W.Frag) (C : Addr) : Prop where
  pg : PySem.W.plainGet K C Str.empty = true
  hd : PySem.W.hasDictIn K C = true
  po : PySem.W.plainOver K C = true
  sa : PySem.W.findIn K (.ref C) "__setattr__" = some (some (.builtin "object.__setattr__"))
theorem Cls.get {K : PySem.W.Frag} {C : Addr} (c : Cls K C) (f : Str) : PySem.W.plainGet K C f = true := c.pg
section
variable {X : Cx} {pins : List (Addr × Obj)} {σ : St} {H : Hp} {s : Shared} {a C dx : Addr} {fs : List (Str × V)} {f : Str} {v : V} {A : Around} {E : Value → Shared → Prop}
end
section
variable {X : Cx} {o e value : Expr} {f : Str} {pos pos' tpos : Pos} {ta tv : TE}
end
section
variable {X : Cx} {pins : List (Addr × Obj)} {σ : St} {H : Hp} {s : Shared} {A : Around} {E : Value → Shared → Prop} {Q : Value → Shared → Prop} {c : Value} {b : Bool}
inductive TyOf (K : PySem.W.Frag) (H : Hp) : V → Value → Prop where
  | non : TyOf K H .non (.type "NoneType")
  | bl (x : Bool) : TyOf K H (.bl x) (.type "bool")
  | int (i : Int) : TyOf K H (.int i) (.type "int")
  | str (x : Str) : TyOf K H (.str x) (.type "str")
  | flt (x : UInt64) : TyOf K H (.flt x) (.type "float")
  | lst {a : Addr} {xs : List V} (e : H a = some (.lst xs)) : TyOf K H (.ref a) (.type "list")
  | frz {a : Addr} {o : Obj} {xs : List V} (e : H a = some (.frz o (.lst xs))) : TyOf K H (.ref a) (.type "list")
  | tup {a : Addr} {xs : List V} (e : H a = some (.tup xs)) : TyOf K H (.ref a) (.type "tuple")
  | dK {a : Addr} {kvs : List (Key × V)} (e : H a = some (.dK kvs)) : TyOf K H (.ref a) (.type "dict")
  | dT {a : Addr} {kvs : List (List Key × V)} (e : H a = some (.dT kvs)) : TyOf K H (.ref a) (.type "dict")
  | ins {a C dx : Addr} {fs : List (Str × V)} (e : H a = some (.ins C dx fs)) (cl : Cls K C) (ha : PySem.W.findIn K (.ref C) "__class__" = some (some (.builtin "object.__class__")))
      (hn : PySem.W.specialIn K (.builtin "object.__class__") "__get__" = some (some (.builtin "getset_descriptor.__get__"))) (htk : PySem.W.takesIn K (.builtin "object.__class__") = some true)
      (hm : PySem.W.mroIn K C (.type "object") = some true) : TyOf K H (.ref a) (.ref C)
theorem isinst_ok {x : V} {u t : Value} (I : Inv X pins σ H s) (rx : RelV x u) (ty : TyOf X.K H x t) (e : PySem.W.kitOne X.K t c = some b) (h : ∀ tk, Q (.bool b) { s with toks := tk }) :
    wpAny (model X.prog X.w) A (call (.builtin "isinstance") [u, c]) Q E s := by
  cases ty with
  | non => cases (show u = Value.none from rx); exact PySem.W.kia_one PySem.W.kitx_none I.kIn True.intro e (fun z => nomatch z) h
  | bl y => cases (show u = Value.bool y from rx); exact PySem.W.kia_one PySem.W.kitx_bool I.kIn True.intro e (fun z => nomatch z) h
  | int i => obtain ⟨t, q⟩ := (show ∃ t, u = Value.int i t from rx); cases q; exact PySem.W.kia_one PySem.W.kitx_int I.kIn True.intro e (fun z => nomatch z) h
  | str y => obtain ⟨t, q⟩ := (show ∃ t, u = Value.str y t from rx); cases q; exact PySem.W.kia_one PySem.W.kitx_str I.kIn True.intro e (fun z => nomatch z) h
  | flt y => obtain ⟨t, q⟩ := (show ∃ t, u = Value.float y t from rx); cases q; exact PySem.W.kia_one PySem.W.kitx_float I.kIn True.intro e (fun z => nomatch z) h
  | @lst a xs ea =>
    cases (show u = Value.ref a from rx)
    obtain ⟨_, _, n, _, h1⟩ := (show ObjOk X.prog X.w H s.heap a (.lst xs) from I.hok a _ ea)
    exact PySem.W.kia_one PySem.W.kitx_list I.kIn ⟨_, h1, rfl⟩ e (fun z => nomatch z) h
  | @frz a ob xs ea =>
    cases (show u = Value.ref a from rx)
    obtain ⟨_, _, _, n, _, h1⟩ := (show ObjOk X.prog X.w H s.heap a (.frz ob (.lst xs)) from I.hok a _ ea)
    exact PySem.W.kia_one PySem.W.kitx_list I.kIn ⟨_, h1, rfl⟩ e (fun z => nomatch z) h
  | @tup a xs ea =>
    cases (show u = Value.ref a from rx)
    obtain ⟨_, _, _, p⟩ := (show ObjOk X.prog X.w H s.heap a (.tup xs) from I.hok a _ ea)
    obtain ⟨o, h1, h2, _⟩ := p
    exact PySem.W.kia_one PySem.W.kitx_tuple I.kIn ⟨o, h1, h2⟩ e (fun z => nomatch z) h
  | @dK a kvs ea =>
    cases (show u = Value.ref a from rx)
    obtain ⟨_, _, vs, _, p⟩ := (show ObjOk X.prog X.w H s.heap a (.dK kvs) from I.hok a _ ea)
    obtain ⟨o, es, ep, h1, h2, _⟩ := p
    exact PySem.W.kia_one PySem.W.kitx_dict I.kIn ⟨o, h1, h2.1⟩ e (fun z => nomatch z) h
  | @dT a kvs ea =>
    cases (show u = Value.ref a from rx)
    obtain ⟨_, _, xs, _, o, es, ep, h1, h2, _⟩ := (show ObjOk X.prog X.w H s.heap a (.dT kvs) from I.hok a _ ea)
    exact PySem.W.kia_one PySem.W.kitx_dict I.kIn ⟨o, h1, h2.1⟩ e (fun z => nomatch z) h
  | @ins a C dx fs ea cl ha hn htk hm =>
    cases (show u = Value.ref a from rx)
    obtain ⟨mA, O, _⟩ := ins_get I.hok ea
    obtain ⟨od, J, _⟩ := O.look
    exact PySem.W.kia_one (PySem.W.kitx_own (cl.get _) cl.hd ha hn htk hm) I.kIn J e (fun z => nomatch z) h
end
end L2
namespace L2
open PySem PySem.Spec PyProof.Rows
structure Room (k : Nat) (A : Around) : Prop where
  hd : A.handled = none
  dp : A.depth + 3 * k + 5 < recursionLimit
  un : A.units + 16 * k + 200 < cLine
theorem Room.mono {j k : Nat} {A : Around} (r : Room k A) (h : j ≤ k) : Room j A := ⟨r.hd, by have := r.dp; omega, by have := r.un; omega⟩
theorem Room.deeper {k : Nat} {A : Around} (r : Room (k + 1) A) (env : Env) : Room k (A.deeper env) :=
  ⟨r.hd, by have := r.dp; show A.depth + 1 + 3 * k + 5 < _; omega, by have := r.un; show A.units + 3 + 16 * k + 200 < _; omega⟩
theorem Room.in1 {k : Nat} {A : Around} (r : Room (k + 1) A) : Room k A.in1 :=
  ⟨r.hd, by have := r.dp; show A.depth + 3 * k + 5 < _; omega, by have := r.un; show A.units + 1 + 16 * k + 200 < _; omega⟩
theorem Room.depth {k : Nat} {A : Around} (r : Room k A) : A.depth < recursionLimit := by have := r.dp; omega
theorem Room.units {k : Nat} {A : Around} (r : Room k A) : A.units + 64 < cLine := by have := r.un; omega
def tNil : TA := fun _ H Q => Q [] H
def tCons (ta : TE) (tr : TA) : TA := fun σ H Q => ta σ H fun x H1 => tr σ H1 fun xs H2 => Q (x :: xs) H2
section
variable {X : Cx} {e : Expr} {es : List Expr} {te : TE} {t : TA} {pos : Pos}
theorem pa_nil : PA X [] tNil := fun _ _ _ _ H Q I h => Calls.spliced_nil ⟨[], H, I, .nil, h⟩
theorem pa_cons (ha : PE X e te) (hr : PA X es t) (hs : starEach (e :: es) X.env = (false, eval e X.env) :: starEach es X.env := by rfl) : PA X (e :: es) (tCons te t) := by
  intro pos pins s σ H Q I h
  rw [hs]
  show wpAny _ _ (spliced ((false, eval e X.env) :: backTo pos (starEach es X.env))) _ _ s
  refine Calls.spliced_cons (thn (ha pins s σ H _ I h) fun u s1 ⟨x, H1, I1, r1, q1⟩ => ?_)
  exact thn (hr pos pins s1 σ H1 _ I1 q1) fun us s2 ⟨xs, H2, I2, r2, q2⟩ => ⟨x :: xs, H2, I2, .cons r1 r2, q2⟩
def tTup (t : TA) : TE := fun σ H Q => t σ H fun xs H1 => xs.length ≤ sizeLine ∧ ∀ p, H1 p = none → Q (.ref p) (upd H1 p (.tup xs))
def tLst (t : TA) : TE := fun σ H Q => t σ H fun xs H1 => xs.length ≤ sizeLine ∧ ∀ p, H1 p = none → Q (.ref p) (upd H1 p (.lst xs))
theorem pe_tup {x1} (h : PA X es t) : PE X (.Tuple es x1 pos) (tTup t) := by
  intro pins s σ H Q I hq
  refine wpAny_Tuple_spliced (thn (h pos pins s σ H _ I hq) fun us s1 ⟨xs, H1, I1, r, z, q⟩ => ⟨by rw [← r.length]; exact z, ?_⟩)
  have hf : H1 s1.heap.objs.size = none := I1.hok.fresh (Nat.le_refl _)
  refine ⟨.ref s1.heap.objs.size, upd H1 s1.heap.objs.size (.tup xs), I1.laid (t' := s1.toks) (fun b u e => Heap.get?_push_of_some _ e) (Nat.le_refl _) ?_, rfl, q _ hf⟩
  exact ⟨z, us, r, ⟨_, Heap.get?_push_size _ rfl, rfl, _, rfl⟩⟩
theorem pe_lst (h : PA X es t) : PE X (.List es pos) (tLst t) := by
  intro pins s σ H Q I hq
  refine wpAny_List_spliced (thn (h pos pins s σ H _ I hq) fun us s1 ⟨xs, H1, I1, r, z, q⟩ => ⟨by rw [← r.length]; exact z, ?_⟩)
  have hf : H1 s1.heap.objs.size = none := I1.hok.fresh (Nat.le_refl _)
  refine ⟨.ref s1.heap.objs.size, upd H1 s1.heap.objs.size (.lst xs), I1.laid (t' := s1.toks) (fun b u e => Heap.get?_push_of_some _ e) (Nat.le_refl _) ?_, rfl, q _ hf⟩
  exact ⟨z, us, 0, r, Heap.get?_push_size _ rfl⟩
end
abbrev Sp := List V → Hp → VK → XK → Prop
abbrev CXT := List Env → Hp → Shared → XK → Value → Shared → Prop
structure Env0 (P : Program) (w : World) (K : PySem.W.Frag) (mg : Str → Option Value) (base : Heap) (A : Around) (outer : List Env) (s : Shared) (H : Hp) : Prop where
  frames : A.frames = some outer
  mod : Mod K mg base
  bs : ∀ b o, base.get? b = some o → s.heap.get? b = some o ∧ H b = none
  bsz : base.objs.size ≤ s.heap.objs.size
  funs : s.heap.FunFrames base outer
  frf : ∀ b ∈ frs outer, H b = none
  hok : HOk P w H s.heap
  bare : AllBare s.gens
def CE (outer : List Env) (P : Program) (w : World) (H : Hp) (s : Shared) (Q : VK) (u : Value) (s' : Shared) : Prop :=
  ∃ v H', s'.os = s.os ∧ AllBare s'.gens ∧ Un (frs outer) [] H H' s.heap s'.heap ∧ HOk P w H' s'.heap ∧ RelV v u ∧ Q v H'
def CR (CX : CXT) (outer : List Env) (P : Program) (w : World) (H : Hp) (s : Shared) (Q : VK) (E : XK) (r : Result) (s' : Shared) : Prop :=
  match r with
  | .ok (.ret u) => CE outer P w H s Q u s'
  | .ok _ => False
  | .error e => CX outer H s E e s'
structure FnOk (P : Program) (w : World) (K : PySem.W.Frag) (mg : Str → Option Value) (base : Heap) (CX : CXT) (k : Nat) (f : Addr) (fd : FuncData) (ps : List Str) (sp : Sp) : Prop where
  len : ∀ vs H Q E, sp vs H Q E → vs.length = ps.length
  run : ∀ (A : Around) (outer : List Env) (s : Shared) (H : Hp) (args : Args) (us : List Value) (vs : List V) (Q : VK) (E : XK), Room k A → Env0 P w K mg base A outer s H → BindsTo s fd args (ps.zip us) → Vals vs us → sp vs H Q E →
    codeAny (model P w) A (.call (.ref f) args) (CR CX outer P w H s Q E) s
theorem FnOk.mono {P : Program} {w : World} {K : PySem.W.Frag} {mg : Str → Option Value} {base : Heap} {CX : CXT} {j k : Nat} {f : Addr} {fd : FuncData} {ps : List Str} {sp : Sp} (F : FnOk P w K mg base CX j f fd ps sp) (h : j ≤ k) :
    FnOk P w K mg base CX k f fd ps sp := ⟨F.len, fun A outer s H args us vs Q E hr => F.run A outer s H args us vs Q E (hr.mono h)⟩
theorem FnOk.imp {P : Program} {w : World} {K : PySem.W.Frag} {mg : Str → Option Value} {base : Heap} {CX : CXT} {k : Nat} {f : Addr} {fd : FuncData} {ps : List Str} {sp sp' : Sp} (F : FnOk P w K mg base CX k f fd ps sp)
    (h : ∀ vs H Q E, sp' vs H Q E → sp vs H Q E) : FnOk P w K mg base CX k f fd ps sp' :=
  ⟨fun vs H Q E q => F.len vs H Q E (h _ _ _ _ q), fun A outer s H args us vs Q E hr he hb hv hs => F.run A outer s H args us vs Q E hr he hb hv (h _ _ _ _ hs)⟩
theorem Env0.in1 {P : Program} {w : World} {K : PySem.W.Frag} {mg : Str → Option Value} {base : Heap} {A : Around} {outer : List Env} {s : Shared} {H : Hp} (e : Env0 P w K mg base A outer s H) :
    Env0 P w K mg base A.in1 outer s H := ⟨e.frames, e.mod, e.bs, e.bsz, e.funs, e.frf, e.hok, e.bare⟩
section
variable {X : Cx} {pins : List (Addr × Obj)} {σ : St} {H : Hp} {s s' : Shared}
theorem Inv.env0 (I : Inv X pins σ H s) : Env0 X.prog X.w X.K X.mg X.base X.A X.stack s H :=
  ⟨I.ok.frames, I.ok.mod, I.bs, Nat.le_trans I.ok.bsz I.sz, I.stack, I.stkFree, I.hok, I.bare⟩
theorem Inv.after {Q : VK} {u : Value} (I : Inv X pins σ H s) (h : CE X.stack X.prog X.w H s Q u s') : EP X pins σ Q u s' := by
  obtain ⟨v, H', os, bare, un, hok, r, q⟩ := h
  obtain ⟨hh, g, d, t, os'⟩ := s'
  obtain rfl : os' = s.os := os
  exact ⟨v, H', I.call (h' := hh) (g' := g) (d' := d) (t' := t) (ch := []) un hok bare (fun b z => absurd z (by simp)), r, q⟩
end
def tCall (sp : Sp) (dvs : List V) (E : XK) (t : TA) : TE := fun σ H Q => t σ H fun vs H1 => sp (vs ++ dvs) H1 Q E
def Binds (K : PySem.W.Frag) (fd : FuncData) (ps : List Str) (ds : List Value) : Prop :=
  ∀ (s : Shared) (us : List Value), K.In s.heap → (us ++ ds).length = ps.length → BindsTo s fd ⟨us, []⟩ (ps.zip (us ++ ds))
theorem Binds.all {K : PySem.W.Frag} {fd : FuncData} {ps : List Str} (h : ∀ us : List Value, us.length = ps.length → bindArgs fd ⟨us, []⟩ = pure (ps.zip us)) : Binds K fd ps [] := fun s us _ hl => by
  rw [List.append_nil] at hl ⊢
  exact .of_eq (h us hl)
def Passes (CX : CXT) (X : Cx) (E : XK) : Prop := ∀ (pins : List (Addr × Obj)) (σ : St) (H : Hp) (s : Shared) (e : Value) (s' : Shared), Inv X pins σ H s → CX X.stack H s E e s' → X.xe e s'
section
variable {X : Cx} {CX : CXT} {k : Nat} {f C : Addr} {fd : FuncData} {ps : List Str} {sp : Sp} {dvs : List V} {ds : List Value} {E : XK} {x m : Str} {p pos apos : Pos} {e o : Expr} {es : List Expr} {ta : TE} {t : TA}
theorem run_fn {pins : List (Addr × Obj)} {σ : St} {H : Hp} {s : Shared} {Q : VK} {us : List Value} {vs : List V} (F : FnOk X.prog X.w X.K X.mg X.base CX k f fd ps sp) (hr : Room k X.A) (hb : Binds X.K fd ps ds) (hd : Vals dvs ds) (hx : Passes CX X E)
    (I : Inv X pins σ H s) (r : Vals vs us) (h : sp (vs ++ dvs) H Q E) : wpAny (model X.prog X.w) X.A (call (.ref f) us) (EP X pins σ Q) X.xe s := by
  have r2 : Vals (vs ++ dvs) (us ++ ds) := r.append hd
  have hl : (us ++ ds).length = ps.length := by rw [← r2.length]; exact F.len _ _ _ _ h
  refine wpAny_call (codeAny_mono (F.run X.A X.stack s H ⟨us, []⟩ (us ++ ds) (vs ++ dvs) Q E hr I.env0 (hb s us I.kIn hl) r2 h) fun r s' hq => ?_)
  cases r with
  | error e => exact hx pins σ H s e s' I hq
  | ok fl =>
    cases fl with
    | ret u => exact I.after hq
    | next => exact False.elim hq
    | brk => exact False.elim hq
    | cont => exact False.elim hq
theorem pe_call (F : FnOk X.prog X.w X.K X.mg X.base CX k f fd ps sp) (hr : Room k X.A) (hg : Gl X x) (hm : X.mg x = some (.ref f)) (hk : PySem.W.keepIn X.K (.ref f) = true) (hb : Binds X.K fd ps ds) (hd : Vals dvs ds) (hx : Passes CX X E)
    (ha : PA X (e :: es) t) (hdb : (x == ("__debug__" : Str)) = false := by decide) (he : starEach (e :: es) X.env = (false, eval e X.env) :: starEach es X.env := by rfl) (hpl : (backTo pos (starEach es X.env)).any (·.1) = false := by rfl) :
    PE X (.Call (.Name x p) (e :: es) [] pos) (tCall sp dvs E t) := by
  intro pins s σ H Q I h
  refine wpAny_Call_Name_kw (ld_glob I hg hm ?_ hdb)
  refine PySem.W.callWith_K (h₀ := X.base) I.ok.mod.kin hk (thn (ha pos pins s σ H _ I h) fun us s1 ⟨vs, H1, I1, r, q⟩ => ⟨I1.kIn, ?_⟩) he hpl
  exact run_fn F hr hb hd hx I1 r q
end
section
variable {X : Cx} {CX : CXT} {k : Nat} {f C : Addr} {fd : FuncData} {ps ks : List Str} {sp : Sp} {E : XK} {x m : Str} {p pos apos kpos : Pos} {e o : Expr} {es : List Expr} {kws : List Keyword} {te ta : TE} {t tk : TA} {nm : Option Str}
variable {g : List Value → List Value → List Value} {gV : List V → List V → List V}
end
structure FnScope (N P : List Str) (sc : Scope) : Prop where
  kind : sc.kind = .function
  co : sc.isCoroutine = false
  gen : sc.isGenerator = false
  nd : N.Nodup
  pre : N.take P.length = P
  par : ∀ x ∈ P, sc.names.lookup x = some .local ∨ sc.names.lookup x = some .cell
  nofree : ∀ y ∈ sc.names, y.2 ≠ .free
theorem bindL_out {kindOf : Str → Option NameKind} {x : Str} : ∀ {binds : List (Str × Value)} {m : Str → Option Value}, (∀ v, (x, v) ∉ binds) → bindL kindOf binds m x = m x
  | [], _, _ => rfl
  | (n, v) :: r, m, h => by
    unfold bindL
    rw [bindL_out fun w hw => h w (List.mem_cons_of_mem _ hw)]
    split
    · have : x ≠ n := by rintro rfl; exact h v List.mem_cons_self
      simp [this]
    · rfl
theorem bindC_out {kindOf : Str → Option NameKind} {x : Str} : ∀ {binds : List (Str × Value)} {m : Str → Option Value}, (∀ v, (x, v) ∉ binds) → bindC kindOf binds m x = m x
  | [], _, _ => rfl
  | (n, v) :: r, m, h => by
    unfold bindC
    rw [bindC_out fun w hw => h w (List.mem_cons_of_mem _ hw)]
    split
    · rfl
    · have : x ≠ n := by rintro rfl; exact h v List.mem_cons_self
      simp [this]
theorem bindL_get {kindOf : Str → Option NameKind} {x : Str} {v : Value} : ∀ {P : List Str} {vs : List Value} {i : Nat} {m : Str → Option Value}, P.Nodup → P[i]? = some x → vs[i]? = some v → kindOf x = some .local →
    bindL kindOf (P.zip vs) m x = some v
  | [], _, _, _, _, h, _, _ => by simp at h
  | _ :: _, [], _, _, _, _, h, _ => by simp at h
  | p :: P, w :: vs, 0, m, nd, h1, h2, hk => by
    simp at h1 h2; subst h1; subst h2
    show bindL kindOf ((p, w) :: P.zip vs) m p = _
    unfold bindL
    rw [bindL_out fun v hv => (List.nodup_cons.mp nd).1 (List.of_mem_zip hv).1, if_pos hk]
    simp
  | p :: P, w :: vs, i + 1, m, nd, h1, h2, hk => by
    show bindL kindOf ((p, w) :: P.zip vs) m x = _
    unfold bindL
    exact bindL_get (i := i) (List.nodup_cons.mp nd).2 (by simpa using h1) (by simpa using h2) hk
theorem bindC_get {kindOf : Str → Option NameKind} {x : Str} {v : Value} : ∀ {P : List Str} {vs : List Value} {i : Nat} {m : Str → Option Value}, P.Nodup → P[i]? = some x → vs[i]? = some v → kindOf x ≠ some .local →
    bindC kindOf (P.zip vs) m x = some v
  | [], _, _, _, _, h, _, _ => by simp at h
  | _ :: _, [], _, _, _, _, h, _ => by simp at h
  | p :: P, w :: vs, 0, m, nd, h1, h2, hk => by
    simp at h1 h2; subst h1; subst h2
    show bindC kindOf ((p, w) :: P.zip vs) m p = _
    unfold bindC
    rw [bindC_out fun v hv => (List.nodup_cons.mp nd).1 (List.of_mem_zip hv).1, if_neg hk]
    simp
  | p :: P, w :: vs, i + 1, m, nd, h1, h2, hk => by
    show bindC kindOf ((p, w) :: P.zip vs) m x = _
    unfold bindC
    exact bindC_get (i := i) (List.nodup_cons.mp nd).2 (by simpa using h1) (by simpa using h2) hk
def start (N : List Str) (vs : List V) : St := vs.map some ++ List.replicate (N.length - vs.length) none
def cxOf (CX : CXT) (P : Program) (w : World) (K : PySem.W.Frag) (mg : Str → Option Value) (base : Heap) (N : List Str) (qual : Str) (scope : Scope) (f : Addr) (cd : Value) (A : Around) (outer : List Env) (s : Shared) (H : Hp) (E : XK) : Cx where
  prog := P
  w := w
  K := K
  mg := mg
  base := base
  A := A.deeper (envOfC qual scope s.heap.objs.size f cd)
  N := N
  s₀ := s
  H₀ := H
  env := envOfC qual scope s.heap.objs.size f cd
  outer := outer
  stack := envOfC qual scope s.heap.objs.size f cd :: outer
  ex := []
  calm := true
  fn := fun _ => true
  pn := []
  xe := fun e s' => wpAny (model P w) (A.deeper (envOfC qual scope s.heap.objs.size f cd)) (leaving (envOfC qual scope s.heap.objs.size f cd) e) (fun _ s'' => CX outer H s E e s'') (fun e' s'' => CX outer H s E e' s'') s'
theorem cell_has {sc : Scope} {n : Nat} {x : Str} (h : sc.names.lookup x = some .cell) : ∃ c, (cellsFrom n sc.names []).lookup x = some c := by
  have q := PySem.W.cellsFrom_some sc.names n [] (.inl h)
  exact Option.isSome_iff_exists.mp q
theorem inv_start {CX : CXT} {P : Program} {w : World} {K : PySem.W.Frag} {mg : Str → Option Value} {base : Heap} {N ps : List Str} {qual : Str} {scope : Scope} {f : Addr} {cd : Value} {A : Around} {outer : List Env} {s s1 : Shared} {H : Hp} {E : XK} {us : List Value} {vs : List V}
    (S : FnScope N ps scope) (hd : A.handled = none) (e0 : Env0 P w K mg base A outer s H) (hl : vs.length = ps.length) (r : Vals vs us)
    (x : InCallC s s.heap.objs.size (bindL (envOfC qual scope s.heap.objs.size f cd).kindOf (ps.zip us) fun _ => none) (cellsFrom (s.heap.objs.size + 1) scope.names []) (bindC (envOfC qual scope s.heap.objs.size f cd).kindOf (ps.zip us) fun _ => none) s1) :
    Inv (cxOf CX P w K mg base N qual scope f cd A outer s H E) [] (start N vs) H s1 := by
  have hpl : ps.length ≤ N.length := by have := congrArg List.length S.pre; rw [List.length_take] at this; omega
  obtain ⟨h1, tk, rfl, hk⟩ := x.done
  have noA : ∀ b : Addr, b ∉ (cxOf CX P w K mg base N qual scope f cd A outer s H E).ex := fun b z => absurd (show b ∈ ([] : List Addr) from z) (by simp)
  refine ⟨⟨e0.mod, S.kind, rfl, rfl, Nat.le_refl _, fun y z c h1 h2 => ?_, fun y hy => ?_, fun y c _ h => ?_, fun _ => hd, Around.frames_deeper e0.frames, .inr ⟨rfl, rfl⟩, fun b z => absurd z (noA b), e0.bs, e0.bsz, fun b _ _ => noA b, fun b z => absurd z (noA b), e0.funs, e0.frf⟩,
    rfl, e0.bare, Un.kept hk, ⟨_, x.toInCall.ns, fun i y v h1 h2 h3 => ?_⟩, fun y c h => ⟨_, x.cell y c h⟩, e0.hok.fresh (Nat.le_refl _), fun y c h => ?_, fun p hp => absurd (show p ∈ ([] : List (Addr × Obj)) from hp) (by simp), e0.hok.kept hk, ?_⟩
  · exact name_of_addr x.apart (PySem.mem_of_lookup h1) (PySem.mem_of_lookup h2)
  · have hy : scope.names.lookup y = some .cell ∨ scope.names.lookup y = some .free := hy
    rcases hy with hy | hy
    · exact cell_has hy
    · exact absurd rfl (S.nofree _ (PySem.mem_of_lookup hy))
  · exact Nat.le_of_lt (x.above y c (PySem.mem_of_lookup h))
  · have hi : i < vs.length := by
      unfold start at h2
      by_cases hi : i < vs.length
      · exact hi
      · rw [List.getElem?_append_right (by simpa using hi)] at h2
        rw [List.getElem?_replicate] at h2
        split at h2 <;> cases h2
    have ha : vs[i]? = some v := by
      unfold start at h2
      rw [List.getElem?_append_left (by simpa using hi), List.getElem?_map] at h2
      cases e : vs[i]? with
      | none => rw [e] at h2; cases h2
      | some a => rw [e] at h2; cases h2; rfl
    obtain ⟨u, hu, rv⟩ := r.get ha
    have hp : ps[i]? = some y := by
      rw [← S.pre, List.getElem?_take_of_lt (by omega)]; exact h1
    have ndP : ps.Nodup := by rw [← S.pre]; exact S.nd.sublist (List.take_sublist _ _)
    refine ⟨u, rv, ?_⟩
    rcases S.par y (List.mem_of_getElem? hp) with k | k
    · exact .inl ⟨k, bindL_get ndP hp hu k⟩
    · obtain ⟨c, e⟩ := cell_has (n := s.heap.objs.size + 1) k
      refine .inr ⟨.inl k, c, e, ?_⟩
      have q := x.cell y c e
      rw [bindC_get ndP hp hu (by show scope.names.lookup y ≠ _; rw [k]; decide)] at q
      exact q
  · exact e0.hok.fresh (Nat.le_of_lt (x.above y c (PySem.mem_of_lookup h)))
  · unfold start
    show _ = N.length
    rw [List.length_append, List.length_map, List.length_replicate]
    omega
theorem fn_of {CX : CXT} {P : Program} {w : World} {K : PySem.W.Frag} {mg : Str → Option Value} {base : Heap} {k : Nat} {f : Addr} {name qual : Str} {params : Arguments} {body : List Stmt} {scope : Scope} {dV kV doc pm cdv ct oc : Value} {an od : Option Addr}
    {osl : Array (Option Value)} {N ps : List Str} {sp : Sp} (lk : K.lookup f = some ⟨oc, od, .func (PySem.W.fnOf name qual params body scope dV kV doc pm an cdv ct), osl⟩) (hcd : PySem.W.codeIn K cdv qual = true) (S : FnScope N ps scope)
    (len : ∀ vs H Q E, sp vs H Q E → vs.length = ps.length)
    (hbody : ∀ (A : Around) (outer : List Env) (s : Shared) (H : Hp) (vs : List V) (Q : VK) (E : XK), Room k (A.deeper (envOfC qual scope s.heap.objs.size f cdv)) → sp vs H Q E →
      ∃ t, PSs (cxOf CX P w K mg base N qual scope f cdv A outer s H E) body t ∧ t { nx := fun _ H' => Q .non H', rt := Q } (start N vs) H) :
    FnOk P w K mg base CX (k + 1) f (PySem.W.fnOf name qual params body scope dV kV doc pm an cdv ct) ps sp := by
  refine ⟨len, fun A outer s H args us vs Q E hr e0 hb r hsp => ?_⟩
  have hl := len _ _ _ _ hsp
  have KX : K.In s.heap := e0.mod.kin.keeps fun b o e => (e0.bs b o e).1
  have lim : s.heap.NoLimit := e0.mod.nolimit.keeps fun b o e => (e0.bs b o e).1
  have hkind : ∀ y ∈ ps.zip us, scope.names.lookup y.1 = some .local ∨ (scope.names.lookup y.1 = some .cell ∧ ((cellsFrom (s.heap.objs.size + 1) scope.names []).lookup y.1).isSome = true) := fun ⟨n, v⟩ hy => by
    rcases S.par n (List.of_mem_zip hy).1 with q | q
    · exact .inl q
    · exact .inr ⟨q, PySem.W.cellsFrom_some _ _ _ (.inl q)⟩
  refine codeAny_call_function hr.depth (KX _ _ lk) rfl S.co S.gen rfl (PySem.W.codeRec_of KX hcd) (hb _ _ _ _ ?_)
  refine wpAny_newFunctionEnv_cells S.kind hkind fun env he s1 x => ?_
  subst he
  refine ⟨lim.keeps x.toInCall.keep, codeAny_func ?_⟩
  obtain ⟨t, ht, hq⟩ := hbody A outer s H vs Q E (hr.deeper _) hsp
  have I : Inv (cxOf CX P w K mg base N qual scope f cdv A outer s H E) [] (start N vs) H s1 := inv_start S hr.hd e0 hl r x
  refine wpAny_mono (ht [] s1 (start N vs) H _ I hq) (fun fl s' hs => ?_) fun e s' hs => hs
  have fin : ∀ {σ' : St} {H' : Hp} {v : V} {u : Value}, Inv (cxOf CX P w K mg base N qual scope f cdv A outer s H E) [] σ' H' s' → RelV v u → Q v H' → CE outer P w H s Q u s' :=
    fun {σ' H' v u} J rv q => ⟨v, H', J.os, J.bare, J.base, J.hok, rv, q⟩
  cases fl with
  | ret u =>
    obtain ⟨v, σ', H', J, rv, q⟩ := hs
    exact fin J rv q
  | next =>
    obtain ⟨σ', H', J, q⟩ := hs
    exact fin (v := V.non) (u := Value.none) J rfl q
  | brk =>
    obtain ⟨_, _, _, q⟩ := hs
    exact False.elim q
  | cont =>
    obtain ⟨_, _, _, q⟩ := hs
    exact False.elim q
end L2
namespace L2
open PySem PySem.Spec PyProof.Rows
section
variable {X : Cx} {x : Str} {p pos : Pos} {e : Expr} {es : List Expr} {t : TA} {id T : String} {r : List V → Hp → VK → Prop}
def tCB (r : List V → Hp → VK → Prop) (t : TA) : TE := fun σ H Q => t σ H fun vs H1 => r vs H1 Q
theorem pe_callB (hc : CallR X (.builtin id) r) (hg : Gl X x) (hm : X.mg x = none) (hv : bootBuiltins x = some (.builtin id)) (ha : PA X (e :: es) t) (hn : x ≠ "__name__" := by decide) (hdb : (x == ("__debug__" : Str)) = false := by decide)
    (he : starEach (e :: es) X.env = (false, eval e X.env) :: starEach es X.env := by rfl) (hpl : (backTo pos (starEach es X.env)).any (·.1) = false := by rfl) : PE X (.Call (.Name x p) (e :: es) [] pos) (tCB r t) := by
  intro pins s σ H Q I h
  refine wpAny_Call_Name_kw (ld_blt I hg hm hv ?_ hn hdb)
  exact PyProof.Rows.callWith_builtin1 (thn (ha pos pins s σ H _ I h) fun us s1 ⟨vs, H1, I1, r1, q1⟩ => hc pins s1 σ H1 vs us Q I1 r1 q1) he hpl
theorem pe_callTy (hc : CallR X (.type T) r) (hg : Gl X x) (hm : X.mg x = none) (hv : bootBuiltins x = some (.type T)) (ha : PA X (e :: es) t) (hn : x ≠ "__name__" := by decide) (hdb : (x == ("__debug__" : Str)) = false := by decide)
    (he : starEach (e :: es) X.env = (false, eval e X.env) :: starEach es X.env := by rfl) (hpl : (backTo pos (starEach es X.env)).any (·.1) = false := by rfl) : PE X (.Call (.Name x p) (e :: es) [] pos) (tCB r t) := by
  intro pins s σ H Q I h
  refine wpAny_Call_Name_kw (ld_blt I hg hm hv ?_ hn hdb)
  exact PyProof.Rows.callWith_type1 (thn (ha pos pins s σ H _ I h) fun us s1 ⟨vs, H1, I1, r1, q1⟩ => hc pins s1 σ H1 vs us Q I1 r1 q1) he hpl
end
end L2
namespace HT
open PySem PyProof.Rows
def lexLt : List Int → List Int → Bool
  | [], [] => false
  | [], _ :: _ => true
  | _ :: _, [] => false
  | x :: xs, y :: ys => if x = y then lexLt xs ys else decide (x < y)
theorem lexLt_cons (x y : Int) (xs ys : List Int) : lexLt (x :: xs) (y :: ys) = if x = y then lexLt xs ys else decide (x < y) := rfl
theorem eqAt_int (A : Around) (s : Shared) (a : Int) (t : Tok) (c : Int) (u : Tok) : ∃ e, SeqAt.EqAt A s (.int a t) (.int c u) e ∧ (e = true ↔ a = c) :=
  ⟨(a == c), SeqAt.EqAt.int_int a t c u, by simp⟩
theorem rcLt_int (A : Around) (s : Shared) (a : Int) (t : Tok) (c : Int) (u : Tok) (prog : Program) (w : World) (E : Value → Shared → Prop) (Q : Value → Shared → Prop) (h : Q (.bool (decide (a < c))) s) :
    wpAny (model prog w) A (richCompare .Lt (.int a t) (.int c u)) Q E s :=
  (PyProof.Rows.lt_int h : wpAny (model prog w) A (compareOp .Lt (.int a t) (.int c u)) Q E s)
section
open PySem.SeqAt
open PySem.AutoSeq1 (wpAny_loadPart')
open PySem.MeetsSeq PySem.MeetsSeq2 PySem.MeetsSeq3
end
section
variable {prog : Program} {w : World} {A : Around} {E : Value → Shared → Prop} {s : Shared}
def sIx (n d : Nat) : Option Int → Nat
  | none => d
  | some v => if v < 0 then (v + (n : Int)).toNat else min v.toNat n
theorem sIx_le (n d : Nat) (hd : d ≤ n) (o : Option Int) : sIx n d o ≤ n := by
  cases o with
  | none => exact hd
  | some v =>
    show (if v < 0 then (v + (n : Int)).toNat else min v.toNat n) ≤ n
    by_cases hv : v < 0
    · rw [if_pos hv]; omega
    · rw [if_neg hv]; exact Nat.min_le_right _ _
end
end HT
namespace L2
open PySem PySem.Spec PyProof.Rows
abbrev TO := St → Hp → (Option Int → Hp → Prop) → Prop
def PO (X : Cx) (e : Option Expr) (t : TO) : Prop :=
  ∀ (pins : List (Addr × Obj)) (s : Shared) (σ : St) (H : Hp) (Q : Option Int → Hp → Prop), Inv X pins σ H s → t σ H Q →
    wpAny (model X.prog X.w) X.A (evalPart e X.env) (fun u s' => ∃ o H', Inv X pins σ H' s' ∧ IsPart u o ∧ Q o H') X.xe s
def tNoPart : TO := fun _ H Q => Q none H
theorem intsAre_of {ns : List Int} : ∀ {us : List Value}, Vals (ns.map V.int) us → IntsAre us ns := by
  induction ns with
  | nil => intro us r; rw [List.map_nil] at r; cases r; exact .nil
  | cons n ns ih =>
    intro us r
    rw [List.map_cons] at r
    cases r with
    | cons r1 r2 =>
      obtain ⟨t, e⟩ := r1
      subst e
      exact .cons n t (ih r2)
section
variable {X : Cx} {e : Expr} {te : TE} {lo hi : Option Expr} {tl th : TO} {pos p2 : Pos}
theorem po_none : PO X none tNoPart := by
  intro pins s σ H Q I h
  rw [evalPart_none]
  exact wpAny_pure ⟨none, H, I, .none, h⟩
def SlR (X : Cx) (r : V → Option Int → Option Int → Hp → VK → Prop) : Prop :=
  ∀ (pins : List (Addr × Obj)) (s : Shared) (σ : St) (H : Hp) (x : V) (v vl vu : Value) (lo hi : Option Int) (sl : Addr) (Q : VK), Inv X pins σ H s → RelV x v → s.heap.IsSliceOf sl vl vu .none → IsPart vl lo → IsPart vu hi → r x lo hi H Q →
    ∃ T id, typeLookup (.type T) "__getitem__" = pure (some (.builtin id)) ∧ s.TypeIs v T ∧ wpAny (model X.prog X.w) X.A (getItem v (.ref sl)) (EP X pins σ Q) X.xe s
def tSl (r : V → Option Int → Option Int → Hp → VK → Prop) (te : TE) (tl th : TO) : TE := fun σ H Q => te σ H fun x H1 => tl σ H1 fun l H2 => th σ H2 fun u H3 => r x l u H3 Q
theorem pe_slice {r : V → Option Int → Option Int → Hp → VK → Prop} (hr : SlR X r) (he : PE X e te) (hl : PO X lo tl) (hu : PO X hi th) : PE X (.Subscript e (.Slice lo hi none p2) pos) (tSl r te tl th) := by
  intro pins s σ H Q I h
  refine Subscript_ (thn (he pins s σ H _ I h) fun v s1 ⟨x, H1, I1, r1, q1⟩ => ?_)
  refine wpAny_Slice (thn (hl pins s1 σ H1 _ I1 q1) fun vl s2 ⟨l, H2, I2, pl, q2⟩ => thn (hu pins s2 σ H2 _ I2 q2) fun vu s3 ⟨u, H3, I3, pu, q3⟩ => ?_)
  rw [evalPart_none]
  refine wpAny_pure ?_
  have I4 : Inv X pins σ H3 { s3 with heap := s3.heap.push { cls := .type "slice", data := .fields #[vl, vu, .none] } } := I3.kept (t' := s3.toks) fun b ob q => Heap.get?_push_of_some _ q
  obtain ⟨T, id, hT, ht, hg⟩ := hr pins { s3 with heap := s3.heap.push { cls := .type "slice", data := .fields #[vl, vu, .none] } } σ H3 x v vl vu l u s3.heap.objs.size Q I4 r1 (Heap.IsSliceOf.new ..) pl pu q3
  show wpAny (model X.prog X.w) X.A (subscriptTail e (.Slice lo hi none p2) v (.ref s3.heap.objs.size)) (EP X pins σ Q) X.xe { s3 with heap := s3.heap.push { cls := .type "slice", data := .fields #[vl, vu, .none] } }
  exact tail_any (ops := [.ref s3.heap.objs.size, v]) ht hT hg (by with_unfolding_all rfl)
def cutV (xs : List V) (lo hi : Option Int) : List V := (xs.drop (HT.sIx xs.length 0 lo)).take (HT.sIx xs.length xs.length hi - HT.sIx xs.length 0 lo)
theorem cutV_length (xs : List V) (lo hi : Option Int) : (cutV xs lo hi).length ≤ xs.length := by
  unfold cutV
  rw [List.length_take, List.length_drop]
  omega
end
end L2
namespace L2
open PySem PySem.Spec PyProof.Rows
def ixN (n : Nat) (i : Int) : Option Nat := if 0 ≤ i then (if i < n then some i.toNat else none) else if -(n : Int) ≤ i then some (i + n).toNat else none
def atI {α : Type} (xs : List α) (i : Int) : Option α := (ixN xs.length i).bind fun j => xs[j]?
theorem ixN_seq {n : Nat} {i : Int} {j : Nat} (h : ixN n i = some j) : seqIndex? i n = some j ∧ j < n ∧ -(n : Int) ≤ i ∧ i < n := by
  unfold ixN at h
  by_cases h0 : 0 ≤ i
  · rw [if_pos h0] at h
    by_cases h1 : i < n
    · rw [if_pos h1] at h
      have e : i.toNat = j := Option.some.inj h
      exact ⟨by rw [seqIndex_of h0 h1, e], by omega, by omega, h1⟩
    · rw [if_neg h1] at h; cases h
  · rw [if_neg h0] at h
    by_cases h1 : -(n : Int) ≤ i
    · rw [if_pos h1] at h
      have e : (i + n).toNat = j := Option.some.inj h
      exact ⟨by rw [seqIndex_neg (by omega) h1, e], by omega, h1, by omega⟩
    · rw [if_neg h1] at h; cases h
theorem atI_get {α : Type} {xs : List α} {i : Int} {v : α} (h : atI xs i = some v) : ∃ j, seqIndex? i xs.length = some j ∧ xs[j]? = some v ∧ j < xs.length ∧ -(xs.length : Int) ≤ i ∧ i < xs.length := by
  unfold atI at h
  cases e : ixN xs.length i with
  | none => rw [e] at h; cases h
  | some j =>
    rw [e] at h
    obtain ⟨h1, h2, h3, h4⟩ := ixN_seq e
    exact ⟨j, h1, h, h2, h3, h4⟩
def PlainIx (b : Expr) : Prop := ∀ o i, subscripted b false o i = operate [o, i] (getItem o i)
def IxR (X : Cx) (r : R2) : Prop :=
  ∀ (value slice : Expr) (pins : List (Addr × Obj)) (s : Shared) (σ : St) (H : Hp) (x y : V) (v u : Value) (Q : VK), Inv X pins σ H s → RelV x v → RelV y u → r x y H Q →
    subscripted slice false v u = operate [v, u] (getItem v u) → wpAny (model X.prog X.w) X.A (subscriptTail value slice v u) (EP X pins σ Q) X.xe s
def MtR (X : Cx) (id : String) (r : V → List V → Hp → VK → Prop) : Prop :=
  ∀ (pins : List (Addr × Obj)) (s : Shared) (σ : St) (H : Hp) (x : V) (xs : List V) (v : Value) (us : List Value) (Q : VK), Inv X pins σ H s → RelV x v → Vals xs us → r x xs H Q →
    wpAny (model X.prog X.w) X.A (call (.builtin id) (v :: us)) (EP X pins σ Q) X.xe s
section
variable {X : Cx} {a b : Expr} {ta tb : TE} {pos : Pos}
theorem pe_ix {r : R2} (hr : IxR X r) (ha : PE X a ta) (hb : PE X b tb) (hs : PlainIx b) : PE X (.Subscript a b pos) (tOp r ta tb) := by
  intro pins s σ H Q I h
  exact Subscript_ (binT ha hb I h fun v u s2 x y H2 I2 rx ry q => hr a b pins s2 σ H2 x y v u Q I2 rx ry q (hs _ _))
def rIxL (K : PySem.W.Frag) : R2 := fun x y H Q => ∃ p xs i v, x = .ref p ∧ y = .int i ∧ SqL K H p xs ∧ atI xs i = some v ∧ Q v H
def rIxT (K : PySem.W.Frag) : R2 := fun x y H Q => ∃ p xs i v, x = .ref p ∧ y = .int i ∧ SqT K H p xs ∧ atI xs i = some v ∧ Q v H
def rIxS : R2 := fun x y H Q => ∃ z i c, x = .str z ∧ y = .int i ∧ z.length ≤ sizeLine ∧ atI z.cps.toList i = some c ∧ Q (.str ⟨#[c]⟩) H
theorem ix_list : IxR X (rIxL X.K) := by
  intro value slice pins s σ H x y v u Q I rx ry h hs
  obtain ⟨p, xs, i, z, rfl, rfl, hq, he, q⟩ := h
  cases rx
  obtain ⟨t, rfl⟩ := ry
  obtain ⟨its, r, pl, hz⟩ := I.list hq
  obtain ⟨j, h1, h2, h3, h4, h5⟩ := atI_get he
  obtain ⟨w, ew, rw'⟩ := r.get h2
  have hl := r.length
  have hn := line63
  have fin : EP X pins σ Q w s := ⟨z, H, I, rw', q⟩
  by_cases h0 : 0 ≤ i
  · have hj : i.toNat = j := by
      rw [seqIndex_of h0 h5] at h1
      exact Option.some.inj h1
    exact item_listR pl.isList h0 (by omega) (by rw [hj]; simpa using ew) fin hs
  · have hj : (i + (its.toArray.size : Int)).toNat = j := by
      rw [seqIndex_neg (by omega) h4] at h1
      rw [List.size_toArray, ← hl]
      exact Option.some.inj h1
    exact subscriptTail_builtinR (x := w) pl.isList.typeIs slot_list_getitem.lookup
      (wpAny_getItem_list_neg (Q := fun r s' => r = w ∧ EP X pins σ Q r s') pl.isList (by omega) (by rw [List.size_toArray] <;> omega) (by omega) (by rw [hj]; simpa using ew) ⟨rfl, fin⟩) hs
theorem ix_tup : IxR X (rIxT X.K) := by
  intro value slice pins s σ H x y v u Q I rx ry h hs
  obtain ⟨p, xs, i, z, rfl, rfl, hq, he, q⟩ := h
  cases rx
  obtain ⟨t, rfl⟩ := ry
  obtain ⟨its, r, pl, hz⟩ := I.tuple hq
  obtain ⟨j, h1, h2, h3, h4, h5⟩ := atI_get he
  obtain ⟨w, ew, rw'⟩ := r.get h2
  have hl := r.length
  have hn := line63
  have fin : EP X pins σ Q w s := ⟨z, H, I, rw', q⟩
  exact subscriptTail_builtinR (x := w) pl.typeIs slot_tuple_getitem.lookup
    (getItem_tuple (j := j) (Q := fun r s' => r = w ∧ EP X pins σ Q r s') pl (by omega) (by omega) (by rw [List.size_toArray, ← hl]; exact h1) (by simpa using ew) ⟨rfl, fin⟩) hs
theorem ix_str : IxR X rIxS := by
  intro value slice pins s σ H x y v u Q I rx ry h hs
  obtain ⟨z, i, c, rfl, rfl, hz, he, q⟩ := h
  obtain ⟨t, rfl⟩ := rx
  obtain ⟨t', rfl⟩ := ry
  obtain ⟨j, h1, h2, h3, h4, h5⟩ := atI_get he
  have hl : z.cps.toList.length = z.length := by simp [Str.length]
  rw [hl] at h1 h4 h5
  have hn := line63
  exact tail_any (typeIs_str s z t) slot_str_getitem.lookup (getItem_str (c := c) (by
    have e1 : decide (i < -(2 ^ 63 : Int)) = false := decide_eq_false (by omega)
    have e2 : decide (i ≥ 2 ^ 63) = false := decide_eq_false (by omega)
    rw [e1, e2, Bool.or_false]) (by rw [h1]; simpa using h2) ⟨.str ⟨#[c]⟩, H, I.tok _, ⟨_, rfl⟩, q⟩) hs
theorem mapSeq_set (its : List Value) (n j : Nat) (u : Value) : Obj.mapSeq (·.setIfInBounds j u) { cls := .type "list", data := .seq its.toArray n } = { cls := .type "list", data := .seq (its.set j u).toArray n } := by
  simp [Obj.mapSeq]
theorem Inv.lst {pins : List (Addr × Obj)} {σ : St} {H : Hp} {s : Shared} {p : Addr} {xs : List V} (I : Inv X pins σ H s) (h : H p = some (.lst xs)) :
    ∃ (its : List Value) (n : Nat), Vals xs its ∧ s.heap.get? p = some { cls := .type "list", data := .seq its.toArray n } ∧ xs.length ≤ sizeLine := by
  obtain ⟨z, its, n, r, e⟩ := I.hok p _ h
  exact ⟨its, n, r, e, z⟩
theorem Inv.lstUpd {pins : List (Addr × Obj)} {σ : St} {H : Hp} {s : Shared} {p : Addr} {xs ys : List V} {its its' : List Value} {n n' : Nat} {f : Obj → Obj} (I : Inv X pins σ H s) (h : H p = some (.lst xs))
    (ho : s.heap.get? p = some { cls := .type "list", data := .seq its.toArray n }) (hf : f { cls := .type "list", data := .seq its.toArray n } = { cls := .type "list", data := .seq its'.toArray n' }) (r : Vals ys its') (hz : ys.length ≤ sizeLine) (t : Nat) :
    Inv X pins σ (upd H p (.lst ys)) { s with heap := s.heap.update p f, toks := t } := by
  have e : (s.heap.update p f).get? p = some { cls := .type "list", data := .seq its'.toArray n' } := by
    rw [Heap.get?_update_self f ho (by rw [hf] <;> rfl), hf]
  refine I.write (x := p) (e := p) (by rw [h]; trivial) (.inl rfl) (fun b u hb q => (Heap.get?_update_other _ _ (Ne.symm hb)).trans q) ⟨_, e⟩ ?_
  exact ⟨hz, its', n', r, e⟩
def rSetL : V → V → V → Hp → (Hp → Prop) → Prop := fun o i v H Q => ∃ p xs k j, o = .ref p ∧ i = .int k ∧ H p = some (.lst xs) ∧ ixN xs.length k = some j ∧ Q (upd H p (.lst (xs.set j v)))
theorem set_list : PSet X rSetL := by
  intro pins s σ H o i v ov iv u Q I ro ri rv h
  obtain ⟨p, xs, k, j, rfl, rfl, hp, hj, q⟩ := h
  cases ro
  obtain ⟨t, rfl⟩ := ri
  obtain ⟨its, n, r, ho, hz⟩ := I.lst hp
  obtain ⟨h1, h2, h3, h4⟩ := ixN_seq hj
  have hl := r.length
  have hn := line63
  have I' : Inv X pins σ (upd H p (.lst (xs.set j v))) { s with heap := s.heap.update p (Obj.mapSeq (·.setIfInBounds j u)) } :=
    I.lstUpd hp ho (mapSeq_set its n j u) (r.set rv j) (by rw [List.length_set]; exact hz) s.toks
  by_cases h0 : 0 ≤ k
  · have hk : k.toNat = j := by
      rw [seqIndex_of h0 h4] at h1
      exact Option.some.inj h1
    exact PySem.W.ki_setAt ho h0 (by omega) (by rw [List.size_toArray, ← hl]; exact h4) (by rw [hk]; exact ⟨_, I', q⟩)
  · have hk : (k + (its.toArray.size : Int)).toNat = j := by
      rw [seqIndex_neg (by omega) h3] at h1
      rw [List.size_toArray, ← hl]
      exact Option.some.inj h1
    exact PySem.W.ki_setBack ho (by omega) (by rw [List.size_toArray, ← hl]; exact h3) (by omega) (by rw [hk]; exact ⟨_, I', q⟩)
theorem slice_bounds (lo hi : Option Int) (n : Nat) : (sliceBounds lo hi none n).1 = ((HT.sIx n 0 lo : Nat) : Int) ∧ (sliceBounds lo hi none n).2.1 = ((HT.sIx n n hi : Nat) : Int) ∧ (sliceBounds lo hi none n).2.2 = 1 := by
  refine ⟨?_, ?_, rfl⟩
  · cases lo with
    | none => simp [sliceBounds, HT.sIx]
    | some i =>
      simp only [sliceBounds, HT.sIx, Option.getD_none, show (1 : Int) > 0 by decide, if_true]
      by_cases h : i < 0
      · simp only [h, if_true] <;> omega
      · simp only [h, if_false] <;> omega
  · cases hi with
    | none => simp [sliceBounds, HT.sIx]
    | some i =>
      simp only [sliceBounds, HT.sIx, Option.getD_none, show (1 : Int) > 0 by decide, if_true]
      by_cases h : i < 0
      · simp only [h, if_true] <;> omega
      · simp only [h, if_false] <;> omega
theorem slicePick_cut (its : List Value) (lo hi : Option Int) : slicePick its.toArray lo hi none = ((its.drop (HT.sIx its.length 0 lo)).take (HT.sIx its.length its.length hi - HT.sIx its.length 0 lo)).toArray := by
  obtain ⟨h1, h2, h3⟩ := slice_bounds lo hi its.toArray.size
  unfold slicePick
  rw [h1, h2, h3]
  simp only [sliceRange_one, pick_run, List.size_toArray] <;> rfl
def rSlL (K : PySem.W.Frag) : V → Option Int → Option Int → Hp → VK → Prop := fun x lo hi H Q => ∃ a xs, x = .ref a ∧ SqL K H a xs ∧ ∀ p, H p = none → Q (.ref p) (upd H p (.lst (cutV xs lo hi)))
theorem sl_list : SlR X (rSlL X.K) := by
  intro pins s σ H x v vl vu lo hi sl Q I rx hs pl pu h
  obtain ⟨a, xs, rfl, hx, q⟩ := h
  cases rx
  obtain ⟨its, r, ht, hz⟩ := I.list hx
  have hlen := r.length
  refine ⟨"list", _, slot_list_getitem.lookup, ht.isList.typeIs, ?_⟩
  refine wpAny_getItem_list_slice ht.isList hs pl pu .none (by simp) ?_ (by rw [List.size_toArray] <;> omega)
  rw [slicePick_cut, ← hlen]
  refine ⟨.ref s.heap.objs.size, _, I.laid (t' := s.toks) (o := .lst (cutV xs lo hi)) (fun b ob q => Heap.get?_push_of_some _ q) (Nat.le_refl _) ?_, rfl, q _ (I.hok.fresh (Nat.le_refl _))⟩
  exact ⟨Nat.le_trans (cutV_length xs lo hi) hz, _, 0, (r.drop (HT.sIx xs.length 0 lo)).take (HT.sIx xs.length xs.length hi - HT.sIx xs.length 0 lo), Heap.get?_push_size _ rfl⟩
def flatV : V → Bool
  | .non => true
  | .bl _ => true
  | .int _ => true
  | .str _ => true
  | _ => false
def eqV : V → V → Bool
  | .non, .non => true
  | .bl a, .bl b => a == b
  | .bl a, .int b => (if a then 1 else 0) == b
  | .int a, .bl b => a == (if b then 1 else 0)
  | .int a, .int b => a == b
  | .str a, .str b => a == b
  | _, _ => false
theorem eqAt_V {A : Around} {s : Shared} {y x : V} {u v : Value} (ry : RelV y u) (rx : RelV x v) (fy : flatV y = true) (fx : flatV x = true) : SeqAt.EqAt A s u v (eqV y x) := by
  cases y with
  | non =>
    cases ry
    cases x with
    | non => cases rx; exact SeqAt.EqAt.same _
    | bl b => cases rx; exact SeqAt.EqAt.none_bool b
    | int b => obtain ⟨t, rfl⟩ := rx; exact SeqAt.EqAt.none_int b t
    | str b => obtain ⟨t, rfl⟩ := rx; exact SeqAt.EqAt.none_str b t
    | _ => exact absurd (show false = true from fx) Bool.false_ne_true
  | bl a =>
    cases ry
    cases x with
    | non => cases rx; exact SeqAt.EqAt.bool_none a
    | bl b => cases rx; exact SeqAt.EqAt.bool_bool a b
    | int b => obtain ⟨t, rfl⟩ := rx; exact SeqAt.EqAt.bool_int a b t
    | str b => obtain ⟨t, rfl⟩ := rx; exact SeqAt.EqAt.bool_str a b t
    | _ => exact absurd (show false = true from fx) Bool.false_ne_true
  | int a =>
    obtain ⟨t', rfl⟩ := ry
    cases x with
    | non => cases rx; exact SeqAt.EqAt.int_none a t'
    | bl b => cases rx; exact SeqAt.EqAt.int_bool a t' b
    | int b => obtain ⟨t, rfl⟩ := rx; exact SeqAt.EqAt.int_int a t' b t
    | str b => obtain ⟨t, rfl⟩ := rx; exact SeqAt.EqAt.int_str a t' b t
    | _ => exact absurd (show false = true from fx) Bool.false_ne_true
  | str a =>
    obtain ⟨t', rfl⟩ := ry
    cases x with
    | non => cases rx; exact SeqAt.EqAt.str_none a t'
    | bl b => cases rx; exact SeqAt.EqAt.str_bool a t' b
    | int b => obtain ⟨t, rfl⟩ := rx; exact SeqAt.EqAt.str_int a t' b t
    | str b => obtain ⟨t, rfl⟩ := rx; exact SeqAt.EqAt.str_str a t' b t
    | _ => exact absurd (show false = true from fx) Bool.false_ne_true
  | _ => exact absurd (show false = true from fy) Bool.false_ne_true
def eqU (x : V) (u : Value) : Bool := match u with
  | .none => eqV .non x
  | .bool b => eqV (.bl b) x
  | .int i _ => eqV (.int i) x
  | .str z _ => eqV (.str z) x
  | _ => false
theorem eqU_of {x y : V} {u : Value} (r : RelV y u) (f : flatV y = true) : eqU x u = eqV y x := by
  cases y with
  | non => cases r; rfl
  | bl b => cases r; rfl
  | int i => obtain ⟨t, rfl⟩ := r; rfl
  | str z => obtain ⟨t, rfl⟩ := r; rfl
  | _ => exact absurd (show false = true from f) Bool.false_ne_true
theorem any_eqU {x : V} : ∀ {xs : List V} {us : List Value}, Vals xs us → xs.all flatV = true → us.any (eqU x) = xs.any fun y => eqV y x
  | _, _, .nil, _ => rfl
  | y :: xs, u :: us, .cons r t, f => by
    rw [List.all_cons, Bool.and_eq_true] at f
    rw [List.any_cons, List.any_cons, eqU_of r f.1, any_eqU t f.2]
theorem mem_eqAt {A : Around} {s : Shared} {x : V} {v : Value} (rx : RelV x v) (fx : flatV x = true) : ∀ {xs : List V} {us : List Value}, Vals xs us → xs.all flatV = true → ∀ u ∈ us, SeqAt.EqAt A s u v (eqU x u)
  | _, _, .nil, _ => fun u hu => by cases hu
  | y :: xs, u :: us, .cons r t, f => fun u' hu => by
    rw [List.all_cons, Bool.and_eq_true] at f
    rcases List.mem_cons.mp hu with rfl | hu
    · rw [eqU_of r f.1]; exact eqAt_V r rx f.1 fx
    · exact mem_eqAt rx fx t f.2 u' hu
def inV (x : V) (xs : List V) : Bool := xs.any fun y => eqV y x
def rIn (K : PySem.W.Frag) (neg : Bool) : R2 := fun x y H Q => ∃ p xs, y = .ref p ∧ (SqL K H p xs ∨ SqT K H p xs) ∧ flatV x = true ∧ xs.all flatV = true ∧ Q (.bl (if neg then !inV x xs else inV x xs)) H
theorem op_in_seq : OpR X (compareOp .In) (rIn X.K false) := by
  intro pins s σ H x y v u Q I rx ry h
  obtain ⟨p, xs, rfl, hq, fx, fs, q⟩ := h
  cases ry
  rcases hq with hq | hq
  · obtain ⟨its, r, pl, hz⟩ := I.list hq
    refine SeqAt.in_listAt (eqU x) pl.isList (fun w hw => mem_eqAt rx fx r fs w (by simpa using hw)) ⟨.bl _, H, I, rfl, ?_⟩
    rw [show its.toArray.any (eqU x) = its.any (eqU x) by simp, any_eqU r fs]
    exact q
  · obtain ⟨its, r, pl, hz⟩ := I.tuple hq
    refine SeqAt.in_tupleAt (eqU x) pl (fun w hw => mem_eqAt rx fx r fs w (by simpa using hw)) ⟨.bl _, H, I, rfl, ?_⟩
    rw [show its.toArray.any (eqU x) = its.any (eqU x) by simp, any_eqU r fs]
    exact q
theorem op_notIn_seq : OpR X (compareOp .NotIn) (rIn X.K true) := by
  intro pins s σ H x y v u Q I rx ry h
  obtain ⟨p, xs, rfl, hq, fx, fs, q⟩ := h
  cases ry
  rcases hq with hq | hq
  · obtain ⟨its, r, pl, hz⟩ := I.list hq
    refine SeqAt.notIn_listAt (eqU x) pl.isList (fun w hw => mem_eqAt rx fx r fs w (by simpa using hw)) ⟨.bl _, H, I, rfl, ?_⟩
    rw [show its.toArray.any (eqU x) = its.any (eqU x) by simp, any_eqU r fs]
    exact q
  · obtain ⟨its, r, pl, hz⟩ := I.tuple hq
    refine SeqAt.notIn_tupleAt (eqU x) pl (fun w hw => mem_eqAt rx fx r fs w (by simpa using hw)) ⟨.bl _, H, I, rfl, ?_⟩
    rw [show its.toArray.any (eqU x) = its.any (eqU x) by simp, any_eqU r fs]
    exact q
theorem call_len_seq : CallR X (.builtin "len") (fun xs H Q => ∃ p ys, xs = [.ref p] ∧ (SqL X.K H p ys ∨ SqT X.K H p ys) ∧ Q (.int ys.length) H) := by
  intro pins s σ H xs us Q I r h
  obtain ⟨p, ys, rfl, hq, q⟩ := h
  obtain ⟨u, rfl, rx⟩ := vals1 r
  cases rx
  have hn := line63
  rcases hq with hq | hq
  · obtain ⟨its, r', pl, hz⟩ := I.list hq
    have hlen := r'.length
    exact Calls.call_len_list pl.isList (by simp only [List.size_toArray] <;> omega) ⟨.int ys.length, H, I.tok _, ⟨s.toks + 1, by rw [List.size_toArray, hlen]⟩, q⟩
  · obtain ⟨its, r', pl, hz⟩ := I.tuple hq
    have hlen := r'.length
    exact len_tuple pl (by simp only [List.size_toArray] <;> omega) ⟨.int ys.length, H, I.tok _, ⟨s.toks + 1, by rw [List.size_toArray, hlen]⟩, q⟩
theorem call_len_str : CallR X (.builtin "len") (fun xs H Q => ∃ z, xs = [.str z] ∧ z.length ≤ sizeLine ∧ Q (.int z.length) H) := by
  intro pins s σ H xs us Q I r h
  obtain ⟨z, rfl, hz, q⟩ := h
  obtain ⟨u, rfl, t, rfl⟩ := vals1 r
  have hn := line63
  exact len_str (by omega) ⟨.int z.length, H, I.tok _, ⟨_, rfl⟩, q⟩
theorem call_list_of : CallR X (.type "list") (fun xs H Q => ∃ p ys, xs = [.ref p] ∧ (SqL X.K H p ys ∨ SqT X.K H p ys) ∧ ∀ l, H l = none → Q (.ref l) (upd H l (.lst ys))) := by
  intro pins s σ H xs us Q I r h
  obtain ⟨p, ys, rfl, hq, q⟩ := h
  obtain ⟨u, rfl, rx⟩ := vals1 r
  cases rx
  have fin : ∀ (its : List Value), Vals ys its → ys.length ≤ sizeLine → ∀ (h' : Heap) (c' : Nat), (∀ b o', s.heap.get? b = some o' → h'.get? b = some o') →
      h'.get? s.heap.objs.size = some { cls := .type "list", dict := none, data := .seq its.toArray c', slots := #[] } → EP X pins σ Q (.ref s.heap.objs.size) { s with heap := h' } := fun its r' hz h' c' kp e =>
    ⟨.ref s.heap.objs.size, _, I.laid (t' := s.toks) kp (Nat.le_refl _) (show ObjOk X.prog X.w _ h' _ (.lst ys) from ⟨hz, its, c', r', e⟩), rfl, q _ (I.hok.fresh (Nat.le_refl _))⟩
  rcases hq with hq | hq
  · obtain ⟨its, r', pl, hz⟩ := I.list hq
    have hlen := r'.length
    obtain ⟨o, ho, hc, n, hd⟩ := pl.isList
    exact call_list_seq p (.inl rfl) ho hc hd (fun h' c' kp e => fin its r' hz h' c' kp e) (by simp only [List.size_toArray] <;> omega)
  · obtain ⟨its, r', pl, hz⟩ := I.tuple hq
    have hlen := r'.length
    obtain ⟨o, ho, hc, n, hd⟩ := pl
    exact call_list_seq p (.inr rfl) ho hc hd (fun h' c' kp e => fin its r' hz h' c' kp e) (by simp only [List.size_toArray] <;> omega)
def tyV (K : PySem.W.Frag) (T : String) (x : V) (H : Hp) : Prop := match x with
  | .str _ => T = "str"
  | .int _ => T = "int"
  | .ref p => (T = "list" ∧ ∃ xs, SqL K H p xs) ∨ (T = "tuple" ∧ ∃ o, K.lookup p = some o ∧ o.cls = .type "tuple" ∧ o.dict = none) ∨
      (T = "dict" ∧ ((∃ kvs, H p = some (.dK kvs)) ∨ ∃ kvs, H p = some (.dT kvs))) ∨ (T = "set" ∧ ∃ S n, H p = some (.set S n))
  | _ => False
theorem tyV_is {pins : List (Addr × Obj)} {σ : St} {H : Hp} {s : Shared} {T : String} {x : V} {v : Value} (I : Inv X pins σ H s) (r : RelV x v) (ty : tyV X.K T x H) :
    s.TypeIs v T ∧ ∀ a, v = .ref a → ∃ ob, s.heap.get? a = some ob ∧ ob.dict = none := by
  cases x with
  | str z =>
    obtain ⟨t, rfl⟩ := r
    cases (show T = "str" from ty)
    exact ⟨typeIs_str s z t, fun _ e => nomatch e⟩
  | int i =>
    obtain ⟨t, rfl⟩ := r
    cases (show T = "int" from ty)
    exact ⟨typeIs_int s i t, fun _ e => nomatch e⟩
  | ref p =>
    cases r
    rcases ty with ⟨rfl, xs, hq⟩ | ⟨rfl, o, hk, hc, hd⟩ | ⟨rfl, hk⟩ | ⟨rfl, S, n, hk⟩
    · obtain ⟨its, _, pl, _⟩ := I.list hq
      refine ⟨pl.isList.typeIs, fun a e => ?_⟩
      cases e
      obtain ⟨o, n, e, c, hd, _⟩ := pl
      exact ⟨o, e, hd⟩
    · refine ⟨⟨o, I.kIn p o hk, hc⟩, fun a e => ?_⟩
      cases e
      exact ⟨o, I.kIn _ o hk, hd⟩
    · have z : ∃ o, s.heap.get? p = some o ∧ o.ExactDict := by
        rcases hk with ⟨kvs, hk⟩ | ⟨kvs, hk⟩
        · obtain ⟨_, _, _, _, o, _, _, e, ex, _⟩ := I.hok p _ hk
          exact ⟨o, e, ex⟩
        · obtain ⟨_, _, _, _, o, _, _, e, ex, _⟩ := I.hok p _ hk
          exact ⟨o, e, ex⟩
      obtain ⟨o, e, ex⟩ := z
      refine ⟨⟨o, e, ex.1⟩, fun a e2 => ?_⟩
      cases e2
      exact ⟨o, e, ex.2.1⟩
    · obtain ⟨o, _, _, _, e, ex, _⟩ := I.hok p _ hk
      refine ⟨⟨o, e, ex.1⟩, fun a e2 => ?_⟩
      cases e2
      exact ⟨o, e, ex.2.1⟩
  | _ => exact False.elim ty
def tBM (K : PySem.W.Frag) (T : String) (r : V → List V → Hp → VK → Prop) (to : TE) (t : TA) : TE := fun σ H Q => to σ H fun x H1 => tyV K T x H1 ∧ t σ H1 fun xs H2 => r x xs H2 Q
variable {o e : Expr} {es : List Expr} {to : TE} {t : TA} {name : Str} {apos cpos : Pos} {T id : String} {r : V → List V → Hp → VK → Prop}
theorem pe_bm (pa : PlainAttrs T) (slot : Slot T name id) (hty : typeOf (.builtin id) = pure (.type "method_descriptor")) (hm : MtR X id r) (ho : PE X o to) (ha : PA X (e :: es) t)
    (hbase : attributeBase o name X.env (eval o X.env) = eval o X.env := by rfl)
    (hfew : ((backTo cpos (starEach (e :: es) X.env)).all (fun x => !x.1) && (backToKw cpos (keywordEach [] X.env)).all (fun x => x.1.isSome)
      && decide ((e :: es).length + ([] : List Keyword).length + (if ([] : List Keyword).isEmpty then 0 else 1) < 30)) = true := by rfl)
    (hline : (apos.endLine == cpos.line) = true := by rfl) (hs : starEach (e :: es) X.env = (false, eval e X.env) :: starEach es X.env := by rfl) (hplain : (backTo cpos (starEach es X.env)).any (·.1) = false := by rfl) :
    PE X (.Call (.Attribute o name apos) (e :: es) [] cpos) (tBM X.K T r to t) := by
  intro pins s σ H Q I h
  refine wpAny_Call_method_late hbase hfew hline rfl (thn (ho pins s σ H _ I h) fun v s1 ⟨x, H1, I1, r1, ty, q1⟩ => ?_)
  obtain ⟨h1, h2⟩ := tyV_is I1 r1 ty
  refine ⟨T, id, pa, slot, hty, h1, h2, ?_⟩
  have hA := ha cpos pins s1 σ H1 _ I1 q1
  rw [hs] at hA ⊢
  refine Calls.callWith_builtin (by show (false || (backTo cpos (starEach es X.env)).any (·.1)) = false; rw [hplain] <;> rfl) (Calls.evalArgs_plain ?_)
  exact thn hA fun us s2 ⟨vs, H2, I2, r2, q2⟩ => hm pins s2 σ H2 x vs v us Q I2 r1 r2 q2
end
end L2
namespace L2
open PySem PySem.Spec PyProof.Rows
def MtM (X : Cx) (id : String) (r : V → List V → Hp → VK → Prop) : Prop :=
  ∀ (pins : List (Addr × Obj)) (s : Shared) (σ : St) (H : Hp) (x : V) (xs : List V) (v : Value) (us : List Value) (Q : VK), Inv X pins σ H s → RelV x v → Vals xs us → r x xs H Q →
    wpAny (model X.prog X.w) X.A (call (.builtin id) (v :: us)) (EP X pins σ Q) X.xe s
theorem Vals.one : ∀ {x : V} {us : List Value}, Vals [x] us → ∃ u, us = [u] ∧ RelV x u
  | _, _, .cons r .nil => ⟨_, rfl, r⟩
theorem Vals.zero : ∀ {us : List Value}, Vals [] us → us = []
  | _, .nil => rfl
theorem Vals.dropLast {xs : List V} {us : List Value} (h : Vals xs us) : Vals xs.dropLast us.dropLast := by
  induction h with
  | nil => exact .nil
  | cons r t ih =>
    cases t with
    | nil => exact .nil
    | cons q t' => exact .cons r ih
theorem Vals.reverse {xs : List V} {us : List Value} (h : Vals xs us) : Vals xs.reverse us.reverse := by
  induction h with
  | nil => exact .nil
  | cons r t ih => rw [List.reverse_cons, List.reverse_cons]; exact Vals.append ih (.cons r .nil)
theorem Vals.rep {xs : List V} {us : List Value} (h : Vals xs us) : ∀ k : Nat, Vals (List.replicate k xs).flatten (List.replicate k us).flatten
  | 0 => .nil
  | k + 1 => by
    rw [List.replicate_succ, List.replicate_succ, List.flatten_cons, List.flatten_cons]
    exact Vals.append h (Vals.rep h k)
theorem foldl_rep (its : List Value) : ∀ (k : Nat) (acc : List Value),
    List.foldl (fun x1 x2 => x1 ++ x2) acc.toArray (List.replicate k its.toArray) = (acc ++ (List.replicate k its).flatten).toArray
  | 0, acc => by simp
  | k + 1, acc => by
    have e : acc.toArray ++ its.toArray = (acc ++ its).toArray := by simp
    have e2 : (acc ++ its) ++ (List.replicate k its).flatten = acc ++ (List.replicate (k + 1) its).flatten := by
      rw [List.replicate_succ, List.flatten_cons, List.append_assoc]
    rw [← e2, ← foldl_rep its k (acc ++ its), ← e, List.replicate_succ, List.foldl_cons]
section
variable {X : Cx} {pins : List (Addr × Obj)} {σ : St} {H : Hp} {s : Shared} {l b : Addr} {xs ys zs : List V}
theorem Inv.lset {its its' : List Value} {n : Nat} {f : Array Value → Array Value} {t' : Nat} (I : Inv X pins σ H s) (hH : H l = some (.lst xs))
    (e : s.heap.get? l = some { cls := .type "list", data := .seq its.toArray n }) (hf : f its.toArray = its'.toArray) (hv : Vals ys its') (hz : ys.length ≤ sizeLine) :
    Inv X pins σ (upd H l (.lst ys)) { s with heap := s.heap.update l (Obj.mapSeq f), toks := t' } := by
  have q := PySem.IsL.update e f
  rw [hf] at q
  refine I.write (x := l) (e := l) (by rw [hH]; exact trivial) (.inl rfl) (fun b' u hb hu => (Heap.get?_update_other s.heap (Obj.mapSeq f) (Ne.symm hb)).trans hu) ⟨_, q⟩ ?_
  exact ⟨hz, its', _, hv, q⟩
theorem Inv.lnew {its : List Value} {t' : Nat} (I : Inv X pins σ H s) (hv : Vals ys its) (hz : ys.length ≤ sizeLine) :
    Inv X pins σ (upd H s.heap.objs.size (.lst ys)) { s with heap := s.heap.push { cls := .type "list", data := .seq its.toArray }, toks := t' } :=
  I.laid (fun _ _ q => Heap.get?_push_of_some _ q) (Nat.le_refl _) ⟨hz, its, 0, hv, Heap.get?_push_size _ rfl⟩
theorem Inv.fresh (I : Inv X pins σ H s) : H s.heap.objs.size = none := I.hok.fresh (Nat.le_refl _)
theorem Inv.lstM (I : Inv X pins σ H s) (hH : H l = some (.lst xs)) : xs.length ≤ sizeLine ∧ ∃ (its : List Value) (n : Nat), Vals xs its ∧ xs.length = its.length ∧ s.heap.get? l = some { cls := .type "list", data := .seq its.toArray n } := by
  obtain ⟨z, its, n, r, e⟩ := I.hok l _ hH
  exact ⟨z, its, n, r, r.length, e⟩
theorem notLongL {n : Nat} (h : n ≤ sizeLine) : Builtin.List.listTooLong n = false := by
  unfold Builtin.List.listTooLong
  exact decide_eq_false (by omega)
end
section
variable {X : Cx}
def rAppend : V → List V → Hp → VK → Prop := fun x vs H Q => ∃ l xs y, x = .ref l ∧ vs = [y] ∧ H l = some (.lst xs) ∧ xs.length < sizeLine ∧ Q .non (upd H l (.lst (xs ++ [y])))
theorem mt_append : MtM X "list.append" rAppend := by
  intro pins s σ H x vs v us Q I rx rv h
  obtain ⟨l, xs, y, rfl, rfl, hH, hz, q⟩ := h
  cases rx
  obtain ⟨u, rfl, ru⟩ := rv.one
  obtain ⟨z, its, n, r, hl, e⟩ := I.lstM hH
  refine call_meets F.slot_list_append ⟨_, e, rfl⟩ F.entry_list_append (F.args_list_append_2 _ _) (PySem.list_append l its.toArray n u (by rw [List.size_toArray]; omega)) ⟨e, ?_⟩
  refine ⟨.non, _, I.lset (its' := its ++ [u]) hH e (by simp) (r.append (.cons ru .nil)) ?_, rfl, q⟩
  rw [List.length_append, List.length_singleton]
  omega
def rExtend : V → List V → Hp → VK → Prop := fun x vs H Q => ∃ l b xs zs, x = .ref l ∧ vs = [.ref b] ∧ H l = some (.lst xs) ∧ H b = some (.lst zs) ∧ xs.length + zs.length ≤ sizeLine ∧ Q .non (upd H l (.lst (xs ++ zs)))
theorem mt_extend : MtM X "list.extend" rExtend := by
  intro pins s σ H x vs v us Q I rx rv h
  obtain ⟨l, b, xs, zs, rfl, rfl, hH, hB, hz, q⟩ := h
  cases rx
  obtain ⟨u, rfl, ru⟩ := rv.one
  cases ru
  obtain ⟨z, its, n, r, hl, e⟩ := I.lstM hH
  obtain ⟨z2, its2, n2, r2, hl2, e2⟩ := I.lstM hB
  have hsz : its.toArray.size + its2.toArray.size ≤ sizeLine := by rw [List.size_toArray, List.size_toArray]; omega
  have hlong : ¬ (!its.toArray.isEmpty && Builtin.List.listTooLong (its.toArray.size + its2.toArray.size)) = true := by
    rw [notLongL hsz, Bool.and_false]
    exact Bool.false_ne_true
  refine call_meets F.slot_list_extend ⟨_, e, rfl⟩ F.entry_list_extend (F.args_list_extend_2 _ _)
    (AutoSeq1.list_extend_list_list_0 l its.toArray n b its2.toArray n2 hlong (by rw [List.size_toArray]; omega) (by omega)) ⟨e, e2, ?_⟩
  refine ⟨.non, _, I.lset (its' := its ++ its2) hH e (by simp) (r.append r2) ?_, rfl, q⟩
  rw [List.length_append]
  omega
def rCat : R2 := fun x y H Q => ∃ l b xs zs, x = .ref l ∧ y = .ref b ∧ H l = some (.lst xs) ∧ H b = some (.lst zs) ∧ xs.length + zs.length ≤ sizeLine ∧ ∀ p, H p = none → Q (.ref p) (upd H p (.lst (xs ++ zs)))
theorem op_cat : OpR X (binaryOp .Add) rCat := by
  intro pins s σ H x y v u Q I rx ry h
  obtain ⟨l, b, xs, zs, rfl, rfl, hH, hB, hz, q⟩ := h
  cases rx
  cases ry
  obtain ⟨z, its, n, r, hl, e⟩ := I.lstM hH
  obtain ⟨z2, its2, n2, r2, hl2, e2⟩ := I.lstM hB
  refine PySem.P.add_list e e2 ?_ (by rw [List.size_toArray, List.size_toArray]; omega)
  have ea : its.toArray ++ its2.toArray = (its ++ its2).toArray := by simp
  rw [ea]
  exact ⟨.ref _, _, I.lnew (t' := s.toks) (r.append r2) (by rw [List.length_append]; omega), rfl, q _ I.fresh⟩
def rRep : R2 := fun x y H Q => ∃ l k xs, x = .ref l ∧ y = .int k ∧ H l = some (.lst xs) ∧ -(2 ^ 63) ≤ k ∧ k < 2 ^ 63 ∧ xs.length * k.toNat ≤ sizeLine ∧
  ∀ p, H p = none → Q (.ref p) (upd H p (.lst (List.replicate k.toNat xs).flatten))
theorem len_rep {α : Type} (xs : List α) (k : Nat) : (List.replicate k xs).flatten.length = k * xs.length := by
  induction k with
  | zero => simp
  | succ k ih => rw [List.replicate_succ, List.flatten_cons, List.length_append, ih, Nat.succ_mul, Nat.add_comm]
theorem op_rep : OpR X (binaryOp .Mult) rRep := by
  intro pins s σ H x y v u Q I rx ry h
  obtain ⟨l, k, xs, rfl, rfl, hH, h1, h2, hz, q⟩ := h
  cases rx
  obtain ⟨t, rfl⟩ := ry
  obtain ⟨z, its, n, r, hl, e⟩ := I.lstM hH
  have hlen : its.toArray.size * k.toNat ≤ sizeLine := by rw [List.size_toArray, ← hl]; exact hz
  have hcap : ¬ its.toArray.size * k.toNat > (2 ^ 63 - 1) / 8 := by
    have : (sizeLine : Nat) ≤ (2 ^ 63 - 1) / 8 := by decide
    omega
  have hfit : ¬ (!Builtin.List.listFitsIndex k) = true := by
    rw [fitsIndex_both h1 h2]
    exact Bool.false_ne_true
  have hlong : ¬ Builtin.List.listTooLong (its.toArray.size * k.toNat) = true := by
    rw [notLongL hlen]
    exact Bool.false_ne_true
  have hnew : List.foldl (fun x1 x2 => x1 ++ x2) #[] (List.replicate (if its.toArray.isEmpty = true then 0 else k.toNat) its.toArray) = (List.replicate k.toNat its).flatten.toArray := by
    have f0 : ∀ m : Nat, List.foldl (fun x1 x2 => x1 ++ x2) #[] (List.replicate m its.toArray) = (List.replicate m its).flatten.toArray := fun m => by
      have := foldl_rep its m []
      rw [List.nil_append] at this
      exact this
    rw [f0]
    cases its with
    | nil => simp
    | cons a r' => rw [if_neg (by simp)]
  refine wpAny_binaryOp_repeat_ref (T := "list") (U := "int") (by decide) ⟨_, e, rfl⟩ (fun s' => typeIs_int s' k t) noFill_list_mul F.fills_int_mul F.slot_int_rmul repeat_list F.slot_int_index.lookup
    (call_meets F.slot_int_rmul (typeIs_int s k t) F.entry_int_rmul (F.args_int_rmul_2 _ _) (int___rmul___int_list k t l its.toArray n)
      ⟨e, rfl, ⟨_, e, rfl⟩, call_meets F.slot_list_mul ⟨_, e, rfl⟩ F.entry_list_mul (F.args_list_mul_2 _ _) (AutoListH.list___mul___list_int_3 l its.toArray n k t hfit hcap hlong) ⟨e, ?_⟩⟩)
  rw [hnew]
  exact ⟨.ref _, _, I.lnew (t' := s.toks) (r.rep k.toNat) (by rw [len_rep, Nat.mul_comm]; exact hz), rfl, q _ I.fresh⟩
end
section
variable {prog : Program} {w : World} {A : Around} {E : Value → Shared → Prop} {s : Shared}
end
section
variable {X : Cx}
end
end L2
namespace Att
open PySem PySem.W PySem.Calls PyProof.Rows
theorem ints_of_wellAll {P : Params} {h : Heap} : ∀ (ns : List Int) (vs : List Value), WellAll P h vs (ns.map WData.int) → IntsAre vs ns := by
  intro ns
  induction ns with
  | nil =>
    intro vs w
    rw [List.map_nil] at w
    cases w
    exact .nil
  | cons n ns ih =>
    intro vs w
    rw [List.map_cons] at w
    cases w with
    | cons a b =>
      cases a
      exact .cons _ _ (ih _ b)
theorem script_of {l : OpenLaw} {n : Nat} (hn : l.most = some n) {P : Params} {h : Heap} {args : List WData} {vals : List Value}
    (hpre : l.row.toRowW.claim.pre args = true) (hwl : WellAll P h vals args) :
    ∃ a vs ns, vals = [Value.ref a] ∧ args = [WData.list (ns.map WData.int)] ∧ h.get? a = some { cls := .type "list", data := .seq vs.toArray } ∧ IntsAre vs ns ∧ ns.length ≤ n := by
  have hsh : WShape.hasAll [] args [.list .int] = true := (pre_splitW hpre).1
  have hc : l.pre.holds [] { args := args } = true := (pre_splitW hpre).2
  obtain ⟨d, r, rfl, h1, h2⟩ := hasAllW_cons hsh
  obtain rfl := hasAllW_nil h2
  obtain ⟨xs, rfl, h3⟩ := hasW_list h1
  obtain ⟨ns, rfl⟩ := items_int h3
  have hlen : ns.length ≤ n := by
    unfold OpenLaw.pre at hc
    have h4 : (WTm.not (.lt (.lit (.int (n : Int))) (.len (.arg 0)))).holds [] { args := [.list (ns.map .int)] } = true := by
      have h4 := (holds_andW hc).1
      rw [hn] at h4
      exact h4
    have h5 := condW_of h4 (w_not (w_lt w_lit (w_len_list (w_arg rfl))))
    rw [List.length_map] at h5
    refine Nat.le_of_not_lt fun q => ?_
    have q' : (n : Int) < ((ns.length : Nat) : Int) := by omega
    first
      | (rw [decide_eq_true q'] at h5; exact absurd h5 (by decide))
      | (simp at h5; omega)
  cases hwl with
  | cons w1 w2 =>
    cases w2
    cases w1 with
    | list ho hall => exact ⟨_, _, ns, rfl, rfl, ho, ints_of_wellAll ns _ hall, hlen⟩
theorem post_true (l : OpenLaw) (args : List WData) : l.row.toRowW.claim.post args (.bool true) args = true :=
  postW_of (r := l.row.toRowW) (X := (true == true))
    (show WShape.has [] (.bool true) .bool = true by first | rfl | decide | simp [WShape.has, WShape.arms, WShape.armsAll])
    (show (WTm.eq .res (.lit (.bool true))).value [] { args := args, res := some (.bool true), after := args } = some (.bool (true == true)) from w_eq_bool (w_res rfl) w_lit) rfl
section
variable {prog : Program} {w : World} {A : Around} {E : Value → Shared → Prop} {s : Shared} {K : Frag}
end
end Att
namespace L2
open PySem PySem.Spec PyProof.Rows
theorem vals_ints : ∀ {vs : List Value} {ns : List Int}, IntsAre vs ns → Vals (ns.map V.int) vs
  | _, _, .nil => .nil
  | _, _, .cons n t h => .cons ⟨t, rfl⟩ (vals_ints h)
def Only (H : Hp) : Prop := ∀ b, H b = none ∨ ∃ o xs, H b = some (.frz o (.lst xs))
theorem law_call {P : Program} {w : World} {K : PySem.W.Frag} {mg mb : Str → Option Value} {CX : CXT} {k : Nat} {fa a : Addr} {fd : FuncData} {x : Str} {sp : Sp} {s₁ : Shared} {vs : List Value} {ns : List Int}
    (KX : K.In s₁.heap) (hns : s₁.heap.Ns mainGlobals mg) (hb : s₁.heap.Ns builtinsNs mb) (hbb : ∀ x : Str, x ≠ "__name__" → mb x = bootBuiltins x) (hlim : s₁.heap.NoLimit) (hg : s₁.gens = #[])
    (ha : s₁.heap.get? a = some { cls := .type "list", data := .seq vs.toArray }) (hi : IntsAre vs ns) (hl : ns.length ≤ sizeLine) (hr : Room k callerA)
    (F : ∀ base : Heap, K.In base → base.Ns mainGlobals mg → FnOk P w K mg base CX k fa fd [x] sp) (hbind : ∀ (s : Shared) (u : Value), BindsTo s fd ⟨[u], []⟩ [(x, u)])
    (hsp : ∀ H : Hp, Only H → SqL K H a (ns.map V.int) → sp [.ref a] H (fun v _ => v = .bl true) fun _ _ _ => False)
    (hCX : ∀ H e s', CX [] H s₁ (fun _ _ _ => False) e s' → False) :
    codeAny (model P w) callerA (.call (.ref fa) ⟨[.ref a], []⟩) (fun r s' => r = .ok (.ret (.bool true)) ∧ OldK s₁.heap s'.heap ∧ s'.os = s₁.os ∧ AllBare s'.gens) s₁ := by
  have rv := vals_ints hi
  have lenV := hi.length
  have core : ∀ H : Hp, Only H → SqL K H a (ns.map V.int) → HOk P w H s₁.heap → (∀ b, H b ≠ none → b = a) → (H a ≠ none → K.lookup a = none) →
      codeAny (model P w) callerA (.call (.ref fa) ⟨[.ref a], []⟩) (fun r s' => r = .ok (.ret (.bool true)) ∧ OldK s₁.heap s'.heap ∧ s'.os = s₁.os ∧ AllBare s'.gens) s₁ := by
    intro H hO hS hok hA hK
    have base_of : ∀ {b : Addr} {o : Obj}, s₁.heap.get? b = some o → H b = none → (hidT s₁.heap H).get? b = some o := fun e n => hidT_get e n
    have noA : ∀ {b : Addr} {o : Obj} {es : Array DictEntry} {ep : Nat}, s₁.heap.get? b = some o → o.data = .dict es ep → H b = none := fun {b o es ep} e d => by
      cases q : H b with
      | none => rfl
      | some u =>
        have e' : b = a := hA b (by rw [q]; simp)
        subst e'
        rw [ha] at e; cases e
        have d' : Data.seq vs.toArray _ = Data.dict es ep := d
        cases d'
    have nsK : ∀ {b : Addr} {m : Str → Option Value}, s₁.heap.Ns b m → (hidT s₁.heap H).Ns b m := fun {b m} ⟨o, es, ep, e, d, r⟩ => ⟨o, es, ep, base_of e (noA e d), d, r⟩
    have hKb : K.In (hidT s₁.heap H) := fun b o e => base_of (KX b o e) (by
      cases q : H b with
      | none => rfl
      | some u =>
        have e' : b = a := hA b (by rw [q]; simp)
        subst e'
        rw [hK (by rw [q]; simp)] at e; cases e)
    have hM : Mod K mg (hidT s₁.heap H) := ⟨hKb, nsK hns, ⟨mb, nsK hb, hbb⟩, let ⟨mc, h1, h2⟩ := hlim; ⟨mc, nsK h1, h2⟩⟩
    have e0 : Env0 P w K mg (hidT s₁.heap H) callerA [] s₁ H := ⟨rfl, hM, fun b o e => of_hidT e, Nat.le_of_eq (hidT_size _ _), trivial, fun b hb => absurd (show b ∈ ([] : List Addr) from hb) (by simp), hok, .of_eq hg⟩
    refine codeAny_mono ((F _ hKb (nsK hns)).run callerA [] s₁ H ⟨[.ref a], []⟩ [.ref a] [.ref a] _ _ hr e0 (hbind s₁ (.ref a)) (.cons rfl .nil) (hsp H hO hS)) fun r s' h => ?_
    cases r with
    | error e => exact (hCX H e s' h).elim
    | ok fl =>
      cases fl with
      | next => exact False.elim h
      | brk => exact False.elim h
      | cont => exact False.elim h
      | ret u =>
        obtain ⟨v, H', os, bare, un, hok', r', q⟩ := h
        have q' : v = .bl true := q
        subst q'
        obtain rfl : u = Value.bool true := r'
        refine ⟨rfl, OldK.of_keep fun b o e => ?_, os, bare⟩
        cases q : H b with
        | none => exact un.keep b o e q (by intro z; exact absurd (show b ∈ ([] : List Addr) from z) (by simp)) (by simp)
        | some u =>
          rcases hO b with z | ⟨ob, xs, z⟩
          · rw [q] at z; cases z
          · have z2 := un.frzs b ob _ z
            obtain ⟨e1, _⟩ := hok b _ z
            obtain ⟨e2, _⟩ := hok' b _ z2
            rw [e] at e1; cases e1
            exact e2
  cases hk : K.lookup a with
  | some o =>
    have e := KX a o hk
    rw [ha] at e
    cases e
    refine core (fun _ => none) (fun _ => .inl rfl) (.inr ⟨_, vs.toArray, _, hk, rfl, rfl, rfl, by rw [List.size_toArray, lenV]; exact hl, by simpa using rv⟩) (fun b u z => by have z' : (none : Option HO) = some u := z; cases z') (fun b z => absurd rfl z) fun z => absurd rfl z
  | none =>
    refine core (fun b => if b = a then some (.frz { cls := .type "list", data := .seq vs.toArray } (.lst (ns.map V.int))) else none) (fun b => ?_) (.inl (.inr ⟨{ cls := .type "list", data := .seq vs.toArray }, if_pos rfl⟩)) (fun b u z => ?_) (fun b z => ?_) fun _ => hk
    · by_cases hb : b = a
      · exact .inr ⟨_, _, if_pos hb⟩
      · exact .inl (if_neg hb)
    · by_cases hb : b = a
      · have z' := (if_pos hb).symm.trans z
        cases z'
        subst hb
        exact ⟨ha, by rw [List.length_map]; exact hl, vs, _, rv, ha⟩
      · have z' := (if_neg hb).symm.trans z
        cases z'
    · by_cases hb : b = a
      · exact hb
      · exact absurd (if_neg hb) z
end L2
namespace L2
open PySem PySem.Spec PyProof.Rows
end L2
namespace L2
open PySem PySem.Spec PyProof.Rows
def defArgs (s : Stmt) : Arguments := match s with
  | .FunctionDef _ a _ _ _ _ _ _ _ _ => a
  | _ => { posonlyargs := [], args := [], vararg := none, kwonlyargs := [], kw_defaults := [], kwarg := none, defaults := [] }
def defBody (s : Stmt) : List Stmt := match s with
  | .FunctionDef _ _ b _ _ _ _ _ _ _ => b
  | _ => []
def defScope (s : Stmt) : Scope := match s with
  | .FunctionDef _ _ _ _ _ _ sc _ _ _ => sc
  | _ => { kind := .function, names := [], isGenerator := false, isCoroutine := false }
abbrev CX0 : CXT := fun _ _ _ _ _ _ => False
abbrev E0 : XK := fun _ _ _ => False
theorem pass0 {X : Cx} : Passes CX0 X E0 := fun _ _ _ _ _ _ _ h => h.elim
structure Fun (K : PySem.W.Frag) (x qual : Str) (st : Stmt) (f : Addr) (fd : FuncData) : Prop where
  ex : ∃ (oc : Value) (od : Option Addr) (kV doc pm : Value) (an : Option Addr) (cdv ct : Value) (osl : Array (Option Value)),
    fd = PySem.W.fnOf x qual (defArgs st) (defBody st) (defScope st) .none kV doc pm an cdv ct ∧ K.lookup f = some ⟨oc, od, .func fd, osl⟩ ∧ PySem.W.codeIn K cdv qual = true
  kp : PySem.W.keepIn K (.ref f) = true
section
variable {P : Program} {w : World} {K : PySem.W.Frag} {mg : Str → Option Value} {base : Heap}
theorem Fun.ok {x qual : Str} {st : Stmt} {f : Addr} {fd : FuncData} {N ps : List Str} {k : Nat} {sp : Sp} (F : Fun K x qual st f fd) (S : FnScope N ps (defScope st)) (len : ∀ vs H Q E, sp vs H Q E → vs.length = ps.length)
    (hbody : ∀ (cdv : Value) (A : Around) (outer : List Env) (s : Shared) (H : Hp) (vs : List V) (Q : VK) (E : XK), Room k (A.deeper (envOfC qual (defScope st) s.heap.objs.size f cdv)) → sp vs H Q E →
      ∃ t, PSs (cxOf CX0 P w K mg base N qual (defScope st) f cdv A outer s H E).nox (defBody st) t ∧ t { nx := fun _ H' => Q .non H', rt := Q } (start N vs) H) : FnOk P w K mg base CX0 (k + 1) f fd ps sp := by
  obtain ⟨oc, od, kV, doc, pm, an, cdv, ct, osl, rfl, lk, hcd⟩ := F.ex
  refine fn_of lk hcd S len fun A outer s H vs Q E hr hsp => ?_
  obtain ⟨t, h, q⟩ := hbody cdv A outer s H vs Q E hr hsp
  exact ⟨t, h.nox, q⟩
theorem Fun.binds {x qual : Str} {st : Stmt} {f : Addr} {fd : FuncData} {ps : List Str} (F : Fun K x qual st f fd)
    (h : ∀ (kV doc pm : Value) (an : Option Addr) (cdv ct : Value) (us : List Value), us.length = ps.length → bindArgs (PySem.W.fnOf x qual (defArgs st) (defBody st) (defScope st) .none kV doc pm an cdv ct) ⟨us, []⟩ = pure (ps.zip us)) : Binds K fd ps [] := by
  obtain ⟨oc, od, kV, doc, pm, an, cdv, ct, osl, rfl, lk, hcd⟩ := F.ex
  exact .all (h kV doc pm an cdv ct)
theorem fun_mk {x qual : Str} {st : Stmt} {f : Addr} {oc : Value} {od an : Option Addr} {osl : Array (Option Value)} {kV doc pm cdv ct : Value} (l : K.lookup f = some ⟨oc, od, .func (PySem.W.fnOf x qual (defArgs st) (defBody st) (defScope st) .none kV doc pm an cdv ct), osl⟩)
    (c : PySem.W.codeIn K cdv qual = true) (k : PySem.W.keepIn K (.ref f) = true) : Fun K x qual st f (PySem.W.fnOf x qual (defArgs st) (defBody st) (defScope st) .none kV doc pm an cdv ct) := ⟨⟨oc, od, kV, doc, pm, an, cdv, ct, osl, rfl, l, c⟩, k⟩
end
section
variable {X : Cx}
theorem pv (i : Nat) {x : Str} {pos : Pos} (hN : X.N[i]? = some x := by rfl) (hv : Vis X.env.scope x := by first | exact Or.inl rfl | exact Or.inr (Or.inl rfl) | exact Or.inr (Or.inr rfl)) (hd : (x == ("__debug__" : Str)) = false := by decide)
    (hcd : (x == ("__classdict__" : Str)) = false := by decide) : PE X (.Name x pos) (tVar i) := pe_var hN hv hd hcd
end
def Same (H H' : Hp) : Prop := ∀ b o, H b = some o → H' b = some o
theorem Same.refl (H : Hp) : Same H H := fun _ _ h => h
theorem Same.trans {H H1 H2 : Hp} (a : Same H H1) (b : Same H1 H2) : Same H H2 := fun c o h => b c o (a c o h)
theorem Same.free {H H' : Hp} (e : Same H H') {l : Addr} (h : H' l = Option.none) : H l = Option.none := by
  cases q : H l with
  | none => rfl
  | some o =>
    rw [e l o q] at h
    cases h
theorem Same.seq {K : PySem.W.Frag} {H H' : Hp} {a : Addr} {xs : List V} (e : Same H H') (h : SqL K H a xs) : SqL K H' a xs := by
  rcases h with (h | ⟨o, h⟩) | h
  · exact .inl (.inl (e _ _ h))
  · exact .inl (.inr ⟨o, e _ _ h⟩)
  · exact .inr h
end L2
namespace L2
open PySem PySem.Spec PyProof.Rows
def Itp (n : Nat) (f : Nat → V) : It := ⟨fun i _ => i < n, fun i H x H' => H' = H ∧ x = f i, fun i _ => n ≤ i⟩
def ownTups : List String := ["enumerate", "zip", "dict_itemiterator", "dict_reverseitemiterator", "odict_iterator", "itertools.zip_longest", "itertools.pairwise"]
theorem turn_pure {P : Program} {w : World} {K : PySem.W.Frag} {tg : Expr} {it : Addr} {n : Nat} {f : Nat → V} {Pw : Nat → Value → Prop} {St : Nat → Heap → Prop}
    (W : ∀ A : Around, A.handled = none → Walks P w A it [it] [it] n Pw St) (hv : ∀ i v, i < n → Pw i v → RelV (f i) v)
    (ho : ∀ i h, St i h → ∃ o nm vs, h.get? it = some o ∧ o.cls = .type nm ∧ o.data = .fields vs ∧ ownTups.contains nm = false)
    (hself : ∀ (A : Around) (i : Nat) (s : Shared) (Q : Value → Shared → Prop) (E : Value → Shared → Prop), St i s.heap → Q (.ref it) s → wpAny (model P w) A (pyIter (.ref it)) Q E s)
    (hkeep : ∀ i h h', St i h → (∀ b ∈ [it], ∀ o, h.get? b = some o → h'.get? b = some o) → St i h') :
    Turn P w K tg (Itp n f) [it] it (fun i h => i ≤ n ∧ St i h) where
  mem := by simp
  obj := fun i h st b hb => by
    have e : b = it := by simpa using hb
    subst e
    obtain ⟨o, nm, vs, e, c, d, _⟩ := ho i h st.2
    exact ⟨o, e, fun v z => by rw [d] at z; cases z⟩
  keep := fun i h h' st k => ⟨st.1, hkeep i h h' st.2 k⟩
  item := by
    intro X hP hw hK hc i pins s σ H E I hf st hg
    subst hP hw hK
    obtain ⟨f0, f1, f2, f3, f4, f5⟩ := hf it (by simp)
    have hi : i < n := hg
    refine (W X.A (I.ok.hd hc)).item i s _ _ hi st.2 fun v h' tk hv' st' kk => ?_
    have I1 : Inv X pins σ H { s with heap := h', toks := tk } := I.turned (fun b o hb e => kk b o (by simpa using hb) e) f0 f1 f3 f4 f5
    obtain ⟨o, nm, vs, e, c, d, hn⟩ := ho _ _ st'
    exact ⟨_, rfl, go_of (s := { s with heap := h', toks := tk }) (n := nm) e c d hn ⟨f i, H, I1, hv i v hi hv', ⟨rfl, rfl⟩, ⟨hi, st'⟩, fun b hb => (hf b hb).1⟩⟩
  done := by
    intro X hP hw hK hc i pins s σ H E I hf st hg
    subst hP hw hK
    obtain ⟨f0, f1, f2, f3, f4, f5⟩ := hf it (by simp)
    have hi : n ≤ i := hg
    have e : i = n := Nat.le_antisymm st.1 hi
    subst e
    exact (W X.A (I.ok.hd hc)).done s _ _ st.2 fun h' tk kk => ⟨rfl, I.turned (fun b o hb e => kk b o (by simpa using hb) e) f0 f1 f3 f4 f5⟩
  self := fun A i s Q E st h => hself A i s Q E st.2 h
def sgn (x : Str) (i : Nat) : V := .str ⟨#[x.cps.getD i 0]⟩
theorem walks_str {P : Program} {w : World} {it : Addr} {x : Str} {t : Tok} (A : Around) (hA : A.handled = none) : Walks P w A it [it] [it] x.cps.size (SignAt x) (fun i h => h.IsStrIter it (strIterType x) x t i) := by
  cases ha : x.cps.all (· < 128)
  · have e : strIterType x = "str_iterator" := by simp [strIterType, ha]
    rw [e]; exact Walks.strWide hA it x t
  · have e : strIterType x = "str_ascii_iterator" := by simp [strIterType, ha]
    rw [e]; exact Walks.strAscii hA it x t
theorem signAt_rel {x : Str} {i : Nat} {v : Value} (h : SignAt x i v) : RelV (sgn x i) v := by
  obtain ⟨c, u, e, rfl⟩ := h
  refine ⟨u, ?_⟩
  have : x.cps.getD i 0 = c := by simp [Array.getD_eq_getD_getElem?, e]
  rw [this]
theorem strIterType_no (x : Str) : ownTups.contains (strIterType x) = false := by
  unfold strIterType; split <;> decide
theorem turn_str {P : Program} {w : World} {K : PySem.W.Frag} {tg : Expr} (it : Addr) (x : Str) (t : Tok) : Turn P w K tg (Itp x.cps.size (sgn x)) [it] it (fun i h => i ≤ x.cps.size ∧ h.IsStrIter it (strIterType x) x t i) := by
  refine turn_pure (Pw := SignAt x) (fun A hA => walks_str A hA) (fun i v _ h => signAt_rel h) (fun i h st => ?_) (fun A i s Q E st h => ?_) (fun i h h' st k => ?_)
  · obtain ⟨o, e, c, d⟩ := st
    exact ⟨o, _, _, e, c, d, strIterType_no x⟩
  · cases ha : x.cps.all (· < 128)
    · have e : strIterType x = "str_iterator" := by simp [strIterType, ha]
      rw [e] at st; exact wpAny_pyIter_striter_wide st h
    · have e : strIterType x = "str_ascii_iterator" := by simp [strIterType, ha]
      rw [e] at st; exact wpAny_pyIter_striter_ascii st h
  · obtain ⟨o, e, r⟩ := st
    exact ⟨o, k it (by simp) o e, r⟩
section
variable {X : Cx} {tg : Expr}
end
end L2
namespace L2
open PySem PySem.Spec PyProof.Rows
theorem Inv.turnedL {X : Cx} {pins : List (Addr × Obj)} {σ : St} {H : Hp} {s : Shared} {h' : Heap} {t' : Nat} {ch : List Addr} (I : Inv X pins σ H s) (k : ∀ b o, b ∉ ch → s.heap.get? b = some o → h'.get? b = some o)
    (hf : ∀ b ∈ ch, FpOk X pins H b) : Inv X pins σ H { s with heap := h', toks := t' } := by
  have nit : ∀ b u, H b = some u → b ∉ ch := fun b u e z => by rw [(hf b z).1] at e; cases e
  refine I.step (g' := s.gens) (d' := s.drawn) (ch := ch) (fun b hb => ?_) (fun b o _ _ hc e _ => k b o hc e) (fun b o _ _ hc e _ => ⟨o.slots, k b o hc e⟩) (fun _ _ _ _ n => n)
    (fun b o hc e => ⟨o, k b o hc e⟩) (fun _ _ e => e) (fun _ _ _ e => e) (fun b ps e => ⟨#[], by rw [e]; simp⟩) (fun m hm => ?_) (fun b u e => ?_) I.bare
  · obtain ⟨f0, f1, f2, f3, f4, f5⟩ := hf b hb
    exact ⟨f3, f1, f4, f5⟩
  · obtain ⟨o, es, ep, ho, r⟩ := hm
    exact ⟨o, es, ep, k _ o (fun z => (hf _ z).2.1 rfl) ho, r⟩
  · refine (I.hok b u e).stay (fun c v hc q => k c v ?_ q) (fun _ q => q) fun _ _ q => q
    rcases hc with z | z
    · rw [z]; exact nit b u e
    · exact nit c _ z
theorem draws_str {P : Program} {w : World} {it : Addr} {x : Str} {t : Tok} (A : Around) (hA : A.handled = none) : Draws P w A it [it] x.cps.size (fun i v => ∃ c u, x.cps[i]? = some c ∧ v = .str ⟨#[c]⟩ u) (fun i h => h.IsStrIter it (strIterType x) x t i) := by
  cases ha : x.cps.all (· < 128)
  · have e : strIterType x = "str_iterator" := by simp [strIterType, ha]
    rw [e]; exact Draws.strWide hA it x t
  · have e : strIterType x = "str_ascii_iterator" := by simp [strIterType, ha]
    rw [e]; exact Draws.strAscii hA it x t
section
variable {X : Cx} {elts : List Expr} {kk : Nat} {tpos : Pos}
end
end L2
namespace L2
open PySem PySem.Spec PyProof.Rows
section
variable {prog : Program} {w : World} {A : Around} {R : Result → Shared → Prop} {s : Shared}
theorem compLoop_go {elt target iter : Expr} {ifs : List Expr} {scope : Scope} {pos : Pos} {it acc : Value} {env : Env} (I : Nat → Shared → Prop)
    (turn : ∀ n s, I n s → wpAny (model prog w) A (pyNext it) (fun r s₁ => match r with
      | none => R (.ok .next) s₁
      | some v => wpAny (model prog w) A (letOwnedTupleGo target it v) (fun _ s₂ => wpAny (model prog w) A (assign target env v) (fun _ s₃ =>
          wpAny (model prog w) A (forIn ifs true fun c r => if r = true then do let ok ← isTrue c env (eval c env); pure (ForInStep.yield ok) else pure (ForInStep.yield r)) (fun ok s₄ =>
            if ok = true then wpAny (model prog w) A (eval elt env) (fun x s₅ =>
              wpAny (model prog w) A (call (.builtin "list.append") [acc, x]) (fun _ s₆ => ∃ m, m < n ∧ I m s₆) (fun _ _ => False) s₅) (fun _ _ => False) s₄
            else ∃ m, m < n ∧ I m s₄) (fun _ _ => False) s₃) (fun _ _ => False) s₂) (fun _ _ => False) s₁) (fun _ _ => False) s)
    (n : Nat) (h : I n s) :
    codeAny (model prog w) A (.compLoop (.ListComp elt [⟨target, iter, ifs, 0⟩] scope pos) 0 it acc env) R s := by
  refine codeAny_loop rfl I (fun n s hI => ?_) n h
  show wpAny _ A ((compTurn (.ListComp elt [⟨target, iter, ifs, 0⟩] scope pos) 0 it acc env).onRaise (fun x => do noteFrame x env; theTreesLotGoes x)) _ _ s
  refine wpAny_noted ?_
  rw [compTurn_list]
  refine wpAny_bind (wpAny_standAt (wpAny_bind (wpAny_mono (turn n s hI) (fun r s₁ h₁ => ?_) fun _ _ h' => h'.elim)))
  cases r with
  | none => exact wpAny_pure h₁
  | some v =>
    refine wpAny_bind (wpAny_mono h₁ (fun _ s₂ h₂ => ?_) fun _ _ h' => h'.elim)
    refine wpAny_bind (wpAny_mono h₂ (fun _ s₃ h₃ => wpAny_bind (wpAny_mono h₃ (fun ok s₄ h₄ => ?_) fun _ _ h' => h'.elim)) fun _ _ h' => h'.elim)
    cases ok with
    | false => exact wpAny_pure ⟨rfl, h₄⟩
    | true =>
      exact wpAny_bind (wpAny_bind (wpAny_mono h₄ (fun x s₅ h₅ => wpAny_bind (wpAny_mono h₅ (fun _ s₆ h₆ => wpAny_pure (wpAny_pure ⟨rfl, h₆⟩)) fun _ _ h' => h'.elim)) fun _ _ h' => h'.elim))
end
def closeL (cells : List (Str × Addr)) : List (Str × NameKind) → List (Str × Addr) → Option (List (Str × Addr))
  | [], acc => some acc
  | (n, k) :: r, acc => if (k == .free) = true then (match cells.lookup n with | some c => closeL cells r ((n, c) :: acc) | none => none) else closeL cells r acc
theorem closeL_run {env : Env} {f : Str × NameKind → List (Str × Addr) → Sem (ForInStep (List (Str × Addr)))}
    (hf : ∀ n k cs, f (n, k) cs = if (k == NameKind.free) = true then (do let c ← cellOf env n; pure (ForInStep.yield ((n, c) :: cs))) else pure (ForInStep.yield cs)) :
    ∀ (names : List (Str × NameKind)) (acc cl : List (Str × Addr)), closeL env.cells names acc = some cl → (forIn names acc f : Sem (List (Str × Addr))) = pure cl
  | [], acc, cl, h => by cases h; rfl
  | (n, k) :: r, acc, cl, h => by
    rw [List.forIn_cons, hf]
    unfold closeL at h
    by_cases hk : (k == NameKind.free) = true
    · rw [if_pos hk] at h
      rw [if_pos hk]
      cases hc : env.cells.lookup n with
      | none => rw [hc] at h; cases h
      | some c =>
        rw [hc] at h
        have e : cellOf env n = pure c := by unfold cellOf; rw [hc]
        rw [e]
        simp only [pure_bind]
        exact closeL_run hf r _ cl h
    · rw [if_neg hk] at h
      rw [if_neg hk]
      simp only [pure_bind]
      exact closeL_run hf r _ cl h
theorem closeL_ok {env : Env} {scope : Scope} {cl : List (Str × Addr)} (h : closeL env.cells scope.names [] = some cl) : closureFor scope env = pure cl := by
  unfold closureFor
  dsimp only
  rw [closeL_run (env := env) (fun n k cs => rfl) scope.names [] cl h]
  rfl
theorem closeL_get {cells : List (Str × Addr)} : ∀ (names : List (Str × NameKind)) (acc cl : List (Str × Addr)), closeL cells names acc = some cl → (∀ x c, acc.lookup x = some c → cells.lookup x = some c) →
    (∀ x c, cl.lookup x = some c → cells.lookup x = some c)
  | [], acc, cl, h, ha => by cases h; exact ha
  | (n, k) :: r, acc, cl, h, ha => by
    unfold closeL at h
    by_cases hk : (k == NameKind.free) = true
    · rw [if_pos hk] at h
      cases hc : cells.lookup n with
      | none => rw [hc] at h; cases h
      | some c =>
        rw [hc] at h
        refine closeL_get r _ cl h fun x c' e => ?_
        rw [List.lookup_cons] at e
        cases hx : x == n with
        | true => rw [hx] at e; cases e; rw [eq_of_beq hx]; exact hc
        | false => rw [hx] at e; exact ha x c' e
    · rw [if_neg hk] at h
      exact closeL_get r _ cl h ha
theorem closeL_has {cells : List (Str × Addr)} : ∀ (names : List (Str × NameKind)) (acc cl : List (Str × Addr)), closeL cells names acc = some cl → ∀ x, ((x, NameKind.free) ∈ names ∨ ∃ c, acc.lookup x = some c) → ∃ c, cl.lookup x = some c
  | [], acc, cl, h, x, hx => by
    cases h
    rcases hx with hx | hx
    · cases hx
    · exact hx
  | (n, k) :: r, acc, cl, h, x, hx => by
    unfold closeL at h
    by_cases hk : (k == NameKind.free) = true
    · rw [if_pos hk] at h
      cases hc : cells.lookup n with
      | none => rw [hc] at h; cases h
      | some c =>
        rw [hc] at h
        refine closeL_has r _ cl h x ?_
        rcases hx with hx | ⟨c', e⟩
        · rcases List.mem_cons.mp hx with e | hx
          · cases e; exact .inr ⟨c, by rw [List.lookup_cons, beq_self_eq_true]⟩
          · exact .inl hx
        · refine .inr ?_
          rw [List.lookup_cons]
          cases hxn : x == n with
          | true => exact ⟨c, rfl⟩
          | false => exact ⟨c', e⟩
    · rw [if_neg hk] at h
      refine closeL_has r _ cl h x ?_
      rcases hx with hx | hx
      · rcases List.mem_cons.mp hx with e | hx
        · cases e; exact absurd rfl hk
        · exact .inl hx
      · exact .inr hx
theorem mem_relabel {scope : Scope} {env : Env} {x : Str} {k : NameKind} (h : (relabel scope env).names.lookup x = some k) (hk : k = .cell ∨ k = .free) (hcell : ∀ y ∈ scope.names, y.2 ≠ .cell) : (x, NameKind.free) ∈ scope.names := by
  have m := PySem.mem_of_lookup h
  obtain ⟨⟨n, k0⟩, hm, e⟩ := List.mem_map.mp m
  dsimp only at e
  split at e
  · rename_i hc
    cases e
    have : k0 = .free := by
      simp only [Bool.and_eq_true, beq_iff_eq] at hc
      exact hc.1.1
    subst this; exact hm
  · cases e
    rcases hk with rfl | rfl
    · exact absurd rfl (hcell _ hm)
    · exact hm
def cxComp (X : Cx) (scope : Scope) (cl : List (Str × Addr)) (C : Addr) (N : List Str) (fp : List Addr) (s2 : Shared) (H2 : Hp) : Cx where
  prog := X.prog
  w := X.w
  K := X.K
  mg := X.mg
  base := X.base
  A := X.A
  N := N
  s₀ := s2
  H₀ := H2
  env := compEnvC scope cl C X.env
  outer := X.stack
  stack := X.stack
  ex := fp
  fn := fun _ => false
  calm := X.calm
  pn := []
  xe := fun _ _ => False
structure CScope (X : Cx) (scope : Scope) (cl : List (Str × Addr)) (lv : List Str) (fr : List (Str × Nat)) : Prop where
  clos : closeL X.env.cells scope.names [] = some cl
  cell : ∀ y ∈ scope.names, y.2 ≠ .cell
  kind : scope.kind = .function
  names : ∀ z ∈ scope.names, z.2 = .local → scope.names.lookup z.1 = some .local
  fr : ∀ q ∈ fr, X.N[q.2]? = some q.1 ∧ (q.1, NameKind.free) ∈ scope.names ∧ (X.env.kindOf q.1 = some .cell ∨ X.env.kindOf q.1 = some .free) ∧
    ((relabel scope X.env).names.lookup q.1 = some .cell ∨ (relabel scope X.env).names.lookup q.1 = some .free)
def cN (lv : List Str) (fr : List (Str × Nat)) : List Str := lv ++ fr.map (·.1)
def cS (lv : List Str) (fr : List (Str × Nat)) (σ : St) : St := lv.map (fun _ => none) ++ fr.map fun q => (σ[q.2]?).join
theorem inv_comp {X : Cx} {pins : List (Addr × Obj)} {σ : St} {H2 : Hp} {s2 : Shared} {scope : Scope} {cl : List (Str × Addr)} {lv : List Str} {fr : List (Str × Nat)} {fp : List Addr} {h4 : Heap} {tk : Nat} {m : Str → Option Value} {n : Nat}
    (I : Inv X pins σ H2 s2) (S : CScope X scope cl lv fr) (hf : ∀ b ∈ fp, FpOk X pins H2 b) (hlt : ∀ b ∈ fp, b < s2.heap.objs.size) (hC : h4.Ns (s2.heap.objs.size + 1) m) (hD : h4.get? s2.heap.objs.size = some { cls := .type "list", data := .seq #[] n })
    (hk : ∀ b o, s2.heap.get? b = some o → h4.get? b = some o) :
    Inv (cxComp X scope cl (s2.heap.objs.size + 1) (cN lv fr) fp s2 H2) [] (cS lv fr σ) (upd H2 s2.heap.objs.size (.lst [])) { s2 with heap := h4, toks := tk } := by
  have hcl := closeL_get scope.names [] cl S.clos (fun x c e => by cases e)
  have hhas := closeL_has scope.names [] cl S.clos
  have hDn : H2 s2.heap.objs.size = none := I.hok.fresh (Nat.le_refl _)
  have hCn : H2 (s2.heap.objs.size + 1) = none := I.hok.fresh (Nat.le_succ _)
  have hCD : s2.heap.objs.size + 1 ≠ s2.heap.objs.size := Nat.ne_of_gt (Nat.lt_succ_self _)
  have fpC : ∀ b ∈ fp, (b ∈ X.ex ∨ X.s₀.heap.objs.size ≤ b) := fun b hb => (hf b hb).2.2.2.1
  have cellLt : ∀ x c, cl.lookup x = some c → c < s2.heap.objs.size := fun x c e => by
    obtain ⟨v, o, ho, _⟩ := I.cell x c (hcl x c e)
    exact Heap.lt_size ho
  refine ⟨⟨I.ok.mod, S.kind, I.ok.glob, I.ok.blt, Nat.le_succ _, fun x y c h1 h2 => I.ok.inj x y c (hcl x c h1) (hcl y c h2), fun x hx => ?_, fun x c hfn => (by cases hfn), I.ok.hd, I.ok.frames, .inl rfl, fun b hb => ?_, I.bs, Nat.le_trans I.ok.bsz I.sz, fun b o e hb => ?_, fun b hb z => ?_, I.stack, I.stkFree⟩,
    rfl, I.bare, ?_, ⟨m, hC, fun i x v h1 h2 h3 => ?_⟩, fun x c e => ?_, ?_, fun x c e => ?_, fun p hp => absurd (show p ∈ ([] : List (Addr × Obj)) from hp) (by simp), ?_, ?_⟩
  · -- has
    have hx' : (relabel scope X.env).names.lookup x = some .cell ∨ (relabel scope X.env).names.lookup x = some .free := hx
    have hm : (x, NameKind.free) ∈ scope.names := hx'.elim (fun z => mem_relabel z (.inl rfl) S.cell) fun z => mem_relabel z (.inr rfl) S.cell
    exact hhas x (.inl hm)
  · -- exf
    obtain ⟨f0, f1, f2, f3, f4, f5⟩ := hf b hb
    refine ⟨fun z => ?_, fun x c e => f4 x c (hcl x c e)⟩
    have z' : b = s2.heap.objs.size + 1 := z
    have := hlt b hb
    rw [z'] at this
    exact absurd this (Nat.not_lt.mpr (Nat.le_succ _))
  · rcases fpC b hb with z | z
    · exact I.ok.noex b o e z
    · exact absurd (Nat.lt_of_lt_of_le (Nat.lt_of_lt_of_le (Heap.lt_size e) I.ok.bsz) z) (Nat.lt_irrefl _)
  · obtain ⟨f0, f1, f2, _⟩ := hf b hb
    rcases List.mem_cons.mp (I.stkSub b z) with q | q
    · exact f1 q
    · exact f2 q
  · exact Un.laid hk (Nat.le_refl _) hDn
  · -- loc
    have h1' : (lv ++ fr.map (·.1))[i]? = some x := h1
    have h2' : (lv.map (fun _ => none) ++ fr.map fun q => (σ[q.2]?).join : St)[i]? = some (some v) := h2
    by_cases hi : i < lv.length
    · rw [List.getElem?_append_left (by simpa using hi), List.getElem?_map] at h2'
      cases hq : lv[i]? with
      | none => rw [hq] at h2'; cases h2'
      | some z => rw [hq] at h2'; cases h2'
    · rw [List.getElem?_append_right (by simpa using hi), List.getElem?_map] at h2'
      rw [List.getElem?_append_right (by omega), List.getElem?_map] at h1'
      simp only [List.length_map] at h2'
      cases hq : fr[i - lv.length]? with
      | none => rw [hq] at h1'; cases h1'
      | some q =>
        rw [hq] at h1' h2'
        have e1 : q.1 = x := Option.some.inj h1'
        have e2 : (σ[q.2]?).join = some v := Option.some.inj h2'
        have e3 : σ[q.2]? = some (some v) := by
          cases hz : σ[q.2]? with
          | none => rw [hz] at e2; cases e2
          | some z => rw [hz] at e2; exact congrArg some e2
        obtain ⟨g1, g2, g3, g4⟩ := S.fr q (List.mem_of_getElem? hq)
        obtain ⟨m0, hn0, hl0⟩ := I.loc
        have vis : Vis X.env.scope q.1 := by
          rcases g3 with g3 | g3
          · exact .inr (.inl g3)
          · exact .inr (.inr g3)
        obtain ⟨u, r, l⟩ := hl0 q.2 q.1 v g1 e3 vis
        refine ⟨u, r, .inr ⟨?_, ?_⟩⟩
        · rw [← e1]; exact g4
        · rcases l with ⟨lk, _⟩ | ⟨_, c, ec, ic⟩
          · rcases g3 with g3 | g3 <;> (rw [lk] at g3; cases g3)
          · obtain ⟨c', ec'⟩ := hhas q.1 (.inl g2)
            have : c' = c := by
              have := hcl q.1 c' ec'
              rw [ec] at this; exact (Option.some.inj this).symm
            subst this
            obtain ⟨o, ho, hd⟩ := ic
            exact ⟨c', by rw [← e1]; exact ec', o, hk _ _ ho, hd⟩
  · obtain ⟨v, o, ho, hd⟩ := I.cell x c (hcl x c e)
    exact ⟨v, o, hk _ _ ho, hd⟩
  · show upd H2 _ _ (s2.heap.objs.size + 1) = none
    rw [upd_ne hCD]; exact hCn
  · have := cellLt x c e
    rw [upd_ne (Nat.ne_of_lt this)]
    exact I.freeC x c (hcl x c e)
  · exact I.hok.laid hk (Nat.le_refl _) ⟨Nat.zero_le _, [], n, .nil, hD⟩
  · show (cS lv fr σ).length = (cN lv fr).length
    simp [cS, cN]
end L2
namespace L2
open PySem PySem.Spec PyProof.Rows
def PIf (X : Cx) (ifs : List Expr) (t : TT) : Prop :=
  ∀ (pins : List (Addr × Obj)) (s : Shared) (σ : St) (H : Hp) (Q : Bool → Hp → Prop), Inv X pins σ H s → t σ H Q →
    wpAny (model X.prog X.w) X.A (forIn ifs true fun c r => if r = true then do let ok ← isTrue c X.env (eval c X.env); pure (ForInStep.yield ok) else pure (ForInStep.yield r)) (TP X pins σ Q) X.xe s
def tTrue : TT := fun _ H Q => Q true H
theorem pif_nil {X : Cx} : PIf X [] tTrue := fun pins s σ H Q I h => wpAny_tests_nil ⟨H, I, h⟩
theorem pif_one {X : Cx} {c : Expr} {t : TT} (h : PT X c t) : PIf X [c] t := fun pins s σ H Q I hw => wpAny_tests_one (h pins s σ H Q I hw)
def tCompR (J : It) (g : TG) (tt : TT) (te : TE) (σ0 : St) (H1 : Hp) (Q : VK) : Prop :=
  ∀ D, H1 D = none → ∃ W : Nat → Nat → List V → St → Hp → Prop, (∃ m, W 0 m [] σ0 (upd H1 D (.lst []))) ∧ ∀ i m ys σ H, W i m ys σ H →
    (J.stop i H ∧ Q (.ref D) H) ∨ (J.go i H ∧ ∃ N : List V → St → Hp → Prop, (∀ ys' σ' H', N ys' σ' H' → ∃ m', m' < m ∧ W (i + 1) m' ys' σ' H') ∧
      ∀ x H', J.yld i H x H' → g x σ H' fun σ2 H2 => tt σ2 H2 fun b H3 => if b = true then te σ2 H3 fun v H4 => H4 D = some (.lst ys) ∧ ys.length < sizeLine ∧ N (ys ++ [v]) σ2 (upd H4 D (.lst (ys ++ [v]))) else N ys σ2 H3)
section
variable {X : Cx} {scope : Scope} {cl : List (Str × Addr)} {lv : List Str} {fr : List (Str × Nat)} {elt tg iter : Expr} {ifs : List Expr} {pos : Pos} {g : TG} {tt : TT} {te : TE}
theorem comp_block {pins : List (Addr × Obj)} {σ : St} {H2 : Hp} {s2 : Shared} {it : Addr} {fp : List Addr} {tn : Nat → Heap → Prop} {J : It} {Q : VK} {E : Value → Shared → Prop} {use : Option (Value → Sem Unit)} {Q' : Value → Shared → Prop}
    (I : Inv X pins σ H2 s2) (S : CScope X scope cl lv fr) (T : Turn X.prog X.w X.K tg J fp it tn) (st : tn 0 s2.heap) (hf : ∀ b ∈ fp, FpOk X pins H2 b) (hc : X.calm = true)
    (hg : ∀ C fp s2 H2, PG (cxComp X scope cl C (cN lv fr) fp s2 H2) tg g) (ht : ∀ C fp s2 H2, PIf (cxComp X scope cl C (cN lv fr) fp s2 H2) ifs tt) (he : ∀ C fp s2 H2, PE (cxComp X scope cl C (cN lv fr) fp s2 H2) elt te)
    (hq : tCompR J g tt te (cS lv fr σ) H2 Q)
    (fin : ∀ D C oC H' s', Inv X (pins ++ [(C, oC)]) σ H' s' → (∀ h : Heap, h.get? C = some oC → ∃ m, h.Ns C m) → FpOk X pins H' C → Q (.ref D) H' → compPost (model X.prog X.w) X.A E use Q' (.ref D) C (.ok .next) s') :
    wpAny (model X.prog X.w) X.A (newList []) (fun acc s₃ => wpAny (model X.prog X.w) X.A (newFunctionEnv scope X.env.globals cl [] X.env.qual none .none (some X.env)) (fun cenv s₄ =>
      codeAny (model X.prog X.w) X.A (.compStart (.ListComp elt [⟨tg, iter, ifs, 0⟩] scope pos) 0 (.ref it) acc { cenv with scope := relabel scope X.env }) (compPost (model X.prog X.w) X.A E use Q' acc cenv.locals) s₄) E s₃) E s2 := by
  have hlt : ∀ b ∈ fp, b < s2.heap.objs.size := fun b hb => by
    obtain ⟨o, ho, _⟩ := T.obj 0 _ st b hb
    exact Heap.lt_size ho
  refine wpAny_newList (wpAny_newFunctionEnv S.cell (by intro y hy; simp at hy) (fun h₁ hns₁ hsb₁ => ?_) S.kind)
  dsimp only at hns₁ hsb₁ ⊢
  have hsz : (s2.heap.push { cls := .type "list", data := .seq ([] : List Value).toArray }).objs.size = s2.heap.objs.size + 1 := Heap.size_push ..
  rw [hsz] at hns₁ hsb₁ ⊢
  have old : ∀ b o, s2.heap.get? b = some o → h₁.get? b = some o := fun b o e => hsb₁.extBut b o (Nat.ne_of_lt (Nat.lt_succ_of_lt (Heap.lt_size e))) (Heap.get?_push_of_some _ (Heap.get?_push_of_some _ e))
  have hacc : h₁.get? s2.heap.objs.size = some { cls := .type "list", data := .seq #[] } := hsb₁.extBut _ _ (Nat.ne_of_lt (Nat.lt_succ_self _)) (Heap.get?_push_of_some _ (Heap.get?_push_size _ rfl))
  have I4 : Inv (cxComp X scope cl (s2.heap.objs.size + 1) (cN lv fr) fp s2 H2) [] (cS lv fr σ) (upd H2 s2.heap.objs.size (.lst [])) { s2 with heap := h₁, toks := s2.toks + ([] : List (Str × Value)).length } :=
    inv_comp I S hf hlt hns₁ hacc old
  generalize hX' : cxComp X scope cl (s2.heap.objs.size + 1) (cN lv fr) fp s2 H2 = X' at I4
  have eP : X'.prog = X.prog := by rw [← hX']; rfl
  have ew : X'.w = X.w := by rw [← hX']; rfl
  have eK : X'.K = X.K := by rw [← hX']; rfl
  have eA : X'.A = X.A := by rw [← hX']; rfl
  have ec : X'.calm = true := by rw [← hX']; exact hc
  have ex : X'.xe = fun _ _ => False := by rw [← hX']; rfl
  have een : X'.env = compEnvC scope cl (s2.heap.objs.size + 1) X.env := by rw [← hX']; rfl
  have hg' : PG X' tg g := hX' ▸ hg _ _ _ _
  have ht' : PIf X' ifs tt := hX' ▸ ht _ _ _ _
  have he' : PE X' elt te := hX' ▸ he _ _ _ _
  obtain ⟨W, ⟨m0, w0⟩, turn⟩ := hq s2.heap.objs.size (I.hok.fresh (Nat.le_refl _))
  have st1 : tn 0 h₁ := T.keep _ _ _ st fun b _ o e => old b o e
  have f4 : ∀ b ∈ fp, FpOk X' [] (upd H2 s2.heap.objs.size (.lst [])) b := fun b hb => by
    obtain ⟨f0, f1, f2, f3, f4, f5⟩ := hf b hb
    have := hlt b hb
    refine ⟨?_, ?_, ?_, .inl ?_, ?_, ?_⟩
    · rw [upd_ne (Nat.ne_of_lt this)]; exact f0
    · rw [een]; exact Nat.ne_of_lt (Nat.lt_succ_of_lt this)
    · intro z
      have z' : b ∈ frs X.stack := by rw [← hX'] at z; exact z
      rcases List.mem_cons.mp (I.stkSub b z') with q | q
      · exact f1 q
      · exact f2 q
    · rw [← hX']; exact hb
    · intro x c e
      rw [een] at e
      exact f4 x c (closeL_get scope.names [] cl S.clos (fun x c e => by cases e) x c e)
    · intro p hp
      rw [← hX'] at hp
      exact absurd (show p ∈ ([] : List (Addr × Obj)) from hp) (by simp)
  have stat : ∀ {H' : Hp}, (∀ b ∈ fp, H' b = none) → ∀ b ∈ fp, FpOk X' [] H' b := fun hn b hb => ⟨hn b hb, (f4 b hb).2⟩
  have loop : ∀ s₃ : Shared, s₃ = { s2 with heap := h₁, toks := s2.toks + ([] : List (Str × Value)).length } →
      codeAny (model X.prog X.w) X.A (.compLoop (.ListComp elt [⟨tg, iter, ifs, 0⟩] scope pos) 0 (.ref it) (.ref s2.heap.objs.size) (compEnvC scope cl (s2.heap.objs.size + 1) X.env))
        (compPost (model X.prog X.w) X.A E use Q' (.ref s2.heap.objs.size) (s2.heap.objs.size + 1)) s₃ := by
    rintro s₃ rfl
    refine compLoop_go (fun n s' => ∃ i ys σ' H', Inv X' [] σ' H' s' ∧ tn i s'.heap ∧ (∀ b ∈ fp, H' b = none) ∧ W i n ys σ' H') ?_ m0 ⟨0, [], _, _, I4, st1, fun b hb => (f4 b hb).1, w0⟩
    rintro n s3 ⟨i, ys, σ3, H3, I3, st3, fr3, w3⟩
    rcases turn i n ys σ3 H3 w3 with ⟨stop, qn⟩ | ⟨go, N, hN, step⟩
    · have a0 := T.done X' eP ew eK ec i [] s3 σ3 H3 (fun _ _ => False) I3 (stat fr3) st3 stop
      rw [eA] at a0
      refine thn a0 fun r s4 ⟨hr, I4'⟩ => ?_
      subst hr
      have un : Un (frs X.stack) fp H2 H3 s2.heap s4.heap := by
        have := I4'.base
        rw [← hX'] at this
        exact this
      have os : s4.os = s2.os := by
        have := I4'.os
        rw [← hX'] at this
        exact this
      have hok : HOk X.prog X.w H3 s4.heap := by
        have := I4'.hok
        rw [← hX'] at this
        exact this
      have J1 : Inv X pins σ H3 s4 := I.call' os un hok I4'.bare fun b hb => by
        obtain ⟨f0, f1, f2, f3, f4, f5⟩ := hf b hb
        exact ⟨f3, f1, f4, f5⟩
      obtain ⟨m, hn, _⟩ := I4'.loc
      have hn' : s4.heap.Ns (s2.heap.objs.size + 1) m := by rw [een] at hn; exact hn
      have hCn : H3 (s2.heap.objs.size + 1) = none := by
        have := I4'.free
        rw [een] at this; exact this
      have fC : FpOk X pins H3 (s2.heap.objs.size + 1) := I.fpOk (Nat.le_succ _) hCn
      obtain ⟨oC, es, ep, hoC, hdC, rC⟩ := id hn'
      have J2 : Inv X (pins ++ [(s2.heap.objs.size + 1, oC)]) σ H3 s4 := J1.pins_of fun p hp => by
        rcases List.mem_append.mp hp with hp | hp
        · exact J1.pin p (List.mem_append_right _ hp)
        · have e : p = (s2.heap.objs.size + 1, oC) := by simpa using hp
          subst e
          exact ⟨hoC, hCn, fC.2.1, fC.2.2.1, fun v z => by rw [hdC] at z; cases z⟩
      exact fin _ _ oC H3 s4 J2 (fun h e => ⟨m, oC, es, ep, e, hdC, rC⟩) fC qn
    · have a0 := T.item X' eP ew eK ec i [] s3 σ3 H3 (fun _ _ => False) I3 (stat fr3) st3 go
      rw [eA] at a0
      refine thn a0 fun r s4 ⟨u, hr, h4⟩ => ?_
      subst hr
      refine thn h4 fun _ s5 ⟨x, H5, I5, r5, y5, st5, fr5⟩ => ?_
      have I5' := I5.pinned (stat fr5) (T.obj _ _ st5)
      have a1 := hg' _ s5 σ3 H5 x u _ I5' r5 (step x H5 y5)
      rw [eP, ew, eA, een, ex] at a1
      refine thn a1 fun _ s6 ⟨σ6, H6, I6, q6⟩ => ?_
      have a2 := ht' _ s6 σ6 H6 _ I6 q6
      rw [eP, ew, eA, een, ex] at a2
      refine thn a2 fun ok s7 ⟨H7, I7, q7⟩ => ?_
      have again : ∀ {ys7 : List V} {H7 : Hp} {s7 : Shared}, Inv X' ([] ++ pinsAt fp s5.heap) σ6 H7 s7 → N ys7 σ6 H7 → ∃ m, m < n ∧ ∃ i ys σ' H', Inv X' [] σ' H' s7 ∧ tn i s7.heap ∧ (∀ b ∈ fp, H' b = none) ∧ W i m ys σ' H' := fun {ys7 H7 s7} I7 n7 => by
        obtain ⟨m', hm, w7⟩ := hN ys7 σ6 H7 n7
        refine ⟨m', hm, i + 1, ys7, σ6, H7, I7.unpinned, T.keep _ _ _ st5 fun b hb o e => (I7.pin (b, o) (List.mem_append_right _ (List.mem_append_right _ (mem_pinsAt hb e)))).1, fun b hb => ?_, w7⟩
        obtain ⟨o, e, d⟩ := T.obj _ _ st5 b hb
        exact (I7.pin (b, o) (List.mem_append_right _ (List.mem_append_right _ (mem_pinsAt hb e)))).2.1
      cases ok with
      | false => exact again I7 q7
      | true =>
        have a3 := he' _ s7 σ6 H7 _ I7 q7
        rw [eP, ew, eA, een, ex] at a3
        refine thn a3 fun y s8 ⟨v, H8, I8, r8, hD8, hl8, n8⟩ => ?_
        have a4 := mt_append (X := X') _ s8 σ6 H8 (.ref s2.heap.objs.size) [v] (.ref s2.heap.objs.size) [y] (fun _ H9 => N (ys ++ [v]) σ6 H9) I8 rfl (.cons r8 .nil) ⟨_, _, _, rfl, rfl, hD8, hl8, n8⟩
        rw [eP, ew, eA, ex] at a4
        refine thn a4 fun _ s9 ⟨v9, H9, I9, _, n9⟩ => ?_
        exact again I9 n9
  exact codeAny_compStart_list (loop _ rfl) (T.self _ 0 _ _ _ st1 (loop _ rfl))
def tComp (lv : List Str) (fr : List (Str × Nat)) (wi : TI) (g : TG) (tt : TT) (te : TE) : TE := fun σ H Q => wi σ H fun J H1 => tCompR J g tt te (cS lv fr σ) H1 Q
theorem pe_comp {wi : TI} (hc : X.calm = true) (S : CScope X scope cl lv fr) (hi : PI X tg iter wi)
    (hg : ∀ C fp s2 H2, PG (cxComp X scope cl C (cN lv fr) fp s2 H2) tg g) (ht : ∀ C fp s2 H2, PIf (cxComp X scope cl C (cN lv fr) fp s2 H2) ifs tt) (he : ∀ C fp s2 H2, PE (cxComp X scope cl C (cN lv fr) fp s2 H2) elt te)
    (hs : ∀ x, foldedSetIterable iter X.env x = pure x := by intro _; rfl) : PE X (.ListComp elt [⟨tg, iter, ifs, 0⟩] scope pos) (tComp lv fr wi g tt te) := by
  intro pins s σ H Q I h
  rw [eval_ListComp]
  refine wpAny_comprehension_free (use := none) rfl hs (closeL_ok S.clos) S.kind S.names ?_
  refine thn (hi pins s σ H _ I h) fun v s1 h1 => thn h1 fun itv s2 h2 => ?_
  obtain ⟨it, fp, tn, J, H2, e, I2, T, st2, f2, q⟩ := h2
  subst e
  refine comp_block I2 S T st2 f2 hc hg ht he q fun D C oC H' s' J1 hNs fC qD => ?_
  have hp := J1.pin (C, oC) (List.mem_append_right _ (List.mem_append_right _ (List.mem_singleton.mpr rfl)))
  obtain ⟨m, hm⟩ := hNs s'.heap hp.1
  refine ⟨m, hm, fun h' hs' => ?_⟩
  exact ⟨.ref D, H', J1.unpinned.turned (t' := s'.toks) (fun b o hb e => (hs'.2 b hb).trans e) fC.1 fC.2.1 fC.2.2.2.1 fC.2.2.2.2.1 fC.2.2.2.2.2, rfl, qD⟩
theorem ps_setcomp {wi : TI} {j : Nat} {y : Str} {py spos : Pos} (hc : X.calm = true) (S : CScope X scope cl lv fr) (hi : PI X tg iter wi)
    (hg : ∀ C fp s2 H2, PG (cxComp X scope cl C (cN lv fr) fp s2 H2) tg g) (ht : ∀ C fp s2 H2, PIf (cxComp X scope cl C (cN lv fr) fp s2 H2) ifs tt) (he : ∀ C fp s2 H2, PE (cxComp X scope cl C (cN lv fr) fp s2 H2) elt te)
    (hy : PG X (.Name y py) (gName j))
    (hsw : swapsWith (.ListComp elt [⟨tg, iter, ifs, 0⟩] scope pos) (some (.Name y py)) spos.line X.env = pure true := by rfl)
    (hs : ∀ x, foldedSetIterable iter X.env x = pure x := by intro _; rfl) : PS X (.Assign [.Name y py] (.ListComp elt [⟨tg, iter, ifs, 0⟩] scope pos) spos) (tAsg (tComp lv fr wi g tt te) (gName j)) := by
  intro pins s σ H D I h
  rw [exec_Assign_Name_used _ _ _ _ hsw]
  refine wpAny_bind (wpAny_standAt (wpAny_bind ?_))
  show wpAny _ X.A (do let _ ← comprehension (.ListComp elt [⟨tg, iter, ifs, 0⟩] scope pos) scope X.env _ (newList []) false (eval iter X.env) (some (assign (.Name y py) X.env))) _ _ s
  refine wpAny_bind (wpAny_mono (wpAny_comprehension_free (use := some (assign (.Name y py) X.env)) (Q := fun _ s' => SP X pins D .next s') rfl hs (closeL_ok S.clos) S.kind S.names ?_) (fun _ s' hq => wpAny_pure (wpAny_pure hq)) fun _ _ e => e)
  refine thn (hi pins s σ H _ I h) fun v s1 h1 => thn h1 fun itv s2 h2 => ?_
  obtain ⟨it, fp, tn, J, H2, e, I2, T, st2, f2, q⟩ := h2
  subst e
  refine comp_block I2 S T st2 f2 hc hg ht he q fun D' C oC H' s' J1 hNs fC qD => ?_
  show wpAny _ X.A (assign (.Name y py) X.env (.ref D')) _ _ _
  refine thn (hy _ s' σ H' (.ref D') (.ref D') _ J1 rfl qD) fun _ s3 ⟨σ3, H3, I3, q3⟩ => ?_
  have hp := I3.pin (C, oC) (List.mem_append_right _ (List.mem_append_right _ (List.mem_singleton.mpr rfl)))
  obtain ⟨m, hm⟩ := hNs s3.heap hp.1
  refine ⟨m, hm, fun h' hs' => ?_⟩
  have fC' : FpOk X pins H3 C := ⟨hp.2.1, fC.2⟩
  exact ⟨σ3, H3, I3.unpinned.turned (t' := s3.toks) (fun b o hb e => (hs'.2 b hb).trans e) fC'.1 fC'.2.1 fC'.2.2.2.1 fC'.2.2.2.2.1 fC'.2.2.2.2.2, q3⟩
end
end L2
namespace L2
open PySem PySem.Spec PyProof.Rows
abbrev tx (l : List Nat) : V := .str ⟨l.toArray⟩
def br (b : Bool) (A B : Prop) : Prop := (b = true → A) ∧ (b = false → B)
theorem str_app (a b : Str) : a ++ b = ⟨(a.cps.toList ++ b.cps.toList).toArray⟩ := by
  cases a; cases b
  show Str.mk (_ ++ _) = _
  simp
theorem str_eta (a : Str) : a = ⟨a.cps.toList.toArray⟩ := by cases a; simp
def cutL (l : List Nat) (lo hi : Option Int) : List Nat := (l.drop (HT.sIx l.length 0 lo)).take (HT.sIx l.length l.length hi - HT.sIx l.length 0 lo)
theorem strSl_bounds (lo hi : Option Int) (n : Nat) : Builtin.Str.strSliceIndices lo hi 1 n = sliceRange ((HT.sIx n 0 lo : Nat) : Int) ((HT.sIx n n hi : Nat) : Int) 1 := by
  unfold Builtin.Str.strSliceIndices
  simp only [show (1 : Int) > 0 by decide, if_true]
  congr 1
  · cases lo with
    | none => simp [HT.sIx]
    | some i =>
      simp only [HT.sIx]
      by_cases h : i < 0
      · simp only [h, if_true] <;> omega
      · simp only [h, if_false] <;> omega
  · cases hi with
    | none => simp [HT.sIx]
    | some i =>
      simp only [HT.sIx]
      by_cases h : i < 0
      · simp only [h, if_true] <;> omega
      · simp only [h, if_false] <;> omega
theorem picked_cut (x : Str) (lo hi : Option Int) : (Builtin.Str.strSliceIndices lo hi 1 x.length).filterMap (x.cps[·]?) = cutL x.cps.toList lo hi := by
  rw [strSl_bounds, sliceRange_one, pick_run]
  unfold cutL Str.length
  simp only [Array.length_toList]
theorem cutL_length_le (l : List Nat) (lo hi : Option Int) : (cutL l lo hi).length ≤ l.length := by
  unfold cutL
  rw [List.length_take, List.length_drop]
  omega
theorem cutL_full {l : List Nat} {lo hi : Option Int} (h : (cutL l lo hi).length = l.length) : cutL l lo hi = l := by
  unfold cutL at h ⊢
  rw [List.length_take, List.length_drop] at h
  have h1 : HT.sIx l.length l.length hi ≤ l.length := HT.sIx_le _ _ (Nat.le_refl _) _
  by_cases hl : l.length = 0
  · have : l = [] := List.length_eq_zero_iff.mp hl
    subst this
    simp
  · have h2 : HT.sIx l.length 0 lo = 0 := by omega
    rw [h2, List.drop_zero, List.take_of_length_le]
    omega
section
variable {X : Cx}
def rSlS : V → Option Int → Option Int → Hp → VK → Prop := fun x lo hi H Q => match x with | .str z => z.length ≤ sizeLine ∧ Q (tx (cutL z.cps.toList lo hi)) H | _ => False
theorem isPart_value {v : Value} {o : Option Int} (p : IsPart v o) : ∃ l : Option (Int × Tok), v = partValue l ∧ l.map (·.1) = o := by
  cases p with
  | none => exact ⟨none, rfl, rfl⟩
  | int i t => exact ⟨some (i, t), rfl, rfl⟩
theorem sl_str : SlR X rSlS := by
  intro pins s σ H x v vl vu lo hi sl Q I rx hs pl pu h
  cases x with
  | str z =>
    obtain ⟨hz, q⟩ := h
    obtain ⟨t, rfl⟩ := rx
    obtain ⟨l, rfl, rfl⟩ := isPart_value pl
    obtain ⟨u, rfl, rfl⟩ := isPart_value pu
    refine ⟨"str", _, F.slot_str_getitem.lookup, typeIs_str _ _ _, ?_⟩
    refine wpAny_getItem_str_slice (l := l) (u := u) (st := none) hs rfl ?_
    unfold sliceMade
    have e : slicePicked z l u none = Builtin.Str.strSliceIndices (l.map (·.1)) (u.map (·.1)) 1 z.length := rfl
    rw [e]
    have hlen : (Builtin.Str.strSliceIndices (l.map (·.1)) (u.map (·.1)) 1 z.length).length = (cutL z.cps.toList (l.map (·.1)) (u.map (·.1))).length := by
      rw [strSl_bounds, sliceRange_one, List.length_map, List.length_range]
      unfold cutL
      rw [List.length_take, List.length_drop]
      have h1 : HT.sIx z.length z.length (u.map (·.1)) ≤ z.length := HT.sIx_le _ _ (Nat.le_refl _) _
      have h2 : z.cps.toList.length = z.length := by simp [Str.length]
      rw [h2]
      omega
    split
    · rename_i hc
      have hc' : (cutL z.cps.toList (l.map (·.1)) (u.map (·.1))).length = z.cps.toList.length := by
        rw [← hlen]
        simpa [Str.length] using hc
      rw [cutL_full hc'] at q
      have q' : Q (.str z) H := by rw [str_eta z]; exact q
      exact ⟨.str z, H, I, ⟨_, rfl⟩, q'⟩
    · rw [picked_cut]
      have h3 := cutL_length_le z.cps.toList (l.map (·.1)) (u.map (·.1))
      have h2 : z.cps.toList.length = z.length := by simp [Str.length]
      refine ⟨?_, tx (cutL z.cps.toList (l.map (·.1)) (u.map (·.1))), H, I.tok _, ⟨_, rfl⟩, q⟩
      show (cutL z.cps.toList (l.map (·.1)) (u.map (·.1))).toArray.size ≤ sizeLine
      rw [List.size_toArray]
      exact Nat.le_trans h3 (by rw [h2]; exact hz)
  | _ => exact h.elim
end
end L2
namespace L2
open PySem PySem.Spec PyProof.Rows
def mVar (i : Nat) : TE := fun σ H Q => match σ[i]? with | some (some v) => Q v H | _ => False
section
variable {X : Cx} {a b c : Expr} {ta tb tc : TE} {pos : Pos}
theorem pe_mvar (i : Nat) {x : Str} {pos : Pos} (hN : X.N[i]? = some x := by rfl) (hv : Vis X.env.scope x := by first | exact Or.inl rfl | exact Or.inr (Or.inl rfl) | exact Or.inr (Or.inr rfl)) (hd : (x == ("__debug__" : Str)) = false := by decide)
    (hcd : (x == ("__classdict__" : Str)) = false := by decide) : PE X (.Name x pos) (mVar i) := by
  intro pins s σ H Q I h
  unfold mVar at h
  cases e : σ[i]? with
  | none => rw [e] at h; exact h.elim
  | some o =>
    rw [e] at h
    cases o with
    | none => exact h.elim
    | some v => exact pe_var hN hv hd hcd pins s σ H Q I ⟨v, e, h⟩
theorem pe_txt {x : Str} {l : List Nat} {j pos} (h : x = ⟨l.toArray⟩ := by rfl) : PE X (.Constant (.str x) j pos) (tC (tx l)) := h ▸ pe_str
def mAdd : R2 := fun x y H Q => match x, y with
  | .int i, .int j => Q (.int (i + j)) H
  | .str a, .str b => a.cps.toList.length + b.cps.toList.length ≤ sizeLine ∧ Q (tx (a.cps.toList ++ b.cps.toList)) H
  | .ref a, .ref b => ∃ xs zs, H a = some (.lst xs) ∧ H b = some (.lst zs) ∧ xs.length + zs.length ≤ sizeLine ∧ ∀ p, H p = none → Q (.ref p) (upd H p (.lst (xs ++ zs)))
  | _, _ => False
theorem op_addM : OpR X (binaryOp .Add) mAdd := by
  intro pins s σ H x y v u Q I rx ry h
  cases x <;> cases y <;> first
    | exact h.elim
    | exact op_add pins s σ H _ _ v u Q I rx ry ⟨_, _, rfl, rfl, h⟩
    | exact op_add_str pins s σ H _ _ v u Q I rx ry ⟨_, _, rfl, rfl, by simpa [Str.length] using h.1, by rw [str_app]; exact h.2⟩
    | (obtain ⟨xs, zs, h1, h2, h3, h4⟩ := h; exact op_cat pins s σ H _ _ v u Q I rx ry ⟨_, _, xs, zs, rfl, rfl, h1, h2, h3, h4⟩)
def mI (C : Int → Int → Prop) (g : Int → Int → V) : R2 := fun x y H Q => match x, y with | .int i, .int j => C i j ∧ Q (g i j) H | _, _ => False
def mI0 (g : Int → Int → V) : R2 := fun x y H Q => match x, y with | .int i, .int j => Q (g i j) H | _, _ => False
theorem opM {f : Value → Value → Sem Value} {C : Int → Int → Prop} {g : Int → Int → V} (h : OpR X f (rI C g)) : OpR X f (mI C g) := by
  intro pins s σ H x y v u Q I rx ry q
  cases x <;> cases y <;> first | exact q.elim | exact h pins s σ H _ _ v u Q I rx ry ⟨_, _, rfl, rfl, q.1, q.2⟩
theorem opM0 {f : Value → Value → Sem Value} {g : Int → Int → V} (h : OpR X f (rI0 g)) : OpR X f (mI0 g) := by
  intro pins s σ H x y v u Q I rx ry q
  cases x <;> cases y <;> first | exact q.elim | exact h pins s σ H _ _ v u Q I rx ry ⟨_, _, rfl, rfl, q⟩
abbrev mSub : R2 := mI0 fun i j => .int (i - j)
abbrev mMod : R2 := mI (fun _ j => 0 < j) fun i j => .int (i % j)
theorem op_subM : OpR X (binaryOp .Sub) mSub := opM0 op_sub
theorem op_modM : OpR X (binaryOp .Mod) mMod := opM op_mod
def mEqB (x y : V) : Option Bool := match x, y with
  | .int i, .int j => some (decide (i = j))
  | .str a, .str b => some (decide (a.cps.toList = b.cps.toList))
  | .bl a, .bl b => some (decide (a = b))
  | .non, .non => some true
  | .non, .int _ => some false | .int _, .non => some false | .non, .bl _ => some false | .bl _, .non => some false | .non, .str _ => some false | .str _, .non => some false
  | .int _, .str _ => some false | .str _, .int _ => some false | .bl _, .str _ => some false | .str _, .bl _ => some false
  | _, _ => none
theorem mEqB_dec {x y : V} {b : Bool} (h : mEqB x y = some b) : scal x y = true ∧ decide (x = y) = b := by
  cases x <;> cases y <;> first
    | (simp [mEqB] at h; done)
    | (refine ⟨rfl, ?_⟩; have h' := Option.some.inj h; rw [← h']; first | rfl | (simp; done))
    | (rename_i a b'
       refine ⟨rfl, ?_⟩
       have h' := Option.some.inj h
       rw [← h', decide_eq_decide]
       constructor
       · intro e; cases e; rfl
       · intro e; rw [str_eta a, str_eta b', e])
def mEq : R2 := fun x y H Q => match mEqB x y with | some b => Q (.bl b) H | none => False
def mNe : R2 := fun x y H Q => match mEqB x y with | some b => Q (.bl (!b)) H | none => False
theorem op_eqM : OpR X (compareOp .Eq) mEq := by
  intro pins s σ H x y v u Q I rx ry h
  unfold mEq at h
  cases e : mEqB x y with
  | none => rw [e] at h; exact h.elim
  | some b =>
    rw [e] at h
    obtain ⟨h1, h2⟩ := mEqB_dec e
    exact op_eq pins s σ H x y v u Q I rx ry ⟨h1, by rw [h2]; exact h⟩
theorem op_neM : OpR X (compareOp .NotEq) mNe := by
  intro pins s σ H x y v u Q I rx ry h
  unfold mNe at h
  cases e : mEqB x y with
  | none => rw [e] at h; exact h.elim
  | some b =>
    rw [e] at h
    obtain ⟨h1, h2⟩ := mEqB_dec e
    exact op_ne pins s σ H x y v u Q I rx ry ⟨h1, by rw [h2]; exact h⟩
abbrev mGe : R2 := mI0 fun i j => .bl (decide (j ≤ i))
theorem op_geM : OpR X (compareOp .GtE) mGe := opM0 op_ge
def mIsB (x y : V) : Option Bool := match y with
  | .non => some (decide (x = .non))
  | .bl b => (match x with | .bl a => some (decide (a = b)) | _ => none)
  | _ => none
def mIs : R2 := fun x y H Q => match mIsB x y with | some b => Q (.bl b) H | none => False
theorem is_bools {M : Model} {A : Around} {E : Value → Shared → Prop} {s : Shared} {a b : Bool} {Q : Value → Shared → Prop} (h : Q (.bool (decide (a = b))) s) : wpAny M A (compareOp .Is (.bool a) (.bool b)) Q E s := by
  cases a <;> cases b <;> exact wpAny_pure h
theorem op_isM : OpR X (compareOp .Is) mIs := by
  intro pins s σ H x y v u Q I rx ry h
  unfold mIs mIsB at h
  cases y with
  | non => exact op_isN pins s σ H x _ v u Q I rx ry ⟨rfl, h⟩
  | bl b =>
    cases x with
    | bl a => cases rx; cases ry; exact is_bools ⟨.bl _, H, I, rfl, h⟩
    | _ => exact h.elim
  | _ => exact h.elim
def inS (l : List Nat) (t : List Nat) : Bool := match l with | [c] => decide (c ∈ t) | _ => !(Builtin.Str.occurrences ⟨t.toArray⟩ ⟨l.toArray⟩ 0 t.length 1).isEmpty
theorem inS_occ (a b : Str) : (!(Builtin.Str.occurrences b a 0 b.length 1).isEmpty) = inS a.cps.toList b.cps.toList := by
  have e : b.length = b.cps.toList.length := by simp [Str.length]
  unfold inS
  split
  · rename_i c hc
    have ea : a = ⟨#[c]⟩ := by rw [str_eta a, hc]
    rw [ea]
    exact StrLaws.found_one b c
  · rw [← str_eta, ← str_eta, e]
def mIn (K : PySem.W.Frag) (neg : Bool) : R2 := fun x y H Q => match y with
  | .str b => (match x with | .str a => Q (.bl (if neg then !inS a.cps.toList b.cps.toList else inS a.cps.toList b.cps.toList)) H | _ => False)
  | .ref p => ∃ xs, (SqL K H p xs ∨ SqT K H p xs) ∧ flatV x = true ∧ xs.all flatV = true ∧ Q (.bl (if neg then !inV x xs else inV x xs)) H
  | _ => False
theorem op_inM : OpR X (compareOp .In) (mIn X.K false) := by
  intro pins s σ H x y v u Q I rx ry h
  unfold mIn at h
  cases y with
  | str b =>
    cases x with
    | str a => exact op_in_str pins s σ H _ _ v u Q I rx ry ⟨_, _, rfl, rfl, by rw [inS_occ]; exact h⟩
    | _ => exact h.elim
  | ref p =>
    obtain ⟨xs, h1, h2, h3, h4⟩ := h
    exact op_in_seq pins s σ H _ _ v u Q I rx ry ⟨_, xs, rfl, h1, h2, h3, h4⟩
  | _ => exact h.elim
theorem op_notInM : OpR X (compareOp .NotIn) (mIn X.K true) := by
  intro pins s σ H x y v u Q I rx ry h
  unfold mIn at h
  cases y with
  | str b =>
    cases x with
    | str a => exact op_notin_str pins s σ H _ _ v u Q I rx ry ⟨_, _, rfl, rfl, by rw [inS_occ]; exact h⟩
    | _ => exact h.elim
  | ref p =>
    obtain ⟨xs, h1, h2, h3, h4⟩ := h
    exact op_notIn_seq pins s σ H _ _ v u Q I rx ry ⟨_, xs, rfl, h1, h2, h3, h4⟩
  | _ => exact h.elim
def mTest (t : TE) : TT := fun σ H Q => t σ H fun x H' => match x with | .bl k => Q k H' | _ => False
theorem PE.imp {e : Expr} {t t' : TE} (h : PE X e t) (hi : ∀ σ H Q, t' σ H Q → t σ H Q) : PE X e t' := fun pins s σ H Q I q => h pins s σ H Q I (hi σ H Q q)
theorem PT.imp {e : Expr} {t t' : TT} (h : PT X e t) (hi : ∀ σ H Q, t' σ H Q → t σ H Q) : PT X e t' := fun pins s σ H Q I q => h pins s σ H Q I (hi σ H Q q)
def mAndV (ta tb : TE) : TE := fun σ H Q => ta σ H fun x H1 => match x with | .bl c => br c (tb σ H1 Q) (Q (.bl false) H1) | _ => False
def mAnd (t u : TT) : TT := fun σ H Q => t σ H fun c H1 => br c (u σ H1 Q) (Q false H1)
def mOr (t u : TT) : TT := fun σ H Q => t σ H fun c H1 => br c (Q true H1) (u σ H1 Q)
variable {rest : List Expr} {tA tB' : TT}
theorem pe_andM (ha : PE X a ta) (hb : PE X (.BoolOp .And (b :: rest) pos) tb) : PE X (.BoolOp .And (a :: b :: rest) pos) (mAndV ta tb) := by
  intro pins s σ H Q I h
  refine BoolOp_and (thn (ha pins s σ H _ I h) fun v s1 ⟨x, H1, I1, r1, q1⟩ => ?_)
  cases x with
  | bl c =>
    cases r1
    refine wpAny_truthy_bool ?_
    cases c with
    | true => exact hb pins s1 σ H1 Q I1 (q1.1 rfl)
    | false => exact ⟨.bl false, H1, I1, rfl, q1.2 rfl⟩
  | _ => exact q1.elim
theorem pw_andM (ha : PT X a tA) (hb : PW X (.BoolOp .And (b :: rest) pos) tB') : PW X (.BoolOp .And (a :: b :: rest) pos) (mAnd tA tB') := by
  intro wh pins s σ H Q I h
  refine isTrue_and (thn (ha pins s σ H _ I h) fun c s1 ⟨H1, I1, q1⟩ => ?_)
  cases c with
  | true => exact hb wh pins s1 σ H1 Q I1 (q1.1 rfl)
  | false => exact ⟨H1, I1, q1.2 rfl⟩
theorem pw_orM (ha : PT X a tA) (hb : PW X (.BoolOp .Or (b :: rest) pos) tB') : PW X (.BoolOp .Or (a :: b :: rest) pos) (mOr tA tB') := by
  intro wh pins s σ H Q I h
  refine isTrue_or (thn (ha pins s σ H _ I h) fun c s1 ⟨H1, I1, q1⟩ => ?_)
  cases c with
  | true => exact ⟨H1, I1, q1.1 rfl⟩
  | false => exact hb wh pins s1 σ H1 Q I1 (q1.2 rfl)
theorem pt_valM {e : Expr} {t : TE} (h : PE X e t) (he : ∀ whole, isTrue e X.env whole = (do let v ← whole; standAt e.pos; holding [v] (truthy v)) := by intro _; rfl) : PT X e (mTest t) := by
  intro pins s σ H Q I hw
  refine isTrue_plain (thn (h pins s σ H _ I hw) fun v s1 ⟨x, H1, I1, r1, q1⟩ => ?_) (he _)
  cases x with
  | bl c => cases r1; exact wpAny_truthy_bool ⟨H1, I1, q1⟩
  | _ => exact q1.elim
theorem pt_cmpM {op : CmpOp} {r : R2} (ho : OpR X (compareOp op) r) (ha : PE X a ta) (hb : PE X b tb) (hm : behindInMarks op b = false := by first | exact nobehind _ (by decide) (by decide) | rfl) : PT X (.Compare a [op] [b] pos) (mTest (tOp r ta tb)) := by
  intro pins s σ H Q I hw
  refine wpAny_isTrue_Compare1 (binT ha hb I hw fun v u s2 x y H2 I2 rx ry q => ?_) hm
  refine thn (ho pins s2 σ H2 x y v u _ I2 rx ry q) fun c s3 ⟨z, H3, I3, r3, q3⟩ => ?_
  cases z with
  | bl k => cases r3; exact wpAny_truthy_bool ⟨H3, I3, q3⟩
  | _ => exact q3.elim
theorem pe_cmpM {op : CmpOp} {r : R2} (ho : OpR X (compareOp op) r) (ha : PE X a ta) (hb : PE X b tb) (hm : behindInMarks op b = false := by first | exact nobehind _ (by decide) (by decide) | rfl) : PE X (.Compare a [op] [b] pos) (tOp r ta tb) := pe_cmpR ho ha hb hm
def mIfS (c : TT) (t u : TS) : TS := fun D σ H => c σ H fun b H1 => br b (t D σ H1) (u D σ H1)
theorem ps_ifM {c : Expr} {a b : List Stmt} {tc : TT} {t u : TS} (hc : PT X c tc) (ha : PSs X a t) (hb : PSs X b u) : PS X (.If c a b pos) (mIfS tc t u) := by
  intro pins s σ H D I h
  refine wpAny_If (thn (hc pins s σ H _ I h) fun d s1 ⟨H1, I1, q1⟩ => ?_)
  cases d with
  | true => exact ha pins s1 σ H1 D I1 (q1.1 rfl)
  | false => exact hb pins s1 σ H1 D I1 (q1.2 rfl)
end
end L2
namespace L2
open PySem PySem.Spec PyProof.Rows
section
variable {X : Cx} {a b c e o : Expr} {es : List Expr} {ta tb tc : TE} {t : TA} {pos : Pos}
def mIx (K : PySem.W.Frag) : R2 := fun x y H Q => match y with
  | .int i => (match x with
    | .ref p => ∃ xs, (SqL K H p xs ∨ SqT K H p xs) ∧ (match atI xs i with | some v => Q v H | none => False)
    | .str z => z.cps.toList.length ≤ sizeLine ∧ (match atI z.cps.toList i with | some c => Q (tx [c]) H | none => False)
    | _ => False)
  | _ => False
theorem ix_M : IxR X (mIx X.K) := by
  intro value slice pins s σ H x y v u Q I rx ry h hs0
  unfold mIx at h
  cases y with
  | int i =>
    cases x with
    | ref p =>
      obtain ⟨xs, hs, h⟩ := h
      cases ev : atI xs i with
      | none => rw [ev] at h; exact h.elim
      | some w' =>
        rw [ev] at h
        rcases hs with hs | hs
        · exact ix_list value slice pins s σ H _ _ v u Q I rx ry ⟨p, xs, i, w', rfl, rfl, hs, ev, h⟩ hs0
        · exact ix_tup value slice pins s σ H _ _ v u Q I rx ry ⟨p, xs, i, w', rfl, rfl, hs, ev, h⟩ hs0
    | str z =>
      obtain ⟨hz, h⟩ := h
      cases ev : atI z.cps.toList i with
      | none => rw [ev] at h; exact h.elim
      | some w' =>
        rw [ev] at h
        exact ix_str value slice pins s σ H _ _ v u Q I rx ry ⟨z, i, w', rfl, rfl, by simpa [Str.length] using hz, ev, h⟩ hs0
    | _ => exact h.elim
  | _ => exact h.elim
def mSl (K : PySem.W.Frag) : V → Option Int → Option Int → Hp → VK → Prop := fun x lo hi H Q => match x with
  | .str z => z.cps.toList.length ≤ sizeLine ∧ Q (tx (cutL z.cps.toList lo hi)) H
  | .ref a => ∃ xs, SqL K H a xs ∧ ∀ p, H p = none → Q (.ref p) (upd H p (.lst (cutV xs lo hi)))
  | _ => False
theorem sl_M : SlR X (mSl X.K) := by
  intro pins s σ H x v vl vu lo hi sl Q I rx hs pl pu h
  unfold mSl at h
  cases x with
  | str z => exact sl_str pins s σ H _ v vl vu lo hi sl Q I rx hs pl pu ⟨by simpa [Str.length] using h.1, h.2⟩
  | ref p =>
    obtain ⟨xs, h1, h2⟩ := h
    exact sl_list pins s σ H _ v vl vu lo hi sl Q I rx hs pl pu ⟨p, xs, rfl, h1, h2⟩
  | _ => exact h.elim
def mPart (t : TE) : TO := fun σ H Q => t σ H fun x H1 => match x with | .int i => Q (some i) H1 | _ => False
theorem po_M (h : PE X e ta) : PO X (some e) (mPart ta) := by
  intro pins s σ H Q I hw
  rw [evalPart_some]
  refine thn (h pins s σ H _ I hw) fun u s1 ⟨x, H1, I1, r1, q1⟩ => ?_
  cases x with
  | int i => obtain ⟨t, rfl⟩ := r1; exact ⟨some i, H1, I1, .int i t, q1⟩
  | _ => exact q1.elim
def mLen (K : PySem.W.Frag) : List V → Hp → VK → Prop := fun xs H Q => match xs with
  | [.str z] => z.cps.toList.length ≤ sizeLine ∧ Q (.int z.cps.toList.length) H
  | [.ref p] => ∃ ys, (SqL K H p ys ∨ SqT K H p ys) ∧ Q (.int ys.length) H
  | _ => False
theorem call_lenM : CallR X (.builtin "len") (mLen X.K) := by
  intro pins s σ H xs us Q I r h
  unfold mLen at h
  split at h
  · exact call_len_str pins s σ H _ us Q I r ⟨_, rfl, by simpa [Str.length] using h.1, by simpa [Str.length] using h.2⟩
  · obtain ⟨ys, h1, h2⟩ := h
    exact call_len_seq pins s σ H _ us Q I r ⟨_, ys, rfl, h1, h2⟩
  · exact h.elim
def tyS (K : PySem.W.Frag) (H : Hp) : V → String → Prop := fun x T => match x with
  | .non => T = "NoneType" | .bl _ => T = "bool" | .int _ => T = "int" | .str _ => T = "str"
  | .ref p => (T = "list" ∧ ∃ xs, H p = some (.lst xs)) ∨ (T = "tuple" ∧ ∃ xs, H p = some (.tup xs))
  | _ => False
theorem tyS_of {K : PySem.W.Frag} {H : Hp} {x : V} {T : String} (h : tyS K H x T) : TyOf K H x (.type T) := by
  unfold tyS at h
  cases x with
  | non => subst h; exact .non
  | bl b => subst h; exact .bl b
  | int i => subst h; exact .int i
  | str z => subst h; exact .str z
  | ref p =>
    rcases h with ⟨rfl, xs, h⟩ | ⟨rfl, xs, h⟩
    · exact .lst h
    · exact .tup h
  | _ => exact h.elim
def isaB (T c : String) : Option Bool :=
  if T = c then some true else if T = "bool" ∧ c = "int" then some true
  else if (T = "bool" ∨ T = "int" ∨ T = "str" ∨ T = "list" ∨ T = "tuple" ∨ T = "NoneType") ∧ (c = "bool" ∨ c = "int" ∨ c = "str" ∨ c = "list" ∨ c = "tuple" ∨ c = "dict") then some false else none
theorem kit_isa {K : PySem.W.Frag} {T c : String} {b : Bool} (h : isaB T c = some b) : PySem.W.kitOne K (.type T) (.type c) = some b := by
  unfold isaB at h
  split at h
  · rename_i e; subst e; cases h
    unfold PySem.W.kitOne
    rw [if_pos (by simp)]
  · split at h
    · rename_i e; obtain ⟨rfl, rfl⟩ := e; cases h; rfl
    · split at h
      · rename_i h1 h2 e
        cases h
        obtain ⟨e1, e2⟩ := e
        rcases e1 with rfl | rfl | rfl | rfl | rfl | rfl <;> rcases e2 with rfl | rfl | rfl | rfl | rfl | rfl <;> first | rfl | exact absurd rfl h1 | exact absurd ⟨rfl, rfl⟩ h2
      · cases h
def mIsa (K : PySem.W.Frag) : List V → Hp → VK → Prop := fun xs H Q => match xs with
  | [.int _, .ty c] => (match isaB "int" c with | some b => Q (.bl b) H | none => False)
  | [.bl _, .ty c] => (match isaB "bool" c with | some b => Q (.bl b) H | none => False)
  | [.str _, .ty c] => (match isaB "str" c with | some b => Q (.bl b) H | none => False)
  | [.non, .ty c] => (match isaB "NoneType" c with | some b => Q (.bl b) H | none => False)
  | [.ref p, .ty c] => ∃ T, tyS K H (.ref p) T ∧ (match isaB T c with | some b => Q (.bl b) H | none => False)
  | _ => False
theorem call_isa : CallR X (.builtin "isinstance") (mIsa X.K) := by
  intro pins s σ H xs us Q I r h
  have key : ∀ (x : V) (T c : String), xs = [x, .ty c] → tyS X.K H x T → (match isaB T c with | some b => Q (.bl b) H | none => False) → wpAny (model X.prog X.w) X.A (call (.builtin "isinstance") us) (EP X pins σ Q) X.xe s := by
    intro x T c e ht hq
    subst e
    obtain ⟨u, w', rfl, r1, r2⟩ := vals2 r
    cases r2
    cases eb : isaB T c with
    | none => rw [eb] at hq; exact hq.elim
    | some b =>
      rw [eb] at hq
      exact isinst_ok I r1 (tyS_of ht) (kit_isa eb) fun tk => ⟨.bl b, H, I.tok tk, rfl, hq⟩
  unfold mIsa at h
  split at h
  · exact key _ "int" _ rfl rfl h
  · exact key _ "bool" _ rfl rfl h
  · exact key _ "str" _ rfl rfl h
  · exact key _ "NoneType" _ rfl rfl h
  · obtain ⟨T, h1, h2⟩ := h
    exact key _ T _ rfl h1 h2
  · exact h.elim
def findS (l : List Nat) (t : List Nat) : Int := Txt.find ⟨l.toArray⟩ ⟨t.toArray⟩
theorem find_one (l : List Nat) (c : Nat) : findS l [c] = (match l.findIdx? (· == c) with | some i => (i : Int) | none => -1) := by
  unfold findS
  rcases find_whole ⟨l.toArray⟩ ⟨[c].toArray⟩ with ⟨h1, h2⟩ | ⟨i, h1, h2, h3⟩
  · rw [h1]
    have : l.findIdx? (· == c) = none := by
      rw [List.findIdx?_eq_none_iff]
      intro x hx
      obtain ⟨j, hj⟩ := List.mem_iff_getElem?.mp hx
      by_cases hxc : x = c
      · subst hxc
        exact absurd ((StrLaws.subAt_one ⟨l.toArray⟩ x j).mpr (by simpa using hj)) (h2 j)
      · simpa using hxc
    rw [this]
  · rw [h1]
    have hi : l[i]? = some c := by simpa using (StrLaws.subAt_one ⟨l.toArray⟩ c i).mp h2
    have : l.findIdx? (· == c) = some i := by
      obtain ⟨hlt, hget⟩ := List.getElem?_eq_some_iff.mp hi
      rw [List.findIdx?_eq_some_iff_getElem]
      refine ⟨hlt, by simp [hget], fun j hj => ?_⟩
      have hjl : j < l.length := Nat.lt_trans hj hlt
      have hn := h3 j hj
      intro hc
      have hc' : l[j] = c := by simpa using hc
      exact hn ((StrLaws.subAt_one ⟨l.toArray⟩ c j).mpr (by simp [hjl, hc']))
    rw [this]
def mIndex : V → List V → Hp → VK → Prop := fun x xs H Q => match x, xs with | .str l, [.str t] => findS l.cps.toList t.cps.toList ≠ -1 ∧ Q (.int (findS l.cps.toList t.cps.toList)) H | _, _ => False
theorem mt_index : MtR X "str.index" mIndex := by
  intro pins s σ H x xs v us Q I rx rv h
  unfold mIndex at h
  split at h
  · rename_i l t
    obtain ⟨k, rfl⟩ := rx
    obtain ⟨u, rfl, ru⟩ := rv.one
    obtain ⟨k', rfl⟩ := ru
    have e : Txt.find l t = findS l.cps.toList t.cps.toList := by unfold findS; rw [← str_eta, ← str_eta]
    rw [← e] at h
    unfold Txt.find at h
    cases ho : Builtin.Str.occurrences l t 0 l.length 1 with
    | nil => rw [ho] at h; exact absurd rfl h.1
    | cons i rest =>
      rw [ho] at h
      exact SC.index ho ⟨.int _, H, I.tok _, ⟨_, rfl⟩, h.2⟩
  · exact h.elim
def strsOf : List V → Option (List Str)
  | [] => some []
  | .str z :: r => (strsOf r).map (z :: ·)
  | _ :: _ => none
theorem strsOf_map {vs : List V} {zs : List Str} : strsOf vs = some zs → vs = zs.map V.str := by
  induction vs generalizing zs with
  | nil => intro h; cases h; rfl
  | cons v r ih =>
    intro h
    cases v with
    | str z =>
      unfold strsOf at h
      cases e : strsOf r with
      | none => rw [e] at h; cases h
      | some y => rw [e] at h; cases h; rw [ih e]; rfl
    | _ => cases h
def joinS (sep : List Nat) (zs : List Str) : List Nat := (Txt.join ⟨sep.toArray⟩ zs).cps.toList
def mJoin (K : PySem.W.Frag) : V → List V → Hp → VK → Prop := fun x xs H Q => match x, xs with
  | .str l, [.ref D] => ∃ vs, (SqL K H D vs) ∧ (match strsOf vs with | some zs => JoinOk l zs = true ∧ Q (tx (joinS l.cps.toList zs)) H | none => False)
  | _, _ => False
theorem vals_strs : ∀ {zs : List Str} {us : List Value}, Vals (zs.map V.str) us → ∃ l : List (Str × Tok), us = strValues l ∧ l.map (·.1) = zs
  | [], us, r => by cases r; exact ⟨[], rfl, rfl⟩
  | z :: zs, us, r => by
    cases r with
    | cons r rr =>
      obtain ⟨t, rfl⟩ := r
      obtain ⟨l, rfl, hl⟩ := vals_strs rr
      exact ⟨(z, t) :: l, rfl, by rw [List.map_cons, hl]⟩
theorem mt_join : MtR X "str.join" (mJoin X.K) := by
  intro pins s σ H x xs v us Q I rx rv h
  unfold mJoin at h
  split at h
  · rename_i l D
    obtain ⟨k, rfl⟩ := rx
    obtain ⟨u, rfl, ru⟩ := rv.one
    cases ru
    obtain ⟨vs, hs, h⟩ := h
    cases ez : strsOf vs with
    | none => rw [ez] at h; exact h.elim
    | some zs =>
      rw [ez] at h
      have ev := strsOf_map ez
      subst ev
      obtain ⟨its, r, p, hz⟩ := I.list hs
      obtain ⟨lz, e1, e2⟩ := vals_strs r
      subst e1
      refine SC.join p.isList e2 h.1 fun t' k' => ⟨tx (joinS l.cps.toList zs), H, I.tok _, ⟨t', ?_⟩, h.2⟩
      unfold joinS
      rw [← str_eta, ← str_eta]
  · exact h.elim
end
theorem join_nil (zs : List Str) : joinS [] zs = (zs.map fun z => z.cps.toList).flatten := by
  unfold joinS Txt.join Builtin.Str.glued
  cases zs with
  | nil => rfl
  | cons z r =>
    show ((r.foldl (fun acc p => acc ++ #[] ++ p.cps) z.cps)).toList = _
    have : ∀ (acc : Array Nat), (r.foldl (fun acc p => acc ++ #[] ++ p.cps) acc).toList = acc.toList ++ (r.map fun z => z.cps.toList).flatten := by
      induction r with
      | nil => intro acc; simp
      | cons y r ih => intro acc; rw [List.foldl_cons, ih]; simp
    rw [this]
    simp
end L2
namespace L2
open PySem PySem.Spec PyProof.Rows
def Gd (P : Program) (w : World) (K : PySem.W.Frag) (mg : Str → Option Value) (base : Heap) (CX : CXT) (k : Nat) (x : Str) (ps : List Str) (sp : Sp) : Prop :=
  ∃ f fd, FnOk P w K mg base CX k f fd ps sp ∧ mg x = some (.ref f) ∧ PySem.W.keepIn K (.ref f) = true ∧ Binds K fd ps []
def Gc (mg : Str → Option Value) (x : Str) (v : V) : Prop := ∃ u, mg x = some u ∧ RelV v u
abbrev Gb (mg : Str → Option Value) (x : Str) : Prop := mg x = none
section
variable {X : Cx} {CX : CXT} {k : Nat} {x : Str} {ps : List Str} {sp : Sp} {p pos : Pos} {e : Expr} {es : List Expr} {t : TA} {tg : Expr}
theorem pe_callG (G : Gd X.prog X.w X.K X.mg X.base CX0 k x ps sp) (hr : Room k X.A) (ha : PA X (e :: es) t) (hg : Gl X x := by rfl) (hdb : (x == ("__debug__" : Str)) = false := by decide)
    (he : starEach (e :: es) X.env = (false, eval e X.env) :: starEach es X.env := by rfl) (hpl : (backTo pos (starEach es X.env)).any (·.1) = false := by rfl) :
    PE X (.Call (.Name x p) (e :: es) [] pos) (tCall sp [] E0 t) := by
  obtain ⟨f, fd, F, hm, hk, hb⟩ := G
  exact pe_call F hr hg hm hk hb .nil pass0 ha hdb he hpl
theorem pe_gc {v : V} (h : Gc X.mg x v) (hg : Gl X x := by rfl) (hd : (x == ("__debug__" : Str)) = false := by decide) : PE X (.Name x pos) (tC v) := by
  obtain ⟨u, hm, r⟩ := h
  exact pe_glob hg hm r hd
theorem pe_ty (T : String) (hm : Gb X.mg x) (hg : Gl X x := by rfl) (hv : bootBuiltins x = some (.type T) := by rfl) (hn : x ≠ "__name__" := by decide) (hd : (x == ("__debug__" : Str)) = false := by decide) : PE X (.Name x pos) (tC (.ty T)) :=
  pe_bltn hg hm hv rfl hn hd
theorem pe_bf {id : String} {r : List V → Hp → VK → Prop} (hc : CallR X (.builtin id) r) (hm : Gb X.mg x) (ha : PA X (e :: es) t) (hg : Gl X x := by rfl) (hv : bootBuiltins x = some (.builtin id) := by rfl) (hn : x ≠ "__name__" := by decide) (hdb : (x == ("__debug__" : Str)) = false := by decide)
    (hs : starEach (e :: es) X.env = (false, eval e X.env) :: starEach es X.env := by rfl) (hpl : (backTo pos (starEach es X.env)).any (·.1) = false := by rfl) : PE X (.Call (.Name x p) (e :: es) [] pos) (tCB r t) :=
  pe_callB hc hg hm hv ha hn hdb hs hpl
theorem pe_sm {o : Expr} {to : TE} {name : Str} {id : String} {r : V → List V → Hp → VK → Prop} {apos cpos : Pos} (slot : Slot "str" name id) (hty : typeOf (.builtin id) = pure (.type "method_descriptor")) (hm : MtR X id r) (ho : PE X o to) (ha : PA X (e :: es) t)
    (h1 : attributeBase o name X.env (eval o X.env) = eval o X.env := by rfl) (h2 : ((((backTo cpos (starEach (e :: es) X.env)).all fun x => !x.fst) && (backToKw cpos (keywordEach [] X.env)).all fun x => x.fst.isSome) && decide (((e :: es).length + ([] : List Keyword).length + if ([] : List Keyword).isEmpty = true then 0 else 1) < 30)) = true := by rfl)
    (h3 : (apos.endLine == cpos.line) = true := by rfl) (h4 : starEach (e :: es) X.env = (false, eval e X.env) :: starEach es X.env := by rfl) (h5 : ((backTo cpos (starEach es X.env)).any fun x => x.fst) = false := by rfl) :
    PE X (.Call (.Attribute o name apos) (e :: es) [] cpos) (tBM X.K "str" r to t) := pe_bm PySem.F.plainAttrs_str slot hty hm ho ha h1 h2 h3 h4 h5
def iAny (K : PySem.W.Frag) (tl : TE) : TI := fun σ H R => tl σ H fun x H1 => match x with
  | .str z => R (Itp z.cps.toList.length (fun i => tx [z.cps.toList.getD i 0])) H1
  | .ref a => ((∃ xs, SqL K H1 a xs) ∧ R (Itl K a) H1) ∨ ((∃ xs, SqT K H1 a xs) ∧ R (Itt K a) H1)
  | _ => False
theorem sgn_tx (z : Str) : sgn z = fun i => tx [z.cps.toList.getD i 0] := by
  funext i
  unfold sgn
  simp [Array.getD_eq_getD_getElem?, List.getD_eq_getElem?_getD]
theorem pi_any {l : Expr} {tl : TE} (hl : PE X l tl) : PI X tg l (iAny X.K tl) := by
  intro pins s σ H R I h
  refine thn (hl pins s σ H _ I h) fun v s1 ⟨x, H1, I1, r1, q1⟩ => ?_
  have pt : ∀ (v : V), PE X l (tC v) → PE X l (tC v) := fun _ h => h
  cases x with
  | str z =>
    obtain ⟨t, rfl⟩ := r1
    refine wpAny_pyIter_strU ?_
    have q : R (Itp z.cps.size (sgn z)) H1 := by
      have e : z.cps.toList.length = z.cps.size := by simp
      rw [sgn_tx, ← e]
      exact q1
    refine ⟨s1.heap.objs.size, [s1.heap.objs.size], _, _, H1, rfl, I1.kept (t' := s1.toks) fun b o e => Heap.get?_push_of_some _ e, turn_str _ z t, ⟨Nat.zero_le _, ⟨_, Heap.get?_push_size _ rfl, rfl, rfl⟩⟩, fun b hb => ?_, q⟩
    have e : b = s1.heap.objs.size := by simpa using hb
    subst e
    exact I1.fpOk (Nat.le_refl _) (I1.hok.fresh (Nat.le_refl _))
  | ref a =>
    cases r1
    rcases q1 with ⟨⟨xs, hq⟩, q⟩ | ⟨⟨xs, hq⟩, q⟩
    · obtain ⟨its, rv, p, hz⟩ := I1.list hq
      refine wpAny_pyIter_list p.isList ?_
      refine ⟨s1.heap.objs.size, [s1.heap.objs.size], _, _, H1, rfl, I1.kept (t' := s1.toks) fun b o e => Heap.get?_push_of_some _ e, turn_list a _, ⟨_, Heap.get?_push_size _ rfl, rfl, rfl⟩, fun b hb => ?_, q⟩
      have e : b = s1.heap.objs.size := by simpa using hb
      subst e
      exact I1.fpOk (Nat.le_refl _) (I1.hok.fresh (Nat.le_refl _))
    · obtain ⟨its, rv, p, hz⟩ := I1.tuple hq
      refine wpAny_pyIter_tuple (show s1.heap.IsTuple a its.toArray from p) ?_
      refine ⟨s1.heap.objs.size, [s1.heap.objs.size], _, _, H1, rfl, I1.kept (t' := s1.toks) fun b o e => Heap.get?_push_of_some _ e, turn_tuple a _, ⟨_, Heap.get?_push_size _ rfl, rfl, rfl⟩, fun b hb => ?_, q⟩
      have e : b = s1.heap.objs.size := by simpa using hb
      subst e
      exact I1.fpOk (Nat.le_refl _) (I1.hok.fresh (Nat.le_refl _))
  | _ => exact q1.elim
def mRng1 (ta : TA) : TI := fun σ H R => ta σ H fun vs H1 => match vs with | [.int j] => -(2 ^ 62) ≤ j ∧ j < 2 ^ 62 ∧ R (Itr 0 j.toNat) H1 | _ => False
theorem PI.imp {iter : Expr} {wi wi' : TI} (h : PI X tg iter wi) (hi : ∀ σ H R, wi' σ H R → wi σ H R) : PI X tg iter wi' := fun pins s σ H R I q => h pins s σ H R I (hi σ H R q)
end
section
variable {X : Cx} {tg : Expr}
theorem pi_rngM1 {a : Expr} {ta : TA} {p pos : Pos} (hm : Gb X.mg "range") (ha : PA X [a] ta) (hg : Gl X "range" := by rfl) (hs : starEach [a] X.env = [(false, eval a X.env)] := by rfl) : PI X tg (.Call (.Name "range" p) [a] [] pos) (mRng1 ta) := by
  intro pins s σ H R I h
  refine Call_ (ld_blt I hg hm boot_range (PyProof.Rows.callWith_type1 (thn (ha pos pins s σ H _ I h) fun us s1 ⟨vs, H1, I1, r1, q1⟩ => ?_) hs rfl))
  dsimp only at q1
  split at q1
  · obtain ⟨q2, q3, q⟩ := q1
    cases r1 with
    | cons r rr =>
      cases rr
      obtain ⟨t, rfl⟩ := r
      exact call_range_1 (range_it I1 (by omega) (by omega) q2 q3 (by simpa using q))
  · exact q1.elim
variable {elts : List Expr} {kk : Nat} {tpos : Pos}
def gNilM : TGs := fun vs σ H Q => match vs with | [] => Q σ H | _ => False
def gConsM (t : TG) (u : TGs) : TGs := fun vs σ H Q => match vs with | v :: r => t v σ H fun σ' H' => u r σ' H' Q | [] => False
theorem pgs_nilM : PGs X [] gNilM := by
  intro pins s σ H vs us Q I r h
  cases vs with
  | nil => exact pgs_nil pins s σ H [] us Q I r ⟨rfl, h⟩
  | cons _ _ => exact h.elim
theorem pgs_consM {e : Expr} {es : List Expr} {t : TG} {u : TGs} (h1 : PG X e t) (h2 : PGs X es u)
    (hs : (assignEach (e :: es) X.env).map (·.2) = assign e X.env :: (assignEach es X.env).map (·.2) := by rfl) : PGs X (e :: es) (gConsM t u) := by
  intro pins s σ H vs us Q I r h
  cases vs with
  | nil => exact h.elim
  | cons v vr => exact pgs_cons h1 h2 hs pins s σ H _ us Q I r ⟨v, vr, rfl, h⟩
def gTupM (K : PySem.W.Frag) (n : Nat) (t : TGs) : TG := fun v σ H Q => match v with | .ref a => ∃ xs, SqT K H a xs ∧ xs.length = n ∧ t xs σ H Q | _ => False
theorem pg_tupM {es : List Expr} {k : Nat} {t : TGs} {n : Nat} {pos : Pos} (hc : X.calm = true) (h : PGs X es t)
    (hn : (assignEach es X.env).length = n := by rfl) (hst : (assignEach es X.env).findIdx? (·.1) = none := by rfl) : PG X (.Tuple es k pos) (gTupM X.K n t) := by
  intro pins s σ H v u Q I r hw
  cases v with
  | ref a =>
    obtain ⟨xs, h1, h2, h3⟩ := hw
    exact pg_tup hc h hn hst pins s σ H _ u Q I r ⟨a, xs, rfl, h1, h2, h3⟩
  | _ => exact hw.elim
def mNeg (ta : TE) : TE := fun σ H Q => ta σ H fun x H1 => match x with | .int i => Q (.int (-i)) H1 | _ => False
theorem pe_neg {a : Expr} {ta : TE} {pos : Pos} (ha : PE X a ta) : PE X (.UnaryOp .USub a pos) (mNeg ta) := by
  intro pins s σ H Q I h
  refine UnaryOp_ (thn (ha pins s σ H _ I h) fun v s1 ⟨x, H1, I1, r1, q1⟩ => ?_)
  cases x with
  | int i => exact un_neg pins s1 σ H1 _ v Q I1 r1 ⟨i, rfl, q1⟩
  | _ => exact q1.elim
end
theorem same_new {H : Hp} {p : Addr} (h : H p = none) (o : HO) : Same H (upd H p o) := fun b u q => by rw [upd_ne (ne_of_none q h)]; exact q
theorem Same.tup {K : PySem.W.Frag} {H H' : Hp} {a : Addr} {xs : List V} (e : Same H H') (h : SqT K H a xs) : SqT K H' a xs := by
  rcases h with (h | ⟨o, h⟩) | h
  · exact .inl (.inl (e _ _ h))
  · exact .inl (.inr ⟨o, e _ _ h⟩)
  · exact .inr h
end L2
namespace L2
open PySem PySem.Spec PyProof.Rows
theorem small_n {n : Nat} (h : n ≤ 100000) : n ≤ sizeLine := by rw [sizeLine_eq]; omega
theorem joinOk_small {zs : List Str} {sep : Str} (h : zs.length * (sep.length + 1) ≤ 100000) (h1 : ∀ z ∈ zs, z.length ≤ 1) : JoinOk sep zs = true := by
  unfold JoinOk
  have key : ∀ (l : List Str) (acc : Nat), (∀ z ∈ l, z.length ≤ 1) → l.foldl (fun x1 x2 => x1 + x2.length + sep.length) acc ≤ acc + l.length * (sep.length + 1) := by
    intro l
    induction l with
    | nil => intro acc _; simp
    | cons z r ih =>
      intro acc hz
      rw [List.foldl_cons]
      have h2 := ih (acc + z.length + sep.length) fun y hy => hz y (List.mem_cons_of_mem _ hy)
      have h3 := hz z List.mem_cons_self
      rw [List.length_cons, Nat.add_mul]
      omega
  have q := key zs 0 h1
  rw [List.foldl_toArray]
  unfold Builtin.Str.tooLong
  simp only [Bool.not_eq_true', decide_eq_false_iff_not]
  have : zs.foldl (fun x1 x2 => x1 + x2.length + sep.length) 0 ≤ 100000 := by omega
  have hl : (100000 : Nat) ≤ sizeLine := by rw [sizeLine_eq]; omega
  omega
end L2
namespace L2
open PySem PySem.Spec PyProof.Rows
section
variable {X : Cx} {tg : Expr}
def mSet : TSet := fun o i v H Q => match i with
  | .int k => (match o with
    | .ref p => ∃ xs, H p = some (.lst xs) ∧ (match ixN xs.length k with | some j => Q (upd H p (.lst (xs.set j v))) | none => False)
    | _ => False)
  | _ => False
theorem set_M : PSet X mSet := by
  intro pins s σ H o i v ov iv u Q I ro ri rv h
  unfold mSet at h
  cases i with
  | int k =>
    cases o with
    | ref p =>
      obtain ⟨xs, h1, h⟩ := h
      cases e : ixN xs.length k with
      | none => rw [e] at h; exact h.elim
      | some j =>
        rw [e] at h
        exact set_list pins s σ H _ _ v ov iv u Q I ro ri rv ⟨p, xs, k, j, rfl, rfl, h1, e, h⟩
    | _ => exact h.elim
  | _ => exact h.elim
theorem ixN_lt {n : Nat} {k : Int} (h0 : 0 ≤ k) (h1 : k < n) : ixN n k = some k.toNat := by unfold ixN; rw [if_pos h0, if_pos h1]
end
section
variable {X : Cx} {x : Str} {p pos : Pos} {e : Expr} {es : List Expr} {t : TA}
theorem pe_tf (T : String) {r : List V → Hp → VK → Prop} (hc : CallR X (.type T) r) (hm : Gb X.mg x) (ha : PA X (e :: es) t) (hg : Gl X x := by rfl) (hv : bootBuiltins x = some (.type T) := by rfl) (hn : x ≠ "__name__" := by decide) (hdb : (x == ("__debug__" : Str)) = false := by decide)
    (hs : starEach (e :: es) X.env = (false, eval e X.env) :: starEach es X.env := by rfl) (hpl : (backTo pos (starEach es X.env)).any (·.1) = false := by rfl) : PE X (.Call (.Name x p) (e :: es) [] pos) (tCB r t) :=
  pe_callTy hc hg hm hv ha hn hdb hs hpl
end
end L2
namespace L2
open PySem PySem.Spec PyProof.Rows
theorem join_ones (l : List Nat) : joinS [] (l.map fun c => (⟨#[c]⟩ : Str)) = l := by
  rw [L2.join_nil, List.map_map]
  induction l with
  | nil => rfl
  | cons c r ih => rw [List.map_cons, List.flatten_cons, ih]; rfl
end L2
namespace L2
open PySem PySem.Spec PyProof.Rows
end L2
namespace L2
open PySem PySem.Spec PyProof.Rows
structure FlyX (x T C : Addr) (H : Hp) (hb h : Heap) : Prop where
  obj : ∃ oe vs a0 oT ts, h.get? x = some oe ∧ (oe.cls = .ref C ∧ vs[0]? = some a0) ∧ oe.data = .fields vs ∧ vs[1]? = some (.ref T) ∧ T ≠ x ∧ h.get? T = some oT ∧ oT.data = .fields ts ∧ ts[3]? = some .none
  hx : H x = none
  hT : H T = none
  nx : hb.get? x = none
  nT : hb.get? T = none
def CXx (P : Program) (w : World) : CXT := fun outer H s E e s' => ∃ x T C H', e = .ref x ∧ s'.os = s.os ∧ AllBare s'.gens ∧ Un (frs outer) [] H H' s.heap s'.heap ∧ HOk P w H' s'.heap ∧
  FlyX x T C H' s.heap s'.heap ∧ E (.ref C) none H'
theorem passX0 {P : Program} {w : World} {X : Cx} : Passes (CXx P w) X E0 := fun _ _ _ _ _ _ _ h => by
  obtain ⟨_, _, _, _, _, _, _, _, _, _, h⟩ := h
  exact h.elim
theorem HOk.at_ {P : Program} {w : World} {H : Hp} {h : Heap} {a : Addr} {o : HO} (x : HOk P w H h) (e : H a = some o) : ∃ u, h.get? a = some u := by
  have q := x a o e
  clear e x
  induction o with
  | lst xs => obtain ⟨_, _, _, _, e⟩ := q; exact ⟨_, e⟩
  | tup xs => obtain ⟨_, _, _, o, e, _⟩ := q; exact ⟨_, e⟩
  | dK kvs => obtain ⟨_, _, _, _, o, _, _, e, _⟩ := q; exact ⟨_, e⟩
  | dT kvs => obtain ⟨_, _, _, _, o, _, _, e, _⟩ := q; exact ⟨_, e⟩
  | set S n => obtain ⟨o, _, _, _, e, _⟩ := q; exact ⟨_, e⟩
  | ins C dx fs => obtain ⟨_, _, _, e, _⟩ := q; exact ⟨_, e⟩
  | own y => obtain ⟨_, e⟩ := q; exact ⟨_, e⟩
  | xd fs => obtain ⟨_, ⟨_, _, _, e, _⟩, _⟩ := q; exact ⟨_, e⟩
  | rng lo hi => obtain ⟨_, _, _, e⟩ := q; exact ⟨_, e⟩
  | frz ob u _ => obtain ⟨e, _⟩ := q; exact ⟨_, e⟩
  | tbl ps => exact ⟨_, (show h.get? a = some _ from q)⟩
  | met f y => exact ⟨_, (show h.get? a = some _ from q)⟩
  | ext φ => obtain ⟨_, ⟨_, e⟩, _⟩ := q; exact ⟨_, e⟩
theorem HOk.none_at {P : Program} {w : World} {H : Hp} {h : Heap} {a : Addr} (x : HOk P w H h) (e : h.get? a = none) : H a = none := by
  cases q : H a with
  | none => rfl
  | some o =>
    obtain ⟨u, z⟩ := x.at_ q
    rw [e] at z; cases z
section
variable {X : Cx} {pins : List (Addr × Obj)} {σ : St} {H : Hp} {s : Shared}
theorem frs_of (hst : X.stack = X.env :: X.outer) {b : Addr} (h : b ∈ X.fs) : b ∈ frs X.stack := by
  rw [hst]
  unfold Cx.fs frs at *
  rw [List.filterMap_cons]
  split
  · exact h
  · exact List.mem_cons_of_mem _ h
theorem left_done (I : Inv X pins σ H s) (hst : X.stack = X.env :: X.outer) (hex : X.ex = []) {x C : Addr} {a0 : Value} {ex : List Addr} {h2 : Heap} (hxs : ∀ b ∈ ex, H b = none ∧ X.s₀.heap.get? b = none) (hx : x ∈ ex)
    (L : Heap.LeftW (PySem.W.hideAll s.heap (frs X.stack ++ ex)) X.stack x (.ref C) a0 s.heap h2) :
    ∃ T, Un (frs X.outer) [] X.H₀ H X.s₀.heap h2 ∧ HOk X.prog X.w H h2 ∧ FlyX x T C H X.s₀.heap h2 := by
  obtain ⟨st, ff, ⟨oe, vs, T, oT, ts, he, hc, hd, h1, hnT, hTe, hT, hdT, h3⟩, up⟩ := L
  have nex : ∀ b : Addr, b ∉ X.ex := fun b z => by rw [hex] at z; cases z
  have keepS : ∀ b o, s.heap.get? b = some o → b ∉ frs X.stack → b ∉ ex → h2.get? b = some o := fun b o q n1 n2 => st b o (PySem.W.hideAll_get _ q fun z => (List.mem_append.mp z).elim n1 n2)
  have slotS : ∀ b o, s.heap.get? b = some o → b ∈ frs X.stack → ∃ sl, h2.get? b = some { o with slots := sl } := fun b o q hb => up b o q (by
    obtain ⟨_, o', q', d⟩ := I.stack.mem hb
    cases q.symm.trans q'
    exact d)
  have notL : ∀ b o, X.s₀.heap.get? b = some o → b ≠ X.env.locals := fun b o q => Nat.ne_of_lt (Nat.lt_of_lt_of_le (Heap.lt_size q) I.ok.above)
  have notX : ∀ b o, X.s₀.heap.get? b = some o → b ∉ ex := fun b o q z => by
    have := (hxs b z).2
    rw [q] at this; cases this
  have notF : ∀ b o, X.s₀.heap.get? b = some o → b ∉ X.fs → b ∉ frs X.stack := fun b o q n z => by
    rcases List.mem_cons.mp (I.stkSub b z) with e | e
    · exact notL b o q e
    · exact n e
  have young : ∀ b, s.heap.get? b = none → X.s₀.heap.get? b = none := fun b q => by
    cases e : X.s₀.heap.get? b with
    | none => rfl
    | some o =>
      obtain ⟨o', z⟩ := I.base.there b o e (nex b)
      rw [q] at z; cases z
  refine ⟨T, ⟨fun b o q n hb _ => ?_, fun b o q n hb _ => ?_, fun b o q n _ => I.base.free b o q n (nex b), fun b o q _ => ?_, I.base.tups, I.base.frzs, I.base.tbls⟩, fun a o e => ?_, ⟨oe, vs, a0, oT, ts, he, hc, hd, h1, hTe, hT, hdT, h3⟩, (hxs x hx).1, ?_, (hxs x hx).2, ?_⟩
  · exact keepS b o (I.base.keep b o q n hb (nex b)) (notF b o q hb) (notX b o q)
  · obtain ⟨sl, e⟩ := I.base.slot b o q n hb (nex b)
    obtain ⟨sl', e'⟩ := slotS b _ e (frs_of hst hb)
    exact ⟨sl', e'⟩
  · obtain ⟨o', e⟩ := I.base.there b o q (nex b)
    by_cases hb : b ∈ frs X.stack
    · obtain ⟨sl', e'⟩ := slotS b _ e hb
      exact ⟨_, e'⟩
    · exact ⟨o', keepS b o' e hb (notX b o q)⟩
  · refine (I.hok a o e).stay (fun b u hb q => ?_) (fun _ q => q) fun _ _ q => q
    have tr : ∃ o, H b = some o := by
      rcases hb with rfl | hb
      · exact ⟨_, e⟩
      · exact ⟨_, hb⟩
    obtain ⟨ob, tr⟩ := tr
    refine keepS b u q (fun z => ?_) fun z => ?_
    · rw [I.stkFree b z] at tr; cases tr
    · rw [(hxs b z).1] at tr; cases tr
  all_goals
    by_cases hTx : T ∈ ex
    · first | exact (hxs T hTx).1 | exact (hxs T hTx).2
    by_cases hTf : T ∈ frs X.stack
    · obtain ⟨_, o', q', d⟩ := I.stack.mem hTf
      obtain ⟨sl, e'⟩ := slotS T o' q' hTf
      rw [hT] at e'
      cases e'
      exact absurd hdT (d ts)
    have q : s.heap.get? T = none := by
      cases e : s.heap.get? T with
      | none => rfl
      | some o =>
        rw [PySem.W.hideAll_get _ e fun z => (List.mem_append.mp z).elim hTf hTx] at hnT
        cases hnT
    first | exact I.hok.none_at q | exact young T q
end
section
variable {P : Program} {w : World} {K : PySem.W.Frag} {mg : Str → Option Value} {base : Heap} {N : List Str} {qual : Str} {scope : Scope} {f : Addr} {cd : Value} {A : Around} {outer : List Env} {s0 : Shared} {H0 : Hp} {E : XK}
theorem in_frs {l : List Env} {more : List Addr} : ∀ env ∈ l, ∀ a, env.frame = some a → a ∈ frs l ++ more := fun env he a hf => List.mem_append_left _ (List.mem_filterMap.mpr ⟨env, he, hf⟩)
def Takes (X : Cx) (E : XK) : Prop := ∀ (pins : List (Addr × Obj)) (σ : St) (H : Hp) (s : Shared) (h : Heap) (x C : Addr) (args : List Value), Inv X pins σ H s → Heap.MadeExcOf s.heap h x (.ref C) args → E (.ref C) none H → X.xe (.ref x) { s with heap := h }
theorem takes_cx : Takes (cxOf (CXx P w) P w K mg base N qual scope f cd A outer s0 H0 E) E := by
  intro pins σ H s h x C args I hx hE
  have I1 : Inv (cxOf (CXx P w) P w K mg base N qual scope f cd A outer s0 H0 E) pins σ H { s with heap := h } := I.kept (t' := s.toks) hx.keeps
  obtain ⟨t, he, htn, ht⟩ := hx.there
  show wpAny _ _ (leaving _ _) _ _ _
  refine wpAny_leaving_firstW (base := PySem.W.hideAll h (frs (envOfC qual scope s0.heap.objs.size f cd :: outer) ++ [x])) (a0 := .ref t) I.ok.frames (PySem.W.funFrames_hide I1.stack in_frs) rfl he (fun b o q => PySem.W.of_hideAll _ q)
    (PySem.W.hideAll_none _ (List.mem_append_right _ List.mem_cons_self)) rfl rfl rfl fun h2 L => ?_
  obtain ⟨T, u, ok, fly⟩ := left_done (ex := [x]) I1 rfl rfl (fun b hb => by
    rw [List.mem_singleton.mp hb]
    refine ⟨I.hok.none_at hx.new, ?_⟩
    cases e : s0.heap.get? x with
    | none => exact e
    | some o =>
      obtain ⟨o', z⟩ := I.base.there x o e (fun z => nomatch z)
      rw [hx.new] at z; cases z) List.mem_cons_self L
  exact ⟨x, T, C, H, rfl, I.os, I.bare, u, ok, fly, hE⟩
theorem passes_cx : Passes (CXx P w) (cxOf (CXx P w) P w K mg base N qual scope f cd A outer s0 H0 E) E := by
  intro pins σ H s e s' I h
  obtain ⟨x, T, C, H', rfl, os, bare, un, ok, fly, hE⟩ := h
  have I1 : Inv (cxOf (CXx P w) P w K mg base N qual scope f cd A outer s0 H0 E) pins σ H' s' := I.call' (ch := []) os un ok bare (fun b z => absurd z (by simp))
  obtain ⟨oe, vs, a0, oT, ts, he, hc, hd, h1, hTe, hT, hdT, h3⟩ := fly.obj
  show wpAny _ _ (leaving _ _) _ _ _
  refine wpAny_leaving_nextW (base := PySem.W.hideAll s'.heap (frs (envOfC qual scope s0.heap.objs.size f cd :: outer) ++ [x, T])) (cls := .ref C) (a0 := a0) I.ok.frames (PySem.W.funFrames_hide I1.stack in_frs) rfl
    ⟨oe, vs, T, oT, ts, he, hc, hd, h1, PySem.W.hideAll_none _ (List.mem_append_right _ (List.mem_cons_of_mem _ List.mem_cons_self)), hTe, hT, hdT, h3⟩ (fun b o q => PySem.W.of_hideAll _ q)
    (PySem.W.hideAll_none _ (List.mem_append_right _ List.mem_cons_self)) fun h2 L => ?_
  have old : ∀ b, s.heap.get? b = none → s0.heap.get? b = none := fun b q => by
    cases e : s0.heap.get? b with
    | none => rfl
    | some o =>
      obtain ⟨o', z⟩ := I.base.there b o e (fun z => nomatch z)
      rw [q] at z; cases z
  obtain ⟨T2, u, ok2, fly2⟩ := left_done (ex := [x, T]) I1 rfl rfl (fun b hb => by
    rcases List.mem_cons.mp hb with rfl | hb
    · exact ⟨fly.hx, old _ fly.nx⟩
    · rw [List.mem_singleton.mp hb]
      exact ⟨fly.hT, old _ fly.nT⟩) List.mem_cons_self L
  exact ⟨x, T2, C, H', rfl, I1.os, I1.bare, u, ok2, fly2, hE⟩
end
end L2
namespace L2
open PySem PySem.Spec PyProof.Rows
abbrev bmV : List Value := [.type "ValueError", .type "Exception", .type "BaseException", .type "object"]
def excK (K : PySem.W.Frag) (C : Addr) : Bool := PySem.W.excIn K C bmV "ValueError.__new__"
def gA (K : PySem.W.Frag) (x : Str) : Addr := match PySem.W.nsIn K mainGlobals x with | some (some (.ref c)) => c | _ => 0
theorem gA_of {K : PySem.W.Frag} {x : Str} {c : Addr} (h : PySem.W.nsIn K mainGlobals x = some (some (.ref c))) : gA K x = c := by unfold gA; rw [h]
theorem exc_obj {K : PySem.W.Frag} {h : Heap} {C : Addr} (kin : K.In h) (q : excK K C = true) :
    ∃ nm qn N bs bm hd sn sub ab col dd k0 k1 k2 k3 k5 mN, h.get? C = some (excClassObj nm qn C N bs bm hd sn sub ab col dd k0 k1 k2 k3 k5 "ValueError.__new__") ∧ h.Ns N mN ∧ mN "__init__" = none ∧ OwnTail h bmV bm := by
  unfold excK PySem.W.excIn at q
  split at q
  case h_2 => cases q
  case h_1 dx cx slx at1 =>
    split at q
    case h_2 => cases q
    case h_1 Cx tl y0 y1 y2 y3 yn y5 m1 m2 =>
      rw [Bool.and_eq_true, Bool.and_eq_true, Bool.and_eq_true, Bool.and_eq_true, Bool.and_eq_true] at q
      obtain ⟨⟨⟨⟨⟨q1, q2⟩, q3⟩, q4⟩, q5⟩, q6⟩ := q
      replace q1 := beq_iff_eq.mp q1
      replace q2 := beq_iff_eq.mp q2
      replace q6 := beq_iff_eq.mp q6
      replace q3 : cx.hasDel = false := by simpa using q3
      subst q1 q2
      cases cx
      dsimp only at m1 q3 q5 q6
      subst m1 q3
      cases slx
      dsimp only at m2
      subst m2
      exact ⟨_, _, _, _, tl, _, _, _, _, _, dx, y0, y1, y2, y3, y5, _, kin _ _ at1, .of_isNs (PySem.W.isNs_of_in kin q5), PySem.W.nsMap_none_of_in kin q5 q6, PySem.W.tail_of_in kin q4⟩
section
variable {X : Cx} {E : XK} {C : Addr} {x : Str} {e : Expr} {es : List Expr} {t : TA} {np cpos pos : Pos}
def tRaise (C : Addr) (E : XK) (t : TA) : TS := fun _ σ H => t σ H fun vs H1 => vs.length ≤ 100 ∧ E (.ref C) none H1
theorem ps_raise (hT : Takes X E) (hcm : X.calm = true) (hq : excK X.K C = true) (hm : X.mg x = some (.ref C)) (ha : PA X (e :: es) t) (hg : Gl X x := by rfl) (hdb : (x == ("__debug__" : Str)) = false := by decide)
    (he : starEach (e :: es) X.env = (false, eval e X.env) :: starEach es X.env := by rfl) (hpl : (backTo cpos (starEach es X.env)).any (·.1) = false := by rfl) :
    PS X (.Raise (some (.Call (.Name x np) (e :: es) [] cpos)) none pos) (tRaise C E t) := by
  intro pins s σ H D I h
  obtain ⟨nm, qn, N, bs, bm, hd, sn, sub, ab, col, dd, k0, k1, k2, k3, k5, mN, hC, hN, hni, TL⟩ := exc_obj I.ok.mod.kin hq
  refine wpAny_Raise_call_subU (C := C) (nm := nm) (q := qn) (N := N) (bs := bs) (bm := bm) (hdct := hd) (sn := sn) (sub := sub) (ab := ab) (col := col) (dd := dd) (k0 := k0) (k1 := k1) (k2 := k2) (k3 := k3) (k5 := k5)
    PySem.F.excBase_ValueError (by decide) PySem.F.excBase_ValueError (mN := mN) (TL.hasType rfl) (I.ok.hd hcm) (by rw [he]; show (false || (backTo cpos (starEach es X.env)).any (·.1)) = false; rw [hpl]; rfl) hni (ld_glob I hg hm ⟨rfl, ?_⟩ hdb)
  have h2 := ha cpos pins s σ H _ I h
  rw [he] at h2 ⊢
  refine Calls.evalArgs_plain (wpAny_mono h2 (fun us s1 q => ?_) fun _ _ y => y)
  obtain ⟨vs, H1, I1, r, hl, q⟩ := q
  refine ⟨rfl, ?_, I1.bk _ _ hC, hN.keeps I1.bk, TL.keeps I1.bk, fun h' a hmade => hT pins σ H1 s1 h' a C _ I1 hmade q⟩
  show us.length ≤ sizeLine
  rw [← r.length]
  exact Nat.le_trans hl (by rw [sizeLine_eq]; decide)
end
section
variable {X : Cx} {a : Expr} {ta : TE} {pos : Pos}
def mRepr : V → Hp → VK → Prop := fun x H Q => match x with | .str z => (reprText z).length ≤ sizeLine ∧ Q (.str (reprText z)) H | _ => False
theorem pe_fvr (ha : PE X a ta) : PE X (.FormattedValue a 114 none pos) (tUn mRepr ta) := by
  intro pins s σ H Q I h
  refine wpAny_FormattedValue_repr (thn (ha pins s σ H _ I h) fun v s1 ⟨x, H1, I1, r1, q1⟩ => ?_)
  cases x with
  | str z =>
    obtain ⟨k, rfl⟩ := r1
    refine wpAny_pyReprObj_gives (T := "str") (typeIs_str _ _ _) PySem.F.slot_str_repr PySem.F.entry_str_repr (PySem.F.args_str_repr_1 _) (gives_str_repr z k) ?_ rfl q1.1
    exact wpAny_formatField_str ⟨.str (reprText z), H1, I1.tok _, ⟨_, rfl⟩, q1.2⟩ ⟨.str (reprText z), H1, (I1.tok _).tok _, ⟨_, rfl⟩, q1.2⟩ q1.1
  | _ => exact q1.elim
abbrev TJ := Str → St → Hp → (Str → Hp → Prop) → Prop
def PJ (X : Cx) (vs : List Expr) (t : TJ) : Prop := ∀ (acc : Str) (pins : List (Addr × Obj)) (s : Shared) (σ : St) (H : Hp) (Q : Str → Shared → Prop) (R : Str → Hp → Prop), Inv X pins σ H s → t acc σ H R → (∀ out s1 H1, Inv X pins σ H1 s1 → R out H1 → Q out s1) →
  Joins (model X.prog X.w) X.A X.xe (evalEach vs X.env) acc Q s
def tJ0 : TJ := fun acc _ H R => R acc H
def tJ1 (ta : TE) (tr : TJ) : TJ := fun acc σ H R => ta σ H fun x H1 => match x with | .str z => (acc ++ z).length ≤ sizeLine ∧ tr (acc ++ z) σ H1 R | _ => False
theorem pj_nil : PJ X [] tJ0 := fun acc pins s σ H Q R I h hq => hq acc s H I h
theorem pj_cons {vs : List Expr} {tr : TJ} (ha : PE X a ta) (hr : PJ X vs tr) (he : evalEach (a :: vs) X.env = eval a X.env :: evalEach vs X.env := by rfl) : PJ X (a :: vs) (tJ1 ta tr) := by
  intro acc pins s σ H Q R I h hq
  rw [he]
  refine wpAny_mono (ha pins s σ H _ I h) (fun v s1 q => ?_) fun _ _ y => y
  obtain ⟨x, H1, I1, r1, q1⟩ := q
  cases x with
  | str z =>
    obtain ⟨k, rfl⟩ := r1
    exact ⟨z, k, rfl, q1.1, hr (acc ++ z) pins s1 σ H1 Q R I1 q1.2 hq⟩
  | _ => exact q1.elim
def tJoin (tj : TJ) : TE := fun σ H Q => tj Str.empty σ H fun out H1 => out.length ≤ sizeLine ∧ Q (.str out) H1
theorem pe_joined {b : Expr} {vs : List Expr} {tj : TJ} (h : PJ X (a :: b :: vs) tj) : PE X (.JoinedStr (a :: b :: vs) pos) (tJoin tj) := by
  intro pins s σ H Q I q
  refine wpAny_JoinedStr (h Str.empty pins s σ H _ _ I q fun out s1 H1 I1 q1 => ⟨q1.1, .str out, H1, I1.tok _, ⟨_, rfl⟩, q1.2⟩)
end
end L2
namespace LX
open PySem PySem.W PySem.Calls PyProof.Rows Builtin Builtin.ObjectAttr Builtin.Getset_descriptor
section
variable {prog : Program} {w : World} {A : Around} {K : Frag} {x D : Addr}
end
end LX
namespace L2
open PySem PySem.Spec PyProof.Rows
end L2
namespace L2
open PySem PySem.Spec PyProof.Rows
section
variable {X : Cx} {k : Nat} {x : Str} {ps : List Str} {sp : Sp} {E : XK} {p pos : Pos} {e : Expr} {es : List Expr} {t : TA}
theorem pe_callX (G : Gd X.prog X.w X.K X.mg X.base (CXx X.prog X.w) k x ps sp) (hr : Room k X.A) (hx : Passes (CXx X.prog X.w) X E) (ha : PA X (e :: es) t) (hg : Gl X x := by rfl) (hdb : (x == ("__debug__" : Str)) = false := by decide)
    (he : starEach (e :: es) X.env = (false, eval e X.env) :: starEach es X.env := by rfl) (hpl : (backTo pos (starEach es X.env)).any (·.1) = false := by rfl) :
    PE X (.Call (.Name x p) (e :: es) [] pos) (tCall sp [] E t) := by
  obtain ⟨f, fd, F, hm, hk, hb⟩ := G
  exact pe_call F hr hg hm hk hb .nil hx ha hdb he hpl
end
def XP (X : Cx) (pins : List (Addr × Obj)) (W : St → XK) (e : Value) (s' : Shared) : Prop := ∃ σ' Hb sb, Inv X pins σ' Hb sb ∧ CXx X.prog X.w X.stack Hb sb (W σ') e s'
abbrev TX := Ends → (St → XK) → St → Hp → Prop
theorem PA.nox {X : Cx} {es : List Expr} {t : TA} (h : PA X.nox es t) : PA X es t := fun pos pins s σ H Q I hw =>
  wpAny_mono (h pos pins s σ H Q (I.wish _) hw) (fun _ _ ⟨v, H', I', r, q⟩ => ⟨v, H', I'.unwish, r, q⟩) fun _ _ z => False.elim z
section
variable {X : Cx} {st : Stmt} {rest : List Stmt} {t u : TX} {k : Nat} {x : Str} {ps : List Str} {sp : Sp} {p pos pos' : Pos} {e : Expr} {es : List Expr} {ta : TA}
end
section
variable {X : Cx} {pins : List (Addr × Obj)} {σ : St} {Hb H' : Hp} {sb s1 : Shared} {x T C : Addr}
end
end L2
namespace L2
open PySem PySem.Spec PyProof.Rows
section
variable {X : Cx} {body : List Stmt} {tb : TX} {ts : TS} {S : Addr} {sx n : Str} {i : Nat} {b₀ : Stmt} {suite : List Stmt} {np hpos pos : Pos}
def gone (i : Nat) (D : Ends) : Ends := { nx := fun σ H => D.nx (σ.set i none) H, rt := D.rt, bk := fun σ H => D.bk (σ.set i none) H, ct := fun σ H => D.ct (σ.set i none) H }
end
end L2
namespace L2
open PySem PySem.Spec PyProof.Rows
structure RoomN (k : Nat) (A : Around) : Prop where
  dp : A.depth + 3 * k + 5 < recursionLimit
  un : A.units + 16 * k + 200 < cLine
theorem Room.n {k : Nat} {A : Around} (r : Room k A) : RoomN k A := ⟨r.dp, r.un⟩
theorem RoomN.mono {j k : Nat} {A : Around} (r : RoomN k A) (h : j ≤ k) : RoomN j A := ⟨by have := r.dp; omega, by have := r.un; omega⟩
theorem RoomN.deeper {k : Nat} {A : Around} (r : RoomN (k + 1) A) (env : Env) : RoomN k (A.deeper env) := ⟨by have := r.dp; show A.depth + 1 + 3 * k + 5 < _; omega, by have := r.un; show A.units + 3 + 16 * k + 200 < _; omega⟩
structure FnOkN (P : Program) (w : World) (K : PySem.W.Frag) (mg : Str → Option Value) (base : Heap) (k : Nat) (f : Addr) (fd : FuncData) (ps : List Str) (sp : Sp) : Prop where
  len : ∀ vs H Q E, sp vs H Q E → vs.length = ps.length
  run : ∀ (A : Around) (outer : List Env) (s : Shared) (H : Hp) (args : Args) (us : List Value) (vs : List V) (Q : VK) (E : XK), RoomN k A → Env0 P w K mg base A outer s H → BindsTo s fd args (ps.zip us) → Vals vs us → sp vs H Q E →
    codeAny (model P w) A (.call (.ref f) args) (CR CX0 outer P w H s Q E) s
theorem FnOkN.ok {P : Program} {w : World} {K : PySem.W.Frag} {mg : Str → Option Value} {base : Heap} {k : Nat} {f : Addr} {fd : FuncData} {ps : List Str} {sp : Sp} (F : FnOkN P w K mg base k f fd ps sp) : FnOk P w K mg base CX0 k f fd ps sp :=
  ⟨F.len, fun A outer s H args us vs Q E hr => F.run A outer s H args us vs Q E hr.n⟩
section
variable {P : Program} {w : World} {K : PySem.W.Frag} {mg : Str → Option Value} {base : Heap}
theorem Fun.okX {x qual : Str} {st : Stmt} {f : Addr} {fd : FuncData} {N ps : List Str} {k : Nat} {sp : Sp} (F : Fun K x qual st f fd) (S : FnScope N ps (defScope st)) (len : ∀ vs H Q E, sp vs H Q E → vs.length = ps.length)
    (hbody : ∀ (cdv : Value) (A : Around) (outer : List Env) (s : Shared) (H : Hp) (vs : List V) (Q : VK) (E : XK), Room k (A.deeper (envOfC qual (defScope st) s.heap.objs.size f cdv)) → sp vs H Q E →
      ∃ t, PSs (cxOf (CXx P w) P w K mg base N qual (defScope st) f cdv A outer s H E) (defBody st) t ∧ t { nx := fun _ H' => Q .non H', rt := Q } (start N vs) H) : FnOk P w K mg base (CXx P w) (k + 1) f fd ps sp := by
  obtain ⟨oc, od, kV, doc, pm, an, cdv, ct, osl, rfl, lk, hcd⟩ := F.ex
  exact fn_of lk hcd S len fun A outer s H vs Q E hr hsp => hbody cdv A outer s H vs Q E hr hsp
end
def GdN (P : Program) (w : World) (K : PySem.W.Frag) (mg : Str → Option Value) (base : Heap) (k : Nat) (x : Str) (ps : List Str) (sp : Sp) : Prop :=
  ∃ f fd, FnOkN P w K mg base k f fd ps sp ∧ mg x = some (.ref f) ∧ PySem.W.keepIn K (.ref f) = true ∧ Binds K fd ps []
theorem GdN.g {P : Program} {w : World} {K : PySem.W.Frag} {mg : Str → Option Value} {base : Heap} {k : Nat} {x : Str} {ps : List Str} {sp : Sp} (G : GdN P w K mg base k x ps sp) : Gd P w K mg base CX0 k x ps sp := by
  obtain ⟨f, fd, F, r⟩ := G
  exact ⟨f, fd, F.ok, r⟩
section
variable {X : Cx} {k : Nat} {x : Str} {ps : List Str} {sp : Sp} {p pos : Pos} {e : Expr} {es : List Expr} {t : TA}
end
end L2
namespace L2
open PySem PySem.Spec PyProof.Rows
section
variable {X : Cx} {k : Nat} {x : Str} {ps : List Str} {sp : Sp} {p pos pos' : Pos} {e : Expr} {es : List Expr} {ta : TA} {i : Nat} {y : Str} {py : Pos}
end
def SG : List Nat := [32, 48, 49, 50, 51, 52, 53, 54, 55, 56, 57, 65, 66, 67, 68, 69, 70, 71, 72, 73, 74, 75, 76, 77, 78, 79, 80, 81, 82, 83, 84, 85, 86, 87, 88, 89, 90]
def rk (l : List Nat) : Option Nat := match l with | [c] => SG.findIdx? (· == c) | _ => none
end L2
namespace L2
open PySem PySem.Spec PyProof.Rows
section
variable {X : Cx}
end
section
variable {X : Cx}
def intsV (lo hi : Int) : List V := (List.range (hi - lo).toNat).map fun (i : Nat) => V.int (lo + i)
def mList (K : PySem.W.Frag) : List V → Hp → VK → Prop := fun xs H Q => match xs with
  | [.ref p] => (∃ ys, (SqL K H p ys ∨ SqT K H p ys) ∧ ∀ l, H l = none → Q (.ref l) (upd H l (.lst ys))) ∨
      (∃ lo hi, H p = some (.rng lo hi) ∧ (-50000 ≤ lo ∧ lo ≤ 50000 ∧ -50000 ≤ hi ∧ hi ≤ 50000) ∧ ∀ l, H l = none → Q (.ref l) (upd H l (.lst (intsV lo hi))))
  | _ => False
theorem vals_rng {lo : Int} : ∀ {n : Nat} {us : List Value}, us.length = n → (∀ (j : Nat) (v : Value), us[j]? = some v → ∃ t, v = Value.int (lo + j) t) → Vals ((List.range n).map fun (i : Nat) => V.int (lo + i)) us
  | n, us, hl, h => by
    refine paired_of (by rw [List.length_map, List.length_range, hl]) fun j x u hx hu => ?_
    rw [List.getElem?_map] at hx
    cases e : (List.range n)[j]? with
    | none => rw [e] at hx; cases hx
    | some i =>
      rw [e] at hx; cases hx
      have := List.getElem?_eq_some_iff.mp e
      obtain ⟨hj, ej⟩ := this
      rw [List.getElem_range] at ej
      subst ej
      exact h j u hu
  where paired_of : ∀ {xs : List V} {us : List Value}, xs.length = us.length → (∀ (j : Nat) x u, xs[j]? = some x → us[j]? = some u → RelV x u) → Vals xs us
  | [], [], _, _ => .nil
  | x :: xs, u :: us, hl, h => .cons (h 0 x u rfl rfl) (paired_of (Nat.succ.inj hl) fun j x u a b => h (j + 1) x u a b)
theorem call_listM (hc : X.calm = true) : CallR X (.type "list") (mList X.K) := by
  intro pins s σ H xs us Q I r h
  unfold mList at h
  split at h
  · rename_i p
    rcases h with ⟨ys, hq, q⟩ | ⟨lo, hi, hp, ⟨h1, h2, h3, h4⟩, q⟩
    · exact call_list_of pins s σ H _ us Q I r ⟨p, ys, rfl, hq, q⟩
    · obtain ⟨u, rfl, rx⟩ := vals1 r
      cases rx
      obtain ⟨t, u, v, e⟩ := I.hok p _ hp
      have hn : Builtin.Range.rangeSize lo hi 1 = (((hi - lo).toNat : Nat) : Int) := by rw [rangeSize_one]; split <;> omega
      refine call_list_range (I.ok.hd hc) e (small_one (by omega) (by omega) (by omega) (by omega)) hn (by omega) fun h' tk acc c' kp e' ⟨hs, hi'⟩ => ?_
      refine ⟨.ref s.heap.objs.size, _, I.laid (o := .lst (intsV lo hi)) (t' := tk) kp (Nat.le_refl _) ?_, rfl, q _ (I.hok.fresh (Nat.le_refl _))⟩
      refine ⟨?_, acc.toList, c', vals_rng (by simpa using hs) (fun j v hv => ?_), by simpa using e'⟩
      · unfold intsV; rw [List.length_map, List.length_range]; exact small_n (by omega)
      · obtain ⟨t, ht⟩ := hi' j v (by simpa using hv)
        exact ⟨t, by rw [ht]; simp⟩
  · exact h.elim
end
inductive EqD (K : PySem.W.Frag) (H : Hp) : Nat → V → V → Bool → Prop
  | flat {x y : V} (hx : flatV x = true) (hy : flatV y = true) : EqD K H 0 x y (eqV x y)
  | lst {n : Nat} {p q : Addr} {xs ys : List V} (e : Nat → Bool) (hp : SqL K H p xs) (hq : SqL K H q ys) (hl : xs.length = ys.length) (h : ∀ (i : Nat) x y, xs[i]? = some x → ys[i]? = some y → EqD K H n x y (e i)) : EqD K H (n + 1) (.ref p) (.ref q) ((List.range xs.length).all e)
  | lstN {n : Nat} {p q : Addr} {xs ys : List V} (hp : SqL K H p xs) (hq : SqL K H q ys) (hl : xs.length ≠ ys.length) : EqD K H n (.ref p) (.ref q) false
  | tup {n : Nat} {p q : Addr} {xs ys : List V} (e : Nat → Bool) (hp : SqT K H p xs) (hq : SqT K H q ys) (h : ∀ (i : Nat) x y, xs[i]? = some x → ys[i]? = some y → EqD K H n x y (e i)) : EqD K H (n + 1) (.ref p) (.ref q) ((List.range (min xs.length ys.length)).all e && xs.length == ys.length)
  | lt {n : Nat} {p q : Addr} {xs ys : List V} (hp : SqL K H p xs) (hq : SqT K H q ys) : EqD K H n (.ref p) (.ref q) false
  | tl {n : Nat} {p q : Addr} {xs ys : List V} (hp : SqT K H p xs) (hq : SqL K H q ys) : EqD K H n (.ref p) (.ref q) false
  | lf {n : Nat} {p : Addr} {xs : List V} {y : V} (hp : SqL K H p xs) (hy : flatV y = true) : EqD K H n (.ref p) y false
  | fl {n : Nat} {p : Addr} {xs : List V} {y : V} (hp : SqL K H p xs) (hy : flatV y = true) : EqD K H n y (.ref p) false
  | tf {n : Nat} {p : Addr} {xs : List V} {y : V} (hp : SqT K H p xs) (hy : flatV y = true) : EqD K H n (.ref p) y false
  | ft {n : Nat} {p : Addr} {xs : List V} {y : V} (hp : SqT K H p xs) (hy : flatV y = true) : EqD K H n y (.ref p) false
  | up {n : Nat} {x y : V} {b : Bool} (h : EqD K H n x y b) : EqD K H (n + 1) x y b
section
variable {X : Cx} {pins : List (Addr × Obj)} {σ : St} {H : Hp} {s : Shared}
theorem vals_at {xs : List V} {us : List Value} (r : Vals xs us) {i : Nat} (h : i < us.toArray.size) : ∃ x, xs[i]? = some x ∧ RelV x us.toArray[i] := by
  have hi : i < us.length := by simpa using h
  have hl := r.length
  obtain ⟨u, hu, ru⟩ := r.get (List.getElem?_eq_getElem (show i < xs.length by omega))
  refine ⟨_, List.getElem?_eq_getElem (by omega), ?_⟩
  rw [List.getElem?_eq_getElem hi] at hu
  cases hu
  simpa using ru
theorem eqd_same (I : Inv X pins σ H s) {n : Nat} {x y : V} {b : Bool} (h : EqD X.K H n x y b) : x = y → b = true := by
  induction h with
  | flat hx hy =>
    rename_i x y
    rintro rfl
    cases x <;> first | (cases hx; done) | (simp [eqV]; done) | rfl
  | lst e hp hq hl h ih =>
    rename_i n p q xs ys
    intro e0
    cases e0
    have exy := I.list_inj hp hq
    subst exy
    rw [List.all_eq_true]
    intro i hi
    have hi := List.mem_range.mp hi
    exact ih i _ _ (List.getElem?_eq_getElem hi) (List.getElem?_eq_getElem hi) rfl
  | lstN hp hq hl =>
    intro e0
    cases e0
    exact absurd (by rw [I.list_inj hp hq]) hl
  | tup e hp hq h ih =>
    rename_i n p q xs ys
    intro e0
    cases e0
    have exy := I.tuple_inj hp hq
    subst exy
    rw [Bool.and_eq_true, List.all_eq_true]
    refine ⟨?_, by simp⟩
    intro i hi
    have hi := List.mem_range.mp hi
    have hi : i < xs.length := by omega
    exact ih i _ _ (List.getElem?_eq_getElem hi) (List.getElem?_eq_getElem hi) rfl
  | lt hp hq =>
    intro e0
    cases e0
    obtain ⟨its, r1, p1, z1⟩ := I.list hp
    obtain ⟨its2, r2, p2, z2⟩ := I.tuple hq
    exact absurd rfl (SeqAt.ne_of_list_tuple p1.isList p2)
  | tl hp hq =>
    intro e0
    cases e0
    obtain ⟨its, r1, p1, z1⟩ := I.tuple hp
    obtain ⟨its2, r2, p2, z2⟩ := I.list hq
    exact absurd rfl (SeqAt.ne_of_list_tuple p2.isList p1)
  | lf hp hy => rintro rfl; cases hy
  | fl hp hy => rintro rfl; cases hy
  | tf hp hy => rintro rfl; cases hy
  | ft hp hy => rintro rfl; cases hy
  | up h ih => exact ih
theorem eqd_rc (I : Inv X pins σ H s) {n : Nat} {x y : V} {b : Bool} (h : EqD X.K H n x y b) : ∀ (A : Around) (v u : Value), A.units + n < cLine → RelV x v → RelV y u →
    SeqAt.EqAt A s v u b ∧ (∀ p q, x = .ref p → y = .ref q → SeqAt.RcAt A s v u b) := by
  induction h with
  | flat hx hy =>
    intro A v u _ rx ry
    refine ⟨eqAt_V rx ry hx hy, fun p q e _ => ?_⟩
    subst e; cases hx
  | lst e hp hq hl h ih =>
    rename_i n p q xs ys
    intro A v u hu rx ry
    cases rx; cases ry
    obtain ⟨its, r1, p1, z1⟩ := I.list hp
    obtain ⟨its2, r2, p2, z2⟩ := I.list hq
    have l1 := r1.length
    have l2 := r2.length
    have rc : SeqAt.RcAt A s (.ref p) (.ref q) ((List.range xs.length).all e) := by
      have := SeqAt.RcAt.lists (A := A) (e := e) p1.isList p2.isList (by simp only [List.size_toArray]; omega) (by omega) (fun j h1 h2 => by
        obtain ⟨x, ex, rx⟩ := vals_at r1 h1
        obtain ⟨y, ey, ry⟩ := vals_at r2 h2
        exact (ih j x y ex ey A.in1 _ _ (by show A.units + 1 + n < _; omega) rx ry).1)
      rw [List.size_toArray, ← l1] at this
      exact this
    refine ⟨?_, fun _ _ _ _ => rc⟩
    by_cases hpq : p = q
    · subst hpq
      have exy := I.list_inj hp hq
      subst exy
      have : (List.range xs.length).all e = true := by
        rw [List.all_eq_true]
        intro i hi
        have hi := List.mem_range.mp hi
        exact eqd_same I (h i _ _ (List.getElem?_eq_getElem hi) (List.getElem?_eq_getElem hi)) rfl
      rw [this]
      exact SeqAt.EqAt.same _
    · exact .of_refs hpq rc
  | lstN hp hq hl =>
    rename_i n p q xs ys
    intro A v u hu rx ry
    cases rx; cases ry
    obtain ⟨its, r1, p1, z1⟩ := I.list hp
    obtain ⟨its2, r2, p2, z2⟩ := I.list hq
    have l1 := r1.length
    have l2 := r2.length
    have rc : SeqAt.RcAt A s (.ref p) (.ref q) false := SeqAt.RcAt.lists_lengths p1.isList p2.isList (by simp only [List.size_toArray, bne_iff_ne, ne_eq]; omega) (by omega)
    refine ⟨.of_refs (fun e => ?_) rc, fun _ _ _ _ => rc⟩
    subst e
    exact hl (by rw [I.list_inj hp hq])
  | tup e hp hq h ih =>
    rename_i n p q xs ys
    intro A v u hu rx ry
    cases rx; cases ry
    obtain ⟨its, r1, p1, z1⟩ := I.tuple hp
    obtain ⟨its2, r2, p2, z2⟩ := I.tuple hq
    have l1 := r1.length
    have l2 := r2.length
    have rc : SeqAt.RcAt A s (.ref p) (.ref q) ((List.range (min xs.length ys.length)).all e && xs.length == ys.length) := by
      have := SeqAt.RcAt.tuples (A := A) (e := e) (show s.heap.IsTuple p its.toArray from p1) (show s.heap.IsTuple q its2.toArray from p2) (by omega) (fun j h1 h2 => by
        obtain ⟨x, ex, rx⟩ := vals_at r1 h1
        obtain ⟨y, ey, ry⟩ := vals_at r2 h2
        exact (ih j x y ex ey A.in1 _ _ (by show A.units + 1 + n < _; omega) rx ry).1)
      rw [List.size_toArray, List.size_toArray, ← l1, ← l2] at this
      exact this
    refine ⟨?_, fun _ _ _ _ => rc⟩
    by_cases hpq : p = q
    · subst hpq
      have exy := I.tuple_inj hp hq
      subst exy
      have : ((List.range (min xs.length xs.length)).all e && xs.length == xs.length) = true := by
        rw [Bool.and_eq_true, List.all_eq_true]
        refine ⟨?_, by simp⟩
        intro i hi
        have hi := List.mem_range.mp hi
        have hi : i < xs.length := by omega
        exact eqd_same I (h i _ _ (List.getElem?_eq_getElem hi) (List.getElem?_eq_getElem hi)) rfl
      rw [this]
      exact SeqAt.EqAt.same _
    · exact .of_refs hpq rc
  | lt hp hq =>
    intro A v u hu rx ry
    cases rx; cases ry
    obtain ⟨its, r1, p1, z1⟩ := I.list hp
    obtain ⟨its2, r2, p2, z2⟩ := I.tuple hq
    exact ⟨.list_tuple p1.isList p2 (by omega), fun _ _ _ _ => .list_tuple p1.isList p2 (by omega)⟩
  | tl hp hq =>
    intro A v u hu rx ry
    cases rx; cases ry
    obtain ⟨its, r1, p1, z1⟩ := I.tuple hp
    obtain ⟨its2, r2, p2, z2⟩ := I.list hq
    exact ⟨.tuple_list p1 p2.isList (by omega), fun _ _ _ _ => .tuple_list p1 p2.isList (by omega)⟩
  | lf hp hy =>
    rename_i n p xs y
    intro A v u hu rx ry
    cases rx
    obtain ⟨its, r1, p1, z1⟩ := I.list hp
    refine ⟨?_, fun _ _ _ e => by subst e; cases hy⟩
    cases y with
    | non => cases ry; exact .list_none p1.isList (by omega)
    | bl b => cases ry; exact .list_bool b p1.isList (by omega)
    | int b => obtain ⟨t, rfl⟩ := ry; exact .list_int b t p1.isList (by omega)
    | str b => obtain ⟨t, rfl⟩ := ry; exact .list_str b t p1.isList (by omega)
    | _ => cases hy
  | fl hp hy =>
    rename_i n p xs y
    intro A v u hu rx ry
    cases ry
    obtain ⟨its, r1, p1, z1⟩ := I.list hp
    refine ⟨?_, fun _ _ e _ => by subst e; cases hy⟩
    cases y with
    | non => cases rx; exact .none_list p1.isList (by omega)
    | bl b => cases rx; exact .bool_list b p1.isList (by omega)
    | int b => obtain ⟨t, rfl⟩ := rx; exact .int_list b t p1.isList (by omega)
    | str b => obtain ⟨t, rfl⟩ := rx; exact .str_list b t p1.isList (by omega)
    | _ => cases hy
  | tf hp hy =>
    rename_i n p xs y
    intro A v u hu rx ry
    cases rx
    obtain ⟨its, r1, p1, z1⟩ := I.tuple hp
    refine ⟨?_, fun _ _ _ e => by subst e; cases hy⟩
    cases y with
    | non => cases ry; exact .tuple_none p1 (by omega)
    | bl b => cases ry; exact .tuple_bool b p1 (by omega)
    | int b => obtain ⟨t, rfl⟩ := ry; exact .tuple_int b t p1 (by omega)
    | str b => obtain ⟨t, rfl⟩ := ry; exact .tuple_str b t p1 (by omega)
    | _ => cases hy
  | ft hp hy =>
    rename_i n p xs y
    intro A v u hu rx ry
    cases ry
    obtain ⟨its, r1, p1, z1⟩ := I.tuple hp
    refine ⟨?_, fun _ _ e _ => by subst e; cases hy⟩
    cases y with
    | non => cases rx; exact .none_tuple p1 (by omega)
    | bl b => cases rx; exact .bool_tuple b p1 (by omega)
    | int b => obtain ⟨t, rfl⟩ := rx; exact .int_tuple b t p1 (by omega)
    | str b => obtain ⟨t, rfl⟩ := rx; exact .str_tuple b t p1 (by omega)
    | _ => cases hy
  | up h ih =>
    intro A v u hu rx ry
    exact ih A v u (by omega) rx ry
end
section
variable {X : Cx}
def mEqK (K : PySem.W.Frag) : R2 := fun x y H Q => match x, y with
  | .ref p, .ref q => ∃ n b, n ≤ 50 ∧ EqD K H n (.ref p) (.ref q) b ∧ Q (.bl b) H
  | _, _ => mEq x y H Q
def mNeK (K : PySem.W.Frag) : R2 := fun x y H Q => match x, y with
  | .ref p, .ref q => ∃ n b, n ≤ 50 ∧ EqD K H n (.ref p) (.ref q) b ∧ Q (.bl (!b)) H
  | _, _ => mNe x y H Q
theorem op_eqK (hu : X.A.units + 60 < cLine) : OpR X (compareOp .Eq) (mEqK X.K) := by
  intro pins s σ H x y v u Q I rx ry h
  unfold mEqK at h
  split at h
  · rename_i p q
    obtain ⟨n, b, hn, h, q⟩ := h
    have := (eqd_rc I h X.A v u (by omega) rx ry).2 _ _ rfl rfl
    exact this X.prog X.w X.xe _ ⟨.bl b, H, I, rfl, q⟩
  · exact op_eqM pins s σ H x y v u Q I rx ry h
end
section
variable {X : Cx} {pins : List (Addr × Obj)} {σ : St} {H : Hp} {s : Shared}
theorem eqd_ne (I : Inv X pins σ H s) {n : Nat} {x y : V} {b : Bool} (h : EqD X.K H n x y b) : ∀ (A : Around) (v u : Value), A.units + n < cLine → RelV x v → RelV y u → ∀ p q, x = .ref p → y = .ref q → SeqAt.RcNeAt A s v u (!b) := by
  induction h with
  | flat hx hy => intro A v u _ rx ry p q e _; subst e; cases hx
  | lst e hp hq hl h ih =>
    rename_i n p q xs ys
    intro A v u hu rx ry _ _ _ _
    cases rx; cases ry
    obtain ⟨its, r1, p1, z1⟩ := I.list hp
    obtain ⟨its2, r2, p2, z2⟩ := I.list hq
    have l1 := r1.length
    have l2 := r2.length
    have := SeqAt.RcNeAt.lists (A := A) (e := e) p1.isList p2.isList (by simp only [List.size_toArray]; omega) (by omega) (fun j h1 h2 => by
      obtain ⟨x, ex, rx⟩ := vals_at r1 h1
      obtain ⟨y, ey, ry⟩ := vals_at r2 h2
      exact (eqd_rc I (h j x y ex ey) A.in1 _ _ (by show A.units + 1 + n < _; omega) rx ry).1)
    rw [List.size_toArray, ← l1] at this
    exact this
  | lstN hp hq hl =>
    intro A v u hu rx ry _ _ _ _
    cases rx; cases ry
    obtain ⟨its, r1, p1, z1⟩ := I.list hp
    obtain ⟨its2, r2, p2, z2⟩ := I.list hq
    have l1 := r1.length
    have l2 := r2.length
    exact SeqAt.RcNeAt.lists_lengths p1.isList p2.isList (by simp only [List.size_toArray, bne_iff_ne, ne_eq]; omega) (by omega)
  | tup e hp hq h ih =>
    rename_i n p q xs ys
    intro A v u hu rx ry _ _ _ _
    cases rx; cases ry
    obtain ⟨its, r1, p1, z1⟩ := I.tuple hp
    obtain ⟨its2, r2, p2, z2⟩ := I.tuple hq
    have l1 := r1.length
    have l2 := r2.length
    have := SeqAt.RcNeAt.tuples (A := A) (e := e) (show s.heap.IsTuple p its.toArray from p1) (show s.heap.IsTuple q its2.toArray from p2) (by omega) (fun j h1 h2 => by
      obtain ⟨x, ex, rx⟩ := vals_at r1 h1
      obtain ⟨y, ey, ry⟩ := vals_at r2 h2
      exact (eqd_rc I (h j x y ex ey) A.in1 _ _ (by show A.units + 1 + n < _; omega) rx ry).1)
    rw [List.size_toArray, List.size_toArray, ← l1, ← l2] at this
    exact this
  | lt hp hq =>
    intro A v u hu rx ry _ _ _ _
    cases rx; cases ry
    obtain ⟨its, r1, p1, z1⟩ := I.list hp
    obtain ⟨its2, r2, p2, z2⟩ := I.tuple hq
    exact .list_tuple p1.isList p2 (by omega)
  | tl hp hq =>
    intro A v u hu rx ry _ _ _ _
    cases rx; cases ry
    obtain ⟨its, r1, p1, z1⟩ := I.tuple hp
    obtain ⟨its2, r2, p2, z2⟩ := I.list hq
    exact .tuple_list p1 p2.isList (by omega)
  | lf hp hy => intro A v u hu rx ry _ _ _ e; subst e; cases hy
  | fl hp hy => intro A v u hu rx ry _ _ e _; subst e; cases hy
  | tf hp hy => intro A v u hu rx ry _ _ _ e; subst e; cases hy
  | ft hp hy => intro A v u hu rx ry _ _ e _; subst e; cases hy
  | up h ih => intro A v u hu rx ry; exact ih A v u (by omega) rx ry
theorem op_neK (hu : X.A.units + 60 < cLine) : OpR X (compareOp .NotEq) (mNeK X.K) := by
  intro pins s σ H x y v u Q I rx ry h
  unfold mNeK at h
  split at h
  · rename_i p q
    obtain ⟨n, b, hn, h, q⟩ := h
    have := eqd_ne I h X.A v u (by omega) rx ry _ _ rfl rfl
    exact this X.prog X.w X.xe _ ⟨.bl (!b), H, I, rfl, q⟩
  · exact op_neM pins s σ H x y v u Q I rx ry h
end
theorem Room.u60 {k : Nat} {A : Around} (r : Room k A) : A.units + 60 < cLine := by have := r.units; omega
theorem RoomN.u60 {k : Nat} {A : Around} (r : RoomN k A) : A.units + 60 < cLine := by have := r.un; omega
end L2
namespace LX
open PySem Builtin Builtin.Str
section
variable {prog : Program} {w : World} {A : Around} {E : Value → Shared → Prop} {s : Shared} {x : Str} {t : Tok} {Q : Value → Shared → Prop}
end
end LX
namespace L2
open PySem PySem.Spec PyProof.Rows
section
variable {X : Cx}
end
section
variable {X : Cx} {a b c d : Expr} {ta tb tc td : TE} {pos : Pos}
end
end L2
namespace L2
open PySem PySem.Spec PyProof.Rows
section
variable {κ : Type} [DecidableEq κ]
def valV (kvs : List (κ × V)) (k : κ) : Option V := (kvs.find? fun kv => decide (kv.1 = k)).map (·.2)
def putK (kvs : List (κ × V)) (k : κ) (v : V) : List (κ × V) :=
  if (kvs.any fun kv => decide (kv.1 = k)) = true then kvs.map (fun kv => if kv.1 = k then (kv.1, v) else kv) else kvs ++ [(k, v)]
def dropK (kvs : List (κ × V)) (k : κ) : List (κ × V) := kvs.filter fun kv => decide (kv.1 ≠ k)
theorem valV_pos {p : κ × V} {r : List (κ × V)} {k : κ} (e : p.1 = k) : valV (p :: r) k = some p.2 := by simp [valV, List.find?_cons, e]
theorem valV_neg {p : κ × V} {r : List (κ × V)} {k : κ} (e : ¬ p.1 = k) : valV (p :: r) k = valV r k := by simp [valV, List.find?_cons, e]
theorem valV_any (k : κ) : ∀ kvs : List (κ × V), (kvs.any fun kv => decide (kv.1 = k)) = (valV kvs k).isSome
  | [] => rfl
  | p :: r => by
    rw [List.any_cons]
    by_cases e : p.1 = k
    · simp only [valV_pos e, decide_eq_true e, Bool.true_or, Option.isSome_some]
    · rw [valV_neg e, decide_eq_false e, Bool.false_or]; exact valV_any k r
theorem length_putK (kvs : List (κ × V)) (k : κ) (v : V) : (putK kvs k v).length ≤ kvs.length + 1 := by
  unfold putK
  split
  · rw [List.length_map]; omega
  · rw [List.length_append, List.length_cons, List.length_nil]; omega
theorem RelO.isSome_eq {o : Option V} {u : Option Value} (r : RelO o u) : o.isSome = u.isSome := by
  cases o with
  | none => cases u with
    | none => rfl
    | some _ => exact (show False from r).elim
  | some _ => cases u with
    | none => exact (show False from r).elim
    | some _ => rfl
theorem RelO.getD {o : Option V} {u : Option Value} {d : V} {d' : Value} (r : RelO o u) (rd : RelV d d') : RelV (o.getD d) (u.getD d') := by
  cases o with
  | none => cases u with
    | none => exact rd
    | some _ => exact (show False from r).elim
  | some _ => cases u with
    | none => exact (show False from r).elim
    | some _ => exact r
theorem KV.val {kvs : List (κ × V)} {vs : List (κ × Value)} (r : KV kvs vs) (k : κ) : RelO (valV kvs k) (valueAt vs k) := by
  unfold KV at r
  induction r with
  | nil => exact True.intro
  | @cons p q ps qs h t ih =>
    obtain ⟨h1, h2⟩ := h
    by_cases e : p.1 = k
    · have e' : q.1 = k := h1.symm.trans e
      have b : valueAt (q :: qs) k = some q.2 := by simp [valueAt, List.find?_cons, e']
      rw [valV_pos e, b]; exact h2
    · have e' : ¬ q.1 = k := fun z => e (h1.trans z)
      have b : valueAt (q :: qs) k = valueAt qs k := by simp [valueAt, List.find?_cons, e']
      rw [valV_neg e, b]; exact ih
theorem KV.any {kvs : List (κ × V)} {vs : List (κ × Value)} (r : KV kvs vs) (k : κ) : (kvs.any fun kv => decide (kv.1 = k)) = vs.any fun kv => decide (kv.1 = k) := by
  unfold KV at r
  induction r with
  | nil => rfl
  | cons h t ih => rw [List.any_cons, List.any_cons, ih, h.1]
theorem KV.repl {kvs : List (κ × V)} {vs : List (κ × Value)} (r : KV kvs vs) (k : κ) {y : V} {u : Value} (ry : RelV y u) :
    KV (kvs.map fun kv => if kv.1 = k then (kv.1, y) else kv) (vs.map fun kv => if kv.1 = k then (kv.1, u) else kv) := by
  unfold KV at r ⊢
  induction r with
  | nil => exact .nil
  | @cons p q ps qs h t ih =>
    rw [List.map_cons, List.map_cons]
    refine .cons ?_ ih
    obtain ⟨h1, h2⟩ := h
    by_cases e : p.1 = k
    · rw [if_pos e, if_pos (h1.symm.trans e)]; exact ⟨h1, ry⟩
    · rw [if_neg e, if_neg (fun z => e (h1.trans z))]; exact ⟨h1, h2⟩
theorem KV.put {kvs : List (κ × V)} {vs : List (κ × Value)} (r : KV kvs vs) (k : κ) {y : V} {u : Value} (ry : RelV y u) : KV (putK kvs k y) (stored vs k u) := by
  unfold putK stored
  rw [r.any k]
  by_cases e : (vs.any fun kv => decide (kv.1 = k)) = true
  · rw [if_pos e, if_pos e]; exact r.repl k ry
  · rw [if_neg e, if_neg e]; exact Paired.snoc r ⟨rfl, ry⟩
theorem KV.drop {kvs : List (κ × V)} {vs : List (κ × Value)} (r : KV kvs vs) (k : κ) : KV (dropK kvs k) (without vs k) := by
  unfold KV at r ⊢
  unfold dropK without
  induction r with
  | nil => exact .nil
  | @cons p q ps qs h t ih =>
    obtain ⟨h1, h2⟩ := h
    rw [List.filter_cons, List.filter_cons]
    by_cases e : p.1 = k
    · have a : ¬ decide (p.1 ≠ k) = true := by simp [e]
      have b : ¬ decide (q.1 ≠ k) = true := by simp [h1.symm.trans e]
      rw [if_neg a, if_neg b]; exact ih
    · have e' : ¬ q.1 = k := fun z => e (h1.trans z)
      have a : decide (p.1 ≠ k) = true := by simp [e]
      have b : decide (q.1 ≠ k) = true := by simp [e']
      rw [if_pos a, if_pos b]; exact .cons ⟨h1, h2⟩ ih
theorem KV.length {kvs : List (κ × V)} {vs : List (κ × Value)} (r : KV kvs vs) : kvs.length = vs.length := Paired.length r
end
theorem kV_is {P : Program} {w : World} {k : Key} {u : Value} (r : RelV (kV k) u) : (mixKind P w).is k u = true := by
  cases k with
  | inl i => obtain ⟨t, e⟩ := (show ∃ t, u = Value.int i t from r); subst e; exact mixKind_int P w i t
  | inr x => obtain ⟨t, e⟩ := (show ∃ t, u = Value.str x t from r); subst e; exact mixKind_str P w x t
theorem items_are {P : Program} {w : World} : ∀ {ks : List Key} {us : List Value}, Vals (ks.map kV) us → ItemsAre (mixKind P w) ks us
  | [], _, r => by rw [List.map_nil] at r; cases r; exact .nil
  | k :: ks, _, r => by
    rw [List.map_cons] at r
    cases r with
    | cons h t => exact .cons (kV_is h) (items_are t)
abbrev KT (H : Hp) : List (List Key × V) → List (List Key × Addr × Value) → Prop := Paired fun p q => p.1 = q.1 ∧ H q.2.1 = some (.tup (p.1.map kV)) ∧ RelV p.2 q.2.2
theorem KT.val {H : Hp} {kvs : List (List Key × V)} {xs : List (List Key × Addr × Value)} (r : KT H kvs xs) (k : List Key) : RelO (valV kvs k) ((atKey xs k).map (·.2)) := by
  induction r with
  | nil => exact True.intro
  | @cons p q ps qs h t ih =>
    obtain ⟨h1, _, h2⟩ := h
    by_cases e : p.1 = k
    · have e' : q.1 = k := h1.symm.trans e
      have b : atKey (q :: qs) k = some q.2 := by simp [atKey, List.find?_cons, e']
      rw [valV_pos e, b]; exact h2
    · have e' : ¬ q.1 = k := fun z => e (h1.trans z)
      have b : atKey (q :: qs) k = atKey qs k := by simp [atKey, List.find?_cons, e']
      rw [valV_neg e, b]; exact ih
theorem KT.repl {H : Hp} {kvs : List (List Key × V)} {xs : List (List Key × Addr × Value)} (r : KT H kvs xs) (k : List Key) {y : V} {u : Value} (ry : RelV y u) :
    KT H (kvs.map fun kv => if kv.1 = k then (kv.1, y) else kv) (xs.map (putAt k u)) := by
  induction r with
  | nil => exact .nil
  | @cons p q ps qs h t ih =>
    rw [List.map_cons, List.map_cons]
    refine .cons ?_ ih
    obtain ⟨h1, h2, h3⟩ := h
    unfold putAt
    by_cases e : p.1 = k
    · rw [if_pos e, if_pos (h1.symm.trans e)]; exact ⟨h1, h2, ry⟩
    · rw [if_neg e, if_neg (fun z => e (h1.trans z))]; exact ⟨h1, h2, h3⟩
theorem KT.put {H : Hp} {kvs : List (List Key × V)} {xs : List (List Key × Addr × Value)} (r : KT H kvs xs) (k : List Key) {b : Addr} {y : V} {u : Value} (hb : H b = some (.tup (k.map kV))) (ry : RelV y u) :
    KT H (putK kvs k y) (storedH xs k b u) := by
  have e : (kvs.any fun kv => decide (kv.1 = k)) = (atKey xs k).isSome := by
    rw [valV_any, (r.val k).isSome_eq, Option.isSome_map]
  unfold putK storedH
  rw [e]
  by_cases q : (atKey xs k).isSome = true
  · rw [if_pos q, if_pos q]; exact r.repl k ry
  · rw [if_neg q, if_neg q]; exact Paired.snoc r ⟨rfl, hb, ry⟩
theorem KT.keeps {H H' : Hp} {kvs : List (List Key × V)} {xs : List (List Key × Addr × Value)} (r : KT H kvs xs) (ht : ∀ b ys, H b = some (.tup ys) → H' b = some (.tup ys)) : KT H' kvs xs :=
  Paired.mapP r fun _ _ z => ⟨z.1, ht _ _ z.2.1, z.2.2⟩
section
variable {P : Program} {w : World} {H : Hp} {h : Heap} {a : Addr}
theorem rd_of {u : HO} (ok : HOk P w H h) (e : Rd H a u) : ObjOk P w H h a u := e.ok ok
theorem dk_rd {kvs : List (Key × V)} (ok : HOk P w H h) (e : Rd H a (.dK kvs)) : kvs.length ≤ sizeLine ∧ (a == sysModules) = false ∧ ∃ vs, KV kvs vs ∧ h.DictOf (mixKind P w) a vs :=
  show ObjOk P w H h a (.dK kvs) from rd_of ok e
theorem dk_of {kvs : List (Key × V)} (ok : HOk P w H h) (e : H a = some (.dK kvs)) : kvs.length ≤ sizeLine ∧ (a == sysModules) = false ∧ ∃ vs, KV kvs vs ∧ h.DictOf (mixKind P w) a vs := dk_rd ok (.inl e)
theorem key_of {ks : List Key} (ok : HOk P w H h) (e : H a = some (.tup (ks.map kV))) : (tupleKind (mixKind P w)).is h ks a := by
  obtain ⟨_, its, r, o, h1, h2, n, h3⟩ := (show ObjOk P w H h a (.tup (ks.map kV)) from ok a _ e)
  exact ⟨o, its.toArray, n, h1, h2, h3, by simpa using items_are r⟩
theorem dt_rd {kvs : List (List Key × V)} (ok : HOk P w H h) (e : Rd H a (.dT kvs)) : kvs.length ≤ sizeLine ∧ (a == sysModules) = false ∧
    ∃ xs, KT H kvs xs ∧ h.DictOfH (tupleKind (mixKind P w)) a xs := by
  obtain ⟨z, y, xs, r, o, es, ep, h1, h2, h3, h4, h5⟩ := (show ObjOk P w H h a (.dT kvs) from rd_of ok e)
  refine ⟨z, y, xs, r, o, es, ep, h1, h2, h3, h4, fun x hx => ?_, h5⟩
  have all : ∀ {l : List (List Key × V)} {m : List (List Key × Addr × Value)}, KT H l m → ∀ x ∈ m, (tupleKind (mixKind P w)).is h x.1 x.2.1 := by
    intro l m q
    induction q with
    | nil => intro x hx; exact nomatch hx
    | @cons p q ps qs hq t ih =>
      intro x hx
      rcases List.mem_cons.mp hx with e | hx
      · subst e
        exact key_of ok (by rw [← hq.1]; exact hq.2.1)
      · exact ih x hx
  exact all r x hx
theorem dt_of {kvs : List (List Key × V)} (ok : HOk P w H h) (e : H a = some (.dT kvs)) : kvs.length ≤ sizeLine ∧ (a == sysModules) = false ∧
    ∃ xs, KT H kvs xs ∧ h.DictOfH (tupleKind (mixKind P w)) a xs := dt_rd ok (.inl e)
end
def DGet (H : Hp) (a : Addr) (y : V) (r : Option V) : Prop :=
  (∃ kvs k, Rd H a (.dK kvs) ∧ y = kV k ∧ r = valV kvs k) ∨ ∃ kvs k b, Rd H a (.dT kvs) ∧ y = .ref b ∧ H b = some (.tup (k.map kV)) ∧ r = valV kvs k
def DPut (H : Hp) (a : Addr) (y v : V) (H' : Hp) : Prop :=
  (∃ kvs k, H a = some (.dK kvs) ∧ y = kV k ∧ kvs.length < sizeLine ∧ H' = upd H a (.dK (putK kvs k v))) ∨
  ∃ kvs k b, H a = some (.dT kvs) ∧ y = .ref b ∧ H b = some (.tup (k.map kV)) ∧ kvs.length < sizeLine ∧ H' = upd H a (.dT (putK kvs k v))
theorem DGet.k {H : Hp} {a : Addr} {kvs : List (Key × V)} {k : Key} (e : H a = some (.dK kvs)) : DGet H a (kV k) (valV kvs k) := .inl ⟨kvs, k, .inl e, rfl, rfl⟩
theorem DGet.t {H : Hp} {a b : Addr} {kvs : List (List Key × V)} {k : List Key} (e : H a = some (.dT kvs)) (eb : H b = some (.tup (k.map kV))) : DGet H a (.ref b) (valV kvs k) := .inr ⟨kvs, k, b, .inl e, rfl, eb, rfl⟩
theorem DPut.k {H : Hp} {a : Addr} {kvs : List (Key × V)} {k : Key} {v : V} (e : H a = some (.dK kvs)) (hl : kvs.length < sizeLine) : DPut H a (kV k) v (upd H a (.dK (putK kvs k v))) := .inl ⟨kvs, k, e, rfl, hl, rfl⟩
theorem DPut.t {H : Hp} {a b : Addr} {kvs : List (List Key × V)} {k : List Key} {v : V} (e : H a = some (.dT kvs)) (eb : H b = some (.tup (k.map kV))) (hl : kvs.length < sizeLine) :
    DPut H a (.ref b) v (upd H a (.dT (putK kvs k v))) := .inr ⟨kvs, k, b, e, rfl, eb, hl, rfl⟩
section
variable {X : Cx} {pins : List (Addr × Obj)} {σ : St} {H : Hp} {s : Shared} {a : Addr} {y v : V} {u r : Value} {o : Option V} {A : Around} {E : Value → Shared → Prop}
theorem Inv.big (I : Inv X pins σ H s) : sysModules < s.heap.objs.size := by
  have h : mainGlobals < s.heap.objs.size := (I.mod.glob.keeps I.bk).lt
  exact Nat.lt_trans (by decide) h
theorem d_getItem {Q : Value → Shared → Prop} (hu : A.units + 1 < cLine) (I : Inv X pins σ H s) (g : DGet H a y (some v)) (ry : RelV y u) (h : ∀ w' s', Inv X pins σ H s' → RelV v w' → Q w' s') :
    wpAny (model X.prog X.w) A (getItem (.ref a) u) Q E s := by
  rcases g with ⟨kvs, k, e, ey, l⟩ | ⟨kvs, k, b, e, ey, eb, l⟩
  · subst ey
    obtain ⟨z, hd, vs, rel, dd⟩ := dk_rd I.hok e
    obtain ⟨w', hw, rw'⟩ := RelO.some_of (v := v) (o := valueAt vs k) (by rw [l]; exact rel.val k)
    exact wpAny_getItem_of (kV_is ry) dd.mapOf hw (h w' _ (I.tok _) rw')
  · subst ey
    cases (show u = Value.ref b from ry)
    obtain ⟨z, hd, xs, rel, dd⟩ := dt_rd I.hok e
    obtain ⟨w', hw, rw'⟩ := RelO.some_of (v := v) (o := (atKey xs k).map (·.2)) (by rw [l]; exact rel.val k)
    obtain ⟨p, hp, hp2⟩ := Option.map_eq_some_iff.mp hw
    refine wpAny_getItem_heap (tupleKind_room_in1 hu) (key_of I.hok eb) dd hp ?_
    rw [hp2]
    exact h w' _ (I.tok _) rw'
theorem d_notIn {Q : Value → Shared → Prop} (hu : A.units + 1 < cLine) (I : Inv X pins σ H s) (g : DGet H a y o) (ry : RelV y u) (h : ∀ s', Inv X pins σ H s' → Q (.bool (!o.isSome)) s') :
    wpAny (model X.prog X.w) A (compareOp .NotIn u (.ref a)) Q E s := by
  rcases g with ⟨kvs, k, e, ey, l⟩ | ⟨kvs, k, b, e, ey, eb, l⟩
  · subst ey
    obtain ⟨z, hd, vs, rel, dd⟩ := dk_rd I.hok e
    refine wpAny_notIn_of (kV_is ry) hd dd.mapOf ?_
    rw [← (rel.val k).isSome_eq, ← l]
    exact h _ (I.tok _)
  · subst ey
    cases (show u = Value.ref b from ry)
    obtain ⟨z, hd, xs, rel, dd⟩ := dt_rd I.hok e
    refine wpAny_notIn_heap (tupleKind_room_in1 hu) (key_of I.hok eb) hd dd ?_
    have q := (rel.val k).isSome_eq
    rw [Option.isSome_map] at q
    rw [← q, ← l]
    exact h _ (I.tok _)
theorem d_write {h' : Heap} {t' : Nat} {ob : HO} (I : Inv X pins σ H s) (mu : Mut (H a)) (hs : Heap.SameBut a s.heap h') (he : ∃ q, h'.get? a = some q) (new : ObjOk X.prog X.w (upd H a ob) h' a ob) :
    Inv X pins σ (upd H a ob) { s with heap := h', toks := t' } :=
  I.write (x := a) (e := a) mu (.inl rfl) (fun b q hb z => (hs.2 b hb).trans z) he new
theorem dk_new {P : Program} {w : World} {H' : Hp} {h' : Heap} {kvs : List (Key × V)} {vs : List (Key × Value)} (z : kvs.length ≤ sizeLine) (hd : (a == sysModules) = false) (rel : KV kvs vs) (dd : h'.DictOf (mixKind P w) a vs) :
    ObjOk P w H' h' a (.dK kvs) := ⟨z, hd, vs, rel, dd⟩
theorem d_setItem {H' : Hp} {Q : Unit → Shared → Prop} (hu : A.units + 1 < cLine) (I : Inv X pins σ H s) (g : DPut H a y v H') (ry : RelV y u) (rv : RelV v r) (h : ∀ s', Inv X pins σ H' s' → Q () s') :
    wpAny (model X.prog X.w) A (setItem (.ref a) u r) Q E s := by
  rcases g with ⟨kvs, k, e, ey, l, eH⟩ | ⟨kvs, k, b, e, ey, eb, l, eH⟩
  · subst ey eH
    obtain ⟨z, hd, vs, rel, dd⟩ := dk_of I.hok e
    have hz : vs.length ≤ sizeLine := by rw [← rel.length]; exact z
    have hl : (putK kvs k v).length ≤ sizeLine := by have := length_putK kvs k v; omega
    refine wpAny_setItem_pairs (hsz := hz) (kV_is ry) dd fun h' dd' hs => h _ ?_
    have he : ∃ q, h'.get? a = some q := let ⟨q, _, _, hq, _⟩ := dd'; ⟨q, hq⟩
    exact d_write I (by rw [e]; exact True.intro) hs he (dk_new hl hd (rel.put k rv) dd')
  · subst ey eH
    cases (show u = Value.ref b from ry)
    obtain ⟨z, hd, xs, rel, dd⟩ := dt_of I.hok e
    have hz : xs.length ≤ sizeLine := by rw [← Paired.length rel]; exact z
    have hl : (putK kvs k v).length ≤ sizeLine := by have := length_putK kvs k v; omega
    refine wpAny_setItem_heap (hsz := hz) (tupleKind_room_in1 hu) (key_of I.hok eb) dd fun h' dd' hs => h _ ?_
    obtain ⟨q, es, ep, hq, h2, h3, h4, _, h5⟩ := dd'
    refine d_write I (by rw [e]; exact True.intro) hs ⟨q, hq⟩ ⟨hl, hd, _, (rel.put k eb rv).keeps fun c ys ec => ?_, q, es, ep, hq, h2, h3, h4, h5⟩
    rw [upd_ne (ne_of ec e (fun z => nomatch z))]
    exact ec
end
section
variable {X : Cx} {pins : List (Addr × Obj)} {σ : St} {H : Hp} {s : Shared} {a : Addr} {kvs : List (Key × V)} {k : Key} {u : Value} {A : Around} {E : Value → Shared → Prop}
end
def NoSl (i : Expr) : Prop := ∀ ov iv, subscripted i false ov iv = operate [ov, iv] (getItem ov iv)
theorem subD_of {prog : Program} {w : World} {A : Around} {E : Value → Shared → Prop} {s : Shared} {env : Env} {value slice : Expr} {pos : Pos} {T id : String} {Q : Value → Shared → Prop}
    (hl : typeLookup (.type T) "__getitem__" = pure (some (.builtin id))) (hs : NoSl slice)
    (h : wpAny (model prog w) A (eval value env) (fun o s₁ => wpAny (model prog w) A (eval slice env) (fun i s₂ => s₂.TypeIs o T ∧ wpAny (model prog w) A (getItem o i) Q E s₂) E s₁) E s) :
    wpAny (model prog w) A (eval (.Subscript value slice pos) env) Q E s := by
  refine Subscript_ (wpAny_mono h (fun o s₁ h₁ => wpAny_mono h₁ (fun i s₂ h₂ => ?_) fun _ _ x => x) fun _ _ x => x)
  obtain ⟨hT, h₂⟩ := h₂
  unfold subscriptTail
  refine wpAny_bind ?_
  rw [getitemInPython_of_ne hT.not_modules]
  refine wpAny_bind (wpAny_specialOf hT hl ?_)
  have fin : wpAny (model prog w) A (subscripted slice false o i) (fun r s₃ => wpAny (model prog w) A (letTemporaryGo value o r >>= fun _ => pure r) Q E s₃) E s₂ := by
    rw [hs o i]
    exact wpAny_operating (wpAny_mono h₂ (fun r s₃ h₃ => wpAny_bind (wpAny_letTemporaryGo (wpAny_pure h₃))) fun _ _ x => x)
  first
    | exact wpAny_pure (wpAny_bind fin)
    | exact wpAny_bind (wpAny_pure (wpAny_bind fin))
    | exact wpAny_bind fin
theorem dict_typeIs {X : Cx} {pins : List (Addr × Obj)} {σ : St} {H : Hp} {s : Shared} {a : Addr} {y : V} {o : Option V} (I : Inv X pins σ H s) (g : DGet H a y o) : s.TypeIs (.ref a) "dict" := by
  rcases g with ⟨kvs, k, e, _, _⟩ | ⟨kvs, k, b, e, _, _, _⟩
  · obtain ⟨_, _, vs, _, dd⟩ := dk_rd I.hok e
    exact dd.typeIs
  · obtain ⟨_, _, xs, _, dd⟩ := dt_rd I.hok e
    exact dd.typeIs
section
variable {X : Cx} {o i e value : Expr} {pos pos' tpos : Pos} {td ty tv : TE}
end
theorem dk_empty {P : Program} {w : World} {H : Hp} (h : Heap) (hb : sysModules < h.objs.size) : ObjOk P w H (h.push { cls := .type "dict", data := .dict #[] }) h.objs.size (.dK []) :=
  ⟨Nat.zero_le _, beq_eq_false_iff_ne.mpr (Ne.symm (Nat.ne_of_lt hb)), [], .nil, Heap.DictOf.new h⟩
def tDNewK : TE := fun _ H Q => ∀ p, H p = none → Q (.ref p) (upd H p (.dK []))
section
variable {X : Cx} {pos : Pos}
theorem pe_dnewK : PE X (.Dict [] [] pos) tDNewK := fun pins s σ H Q I h =>
  wpAny_Dict_empty ⟨.ref s.heap.objs.size, _, I.laid (a := s.heap.objs.size) (o := .dK []) (t' := s.toks) (fun _ _ q => Heap.get?_push_of_some _ q) (Nat.le_refl _) (dk_empty s.heap I.big), rfl, h _ (I.hok.fresh (Nat.le_refl _))⟩
end
structure M2 (X : Cx) (o : Expr) (m : Str) (apos : Pos) (e f : Expr) (cpos : Pos) : Prop where
  base : attributeBase o m X.env (eval o X.env) = eval o X.env
  few : ((backTo cpos (starEach [e, f] X.env)).all (fun x => !x.1) && (backToKw cpos (keywordEach [] X.env)).all (fun x => x.1.isSome)
    && decide (([e, f] : List Expr).length + ([] : List Keyword).length + (if ([] : List Keyword).isEmpty then 0 else 1) < 30)) = true
  line : (apos.endLine == cpos.line) = true
  trees : backTo cpos (starEach [e, f] X.env) = [(false, eval e X.env), (false, eval f X.env)]
def IsD (H : Hp) (a : Addr) : Prop := (∃ kvs, Rd H a (.dK kvs)) ∨ ∃ kvs, Rd H a (.dT kvs)
theorem isD_at {X : Cx} {pins : List (Addr × Obj)} {σ : St} {H : Hp} {s : Shared} {a : Addr} (I : Inv X pins σ H s) (d : IsD H a) :
    s.TypeIs (.ref a) "dict" ∧ (∀ b, Value.ref a = .ref b → ∃ ob, s.heap.get? b = some ob ∧ ob.dict = none) ∧ (a == sysModules) = false := by
  rcases d with ⟨kvs, e⟩ | ⟨kvs, e⟩
  · obtain ⟨_, hd, vs, _, dd⟩ := dk_rd I.hok e
    refine ⟨dd.typeIs, fun b q => ?_, hd⟩
    cases q
    obtain ⟨ob, _, _, h1, h2, _⟩ := dd
    exact ⟨ob, h1, h2.2.1⟩
  · obtain ⟨_, hd, xs, _, dd⟩ := dt_rd I.hok e
    refine ⟨dd.typeIs, fun b q => ?_, hd⟩
    cases q
    obtain ⟨ob, _, _, h1, h2, _⟩ := dd
    exact ⟨ob, h1, h2.2.1⟩
section
variable {X : Cx} {pins : List (Addr × Obj)} {σ : St} {H : Hp} {s : Shared} {a : Addr} {y d : V} {u r : Value} {o : Option V} {A : Around} {E : Value → Shared → Prop}
end
section
variable {X : Cx} {o e f : Expr} {apos cpos : Pos} {td ty tx : TE}
end
section
variable {X : Cx} {pins : List (Addr × Obj)} {σ : St} {H : Hp} {s : Shared} {a : Addr} {kvs : List (Key × V)} {A : Around} {E : Value → Shared → Prop}
end
section
variable {X : Cx} {pins : List (Addr × Obj)} {σ : St} {H : Hp} {s : Shared} {a : Addr} {y : V} {u : Value} {A : Around} {E : Value → Shared → Prop}
namespace L2
open PySem PySem.Spec PyProof.Rows
section
variable {X : Cx}
end
section
variable {κ : Type} [DecidableEq κ]
end
end L2
end
end L2
namespace L2
open PySem PySem.Spec PyProof.Rows
section
variable {X : Cx}
end
def Itz (K : PySem.W.Frag) (l m : Addr) : It :=
  ⟨fun i H => ∃ xs ys x y, SqL K H l xs ∧ SqL K H m ys ∧ xs[i]? = some x ∧ ys[i]? = some y,
   fun i H v H' => ∃ p x y, (∀ xs, SqL K H l xs → xs[i]? = some x) ∧ (∀ ys, SqL K H m ys → ys[i]? = some y) ∧ H p = none ∧ v = .ref p ∧ H' = upd H p (.tup [x, y]),
   fun i H => ∃ xs ys, SqL K H l xs ∧ SqL K H m ys ∧ (xs.length ≤ i ∨ ys.length ≤ i)⟩
theorem turn_zip {P : Program} {w : World} {K : PySem.W.Frag} {elts : List Expr} {kk : Nat} {pos : Pos} (z TI TO i1 i2 l m : Addr) (D : ZipApart z TI TO i1 i2 l m) :
    Turn P w K (.Tuple elts kk pos) (Itz K l m) [z, TI, TO, i1, i2] z (fun i h => IsZip h z TI TO .none ∧ IsPair h TI (.ref i1) (.ref i2) ∧ (∃ a b, IsPair h TO a b) ∧ h.IsListIter i1 l i ∧ h.IsListIter i2 m i) where
  mem := by simp
  obj := fun i h st b hb => by
    obtain ⟨hz, hTI, ⟨a, c, hTO⟩, ⟨o1, ho1, c1, d1⟩, ⟨o2, ho2, c2, d2⟩⟩ := st
    rcases List.mem_cons.mp hb with rfl | hb
    · exact ⟨_, hz, fun v z => by cases z⟩
    rcases List.mem_cons.mp hb with rfl | hb
    · exact ⟨_, hTI, fun v z => by cases z⟩
    rcases List.mem_cons.mp hb with rfl | hb
    · exact ⟨_, hTO, fun v z => by cases z⟩
    rcases List.mem_cons.mp hb with rfl | hb
    · exact ⟨o1, ho1, fun v z => by rw [d1] at z; cases z⟩
    · have e : b = i2 := by simpa using hb
      subst e
      exact ⟨o2, ho2, fun v z => by rw [d2] at z; cases z⟩
  keep := fun i h h' st k => by
    obtain ⟨hz, hTI, ⟨a, c, hTO⟩, h1, h2⟩ := st
    exact ⟨k z (by simp) _ hz, k TI (by simp) _ hTI, ⟨a, c, k TO (by simp) _ hTO⟩, h1.at fun o q => k i1 (by simp) o q, h2.at fun o q => k i2 (by simp) o q⟩
  item := by
    intro X hP hw hK hc i pins s σ H E I hf st hg
    subst hP hw hK
    obtain ⟨xs, ys, x, y, hq, hq2, hx, hy⟩ := hg
    obtain ⟨its, rv, p, hz0⟩ := I.list hq
    obtain ⟨its2, rv2, p2, hz2⟩ := I.list hq2
    obtain ⟨u, hu, ru⟩ := rv.get hx
    obtain ⟨v, hv, rw'⟩ := rv2.get hy
    obtain ⟨hz, hTI, ⟨a, c, hTO⟩, h1, h2⟩ := st
    have lt : ∀ {c o}, s.heap.get? c = some o → c < s.heap.objs.size := fun e => Heap.lt_size e
    have lz := lt hz
    have lTI := lt hTI
    have lTO := lt hTO
    have l1 : i1 < s.heap.objs.size := by obtain ⟨o, e, _⟩ := id h1; exact lt e
    have l2 : i2 < s.heap.objs.size := by obtain ⟨o, e, _⟩ := id h2; exact lt e
    refine wpAny_pyNext_zip_item D hz hTI hTO h1 h2 p.isList p2.isList (x := u) (y := v) (by simpa using hu) (by simpa using hv) fun h3 z3 TO3 it13 it23 pr3 sz3 hk3 => ?_
    refine ⟨_, rfl, ?_⟩
    refine wpAny_letOwnedTupleGo_zip z3 fun h4 z4 hs4 => ?_
    replace hs4 : Heap.SameBut z h3 h4 := hs4
    have hp : H s.heap.objs.size = none := I.hok.fresh (Nat.le_refl _)
    have I1 : Inv X pins σ (upd H s.heap.objs.size (.tup [x, y])) { s with heap := s.heap.push { cls := .type "tuple", data := .seq #[u, v] }, toks := s.toks } := by
      refine I.laid (fun b u q => Heap.get?_push_of_some _ q) (Nat.le_refl _) ⟨?_, [u, v], .cons ru (.cons rw' .nil), ⟨_, Heap.get?_push_size _ rfl, rfl, _, rfl⟩⟩
      show 2 ≤ sizeLine
      decide
    have hlt : ∀ b ∈ [z, TI, TO, i1, i2], b < s.heap.objs.size := fun b hb => by
      rcases List.mem_cons.mp hb with rfl | hb
      · exact lz
      rcases List.mem_cons.mp hb with rfl | hb
      · exact lTI
      rcases List.mem_cons.mp hb with rfl | hb
      · exact lTO
      rcases List.mem_cons.mp hb with rfl | hb
      · exact l1
      · have e : b = i2 := by simpa using hb
        rw [e]; exact l2
    have hf1 : ∀ b ∈ [z, TI, TO, i1, i2], FpOk X pins (upd H s.heap.objs.size (.tup [x, y])) b := fun b hb => by
      obtain ⟨f0, r⟩ := hf b hb
      refine ⟨?_, r⟩
      rw [upd_ne (Nat.ne_of_lt (hlt b hb))]
      exact f0
    have I2 : Inv X pins σ (upd H s.heap.objs.size (.tup [x, y])) { s with heap := h4, toks := s.toks } := by
      refine Inv.turnedL (s := { s with heap := s.heap.push { cls := .type "tuple", data := .seq #[u, v] }, toks := s.toks }) (ch := [z, TI, TO, i1, i2]) I1 (fun b o hb q => ?_) hf1
      have n1 : b ≠ z := fun e => hb (by simp [e])
      have n2 : b ≠ TO := fun e => hb (by simp [e])
      have n3 : b ≠ i1 := fun e => hb (by simp [e])
      have n4 : b ≠ i2 := fun e => hb (by simp [e])
      refine (hs4.2 b n1).trans ?_
      rcases Heap.get?_push_cases q with ⟨rfl, rfl⟩ | q'
      · exact pr3
      · exact hk3 b o n1 n2 n3 n4 q'
    refine ⟨.ref s.heap.objs.size, _, I2, rfl, ⟨s.heap.objs.size, x, y, fun zs hy' => by rw [I.list_inj hy' hq]; exact hx, fun zs hy' => by rw [I.list_inj hy' hq2]; exact hy, hp, rfl, rfl⟩, ⟨z4, ?_, ⟨u, v, ?_⟩, ?_, ?_⟩, fun b hb => (hf1 b hb).1⟩
    · exact (hs4.2 TI D.TIz).trans (hk3 TI _ D.TIz D.TITO D.TIi1 D.TIi2 hTI)
    · exact (hs4.2 TO D.TOz).trans TO3
    · exact it13.extBut hs4.extBut D.i1z
    · exact it23.extBut hs4.extBut D.i2z
  done := by
    intro X hP hw hK hc i pins s σ H E I hf st hg
    subst hP hw hK
    obtain ⟨xs, ys, hq, hq2, hx⟩ := hg
    obtain ⟨its, rv, p, hz0⟩ := I.list hq
    obtain ⟨its2, rv2, p2, hz2⟩ := I.list hq2
    obtain ⟨hz, hTI, ⟨a, c, hTO⟩, h1, h2⟩ := st
    have hl := rv.length
    have hl2 := rv2.length
    refine wpAny_pyNext_zip_end (I.ok.hd hc) D hz hTI hTO h1 h2 p.isList p2.isList ?_ fun h' eb => ⟨rfl, ?_⟩
    · rcases hx with hx | hx
      · exact .inl (by simp; omega)
      · exact .inr (by simp; omega)
    · refine Inv.turnedL (s := s) (t' := s.toks) (ch := [z, TI, TO, i1, i2]) I (fun b o hb q => eb b o (fun e => hb (by simp [e])) (fun e => hb (by simp [e])) (fun e => hb (by simp [e])) (fun e => hb (by simp [e])) q) hf
  self := fun _ _ _ _ _ st h => wpAny_pyIter_zip st.1 h
theorem zip_apart {N l m : Nat} (hl : l < N) (hm : m < N) : ZipApart (N + 4) (N + 2) (N + 3) N (N + 1) l m := by
  constructor <;> (intro e; have e' : (_ : Nat) = _ := congrArg (fun x : Nat => x) e; omega)
section
variable {X : Cx} {elts : List Expr} {kk : Nat} {tpos : Pos}
end
theorem pick_rev (its : List Value) : (List.range its.length).filterMap (fun k => its[its.length - 1 - k]?) = its.reverse := by
  have h : (List.range its.length).map (fun k => its[its.length - 1 - k]?) = its.reverse.map some := by
    refine List.ext_getElem (by simp) fun i h1 h2 => ?_
    rw [List.length_map, List.length_range] at h1
    rw [List.getElem_map, List.getElem_range, List.getElem_map, List.getElem_reverse, List.getElem?_eq_getElem (by omega)]
  have e : (List.range its.length).filterMap (fun k => its[its.length - 1 - k]?) = ((List.range its.length).map (fun k => its[its.length - 1 - k]?)).filterMap id := by
    rw [List.filterMap_map]; rfl
  rw [e, h, List.filterMap_map]
  exact List.filterMap_some
theorem filterMap_same {α β : Type} {f g : α → Option β} : ∀ {l : List α}, (∀ a ∈ l, f a = g a) → l.filterMap f = l.filterMap g
  | [], _ => rfl
  | a :: l, h => by rw [List.filterMap_cons, List.filterMap_cons, h a List.mem_cons_self, filterMap_same fun b hb => h b (List.mem_cons_of_mem _ hb)]
theorem vals_rev : ∀ {xs : List V} {us : List Value}, Vals xs us → Vals xs.reverse us.reverse
  | _, _, .nil => .nil
  | x :: xs, u :: us, .cons r t => by rw [List.reverse_cons, List.reverse_cons]; exact (vals_rev t).append (.cons r .nil)
theorem slicePick_rev (its : List Value) : slicePick its.toArray none none (some (-1)) = its.reverse.toArray := by
  unfold slicePick
  have hb : sliceBounds none none (some (-1)) its.toArray.size = ((its.length : Int) - 1, -1, -1) := by
    simp [sliceBounds]
  rw [hb]
  congr 1
  unfold sliceRange
  simp only
  rw [List.filterMap_map, ← pick_rev its]
  have hc : (if (-1 : Int) > 0 then (if (its.length : Int) - 1 < -1 then (-1 - ((its.length : Int) - 1) + -1 - 1) / -1 else 0) else if (its.length : Int) - 1 > -1 then ((its.length : Int) - 1 - -1 - -1 - 1) / - -1 else 0) = (its.length : Int) := by
    rw [if_neg (by decide)]
    split
    · rw [show (- -1 : Int) = 1 by decide, Int.ediv_one]; omega
    · omega
  rw [hc, Int.toNat_natCast]
  refine filterMap_same fun k hk => ?_
  have hk := List.mem_range.mp hk
  show its.toArray[((its.length : Int) - 1 + -1 * (k : Int)).toNat]? = its[its.length - 1 - k]?
  rw [show ((its.length : Int) - 1 + -1 * (k : Int)).toNat = its.length - 1 - k by omega]
  simp
section
variable {X : Cx} {e st : Expr} {te : TE} {ts : TO} {pos p2 : Pos}
def tRev (K : PySem.W.Frag) (te : TE) (ts : TO) : TE := fun σ H Q => te σ H fun x H1 => ts σ H1 fun o H2 => o = some (-1) ∧ match x with
  | .ref a => ∃ xs, SqL K H2 a xs ∧ ∀ p, H2 p = none → Q (.ref p) (upd H2 p (.lst xs.reverse))
  | _ => False
theorem pe_rev (he : PE X e te) (hs : PO X (some st) ts) : PE X (.Subscript e (.Slice none none (some st) p2) pos) (tRev X.K te ts) := by
  intro pins s σ H Q I h
  refine Subscript_ (thn (he pins s σ H _ I h) fun v s1 ⟨x, H1, I1, r1, q1⟩ => ?_)
  have pn : ∀ (s : Shared) (Q' : Value → Shared → Prop), Q' .none s → wpAny (model X.prog X.w) X.A (evalPart none X.env) Q' X.xe s := fun s Q' q => by rw [evalPart_none]; exact wpAny_pure q
  refine wpAny_Slice (pn _ _ (pn _ _ ?_))
  refine thn (hs pins s1 σ H1 _ I1 q1) fun vst s3 ⟨o, H3, I3, po, eo, q3⟩ => ?_
  subst eo
  cases x with
  | ref a =>
    obtain ⟨xs, hx, q⟩ := q3
    cases r1
    have I4 : Inv X pins σ H3 { s3 with heap := s3.heap.push { cls := .type "slice", data := .fields #[.none, .none, vst] } } := I3.kept (t' := s3.toks) fun b ob q => Heap.get?_push_of_some _ q
    obtain ⟨its, r, ht, hz⟩ := I4.list hx
    have hlen := r.length
    show wpAny (model X.prog X.w) X.A (subscriptTail e (.Slice none none (some st) p2) (.ref a) (.ref s3.heap.objs.size)) (EP X pins σ Q) X.xe { s3 with heap := s3.heap.push { cls := .type "slice", data := .fields #[.none, .none, vst] } }
    refine tail_any (ops := [.ref a, .ref s3.heap.objs.size]) ht.isList.typeIs slot_list_getitem.lookup ?_ (by with_unfolding_all rfl)
    refine wpAny_getItem_list_slice ht.isList (Heap.IsSliceOf.new ..) .none .none po (by simp) ?_ (by rw [List.size_toArray] <;> omega)
    rw [slicePick_rev]
    refine ⟨.ref _, _, I4.laid (t' := s3.toks) (o := .lst xs.reverse) (fun b ob q => Heap.get?_push_of_some _ q) (Nat.le_refl _) ?_, rfl, q _ (I4.hok.fresh (Nat.le_refl _))⟩
    refine ⟨by rw [List.length_reverse]; exact hz, its.reverse, 0, ?_, Heap.get?_push_size _ rfl⟩
    exact vals_rev r
  | _ => exact q3.elim
end
end L2
namespace L2
open PySem PySem.Spec PyProof.Rows
def keyV : V → Option Key
  | .int i => some (.inl i)
  | .str z => some (.inr z)
  | _ => none
theorem keyV_eq {y : V} {k : Key} (h : keyV y = some k) : y = kV k := by
  cases y <;> first | (cases h; rfl) | cases h
def atD (x y : V) (H : Hp) (R : Addr → List (Key × V) → Key → Prop) : Prop := match x with
  | .ref a => (match keyV y with | some k => ∃ kvs, H a = some (.dK kvs) ∧ R a kvs k | none => False)
  | _ => False
theorem atD_of {x y : V} {H : Hp} {R : Addr → List (Key × V) → Key → Prop} (h : atD x y H R) : ∃ a kvs k, x = .ref a ∧ y = kV k ∧ H a = some (.dK kvs) ∧ R a kvs k := by
  unfold atD at h
  cases x with
  | ref a =>
    cases e : keyV y with
    | none => rw [e] at h; exact h.elim
    | some k =>
      rw [e] at h
      obtain ⟨kvs, h1, h2⟩ := h
      exact ⟨a, kvs, k, rfl, keyV_eq e, h1, h2⟩
  | _ => exact h.elim
def mDGet (td ty : TE) : TE := fun σ H Q => td σ H fun x H1 => ty σ H1 fun y H2 => atD x y H2 fun _ kvs k => ∃ v, valV kvs k = some v ∧ Q v H2
def mDIn (neg : Bool) (ty td : TE) : TE := fun σ H Q => ty σ H fun y H1 => td σ H1 fun x H2 => atD x y H2 fun _ kvs k => Q (.bl (if neg then !(valV kvs k).isSome else (valV kvs k).isSome)) H2
def mDPut (td ty tv : TE) : TS := fun D σ H => tv σ H fun v H1 => td σ H1 fun x H2 => ty σ H2 fun y H3 => atD x y H3 fun a kvs k => kvs.length < sizeLine ∧ D.nx σ (upd H3 a (.dK (putK kvs k v)))
section
variable {X : Cx} {o i e value : Expr} {pos pos' tpos : Pos} {td ty tv : TE}
theorem pe_dgetM (hu : X.A.units + 60 < cLine) (ho : PE X o td) (hi : PE X i ty) (hs : NoSl i := by exact fun _ _ => rfl) : PE X (.Subscript o i pos) (mDGet td ty) := by
  intro pins s σ H Q I h
  refine subD_of PySem.F.slot_dict_getitem.lookup hs (thn (ho pins s σ H _ I h) fun u s1 ⟨x, H1, I1, rx, q1⟩ => thn (hi pins s1 σ H1 _ I1 q1) fun iv s2 ⟨y, H2, I2, ry, q2⟩ => ?_)
  obtain ⟨a, kvs, k, rfl, rfl, hd, v, hv, q⟩ := atD_of q2
  obtain rfl : u = Value.ref a := rx
  have g : DGet H2 a (kV k) (some v) := by rw [← hv]; exact DGet.k hd
  exact ⟨dict_typeIs I2 g, d_getItem (by omega) I2 g ry fun w' s3 I3 rw' => ⟨v, H2, I3, rw', q⟩⟩
theorem pc_dnotinM (hu : X.A.units + 60 < cLine) (hi : PE X i ty) (ho : PE X o td) : PC X .NotIn i o (mDIn true ty td) := by
  intro pins s σ H Q I h
  refine thn (hi pins s σ H _ I h) fun iv s1 ⟨y, H1, I1, ry, q1⟩ => thn (ho pins s1 σ H1 _ I1 q1) fun u s2 ⟨x, H2, I2, rx, q2⟩ => ?_
  obtain ⟨a, kvs, k, rfl, rfl, hd, q⟩ := atD_of q2
  obtain rfl : u = Value.ref a := rx
  exact d_notIn (by omega) I2 (DGet.k (k := k) hd) ry fun s3 I3 => ⟨.bl (!(valV kvs k).isSome), H2, I3, rfl, q⟩
theorem ps_dputM (hu : X.A.units + 60 < cLine) (ho : PE X o td) (hi : PE X i ty) (hv : PE X value tv) (hs : swapsWith value (some (.Subscript o i pos')) pos.line X.env = pure false := by rfl) :
    PS X (.Assign [.Subscript o i pos'] value pos) (mDPut td ty tv) := by
  intro pins s σ H D I h
  refine wpAny_Assign_Subscript (thn (hv pins s σ H _ I h) fun r s1 ⟨v, H1, I1, rv, q1⟩ => thn (ho pins s1 σ H1 _ I1 q1) fun u s2 ⟨x, H2, I2, rx, q2⟩ => thn (hi pins s2 σ H2 _ I2 q2) fun iv s3 ⟨y, H3, I3, ry, q3⟩ => ?_) hs
  obtain ⟨a, kvs, k, rfl, rfl, hd, hl, q⟩ := atD_of q3
  obtain rfl : u = Value.ref a := rx
  exact d_setItem (by omega) I3 (DPut.k hd hl) ry rv fun s4 I4 => ⟨σ, _, I4, q⟩
end
section
variable {X : Cx} {o e f : Expr} {apos cpos : Pos} {td ty tx' : TE}
end
section
variable {X : Cx} {o i : Expr} {pos : Pos} {td ty : TE}
theorem pt_cmpMt {op : CmpOp} {a b : Expr} {t : TE} (h : PC X op a b t) (h1 : behindInMarks op b = false) : PT X (.Compare a [op] [b] pos) (mTest t) := by
  intro pins s σ H Q I hw
  refine wpAny_isTrue_Compare1 (thn (h pins s σ H _ I hw) fun v s1 q => thn q fun u s2 q => thn q fun c s3 ⟨x, H1, I1, r, q⟩ => ?_) h1
  cases x with
  | bl k => cases r; exact wpAny_truthy_bool ⟨H1, I1, q⟩
  | _ => exact q.elim
theorem pt_dnotinM (hu : X.A.units + 60 < cLine) (hi : PE X i ty) (ho : PE X o td) (h1 : behindInMarks .NotIn o = false := by rfl) : PT X (.Compare i [.NotIn] [o] pos) (mTest (mDIn true ty td)) := pt_cmpMt (pc_dnotinM hu hi ho) h1
end
end L2
namespace L2
open PySem PySem.Spec PyProof.Rows
inductive Mo (α : Type) where
  | ok (a : α) | ex (c : String) | no
namespace Mo
variable {α β γ : Type}
def bind (x : Mo α) (f : α → Mo β) : Mo β := match x with | .ok a => f a | .ex c => .ex c | .no => .no
theorem ok_bind (a : α) (f : α → Mo β) : (Mo.ok a).bind f = f a := rfl
def noex (x : Mo α) : Mo α := match x with | .ok a => .ok a | _ => .no
def lim (n : Nat) (k : Mo α) : Mo α := if n ≤ sizeLine then k else .no
theorem lim_ok {n : Nat} {k : Mo α} (h : n ≤ 100000) : lim n k = k := if_pos (small_n h)
def grd (p : Prop) [Decidable p] (k : Mo α) : Mo α := if p then k else .no
theorem grd_ok {p : Prop} [Decidable p] {k : Mo α} (h : p) : grd p k = k := if_pos h
def opt (x : Option α) : Mo α := match x with | some a => .ok a | none => .no
end Mo
def un (F h : Hp) : Hp := fun p => match F p with | some o => some o | none => h p
def Dj (F h : Hp) : Prop := ∀ p, F p = none ∨ h p = none
def Jn (h1 h2 h : Hp) : Prop := ∀ p, (h1 p = none ∧ h p = h2 p) ∨ (h2 p = none ∧ h p = h1 p)
def Ext (F H F' H' : Hp) : Prop := Same F F' ∧ Same F' H' ∧ Same H H' ∧ ∀ p, F p = none → F' p ≠ none → H p = none
theorem Ext.refl {F H : Hp} (h : Same F H) : Ext F H F H := ⟨Same.refl _, h, Same.refl _, fun p a b => absurd a b⟩
theorem Ext.trans {F H F1 H1 F2 H2 : Hp} (a : Ext F H F1 H1) (b : Ext F1 H1 F2 H2) : Ext F H F2 H2 := by
  obtain ⟨a1, a2, a3, a4⟩ := a
  obtain ⟨b1, b2, b3, b4⟩ := b
  refine ⟨a1.trans b1, b2, a3.trans b3, fun p hp hq => ?_⟩
  cases e : F1 p with
  | none => exact a3.free (b4 p e hq)
  | some o => exact a4 p hp (by rw [e]; exact Option.some_ne_none _)
theorem Ext.heap {F H H' : Hp} (h : Same F H) (g : Same H H') : Ext F H F H' := ⟨Same.refl _, h.trans g, g, fun p a b => absurd a b⟩
theorem Ext.new {F H : Hp} (h : Same F H) {p : Addr} {o : HO} (hp : H p = none) : Ext F H (upd F p o) (upd H p o) := by
  refine ⟨same_new (h.free hp) _, fun b u e => ?_, same_new hp _, fun q a b => ?_⟩
  · unfold upd at e ⊢
    split
    · rename_i z; rw [if_pos z] at e; exact e
    · rename_i z; rw [if_neg z] at e; exact h _ _ e
  · unfold upd at b
    split at b
    · rename_i z; rw [z]; exact hp
    · exact absurd a b
structure Ty (α : Type) where
  R : α → V → Hp → Prop
  mono : ∀ {a v H H'}, Same H H' → R a v H → R a v H'
def Tups (H H' : Hp) : Prop := ∀ p xs, H p = some (.tup xs) → H' p = some (.tup xs)
theorem Same.tups {H H' : Hp} (h : Same H H') : Tups H H' := fun p xs e => h _ _ e
def Imm {α : Type} (T : Ty α) : Prop := ∀ {a v H H'}, Tups H H' → T.R a v H → T.R a v H'
abbrev tyInt : Ty Int := ⟨fun a v _ => v = .int a, fun _ h => h⟩
abbrev tyStr : Ty (List Nat) := ⟨fun a v _ => v = tx a, fun _ h => h⟩
abbrev tyBl : Ty Bool := ⟨fun a v _ => v = .bl a, fun _ h => h⟩
abbrev tyNon : Ty Unit := ⟨fun _ v _ => v = .non, fun _ h => h⟩
theorem imm_int : Imm tyInt := fun _ h => h
theorem imm_str : Imm tyStr := fun _ h => h
theorem imm_bl : Imm tyBl := fun _ h => h
abbrev tyOpt {α : Type} (T : Ty α) : Ty (Option α) := ⟨fun a v H => match a with | none => v = .non | some x => T.R x v H ∧ v ≠ .non, fun {a v H H'} g h => by cases a with | none => exact h | some x => exact ⟨T.mono g h.1, h.2⟩⟩
structure Cs (γ : Type) where
  R : γ → List V → Hp → Prop
  mono : ∀ {c vs H H'}, Same H H' → R c vs H → R c vs H'
abbrev csLast {α : Type} (T : Ty α) : Cs α := ⟨fun a vs H => ∃ v, vs = [v] ∧ T.R a v H, fun g ⟨v, e, h⟩ => ⟨v, e, T.mono g h⟩⟩
abbrev csCons {α γ : Type} (T : Ty α) (C : Cs γ) : Cs (α × γ) := ⟨fun a vs H => ∃ v us, vs = v :: us ∧ T.R a.1 v H ∧ C.R a.2 us H, fun g ⟨v, us, e, h, q⟩ => ⟨v, us, e, T.mono g h, C.mono g q⟩⟩
abbrev tyTup {γ : Type} (C : Cs γ) : Ty γ := ⟨fun c v H => ∃ p us, v = .ref p ∧ H p = some (.tup us) ∧ C.R c us H, fun g ⟨p, us, e, h, q⟩ => ⟨p, us, e, g _ _ h, C.mono g q⟩⟩
abbrev Prs {α : Type} (T : Ty α) (H : Hp) (xs : List α) (vs : List V) : Prop := Paired (fun x v => T.R x v H) xs vs
theorem paired_imp {α β : Type} {R R' : α → β → Prop} (h : ∀ a b, R a b → R' a b) : ∀ {xs : List α} {ys : List β}, Paired R xs ys → Paired R' xs ys
  | _, _, .nil => .nil
  | _, _, .cons a t => .cons (h _ _ a) (paired_imp h t)
theorem Prs.mono {α : Type} {T : Ty α} {H H' : Hp} {xs : List α} {vs : List V} (g : Same H H') (h : Prs T H xs vs) : Prs T H' xs vs := paired_imp (fun _ _ r => T.mono g r) h
theorem Prs.imm {α : Type} {T : Ty α} (i : Imm T) {H H' : Hp} {xs : List α} {vs : List V} (g : Tups H H') (h : Prs T H xs vs) : Prs T H' xs vs := paired_imp (fun _ _ r => i g r) h
abbrev tyL {α : Type} (T : Ty α) : Ty (List α) := ⟨fun xs v H => ∃ p vs, v = .ref p ∧ H p = some (.lst vs) ∧ Prs T H xs vs, fun g ⟨p, vs, e, h, q⟩ => ⟨p, vs, e, g _ _ h, q.mono g⟩⟩
abbrev tySc (K : PySem.W.Frag) : Ty (List Int) := ⟨fun xs v H => ∃ p, v = .ref p ∧ SqL K H p (xs.map V.int), fun g ⟨p, e, h⟩ => ⟨p, e, g.seq h⟩⟩
structure Own (α : Type) where
  O : α → V → Hp → Hp → Prop
  fr : Ty α
  mono : ∀ {a v F F' h}, Same F F' → O a v F h → O a v F' h
  frz : ∀ {a v F h}, Dj F h → O a v F h → fr.R a v (un F h)
  notup : ∀ {a v F h}, O a v F h → ∀ p xs, h p ≠ some (.tup xs)
def ImmO {α : Type} (O : Own α) : Prop := ∀ {a v F F' h}, Tups F F' → O.O a v F h → O.O a v F' h
theorem un_same {F h : Hp} : Same F (un F h) := fun p o e => by unfold un; rw [e]
theorem un_own {F h : Hp} (d : Dj F h) : Same h (un F h) := fun p o e => by
  unfold un
  rcases d p with z | z
  · rw [z]; exact e
  · rw [z] at e; cases e
abbrev owF {α : Type} (T : Ty α) : Own α := ⟨fun a v F h => (∀ p, h p = none) ∧ T.R a v F, T, fun g ⟨e, h⟩ => ⟨e, T.mono g h⟩, fun _ ⟨_, h⟩ => T.mono un_same h, fun ⟨e, _⟩ p xs z => by rw [e] at z; cases z⟩
theorem immo_f {α : Type} {T : Ty α} (i : Imm T) : ImmO (owF T) := fun g ⟨e, h⟩ => ⟨e, i g h⟩
def one (p : Addr) (o : HO) : Hp := fun q => if q = p then some o else none
theorem one_same {p : Addr} {o : HO} : one p o p = some o := if_pos rfl
abbrev owL {α : Type} (T : Ty α) : Own (List α) := ⟨fun xs v F h => ∃ p vs, v = .ref p ∧ h = one p (.lst vs) ∧ Prs T F xs vs, tyL T, fun g ⟨p, vs, e, z, q⟩ => ⟨p, vs, e, z, q.mono g⟩,
  fun d ⟨p, vs, e, z, q⟩ => ⟨p, vs, e, un_own d _ _ (by rw [z]; exact one_same), q.mono un_same⟩,
  fun ⟨p, vs, e, z, q⟩ b xs y => by rw [z] at y; unfold one at y; split at y <;> cases y⟩
theorem immo_l {α : Type} {T : Ty α} (i : Imm T) : ImmO (owL T) := fun g ⟨p, vs, e, z, q⟩ => ⟨p, vs, e, z, q.imm i g⟩
inductive Sl : Type 1 where
  | dead
  | fz {α : Type} (T : Ty α) (a : α)
  | ow {α : Type} (O : Own α) (a : α)
def Sl.P : Sl → Option V → Hp → Hp → Prop
  | .dead, _, _, _ => True
  | .fz T a, o, F, _ => ∃ v, o = some v ∧ T.R a v F
  | .ow O a, o, F, h => ∃ v, o = some v ∧ O.O a v F h
def Sl.Z : Sl → Option V → Hp → Prop
  | .dead, _, _ => True
  | .fz T a, o, F => ∃ v, o = some v ∧ T.R a v F
  | .ow O a, o, F => ∃ v, o = some v ∧ O.fr.R a v F
def Sl.cold : Sl → Sl
  | .ow _ _ => .dead
  | s => s
def Hold : List Sl → St → Hp → Hp → Prop
  | [], [], _, _ => True
  | s :: L, o :: σ, F, h => ∃ h1 h2, Jn h1 h2 h ∧ s.P o F h1 ∧ Hold L σ F h2
  | _, _, _, _ => False
def HoldF (L : List Sl) (σ : St) (F : Hp) : Prop := ∀ (i : Nat) (s : Sl), L[i]? = some s → s.Z (σ[i]?.join) F
theorem Sl.P.mono {s : Sl} {o : Option V} {F F' h : Hp} (g : Same F F') (q : s.P o F h) : s.P o F' h := by
  cases s with
  | dead => exact q
  | fz T a => obtain ⟨v, e, r⟩ := q; exact ⟨v, e, T.mono g r⟩
  | ow O a => obtain ⟨v, e, r⟩ := q; exact ⟨v, e, O.mono g r⟩
theorem Sl.Z.mono {s : Sl} {o : Option V} {F F' : Hp} (g : Same F F') (q : s.Z o F) : s.Z o F' := by
  cases s with
  | dead => exact q
  | fz T a => obtain ⟨v, e, r⟩ := q; exact ⟨v, e, T.mono g r⟩
  | ow O a => obtain ⟨v, e, r⟩ := q; exact ⟨v, e, O.fr.mono g r⟩
theorem HoldF.mono {L : List Sl} {σ : St} {F F' : Hp} (g : Same F F') (q : HoldF L σ F) : HoldF L σ F' := fun i s e => (q i s e).mono g
theorem Hold.mono : ∀ {L : List Sl} {σ : St} {F F' h : Hp}, Same F F' → Hold L σ F h → Hold L σ F' h
  | [], [], _, _, _, _, q => q
  | s :: L, o :: σ, F, F', h, g, ⟨h1, h2, j, p, r⟩ => ⟨h1, h2, j, p.mono g, r.mono g⟩
  | [], _ :: _, _, _, _, _, q => q.elim
  | _ :: _, [], _, _, _, _, q => q.elim
theorem Hold.len : ∀ {L : List Sl} {σ : St} {F h : Hp}, Hold L σ F h → L.length = σ.length
  | [], [], _, _, _ => rfl
  | s :: L, o :: σ, F, h, ⟨h1, h2, j, p, r⟩ => by rw [List.length_cons, List.length_cons, r.len]
  | [], _ :: _, _, _, q => q.elim
  | _ :: _, [], _, _, q => q.elim
theorem Jn.l {h1 h2 h : Hp} (j : Jn h1 h2 h) : Same h1 h := fun p o e => by
  rcases j p with ⟨a, b⟩ | ⟨a, b⟩
  · rw [a] at e; cases e
  · rw [b]; exact e
theorem Jn.r {h1 h2 h : Hp} (j : Jn h1 h2 h) : Same h2 h := fun p o e => by
  rcases j p with ⟨a, b⟩ | ⟨a, b⟩
  · rw [b]; exact e
  · rw [a] at e; cases e
theorem Jn.dj {h1 h2 h : Hp} (j : Jn h1 h2 h) : Dj h1 h2 := fun p => by
  rcases j p with ⟨a, b⟩ | ⟨a, b⟩
  · exact .inl a
  · exact .inr a
theorem jn_of {h1 h2 : Hp} (d : Dj h1 h2) : Jn h1 h2 (un h1 h2) := fun p => by
  unfold un
  rcases d p with a | a
  · rw [a]; exact .inl ⟨rfl, rfl⟩
  · refine .inr ⟨a, ?_⟩
    cases h1 p with
    | none => exact a
    | some o => rfl
theorem Hold.at : ∀ {L : List Sl} {σ : St} {F h : Hp} (i : Nat) {s : Sl}, Hold L σ F h → L[i]? = some s →
    ∃ o h1 h2, σ[i]? = some o ∧ Jn h1 h2 h ∧ s.P o F h1 ∧ ∀ s' o' h1' h', Jn h1' h2 h' → s'.P o' F h1' → Hold (L.set i s') (σ.set i o') F h'
  | [], _, _, _, _, _, _, e => by cases e
  | s :: L, [], _, _, _, _, q, _ => q.elim
  | s :: L, o :: σ, F, h, 0, t, ⟨h1, h2, j, p, r⟩, e => by
    cases e
    exact ⟨o, h1, h2, rfl, j, p, fun s' o' h1' h' j' p' => ⟨h1', h2, j', p', r⟩⟩
  | s :: L, o :: σ, F, h, i + 1, t, ⟨h1, h2, j, p, r⟩, e => by
    obtain ⟨o1, k1, k2, e1, j1, p1, f⟩ := Hold.at i r (by simpa using e)
    have d1 : Dj h1 k1 := fun p => by
      rcases j.dj p with a | a
      · exact .inl a
      · exact .inr (j1.l.free a)
    have d2 : Dj h1 k2 := fun p => by
      rcases j.dj p with a | a
      · exact .inl a
      · exact .inr (j1.r.free a)
    refine ⟨o1, k1, un h1 k2, by simpa using e1, fun p => ?_, p1, fun s' o' k1' h' j' p' => ?_⟩
    · rcases j p with ⟨a, b⟩ | ⟨a, b⟩
      · rcases j1 p with ⟨c, d⟩ | ⟨c, d⟩
        · refine .inl ⟨c, ?_⟩; unfold un; rw [a, b, d]
        · refine .inr ⟨?_, by rw [b, d]⟩; unfold un; rw [a, c]
      · refine .inl ⟨j1.l.free a, ?_⟩
        have : k2 p = none := j1.r.free a
        unfold un; rw [b]
        cases h1 p with
        | none => rw [this]
        | some u => rfl
    · have dd : Dj k1' k2 := fun p => by
        rcases j' p with ⟨a, b⟩ | ⟨a, b⟩
        · exact .inl a
        · right; unfold un at a
          cases z : h1 p with
          | none => rw [z] at a; exact a
          | some u => rw [z] at a; cases a
      refine ⟨h1, un k1' k2, fun p => ?_, p, f s' o' k1' _ (jn_of dd) p'⟩
      rcases j' p with ⟨a, b⟩ | ⟨a, b⟩
      · unfold un at b ⊢
        cases z : h1 p with
        | none => rw [z] at b; exact .inl ⟨rfl, by rw [b, a]⟩
        | some u =>
          rw [z] at b
          refine .inr ⟨?_, b⟩
          rw [a]
          rcases d2 p with y | y
          · rw [y] at z; cases z
          · exact y
      · unfold un at a
        cases z : h1 p with
        | some u => rw [z] at a; cases a
        | none =>
          rw [z] at a
          refine .inl ⟨rfl, ?_⟩
          unfold un; rw [b]
          cases k1' p with
          | none => exact a.symm
          | some u => rfl
theorem Hold.froz {L : List Sl} {σ : St} {F h : Hp} (d : Dj F h) (q : Hold L σ F h) : HoldF L σ (un F h) := by
  intro i s e
  obtain ⟨o, h1, h2, e1, j, p, _⟩ := q.at i e
  rw [e1]
  have d1 : Dj F h1 := fun p => by
    rcases d p with a | a
    · exact .inl a
    · exact .inr (j.l.free a)
  cases s with
  | dead => trivial
  | fz T a => obtain ⟨v, e2, r⟩ := p; exact ⟨v, e2, T.mono un_same r⟩
  | ow O a =>
    obtain ⟨v, e2, r⟩ := p
    refine ⟨v, e2, O.fr.mono (fun p u z => ?_) (O.frz d1 r)⟩
    unfold un at z ⊢
    cases y : F p with
    | some w => rw [y] at z; exact z
    | none => rw [y] at z; exact j.l _ _ z
theorem Hold.coldF {L : List Sl} {σ : St} {F h : Hp} (q : Hold L σ F h) : HoldF (L.map Sl.cold) σ F := by
  intro i s e
  rw [List.getElem?_map] at e
  cases e1 : L[i]? with
  | none => rw [e1] at e; cases e
  | some t =>
    rw [e1] at e
    cases e
    obtain ⟨o, h1, h2, e2, j, p, _⟩ := q.at i e1
    rw [e2]
    cases t with
    | dead => trivial
    | fz T a => obtain ⟨v, e2, r⟩ := p; exact ⟨v, e2, r⟩
    | ow O a => trivial
end L2
namespace L2
open PySem PySem.Spec PyProof.Rows
def After {α : Type} (K : PySem.W.Frag) (r : Mo α) (E : XK) (F H : Hp) (k : α → Hp → Hp → Prop) : Prop := match r with
  | .ok a => ∀ F' H', Ext F H F' H' → k a F' H'
  | .ex c => ∀ F' H', Ext F H F' H' → E (.ref (gA K c)) none H'
  | .no => False
section
variable {K : PySem.W.Frag} {E : XK} {α β γ ρ : Type} {F H : Hp}
theorem After.bind {r : Mo α} {f : α → Mo β} {k : β → Hp → Hp → Prop} (h : After K (r.bind f) E F H k) : After K r E F H fun a F1 H1 => After K (f a) E F1 H1 k := by
  cases r with
  | ok a =>
    intro F1 H1 x
    have h' : After K (f a) E F H k := h
    cases e : f a with
    | ok b => rw [e] at h'; exact fun F2 H2 y => h' F2 H2 (x.trans y)
    | ex c => rw [e] at h'; exact fun F2 H2 y => h' F2 H2 (x.trans y)
    | no => rw [e] at h'; exact h'
  | ex c => exact h
  | no => exact h
theorem After.imp {r : Mo α} {k k' : α → Hp → Hp → Prop} (h : After K r E F H k) (g : ∀ a F' H', Ext F H F' H' → k a F' H' → k' a F' H') : After K r E F H k' := by
  cases r with
  | ok a => exact fun F' H' x => g a F' H' x (h F' H' x)
  | ex c => exact h
  | no => exact h
theorem After.ok {a : α} {k : α → Hp → Hp → Prop} (hs : Same F H) (h : After K (.ok a) E F H k) : k a F H := h F H (.refl hs)
theorem After.noex {r : Mo α} {k : α → Hp → Hp → Prop} (h : After K r.noex E F H k) : After K r E0 F H k := by
  cases r with
  | ok a => exact h
  | ex c => exact h.elim
  | no => exact h
theorem After.lim {n : Nat} {r : Mo α} {k : α → Hp → Hp → Prop} (h : After K (Mo.lim n r) E F H k) : n ≤ sizeLine ∧ After K r E F H k := by
  unfold Mo.lim at h
  split at h
  · exact ⟨by assumption, h⟩
  · exact h.elim
theorem After.grd {p : Prop} [Decidable p] {r : Mo α} {k : α → Hp → Hp → Prop} (h : After K (Mo.grd p r) E F H k) : p ∧ After K r E F H k := by
  unfold Mo.grd at h
  split at h
  · exact ⟨by assumption, h⟩
  · exact h.elim
theorem After.opt {x : Option α} {k : α → Hp → Hp → Prop} (h : After K (Mo.opt x) E F H k) : ∃ a, x = some a ∧ After K (.ok a) E F H k := by
  cases x with
  | none => exact h.elim
  | some a => exact ⟨a, rfl, h⟩
def EvF (K : PySem.W.Frag) (e : TE) (E : XK) (L : List Sl) (r : Mo α) (T : Ty α) : Prop :=
  ∀ σ F H (Q : VK), HoldF L σ F → Same F H → After K r E F H (fun a F' H' => ∀ v, T.R a v F' → Q v H') → e σ H Q
def OwnK (O : Own α) (H : Hp) (Q : VK) (a : α) (F' H' : Hp) : Prop := ∀ v h, (∀ p, h p ≠ none → H p = none) → Dj F' h → Same h H' → O.O a v F' h → Q v H'
def EvO (K : PySem.W.Frag) (e : TE) (E : XK) (L : List Sl) (r : Mo α) (O : Own α) : Prop :=
  ∀ σ F H (Q : VK), HoldF L σ F → Same F H → After K r E F H (OwnK O H Q) → e σ H Q
def EvT (K : PySem.W.Frag) (t : TT) (E : XK) (L : List Sl) (r : Mo Bool) : Prop :=
  ∀ σ F H (Q : Bool → Hp → Prop), HoldF L σ F → Same F H → After K r E F H (fun b _ H' => Q b H') → t σ H Q
def EvA (K : PySem.W.Frag) (t : TA) (E : XK) (L : List Sl) (r : Mo γ) (C : Cs γ) : Prop :=
  ∀ σ F H (Q : List V → Hp → Prop), HoldF L σ F → Same F H → After K r E F H (fun c F' H' => ∀ vs, C.R c vs F' → Q vs H') → t σ H Q
variable {L : List Sl} {e e1 e2 : TE} {T : Ty α} {r : Mo α}
theorem EvO.fr {O : Own α} (h : EvO K e E L r O) : EvF K e E L r O.fr := by
  intro σ F H Q hL hs q
  refine h σ F H Q hL hs ?_
  cases r with
  | ok a =>
    intro F' H' x v h' fresh d s o
    refine q (un F' h') H' ⟨x.1.trans un_same, fun p o e => ?_, x.2.2.1, fun p a b => ?_⟩ v (O.frz d o)
    · unfold un at e
      cases z : F' p with
      | some w => rw [z] at e; cases e; exact x.2.1 _ _ z
      | none => rw [z] at e; exact s _ _ e
    · unfold un at b
      cases z : F' p with
      | some w => exact x.2.2.2 p a (by rw [z]; exact Option.some_ne_none _)
      | none => rw [z] at b; exact fresh p b
  | ex c => exact q
  | no => exact q
theorem EvF.ow (h : EvF K e E L r T) : EvO K e E L r (owF T) := by
  intro σ F H Q hL hs q
  refine h σ F H Q hL hs (q.imp fun a F' H' x k v hv => ?_)
  exact k v (fun _ => none) (fun p z => absurd rfl z) (fun p => .inr rfl) (fun p o z => by cases z) ⟨fun _ => rfl, hv⟩
theorem ev_c {v : V} {a : α} (h : ∀ F, T.R a v F) : EvF K (tC v) E L (.ok a) T := fun σ F H Q hL hs q => q.ok hs v (h F)
theorem ev_int (i : Int) : EvF K (tC (.int i)) E L (.ok i) tyInt := ev_c fun _ => rfl
theorem ev_str (l : List Nat) : EvF K (tC (tx l)) E L (.ok l) tyStr := ev_c fun _ => rfl
theorem ev_bl (b : Bool) : EvF K (tC (.bl b)) E L (.ok b) tyBl := ev_c fun _ => rfl
theorem ev_non : EvF K (tC .non) E L (.ok ()) tyNon := ev_c fun _ => rfl
theorem ev_none {β : Type} {T : Ty β} : EvF K (tC .non) E L (.ok (none : Option β)) (tyOpt T) := ev_c fun _ => rfl
theorem ev_some (hn : ∀ a v F, T.R a v F → v ≠ .non) (h : EvF K e E L r T) : EvF K e E L (r.bind fun a => .ok (some a)) (tyOpt T) := by
  intro σ F H Q hL hs q
  exact h σ F H Q hL hs (q.bind.imp fun a F1 H1 x k v hv => k.ok x.2.1 v ⟨hv, hn _ _ _ hv⟩)
theorem ev_var (i : Nat) {a : α} (h : L[i]? = some (.fz T a)) : EvF K (mVar i) E L (.ok a) T := by
  intro σ F H Q hL hs q
  obtain ⟨v, e, r⟩ := hL i _ h
  unfold mVar
  cases z : σ[i]? with
  | none => rw [z] at e; cases e
  | some o =>
    rw [z] at e
    cases (show o = some v from e)
    exact q.ok hs v r
theorem ev_varO (i : Nat) {O : Own α} {a : α} (h : L[i]? = some (.ow O a)) : EvF K (mVar i) E L (.ok a) O.fr := by
  intro σ F H Q hL hs q
  obtain ⟨v, e, r⟩ := hL i _ h
  unfold mVar
  cases z : σ[i]? with
  | none => rw [z] at e; cases e
  | some o =>
    rw [z] at e
    cases (show o = some v from e)
    exact q.ok hs v r
def Op2 (K : PySem.W.Frag) (m : R2) (E : XK) (T1 : Ty α) (T2 : Ty β) (g : α → β → Mo γ) (T : Ty γ) : Prop :=
  ∀ a b x y F H (Q : VK), Same F H → T1.R a x F → T2.R b y F → After K (g a b) E F H (fun c F' H' => ∀ v, T.R c v F' → Q v H') → m x y H Q
def Op2O (K : PySem.W.Frag) (m : R2) (E : XK) (T1 : Ty α) (T2 : Ty β) (g : α → β → Mo γ) (O : Own γ) : Prop :=
  ∀ a b x y F H (Q : VK), Same F H → T1.R a x F → T2.R b y F → After K (g a b) E F H (OwnK O H Q) → m x y H Q
theorem OwnK.back {O : Own α} {H H1 : Hp} {Q : VK} {a : α} {F' H' : Hp} (g : Same H H1) (h : OwnK O H Q a F' H') : OwnK O H1 Q a F' H' :=
  fun v k fresh d s o => h v k (fun p z => g.free (fresh p z)) d s o
theorem ev_op {m : R2} {T1 : Ty α} {T2 : Ty β} {T : Ty γ} {g : α → β → Mo γ} {r1 : Mo α} {r2 : Mo β} (hop : Op2 K m E T1 T2 g T) (h1 : EvF K e1 E L r1 T1) (h2 : EvF K e2 E L r2 T2) :
    EvF K (tOp m e1 e2) E L (r1.bind fun a => r2.bind fun b => g a b) T := by
  intro σ F H Q hL hs q
  refine h1 σ F H _ hL hs (q.bind.imp fun a F1 H1 x1 k1 v1 hv1 => ?_)
  refine h2 σ F1 H1 _ (hL.mono x1.1) x1.2.1 (k1.bind.imp fun b F2 H2 x2 k2 v2 hv2 => ?_)
  exact hop a b v1 v2 F2 H2 Q x2.2.1 (T1.mono x2.1 hv1) hv2 k2
theorem ev_opO {m : R2} {T1 : Ty α} {T2 : Ty β} {O : Own γ} {g : α → β → Mo γ} {r1 : Mo α} {r2 : Mo β} (hop : Op2O K m E T1 T2 g O) (h1 : EvF K e1 E L r1 T1) (h2 : EvF K e2 E L r2 T2) :
    EvO K (tOp m e1 e2) E L (r1.bind fun a => r2.bind fun b => g a b) O := by
  intro σ F H Q hL hs q
  refine h1 σ F H _ hL hs (q.bind.imp fun a F1 H1 x1 k1 v1 hv1 => ?_)
  refine h2 σ F1 H1 _ (hL.mono x1.1) x1.2.1 (k1.bind.imp fun b F2 H2 x2 k2 v2 hv2 => ?_)
  exact hop a b v1 v2 F2 H2 Q x2.2.1 (T1.mono x2.1 hv1) hv2 (k2.imp fun c F3 H3 x3 k3 => k3.back (x1.2.2.1.trans x2.2.2.1))
theorem op_i0 {g : Int → Int → V} {f : Int → Int → α} (h : ∀ i j F, T.R (f i j) (g i j) F) : Op2 K (mI0 g) E tyInt tyInt (fun i j => .ok (f i j)) T := by
  intro a b x y F H Q hs hx hy q
  cases hx; cases hy
  exact q.ok hs _ (h a b F)
theorem op_i {C : Int → Int → Prop} [∀ i j, Decidable (C i j)] {g : Int → Int → V} {f : Int → Int → α} (h : ∀ i j F, T.R (f i j) (g i j) F) : Op2 K (mI C g) E tyInt tyInt (fun i j => .grd (C i j) (.ok (f i j))) T := by
  intro a b x y F H Q hs hx hy q
  cases hx; cases hy
  obtain ⟨c, q⟩ := q.grd
  exact ⟨c, q.ok hs _ (h a b F)⟩
instance (i j : Int) : Decidable (CMul i j) := inferInstanceAs (Decidable (_ ∨ _))
instance (i j : Int) : Decidable (CDiv i j) := inferInstanceAs (Decidable (_ ∧ _))
instance (i j : Int) : Decidable (CPow i j) := inferInstanceAs (Decidable (_ ∧ _ ∧ _))
theorem op_addI : Op2 K mAdd E tyInt tyInt (fun i j => .ok (i + j)) tyInt := by
  intro a b x y F H Q hs hx hy q
  cases hx; cases hy
  exact q.ok hs _ rfl
theorem op_subI : Op2 K mSub E tyInt tyInt (fun i j => .ok (i - j)) tyInt := op_i0 fun _ _ _ => rfl
theorem op_modI : Op2 K mMod E tyInt tyInt (fun i j => .grd (0 < j) (.ok (i % j))) tyInt := op_i (C := fun _ j => 0 < j) fun _ _ _ => rfl
theorem op_geI : Op2 K mGe E tyInt tyInt (fun i j => .ok (decide (j ≤ i))) tyBl := op_i0 fun _ _ _ => rfl
theorem op_addS : Op2 K mAdd E tyStr tyStr (fun i j => .lim (i.length + j.length) (.ok (i ++ j))) tyStr := by
  intro a b x y F H Q hs hx hy q
  cases hx; cases hy
  obtain ⟨c, q⟩ := q.lim
  exact ⟨c, q.ok hs _ rfl⟩
theorem Prs.append {xs ys : List α} {vs us : List V} (a : Prs T H xs vs) (b : Prs T H ys us) : Prs T H (xs ++ ys) (vs ++ us) := by
  induction a with
  | nil => exact b
  | cons r t ih => exact .cons r ih
theorem Prs.len {xs : List α} {vs : List V} (a : Prs T H xs vs) : xs.length = vs.length := Paired.length a
theorem Prs.get {xs : List α} {vs : List V} (a : Prs T H xs vs) (i : Nat) : (xs[i]? = none ∧ vs[i]? = none) ∨ ∃ x v, xs[i]? = some x ∧ vs[i]? = some v ∧ T.R x v H := by
  induction a generalizing i with
  | nil => exact .inl ⟨rfl, rfl⟩
  | cons r t ih =>
    cases i with
    | zero => exact .inr ⟨_, _, rfl, rfl, r⟩
    | succ i => simpa using ih i
theorem Prs.take {xs : List α} {vs : List V} (a : Prs T H xs vs) (n : Nat) : Prs T H (xs.take n) (vs.take n) := by
  induction a generalizing n with
  | nil => rw [List.take_nil, List.take_nil]; exact .nil
  | cons r t ih =>
    cases n with
    | zero => exact .nil
    | succ n => exact .cons r (ih n)
theorem Prs.drop {xs : List α} {vs : List V} (a : Prs T H xs vs) (n : Nat) : Prs T H (xs.drop n) (vs.drop n) := by
  induction a generalizing n with
  | nil => rw [List.drop_nil, List.drop_nil]; exact .nil
  | cons r t ih =>
    cases n with
    | zero => exact .cons r t
    | succ n => exact ih n
theorem Prs.rev {xs : List α} {vs : List V} (a : Prs T H xs vs) : Prs T H xs.reverse vs.reverse := by
  induction a with
  | nil => exact .nil
  | cons r t ih => rw [List.reverse_cons, List.reverse_cons]; exact Prs.append ih (.cons r .nil)
theorem Prs.set {xs : List α} {vs : List V} (a : Prs T H xs vs) (i : Nat) {x : α} {v : V} (q : T.R x v H) : Prs T H (xs.set i x) (vs.set i v) := by
  induction a generalizing i with
  | nil => exact .nil
  | cons r t ih =>
    cases i with
    | zero => exact .cons q t
    | succ i => exact .cons r (ih i)
theorem own_new {vs : List V} {xs : List α} {p : Addr} {F' H' : Hp} {Q : VK} (hp : H p = none) (h2 : H' p = some (.lst vs)) (hf : F' p = none) (hr : Prs T F' xs vs) (q : OwnK (owL T) H Q xs F' H') : Q (.ref p) H' := by
  refine q (.ref p) (one p (.lst vs)) (fun b z => ?_) (fun b => ?_) (fun b o z => ?_) ⟨p, vs, rfl, rfl, hr⟩
  · unfold one at z; split at z
    · rename_i e; rw [e]; exact hp
    · exact absurd rfl z
  · unfold one; split
    · rename_i e; rw [e]; exact .inl hf
    · exact .inr rfl
  · unfold one at z; split at z
    · rename_i e; rw [e]; cases z; exact h2
    · cases z
theorem own_upd {vs : List V} {xs : List α} {p : Addr} {Q : VK} (hs : Same F H) (hp : H p = none) (hr : Prs T F xs vs) (q : After K (.ok xs) E F H (OwnK (owL T) H Q)) : Q (.ref p) (upd H p (.lst vs)) :=
  own_new hp upd_same (hs.free hp) hr (q F _ (.heap hs (same_new hp _)))
theorem op_addL : Op2O K mAdd E (tyL T) (tyL T) (fun i j => .lim (i.length + j.length) (.ok (i ++ j))) (owL T) := by
  rintro a b x y F H Q hs ⟨p, vs, rfl, h1, r1⟩ ⟨p2, us, rfl, h2, r2⟩ q
  obtain ⟨c, q⟩ := q.lim
  exact ⟨vs, us, hs _ _ h1, hs _ _ h2, by rw [← r1.len, ← r2.len]; exact c, fun p hp => own_upd hs hp (r1.append r2) q⟩
theorem ea_last (h : EvF K e E L r T) : EvA K (tCons e tNil) E L r (csLast T) := by
  intro σ F H Q hL hs q
  exact h σ F H _ hL hs (q.imp fun a F1 H1 x k v hv => k [v] ⟨v, rfl, hv⟩)
theorem ea_cons {ta : TA} {r2 : Mo γ} {C : Cs γ} (h : EvF K e E L r T) (h2 : EvA K ta E L r2 C) : EvA K (tCons e ta) E L (r.bind fun a => r2.bind fun c => .ok (a, c)) (csCons T C) := by
  intro σ F H Q hL hs q
  refine h σ F H _ hL hs (q.bind.imp fun a F1 H1 x1 k1 v1 hv1 => ?_)
  refine h2 σ F1 H1 _ (hL.mono x1.1) x1.2.1 (k1.bind.imp fun c F2 H2 x2 k2 vs hvs => ?_)
  exact k2.ok x2.2.1 (v1 :: vs) ⟨v1, vs, rfl, T.mono x2.1 hv1, hvs⟩
def Ct (K : PySem.W.Frag) (C : Cs γ) (f : γ → Mo ρ) (O : Own ρ) : Sp := fun vs H Q E => ∃ F c, Same F H ∧ C.R c vs F ∧ After K (f c) E F H (OwnK O H Q)
theorem ev_call {C : Cs γ} {f : γ → Mo ρ} {O : Own ρ} {ta : TA} {r : Mo γ} (h : EvA K ta E L r C) : EvO K (tCall (Ct K C f O) [] E ta) E L (r.bind f) O := by
  intro σ F H Q hL hs q
  refine h σ F H _ hL hs (q.bind.imp fun c F1 H1 x1 k1 vs hvs => ?_)
  rw [List.append_nil]
  exact ⟨F1, c, x1.2.1, hvs, k1.imp fun r F2 H2 x2 k2 => k2.back x1.2.2.1⟩
theorem ev_call0 {C : Cs γ} {f : γ → Mo ρ} {O : Own ρ} {ta : TA} {r : Mo γ} (h : EvA K ta E L r C) : EvO K (tCall (Ct K C f O) [] E0 ta) E L (r.bind fun c => (f c).noex) O := by
  intro σ F H Q hL hs q
  refine h σ F H _ hL hs (q.bind.imp fun c F1 H1 x1 k1 vs hvs => ?_)
  rw [List.append_nil]
  exact ⟨F1, c, x1.2.1, hvs, k1.noex.imp fun r F2 H2 x2 k2 => k2.back x1.2.2.1⟩
def Bl (K : PySem.W.Frag) (m : List V → Hp → VK → Prop) (E : XK) (C : Cs γ) (g : γ → Mo α) (T : Ty α) : Prop :=
  ∀ c vs F H (Q : VK), Same F H → C.R c vs F → After K (g c) E F H (fun c F' H' => ∀ v, T.R c v F' → Q v H') → m vs H Q
def BlO (K : PySem.W.Frag) (m : List V → Hp → VK → Prop) (E : XK) (C : Cs γ) (g : γ → Mo α) (O : Own α) : Prop :=
  ∀ c vs F H (Q : VK), Same F H → C.R c vs F → After K (g c) E F H (OwnK O H Q) → m vs H Q
theorem ev_cb {m : List V → Hp → VK → Prop} {C : Cs γ} {g : γ → Mo α} {ta : TA} {r : Mo γ} (hb : Bl K m E C g T) (h : EvA K ta E L r C) : EvF K (tCB m ta) E L (r.bind g) T := by
  intro σ F H Q hL hs q
  exact h σ F H _ hL hs (q.bind.imp fun c F1 H1 x1 k1 vs hvs => hb c vs F1 H1 Q x1.2.1 hvs k1)
theorem ev_cbO {m : List V → Hp → VK → Prop} {C : Cs γ} {g : γ → Mo α} {O : Own α} {ta : TA} {r : Mo γ} (hb : BlO K m E C g O) (h : EvA K ta E L r C) : EvO K (tCB m ta) E L (r.bind g) O := by
  intro σ F H Q hL hs q
  exact h σ F H _ hL hs (q.bind.imp fun c F1 H1 x1 k1 vs hvs => hb c vs F1 H1 Q x1.2.1 hvs (k1.imp fun a F2 H2 x2 k2 => k2.back x1.2.2.1))
theorem bl_lenS : Bl K (mLen K) E (csLast tyStr) (fun l => .lim l.length (.ok (l.length : Int))) tyInt := by
  rintro c vs F H Q hs ⟨v, rfl, rfl⟩ q
  obtain ⟨z, q⟩ := q.lim
  exact ⟨z, q.ok hs _ rfl⟩
theorem bl_lenL : Bl K (mLen K) E (csLast (tyL T)) (fun l => .ok (l.length : Int)) tyInt := by
  rintro c vs F H Q hs ⟨v, rfl, p, us, rfl, h, r⟩ q
  exact ⟨us, .inl (.of (hs _ _ h)), q.ok hs _ (by rw [r.len])⟩
theorem bl_lenSc : Bl K (mLen K) E (csLast (tySc K)) (fun l => .ok (l.length : Int)) tyInt := by
  rintro c vs F H Q hs ⟨v, rfl, p, rfl, h⟩ q
  exact ⟨_, .inl (hs.seq h), q.ok hs _ (by rw [List.length_map])⟩
theorem bl_list : BlO K (mList K) E (csLast (tyL T)) (fun l => .ok l) (owL T) := by
  rintro c vs F H Q hs ⟨v, rfl, p, us, rfl, h, r⟩ q
  exact .inl ⟨us, .inl (.of (hs _ _ h)), fun l hl => own_upd hs hl r q⟩
theorem prs_int {xs : List Int} : Prs tyInt H xs (xs.map V.int) := by
  induction xs with
  | nil => exact .nil
  | cons x xs ih => exact .cons rfl ih
theorem op_ixS : Op2 K (mIx K) E tyStr tyInt (fun l i => .lim l.length (.opt ((atI l i).map fun c => [c]))) tyStr := by
  rintro a b x y F H Q hs rfl rfl q
  obtain ⟨z, q⟩ := q.lim
  obtain ⟨l, e, q⟩ := q.opt
  refine ⟨z, ?_⟩
  show (match atI a b with | some c => Q (tx [c]) H | none => False)
  cases e1 : atI a b with
  | none => rw [e1] at e; cases e
  | some c => rw [e1] at e; cases e; exact q.ok hs _ rfl
theorem atI_prs {xs : List α} {vs : List V} (r : Prs T H xs vs) {i : Int} {x : α} (e : atI xs i = some x) : ∃ v, atI vs i = some v ∧ T.R x v H := by
  unfold atI at e ⊢
  rw [← r.len]
  cases e1 : ixN xs.length i with
  | none => rw [e1] at e; cases e
  | some j =>
    rw [e1] at e
    rcases r.get j with ⟨a, b⟩ | ⟨y, v, a, b, c⟩
    · have : xs[j]? = some x := e
      rw [a] at this; cases this
    · have : xs[j]? = some x := e
      rw [a] at this; cases this
      exact ⟨v, b, c⟩
theorem op_ixL : Op2 K (mIx K) E (tyL T) tyInt (fun l i => .opt (atI l i)) T := by
  rintro a b x y F H Q hs ⟨p, vs, rfl, h, r⟩ rfl q
  obtain ⟨l, e, q⟩ := q.opt
  refine ⟨vs, .inl (.of (hs _ _ h)), ?_⟩
  obtain ⟨v, e2, rv⟩ := atI_prs r e
  rw [e2]
  exact q.ok hs v rv
theorem op_ixSc : Op2 K (mIx K) E (tySc K) tyInt (fun l i => .opt (atI l i)) tyInt := by
  rintro a b x y F H Q hs ⟨p, rfl, h⟩ rfl q
  obtain ⟨l, e, q⟩ := q.opt
  refine ⟨_, .inl (hs.seq h), ?_⟩
  obtain ⟨v, e2, rv⟩ := atI_prs (H := F) prs_int e
  rw [e2]
  exact q.ok hs v rv
def CsAt (C : Cs γ) (i : Nat) (T : Ty α) (pr : γ → α) : Prop := ∀ {c vs H}, C.R c vs H → ∃ v, vs[i]? = some v ∧ T.R (pr c) v H
theorem at_last : CsAt (csLast T) 0 T id := fun ⟨v, e, h⟩ => ⟨v, by rw [e]; rfl, h⟩
theorem at_0 {C : Cs γ} : CsAt (csCons T C) 0 T Prod.fst := fun ⟨v, us, e, h, q⟩ => ⟨v, by rw [e]; rfl, h⟩
theorem at_s {C : Cs γ} {i : Nat} {pr : γ → α} {T' : Ty β} (h : CsAt C i T pr) : CsAt (csCons T' C) (i + 1) T (fun c => pr c.2) := fun ⟨v, us, e, _, q⟩ => by
  obtain ⟨w, e2, r⟩ := h q
  exact ⟨w, by rw [e]; exact e2, r⟩
theorem ev_ixT {C : Cs γ} {i : Nat} {pr : γ → α} {r : Mo γ} (ha : CsAt C i T pr) (h : EvF K e E L r (tyTup C)) : EvF K (tOp (mIx K) e (tC (.int i))) E L (r.bind fun c => .ok (pr c)) T := by
  intro σ F H Q hL hs q
  refine h σ F H _ hL hs (q.bind.imp fun c F1 H1 x1 k1 v1 ⟨p, us, ev, hp, hc⟩ => ?_)
  subst ev
  obtain ⟨w, e2, rw'⟩ := ha hc
  refine ⟨us, .inr (.of (x1.2.1 _ _ hp)), ?_⟩
  have e3 : atI us (i : Int) = some w := by
    unfold atI
    rw [ixN_lt (by omega) (by have := (List.getElem?_eq_some_iff.mp e2).1; omega)]
    simpa using e2
  rw [e3]
  exact k1.ok x1.2.1 w rw'
end
end L2
namespace L2
open PySem PySem.Spec PyProof.Rows
section
variable {K : PySem.W.Frag} {E : XK} {α β γ ρ : Type} {F H : Hp} {L : List Sl} {e e1 e2 : TE} {T : Ty α} {r : Mo α}
variable {t t1 t2 : TT} {b b1 b2 : Mo Bool}
theorem et_val (h : EvF K e E L b tyBl) : EvT K (mTest e) E L b := by
  intro σ F H Q hL hs q
  refine h σ F H _ hL hs (q.imp fun a F1 H1 x k v hv => ?_)
  cases hv
  exact k
theorem et_not (h : EvT K t E L b) : EvT K (tNot t) E L (b.bind fun c => .ok (!c)) := by
  intro σ F H Q hL hs q
  exact h σ F H _ hL hs (q.bind.imp fun a F1 H1 x k => k.ok x.2.1)
theorem et_and (h1 : EvT K t1 E L b1) (h2 : EvT K t2 E L b2) : EvT K (mAnd t1 t2) E L (b1.bind fun c => if c then b2 else .ok false) := by
  intro σ F H Q hL hs q
  refine h1 σ F H _ hL hs (q.bind.imp fun a F1 H1 x k => ⟨fun c => ?_, fun c => ?_⟩)
  · rw [if_pos c] at k; exact h2 σ F1 H1 _ (hL.mono x.1) x.2.1 k
  · rw [if_neg (by rw [c]; decide)] at k; exact k.ok x.2.1
theorem et_or (h1 : EvT K t1 E L b1) (h2 : EvT K t2 E L b2) : EvT K (mOr t1 t2) E L (b1.bind fun c => if c then .ok true else b2) := by
  intro σ F H Q hL hs q
  refine h1 σ F H _ hL hs (q.bind.imp fun a F1 H1 x k => ⟨fun c => ?_, fun c => ?_⟩)
  · rw [if_pos c] at k; exact k.ok x.2.1
  · rw [if_neg (by rw [c]; decide)] at k; exact h2 σ F1 H1 _ (hL.mono x.1) x.2.1 k
theorem ev_and (h1 : EvF K e1 E L b1 tyBl) (h2 : EvF K e2 E L b2 tyBl) : EvF K (mAndV e1 e2) E L (b1.bind fun c => if c then b2 else .ok false) tyBl := by
  intro σ F H Q hL hs q
  refine h1 σ F H _ hL hs (q.bind.imp fun a F1 H1 x k v hv => ?_)
  cases hv
  refine ⟨fun c => ?_, fun c => ?_⟩
  · rw [if_pos c] at k; exact h2 σ F1 H1 _ (hL.mono x.1) x.2.1 k
  · rw [if_neg (by rw [c]; decide)] at k; exact k.ok x.2.1 _ rfl
theorem ev_neg {r : Mo Int} (h1 : EvF K e1 E L r tyInt) : EvF K (mNeg e1) E L (r.bind fun c => .ok (-c)) tyInt := by
  intro σ F H Q hL hs q
  refine h1 σ F H _ hL hs (q.bind.imp fun a F1 H1 x k v hv => ?_)
  cases hv
  exact k.ok x.2.1 _ rfl
theorem After.more {k : α → Hp → Hp → Prop} (h : After K r E F H k) : After K r E F H fun a F1 H1 => ∀ F2 H2, Ext F1 H1 F2 H2 → k a F2 H2 := by
  cases r with
  | ok a => exact fun F1 H1 x F2 H2 y => h F2 H2 (x.trans y)
  | ex c => exact h
  | no => exact h
def CsN (C : Cs γ) (n : Nat) : Prop := ∀ {c vs H}, C.R c vs H → vs.length = n
theorem csn_last : CsN (csLast T) 1 := fun ⟨v, e, _⟩ => by rw [e]; rfl
theorem csn_cons {C : Cs γ} {n : Nat} (h : CsN C n) : CsN (csCons T C) (n + 1) := fun ⟨v, us, e, _, q⟩ => by rw [e, List.length_cons, h q]
theorem ev_tup {ta : TA} {C : Cs γ} {r : Mo γ} {n : Nat} (hl : CsN C n) (h : EvA K ta E L r C) (hn : n ≤ 100 := by decide) : EvF K (tTup ta) E L r (tyTup C) := by
  intro σ F H Q hL hs q
  refine h σ F H _ hL hs (q.more.imp fun c F1 H1 x1 k1 vs hvs => ⟨small_n (by rw [hl hvs]; omega), fun p hp => ?_⟩)
  have x := Ext.new (o := .tup vs) x1.2.1 hp
  exact k1 _ _ x _ ⟨p, vs, rfl, upd_same, C.mono x.1 hvs⟩
def CsL (C : Cs γ) (T : Ty α) (f : γ → List α) : Prop := ∀ {c vs H}, C.R c vs H → Prs T H (f c) vs
theorem csl_last : CsL (csLast T) T fun a => [a] := fun ⟨v, e, h⟩ => by rw [e]; exact .cons h .nil
theorem csl_cons {C : Cs γ} {f : γ → List α} (h : CsL C T f) : CsL (csCons T C) T fun c => c.1 :: f c.2 := fun ⟨v, us, e, q, z⟩ => by rw [e]; exact .cons q (h z)
theorem ev_lst {ta : TA} {C : Cs γ} {r : Mo γ} {n : Nat} {f : γ → List α} (hl : CsN C n) (hf : CsL C T f) (h : EvA K ta E L r C) (hn : n ≤ 100 := by decide) : EvO K (tLst ta) E L (r.bind fun c => .ok (f c)) (owL T) := by
  intro σ F H Q hL hs q
  refine h σ F H _ hL hs (q.bind.imp fun c F1 H1 x1 k1 vs hvs => ⟨small_n (by rw [hl hvs]; omega), fun p hp => ?_⟩)
  exact own_upd x1.2.1 hp (hf hvs) (k1.imp fun a F2 H2 x2 k2 => k2.back x1.2.2.1)
theorem ev_lst0 (T : Ty α) : EvO K (tLst tNil) E L (.ok []) (owL T) := by
  intro σ F H Q hL hs q
  exact ⟨Nat.zero_le _, fun p hp => own_upd hs hp (T := T) .nil q⟩
def EvP (K : PySem.W.Frag) (t : TO) (E : XK) (L : List Sl) (r : Mo (Option Int)) : Prop :=
  ∀ σ F H (Q : Option Int → Hp → Prop), HoldF L σ F → Same F H → After K r E F H (fun b _ H' => Q b H') → t σ H Q
theorem ep_no : EvP K tNoPart E L (.ok none) := fun σ F H Q hL hs q => q.ok hs
theorem ep_of {r : Mo Int} (h : EvF K e E L r tyInt) : EvP K (mPart e) E L (r.bind fun i => .ok (some i)) := by
  intro σ F H Q hL hs q
  refine h σ F H _ hL hs (q.bind.imp fun a F1 H1 x k v hv => ?_)
  cases hv
  exact k.ok x.2.1
def cutG (xs : List α) (lo hi : Option Int) : List α := (xs.drop (HT.sIx xs.length 0 lo)).take (HT.sIx xs.length xs.length hi - HT.sIx xs.length 0 lo)
theorem prs_cut {xs : List α} {vs : List V} (q : Prs T H xs vs) (lo hi : Option Int) : Prs T H (cutG xs lo hi) (cutV vs lo hi) := by
  unfold cutG cutV
  rw [← q.len]
  exact (q.drop _).take _
variable {tl th : TO} {rl rh : Mo (Option Int)}
theorem ev_slL {r : Mo (List α)} (h : EvF K e E L r (tyL T)) (hl : EvP K tl E L rl) (hh : EvP K th E L rh) : EvO K (tSl (mSl K) e tl th) E L (r.bind fun l => rl.bind fun a => rh.bind fun b => .ok (cutG l a b)) (owL T) := by
  intro σ F H Q hL hs q
  refine h σ F H _ hL hs (q.bind.imp fun l F1 H1 x1 k1 v hv => ?_)
  refine hl σ F1 H1 _ (hL.mono x1.1) x1.2.1 (k1.bind.imp fun a F2 H2 x2 k2 => ?_)
  refine hh σ F2 H2 _ (hL.mono (x1.1.trans x2.1)) x2.2.1 (k2.bind.imp fun b F3 H3 x3 k3 => ?_)
  obtain ⟨p, vs, rfl, hp, hr⟩ := hv
  have x := x2.1.trans x3.1
  exact ⟨vs, .of (x3.2.1 _ _ (x _ _ hp)), fun q hq => own_upd x3.2.1 hq (prs_cut (hr.mono x) a b) (k3.imp fun _ _ _ _ z => z.back ((x1.2.2.1.trans x2.2.2.1).trans x3.2.2.1))⟩
theorem ev_slSc {r : Mo (List Int)} (h : EvF K e E L r (tySc K)) (hl : EvP K tl E L rl) (hh : EvP K th E L rh) : EvO K (tSl (mSl K) e tl th) E L (r.bind fun l => rl.bind fun a => rh.bind fun b => .ok (cutG l a b)) (owL tyInt) := by
  intro σ F H Q hL hs q
  refine h σ F H _ hL hs (q.bind.imp fun l F1 H1 x1 k1 v hv => ?_)
  refine hl σ F1 H1 _ (hL.mono x1.1) x1.2.1 (k1.bind.imp fun a F2 H2 x2 k2 => ?_)
  refine hh σ F2 H2 _ (hL.mono (x1.1.trans x2.1)) x2.2.1 (k2.bind.imp fun b F3 H3 x3 k3 => ?_)
  obtain ⟨p, rfl, hp⟩ := hv
  have x := x2.1.trans x3.1
  exact ⟨_, x3.2.1.seq (x.seq hp), fun q hq => own_upd x3.2.1 hq (prs_cut prs_int a b) (k3.imp fun _ _ _ _ z => z.back ((x1.2.2.1.trans x2.2.2.1).trans x3.2.2.1))⟩
theorem ev_rev {r : Mo (List α)} (h : EvF K e E L r (tyL T)) (hl : EvP K tl E L (.ok (some (-1)))) : EvO K (tRev K e tl) E L (r.bind fun l => .ok l.reverse) (owL T) := by
  intro σ F H Q hL hs q
  refine h σ F H _ hL hs (q.bind.imp fun l F1 H1 x1 k1 v hv => ?_)
  refine hl σ F1 H1 _ (hL.mono x1.1) x1.2.1 (fun F2 H2 x2 => ?_)
  obtain ⟨p, vs, rfl, hp, hr⟩ := hv
  refine ⟨rfl, vs, .of (x2.2.1 _ _ (x2.1 _ _ hp)), fun q hq => ?_⟩
  refine own_new hq upd_same (x2.2.1.free hq) (hr.mono x2.1).rev (((k1 F2 _ ?_)).back (x1.2.2.1.trans x2.2.2.1))
  exact x2.trans (.heap x2.2.1 (same_new hq _))
structure EqT (K : PySem.W.Frag) (T : Ty α) (n : Nat) (q : α → α → Bool) : Prop where
  eq : ∀ {a b x y H}, T.R a x H → T.R b y H → EqD K H n x y (q a b)
theorem eqt_str : EqT K tyStr 0 (fun a b => decide (a = b)) := ⟨by
  rintro a b x y H rfl rfl
  have : eqV (tx a) (tx b) = decide (a = b) := by
    unfold eqV
    rw [Bool.eq_iff_iff, decide_eq_true_iff]
    constructor
    · intro h
      have h := eq_of_beq h
      injection h with h
      have := congrArg Array.toList h
      simpa using this
    · rintro rfl; exact beq_self_eq_true _
  rw [← this]; exact .flat rfl rfl⟩
def eqL (q : α → α → Bool) : List α → List α → Bool
  | [], [] => true
  | x :: xs, y :: ys => q x y && eqL q xs ys
  | _, _ => false
theorem eqL_len {q : α → α → Bool} : ∀ {xs ys : List α}, xs.length ≠ ys.length → eqL q xs ys = false
  | [], [], h => absurd rfl h
  | [], _ :: _, _ => rfl
  | _ :: _, [], _ => rfl
  | x :: xs, y :: ys, h => by unfold eqL; rw [eqL_len (by simpa using h), Bool.and_false]
theorem eqL_all {q : α → α → Bool} : ∀ {xs ys : List α}, xs.length = ys.length → eqL q xs ys = (List.range xs.length).all fun i => match xs[i]?, ys[i]? with | some x, some y => q x y | _, _ => true
  | [], [], _ => rfl
  | x :: xs, y :: ys, h => by
    unfold eqL
    rw [List.length_cons, List.range_succ_eq_map, List.all_cons, List.all_map, eqL_all (by simpa using h)]
    rfl
theorem eqt_l {n : Nat} {q : α → α → Bool} (h : EqT K T n q) : EqT K (tyL T) (n + 1) (eqL q) := ⟨by
  rintro a b x y H ⟨p, vs, rfl, hp, hr⟩ ⟨p2, us, rfl, hp2, hr2⟩
  by_cases hl : a.length = b.length
  · rw [eqL_all hl, hr.len]
    refine .lst _ (.of hp) (.of hp2) (by rw [← hr.len, ← hr2.len, hl]) fun i x y hx hy => ?_
    rcases hr.get i with ⟨_, z⟩ | ⟨x1, v1, e1, e2, r1⟩
    · rw [z] at hx; cases hx
    rcases hr2.get i with ⟨_, z⟩ | ⟨x2, v2, e3, e4, r2⟩
    · rw [z] at hy; cases hy
    rw [e2] at hx; cases hx
    rw [e4] at hy; cases hy
    simp only [e1, e3]
    exact h.eq r1 r2
  · rw [eqL_len hl]
    exact .lstN (.of hp) (.of hp2) (by rw [← hr.len, ← hr2.len]; exact hl)⟩
theorem EqD.le {H : Hp} {n m : Nat} {x y : V} {b : Bool} (h : EqD K H n x y b) (g : n ≤ m) : EqD K H m x y b := by
  induction g with
  | refl => exact h
  | step _ ih => exact .up ih
theorem op_eqR {n : Nat} {q : α → α → Bool} (h : EqT K T n q) (hn : n ≤ 50 := by decide) (hr : ∀ {a x H}, T.R a x H → ∃ p, x = .ref p) : Op2 K (mEqK K) E T T (fun a b => .ok (q a b)) tyBl := by
  intro a b x y F H Q hs hx hy k
  have hd := h.eq (T.mono hs hx) (T.mono hs hy)
  obtain ⟨p, rfl⟩ := hr hx
  obtain ⟨p2, rfl⟩ := hr hy
  exact ⟨n, _, hn, hd, k.ok hs _ rfl⟩
theorem op_neR {n : Nat} {q : α → α → Bool} (h : EqT K T n q) (hn : n ≤ 50 := by decide) (hr : ∀ {a x H}, T.R a x H → ∃ p, x = .ref p) : Op2 K (mNeK K) E T T (fun a b => .ok (!(q a b))) tyBl := by
  intro a b x y F H Q hs hx hy k
  have hd := h.eq (T.mono hs hx) (T.mono hs hy)
  obtain ⟨p, rfl⟩ := hr hx
  obtain ⟨p2, rfl⟩ := hr hy
  exact ⟨n, _, hn, hd, k.ok hs _ rfl⟩
theorem ref_l {a : List α} {x : V} {H : Hp} (h : (tyL T).R a x H) : ∃ p, x = .ref p := by obtain ⟨p, _, e, _⟩ := h; exact ⟨p, e⟩
theorem op_eqL {n : Nat} {q : α → α → Bool} (h : EqT K (tyL T) n (eqL q)) (hn : n ≤ 50 := by decide) : Op2 K (mEqK K) E (tyL T) (tyL T) (fun a b => .ok (eqL q a b)) tyBl := op_eqR h hn ref_l
theorem op_neL {n : Nat} {q : α → α → Bool} (h : EqT K (tyL T) n (eqL q)) (hn : n ≤ 50 := by decide) : Op2 K (mNeK K) E (tyL T) (tyL T) (fun a b => .ok (!(eqL q a b))) tyBl := op_neR h hn ref_l
theorem op_eqI : Op2 K (mEqK K) E tyInt tyInt (fun a b => .ok (decide (a = b))) tyBl := by
  rintro a b x y F H Q hs rfl rfl k
  exact k.ok hs _ rfl
theorem op_neI : Op2 K (mNeK K) E tyInt tyInt (fun a b => .ok (!decide (a = b))) tyBl := by
  rintro a b x y F H Q hs rfl rfl k
  exact k.ok hs _ rfl
theorem op_eqS : Op2 K (mEqK K) E tyStr tyStr (fun a b => .ok (decide (a = b))) tyBl := by
  rintro a b x y F H Q hs rfl rfl k
  exact k.ok hs _ rfl
theorem op_neS : Op2 K (mNeK K) E tyStr tyStr (fun a b => .ok (!decide (a = b))) tyBl := by
  rintro a b x y F H Q hs rfl rfl k
  exact k.ok hs _ rfl
theorem op_isNo : Op2 K mIs E (tyOpt T) tyNon (fun a _ => .ok a.isNone) tyBl := by
  rintro a b x y F H Q hs hx rfl k
  have : decide (x = .non) = a.isNone := by
    cases a with
    | none => cases hx; rfl
    | some a => exact decide_eq_false hx.2
  show (match mIsB x .non with | some b => Q (.bl b) H | none => False)
  have e : mIsB x .non = some (decide (x = .non)) := rfl
  rw [e, this]
  exact k.ok hs _ rfl
theorem op_inS : Op2 K (mIn K false) E tyStr tyStr (fun a b => .ok (inS a b)) tyBl := by
  rintro a b x y F H Q hs rfl rfl k
  exact k.ok hs _ rfl
structure Flt (T : Ty α) (q : α → α → Bool) : Prop where
  flat : ∀ {a x H}, T.R a x H → flatV x = true
  eq : ∀ {a b x y H}, T.R a x H → T.R b y H → eqV x y = q a b
theorem flt_int : Flt tyInt (fun a b => decide (a = b)) := ⟨fun h => by cases h; rfl, fun h h' => by cases h; cases h'; unfold eqV; exact rfl⟩
theorem inV_prs {q : α → α → Bool} (f : Flt T q) {H : Hp} {a : α} {x : V} (ha : T.R a x H) {xs : List α} {vs : List V} (r : Prs T H xs vs) : vs.all flatV = true ∧ inV x vs = xs.any fun y => q y a := by
  induction r with
  | nil => exact ⟨rfl, rfl⟩
  | cons r t ih =>
    refine ⟨by rw [List.all_cons, f.flat r, ih.1]; rfl, ?_⟩
    unfold inV at ih ⊢
    rw [List.any_cons, List.any_cons, f.eq r ha, ih.2]
theorem op_ninL {q : α → α → Bool} (f : Flt T q) : Op2 K (mIn K true) E T (tyL T) (fun a b => .ok (!(b.any fun y => q y a))) tyBl := by
  rintro a b x y F H Q hs hx ⟨p, vs, rfl, hp, hr⟩ k
  obtain ⟨h1, h2⟩ := inV_prs f hx hr
  refine ⟨vs, .inl (.of (hs _ _ hp)), f.flat hx, h1, ?_⟩
  rw [h2]
  exact k.ok hs _ rfl
def TyN (K : PySem.W.Frag) (T : Ty α) (n : String) : Prop := ∀ {a x H}, T.R a x H → tyS K H x n
theorem tn_str : TyN K tyStr "str" := fun h => by cases h; rfl
theorem tn_l : TyN K (tyL T) "list" := fun ⟨p, vs, e, h, _⟩ => by subst e; exact .inl ⟨rfl, vs, h⟩
theorem isa_any {x : V} {n c : String} {bb : Bool} {Q : VK} (h : tyS K H x n) (hb : isaB n c = some bb) (q : Q (.bl bb) H) : mIsa K [x, .ty c] H Q := by
  cases x with
  | non => cases (show n = _ from h); show (match isaB "NoneType" c with | some b => Q (.bl b) H | none => False); rw [hb]; exact q
  | bl _ => cases (show n = _ from h); show (match isaB "bool" c with | some b => Q (.bl b) H | none => False); rw [hb]; exact q
  | int _ => cases (show n = _ from h); show (match isaB "int" c with | some b => Q (.bl b) H | none => False); rw [hb]; exact q
  | str _ => cases (show n = _ from h); show (match isaB "str" c with | some b => Q (.bl b) H | none => False); rw [hb]; exact q
  | ref p => exact ⟨n, h, by rw [hb]; exact q⟩
  | _ => exact h.elim
theorem ev_isa {n c : String} {bb : Bool} (hn : TyN K T n) (h : EvF K e E L r T) (hb : isaB n c = some bb := by decide) : EvF K (tCB (mIsa K) (tCons e (tCons (tC (.ty c)) tNil))) E L (r.bind fun _ => .ok bb) tyBl := by
  intro σ F H Q hL hs q
  refine h σ F H _ hL hs (q.bind.imp fun l F1 H1 x1 k1 v hv => ?_)
  exact isa_any (hn (T.mono x1.2.1 hv)) hb (k1.ok x1.2.1 _ rfl)
def Me (K : PySem.W.Frag) (m : V → List V → Hp → VK → Prop) (E : XK) (C : Cs γ) (g : List Nat → γ → Mo α) (T : Ty α) : Prop :=
  ∀ l c vs F H (Q : VK), Same F H → C.R c vs F → After K (g l c) E F H (fun c F' H' => ∀ v, T.R c v F' → Q v H') → m (tx l) vs H Q
theorem ev_me {m : V → List V → Hp → VK → Prop} {C : Cs γ} {g : List Nat → γ → Mo α} {ta : TA} {r0 : Mo (List Nat)} {r : Mo γ} (hb : Me K m E C g T) (h0 : EvF K e E L r0 tyStr) (h : EvA K ta E L r C) : EvF K (tBM K "str" m e ta) E L (r0.bind fun l => r.bind fun c => g l c) T := by
  intro σ F H Q hL hs q
  refine h0 σ F H _ hL hs (q.bind.imp fun l F1 H1 x1 k1 v hv => ?_)
  cases hv
  refine ⟨rfl, h σ F1 H1 _ (hL.mono x1.1) x1.2.1 (k1.bind.imp fun c F2 H2 x2 k2 vs hvs => hb l c vs F2 H2 Q x2.2.1 hvs k2)⟩
theorem me_index : Me K mIndex E (csLast tyStr) (fun l c => .grd (findS l c ≠ -1) (.ok (findS l c))) tyInt := by
  rintro l c vs F H Q hs ⟨v, rfl, rfl⟩ k
  obtain ⟨z, k⟩ := k.grd
  exact ⟨z, k.ok hs _ rfl⟩
end
end L2
namespace L2
open PySem PySem.Spec PyProof.Rows
section
variable {K : PySem.W.Frag} {E : XK} {α β γ ρ S S' B : Type} {F H : Hp} {L : List Sl} {e e1 e2 : TE} {T : Ty α} {r : Mo α}
def setL (L : List Sl) (ss : List (Nat × Sl)) : List Sl := ss.foldl (fun L q => L.set q.1 q.2) L
def setS (σ : St) (ss : List (Nat × Option V)) : St := ss.foldl (fun L q => L.set q.1 q.2) σ
inductive Plain (F : Hp) : List (Nat × Sl) → List (Nat × Option V) → Prop
  | nil : Plain F [] []
  | cons {α : Type} {T : Ty α} {a : α} {i : Nat} {v : V} {ss vs} (h : T.R a v F) (t : Plain F ss vs) : Plain F ((i, .fz T a) :: ss) ((i, some v) :: vs)
def TgR (K : PySem.W.Frag) (g : TG) (T : Ty α) (ss : α → List (Nat × Sl)) : Prop :=
  ∀ a v σ F H (Q : St → Hp → Prop), Same F H → T.R a v F → (∀ vs, Plain F (ss a) vs → Q (setS σ vs) H) → g v σ H Q
theorem tg_name (i : Nat) : TgR K (gName i) T fun a => [(i, .fz T a)] := by
  intro a v σ F H Q hs hv q
  exact q [(i, some v)] (.cons hv .nil)
def TgC (K : PySem.W.Frag) (g : TGs) (C : Cs γ) (ss : γ → List (Nat × Sl)) : Prop :=
  ∀ a vs σ F H (Q : St → Hp → Prop), Same F H → C.R a vs F → (∀ us, Plain F (ss a) us → Q (setS σ us) H) → g vs σ H Q
theorem tc_last {g : TG} {ss : α → List (Nat × Sl)} (h : TgR K g T ss) : TgC K (gConsM g gNilM) (csLast T) ss := by
  rintro a vs σ F H Q hs ⟨v, rfl, hv⟩ q
  exact h a v σ F H _ hs hv fun us hu => q us hu
theorem tc_cons (i : Nat) {g : TGs} {C : Cs γ} {ss : γ → List (Nat × Sl)} (h : TgC K g C ss) : TgC K (gConsM (gName i) g) (csCons T C) fun c => (i, .fz T c.1) :: ss c.2 := by
  rintro a vs σ F H Q hs ⟨v, us, rfl, hv, hc⟩ q
  exact h a.2 us _ F H _ hs hc fun ws hw => q ((i, some v) :: ws) (.cons hv hw)
theorem tg_tup {n : Nat} {g : TGs} {C : Cs γ} {ss : γ → List (Nat × Sl)} (hn : CsN C n) (h : TgC K g C ss) : TgR K (gTupM K n g) (tyTup C) ss := by
  rintro a v σ F H Q hs ⟨p, us, rfl, hp, hc⟩ q
  exact ⟨us, .of (hs _ _ hp), hn hc, h a us σ F H Q hs hc q⟩
theorem getj_set {σ : St} {i j : Nat} {o : Option V} (h : i < σ.length) : ((σ.set i o)[j]?).join = if i = j then o else (σ[j]?).join := by
  rw [List.getElem?_set]
  split
  · rename_i e; subst e; first | rfl | (rw [if_pos h]; rfl)
  · rfl
theorem holdF_set {σ : St} {i : Nat} {s : Sl} {o : Option V} (hl : L.length = σ.length) (h : HoldF L σ F) (hs : s.Z o F) : HoldF (L.set i s) (σ.set i o) F := by
  intro j t e
  rw [List.getElem?_set] at e
  split at e
  · rename_i z; subst z
    split at e
    · rename_i y; cases e
      rw [getj_set (by rw [← hl]; exact y), if_pos rfl]; exact hs
    · cases e
  · rename_i z
    by_cases y : i < σ.length
    · rw [getj_set y, if_neg z]; exact h j t e
    · rw [List.set_eq_of_length_le (by omega)]; exact h j t e
theorem holdF_plain {ss : List (Nat × Sl)} {vs : List (Nat × Option V)} (p : Plain F ss vs) : ∀ {L : List Sl} {σ : St}, L.length = σ.length → HoldF L σ F → HoldF (setL L ss) (setS σ vs) F ∧ (setS σ vs).length = σ.length ∧ (setL L ss).length = L.length := by
  induction p with
  | nil => exact fun hl h => ⟨h, rfl, rfl⟩
  | cons hv t ih =>
    rename_i T a i v ss vs
    intro L σ hl h
    obtain ⟨a1, b, c⟩ := ih (L := L.set i (.fz T a)) (σ := σ.set i (some v)) (by rw [List.length_set, List.length_set]; exact hl) (holdF_set (s := .fz T a) hl h ⟨v, rfl, hv⟩)
    exact ⟨a1, b.trans (by rw [List.length_set]), c.trans (by rw [List.length_set])⟩
def DeadAt (L : List Sl) (is : List Nat) : Prop := ∀ i ∈ is, ∀ s, L[i]? = some s → s = .dead
theorem holdF_dead {ss : List (Nat × Sl)} {vs : List (Nat × Option V)} (p : Plain F ss vs) : ∀ {L : List Sl} {σ : St}, L.length = σ.length → DeadAt L (ss.map (·.1)) → HoldF L σ F → HoldF L (setS σ vs) F := by
  induction p with
  | nil => exact fun hl d h => h
  | cons hv t ih =>
    rename_i i v ss vs
    intro L σ hl d h
    refine ih (σ := σ.set i (some v)) (by rw [List.length_set]; exact hl) (fun j hj => d j (List.mem_cons_of_mem _ hj)) fun j s e => ?_
    by_cases y : i < σ.length
    · rw [getj_set y]
      split
      · rename_i z; subst z
        rw [d i List.mem_cons_self s e]; trivial
      · exact h j s e
    · rw [List.set_eq_of_length_le (by omega)]; exact h j s e
theorem setS_get {ss : List (Nat × Sl)} {vs : List (Nat × Option V)} (p : Plain F ss vs) {j : Nat} : ∀ {σ : St}, j ∉ ss.map (·.1) → (setS σ vs)[j]? = σ[j]? := by
  induction p with
  | nil => exact fun _ => rfl
  | cons hv t ih =>
    rename_i i v ss vs
    intro σ hj
    have h1 : i ≠ j := fun z => hj (by rw [← z]; exact List.mem_cons_self)
    have h2 := ih (σ := σ.set i (some v)) fun z => hj (List.mem_cons_of_mem _ z)
    exact h2.trans (List.getElem?_set_ne h1)
structure Yl (K : PySem.W.Frag) (J : It) (xs : List α) (T : Ty α) (F1 : Hp) : Prop where
  go : ∀ i H x, Same F1 H → xs[i]? = some x → J.go i H ∧ ∀ v H', J.yld i H v H' → ∀ F, Same F1 F → Same F H → ∃ F', Ext F H F' H' ∧ T.R x v F'
  stop : ∀ H, Same F1 H → J.stop xs.length H
def EvI (K : PySem.W.Frag) (wi : TI) (E : XK) (L : List Sl) (r : Mo (List α)) (T : Ty α) : Prop :=
  ∀ σ F H (R : It → Hp → Prop), HoldF L σ F → Same F H → After K r E F H (fun xs F' H' => ∀ J, Yl K J xs T F' → R J H') → wi σ H R
theorem ei_str {r : Mo (List Nat)} (h : EvF K e E L r tyStr) : EvI K (iAny K e) E L (r.bind fun l => .ok (l.map fun c => [c])) tyStr := by
  intro σ F H R hL hs q
  refine h σ F H _ hL hs (q.bind.imp fun l F1 H1 x1 k1 v hv => ?_)
  cases hv
  refine k1.ok x1.2.1 _ ⟨fun i H x hH hx => ?_, fun H hH => ?_⟩
  · rw [List.getElem?_map] at hx
    cases e : l[i]? with
    | none => rw [e] at hx; cases hx
    | some c =>
      rw [e] at hx; cases hx
      have hi := (List.getElem?_eq_some_iff.mp e).1
      refine ⟨hi, ?_⟩
      rintro v H' ⟨rfl, rfl⟩ F _ hF
      refine ⟨F, .refl hF, ?_⟩
      show tx [l.getD i 0] = tx [c]
      rw [List.getD_eq_getElem?_getD, e]; rfl
  · show l.length ≤ (l.map fun c => [c]).length
    rw [List.length_map]; exact Nat.le_refl _
theorem ei_l {r : Mo (List α)} (h : EvF K e E L r (tyL T)) : EvI K (iAny K e) E L r T := by
  intro σ F H R hL hs q
  refine h σ F H _ hL hs (q.imp fun l F1 H1 x1 k1 v hv => ?_)
  obtain ⟨p, vs, rfl, hp, hr⟩ := hv
  refine .inl ⟨⟨vs, .of (x1.2.1 _ _ hp)⟩, k1 _ ⟨fun i H x hH hx => ?_, fun H hH => ⟨vs, .of (hH _ _ hp), by rw [hr.len]; exact Nat.le_refl _⟩⟩⟩
  rcases hr.get i with ⟨a, _⟩ | ⟨y, u, a, b, c⟩
  · rw [a] at hx; cases hx
  · rw [a] at hx; cases hx
    refine ⟨⟨vs, u, .of (hH _ _ hp), b⟩, ?_⟩
    rintro v H' ⟨rfl, z⟩ F hF hF'
    have e := z vs (.of (hH _ _ hp))
    rw [b] at e; cases e
    exact ⟨F, .refl hF', T.mono hF c⟩
def rngI (lo : Int) (n : Nat) : List Int := (List.range n).map fun (i : Nat) => lo + i
theorem yl_rng {lo : Int} {n : Nat} {F1 : Hp} : Yl K (Itr lo n) (rngI lo n) tyInt F1 := by
  refine ⟨fun i H x hH hx => ?_, fun H hH => ?_⟩
  · unfold rngI at hx
    rw [List.getElem?_map] at hx
    cases e : (List.range n)[i]? with
    | none => rw [e] at hx; cases hx
    | some c =>
      rw [e] at hx; cases hx
      obtain ⟨hi, e⟩ := List.getElem?_eq_some_iff.mp e
      rw [List.getElem_range] at e; subst e
      rw [List.length_range] at hi
      refine ⟨hi, ?_⟩
      rintro v H' ⟨rfl, rfl⟩ F _ hF
      exact ⟨F, .refl hF, rfl⟩
  · show n ≤ _
    unfold rngI; rw [List.length_map, List.length_range]; exact Nat.le_refl _
theorem ei_rng1 {r : Mo Int} {ta : TA} (h : EvA K ta E L r (csLast tyInt)) : EvI K (mRng1 ta) E L (r.bind fun j => .grd (-(2 ^ 62) ≤ j ∧ j < 2 ^ 62) (.ok (rngI 0 j.toNat))) tyInt := by
  intro σ F H R hL hs q
  refine h σ F H _ hL hs (q.bind.imp fun l F1 H1 x1 k1 v hv => ?_)
  obtain ⟨u, rfl, rfl⟩ := hv
  obtain ⟨z, k1⟩ := k1.grd
  exact ⟨z.1, z.2, k1.ok x1.2.1 _ yl_rng⟩
def compM (f : α → Mo (Option β)) : List α → List β → Mo (List β)
  | [], acc => .ok acc
  | x :: xs, acc => (f x).bind fun o => match o with | none => compM f xs acc | some y => .lim (acc.length + 1) (compM f xs (acc ++ [y]))
theorem compM_map {f : α → Mo (Option β)} {g : α → β} : ∀ {xs : List α} {acc : List β}, (∀ x ∈ xs, f x = .ok (some (g x))) → acc.length + xs.length ≤ 100000 → compM f xs acc = .ok (acc ++ xs.map g)
  | [], acc, _, _ => by unfold compM; rw [List.map_nil, List.append_nil]
  | x :: xs, acc, h, hl => by
    rw [List.length_cons] at hl
    unfold compM
    rw [h x List.mem_cons_self, Mo.ok_bind]
    show Mo.lim _ _ = _
    rw [Mo.lim_ok (by omega), compM_map (fun y hy => h y (List.mem_cons_of_mem _ hy)) (by rw [List.length_append, List.length_singleton]; omega)]
    simp
theorem compM_filterMap {f : α → Mo (Option β)} {g : α → Option β} : ∀ {xs : List α} {acc : List β}, (∀ x ∈ xs, f x = .ok (g x)) → acc.length + xs.length ≤ 100000 → compM f xs acc = .ok (acc ++ xs.filterMap g)
  | [], acc, _, _ => by unfold compM; rw [List.filterMap_nil, List.append_nil]
  | x :: xs, acc, h, hl => by
    rw [List.length_cons] at hl
    unfold compM
    rw [h x List.mem_cons_self, Mo.ok_bind, List.filterMap_cons]
    cases e : g x with
    | none => exact compM_filterMap (fun y hy => h y (List.mem_cons_of_mem _ hy)) (by omega)
    | some z =>
      show Mo.lim _ _ = _
      rw [Mo.lim_ok (by omega), compM_filterMap (fun y hy => h y (List.mem_cons_of_mem _ hy)) (by rw [List.length_append, List.length_singleton]; omega)]
      simp
theorem compM_filter {f : α → Mo (Option α)} {g : α → Bool} {xs acc : List α} (h : ∀ x ∈ xs, f x = .ok (if g x then some x else none)) (hl : acc.length + xs.length ≤ 100000) : compM f xs acc = .ok (acc ++ xs.filter g) := by
  rw [compM_filterMap h hl]
  congr 2
  induction xs with
  | nil => rfl
  | cons x xs ih =>
    rw [List.filterMap_cons, List.filter_cons]
    cases e : g x with
    | true => simp only [if_true]; rw [ih (fun y hy => h y (List.mem_cons_of_mem _ hy)) (by rw [List.length_cons] at hl; omega)]
    | false => exact ih (fun y hy => h y (List.mem_cons_of_mem _ hy)) (by rw [List.length_cons] at hl; omega)
def cL (lv : List Str) (fr : List (Str × Nat)) (L : List Sl) : List Sl := lv.map (fun _ => Sl.dead) ++ fr.map fun q => (L[q.2]?).getD .dead
theorem holdF_comp {lv : List Str} {fr : List (Str × Nat)} {σ : St} (h : HoldF L σ F) : HoldF (cL lv fr L) (cS lv fr σ) F := by
  intro i s e
  unfold cL at e
  unfold cS
  by_cases hi : i < lv.length
  · rw [List.getElem?_append_left (by rw [List.length_map]; exact hi), List.getElem?_map, List.getElem?_eq_getElem hi] at e
    cases e; trivial
  · rw [List.getElem?_append_right (by rw [List.length_map]; omega), List.length_map, List.getElem?_map] at e
    rw [List.getElem?_append_right (by rw [List.length_map]; omega), List.length_map, List.getElem?_map]
    cases z : fr[i - lv.length]? with
    | none => rw [z] at e; cases e
    | some q =>
      rw [z] at e
      have e : (L[q.2]?).getD .dead = s := by simpa using e
      show Sl.Z s (σ[q.2]?).join F
      cases y : L[q.2]? with
      | none => rw [y] at e; rw [← e]; trivial
      | some t => rw [y] at e; cases e; exact h _ _ y
theorem len_comp {lv : List Str} {fr : List (Str × Nat)} {σ : St} : (cL lv fr L).length = (cS lv fr σ).length := by unfold cL cS; simp
def cond1 (c : Mo Bool) (f : Mo β) : Mo (Option β) := (c.bind fun b => if b then f.bind fun y => .ok (some y) else .ok none).noex
theorem ev_comp {lv : List Str} {fr : List (Str × Nat)} {wi : TI} {g : TG} {tt : TT} {te : TE} {r : Mo (List α)} {ss : α → List (Nat × Sl)} {c : α → Mo Bool} {f : α → Mo β} {T' : Ty β}
    (hi : EvI K wi E L r T) (hg : TgR K g T ss) (hd : ∀ a, DeadAt (cL lv fr L) ((ss a).map (·.1))) (ht : ∀ a, EvT K tt E0 (setL (cL lv fr L) (ss a)) (c a)) (he : ∀ a, EvF K te E0 (setL (cL lv fr L) (ss a)) (f a) T') :
    EvO K (tComp lv fr wi g tt te) E L (r.bind fun xs => compM (fun x => cond1 (c x) (f x)) xs []) (owL T') := by
  intro σ F0 H0 Q hL hs q
  refine hi σ F0 H0 _ hL hs (q.bind.imp fun xs F1 H1 x1 k1 J Y D hD => ?_)
  have hL1 := hL.mono x1.1
  refine ⟨fun i m ys σ' H' => m = xs.length - i ∧ i ≤ xs.length ∧ ∃ acc Fi, Ext F1 H1 Fi H' ∧ Fi D = none ∧ H' D = some (.lst ys) ∧ Prs T' Fi acc ys ∧ HoldF (cL lv fr L) σ' F1 ∧ σ'.length = (cL lv fr L).length ∧ After K (compM (fun x => cond1 (c x) (f x)) (xs.drop i) acc) E F1 H1 (OwnK (owL T') H0 Q),
    ⟨_, rfl, Nat.zero_le _, [], F1, .heap x1.2.1 (same_new hD _), x1.2.1.free hD, upd_same, .nil, holdF_comp hL1, len_comp.symm, k1⟩, ?_⟩
  rintro i m ys σ' H' ⟨rfl, hi, acc, Fi, xi, hDi, hy, hp, hσ, hln, A⟩
  by_cases hlt : i < xs.length
  · right
    have ex : xs[i]? = some xs[i] := List.getElem?_eq_getElem hlt
    obtain ⟨g1, g2⟩ := Y.go i H' xs[i] (xi.1.trans xi.2.1) ex
    refine ⟨g1, fun ys' σ'' H'' => i + 1 ≤ xs.length ∧ ∃ acc Fi, Ext F1 H1 Fi H'' ∧ Fi D = none ∧ H'' D = some (.lst ys') ∧ Prs T' Fi acc ys' ∧ HoldF (cL lv fr L) σ'' F1 ∧ σ''.length = (cL lv fr L).length ∧ After K (compM (fun x => cond1 (c x) (f x)) (xs.drop (i + 1)) acc) E F1 H1 (OwnK (owL T') H0 Q), fun ys' σ'' H'' z => ⟨xs.length - (i + 1), by omega, rfl, z⟩, fun v H2 hyl => ?_⟩
    obtain ⟨F2, x2, hv⟩ := g2 v H2 hyl Fi xi.1 xi.2.1
    have keep : ∀ {Fa Ha Fb Hb : Hp}, Ext Fa Ha Fb Hb → Fa D = none → Ha D = some (.lst ys) → Fb D = none ∧ Hb D = some (.lst ys) := by
      intro Fa Ha Fb Hb x h1 h2
      refine ⟨?_, x.2.2.1 _ _ h2⟩
      cases z : Fb D with
      | none => rfl
      | some o => have := x.2.2.2 D h1 (by rw [z]; exact Option.some_ne_none _); rw [h2] at this; cases this
    obtain ⟨hD2, hy2⟩ := keep x2 hDi hy
    refine hg xs[i] v σ' F2 H2 _ x2.2.1 hv fun vs hpl => ?_
    have hσ2 : HoldF (cL lv fr L) σ' F2 := hσ.mono (xi.1.trans x2.1)
    obtain ⟨a1, a2, a3⟩ := holdF_plain hpl hln.symm hσ2
    have hσd : HoldF (cL lv fr L) (setS σ' vs) F1 := by
      have hdead := hd xs[i]
      refine fun j s e => ?_
      have h1 := holdF_dead hpl hln.symm hdead hσ2
      by_cases hj : ∃ q ∈ (ss xs[i]).map (·.1), q = j
      · obtain ⟨q, hq, rfl⟩ := hj
        rw [hdead q hq s e]; trivial
      · have : ((setS σ' vs)[j]?) = σ'[j]? := by
          exact setS_get hpl (fun hq => hj ⟨j, hq, rfl⟩)
        rw [this]; exact hσ j s e
    have hdrop : xs.drop i = xs[i] :: xs.drop (i + 1) := List.drop_eq_getElem_cons hlt
    rw [hdrop] at A
    unfold compM at A
    cases ec : c xs[i] with
    | no => unfold cond1 at A; rw [ec] at A; exact A.elim
    | ex cc => unfold cond1 at A; rw [ec] at A; exact A.elim
    | ok bb =>
      refine ht xs[i] _ F2 H2 _ a1 x2.2.1 ?_
      rw [ec]
      intro F3 H3 x3
      obtain ⟨hD3, hy3⟩ := keep x3 hD2 hy2
      have x13 := (xi.trans x2).trans x3
      cases bb with
      | false =>
        rw [if_neg (by decide)]
        refine ⟨hlt, acc, F3, x13, hD3, hy3, hp.mono (x2.1.trans x3.1), hσd, by rw [a2]; exact hln, ?_⟩
        unfold cond1 at A; rw [ec] at A
        exact A
      | true =>
        rw [if_pos rfl]
        cases ef : f xs[i] with
        | no => unfold cond1 at A; rw [ec, ef] at A; exact A.elim
        | ex cc => unfold cond1 at A; rw [ec, ef] at A; exact A.elim
        | ok y =>
          unfold cond1 at A; rw [ec, ef] at A
          have A' : After K (Mo.lim (acc.length + 1) (compM (fun x => cond1 (c x) (f x)) (xs.drop (i + 1)) (acc ++ [y]))) E F1 H1 (OwnK (owL T') H0 Q) := A
          obtain ⟨hz, A'⟩ := A'.lim
          refine he xs[i] _ F3 H3 _ (a1.mono x3.1) x3.2.1 ?_
          rw [ef]
          intro F4 H4 x4 v4 hv4
          obtain ⟨hD4, hy4⟩ := keep x4 hD3 hy3
          have hlen := hp.len
          refine ⟨hy4, by omega, hlt, acc ++ [y], F4, ?_, hD4, upd_same, (hp.mono ((x2.1.trans x3.1).trans x4.1)).append (.cons hv4 .nil), hσd, by rw [a2]; exact hln, A'⟩
          have x14 := x13.trans x4
          refine ⟨x14.1, fun b o z => ?_, fun b o z => ?_, x14.2.2.2⟩
          · unfold upd; split
            · rename_i w; rw [w, hD4] at z; cases z
            · exact x14.2.1 _ _ z
          · unfold upd; split
            · rename_i w; rw [w, hD] at z; cases z
            · exact x14.2.2.1 _ _ z
  · left
    have e : i = xs.length := by omega
    subst e
    refine ⟨Y.stop H' (xi.1.trans xi.2.1), ?_⟩
    rw [List.drop_length] at A
    have A' : OwnK (owL T') H0 Q acc Fi H' := A Fi H' xi
    exact own_new (x1.2.2.1.free hD) hy hDi hp A'
end
end L2
namespace L2
open PySem PySem.Spec PyProof.Rows
inductive Out (ρ B S : Type) where
  | nx (s : S) | rt (r : ρ) | bk (b : B) | ct (b : B)
def Okk (F0 H0 F h H : Hp) : Prop := Ext F0 H0 F H ∧ Dj F h ∧ Same h H ∧ (∀ p, h p ≠ none → H0 p = none) ∧ ∀ p xs, h p ≠ some (.tup xs)
section
variable {K : PySem.W.Frag} {E : XK} {α β γ ρ S S' B B' : Type} {F0 H0 F h H : Hp} {L : List Sl} {e e1 e2 : TE} {T : Ty α} {r : Mo α} {O : Own ρ}
def Fin (K : PySem.W.Frag) (r : Mo (Out ρ B S)) (E : XK) (LS : S → List Sl) (LB : B → List Sl) (O : Own ρ) (F0 H0 : Hp) (D : Ends) : Prop := match r with
  | .ok (.nx s) => ∀ σ F h H, Hold (LS s) σ F h → Okk F0 H0 F h H → D.nx σ H
  | .ok (.bk b) => ∀ σ F h H, Hold (LB b) σ F h → Okk F0 H0 F h H → D.bk σ H
  | .ok (.ct b) => ∀ σ F h H, Hold (LB b) σ F h → Okk F0 H0 F h H → D.ct σ H
  | .ok (.rt a) => ∀ v F h H, Okk F0 H0 F h H → O.O a v F h → D.rt v H
  | .ex c => ∀ F h H, Okk F0 H0 F h H → E (.ref (gA K c)) none H
  | .no => False
def EvS (K : PySem.W.Frag) (t : TS) (E : XK) (L : List Sl) (r : Mo (Out ρ B S)) (LS : S → List Sl) (LB : B → List Sl) (O : Own ρ) : Prop :=
  ∀ F0 H0 σ F h H (D : Ends), Hold L σ F h → Okk F0 H0 F h H → Fin K r E LS LB O F0 H0 D → t D σ H
variable {t u : TS} {LS : S → List Sl} {LS' : S' → List Sl} {LB : B → List Sl}
def thenO (r : Mo (Out ρ B S)) (k : S → Mo (Out ρ B S')) : Mo (Out ρ B S') := r.bind fun o => match o with | .nx s => k s | .rt a => .ok (.rt a) | .bk b => .ok (.bk b) | .ct b => .ok (.ct b)
theorem s_seq {r : Mo (Out ρ B S)} {k : S → Mo (Out ρ B S')} (h1 : EvS K t E L r LS LB O) (h2 : ∀ s, EvS K u E (LS s) (k s) LS' LB O) : EvS K (tSeq t u) E L (thenO r k) LS' LB O := by
  intro F0 H0 σ F h H D hL ok fin
  refine h1 F0 H0 σ F h H { D with nx := u D } hL ok ?_
  cases r with
  | no => exact fin
  | ex c => exact fin
  | ok o =>
    cases o with
    | nx s => exact fun σ F h H hL ok => h2 s F0 H0 σ F h H D hL ok fin
    | rt a => exact fin
    | bk b => exact fin
    | ct b => exact fin
theorem Okk.thaw (ok : Okk F0 H0 F h H) : Same (un F h) H := fun p o e => by
  unfold un at e
  cases z : F p with
  | some w => rw [z] at e; cases e; exact ok.1.2.1 _ _ z
  | none => rw [z] at e; exact ok.2.2.1 _ _ e
def less (G h : Hp) : Hp := fun p => match h p with | none => G p | some _ => none
theorem less_none {G h : Hp} {p : Addr} (e : h p = none) : less G h p = G p := by unfold less; rw [e]
theorem Okk.back (ok : Okk F0 H0 F h H) {G' H' : Hp} (x : Ext (un F h) H G' H') : Okk F0 H0 (less G' h) h H' ∧ Same F (less G' h) ∧ Tups G' (less G' h) := by
  obtain ⟨o1, o2, o3, o4, o5⟩ := ok
  have hs : Same F (less G' h) := fun p o e => by
    have hp : h p = none := by
      rcases o2 p with z | z
      · rw [z] at e; cases e
      · exact z
    rw [less_none hp]; exact x.1 _ _ (un_same _ _ e)
  refine ⟨⟨⟨o1.1.trans hs, fun p o e => ?_, o1.2.2.1.trans x.2.2.1, fun p a b => ?_⟩, fun p => ?_, fun p o e => ?_, o4, o5⟩, hs, fun p xs e => ?_⟩
  · unfold less at e
    split at e
    · exact x.2.1 _ _ e
    · cases e
  · unfold less at b
    split at b
    · rename_i z
      cases y : un F h p with
      | none => exact o1.2.2.1.free (x.2.2.2 p y b)
      | some o =>
        unfold un at y
        cases w : F p with
        | some _ => exact o1.2.2.2 p a (by rw [w]; exact Option.some_ne_none _)
        | none => rw [w, z] at y; cases y
    · exact absurd rfl b
  · unfold less
    cases z : h p with
    | none => exact .inr rfl
    | some o => exact .inl rfl
  · exact x.2.1 _ _ (x.1 _ _ (un_own o2 _ _ e))
  · unfold less
    cases z : h p with
    | none => exact e
    | some o =>
      have := x.1 _ _ (un_own o2 _ _ z)
      rw [e] at this; cases this
      exact absurd z (o5 p xs)
theorem fin_ok {r : Mo α} {k : α → Mo (Out ρ B S)} {G : Hp} {D : Ends} {kk : α → Hp → Hp → Prop} (ok : Okk F0 H0 F h H) (G1 : Hp) (hG : G1 = un F h ∨ G1 = F) (fin : Fin K (r.bind k) E LS LB O F0 H0 D)
    (hk : ∀ a F' H', r = .ok a → Ext G1 H F' H' → kk a F' H') : After K r E G1 H kk := by
  cases r with
  | ok a => exact fun F' H' x => hk a F' H' rfl x
  | no => exact fin
  | ex c =>
    intro F' H' x
    rcases hG with rfl | rfl
    · exact fin _ _ _ (ok.back x).1
    · refine fin F' h H' ⟨ok.1.trans x, fun p => ?_, ok.2.2.1.trans x.2.2.1, ok.2.2.2.1, ok.2.2.2.2⟩
      cases z : h p with
      | none => exact .inr rfl
      | some o =>
        left
        rcases ok.2.1 p with y | y
        · cases w : F' p with
          | none => rfl
          | some o' => have := x.2.2.2 p y (by rw [w]; exact Option.some_ne_none _); rw [ok.2.2.1 _ _ z] at this; cases this
        · rw [y] at z; cases z
theorem Okk.cold (ok : Okk F0 H0 F h H) {F' H' : Hp} (x : Ext F H F' H') : Okk F0 H0 F' h H' := by
  refine ⟨ok.1.trans x, fun p => ?_, ok.2.2.1.trans x.2.2.1, ok.2.2.2.1, ok.2.2.2.2⟩
  cases z : h p with
  | none => exact .inr rfl
  | some o =>
    left
    rcases ok.2.1 p with y | y
    · cases w : F' p with
      | none => rfl
      | some o' => have := x.2.2.2 p y (by rw [w]; exact Option.some_ne_none _); rw [ok.2.2.1 _ _ z] at this; cases this
    · rw [y] at z; cases z
theorem hold_setF {i : Nat} {s : Sl} {σ : St} {a : α} {v : V} (hi : L[i]? = some s) (hL : Hold L σ F h) (hv : T.R a v F) : Hold (L.set i (.fz T a)) (σ.set i (some v)) F h := by
  obtain ⟨o, h1, h2, _, j, _, f⟩ := hL.at i hi
  exact f (.fz T a) (some v) h1 h j ⟨v, rfl, hv⟩
theorem hold_setO {i : Nat} {s : Sl} {σ : St} {a : α} {v : V} {O1 : Own α} {hn : Hp} (ok : Okk F0 H0 F h H) (hi : L[i]? = some s) (hL : Hold L σ F h) (fresh : ∀ p, hn p ≠ none → H0 p = none) (dj : Dj F hn) (dh : Dj hn h) (hs : Same hn H) (hv : O1.O a v F hn) :
    ∃ h', Hold (L.set i (.ow O1 a)) (σ.set i (some v)) F h' ∧ Okk F0 H0 F h' H := by
  obtain ⟨o, h1, h2, _, j, _, f⟩ := hL.at i hi
  have d2 : Dj hn h2 := fun p => by
    rcases dh p with z | z
    · exact .inl z
    · exact .inr (j.r.free z)
  refine ⟨un hn h2, f (.ow O1 a) (some v) hn _ (jn_of d2) ⟨v, rfl, hv⟩, ok.1, fun p => ?_, fun p o e => ?_, fun p e => ?_, fun p xs e => ?_⟩
  · unfold un
    cases z : hn p with
    | some w =>
      rcases dj p with y | y
      · exact .inl y
      · rw [y] at z; cases z
    | none =>
      rcases ok.2.1 p with y | y
      · exact .inl y
      · exact .inr (j.r.free y)
  · unfold un at e
    cases z : hn p with
    | some w => rw [z] at e; cases e; exact hs _ _ z
    | none => rw [z] at e; exact ok.2.2.1 _ _ (j.r _ _ e)
  · unfold un at e
    cases z : hn p with
    | some w => exact fresh p (by rw [z]; exact Option.some_ne_none _)
    | none =>
      rw [z] at e
      cases y : h2 p with
      | none => exact absurd y e
      | some w => exact ok.2.2.2.1 p (by rw [j.r _ _ y]; exact Option.some_ne_none _)
  · unfold un at e
    cases z : hn p with
    | some w => rw [z] at e; cases e; exact O1.notup hv p xs z
    | none => rw [z] at e; exact ok.2.2.2.2 p xs (j.r _ _ e)
theorem s_asg {i : Nat} {s : Sl} {k : α → Mo (Out ρ B S)} (hi : L[i]? = some s) (hT : Imm T) (he : EvF K e E L r T) (hk : ∀ a, EvS K u E (L.set i (.fz T a)) (k a) LS LB O) : EvS K (tSeq (tAsg e (gName i)) u) E L (r.bind k) LS LB O := by
  intro F0 H0 σ F h H D hL ok fin
  refine he σ (un F h) H _ (hL.froz ok.2.1) ok.thaw (fin_ok (G := F) ok _ (.inl rfl) fin fun a F' H' hr x v hv => ?_)
  obtain ⟨o, hs, ht⟩ := ok.back x
  rw [hr] at fin
  exact hk a F0 H0 _ _ h H' D (hold_setF hi (hL.mono hs) (hT ht hv)) o fin
theorem s_asgC {i : Nat} {s : Sl} {k : α → Mo (Out ρ B S)} (hi : L[i]? = some s) (he : EvF K e E (L.map Sl.cold) r T) (hk : ∀ a, EvS K u E (L.set i (.fz T a)) (k a) LS LB O) : EvS K (tSeq (tAsg e (gName i)) u) E L (r.bind k) LS LB O := by
  intro F0 H0 σ F h H D hL ok fin
  refine he σ F H _ hL.coldF ok.1.2.1 (fin_ok (G := F) ok _ (.inr rfl) fin fun a F' H' hr x v hv => ?_)
  rw [hr] at fin
  exact hk a F0 H0 _ _ h H' D (hold_setF hi (hL.mono x.1) hv) (ok.cold x) fin
theorem dj_own {hn h : Hp} (hh : Same h H) (fresh : ∀ p, hn p ≠ none → H p = none) : Dj hn h := fun p => by
  cases z : hn p with
  | none => exact .inl rfl
  | some w =>
    have := fresh p (by rw [z]; exact Option.some_ne_none _)
    exact .inr (hh.free this)
theorem s_asgO {i : Nat} {s : Sl} {O1 : Own α} {k : α → Mo (Out ρ B S)} (hi : L[i]? = some s) (hO : ImmO O1) (he : EvO K e E L r O1) (hk : ∀ a, EvS K u E (L.set i (.ow O1 a)) (k a) LS LB O) : EvS K (tSeq (tAsg e (gName i)) u) E L (r.bind k) LS LB O := by
  intro F0 H0 σ F h H D hL ok fin
  refine he σ (un F h) H _ (hL.froz ok.2.1) ok.thaw (fin_ok (G := F) ok _ (.inl rfl) fin fun a F' H' hr x v hn fresh dj hsn hv => ?_)
  obtain ⟨o, hs, ht⟩ := ok.back x
  rw [hr] at fin
  have dj' : Dj (less F' h) hn := fun p => by
    unfold less
    cases z : h p with
    | none => exact dj p
    | some w => exact .inl rfl
  obtain ⟨h', a1, a2⟩ := hold_setO o hi (hL.mono hs) (fun p z => ok.1.2.2.1.free (fresh p z)) dj' (dj_own ok.2.2.1 fresh) hsn (hO ht hv)
  exact hk a F0 H0 _ _ h' H' D a1 a2 fin
theorem set_self {α : Type} {l : List α} {i : Nat} {o : α} (h : l[i]? = some o) : l.set i o = l := by
  obtain ⟨hi, e⟩ := List.getElem?_eq_some_iff.mp h
  rw [← e]; exact List.set_getElem_self hi
theorem s_frz {i : Nat} {O1 : Own α} {a : α} {r : Mo (Out ρ B S)} (hi : L[i]? = some (.ow O1 a)) (hk : EvS K u E (L.set i (.fz O1.fr a)) r LS LB O) : EvS K u E L r LS LB O := by
  intro F0 H0 σ F h H D hL ok fin
  obtain ⟨o, h1, h2, e1, j, ⟨v, e2, hv⟩, f⟩ := hL.at i hi
  obtain ⟨o1, o2, o3, o4, o5⟩ := ok
  have dj1 : Dj F h1 := fun p => by
    rcases o2 p with z | z
    · exact .inl z
    · exact .inr (j.l.free z)
  have dj2 : Dj F h2 := fun p => by
    rcases o2 p with z | z
    · exact .inl z
    · exact .inr (j.r.free z)
  have g1 : Hold (L.set i (.dead)) σ F h2 := by
    have := f .dead o (fun _ => none) h2 (fun p => .inl ⟨rfl, rfl⟩) trivial
    rwa [set_self e1] at this
  have g2 : Hold (L.set i (.fz O1.fr a)) σ (un F h1) h2 := by
    have g3 := g1.mono (un_same (h := h1))
    have hi' : (L.set i Sl.dead)[i]? = some .dead := by
      rw [List.getElem?_set_self]
      exact (List.getElem?_eq_some_iff.mp hi).1
    have := hold_setF (T := O1.fr) hi' g3 (O1.frz dj1 hv)
    rw [List.set_set] at this
    subst e2
    rwa [set_self e1] at this
  refine hk F0 H0 σ _ h2 H D g2 ⟨⟨o1.1.trans un_same, fun p o e => ?_, o1.2.2.1, fun p a b => ?_⟩, fun p => ?_, j.r.trans o3, fun p z => ?_, fun p xs e => o5 p xs (j.r _ _ e)⟩ fin
  · unfold un at e
    cases z : F p with
    | some w => rw [z] at e; cases e; exact o1.2.1 _ _ z
    | none => rw [z] at e; exact o3 _ _ (j.l _ _ e)
  · unfold un at b
    cases z : F p with
    | some w => exact o1.2.2.2 p a (by rw [z]; exact Option.some_ne_none _)
    | none =>
      rw [z] at b
      cases y : h1 p with
      | none => exact absurd y b
      | some w => exact o4 p (by rw [j.l _ _ y]; exact Option.some_ne_none _)
  · unfold un
    cases z : F p with
    | some w =>
      rcases dj2 p with y | y
      · rw [y] at z; cases z
      · exact .inr y
    | none => exact j.dj p
  · cases y : h2 p with
    | none => exact absurd y z
    | some w => exact o4 p (by rw [j.r _ _ y]; exact Option.some_ne_none _)
theorem s_ret {r : Mo ρ} (hO : ImmO O) (he : EvO K e E L r O) : EvS K (tRet e) E L (r.bind fun a => .ok (.rt a)) LS LB O := by
  intro F0 H0 σ F h H D hL ok fin
  refine he σ (un F h) H _ (hL.froz ok.2.1) ok.thaw (fin_ok (G := F) ok _ (.inl rfl) fin fun a F' H' hr x v hn fresh dj hsn hv => ?_)
  obtain ⟨o, hs, ht⟩ := ok.back x
  rw [hr] at fin
  refine fin v _ hn H' ⟨o.1, fun p => ?_, hsn, fun p z => ok.1.2.2.1.free (fresh p z), O.notup hv⟩ (hO ht hv)
  unfold less
  cases z : h p with
  | none => exact dj p
  | some w => exact .inl rfl
theorem s_retC {r : Mo ρ} (he : EvO K e E (L.map Sl.cold) r O) : EvS K (tRet e) E L (r.bind fun a => .ok (.rt a)) LS LB O := by
  intro F0 H0 σ F h H D hL ok fin
  refine he σ F H _ hL.coldF ok.1.2.1 (fin_ok (G := F) ok _ (.inr rfl) fin fun a F' H' hr x v hn fresh dj hsn hv => ?_)
  rw [hr] at fin
  exact fin v _ hn H' ⟨ok.1.trans x, dj, hsn, fun p z => ok.1.2.2.1.free (fresh p z), O.notup hv⟩ hv
theorem s_retV {i : Nat} {a : ρ} (hi : L[i]? = some (.ow O a)) : EvS K (tRet (mVar i)) E L (.ok (.rt a)) LS LB O := by
  intro F0 H0 σ F h H D hL ok fin
  obtain ⟨o, h1, h2, e1, j, ⟨v, e2, hv⟩, f⟩ := hL.at i hi
  subst e2
  show mVar i σ H D.rt
  unfold mVar
  rw [e1]
  obtain ⟨o1, o2, o3, o4, o5⟩ := ok
  refine fin v F h1 H ⟨o1, fun p => ?_, j.l.trans o3, fun p z => ?_, O.notup hv⟩ hv
  · rcases o2 p with z | z
    · exact .inl z
    · exact .inr (j.l.free z)
  · cases y : h1 p with
    | none => exact absurd y z
    | some w => exact o4 p (by rw [j.l _ _ y]; exact Option.some_ne_none _)
theorem s_if {c : TT} {b : Mo Bool} {r1 r2 : Mo (Out ρ B S)} (hc : EvT K c E L b) (h1 : EvS K t E L r1 LS LB O) (h2 : EvS K u E L r2 LS LB O) : EvS K (mIfS c t u) E L (b.bind fun c => if c then r1 else r2) LS LB O := by
  intro F0 H0 σ F h H D hL ok fin
  refine hc σ (un F h) H _ (hL.froz ok.2.1) ok.thaw (fin_ok (G := F) ok _ (.inl rfl) fin fun a F' H' hr x => ?_)
  obtain ⟨o, hs, ht⟩ := ok.back x
  rw [hr] at fin
  have fin' : Fin K (if a then r1 else r2) E LS LB O F0 H0 D := fin
  refine ⟨fun z => ?_, fun z => ?_⟩
  · rw [if_pos z] at fin'; exact h1 F0 H0 σ _ h H' D (hL.mono hs) o fin'
  · rw [if_neg (by rw [z]; decide)] at fin'; exact h2 F0 H0 σ _ h H' D (hL.mono hs) o fin'
inductive Sub : List Sl → List Sl → Prop
  | nil : Sub [] []
  | same {s : Sl} {L L' : List Sl} (h : Sub L L') : Sub (s :: L) (s :: L')
  | dead {s : Sl} {L L' : List Sl} (h : Sub L L') : Sub (s :: L) (.dead :: L')
theorem Sub.hold {L L' : List Sl} (w : Sub L L') : ∀ {σ : St} {F h : Hp}, Hold L σ F h → Hold L' σ F h := by
  induction w with
  | nil => exact fun h => h
  | same _ ih =>
    intro σ F h q
    cases σ with
    | nil => exact q.elim
    | cons o σ => obtain ⟨h1, h2, j, p, r⟩ := q; exact ⟨h1, h2, j, p, ih r⟩
  | dead _ ih =>
    intro σ F h q
    cases σ with
    | nil => exact q.elim
    | cons o σ => obtain ⟨h1, h2, j, p, r⟩ := q; exact ⟨h1, h2, j, trivial, ih r⟩
theorem s_nextW {s : S} (w : Sub L (LS s)) : EvS K tNext E L (.ok (.nx s)) LS LB O := fun F0 H0 σ F h H D hL ok fin => fin σ F h H (w.hold hL) ok
theorem s_end {r : Mo (Out ρ B S)} (h : EvS K (tSeq t tNext) E L r LS LB O) : EvS K t E L r LS LB O := h
def forO (step : S → α → Mo (Out ρ S S)) : List α → S → Mo (Out ρ B S)
  | [], s => .ok (.nx s)
  | x :: xs, s => (step s x).bind fun o => match o with | .nx s' => forO step xs s' | .ct s' => forO step xs s' | .bk s' => .ok (.nx s') | .rt a => .ok (.rt a)
theorem hold_plain {ss : List (Nat × Sl)} {vs : List (Nat × Option V)} (p : Plain F ss vs) : ∀ {L : List Sl} {σ : St}, Hold L σ F h → Hold (setL L ss) (setS σ vs) F h := by
  induction p with
  | nil => exact fun h => h
  | cons hv t ih =>
    rename_i T a i v ss vs
    intro L σ q
    refine ih (L := L.set i (.fz T a)) (σ := σ.set i (some v)) ?_
    by_cases hi : i < L.length
    · exact hold_setF (List.getElem?_eq_getElem hi) q hv
    · rw [List.set_eq_of_length_le (by omega), List.set_eq_of_length_le (by have := q.len; omega)]; exact q
theorem Okk.rebase {F1 H1 : Hp} (x : Ext F0 H0 F1 H1) (ok : Okk F0 H0 F h H) (s : Same F1 F) : Okk F1 H0 F h H := by
  obtain ⟨o1, o2, o3, o4, o5⟩ := ok
  refine ⟨⟨s, o1.2.1, o1.2.2.1, fun p a b => o1.2.2.2 p (x.1.free a) b⟩, o2, o3, o4, o5⟩
theorem Okk.unbase {F1 H1 : Hp} (x : Ext F0 H0 F1 H1) (ok : Okk F1 H0 F h H) : Okk F0 H0 F h H := by
  obtain ⟨o1, o2, o3, o4, o5⟩ := ok
  refine ⟨⟨x.1.trans o1.1, o1.2.1, o1.2.2.1, fun p a b => ?_⟩, o2, o3, o4, o5⟩
  cases z : F1 p with
  | none => exact o1.2.2.2 p z b
  | some w => exact x.2.2.2 p a (by rw [z]; exact Option.some_ne_none _)
theorem s_for {wi : TI} {g : TG} {tb : TS} {s0 : S} {r : Mo (List α)} {ss : α → List (Nat × Sl)} {step : S → α → Mo (Out ρ S S)} (hi : EvI K wi E ((LS s0).map Sl.cold) r T) (hg : TgR K g T ss)
    (hb : ∀ s a, EvS K tb E (setL (LS s) (ss a)) (step s a) LS LS O) : EvS K (tFor wi g tb) E (LS s0) (r.bind fun xs => forO step xs s0) LS LB O := by
  intro F0 H0 σ F h H D hL ok fin
  refine hi σ F H _ hL.coldF ok.1.2.1 (fin_ok (G := F) ok _ (.inr rfl) fin fun xs F1 H1 hr x1 J Y => ?_)
  rw [hr] at fin
  have xx := ok.1.trans x1
  refine ⟨fun i m σ H => m = xs.length - i ∧ i ≤ xs.length ∧ ∃ s F h, Hold (LS s) σ F h ∧ Okk F1 H0 F h H ∧ Fin K (forO (B := B) step (xs.drop i) s) E LS LB O F0 H0 D,
    ⟨_, rfl, Nat.zero_le _, s0, F1, h, hL.mono x1.1, (ok.cold x1).rebase xx (Same.refl _), fin⟩, ?_⟩
  rintro i m σ H ⟨rfl, hi, s, F, h, hL, ok, fin⟩
  have s1 : Same F1 H := ok.1.1.trans ok.1.2.1
  by_cases hlt : i < xs.length
  · right
    obtain ⟨g1, g2⟩ := Y.go i H xs[i] s1 (List.getElem?_eq_getElem hlt)
    refine ⟨g1, fun σ' H' => i + 1 ≤ xs.length ∧ ∃ s F h, Hold (LS s) σ' F h ∧ Okk F1 H0 F h H' ∧ Fin K (forO (B := B) step (xs.drop (i + 1)) s) E LS LB O F0 H0 D, fun σ' H' z => ⟨xs.length - (i + 1), by omega, rfl, z⟩, fun v H2 hy => ?_⟩
    obtain ⟨F2, x2, hv⟩ := g2 v H2 hy F ok.1.1 ok.1.2.1
    refine hg xs[i] v σ F2 H2 _ x2.2.1 hv fun vs hp => ?_
    refine hb s xs[i] F1 H0 _ F2 h H2 _ (hold_plain hp (hL.mono x2.1)) (ok.cold x2) ?_
    rw [List.drop_eq_getElem_cons hlt] at fin
    unfold forO at fin
    cases e : step s xs[i] with
    | no => rw [e] at fin; exact fin
    | ex c => rw [e] at fin; exact fun F h H ok => fin F h H (ok.unbase xx)
    | ok o =>
      rw [e] at fin
      cases o with
      | nx s' => exact fun σ' F' h' H' hL' ok' => ⟨hlt, s', F', h', hL', ok', fin⟩
      | ct s' => exact fun σ' F' h' H' hL' ok' => ⟨hlt, s', F', h', hL', ok', fin⟩
      | bk s' => exact fun σ' F' h' H' hL' ok' => fin σ' F' h' H' hL' (ok'.unbase xx)
      | rt a => exact fun v F h H ok => fin v F h H (ok.unbase xx)
  · left
    have e : i = xs.length := by omega
    subst e
    rw [List.drop_length] at fin
    exact ⟨Y.stop H s1, fin σ F h H hL (ok.unbase xx)⟩
theorem hold_mut {i : Nat} {σ : St} {xs : List α} (hL : Hold L σ F h) (hi : L[i]? = some (.ow (owL T) xs)) (ok : Okk F0 H0 F h H) :
    ∃ p vs, σ[i]? = some (some (.ref p)) ∧ H p = some (.lst vs) ∧ Prs T F xs vs ∧ ∀ xs' vs', Prs T F xs' vs' → ∃ h', Hold (L.set i (.ow (owL T) xs')) σ F h' ∧ Okk F0 H0 F h' (upd H p (.lst vs')) := by
  obtain ⟨o, h1, h2, e1, j, ⟨v, e2, p, vs, rfl, rfl, hr⟩, f⟩ := hL.at i hi
  subst e2
  obtain ⟨o1, o2, o3, o4, o5⟩ := ok
  have hp : h p = some (.lst vs) := j.l _ _ one_same
  have h2p : h2 p = none := by
    rcases j.dj p with z | z
    · rw [one_same] at z; cases z
    · exact z
  have Fp : F p = none := by
    rcases o2 p with z | z
    · exact z
    · rw [hp] at z; cases z
  have H0p : H0 p = none := o4 p (by rw [hp]; exact Option.some_ne_none _)
  refine ⟨p, vs, e1, o3 _ _ hp, hr, fun xs' vs' hr' => ?_⟩
  have d2 : Dj (one p (.lst vs')) h2 := fun q => by
    unfold one; split
    · rename_i z; rw [z]; exact .inr h2p
    · exact .inl rfl
  have g := f (.ow (owL T) xs') (some (.ref p)) (one p (.lst vs')) _ (jn_of d2) ⟨_, rfl, p, vs', rfl, rfl, hr'⟩
  rw [set_self e1] at g
  refine ⟨_, g, ⟨o1.1, fun q o z => ?_, fun q o z => ?_, o1.2.2.2⟩, fun q => ?_, fun q o z => ?_, fun q z => ?_, fun q ys z => ?_⟩
  · unfold upd; split
    · rename_i w; rw [w, Fp] at z; cases z
    · exact o1.2.1 _ _ z
  · unfold upd; split
    · rename_i w; rw [w, H0p] at z; cases z
    · exact o1.2.2.1 _ _ z
  · by_cases w : q = p
    · rw [w]; exact .inl Fp
    · unfold un one; simp only [if_neg w]
      rcases o2 q with z | z
      · exact .inl z
      · exact .inr (j.r.free z)
  · unfold un one at z
    unfold upd
    by_cases w : q = p
    · rw [if_pos w]; simp only [if_pos w] at z; exact z
    · rw [if_neg w]; simp only [if_neg w] at z; exact o3 _ _ (j.r _ _ z)
  · unfold un one at z
    by_cases w : q = p
    · rw [w]; exact H0p
    · simp only [if_neg w] at z
      cases y : h2 q with
      | none => exact absurd y z
      | some u => exact o4 q (by rw [j.r _ _ y]; exact Option.some_ne_none _)
  · unfold un one at z
    by_cases w : q = p
    · simp only [if_pos w] at z; cases z
    · simp only [if_neg w] at z; exact o5 q ys (j.r _ _ z)
theorem mvar_at {i : Nat} {σ : St} {v : V} {Q : VK} (e : σ[i]? = some (some v)) (q : Q v H) : mVar i σ H Q := by unfold mVar; rw [e]; exact q
theorem fin_lim {n : Nat} {r : Mo (Out ρ B S)} {D : Ends} (h : Fin K (Mo.lim n r) E LS LB O F0 H0 D) : n ≤ sizeLine ∧ Fin K r E LS LB O F0 H0 D := by
  unfold Mo.lim at h
  split at h
  · exact ⟨by assumption, h⟩
  · exact h.elim
theorem fin_opt {x : Option α} {k : α → Mo (Out ρ B S)} {D : Ends} (h : Fin K ((Mo.opt x).bind k) E LS LB O F0 H0 D) : ∃ a, x = some a ∧ Fin K (k a) E LS LB O F0 H0 D := by
  cases x with
  | none => exact h.elim
  | some a => exact ⟨a, rfl, h⟩
theorem s_append {i : Nat} {xs : List α} {k : α → Mo (Out ρ B S)} (hi : L[i]? = some (.ow (owL T) xs)) (hT : Imm T) (he : EvF K e E L r T) (hk : ∀ a, EvS K u E (L.set i (.ow (owL T) (xs ++ [a]))) (k a) LS LB O) :
    EvS K (tSeq (tDrop (tBM K "list" rAppend (mVar i) (tCons e tNil))) u) E L (r.bind fun a => .lim (xs.length + 1) (k a)) LS LB O := by
  intro F0 H0 σ F h H D hL ok fin
  obtain ⟨p, vs, e1, hp, hr, _⟩ := hold_mut hL hi ok
  show mVar i σ H fun x H1 => tyV K "list" x H1 ∧ tCons e tNil σ H1 fun xs H2 => rAppend x xs H2 (fun _ H3 => u D σ H3)
  refine mvar_at e1 ⟨.inl ⟨rfl, vs, .of hp⟩, ?_⟩
  refine he σ (un F h) H _ (hL.froz ok.2.1) ok.thaw (fin_ok (G := F) ok _ (.inl rfl) fin fun a F' H' hra x v hv => ?_)
  obtain ⟨o, hs, ht⟩ := ok.back x
  rw [hra] at fin
  obtain ⟨hz, fin⟩ := fin_lim (show Fin K (Mo.lim (xs.length + 1) (k a)) E LS LB O F0 H0 D from fin)
  obtain ⟨p', vs', e1', hp', hr', mm⟩ := hold_mut (hL.mono hs) hi o
  rw [e1] at e1'; cases e1'
  obtain ⟨h', a1, a2⟩ := mm (xs ++ [a]) (vs' ++ [v]) (hr'.append (.cons (hT ht hv) .nil))
  exact ⟨p, vs', v, rfl, rfl, hp', by rw [← hr'.len]; omega, hk a F0 H0 σ _ h' _ D a1 a2 fin⟩
theorem s_extend {i : Nat} {xs : List α} {r : Mo (List α)} {k : List α → Mo (Out ρ B S)} (hi : L[i]? = some (.ow (owL T) xs)) (hT : Imm T) (he : EvF K e E L r (tyL T)) (hk : ∀ a, EvS K u E (L.set i (.ow (owL T) (xs ++ a))) (k a) LS LB O) :
    EvS K (tSeq (tDrop (tBM K "list" rExtend (mVar i) (tCons e tNil))) u) E L (r.bind fun a => .lim (xs.length + a.length) (k a)) LS LB O := by
  intro F0 H0 σ F h H D hL ok fin
  obtain ⟨p, vs, e1, hp, hr, _⟩ := hold_mut hL hi ok
  show mVar i σ H fun x H1 => tyV K "list" x H1 ∧ tCons e tNil σ H1 fun xs H2 => rExtend x xs H2 (fun _ H3 => u D σ H3)
  refine mvar_at e1 ⟨.inl ⟨rfl, vs, .of hp⟩, ?_⟩
  refine he σ (un F h) H _ (hL.froz ok.2.1) ok.thaw (fin_ok (G := F) ok _ (.inl rfl) fin fun a F' H' hra x v ⟨p2, us, ev, hp2, hr2⟩ => ?_)
  obtain ⟨o, hs, ht⟩ := ok.back x
  rw [hra] at fin
  subst ev
  obtain ⟨hz, fin⟩ := fin_lim (show Fin K (Mo.lim (xs.length + a.length) (k a)) E LS LB O F0 H0 D from fin)
  obtain ⟨p', vs', e1', hp', hr', mm⟩ := hold_mut (hL.mono hs) hi o
  rw [e1] at e1'; cases e1'
  obtain ⟨h', a1, a2⟩ := mm (xs ++ a) (vs' ++ us) (hr'.append (hr2.imm hT ht))
  exact ⟨p, p2, vs', us, rfl, rfl, hp', x.2.1 _ _ hp2, by rw [← hr'.len, ← hr2.len]; exact hz, hk a F0 H0 σ _ h' _ D a1 a2 fin⟩
theorem s_setI {i : Nat} {xs : List α} {ei : TE} {ri : Mo Int} {k : List α → Mo (Out ρ B S)} (hi : L[i]? = some (.ow (owL T) xs)) (hT : Imm T) (he : EvF K e E L r T) (hei : EvF K ei E L ri tyInt) (hk : ∀ a, EvS K u E (L.set i (.ow (owL T) a)) (k a) LS LB O) :
    EvS K (tSeq (tAsg e (gSub (mVar i) ei mSet)) u) E L (r.bind fun a => ri.bind fun j => (Mo.opt ((ixN xs.length j).map fun n => xs.set n a)).bind k) LS LB O := by
  intro F0 H0 σ F h H D hL ok fin
  refine he σ (un F h) H _ (hL.froz ok.2.1) ok.thaw (fin_ok (G := F) ok _ (.inl rfl) fin fun a F' H' hra x v hv => ?_)
  obtain ⟨o, hs, ht⟩ := ok.back x
  rw [hra] at fin
  have hL' := hL.mono hs
  obtain ⟨p, vs, e1, hp, hr, _⟩ := hold_mut hL' hi o
  refine mvar_at e1 ?_
  have hv' := hT ht hv
  refine hei σ (un _ h) H' _ (hL'.froz o.2.1) o.thaw (fin_ok (G := F) o _ (.inl rfl) fin fun j F2 H2 hrj x2 v2 hv2 => ?_)
  cases hv2
  obtain ⟨o', hs', ht'⟩ := o.back x2
  rw [hrj] at fin
  obtain ⟨ys, ey, fin⟩ := fin_opt fin
  obtain ⟨p', vs', e1', hp', hr', mm⟩ := hold_mut (hL'.mono hs') hi o'
  rw [e1] at e1'; cases e1'
  cases ej : ixN xs.length j with
  | none => rw [ej] at ey; cases ey
  | some n =>
    rw [ej] at ey; cases ey
    obtain ⟨h', a1, a2⟩ := mm (xs.set n a) (vs'.set n v) (hr'.set n (T.mono hs' hv'))
    refine ⟨vs', hp', ?_⟩
    rw [← hr'.len, ej]
    exact hk _ F0 H0 σ _ h' _ D a1 a2 fin
def fnO (r : Mo (Out ρ Unit Unit)) : Mo ρ := r.bind fun o => match o with | .rt a => .ok a | _ => .no
inductive Args (F : Hp) : List V → List Sl → Prop
  | nil : Args F [] []
  | cons {α : Type} {T : Ty α} {a : α} {v : V} {vs ss} (h : T.R a v F) (t : Args F vs ss) : Args F (v :: vs) (.fz T a :: ss)
theorem Args.hold {vs : List V} {ss : List Sl} (a : Args F vs ss) (n : Nat) : Hold (ss ++ List.replicate n .dead) (vs.map some ++ List.replicate n none) F (fun _ => none) := by
  induction a with
  | nil =>
    induction n with
    | zero => trivial
    | succ n ih => exact ⟨fun _ => none, fun _ => none, fun p => .inl ⟨rfl, rfl⟩, trivial, ih⟩
  | cons hv t ih => exact ⟨fun _ => none, fun _ => none, fun p => .inl ⟨rfl, rfl⟩, ⟨_, rfl, hv⟩, ih⟩
def CsS (C : Cs γ) (ss : γ → List Sl) : Prop := ∀ {c vs F}, C.R c vs F → Args F vs (ss c)
theorem css_last : CsS (csLast T) fun a => [.fz T a] := fun ⟨v, e, h⟩ => by rw [e]; exact .cons h .nil
theorem css_cons {C : Cs γ} {ss : γ → List Sl} (h : CsS C ss) : CsS (csCons T C) fun c => .fz T c.1 :: ss c.2 := fun ⟨v, us, e, q, z⟩ => by rw [e]; exact .cons q (h z)
theorem okk_start (hs : Same F H) : Okk F H F (fun _ => none) H := by
  refine ⟨.refl hs, fun p => .inr rfl, fun p o e => ?_, fun p e => absurd rfl e, fun p xs e => ?_⟩
  · cases e
  · cases e
theorem fn_rd {t : XK → TS} {C : Cs γ} {ss : γ → List Sl} {f : γ → Mo (Out ρ Unit Unit)} {N : List Str} (n m : Nat) (hn : CsN C n) (hm : N.length - n = m) (hC : CsS C ss) (h : ∀ c E, EvS K (t E) E (ss c ++ List.replicate m .dead) (f c) (fun _ : Unit => []) (fun _ : Unit => []) O) :
    ∀ vs H Q E, Ct K C (fun c => fnO (f c)) O vs H Q E → t E { nx := fun _ H' => Q .non H', rt := Q } (start N vs) H := by
  rintro vs H Q E ⟨F, c, hs, hc, q⟩
  have hstart : start N vs = vs.map some ++ List.replicate m none := by unfold start; rw [hn hc, hm]
  rw [hstart]
  refine h c E F H _ F (fun _ => none) H _ ((hC hc).hold m) (okk_start hs) ?_
  have q : After K (fnO (f c)) E F H (OwnK O H Q) := q
  cases e : f c with
  | no => rw [e] at q; exact q
  | ex cc => rw [e] at q; exact fun F h H ok => q F H ok.1
  | ok o =>
    rw [e] at q
    cases o with
    | nx s => exact q.elim
    | bk s => exact q.elim
    | ct s => exact q.elim
    | rt a => exact fun v F' h' H' ok hv => q F' H' ok.1 v h' (fun p z => ok.2.2.2.1 p z) ok.2.1 ok.2.2.1 hv
end
end L2
namespace L2
open PySem PySem.Spec PyProof.Rows
section
variable {K : PySem.W.Frag} {E : XK} {α β γ ρ S S' B B' : Type} {F0 H0 F h H : Hp} {L L' : List Sl} {e e1 e2 : TE} {T : Ty α} {r : Mo α} {O : Own ρ} {t u : TS} {LS : S → List Sl} {LS' : S' → List Sl} {LB : B → List Sl}
def CDivG (i j : Int) : Prop := 0 < j ∧ Builtin.divisionGoesByPylong i j = false
instance (i j : Int) : Decidable (CDivG i j) := inferInstanceAs (Decidable (_ ∧ _))
instance (i j : Int) : Decidable (IntMulOk i j) := inferInstanceAs (Decidable (¬ _))
abbrev mMulG : R2 := mI IntMulOk fun i j => .int (i * j)
abbrev mDivG : R2 := mI CDivG fun i j => .int (i / j)
theorem op_mulG {X : Cx} : OpR X (binaryOp .Mult) mMulG := opM (opI fun _ _ _ _ _ _ _ hc q => mul_int q hc)
theorem op_divG {X : Cx} : OpR X (binaryOp .FloorDiv) mDivG := opM (opI fun i j _ _ _ _ _ hc q => by
  have h1 : (0 : Int) < j := hc.1
  exact floordiv_int (by omega) (by rw [Int.fdiv_eq_ediv_of_nonneg i (by omega)]; exact q) (.inl hc.2))
theorem op_divGI : Op2 K mDivG E tyInt tyInt (fun i j => .grd (CDivG i j) (.ok (i / j))) tyInt := op_i fun _ _ _ => rfl
theorem fr_nil {Pq : α → Prop} : ∀ q ∈ ([] : List α), Pq q := fun q h => by cases h
theorem fr_cons {Pq : α → Prop} {a : α} {l : List α} (h : Pq a) (t : ∀ q ∈ l, Pq q) : ∀ q ∈ a :: l, Pq q := List.forall_mem_cons.mpr ⟨h, t⟩
theorem s_never : EvS K t E L (.no : Mo (Out ρ B S)) LS LB O := fun _ _ _ _ _ _ _ _ _ fin => fin.elim
theorem s_weak {r : Mo (Out ρ B S)} (w : Sub L L') (hk : EvS K t E L' r LS LB O) : EvS K t E L r LS LB O := fun F0 H0 σ F h H D hL ok fin => hk F0 H0 σ F h H D (w.hold hL) ok fin
theorem at_ {r : Mo (Out ρ B S)} (L : List Sl) (hk : EvS K t E L r LS LB O) : EvS K t E L r LS LB O := hk
theorem ev_varL (i : Nat) {xs : List α} (h : L[i]? = some (.ow (owL T) xs)) : EvF K (mVar i) E L (.ok xs) (tyL T) := ev_varO i h
theorem et_true : EvT K tTrue E L (.ok true) := fun σ F H Q hL hs q => q.ok hs
theorem dead1 {L : List Sl} : DeadAt (.dead :: L) [0] := fun i hi s e => by
  cases (List.mem_singleton.mp hi); cases e; rfl
theorem nn_tup {C : Cs γ} {a : γ} {v : V} {F : Hp} (h : (tyTup C).R a v F) : v ≠ .non := by obtain ⟨p, vs, rfl, _⟩ := h; exact fun z => V.noConfusion z
end
end L2
namespace L2
open PySem PySem.Spec PyProof.Rows
section
variable {α β γ ρ S S' B : Type}
@[simp] theorem Mo.okB (a : α) (f : α → Mo β) : (Mo.ok a).bind f = f a := of_eq_true (eq_self _)
@[simp] theorem Mo.exB (c : String) (f : α → Mo β) : (Mo.ex c : Mo α).bind f = .ex c := of_eq_true (eq_self _)
@[simp] theorem Mo.noB (f : α → Mo β) : (Mo.no : Mo α).bind f = .no := of_eq_true (eq_self _)
@[simp] theorem Mo.noexO (a : α) : (Mo.ok a).noex = .ok a := of_eq_true (eq_self _)
@[simp] theorem Mo.optS (a : α) : Mo.opt (some a) = .ok a := of_eq_true (eq_self _)
@[simp] theorem thenO_nx (s : S) (k : S → Mo (Out ρ B S')) : thenO (.ok (.nx s)) k = k s := of_eq_true (eq_self _)
@[simp] theorem thenO_rt (a : ρ) (k : S → Mo (Out ρ B S')) : thenO (.ok (.rt a)) k = .ok (.rt a) := of_eq_true (eq_self _)
@[simp] theorem thenO_bk (b : B) (k : S → Mo (Out ρ B S')) : thenO (.ok (.bk b)) k = .ok (.bk b) := of_eq_true (eq_self _)
@[simp] theorem thenO_ct (b : B) (k : S → Mo (Out ρ B S')) : thenO (.ok (.ct b)) k = .ok (.ct b) := of_eq_true (eq_self _)
@[simp] theorem fnO_rt (a : ρ) : fnO (.ok (.rt a)) = .ok a := of_eq_true (eq_self _)
@[simp] theorem forO_nil (step : S → α → Mo (Out ρ S S)) (s : S) : forO (B := B) step [] s = .ok (.nx s) := of_eq_true (eq_self _)
theorem forO_cons (step : S → α → Mo (Out ρ S S)) (x : α) (xs : List α) (s : S) : forO (B := B) step (x :: xs) s = (step s x).bind fun o => match o with | .nx s' => forO step xs s' | .ct s' => forO step xs s' | .bk s' => .ok (.nx s') | .rt a => .ok (.rt a) := rfl
theorem forO_nx {step : S → α → Mo (Out ρ S S)} {x : α} {xs : List α} {s s' : S} (h : step s x = .ok (.nx s')) : forO (B := B) step (x :: xs) s = forO step xs s' := by rw [forO_cons, h]; rfl
theorem forO_ret {step : S → α → Mo (Out ρ S S)} {x : α} {xs : List α} {s : S} {a : ρ} (h : step s x = .ok (.rt a)) : forO (B := B) step (x :: xs) s = .ok (.rt a) := by rw [forO_cons, h]; rfl
theorem forO_inv {step : S → α → Mo (Out ρ S S)} (P : List α → S → Prop) : ∀ {xs : List α} (done : List α) {s : S}, P done s → (∀ d x s, (∃ r, done ++ xs = d ++ x :: r) → P d s → ∃ s', step s x = .ok (.nx s') ∧ P (d ++ [x]) s') → ∃ s', forO (B := B) step xs s = .ok (.nx s') ∧ P (done ++ xs) s'
  | [], done, s, h0, _ => ⟨s, rfl, by rw [List.append_nil]; exact h0⟩
  | x :: xs, done, s, h0, h => by
    obtain ⟨s1, e1, p1⟩ := h done x s ⟨xs, rfl⟩ h0
    obtain ⟨s2, e2, p2⟩ := forO_inv P (xs := xs) (done ++ [x]) p1 fun d y s ⟨r, hr⟩ hp => h d y s ⟨r, by rw [← hr]; simp⟩ hp
    exact ⟨s2, by rw [forO_nx e1, e2], by simpa using p2⟩
theorem forO_all {step : Unit → α → Mo (Out ρ Unit Unit)} : ∀ {xs : List α}, (∀ x ∈ xs, step () x = .ok (.nx ())) → forO (B := B) step xs () = .ok (.nx ())
  | [], _ => rfl
  | x :: xs, h => by rw [forO_nx (h x List.mem_cons_self), forO_all fun y hy => h y (List.mem_cons_of_mem _ hy)]
theorem forO_find {step : Unit → α → Mo (Out ρ Unit Unit)} {p : α → Bool} {a : α → ρ} : ∀ {xs : List α}, (∀ x ∈ xs, step () x = if p x then .ok (.rt (a x)) else .ok (.nx ())) → forO (B := B) step xs () = match xs.find? p with | some x => .ok (.rt (a x)) | none => .ok (.nx ())
  | [], _ => rfl
  | x :: xs, h => by
    have h1 := h x List.mem_cons_self
    rw [List.find?_cons]
    cases e : p x with
    | true => rw [e, if_pos rfl] at h1; rw [forO_ret h1]
    | false => rw [e, if_neg (by decide)] at h1; rw [forO_nx h1, forO_find fun y hy => h y (List.mem_cons_of_mem _ hy)]
open PySem PySem.Spec PyProof.Rows in
theorem divG_ok {a j : Int} (h0 : 0 < j) (h : j.natAbs.log2 < 9000) : CDivG a j := by
  refine ⟨h0, ?_⟩
  unfold Builtin.divisionGoesByPylong
  simp only
  rw [Bool.and_eq_false_iff]
  left
  rw [decide_eq_false_iff_not]
  split <;> omega
theorem log2_lt {n k : Nat} (h : n < 2 ^ k) : n.log2 < k ∨ n = 0 := by
  by_cases hz : n = 0
  · exact .inr hz
  · exact .inl ((Nat.log2_lt hz).mpr h)
theorem divG_lt {a j : Int} (h0 : 0 < j) (h : j < 2 ^ 1000) : CDivG a j := by
  refine divG_ok h0 ?_
  have h1 : j.natAbs < 2 ^ 1000 := by
    have : ((2 : Int) ^ 1000) = ((2 ^ 1000 : Nat) : Int) := by rw [Int.natCast_pow]; rfl
    rw [this] at h
    omega
  rcases log2_lt h1 with h | h
  · omega
  · rw [h]; decide
open PySem PySem.Spec PyProof.Rows in
theorem mulG_small {i j : Int} (h : -(2 ^ 64) < i ∧ i < 2 ^ 64 ∨ -(2 ^ 64) < j ∧ j < 2 ^ 64) : IntMulOk i j := CMul.ok h
@[simp] theorem grd_div {a j : Int} {k : Mo α} (h0 : 0 < j) (h1 : j < 1073741824) : Mo.grd (CDivG a j) k = k := Mo.grd_ok (divG_lt h0 (by omega))
@[simp] theorem grd_T {k : Mo α} [Decidable True] : Mo.grd True k = k := Mo.grd_ok trivial
@[simp] theorem grd_mod {j : Int} {k : Mo α} (h0 : 0 < j) : Mo.grd (0 < j) k = k := Mo.grd_ok h0
open PySem PySem.Spec PyProof.Rows in
@[simp] theorem grd_mulL {i j : Int} {k : Mo α} (h0 : -18446744073709551616 < i) (h1 : i < 18446744073709551616) : Mo.grd (IntMulOk i j) k = k := Mo.grd_ok (mulG_small (.inl ⟨by omega, by omega⟩))
theorem rngI_len (lo : Int) (n : Nat) : (rngI lo n).length = n := by unfold rngI; rw [List.length_map, List.length_range]
theorem rngI_mem {lo x : Int} {n : Nat} : x ∈ rngI lo n ↔ lo ≤ x ∧ x < lo + n := by
  unfold rngI
  simp only [List.mem_map, List.mem_range]
  constructor
  · rintro ⟨a, h, rfl⟩; omega
  · rintro ⟨h1, h2⟩; exact ⟨(x - lo).toNat, by omega, by omega⟩
theorem atI_nn {xs : List α} {k : Int} (h0 : 0 ≤ k) : atI xs k = xs[k.toNat]? := by
  unfold atI ixN
  rw [if_pos h0]
  split
  · rfl
  · rename_i h
    rw [List.getElem?_eq_none (by omega)]; rfl
theorem atI_some {xs : List α} {k : Int} (h0 : 0 ≤ k) (h1 : k < xs.length) : ∃ x, atI xs k = some x ∧ x ∈ xs := by
  rw [atI_nn h0, List.getElem?_eq_getElem (show k.toNat < xs.length by omega)]
  exact ⟨_, rfl, List.getElem_mem _⟩
theorem eqL_refl {q : α → α → Bool} (hq : ∀ a, q a a = true) : ∀ xs : List α, eqL q xs xs = true
  | [] => rfl
  | x :: xs => by unfold eqL; rw [hq, eqL_refl hq xs]; rfl
theorem cutG_len (xs : List α) (lo hi : Option Int) : (cutG xs lo hi).length ≤ xs.length := by
  unfold cutG; rw [List.length_take, List.length_drop]; omega
end
end L2
namespace L2
open PySem PySem.Spec PyProof.Rows
section
variable {K : PySem.W.Frag} {E : XK} {α β γ ρ S S' B B' : Type} {F0 H0 F h H : Hp} {L L' : List Sl} {e e1 e2 : TE} {T : Ty α} {r : Mo α} {O : Own ρ} {t u : TS} {LS : S → List Sl} {LS' : S' → List Sl} {LB : B → List Sl}
def OwIn (T : Ty α) (F : Hp) : List (List α) → List V → Hp → Prop
  | [], [], h => ∀ p, h p = none
  | xs :: xss, v :: vs, h => ∃ h1 h2, Jn h1 h2 h ∧ (owL T).O xs v F h1 ∧ OwIn T F xss vs h2
  | _, _, _ => False
theorem OwIn.mono : ∀ {xss : List (List α)} {vs : List V} {F F' h : Hp}, Same F F' → OwIn T F xss vs h → OwIn T F' xss vs h
  | [], [], _, _, _, _, q => q
  | xs :: xss, v :: vs, F, F', h, g, ⟨h1, h2, j, o, r⟩ => ⟨h1, h2, j, (owL T).mono g o, r.mono g⟩
  | [], _ :: _, _, _, _, _, q => q.elim
  | _ :: _, [], _, _, _, _, q => q.elim
theorem OwIn.imm (i : Imm T) : ∀ {xss : List (List α)} {vs : List V} {F F' h : Hp}, Tups F F' → OwIn T F xss vs h → OwIn T F' xss vs h
  | [], [], _, _, _, _, q => q
  | xs :: xss, v :: vs, F, F', h, g, ⟨h1, h2, j, o, r⟩ => ⟨h1, h2, j, immo_l i g o, r.imm i g⟩
  | [], _ :: _, _, _, _, _, q => q.elim
  | _ :: _, [], _, _, _, _, q => q.elim
theorem OwIn.notup : ∀ {xss : List (List α)} {vs : List V} {F h : Hp}, OwIn T F xss vs h → ∀ p xs, h p ≠ some (.tup xs)
  | [], [], _, _, q, p, xs => by rw [q p]; exact fun z => by cases z
  | xs :: xss, v :: vs, F, h, ⟨h1, h2, j, o, r⟩, p, ys => by
    rcases j p with ⟨_, b⟩ | ⟨_, b⟩
    · rw [b]; exact r.notup p ys
    · rw [b]; exact (owL T).notup o p ys
  | [], _ :: _, _, _, q, _, _ => q.elim
  | _ :: _, [], _, _, q, _, _ => q.elim
theorem OwIn.len : ∀ {xss : List (List α)} {vs : List V} {F h : Hp}, OwIn T F xss vs h → xss.length = vs.length
  | [], [], _, _, _ => rfl
  | xs :: xss, v :: vs, F, h, ⟨h1, h2, j, o, r⟩ => by rw [List.length_cons, List.length_cons, r.len]
  | [], _ :: _, _, _, q => q.elim
  | _ :: _, [], _, _, q => q.elim
theorem OwIn.prs : ∀ {xss : List (List α)} {vs : List V} {F h G : Hp}, Same F G → Same h G → OwIn T F xss vs h → Prs (tyL T) G xss vs
  | [], [], _, _, _, _, _, _ => .nil
  | xs :: xss, v :: vs, F, h, G, gF, gh, ⟨h1, h2, j, ⟨p, us, e, z, q⟩, r⟩ => by
    refine .cons ⟨p, us, e, gh _ _ (j.l _ _ (by rw [z]; exact one_same)), q.mono gF⟩ (r.prs gF (j.r.trans gh))
  | [], _ :: _, _, _, _, _, _, q => q.elim
  | _ :: _, [], _, _, _, _, _, q => q.elim
abbrev owLL (T : Ty α) : Own (List (List α)) := ⟨fun xss v F h => ∃ p vs h2, v = .ref p ∧ Jn (one p (.lst vs)) h2 h ∧ OwIn T F xss vs h2, tyL (tyL T), fun g ⟨p, vs, h2, e, j, q⟩ => ⟨p, vs, h2, e, j, q.mono g⟩,
  fun d ⟨p, vs, h2, e, j, q⟩ => ⟨p, vs, e, un_own d _ _ (j.l _ _ one_same), q.prs un_same (j.r.trans (un_own d))⟩,
  fun ⟨p, vs, h2, e, j, q⟩ b xs y => by
    rcases j b with ⟨_, z⟩ | ⟨_, z⟩
    · rw [z] at y; exact q.notup b xs y
    · rw [z] at y; unfold one at y; split at y <;> cases y⟩
theorem immo_ll (i : Imm T) : ImmO (owLL T) := fun g ⟨p, vs, h2, e, j, q⟩ => ⟨p, vs, h2, e, j, q.imm i g⟩
theorem OwIn.at : ∀ {xss : List (List α)} {vs : List V} {F h : Hp} (i : Nat) {xs : List α}, OwIn T F xss vs h → xss[i]? = some xs →
    ∃ p us h2, vs[i]? = some (.ref p) ∧ Jn (one p (.lst us)) h2 h ∧ Prs T F xs us ∧ ∀ xs' us' h', Prs T F xs' us' → Jn (one p (.lst us')) h2 h' → OwIn T F (xss.set i xs') vs h'
  | [], _, _, _, _, _, _, e => by cases e
  | xs :: xss, [], _, _, _, _, q, _ => q.elim
  | xs :: xss, v :: vs, F, h, 0, ys, ⟨h1, h2, j, ⟨p, us, ev, z, q⟩, r⟩, e => by
    cases e
    subst ev z
    exact ⟨p, us, h2, rfl, j, q, fun xs' us' h' q' j' => ⟨_, h2, j', ⟨p, us', rfl, rfl, q'⟩, r⟩⟩
  | xs :: xss, v :: vs, F, h, i + 1, ys, ⟨h1, h2, j, o, r⟩, e => by
    obtain ⟨p, us, k2, e1, j1, q1, f⟩ := OwIn.at i r (by simpa using e)
    have d2 : Dj h1 k2 := fun q => by
      rcases j.dj q with a | a
      · exact .inl a
      · exact .inr (j1.r.free a)
    have h1p : h1 p = none := by
      rcases j.dj p with a | a
      · exact a
      · have := j1.l p _ one_same; rw [a] at this; cases this
    refine ⟨p, us, un h1 k2, by simpa using e1, fun q => ?_, q1, fun xs' us' h' q' j' => ?_⟩
    · rcases j q with ⟨a, b⟩ | ⟨a, b⟩
      · rcases j1 q with ⟨c, d⟩ | ⟨c, d⟩
        · refine .inl ⟨c, ?_⟩; unfold un; rw [a, b, d]
        · refine .inr ⟨?_, by rw [b, d]⟩; unfold un; rw [a, c]
      · refine .inl ⟨j1.l.free a, ?_⟩
        have : k2 q = none := j1.r.free a
        unfold un; rw [b]
        cases h1 q with
        | none => rw [this]
        | some u => rfl
    · have dd : Dj (one p (.lst us')) k2 := fun q => by
        unfold one; split
        · rename_i z; rw [z]
          rcases j1.dj p with a | a
          · rw [one_same] at a; cases a
          · exact .inr a
        · exact .inl rfl
      refine ⟨h1, un (one p (.lst us')) k2, fun q => ?_, o, f xs' us' _ q' (jn_of dd)⟩
      rcases j' q with ⟨a, b⟩ | ⟨a, b⟩
      · unfold un at b ⊢
        rw [a]
        cases z : h1 q with
        | none => rw [z] at b; exact .inl ⟨rfl, b⟩
        | some w =>
          rw [z] at b
          refine .inr ⟨?_, b⟩
          rcases d2 q with y | y
          · rw [y] at z; cases z
          · exact y
      · unfold un at a
        cases z : h1 q with
        | some w => rw [z] at a; cases a
        | none =>
          rw [z] at a
          refine .inl ⟨rfl, ?_⟩
          unfold un; rw [b]
          cases one p (.lst us') q with
          | none => exact a.symm
          | some w => rfl
theorem ixN_some {n : Nat} {j : Int} {k : Nat} (h : ixN n j = some k) : k < n := by
  unfold ixN at h
  split at h
  · split at h
    · cases h; omega
    · cases h
  · split at h
    · cases h; omega
    · cases h
theorem mut_okk {p : Addr} {o' : HO} {h1' hr h' : Hp} (ok : Okk F0 H0 F h H) (hp : h p ≠ none) (nt : ∀ xs, o' ≠ .tup xs) (h' : Hp) (hh : ∀ q, h' q = if q = p then some o' else h q) : Okk F0 H0 F h' (upd H p o') := by
  obtain ⟨o1, o2, o3, o4, o5⟩ := ok
  have Fp : F p = none := by
    rcases o2 p with z | z
    · exact z
    · exact absurd z hp
  have H0p : H0 p = none := o4 p hp
  refine ⟨⟨o1.1, fun q o z => ?_, fun q o z => ?_, o1.2.2.2⟩, fun q => ?_, fun q o z => ?_, fun q z => ?_, fun q ys z => ?_⟩
  · unfold upd; split
    · rename_i w; rw [w, Fp] at z; cases z
    · exact o1.2.1 _ _ z
  · unfold upd; split
    · rename_i w; rw [w, H0p] at z; cases z
    · exact o1.2.2.1 _ _ z
  · rw [hh]; split
    · rename_i w; rw [w]; exact .inl Fp
    · exact o2 q
  · rw [hh] at z; unfold upd
    split at z
    · rename_i w; rw [if_pos w]; exact z
    · rename_i w; rw [if_neg w]; exact o3 _ _ z
  · rw [hh] at z; split at z
    · rename_i w; rw [w]; exact H0p
    · exact o4 q z
  · rw [hh] at z; split at z
    · exact nt ys (by injection z)
    · exact o5 q ys z
theorem hold_mutN {i : Nat} {σ : St} {xss : List (List α)} {j : Nat} {xs : List α} (hL : Hold L σ F h) (hi : L[i]? = some (.ow (owLL T) xss)) (hj : xss[j]? = some xs) (ok : Okk F0 H0 F h H) :
    ∃ p vs q us, σ[i]? = some (some (.ref p)) ∧ H p = some (.lst vs) ∧ xss.length = vs.length ∧ vs[j]? = some (.ref q) ∧ H q = some (.lst us) ∧ Prs T F xs us ∧
      ∀ xs' us', Prs T F xs' us' → ∃ h', Hold (L.set i (.ow (owLL T) (xss.set j xs'))) σ F h' ∧ Okk F0 H0 F h' (upd H q (.lst us')) := by
  obtain ⟨o, h1, h2, e1, jj, ⟨v, e2, p, vs, k2, rfl, jk, inn⟩, f⟩ := hL.at i hi
  subst e2
  obtain ⟨q, us, m2, e3, jm, hr, g⟩ := inn.at j hj
  have hq1 : k2 q = some (.lst us) := jm.l _ _ one_same
  have hq2 : h1 q = some (.lst us) := jk.r _ _ hq1
  have hq : h q = some (.lst us) := jj.l _ _ hq2
  have hp : h p = some (.lst vs) := jj.l _ _ (jk.l _ _ one_same)
  refine ⟨p, vs, q, us, e1, ok.2.2.1 _ _ hp, inn.len, e3, ok.2.2.1 _ _ hq, hr, fun xs' us' hr' => ?_⟩
  have pq : p ≠ q := fun z => by
    rcases jk.dj p with a | a
    · rw [one_same] at a; cases a
    · rw [z, hq1] at a; cases a
  let k2' : Hp := fun b => if b = q then some (.lst us') else k2 b
  let h1' : Hp := fun b => if b = q then some (.lst us') else h1 b
  let h' : Hp := fun b => if b = q then some (.lst us') else h b
  have j1 : Jn (one q (.lst us')) m2 k2' := fun b => by
    show _ ∨ _
    by_cases z : b = q
    · right
      have : m2 b = none := by
        rcases jm.dj b with a | a
        · rw [z, one_same] at a; cases a
        · exact a
      refine ⟨this, ?_⟩
      show (if b = q then _ else _) = one q _ b
      rw [if_pos z]; unfold one; rw [if_pos z]
    · left
      refine ⟨by unfold one; rw [if_neg z], ?_⟩
      show (if b = q then _ else _) = _
      rw [if_neg z]
      rcases jm b with ⟨_, c⟩ | ⟨a, c⟩
      · exact c
      · rw [c, a]; unfold one; rw [if_neg z]
  have j2 : Jn (one p (.lst vs)) k2' h1' := fun b => by
    by_cases z : b = q
    · left
      refine ⟨by unfold one; rw [if_neg (fun y => pq (by rw [← y, z]))], ?_⟩
      show (if b = q then _ else _) = (if b = q then _ else _)
      rw [if_pos z, if_pos z]
    · rcases jk b with ⟨a, c⟩ | ⟨a, c⟩
      · refine .inl ⟨a, ?_⟩
        show (if b = q then _ else _) = (if b = q then _ else _)
        rw [if_neg z, if_neg z]; exact c
      · refine .inr ⟨?_, ?_⟩
        · show (if b = q then _ else _) = _
          rw [if_neg z]; exact a
        · show (if b = q then _ else _) = _
          rw [if_neg z]; exact c
  have j3 : Jn h1' h2 h' := fun b => by
    by_cases z : b = q
    · right
      have : h2 b = none := by
        rcases jj.dj b with a | a
        · rw [z, hq2] at a; cases a
        · exact a
      refine ⟨this, ?_⟩
      show (if b = q then _ else _) = (if b = q then _ else _)
      rw [if_pos z, if_pos z]
    · rcases jj b with ⟨a, c⟩ | ⟨a, c⟩
      · refine .inl ⟨?_, ?_⟩
        · show (if b = q then _ else _) = _
          rw [if_neg z]; exact a
        · show (if b = q then _ else _) = _
          rw [if_neg z]; exact c
      · refine .inr ⟨a, ?_⟩
        show (if b = q then _ else _) = (if b = q then _ else _)
        rw [if_neg z, if_neg z]; exact c
  have gg := f (.ow (owLL T) (xss.set j xs')) (some (.ref p)) h1' h' j3 ⟨_, rfl, p, vs, k2', rfl, j2, g xs' us' k2' hr' j1⟩
  rw [set_self e1] at gg
  exact ⟨h', gg, mut_okk (h1' := h) (hr := h) (h' := h) ok (by rw [hq]; exact Option.some_ne_none _) (fun xs z => by cases z) h' fun b => rfl⟩
def appN (xss : List (List α)) (j : Nat) (a : α) : List (List α) := match xss[j]? with | some xs => xss.set j (xs ++ [a]) | none => xss
theorem s_appendN {i : Nat} {xss : List (List α)} {ei : TE} {ri : Mo Int} {k : Nat → α → Mo (Out ρ B S)} (hi : L[i]? = some (.ow (owLL T) xss)) (hT : Imm T) (hei : EvF K ei E L ri tyInt) (he : EvF K e E L r T) (hk : ∀ j a, EvS K u E (L.set i (.ow (owLL T) (appN xss j a))) (k j a) LS LB O) :
    EvS K (tSeq (tDrop (tBM K "list" rAppend (tOp (mIx K) (mVar i) ei) (tCons e tNil))) u) E L (ri.bind fun j => (Mo.opt (ixN xss.length j)).bind fun n => r.bind fun a => .lim ((xss[n]?.getD []).length + 1) (k n a)) LS LB O := by
  intro F0 H0 σ F h H D hL ok fin
  show mVar i σ H fun o H0' => ei σ H0' fun y H1 => mIx K o y H1 fun x H1 => tyV K "list" x H1 ∧ tCons e tNil σ H1 fun xs H2 => rAppend x xs H2 (fun _ H3 => u D σ H3)
  obtain ⟨o0, g1, g2, e0, _, ⟨v0, e00, p0, vs0, _, rfl, _, _⟩, _⟩ := hL.at i hi
  subst e00
  refine mvar_at e0 ?_
  refine hei σ (un F h) H _ (hL.froz ok.2.1) ok.thaw (fin_ok (G := F) ok _ (.inl rfl) fin fun j F1 H1 hrj x1 v1 hv1 => ?_)
  cases hv1
  obtain ⟨o, hs, ht⟩ := ok.back x1
  rw [hrj] at fin
  have hL' := hL.mono hs
  obtain ⟨n, en, fin⟩ := fin_opt fin
  have hn := ixN_some en
  obtain ⟨p, vs, q, us, e1, hp, hlen, e3, hq, hr, _⟩ := hold_mutN hL' hi (List.getElem?_eq_getElem hn) o
  rw [e0] at e1; cases e1
  refine ⟨vs, .inl (.of hp), ?_⟩
  have ea : atI vs j = some (.ref q) := by unfold atI; rw [← hlen, en]; exact e3
  rw [ea]
  refine ⟨.inl ⟨rfl, us, .of hq⟩, ?_⟩
  refine he σ (un _ h) H1 _ (hL'.froz o.2.1) o.thaw (fin_ok (G := F) o _ (.inl rfl) fin fun a F2 H2 hra x2 v hv => ?_)
  obtain ⟨o', hs', ht'⟩ := o.back x2
  rw [hra] at fin
  obtain ⟨hz, fin⟩ := fin_lim (show Fin K (Mo.lim ((xss[n]?.getD []).length + 1) (k n a)) E LS LB O F0 H0 D from fin)
  obtain ⟨p', vs', q', us', e1', hp', hlen', e3', hq', hr', mm⟩ := hold_mutN (hL'.mono hs') hi (List.getElem?_eq_getElem hn) o'
  rw [e0] at e1'; cases e1'
  have : vs' = vs := by
    have h1 := x2.2.2.1 _ _ hp
    rw [hp'] at h1; injection h1 with h1; injection h1
  subst this
  rw [e3] at e3'; cases e3'
  have : us' = us := by
    have h1 := x2.2.2.1 _ _ hq
    rw [hq'] at h1; injection h1 with h1; injection h1
  subst this
  obtain ⟨h', a1, a2⟩ := mm (xss[n] ++ [a]) (us' ++ [v]) (hr'.append (.cons (hT ht' hv) .nil))
  have ex : appN xss n a = xss.set n (xss[n] ++ [a]) := by unfold appN; rw [List.getElem?_eq_getElem hn]
  have hk' := hk n a
  rw [ex] at hk'
  rw [List.getElem?_eq_getElem hn] at hz
  have hl := hr'.len
  exact ⟨q, us', v, rfl, rfl, hq', by simp only [Option.getD_some] at hz; omega, hk' F0 H0 σ _ h' _ D a1 a2 fin⟩
end
end L2
namespace L2
open PySem PySem.Spec PyProof.Rows
section
variable {K : PySem.W.Frag} {E : XK} {α β γ ρ S S' B B' : Type} {F0 H0 F h H : Hp} {L L' : List Sl} {e e1 e2 : TE} {T : Ty α} {r : Mo α} {O : Own ρ} {t u : TS} {LS : S → List Sl} {LS' : S' → List Sl} {LB : B → List Sl}
theorem OwIn.snoc : ∀ {xss : List (List α)} {vs : List V} {h h1 h' : Hp} {xs : List α} {v : V}, OwIn T F xss vs h → (owL T).O xs v F h1 → Jn h h1 h' → OwIn T F (xss ++ [xs]) (vs ++ [v]) h'
  | [], [], h, h1, h', xs, v, q, o, j => by
    refine ⟨h', fun _ => none, fun p => .inr ⟨rfl, rfl⟩, ?_, fun _ => rfl⟩
    have : h' = h1 := by
      funext p
      rcases j p with ⟨a, b⟩ | ⟨a, b⟩
      · exact b
      · rw [b, q p, a]
    rw [this]; exact o
  | ys :: xss, w :: vs, h, h1, h', xs, v, ⟨k1, k2, jk, o1, r1⟩, o, j => by
    have d : Dj k2 h1 := fun p => by
      rcases j.dj p with a | a
      · exact .inl (jk.r.free a)
      · exact .inr a
    refine ⟨k1, un k2 h1, fun p => ?_, o1, r1.snoc o (jn_of d)⟩
    rcases j p with ⟨a, b⟩ | ⟨a, b⟩
    · have z1 : k1 p = none := jk.l.free a
      have z2 : k2 p = none := jk.r.free a
      refine .inl ⟨z1, ?_⟩
      unfold un; rw [z2]; exact b
    · rcases jk p with ⟨c, dd⟩ | ⟨c, dd⟩
      · refine .inl ⟨c, ?_⟩
        unfold un; rw [b, dd]
        cases z : k2 p with
        | none => exact a.symm
        | some w => rfl
      · refine .inr ⟨?_, by rw [b, dd]⟩
        unfold un; rw [c]; exact a
  | [], _ :: _, _, _, _, _, _, q, _, _ => q.elim
  | _ :: _, [], _, _, _, _, _, q, _, _ => q.elim
theorem ev_compN {lv : List Str} {fr : List (Str × Nat)} {wi : TI} {g : TG} {tt : TT} {te : TE} {r : Mo (List α)} {ss : α → List (Nat × Sl)} {c : α → Mo Bool} {f : α → Mo (List β)} {T' : Ty β}
    (hi : EvI K wi E L r T) (hg : TgR K g T ss) (hd : ∀ a, DeadAt (cL lv fr L) ((ss a).map (·.1))) (ht : ∀ a, EvT K tt E0 (setL (cL lv fr L) (ss a)) (c a)) (he : ∀ a, EvO K te E0 (setL (cL lv fr L) (ss a)) (f a) (owL T')) :
    EvO K (tComp lv fr wi g tt te) E L (r.bind fun xs => compM (fun x => cond1 (c x) (f x)) xs []) (owLL T') := by
  intro σ F0 H0 Q hL hs q
  refine hi σ F0 H0 _ hL hs (q.bind.imp fun xs F1 H1 x1 k1 J Y D hD => ?_)
  have hL1 := hL.mono x1.1
  refine ⟨fun i m ys σ' H' => m = xs.length - i ∧ i ≤ xs.length ∧ ∃ acc Fi hh, Ext F1 H1 Fi H' ∧ Fi D = none ∧ hh D = none ∧ H' D = some (.lst ys) ∧ OwIn T' Fi acc ys hh ∧ Dj Fi hh ∧ Same hh H' ∧ (∀ p, hh p ≠ none → H1 p = none) ∧ HoldF (cL lv fr L) σ' F1 ∧ σ'.length = (cL lv fr L).length ∧ After K (compM (fun x => cond1 (c x) (f x)) (xs.drop i) acc) E F1 H1 (OwnK (owLL T') H0 Q),
    ⟨_, rfl, Nat.zero_le _, [], F1, fun _ => none, .heap x1.2.1 (same_new hD _), x1.2.1.free hD, rfl, upd_same, fun _ => rfl, fun _ => .inr rfl, (fun p o z => by cases z), fun p z => absurd rfl z, holdF_comp hL1, len_comp.symm, k1⟩, ?_⟩
  rintro i m ys σ' H' ⟨rfl, hi, acc, Fi, hh, xi, hDi, hDh, hy, hp, dj, sh, fresh, hσ, hln, A⟩
  by_cases hlt : i < xs.length
  · right
    have ex : xs[i]? = some xs[i] := List.getElem?_eq_getElem hlt
    obtain ⟨g1, g2⟩ := Y.go i H' xs[i] (xi.1.trans xi.2.1) ex
    refine ⟨g1, fun ys' σ'' H'' => i + 1 ≤ xs.length ∧ ∃ acc Fi hh, Ext F1 H1 Fi H'' ∧ Fi D = none ∧ hh D = none ∧ H'' D = some (.lst ys') ∧ OwIn T' Fi acc ys' hh ∧ Dj Fi hh ∧ Same hh H'' ∧ (∀ p, hh p ≠ none → H1 p = none) ∧ HoldF (cL lv fr L) σ'' F1 ∧ σ''.length = (cL lv fr L).length ∧ After K (compM (fun x => cond1 (c x) (f x)) (xs.drop (i + 1)) acc) E F1 H1 (OwnK (owLL T') H0 Q), fun ys' σ'' H'' z => ⟨xs.length - (i + 1), by omega, rfl, z⟩, fun v H2 hyl => ?_⟩
    obtain ⟨F2, x2, hv⟩ := g2 v H2 hyl Fi xi.1 xi.2.1
    have keep : ∀ {Fa Ha Fb Hb : Hp}, Ext Fa Ha Fb Hb → Fa D = none → Ha D = some (.lst ys) → Dj Fa hh → Same hh Ha → (Fb D = none ∧ Hb D = some (.lst ys)) ∧ Dj Fb hh ∧ Same hh Hb := by
      intro Fa Ha Fb Hb x h1 h2 h3 h4
      refine ⟨⟨?_, x.2.2.1 _ _ h2⟩, fun p => ?_, h4.trans x.2.2.1⟩
      · cases z : Fb D with
        | none => rfl
        | some o => have := x.2.2.2 D h1 (by rw [z]; exact Option.some_ne_none _); rw [h2] at this; cases this
      · cases y : hh p with
        | none => exact .inr rfl
        | some w =>
          left
          rcases h3 p with z | z
          · cases zz : Fb p with
            | none => rfl
            | some o => have := x.2.2.2 p z (by rw [zz]; exact Option.some_ne_none _); rw [h4 _ _ y] at this; cases this
          · rw [z] at y; cases y
    obtain ⟨⟨hD2, hy2⟩, dj2, sh2⟩ := keep x2 hDi hy dj sh
    refine hg xs[i] v σ' F2 H2 _ x2.2.1 hv fun vs hpl => ?_
    have hσ2 : HoldF (cL lv fr L) σ' F2 := hσ.mono (xi.1.trans x2.1)
    obtain ⟨a1, a2, a3⟩ := holdF_plain hpl hln.symm hσ2
    have hσd : HoldF (cL lv fr L) (setS σ' vs) F1 := by
      have hdead := hd xs[i]
      refine fun j s e => ?_
      by_cases hj : ∃ q ∈ (ss xs[i]).map (·.1), q = j
      · obtain ⟨q, hq, rfl⟩ := hj
        rw [hdead q hq s e]; trivial
      · have : ((setS σ' vs)[j]?) = σ'[j]? := setS_get hpl (fun hq => hj ⟨j, hq, rfl⟩)
        rw [this]; exact hσ j s e
    have hdrop : xs.drop i = xs[i] :: xs.drop (i + 1) := List.drop_eq_getElem_cons hlt
    rw [hdrop] at A
    unfold compM at A
    cases ec : c xs[i] with
    | no => unfold cond1 at A; rw [ec] at A; exact A.elim
    | ex cc => unfold cond1 at A; rw [ec] at A; exact A.elim
    | ok bb =>
      refine ht xs[i] _ F2 H2 _ a1 x2.2.1 ?_
      rw [ec]
      intro F3 H3 x3
      obtain ⟨⟨hD3, hy3⟩, dj3, sh3⟩ := keep x3 hD2 hy2 dj2 sh2
      have x13 := (xi.trans x2).trans x3
      cases bb with
      | false =>
        rw [if_neg (by decide)]
        refine ⟨hlt, acc, F3, hh, x13, hD3, hDh, hy3, hp.mono (x2.1.trans x3.1), dj3, sh3, fresh, hσd, by rw [a2]; exact hln, ?_⟩
        unfold cond1 at A; rw [ec] at A
        exact A
      | true =>
        rw [if_pos rfl]
        cases ef : f xs[i] with
        | no => unfold cond1 at A; rw [ec, ef] at A; exact A.elim
        | ex cc => unfold cond1 at A; rw [ec, ef] at A; exact A.elim
        | ok y =>
          unfold cond1 at A; rw [ec, ef] at A
          have A' : After K (Mo.lim (acc.length + 1) (compM (fun x => cond1 (c x) (f x)) (xs.drop (i + 1)) (acc ++ [y]))) E F1 H1 (OwnK (owLL T') H0 Q) := A
          obtain ⟨hz, A'⟩ := A'.lim
          refine he xs[i] _ F3 H3 _ (a1.mono x3.1) x3.2.1 ?_
          rw [ef]
          intro F4 H4 x4 v4 hn fr4 dj4n sn4 hv4
          obtain ⟨⟨hD4, hy4⟩, dj4, sh4⟩ := keep x4 hD3 hy3 dj3 sh3
          have hlen := hp.len
          have hnD : hn D = none := by
            cases z : hn D with
            | none => rfl
            | some w => have := fr4 D (by rw [z]; exact Option.some_ne_none _); rw [hy3] at this; cases this
          have djn : Dj hh hn := fun p => by
            cases z : hn p with
            | none => exact .inr rfl
            | some w => exact .inl (sh3.free (fr4 p (by rw [z]; exact Option.some_ne_none _)))
          have x14 := x13.trans x4
          refine ⟨hy4, by omega, hlt, acc ++ [y], F4, un hh hn, ?_, hD4, by unfold un; rw [hDh]; exact hnD, upd_same, (hp.mono ((x2.1.trans x3.1).trans x4.1)).snoc hv4 (jn_of djn), fun p => ?_, fun p o z => ?_, fun p z => ?_, hσd, by rw [a2]; exact hln, A'⟩
          · refine ⟨x14.1, fun b o z => ?_, fun b o z => ?_, x14.2.2.2⟩
            · unfold upd; split
              · rename_i w; rw [w, hD4] at z; cases z
              · exact x14.2.1 _ _ z
            · unfold upd; split
              · rename_i w; rw [w, hD] at z; cases z
              · exact x14.2.2.1 _ _ z
          · unfold un
            cases z : hh p with
            | some w =>
              rcases dj4 p with y | y
              · exact .inl y
              · rw [y] at z; cases z
            | none => exact dj4n p
          · have hpD : p ≠ D := fun w => by
              unfold un at z; rw [w, hDh, hnD] at z; cases z
            unfold upd; rw [if_neg hpD]
            unfold un at z
            cases w : hh p with
            | some o' => rw [w] at z; cases z; exact sh4 _ _ w
            | none => rw [w] at z; exact sn4 _ _ z
          · unfold un at z
            cases w : hh p with
            | some o' => exact fresh p (by rw [w]; exact Option.some_ne_none _)
            | none => rw [w] at z; exact x13.2.2.1.free (fr4 p z)
  · left
    have e : i = xs.length := by omega
    subst e
    refine ⟨Y.stop H' (xi.1.trans xi.2.1), ?_⟩
    rw [List.drop_length] at A
    have A' : OwnK (owLL T') H0 Q acc Fi H' := A Fi H' xi
    have dD : Dj (one D (.lst ys)) hh := fun p => by
      unfold one; split
      · rename_i w; rw [w]; exact .inr hDh
      · exact .inl rfl
    refine A' (.ref D) (un (one D (.lst ys)) hh) (fun p z => ?_) (fun p => ?_) (fun p o z => ?_) ⟨D, ys, hh, rfl, jn_of dD, hp⟩
    · unfold un one at z
      by_cases w : p = D
      · rw [w]; exact x1.2.2.1.free hD
      · simp only [if_neg w] at z; exact x1.2.2.1.free (fresh p z)
    · by_cases w : p = D
      · rw [w]; exact .inl hDi
      · unfold un one; simp only [if_neg w]; exact dj p
    · unfold un one at z
      by_cases w : p = D
      · simp only [if_pos w] at z; rw [w]; cases z; exact hy
      · simp only [if_neg w] at z; exact sh _ _ z
@[irreducible] def fuelW : Nat := 100000
def mLtS : R2 := fun x y H Q => match x, y with
  | .int i, .int j => Q (.bl (decide (i < j))) H
  | .str i, .str j => Q (.bl (decide (i.cps.toList < j.cps.toList))) H
  | _, _ => False
theorem op_ltM2 {X : Cx} : OpR X (compareOp .Lt) mLtS := by
  intro pins s σ H x y v u Q I rx ry h
  cases x <;> cases y <;> first
    | exact h.elim
    | exact op_lt pins s σ H _ _ v u Q I rx ry ⟨_, _, rfl, rfl, h⟩
    | exact op_lt_str pins s σ H _ _ v u Q I rx ry ⟨_, _, rfl, rfl, h⟩
end
end L2
namespace L2
open PySem PySem.Spec PyProof.Rows
section
variable {α : Type}
theorem forO_elim {S B ρ : Type} {step : S → α → Mo (Out ρ S S)} {xs : List α} {s : S} {G : Mo (Out ρ B S) → Prop} (P : List α → S → Prop) (h0 : P [] s) (hs : ∀ d x s, (∃ r, xs = d ++ x :: r) → P d s → ∃ s', step s x = .ok (.nx s') ∧ P (d ++ [x]) s') (hk : ∀ s', P xs s' → G (.ok (.nx s'))) : G (forO step xs s) := by
  obtain ⟨s', e, p⟩ := forO_inv (B := B) P (xs := xs) [] h0 (fun d x s hr hp => hs d x s hr hp)
  rw [e]
  exact hk s' p
def insK (k : α → Nat) (x : α) (ys : List α) : List α := ys.filter (fun y => decide (k y ≤ k x)) ++ x :: ys.filter (fun y => decide (k x < k y))
def sK (k : α → Nat) (xs : List α) : List α := xs.foldl (fun acc x => insK k x acc) []
def Srt (k : α → Nat) (ys : List α) : Prop := ys.Pairwise fun a b => k a ≤ k b
theorem sK_snoc (k : α → Nat) (xs : List α) (x : α) : sK k (xs ++ [x]) = insK k x (sK k xs) := by unfold sK; rw [List.foldl_append]; rfl
theorem snoc_ind {P : List α → Prop} (h0 : P []) (hs : ∀ xs x, P xs → P (xs ++ [x])) (xs : List α) : P xs := by
  have : ∀ n (xs : List α), xs.length = n → P xs := by
    intro n
    induction n with
    | zero => intro xs e; rw [List.length_eq_zero_iff.mp e]; exact h0
    | succ n ih =>
      intro xs e
      have hne : xs ≠ [] := fun z => by rw [z] at e; cases e
      rw [← List.dropLast_concat_getLast hne]
      exact hs _ _ (ih _ (by rw [List.length_dropLast, e]; rfl))
  exact this _ xs rfl
theorem srt_split {k : α → Nat} {ys : List α} (h : Srt k ys) (m : Nat) : ys = ys.filter (fun y => decide (k y ≤ m)) ++ ys.filter (fun y => decide (m < k y)) := by
  induction ys with
  | nil => rfl
  | cons y ys ih =>
    obtain ⟨h1, h2⟩ := List.pairwise_cons.mp h
    by_cases hy : k y ≤ m
    · rw [List.filter_cons_of_pos (by simpa using hy), List.filter_cons_of_neg (by simpa using hy), List.cons_append, ← ih h2]
    · have e : (y :: ys).filter (fun y => decide (k y ≤ m)) = [] := by
        rw [List.filter_eq_nil_iff]
        intro z hz
        rcases List.mem_cons.mp hz with rfl | hz
        · simpa using hy
        · have := h1 z hz; simp; omega
      have e2 : (y :: ys).filter (fun y => decide (m < k y)) = y :: ys := by
        rw [List.filter_eq_self]
        intro z hz
        rcases List.mem_cons.mp hz with rfl | hz
        · simp; omega
        · have := h1 z hz; simp; omega
      rw [e, e2, List.nil_append]
theorem srt_ins {k : α → Nat} {ys : List α} (h : Srt k ys) (x : α) : Srt k (insK k x ys) := by
  unfold insK Srt
  rw [List.pairwise_append]
  refine ⟨List.Pairwise.filter _ h, ?_, ?_⟩
  · rw [List.pairwise_cons]
    refine ⟨fun a ha => ?_, List.Pairwise.filter _ h⟩
    have := (List.mem_filter.mp ha).2
    simp at this; omega
  · intro a ha b hb
    have h1 := (List.mem_filter.mp ha).2
    simp at h1
    rcases List.mem_cons.mp hb with rfl | hb
    · exact h1
    · have h2 := (List.mem_filter.mp hb).2
      simp at h2; omega
theorem srt_sK (k : α → Nat) (xs : List α) : Srt k (sK k xs) := by
  induction xs using snoc_ind with
  | h0 => exact List.Pairwise.nil
  | hs xs x ih => rw [sK_snoc]; exact srt_ins ih x
theorem mem_insK {k : α → Nat} {x y : α} {ys : List α} : y ∈ insK k x ys ↔ y = x ∨ y ∈ ys := by
  unfold insK
  simp only [List.mem_append, List.mem_cons, List.mem_filter, decide_eq_true_eq]
  constructor
  · rintro (h | h | h)
    · exact .inr h.1
    · exact .inl h
    · exact .inr h.1
  · rintro (h | h)
    · exact .inr (.inl h)
    · by_cases z : k y ≤ k x
      · exact .inl ⟨h, z⟩
      · exact .inr (.inr ⟨h, by omega⟩)
theorem mem_sK {k : α → Nat} {y : α} (xs : List α) : y ∈ sK k xs ↔ y ∈ xs := by
  induction xs using snoc_ind with
  | h0 => rfl
  | hs xs x ih => rw [sK_snoc, mem_insK, ih, List.mem_append, List.mem_singleton]; exact or_comm
theorem len_insK (k : α → Nat) (x : α) (ys : List α) : (insK k x ys).length = ys.length + 1 := by
  unfold insK
  rw [List.length_append, List.length_cons]
  induction ys with
  | nil => rfl
  | cons y ys ih =>
    by_cases hy : k y ≤ k x
    · rw [List.filter_cons_of_pos (by simpa using hy), List.filter_cons_of_neg (by simpa using hy)]; simp only [List.length_cons]; omega
    · rw [List.filter_cons_of_neg (by simpa using hy), List.filter_cons_of_pos (by simp; omega)]; simp only [List.length_cons]; omega
theorem len_sK (k : α → Nat) (xs : List α) : (sK k xs).length = xs.length := by
  induction xs using snoc_ind with
  | h0 => rfl
  | hs xs x ih => rw [sK_snoc, len_insK, ih, List.length_append, List.length_singleton]
theorem sK_id {k : α → Nat} {ys : List α} (h : Srt k ys) : sK k ys = ys := by
  induction ys using snoc_ind with
  | h0 => rfl
  | hs xs x ih =>
    obtain ⟨h1, _, h3⟩ := List.pairwise_append.mp h
    rw [sK_snoc, ih h1]
    unfold insK
    have e1 : xs.filter (fun y => decide (k y ≤ k x)) = xs := by
      rw [List.filter_eq_self]; intro y hy; simpa using h3 y hy x (List.mem_singleton.mpr rfl)
    have e2 : xs.filter (fun y => decide (k x < k y)) = [] := by
      rw [List.filter_eq_nil_iff]; intro y hy; have := h3 y hy x (List.mem_singleton.mpr rfl); simp; omega
    rw [e1, e2]
theorem sK_zero (xs : List α) : sK (fun _ => 0) xs = xs := sK_id (List.pairwise_of_forall fun _ _ => Nat.le_refl _)
def dealR (r : α → Nat) (n : Nat) (ys : List α) : List α := (List.range n).flatMap fun i => ys.filter fun y => decide (r y = i)
theorem range_split {n i : Nat} (h : i < n) : List.range n = List.range i ++ i :: (List.range (n - i - 1)).map (fun j => i + 1 + j) := by
  have e : n = (i + 1) + (n - i - 1) := by omega
  conv => lhs; rw [e, List.range_add, List.range_succ, List.append_assoc]
  simp
theorem flatMap_congr {β : Type} {f g : α → List β} {l : List α} (h : ∀ a ∈ l, f a = g a) : l.flatMap f = l.flatMap g := by
  induction l with
  | nil => rfl
  | cons a l ih => rw [List.flatMap_cons, List.flatMap_cons, h a List.mem_cons_self, ih fun b hb => h b (List.mem_cons_of_mem _ hb)]
theorem filter_flatMap {β : Type} (p : β → Bool) (f : α → List β) (l : List α) : (l.flatMap f).filter p = l.flatMap fun a => (f a).filter p := by
  induction l with
  | nil => rfl
  | cons a l ih => rw [List.flatMap_cons, List.flatMap_cons, List.filter_append, ih]
theorem flatMap_nil {β : Type} {f : α → List β} {l : List α} (h : ∀ a ∈ l, f a = []) : l.flatMap f = [] := by
  induction l with
  | nil => rfl
  | cons a l ih => rw [List.flatMap_cons, h a List.mem_cons_self, ih fun b hb => h b (List.mem_cons_of_mem _ hb)]; rfl
theorem ins_deal {k r : α → Nat} {M n : Nat} {ys : List α} {x : α} (hs : Srt k ys) (hk : ∀ y ∈ ys, k y < M) (hkx : k x < M) (hr : r x < n) :
    insK (fun a => r a * M + k a) x (dealR r n ys) = dealR r n (insK k x ys) := by
  have less : ∀ a b : Nat, a < b → ∀ u v : Nat, u < M → a * M + u < b * M + v := by
    intro a b hab u v hu
    have : (a + 1) * M ≤ b * M := Nat.mul_le_mul_right _ hab
    rw [Nat.add_mul, Nat.one_mul] at this
    omega
  generalize hA : ys.filter (fun y => decide (k y ≤ k x)) = A
  generalize hB : ys.filter (fun y => decide (k x < k y)) = B
  have hys : ys = A ++ B := by rw [← hA, ← hB]; exact srt_split hs (k x)
  have hAk : ∀ y ∈ A, k y ≤ k x ∧ k y < M := fun y hy => by
    rw [← hA] at hy; obtain ⟨h1, h2⟩ := List.mem_filter.mp hy; exact ⟨by simpa using h2, hk y h1⟩
  have hBk : ∀ y ∈ B, k x < k y ∧ k y < M := fun y hy => by
    rw [← hB] at hy; obtain ⟨h1, h2⟩ := List.mem_filter.mp hy; exact ⟨by simpa using h2, hk y h1⟩
  have e1 : insK k x ys = A ++ x :: B := by unfold insK; rw [hA, hB]
  rw [e1]
  unfold insK dealR
  rw [range_split hr]
  simp only [List.flatMap_append, List.flatMap_cons, List.filter_append, filter_flatMap, List.filter_filter]
  have lo1 : (List.range (r x)).flatMap (fun i => ys.filter fun a => (decide (r a * M + k a ≤ r x * M + k x) && decide (r a = i))) = (List.range (r x)).flatMap fun i => (A ++ x :: B).filter fun y => decide (r y = i) := by
    refine flatMap_congr fun i hi => ?_
    have hi := List.mem_range.mp hi
    rw [List.filter_append, List.filter_cons_of_neg (by simp; omega), ← List.filter_append, ← hys]
    refine List.filter_congr fun y hy => ?_
    by_cases z : r y = i
    · have := less (r y) (r x) (by omega) (k y) (k x) (hk y hy)
      simp [z]; rw [z] at this; omega
    · simp [z]
  have lo2 : (List.range (r x)).flatMap (fun i => ys.filter fun a => (decide (r x * M + k x < r a * M + k a) && decide (r a = i))) = [] := by
    refine flatMap_nil fun i hi => ?_
    have hi := List.mem_range.mp hi
    rw [List.filter_eq_nil_iff]
    intro y hy
    by_cases z : r y = i
    · have := less (r y) (r x) (by omega) (k y) (k x) (hk y hy)
      simp [z]; rw [z] at this; omega
    · simp [z]
  have hi1 : ((List.range (n - r x - 1)).map fun j => r x + 1 + j).flatMap (fun i => ys.filter fun a => (decide (r a * M + k a ≤ r x * M + k x) && decide (r a = i))) = [] := by
    refine flatMap_nil fun i hi => ?_
    obtain ⟨j, _, rfl⟩ := List.mem_map.mp hi
    rw [List.filter_eq_nil_iff]
    intro y hy
    by_cases z : r y = r x + 1 + j
    · have := less (r x) (r y) (by omega) (k x) (k y) hkx
      simp [z]; rw [z] at this; omega
    · simp [z]
  have hi2 : ((List.range (n - r x - 1)).map fun j => r x + 1 + j).flatMap (fun i => ys.filter fun a => (decide (r x * M + k x < r a * M + k a) && decide (r a = i))) = ((List.range (n - r x - 1)).map fun j => r x + 1 + j).flatMap fun i => (A ++ x :: B).filter fun y => decide (r y = i) := by
    refine flatMap_congr fun i hi => ?_
    obtain ⟨j, _, rfl⟩ := List.mem_map.mp hi
    rw [List.filter_append, List.filter_cons_of_neg (by simp; omega), ← List.filter_append, ← hys]
    refine List.filter_congr fun y hy => ?_
    by_cases z : r y = r x + 1 + j
    · have := less (r x) (r y) (by omega) (k x) (k y) hkx
      simp [z]; rw [z] at this; omega
    · simp [z]
  have mid1 : ys.filter (fun a => (decide (r a * M + k a ≤ r x * M + k x) && decide (r a = r x))) = A.filter fun y => decide (r y = r x) := by
    rw [hys, List.filter_append]
    have : B.filter (fun a => (decide (r a * M + k a ≤ r x * M + k x) && decide (r a = r x))) = [] := by
      rw [List.filter_eq_nil_iff]
      intro y hy
      have := hBk y hy
      by_cases z : r y = r x
      · simp [z]; omega
      · simp [z]
    rw [this, List.append_nil]
    refine List.filter_congr fun y hy => ?_
    have := hAk y hy
    by_cases z : r y = r x
    · simp [z]; omega
    · simp [z]
  have mid2 : ys.filter (fun a => (decide (r x * M + k x < r a * M + k a) && decide (r a = r x))) = B.filter fun y => decide (r y = r x) := by
    rw [hys, List.filter_append]
    have : A.filter (fun a => (decide (r x * M + k x < r a * M + k a) && decide (r a = r x))) = [] := by
      rw [List.filter_eq_nil_iff]
      intro y hy
      have := hAk y hy
      by_cases z : r y = r x
      · simp [z]; omega
      · simp [z]
    rw [this, List.nil_append]
    refine List.filter_congr fun y hy => ?_
    have := hBk y hy
    by_cases z : r y = r x
    · simp [z]; omega
    · simp [z]
  rw [lo1, lo2, hi1, hi2, mid1, mid2]
  have emid : (x :: B).filter (fun y => decide (r y = r x)) = x :: B.filter (fun y => decide (r y = r x)) := List.filter_cons_of_pos (by simp)
  simp only [List.filter_append, emid, List.append_nil, List.nil_append, List.append_assoc, List.cons_append]
theorem sK_deal {k r : α → Nat} {M n : Nat} (xs : List α) (hk : ∀ y ∈ xs, k y < M) (hr : ∀ y ∈ xs, r y < n) : sK (fun a => r a * M + k a) xs = dealR r n (sK k xs) := by
  induction xs using snoc_ind with
  | h0 => unfold dealR; exact (flatMap_nil fun _ _ => rfl).symm
  | hs xs x ih =>
    have hx : x ∈ xs ++ [x] := List.mem_append_right _ (List.mem_singleton.mpr rfl)
    rw [sK_snoc, sK_snoc, ih (fun y hy => hk y (List.mem_append_left _ hy)) (fun y hy => hr y (List.mem_append_left _ hy))]
    exact ins_deal (srt_sK k xs) (fun y hy => hk y (List.mem_append_left _ ((mem_sK xs).mp hy))) (hk x hx) (hr x hx)
end
abbrev Crd := List Nat
def isC (c : Crd) : Prop := c.length = 40 ∧ ∀ x ∈ c, x ∈ SG
def sg (c : Crd) (col : Int) : Nat := c.getD (col - 1).toNat 0
def rk1 (x : Nat) : Nat := (SG.findIdx? (· == x)).getD 0 % 37
def rnk (c : Crd) (col : Int) : Nat := rk1 (sg c col)
def colOk (col : Int) : Prop := 1 ≤ col ∧ col ≤ 40
theorem rk1_lt (x : Nat) : rk1 x < 37 := Nat.mod_lt _ (by decide)
theorem sg_at {c : Crd} {col : Int} (h : isC c) (hc : colOk col) : atI c (col - 1) = some (sg c col) ∧ sg c col ∈ SG := by
  obtain ⟨h1, h2⟩ := h
  obtain ⟨a, b⟩ := hc
  obtain ⟨x, e, hx⟩ := atI_some (xs := c) (k := col - 1) (by omega) (by omega)
  have : sg c col = x := by
    rw [atI_nn (by omega)] at e
    unfold sg; rw [List.getD_eq_getElem?_getD, e]; rfl
  rw [this]
  exact ⟨e, h2 x hx⟩
theorem rk1_find {x : Nat} (h : x ∈ SG) : findS SG [x] = (rk1 x : Int) := by
  rw [find_one]
  unfold rk1
  have : ∃ i, SG.findIdx? (· == x) = some i ∧ i < 37 := by
    cases e : SG.findIdx? (· == x) with
    | none =>
      rw [List.findIdx?_eq_none_iff] at e
      have := e x h
      simp at this
    | some i =>
      refine ⟨i, rfl, ?_⟩
      rw [List.findIdx?_eq_some_iff_getElem] at e
      obtain ⟨hi, _⟩ := e
      exact hi
  obtain ⟨i, e, hi⟩ := this
  rw [e]
  show (i : Int) = _
  rw [Option.getD_some, Nat.mod_eq_of_lt hi]
theorem rk1_inj {x y : Nat} (hx : x ∈ SG) (hy : y ∈ SG) (h : rk1 x = rk1 y) : x = y := by
  revert h
  revert hy
  revert y
  revert hx
  revert x
  have : ∀ x ∈ SG, ∀ y ∈ SG, rk1 x = rk1 y → x = y := by decide +kernel
  exact fun {x} hx {y} hy h => this x hx y hy h
def kv : List Int → Crd → Nat
  | [], _ => 0
  | c :: L, a => rnk a c * 37 ^ L.length + kv L a
theorem kv_lt (L : List Int) (a : Crd) : kv L a < 37 ^ L.length := by
  induction L with
  | nil => exact Nat.zero_lt_one
  | cons c L ih =>
    unfold kv
    rw [List.length_cons, Nat.pow_succ]
    have h := rk1_lt (sg a c)
    have : (rnk a c + 1) * 37 ^ L.length ≤ 37 * 37 ^ L.length := Nat.mul_le_mul_right _ h
    rw [Nat.add_mul, Nat.one_mul] at this
    rw [Nat.mul_comm (37 ^ L.length)]
    omega
def deal (d : List Crd) (c : Int) : List Crd := dealR (fun x => rnk x c) 37 d
theorem deal_sort (L : List Int) (c : Int) (d : List Crd) : deal (sK (kv L) d) c = sK (kv (c :: L)) d := by
  have := sK_deal (k := kv L) (r := fun x => rnk x c) (M := 37 ^ L.length) (n := 37) d (fun y _ => kv_lt L y) (fun y _ => rk1_lt _)
  exact this.symm
theorem kv_nil : kv [] = fun _ => 0 := rfl
theorem deals_sort (row L : List Int) (d : List Crd) : row.foldl deal (sK (kv L) d) = sK (kv (row.reverse ++ L)) d := by
  induction row generalizing L with
  | nil => rfl
  | cons c row ih => rw [List.foldl_cons, deal_sort, ih, List.reverse_cons, List.append_assoc]; rfl
theorem deals_all (row : List Int) (d : List Crd) : row.foldl deal d = sK (kv row.reverse) d := by
  have := deals_sort row [] d
  rw [kv_nil, sK_zero, List.append_nil] at this
  exact this
def ahd : List Int → Crd → Crd → Bool
  | [], _, _ => false
  | c :: L, a, b => if rnk a c = rnk b c then ahd L a b else decide (rnk a c < rnk b c)
theorem ahd_kv (L : List Int) (a b : Crd) : ahd L a b = decide (kv L a < kv L b) := by
  induction L with
  | nil => rfl
  | cons c L ih =>
    unfold ahd kv
    have h1 := kv_lt L a
    have h2 := kv_lt L b
    split
    · rename_i e; rw [ih, e, decide_eq_decide]; omega
    · rename_i e
      rw [decide_eq_decide]
      rcases Nat.lt_or_gt_of_ne e with h | h
      · have : (rnk a c + 1) * 37 ^ L.length ≤ rnk b c * 37 ^ L.length := Nat.mul_le_mul_right _ h
        rw [Nat.add_mul, Nat.one_mul] at this
        omega
      · have : (rnk b c + 1) * 37 ^ L.length ≤ rnk a c * 37 ^ L.length := Nat.mul_le_mul_right _ h
        rw [Nat.add_mul, Nat.one_mul] at this
        omega
def onceL (L : List Int) : List Int := L.foldl (fun acc c => if c ∈ acc then acc else acc ++ [c]) []
theorem ahd_find (L : List Int) (a b : Crd) : ahd L a b = match L.find? (fun c => decide (rnk a c ≠ rnk b c)) with | some c => decide (rnk a c < rnk b c) | none => false := by
  induction L with
  | nil => rfl
  | cons c L ih =>
    unfold ahd
    rw [List.find?_cons]
    by_cases e : rnk a c = rnk b c
    · rw [if_pos e, ih]; simp [e]
    · rw [if_neg e]; simp [e]
theorem find_once (p : Int → Bool) (L : List Int) : (onceL L).find? p = L.find? p := by
  have : ∀ (L acc : List Int), (L.foldl (fun acc c => if c ∈ acc then acc else acc ++ [c]) acc).find? p = (acc ++ L).find? p := by
    intro L
    induction L with
    | nil => intro acc; rw [List.append_nil]; rfl
    | cons c L ih =>
      intro acc
      rw [List.foldl_cons, ih]
      split
      · rename_i hc
        rw [List.find?_append, List.find?_append, List.find?_cons]
        cases e : acc.find? p with
        | some z => rfl
        | none =>
          have : p c = false := by
            rw [List.find?_eq_none] at e
            simpa using e c hc
          rw [this]
      · rw [List.append_assoc]; rfl
  have h := this L []
  rw [List.nil_append] at h
  exact h
theorem ahd_once (L : List Int) (a b : Crd) : ahd (onceL L) a b = ahd L a b := by rw [ahd_find, ahd_find, find_once]
theorem appN_map {n : Nat} (f : Nat → List Crd) (r : Nat) (x : Crd) (h : r < n) : appN ((List.range n).map f) r x = (List.range n).map fun i => if i = r then f i ++ [x] else f i := by
  unfold appN
  rw [List.getElem?_map, List.getElem?_range h]
  simp only [Option.map_some]
  refine List.ext_getElem? fun i => ?_
  rw [List.getElem?_set, List.getElem?_map, List.length_map, List.length_range]
  by_cases hi : i < n
  · rw [List.getElem?_map, List.getElem?_range hi]
    by_cases e : r = i
    · subst e
      simp [h]
    · rw [if_neg e]
      simp [show ¬ i = r from fun z => e z.symm]
  · rw [List.getElem?_map, List.getElem?_eq_none (by simpa using hi)]
    by_cases e : r = i
    · omega
    · rw [if_neg e]; rfl
def pok (d : List Crd) (col : Int) : List (List Crd) := (List.range 37).map fun r => d.filter fun x => decide (rnk x col = r)
theorem pok_snoc (d : List Crd) (x : Crd) (col : Int) : pok (d ++ [x]) col = appN (pok d col) (rnk x col) x := by
  unfold pok
  rw [appN_map _ (rnk x col) x (rk1_lt _)]
  refine List.map_congr_left fun r _ => ?_
  rw [List.filter_append]
  by_cases e : r = rnk x col
  · rw [if_pos e, List.filter_cons_of_pos (by simpa using e.symm)]; rfl
  · rw [if_neg e, List.filter_cons_of_neg (by simpa using fun z => e (Eq.symm z))]; simp
theorem pok_len (d : List Crd) (col : Int) : (pok d col).length = 37 := by unfold pok; rw [List.length_map, List.length_range]
theorem pok_nil (col : Int) : ([] : List (List Crd)) ++ (SG.map fun c => [c]).map (fun _ => ([] : List Crd)) = pok [] col := by
  unfold pok; rw [List.nil_append, List.map_map]; rfl
theorem pok_flat (d : List Crd) (col : Int) : (pok d col).flatten = deal d col := by
  unfold pok deal dealR
  rw [List.flatMap_def]
theorem deal_len (d : List Crd) (col : Int) : (deal d col).length = d.length := by
  have := deal_sort [] col d
  rw [kv_nil, sK_zero] at this
  rw [this, len_sK]
end L2
namespace L2
open PySem PySem.Spec PyProof.Rows
end L2
namespace L2
open PySem PySem.Spec PyProof.Rows
open PySem.SeqAt
open PySem.AutoSeq1 (wpAny_loadPart')
open PySem.MeetsSeq PySem.MeetsSeq2 PySem.MeetsSeq3
theorem ent_loop : entryFor table "list.__eq__.loop" = some Builtin.«list.__eq__.loop» := by kernel_rfl!
theorem under_loop (A : Around) (args : PySem.Args) : A.under (Code.builtin "list.__eq__.loop" args) = A.in1 := by rfl
theorem quiet_loop (args : PySem.Args) : (Code.builtin "list.__eq__.loop" args).quiet = true := by first | kernel_rfl! | simp [Code.quiet] | (unfold Code.quiet; decide +kernel)
theorem ints_get : ∀ {vs : List Value} {ns : List Int}, IntsAre vs ns → ∀ i : Nat, (vs[i]? = none ∧ ns[i]? = none) ∨ ∃ a t, vs[i]? = some (.int a t) ∧ ns[i]? = some a
  | _, _, .nil, i => .inl ⟨rfl, rfl⟩
  | _, _, .cons a t h, 0 => .inr ⟨a, t, rfl, rfl⟩
  | _, _, .cons a t h, i + 1 => by simpa using ints_get h i
theorem drop_of_get {α : Type} {xs : List α} {i : Nat} {a : α} (h : xs[i]? = some a) : xs.drop i = a :: xs.drop (i + 1) := by
  obtain ⟨hi, e⟩ := List.getElem?_eq_some_iff.mp h
  rw [← e]; exact List.drop_eq_getElem_cons hi
theorem drop_none {α : Type} {xs : List α} {i : Nat} (h : xs[i]? = none) : xs.drop i = [] := List.drop_eq_nil_of_le (List.getElem?_eq_none_iff.mp h)
theorem list_lt_loop (l b : Addr) (items items2 : Array Value) (n n2 : Nat) (dd dd2 : Option Addr) (sl sl2 : Array (Option Value)) (ns ms : List Int) (hi : IntsAre items.toList ns) (hj : IntsAre items2.toList ms) : ∀ (k i : Nat), items.size - i = k → i ≤ items.size → i ≤ items2.size →
    Meets (Builtin.«list.__eq__.loop» ⟨[.ref l, .ref b, rawInt (i : Nat), rawInt 0], []⟩)
      (fun _ R s => s.heap.get? l = some { cls := .type "list", dict := dd, data := .seq items n, slots := sl } ∧ s.heap.get? b = some { cls := .type "list", dict := dd2, data := .seq items2 n2, slots := sl2 } ∧
        R (.ok (.ret (.bool (HT.lexLt (ns.drop i) (ms.drop i))))) s) := by
  intro k
  induction k with
  | zero =>
    intro i hk b1 b2 prog w A R s h
    obtain ⟨hl, hb, h⟩ := h
    wp_walk using wpAny_listItems hl rfl, wpAny_listItems hb rfl
    have e1 : items[i]? = none := Array.getElem?_eq_none (by omega)
    have e1' : ns[i]? = none := by
      rcases ints_get hi i with ⟨_, z⟩ | ⟨a, t, z, _⟩
      · exact z
      · rw [Array.getElem?_toList, e1] at z; cases z
    rw [Int.toNat_natCast, e1]
    rw [drop_none e1'] at h
    rcases ints_get hj i with ⟨z1, z2⟩ | ⟨c, u, z1, z2⟩
    · rw [Array.getElem?_toList] at z1
      rw [z1]
      rw [drop_none z2] at h
      wp_walk using wpAny_listItems hl rfl, wpAny_listItems hb rfl
      show R (.ok (.ret (.bool (decide (items.size < items2.size))))) s
      have z1 := Array.getElem?_eq_none_iff.mp z1
      rw [decide_eq_false (by omega)]; exact h
    · rw [Array.getElem?_toList] at z1
      rw [z1]
      rw [drop_of_get z2] at h
      wp_walk using wpAny_listItems hl rfl, wpAny_listItems hb rfl
      show R (.ok (.ret (.bool (decide (items.size < items2.size))))) s
      have z3 := (Array.getElem?_eq_some_iff.mp z1).1
      rw [decide_eq_true (by omega)]; exact h
  | succ k ih =>
    intro i hk b1 b2 prog w A R s h
    obtain ⟨hl, hb, h⟩ := h
    wp_walk using wpAny_listItems hl rfl, wpAny_listItems hb rfl
    rw [Int.toNat_natCast]
    rcases ints_get hi i with ⟨z1, z2⟩ | ⟨a, t, z1, z2⟩
    · rw [Array.getElem?_toList] at z1
      rw [Array.getElem?_eq_none_iff] at z1; omega
    rw [Array.getElem?_toList] at z1
    rw [z1]
    rw [drop_of_get z2] at h
    rcases ints_get hj i with ⟨y1, y2⟩ | ⟨c, u, y1, y2⟩
    · rw [Array.getElem?_toList] at y1
      rw [y1]
      rw [drop_none y2] at h
      wp_walk using wpAny_listItems hl rfl, wpAny_listItems hb rfl
      show R (.ok (.ret (.bool (decide (items.size < items2.size))))) s
      have z3 := (Array.getElem?_eq_some_iff.mp z1).1
      have y3 := Array.getElem?_eq_none_iff.mp y1
      rw [decide_eq_false (by omega)]; exact h
    rw [Array.getElem?_toList] at y1
    rw [y1]
    rw [drop_of_get y2, HT.lexLt_cons] at h
    obtain ⟨e, he, hiff⟩ := HT.eqAt_int A.in1 s a t c u
    refine wpAny_bind (he prog w _ _ ?_)
    cases e with
    | true =>
      rw [if_pos (hiff.mp rfl)] at h
      wp_walk
      refine ⟨quiet_loop _, codeAny_builtin ent_loop ?_⟩
      rw [under_loop]
      have q1 := (Array.getElem?_eq_some_iff.mp z1).1
      have q2 := (Array.getElem?_eq_some_iff.mp y1).1
      exact ih (i + 1) (by omega) (by omega) (by omega) prog w A R s ⟨hl, hb, h⟩
    | false =>
      rw [if_neg (fun q => absurd (hiff.mpr q) Bool.false_ne_true)] at h
      have hri := HT.rcLt_int A.in1 s a t c u prog w
      wp_walk using wpAny_listItems hl rfl, wpAny_listItems hb rfl
      rw [z1, y1]
      wp_walk using hri
      exact h
theorem list_lt_ints (l b : Addr) (items items2 : Array Value) (n n2 : Nat) (dd dd2 : Option Addr) (sl sl2 : Array (Option Value)) (ns ms : List Int) (hi : IntsAre items.toList ns) (hj : IntsAre items2.toList ms) :
    Meets (Builtin.«list.__lt__» ⟨[.ref l, .ref b], []⟩)
      (fun _ R s => s.heap.get? l = some { cls := .type "list", dict := dd, data := .seq items n, slots := sl } ∧ s.heap.get? b = some { cls := .type "list", dict := dd2, data := .seq items2 n2, slots := sl2 } ∧
        R (.ok (.ret (.bool (HT.lexLt ns ms)))) s) := by
  intro prog w A R s h
  obtain ⟨hl, hb, h⟩ := h
  have f2 := AutoSeq1.sub_list_list
  wp_walk using wpAny_loadPart' hl, wpAny_loadPart' hb
  refine ⟨quiet_loop _, codeAny_builtin ent_loop ?_⟩
  rw [under_loop]
  exact list_lt_loop l b items items2 n n2 dd dd2 sl sl2 ns ms hi hj _ 0 rfl (Nat.zero_le _) (Nat.zero_le _) prog w A R s ⟨hl, hb, h⟩
theorem lt_listInts {prog : Program} {w : World} {A : Around} {E : Value → Shared → Prop} {s : Shared} {l b : Addr} {items items2 : Array Value} {ns ms : List Int} {Q : Value → Shared → Prop} (hl : s.heap.IsList l items) (hb : s.heap.IsList b items2) (hi : IntsAre items.toList ns) (hj : IntsAre items2.toList ms)
    (hu : A.units < cLine) (h : Q (.bool (HT.lexLt ns ms)) s) : wpAny (model prog w) A (compareOp .Lt (.ref l) (.ref b)) Q E s := by
  obtain ⟨⟨cls, dd, data, sl⟩, ho, hc, n, hd⟩ := id hl
  obtain ⟨⟨cls2, dd2, data2, sl2⟩, ho2, hc2, n2, hd2⟩ := id hb
  simp only at hc hd hc2 hd2
  subst hc hd hc2 hd2
  exact richCompare_meets_room (op := .Lt) ⟨_, ho, rfl⟩ ⟨_, ho2, rfl⟩ PySem.F.slot_list_lt PySem.F.entry_list_lt (PySem.F.args_list_lt_2 _ _) (list_lt_ints l b items items2 n n2 dd dd2 sl sl2 ns ms hi hj)
    ⟨ho, ho2, show Value.bool (HT.lexLt ns ms) ≠ Value.notImplemented ∧ Q (.bool (HT.lexLt ns ms)) s from ⟨(fun x => nomatch x), h⟩⟩ hu
end L2
namespace L2
open PySem PySem.Spec PyProof.Rows
def mLtK (K : PySem.W.Frag) : R2 := fun x y H Q => match x, y with
  | .ref a, .ref b => ∃ ns ms, SqL K H a (ns.map V.int) ∧ SqL K H b (ms.map V.int) ∧ Q (.bl (HT.lexLt ns ms)) H
  | _, _ => mLtS x y H Q
theorem op_ltK {X : Cx} (hu : X.A.units + 60 < cLine) : OpR X (compareOp .Lt) (mLtK X.K) := by
  intro pins s σ H x y v u Q I rx ry h
  cases x <;> cases y <;> first
    | exact op_ltM2 pins s σ H _ _ v u Q I rx ry h
    | (obtain ⟨ns, ms, ha, hb, q⟩ := h
       cases rx
       cases ry
       obtain ⟨its, r1, p1, _⟩ := I.list ha
       obtain ⟨its2, r2, p2, _⟩ := I.list hb
       have i1 : IntsAre its.toArray.toList ns := intsAre_of r1
       have i2 : IntsAre its2.toArray.toList ms := intsAre_of r2
       exact lt_listInts p1.isList p2.isList i1 i2 (by omega) ⟨.bl (HT.lexLt ns ms), H, I, rfl, q⟩)
section
variable {K : PySem.W.Frag} {E : XK} {H : Hp}
theorem op_ltKI : Op2 K (mLtK K) E tyInt tyInt (fun i j => .ok (decide (i < j))) tyBl := by
  rintro a b x y F H Q hs rfl rfl k
  exact k.ok hs _ rfl
theorem op_ltKS : Op2 K (mLtK K) E tyStr tyStr (fun i j => .ok (decide (i < j))) tyBl := by
  rintro a b x y F H Q hs rfl rfl k
  exact k.ok hs _ rfl
end
end L2
namespace L2
open PySem PySem.Spec PyProof.Rows
section
variable {α : Type}
theorem sIx_nn {n d : Nat} {i : Int} (h : 0 ≤ i) : HT.sIx n d (some i) = min i.toNat n := by
  unfold HT.sIx
  simp only
  split <;> omega
theorem cutG_from {xs : List α} {i : Int} (h : 0 ≤ i) : cutG xs (some i) none = xs.drop i.toNat := by
  unfold cutG
  rw [sIx_nn h, show HT.sIx xs.length xs.length none = xs.length from rfl]
  by_cases hl : i.toNat ≤ xs.length
  · rw [Nat.min_eq_left hl, List.take_of_length_le (by rw [List.length_drop]; exact Nat.le_refl _)]
  · rw [Nat.min_eq_right (by omega), List.drop_length, List.drop_eq_nil_of_le (by omega), List.take_nil]
end
end L2
namespace L2
open PySem PySem.Spec PyProof.Rows
section
variable {K : PySem.W.Frag} {E : XK} {α β γ ρ S S' B B' : Type} {F0 H0 F h H : Hp} {L L' : List Sl} {e e1 e2 : TE} {T : Ty α} {r : Mo α} {O : Own ρ} {t u : TS} {LS : S → List Sl} {LS' : S' → List Sl} {LB : B → List Sl}
theorem ev_callF {C : Cs γ} {f : γ → Mo α} {ta : TA} {r : Mo γ} (h : EvA K ta E L r C) : EvF K (tCall (Ct K C f (owF T)) [] E ta) E L (r.bind f) T := (ev_call h).fr
theorem ev_callF0 {C : Cs γ} {f : γ → Mo α} {ta : TA} {r : Mo γ} (h : EvA K ta E L r C) : EvF K (tCall (Ct K C f (owF T)) [] E0 ta) E L (r.bind fun c => (f c).noex) T := (ev_call0 h).fr
end
end L2
namespace L2
open PySem PySem.Spec PyProof.Rows
def repL {α : Type} (xs : List α) (n : Int) : List α := (List.replicate n.toNat xs).flatten
def CRep (m : Nat) (n : Int) : Prop := 0 ≤ n ∧ n ≤ 100000 ∧ m ≤ 100000 ∧ m * n.toNat ≤ 100000
instance (m : Nat) (n : Int) : Decidable (CRep m n) := inferInstanceAs (Decidable (_ ∧ _))
def mMulX : R2 := fun x y H Q => match x, y with
  | .int i, .int j => IntMulOk i j ∧ Q (.int (i * j)) H
  | .str z, .int n => CRep z.cps.toList.length n ∧ Q (tx (repL z.cps.toList n)) H
  | .ref l, .int k => ∃ xs, H l = some (.lst xs) ∧ CRep xs.length k ∧ ∀ p, H p = none → Q (.ref p) (upd H p (.lst (repL xs k)))
  | _, _ => False
theorem rep_arr (z : Array Nat) (n : Nat) : (List.foldl (fun x1 x2 => x1 ++ x2) #[] (List.replicate n z)).toList = (List.replicate n z.toList).flatten := by
  have : ∀ (l : List (Array Nat)) (acc : Array Nat), (l.foldl (fun x1 x2 => x1 ++ x2) acc).toList = acc.toList ++ (l.map Array.toList).flatten := by
    intro l
    induction l with
    | nil => intro acc; simp
    | cons a l ih => intro acc; rw [List.foldl_cons, ih]; simp
  rw [this]
  simp
theorem op_mulX {X : Cx} : OpR X (binaryOp .Mult) mMulX := by
  intro pins s σ H x y v u Q I rx ry h
  cases x <;> cases y <;> first
    | exact h.elim
    | exact op_mulG pins s σ H _ _ v u Q I rx ry h
    | (obtain ⟨xs, hl, ⟨c1, c2, c3, c4⟩, q⟩ := h
       exact op_rep pins s σ H _ _ v u Q I rx ry ⟨_, _, xs, rfl, rfl, hl, by omega, by omega, small_n c4, q⟩)
    | (rename_i z n
       obtain ⟨⟨c1, c2, c3, c4⟩, q⟩ := h
       obtain ⟨t, rfl⟩ := rx
       obtain ⟨t', rfl⟩ := ry
       have hz : z.length = z.cps.toList.length := by simp [Str.length]
       refine PySem.P.mul_str (by simp; omega) (fun h1 h2 => ?_) (fun h1 h2 => ?_) ?_
       · rw [hz]
         have hn : 0 < n := by omega
         have : (z.cps.toList.length : Int) * n ≤ 2 ^ 63 - 1 := by
           have e : n = (n.toNat : Int) := by omega
           rw [e, ← Int.natCast_mul]; omega
         have := Int.le_ediv_of_mul_le hn this
         omega
       · unfold Builtin.Str.tooLong
         rw [hz]
         have := small_n c4
         exact decide_eq_false (by omega)
       · by_cases h1 : n < 1
         · rw [if_pos h1]
           have : n = 0 := by omega
           subst this
           exact ⟨Nat.zero_le _, tx [], H, I.tok _, ⟨_, rfl⟩, q⟩
         · rw [if_neg h1]
           by_cases h2 : (n == 1 || z.length == 0) = true
           · rw [if_pos h2]
             have e : repL z.cps.toList n = z.cps.toList := by
               unfold repL
               rw [Bool.or_eq_true] at h2
               rcases h2 with h2 | h2
               · have : n = 1 := by simpa using h2
                 subst this; simp
               · have : z.cps.toList = [] := List.length_eq_zero_iff.mp (by rw [← hz]; simpa using h2)
                 rw [this]; simp
             rw [e] at q
             refine ⟨tx z.cps.toList, H, I, ⟨t, ?_⟩, q⟩
             show Value.str z t = Value.str ⟨z.cps.toList.toArray⟩ t
             rw [← str_eta]
           · rw [if_neg h2]
             refine ⟨?_, tx (repL z.cps.toList n), H, I.tok _, ⟨s.toks, ?_⟩, q⟩
             · have e : (⟨List.foldl (fun x1 x2 => x1 ++ x2) #[] (List.replicate n.toNat z.cps)⟩ : Str).length = (List.replicate n.toNat z.cps.toList).flatten.length := by
                 rw [← rep_arr]; simp [Str.length]
               rw [e, len_rep]
               exact small_n (by rw [Nat.mul_comm]; exact c4)
             show Value.str _ _ = Value.str _ _
             congr 1
             unfold repL
             rw [← rep_arr])
section
variable {K : PySem.W.Frag} {E : XK} {α β γ ρ S S' B B' : Type} {F0 H0 F h H : Hp} {L L' : List Sl} {e e1 e2 : TE} {T : Ty α} {r : Mo α} {O : Own ρ} {t u : TS} {LS : S → List Sl} {LB : B → List Sl}
theorem op_mulXI : Op2 K mMulX E tyInt tyInt (fun i j => .grd (IntMulOk i j) (.ok (i * j))) tyInt := by
  rintro a b x y F H Q hs rfl rfl k
  obtain ⟨c, k⟩ := k.grd
  exact ⟨c, k.ok hs _ rfl⟩
theorem op_mulXS : Op2 K mMulX E tyStr tyInt (fun l n => .grd (CRep l.length n) (.ok (repL l n))) tyStr := by
  rintro a b x y F H Q hs rfl rfl k
  obtain ⟨c, k⟩ := k.grd
  exact ⟨c, k.ok hs _ rfl⟩
theorem prs_rep {xs : List α} {vs : List V} (hr : Prs T H xs vs) (n : Int) : Prs T H (repL xs n) (repL vs n) := by
  unfold repL
  induction n.toNat with
  | zero => exact .nil
  | succ m ih => rw [List.replicate_succ, List.replicate_succ, List.flatten_cons, List.flatten_cons]; exact hr.append ih
theorem op_mulXL : Op2O K mMulX E (tyL T) tyInt (fun l n => .grd (CRep l.length n) (.ok (repL l n))) (owL T) := by
  rintro a b x y F H Q hs ⟨p, vs, rfl, hp, hr⟩ rfl k
  obtain ⟨c, k⟩ := k.grd
  exact ⟨vs, hs _ _ hp, by rw [← hr.len]; exact c, fun q hq => own_upd hs hq (prs_rep hr b) k⟩
def strsL (l : List (List Nat)) : List Str := l.map fun z => ⟨z.toArray⟩
theorem prs_strs {l : List (List Nat)} {vs : List V} (h : Prs tyStr H l vs) : strsOf vs = some (strsL l) := by
  induction h with
  | nil => rfl
  | cons r t ih => cases r; show (strsOf _).map _ = _; rw [ih]; rfl
theorem me_join : Me K (mJoin K) E (csLast (tyL tyStr)) (fun l c => .grd (JoinOk ⟨l.toArray⟩ (strsL c) = true) (.ok (joinS l (strsL c)))) tyStr := by
  rintro l c vs F H Q hs ⟨v, rfl, p, us, rfl, hp, hr⟩ k
  obtain ⟨z, k⟩ := k.grd
  refine ⟨us, .of (hs _ _ hp), ?_⟩
  rw [prs_strs hr]
  exact ⟨z, k.ok hs _ rfl⟩
abbrev Pas := Int × Option (List Nat)
def passR (c : Pas) (v : V) (H : Hp) : Prop := ∃ p, v = .ref p ∧ H p = some (.tup (match c.2 with | none => [tx [100, 101, 97, 108], .int c.1] | some s => [tx [112, 105, 99, 107], .int c.1, tx s]))
abbrev tyPass : Ty Pas := ⟨passR, fun g ⟨p, e, h⟩ => ⟨p, e, g _ _ h⟩⟩
theorem imm_pass : Imm tyPass := fun g ⟨p, e, h⟩ => ⟨p, e, g _ _ h⟩
theorem ev_deal {r : Mo Int} (h : EvF K e E L r tyInt) : EvF K (tTup (tCons (tC (tx [100, 101, 97, 108])) (tCons e tNil))) E L (r.bind fun c => .ok (c, none)) tyPass := by
  intro σ F H Q hL hs q
  refine h σ F H _ hL hs (q.bind.imp fun c F1 H1 x1 k1 v hv => ⟨small_n (by show 2 ≤ 100000; decide), fun p hp => ?_⟩)
  cases hv
  exact k1 _ _ (Ext.new x1.2.1 hp) _ ⟨p, rfl, upd_same⟩
theorem ev_pick {r : Mo Int} {r2 : Mo (List Nat)} (h : EvF K e E L r tyInt) (h2 : EvF K e2 E L r2 tyStr) : EvF K (tTup (tCons (tC (tx [112, 105, 99, 107])) (tCons e (tCons e2 tNil)))) E L (r.bind fun c => r2.bind fun s => .ok (c, some s)) tyPass := by
  intro σ F H Q hL hs q
  refine h σ F H _ hL hs (q.bind.imp fun c F1 H1 x1 k1 v hv => ?_)
  refine h2 σ F1 H1 _ (hL.mono x1.1) x1.2.1 (k1.bind.imp fun s F2 H2 x2 k2 v2 hv2 => ⟨small_n (by show 3 ≤ 100000; decide), fun p hp => ?_⟩)
  cases hv; cases hv2
  exact k2 _ _ (Ext.new x2.2.1 hp) _ ⟨p, rfl, upd_same⟩
def pTag (c : Pas) : List Nat := match c.2 with | none => [100, 101, 97, 108] | some _ => [112, 105, 99, 107]
theorem ev_pass0 {r : Mo Pas} (h : EvF K e E L r tyPass) : EvF K (tOp (mIx K) e (tC (.int 0))) E L (r.bind fun c => .ok (pTag c)) tyStr := by
  intro σ F H Q hL hs q
  refine h σ F H _ hL hs (q.bind.imp fun c F1 H1 x1 k1 v ⟨p, ev, hp⟩ => ?_)
  subst ev
  refine ⟨_, .inr (.of (x1.2.1 _ _ hp)), ?_⟩
  obtain ⟨c1, c2⟩ := c
  cases c2 with
  | none => exact k1.ok x1.2.1 _ rfl
  | some s => exact k1.ok x1.2.1 _ rfl
theorem ev_pass1 {r : Mo Pas} (h : EvF K e E L r tyPass) : EvF K (tOp (mIx K) e (tC (.int 1))) E L (r.bind fun c => .ok c.1) tyInt := by
  intro σ F H Q hL hs q
  refine h σ F H _ hL hs (q.bind.imp fun c F1 H1 x1 k1 v ⟨p, ev, hp⟩ => ?_)
  subst ev
  refine ⟨_, .inr (.of (x1.2.1 _ _ hp)), ?_⟩
  obtain ⟨c1, c2⟩ := c
  cases c2 with
  | none => exact k1.ok x1.2.1 _ rfl
  | some s => exact k1.ok x1.2.1 _ rfl
theorem ev_pass2 {r : Mo Pas} (h : EvF K e E L r tyPass) : EvF K (tOp (mIx K) e (tC (.int 2))) E L (r.bind fun c => .opt c.2) tyStr := by
  intro σ F H Q hL hs q
  refine h σ F H _ hL hs (q.bind.imp fun c F1 H1 x1 k1 v ⟨p, ev, hp⟩ => ?_)
  subst ev
  obtain ⟨s, es, k1⟩ := k1.opt
  refine ⟨_, .inr (.of (x1.2.1 _ _ hp)), ?_⟩
  obtain ⟨c1, c2⟩ := c
  cases (show c2 = some s from es)
  exact k1.ok x1.2.1 _ rfl
end
end L2
namespace L2
open PySem PySem.Spec PyProof.Rows
structure KyT (κ : Type) where
  T : Ty κ
  key : κ → Key
  inj : ∀ {a b}, key a = key b → a = b
  of : ∀ {a v H}, T.R a v H → keyV v = some (key a)
abbrev kInt : KyT Int := ⟨tyInt, Sum.inl, fun h => by injection h, fun h => by cases h; rfl⟩
abbrev kStr : KyT (List Nat) := ⟨tyStr, fun l => Sum.inr ⟨l.toArray⟩, fun h => by
  injection h with h; injection h with h; simpa using congrArg Array.toList h, fun h => by cases h; rfl⟩
section
variable {K : PySem.W.Frag} {E : XK} {α β γ ρ κ S S' B B' : Type} {F0 H0 F h H : Hp} {L L' : List Sl} {e e1 e2 : TE} {T : Ty α} {r : Mo α} {O : Own ρ} {t u : TS} {LS : S → List Sl} {LB : B → List Sl} {KY : KyT κ}
abbrev DPr (KY : KyT κ) (T : Ty α) (H : Hp) (m : List (κ × α)) (kvs : List (Key × V)) : Prop := Paired (fun (q : κ × α) (w : Key × V) => w.1 = KY.key q.1 ∧ T.R q.2 w.2 H) m kvs
theorem DPr.mono {m : List (κ × α)} {kvs : List (Key × V)} {H H' : Hp} (g : Same H H') (h : DPr KY T H m kvs) : DPr KY T H' m kvs := paired_imp (fun _ _ r => ⟨r.1, T.mono g r.2⟩) h
theorem DPr.imm (i : Imm T) {m : List (κ × α)} {kvs : List (Key × V)} {H H' : Hp} (g : Tups H H') (h : DPr KY T H m kvs) : DPr KY T H' m kvs := paired_imp (fun _ _ r => ⟨r.1, i g r.2⟩) h
abbrev tyD (KY : KyT κ) (T : Ty α) : Ty (List (κ × α)) := ⟨fun m v H => ∃ p kvs, v = .ref p ∧ H p = some (.dK kvs) ∧ DPr KY T H m kvs, fun g ⟨p, kvs, e, h, q⟩ => ⟨p, kvs, e, g _ _ h, q.mono g⟩⟩
abbrev owD (KY : KyT κ) (T : Ty α) : Own (List (κ × α)) := ⟨fun m v F h => ∃ p kvs, v = .ref p ∧ h = one p (.dK kvs) ∧ DPr KY T F m kvs, tyD KY T, fun g ⟨p, vs, e, z, q⟩ => ⟨p, vs, e, z, q.mono g⟩,
  fun d ⟨p, vs, e, z, q⟩ => ⟨p, vs, e, un_own d _ _ (by rw [z]; exact one_same), q.mono un_same⟩,
  fun ⟨p, vs, e, z, q⟩ b xs y => by rw [z] at y; unfold one at y; split at y <;> cases y⟩
theorem immo_d (i : Imm T) : ImmO (owD KY T) := fun g ⟨p, vs, e, z, q⟩ => ⟨p, vs, e, z, q.imm i g⟩
variable [DecidableEq κ]
def getA (m : List (κ × α)) (k : κ) : Option α := (m.find? fun q => decide (q.1 = k)).map (·.2)
def putA (m : List (κ × α)) (k : κ) (v : α) : List (κ × α) := if (m.any fun q => decide (q.1 = k)) = true then m.map (fun q => if q.1 = k then (q.1, v) else q) else m ++ [(k, v)]
theorem key_dec (a b : κ) : decide (KY.key a = KY.key b) = decide (a = b) := by rw [decide_eq_decide]; exact ⟨KY.inj, fun h => by rw [h]⟩
theorem dpr_get {m : List (κ × α)} {kvs : List (Key × V)} (h : DPr KY T H m kvs) (k : κ) : (getA m k = none ∧ valV kvs (KY.key k) = none) ∨ ∃ a v, getA m k = some a ∧ valV kvs (KY.key k) = some v ∧ T.R a v H := by
  induction h with
  | nil => exact .inl ⟨rfl, rfl⟩
  | cons r t ih =>
    rename_i q w m kvs
    unfold getA valV at ih ⊢
    rw [List.find?_cons, List.find?_cons, r.1, key_dec]
    by_cases e : q.1 = k
    · rw [decide_eq_true e]; exact .inr ⟨_, _, rfl, rfl, r.2⟩
    · rw [decide_eq_false e]; exact ih
theorem dpr_any {m : List (κ × α)} {kvs : List (Key × V)} (h : DPr KY T H m kvs) (k : κ) : (kvs.any fun w => decide (w.1 = KY.key k)) = m.any fun q => decide (q.1 = k) := by
  induction h with
  | nil => rfl
  | cons r t ih => rw [List.any_cons, List.any_cons, ih, r.1, key_dec]
theorem dpr_app {m m' : List (κ × α)} {kvs kvs' : List (Key × V)} (h : DPr KY T H m kvs) (h' : DPr KY T H m' kvs') : DPr KY T H (m ++ m') (kvs ++ kvs') := by
  induction h with
  | nil => exact h'
  | cons r t ih => exact .cons r ih
theorem dpr_set {m : List (κ × α)} {kvs : List (Key × V)} (h : DPr KY T H m kvs) (k : κ) {a : α} {v : V} (hv : T.R a v H) : DPr KY T H (m.map fun q => if q.1 = k then (q.1, a) else q) (kvs.map fun w => if w.1 = KY.key k then (w.1, v) else w) := by
  induction h with
  | nil => exact .nil
  | cons r t ih =>
    rename_i q w m kvs
    rw [List.map_cons, List.map_cons]
    refine .cons ?_ ih
    by_cases e : q.1 = k
    · rw [if_pos e, if_pos (by rw [r.1, e])]; exact ⟨r.1, hv⟩
    · rw [if_neg e, if_neg (fun z => e (KY.inj (by rw [← r.1, z])))]; exact r
theorem dpr_put {m : List (κ × α)} {kvs : List (Key × V)} (h : DPr KY T H m kvs) (k : κ) {a : α} {v : V} (hv : T.R a v H) : DPr KY T H (putA m k a) (putK kvs (KY.key k) v) := by
  unfold putA putK
  rw [dpr_any h]
  split
  · exact dpr_set h k hv
  · exact dpr_app h (.cons ⟨rfl, hv⟩ .nil)
theorem ev_dnew (KY : KyT κ) (T : Ty α) : EvO K tDNewK E L (.ok []) (owD KY T) := by
  intro σ F H Q hL hs q p hp
  have q' : OwnK (owD KY T) H Q [] F (upd H p (.dK [])) := q F _ (.heap hs (same_new hp _))
  refine q' (.ref p) (one p (.dK [])) (fun b z => ?_) (fun b => ?_) (fun b o z => ?_) ⟨p, [], rfl, rfl, .nil⟩
  · unfold one at z; split at z
    · rename_i e; rw [e]; exact hp
    · exact absurd rfl z
  · unfold one; split
    · rename_i e; rw [e]; exact .inl (hs.free hp)
    · exact .inr rfl
  · unfold one at z; split at z
    · rename_i e; rw [e]; cases z; exact upd_same
    · cases z
theorem ev_varD (i : Nat) {m : List (κ × α)} (h : L[i]? = some (.ow (owD KY T) m)) : EvF K (mVar i) E L (.ok m) (tyD KY T) := ev_varO i h
theorem at_d {x y : V} {R : Addr → List (Key × V) → Key → Prop} {m : List (κ × α)} {k : κ} (hx : (tyD KY T).R m x F) (hy : KY.T.R k y F) (hs : Same F H) (hr : ∀ p kvs, H p = some (.dK kvs) → DPr KY T F m kvs → R p kvs (KY.key k)) : atD x y H R := by
  obtain ⟨p, kvs, rfl, hp, hd⟩ := hx
  unfold atD
  simp only
  rw [KY.of hy]
  exact ⟨kvs, hs _ _ hp, hr p kvs (hs _ _ hp) hd⟩
theorem ev_dget {r1 : Mo (List (κ × α))} {r2 : Mo κ} (h1 : EvF K e1 E L r1 (tyD KY T)) (h2 : EvF K e2 E L r2 KY.T) : EvF K (mDGet e1 e2) E L (r1.bind fun m => r2.bind fun k => .opt (getA m k)) T := by
  intro σ F H Q hL hs q
  refine h1 σ F H _ hL hs (q.bind.imp fun m F1 H1 x1 k1 v1 hv1 => ?_)
  refine h2 σ F1 H1 _ (hL.mono x1.1) x1.2.1 (k1.bind.imp fun k F2 H2 x2 k2 v2 hv2 => ?_)
  refine at_d ((tyD KY T).mono x2.1 hv1) hv2 x2.2.1 fun p kvs hp hd => ?_
  obtain ⟨a, ea, k3⟩ := k2.opt
  rcases dpr_get hd k with ⟨z, _⟩ | ⟨a', v, z1, z2, z3⟩
  · rw [z] at ea; cases ea
  · rw [z1] at ea; cases ea
    exact ⟨v, z2, k3.ok x2.2.1 v z3⟩
theorem ev_din (neg : Bool) {r1 : Mo (List (κ × α))} {r2 : Mo κ} (h2 : EvF K e2 E L r2 KY.T) (h1 : EvF K e1 E L r1 (tyD KY T)) : EvF K (mDIn neg e2 e1) E L (r2.bind fun k => r1.bind fun m => .ok (if neg then !(getA m k).isSome else (getA m k).isSome)) tyBl := by
  intro σ F H Q hL hs q
  refine h2 σ F H _ hL hs (q.bind.imp fun k F1 H1 x1 k1 v1 hv1 => ?_)
  refine h1 σ F1 H1 _ (hL.mono x1.1) x1.2.1 (k1.bind.imp fun m F2 H2 x2 k2 v2 hv2 => ?_)
  refine at_d hv2 (KY.T.mono x2.1 hv1) x2.2.1 fun p kvs hp hd => ?_
  have e : (valV kvs (KY.key k)).isSome = (getA m k).isSome := by
    rcases dpr_get hd k with ⟨z1, z2⟩ | ⟨a', v, z1, z2, z3⟩
    · rw [z1, z2]; rfl
    · rw [z1, z2]; rfl
  rw [e]
  exact k2.ok x2.2.1 _ rfl
theorem hold_mutD {i : Nat} {σ : St} {m : List (κ × α)} (hL : Hold L σ F h) (hi : L[i]? = some (.ow (owD KY T) m)) (ok : Okk F0 H0 F h H) :
    ∃ p kvs, σ[i]? = some (some (.ref p)) ∧ H p = some (.dK kvs) ∧ DPr KY T F m kvs ∧ ∀ m' kvs', DPr KY T F m' kvs' → ∃ h', Hold (L.set i (.ow (owD KY T) m')) σ F h' ∧ Okk F0 H0 F h' (upd H p (.dK kvs')) := by
  obtain ⟨o, h1, h2, e1, j, ⟨v, e2, p, kvs, rfl, rfl, hr⟩, f⟩ := hL.at i hi
  subst e2
  have hp : h p = some (.dK kvs) := j.l _ _ one_same
  have h2p : h2 p = none := by
    rcases j.dj p with z | z
    · rw [one_same] at z; cases z
    · exact z
  refine ⟨p, kvs, e1, ok.2.2.1 _ _ hp, hr, fun m' kvs' hr' => ?_⟩
  have d2 : Dj (one p (.dK kvs')) h2 := fun q => by
    unfold one; split
    · rename_i z; rw [z]; exact .inr h2p
    · exact .inl rfl
  have g := f (.ow (owD KY T) m') (some (.ref p)) (one p (.dK kvs')) _ (jn_of d2) ⟨_, rfl, p, kvs', rfl, rfl, hr'⟩
  rw [set_self e1] at g
  refine ⟨_, g, mut_okk (h1' := h) (hr := h) (h' := h) ok (by rw [hp]; exact Option.some_ne_none _) (fun xs z => by cases z) _ fun b => ?_⟩
  unfold un one
  by_cases z : b = p
  · simp only [if_pos z]
  · simp only [if_neg z]
    rcases j b with ⟨_, c⟩ | ⟨a, c⟩
    · exact c.symm
    · rw [c, a]; unfold one; rw [if_neg z]
theorem s_dput {i : Nat} {m : List (κ × α)} {r2 : Mo κ} {k : α → κ → Mo (Out ρ B S)} (hi : L[i]? = some (.ow (owD KY T) m)) (hT : Imm T) (hKT : Imm KY.T) (he : EvF K e E L r T) (he2 : EvF K e2 E L r2 KY.T) (hk : ∀ a y, EvS K u E (L.set i (.ow (owD KY T) (putA m y a))) (k a y) LS LB O) :
    EvS K (tSeq (mDPut (mVar i) e2 e) u) E L (r.bind fun a => r2.bind fun y => .lim (m.length + 1) (k a y)) LS LB O := by
  intro F0 H0 σ F h H D hL ok fin
  show e σ H fun v H1 => mVar i σ H1 fun x H2 => e2 σ H2 fun y H3 => atD x y H3 fun a kvs k => kvs.length < sizeLine ∧ u D σ (upd H3 a (.dK (putK kvs k v)))
  refine he σ (un F h) H _ (hL.froz ok.2.1) ok.thaw (fin_ok (G := F) ok _ (.inl rfl) fin fun a F1 H1 hra x1 v hv => ?_)
  obtain ⟨o, hs, ht⟩ := ok.back x1
  rw [hra] at fin
  have hL' := hL.mono hs
  have hv' := hT ht hv
  obtain ⟨p, kvs, e1, hp, hr, _⟩ := hold_mutD hL' hi o
  refine mvar_at e1 ?_
  refine he2 σ (un _ h) H1 _ (hL'.froz o.2.1) o.thaw (fin_ok (G := F) o _ (.inl rfl) fin fun y F2 H2 hry x2 v2 hv2 => ?_)
  obtain ⟨o', hs', ht'⟩ := o.back x2
  rw [hry] at fin
  obtain ⟨hz, fin⟩ := fin_lim (show Fin K (Mo.lim (m.length + 1) (k a y)) E LS LB O F0 H0 D from fin)
  obtain ⟨p', kvs', e1', hp', hr', mm⟩ := hold_mutD (hL'.mono hs') hi o'
  rw [e1] at e1'; cases e1'
  obtain ⟨h', a1, a2⟩ := mm (putA m y a) (putK kvs' (KY.key y) v) (dpr_put hr' y (T.mono hs' hv'))
  unfold atD
  simp only
  rw [KY.of hv2]
  refine ⟨kvs', hp', ?_, hk a y F0 H0 σ _ h' _ D a1 a2 fin⟩
  have := Paired.length hr'
  omega
end
end L2
namespace L2
open PySem PySem.Spec PyProof.Rows
section
variable {α κ : Type} [DecidableEq κ]
theorem getA_put (m : List (κ × α)) (k j : κ) (v : α) : getA (putA m k v) j = if k = j then some v else getA m j := by
  unfold getA putA
  by_cases ha : (m.any fun q => decide (q.1 = k)) = true
  · rw [if_pos ha]
    induction m with
    | nil => cases ha
    | cons q m ih =>
      rw [List.map_cons, List.find?_cons, List.find?_cons]
      by_cases e : q.1 = k
      · rw [if_pos e]
        by_cases e2 : k = j
        · rw [if_pos e2]
          simp [e, e2]
        · rw [if_neg e2]
          have : ¬ q.1 = j := fun z => e2 (by rw [← e, z])
          simp only [decide_eq_false this]
          by_cases hb : (m.any fun q => decide (q.1 = k)) = true
          · have := ih hb
            rw [if_neg e2] at this
            exact this
          · have e3 : m.map (fun q => if q.1 = k then (q.1, v) else q) = m := by
              rw [List.map_congr_left (g := id) (fun x hx => ?_), List.map_id]
              have : ¬ x.1 = k := fun z => hb (List.any_eq_true.mpr ⟨x, hx, by simpa using z⟩)
              simp [this]
            rw [e3]
      · rw [if_neg e]
        have hb : (m.any fun q => decide (q.1 = k)) = true := by
          rw [List.any_cons, decide_eq_false e, Bool.false_or] at ha; exact ha
        by_cases e2 : q.1 = j
        · simp only [decide_eq_true e2]
          have : ¬ k = j := fun z => e (by rw [e2, z])
          rw [if_neg this]
        · simp only [decide_eq_false e2]
          exact ih hb
  · rw [if_neg ha, List.find?_append]
    by_cases e2 : k = j
    · subst e2
      have : m.find? (fun q => decide (q.1 = k)) = none := by
        rw [List.find?_eq_none]
        intro x hx z
        exact ha (List.any_eq_true.mpr ⟨x, hx, z⟩)
      rw [this, if_pos rfl]
      simp
    · rw [if_neg e2]
      cases m.find? (fun q => decide (q.1 = j)) with
      | some z => rfl
      | none => simp [e2]
theorem putA_len (m : List (κ × α)) (k : κ) (v : α) : (putA m k v).length ≤ m.length + 1 := by
  unfold putA
  split
  · rw [List.length_map]; omega
  · rw [List.length_append]; exact Nat.le_refl _
end
section
variable {α : Type}
theorem sK_stable {k : α → Nat} {ix : α → Int} : ∀ (xs : List α), xs.Pairwise (fun a b => ix a < ix b) → (sK k xs).Pairwise fun a b => k a < k b ∨ (k a = k b ∧ ix a < ix b) := by
  intro xs
  induction xs using snoc_ind with
  | h0 => intro _; exact List.Pairwise.nil
  | hs xs x ih =>
    intro h
    obtain ⟨h1, _, h3⟩ := List.pairwise_append.mp h
    have ih := ih h1
    have hx : ∀ y ∈ sK k xs, ix y < ix x := fun y hy => h3 y ((mem_sK xs).mp hy) x (List.mem_singleton.mpr rfl)
    rw [sK_snoc]
    unfold insK
    rw [List.pairwise_append]
    refine ⟨List.Pairwise.filter _ ih, ?_, ?_⟩
    · rw [List.pairwise_cons]
      refine ⟨fun a ha => ?_, List.Pairwise.filter _ ih⟩
      have := (List.mem_filter.mp ha).2
      simp at this
      exact .inl this
    · intro a ha b hb
      obtain ⟨m1, m2⟩ := List.mem_filter.mp ha
      simp at m2
      rcases List.mem_cons.mp hb with rfl | hb
      · by_cases e : k a = k b
        · exact .inr ⟨e, hx a m1⟩
        · exact .inl (by omega)
      · have m3 := (List.mem_filter.mp hb).2
        simp at m3
        exact .inl (by omega)
theorem zip_next {R : α → α → Prop} : ∀ {s : List α} {q : α × α}, s.Pairwise R → q ∈ s.dropLast.zip s.tail → R q.1 q.2
  | [], q, _, h => by cases h
  | [a], q, _, h => by cases h
  | a :: b :: s, q, hp, h => by
    obtain ⟨h1, h2⟩ := List.pairwise_cons.mp hp
    rw [List.dropLast_cons₂, List.tail_cons, List.zip_cons_cons] at h
    rcases List.mem_cons.mp h with rfl | h
    · exact h1 b List.mem_cons_self
    · exact zip_next (s := b :: s) h2 h
theorem cutG_last (s : List α) : cutG s none (some (-1)) = s.dropLast := by
  unfold cutG
  rw [show HT.sIx s.length 0 none = 0 from rfl, show HT.sIx s.length s.length (some (-1)) = (-1 + (s.length : Int)).toNat from rfl, List.drop_zero, Nat.sub_zero, List.dropLast_eq_take]
  congr 1
  omega
theorem cutG_tail (s : List α) : cutG s (some 1) none = s.tail := by
  rw [cutG_from (by decide)]; cases s <;> rfl
end
end L2
namespace L2
open PySem PySem.Spec PyProof.Rows
section
variable {K : PySem.W.Frag} {E : XK}
end
end L2
namespace Att
open PySem PySem.W PySem.Calls PyProof.Rows
theorem bits_all {ns : List Int} (h : WData.layableAll [WData.list (ns.map WData.int)] = true) : ∀ x ∈ ns, Builtin.Int.intBits x ≤ 1048576 := by
  intro x hx
  have h1 := layableW_arg h _ (List.mem_singleton.mpr rfl)
  have h2 := layableW_item h1 (.int x) (List.mem_map.mpr ⟨x, hx, rfl⟩)
  exact PyData.bits_of_layable (layable_int h2)
theorem attach_callB {l : OpenLaw} {n : Nat} {q : Program} {loose : List Str} {XP : (Str → Option Value) → Heap → Prop} {YP : World → Heap → Prop} {d : DefRec}
    (hn : l.most = some n) (hdf : d.params.defaults = [])
    (call : ∀ (w : World) (s₀ s₁ : Shared) (mg mb : Str → Option Value) (fa : Addr) (o : Obj) (pm cd doc : Value) (a : Addr) (vs : List Value) (ns : List Int),
      (∀ x ∈ ns, Builtin.Int.intBits x ≤ 1048576) →
      Ground q loose [] XP w s₀ mg mb s₁.heap → YP w s₁.heap →
      s₁.heap.get? fa = some o → o.data = .func (docDef d.name d.params d.body d.scope pm cd doc) → s₁.heap.CodeRec cd d.name → mg d.name = some (.ref fa) →
      s₁.heap.get? a = some { cls := .type "list", data := .seq vs.toArray } → IntsAre vs ns → ns.length ≤ n → s₁.gens = #[] →
      codeAny (model l.prog w) callerA (.call (.ref fa) ⟨[.ref a], []⟩) (fun r s' => r = .ok (.ret (.bool true)) ∧ OldK s₁.heap s'.heap ∧ s'.os = s₁.os ∧ AllBare s'.gens) s₁) :
    WalkO q loose XP YP l.row.toRowW d [] (fun f vs => PySem.call f vs) := by
  intro w s₀ s₁ mg mb G Y fa o pm cd doc dV kV ho hd hcd hD hmg hg args vals as hpre hlay hrd hwl hlo
  obtain rfl : dV = .none := Dflts.none hD hdf
  obtain rfl : kV = .none := Dflts.noKw hD
  obtain ⟨a, vs, ns, rfl, rfl, hobj, hints, hlen⟩ := script_of hn hpre hwl
  refine enter_call (codeAny_mono (call w s₀ s₁ mg mb fa o pm cd doc a vs ns (bits_all hlay) G Y ho (fd_plain hd) hcd hmg hobj hints hlen hg) fun r s' hq => ?_)
  obtain ⟨rfl, h2, h3, h4⟩ := hq
  exact ⟨.inl ⟨.bool true, .bool true, [], rfl, fun _ => rfl, .bool true, post_true l _, fun _ => ⟨List.Pairwise.nil, fun _ hm => (nomatch hm)⟩⟩, h2, h3, h4⟩
end Att
namespace L2
open PySem PySem.Spec PyProof.Rows
theorem walk_ofB {l : PySem.W.OpenLaw} {n k : Nat} {q : Program} {loose : List Str} {XP : (Str → Option Value) → Heap → Prop} {YP : World → Heap → Prop} {d : DefRec} {K : Params → PySem.W.Frag} {CX : World → CXT} {sp : World → Sp} {x : Str}
    (hn : l.most = some n) (hn2 : n ≤ sizeLine) (hdf : d.params.defaults = []) (hr : Room k callerA)
    (hY : ∀ (w : World) (h : Heap), YP w h → (K w.params).In h)
    (F : ∀ (w : World) (mg : Str → Option Value) (fa : Addr) (h : Heap), (K w.params).In h → h.Ns mainGlobals mg → mg d.name = some (.ref fa) →
      ∃ fd : FuncData, (∀ (s : Shared) (u : Value), BindsTo s fd ⟨[u], []⟩ [(x, u)]) ∧
        ∀ base : Heap, (K w.params).In base → base.Ns mainGlobals mg → FnOk l.prog w (K w.params) mg base (CX w) k fa fd [x] (sp w))
    (hsp : ∀ (w : World) (H : Hp) (a : Addr) (ns : List Int), ns.length ≤ n → (∀ x ∈ ns, Builtin.Int.intBits x ≤ 1048576) → Only H → SqL (K w.params) H a (ns.map V.int) → sp w [.ref a] H (fun v _ => v = .bl true) fun _ _ _ => False)
    (hCX : ∀ (w : World) (H : Hp) (s : Shared) (e : Value) (s' : Shared), CX w [] H s (fun _ _ _ => False) e s' → False) :
    PySem.W.WalkO q loose XP YP l.row.toRowW d [] (fun f vs => PySem.call f vs) := by
  refine Att.attach_callB hn hdf fun w s₀ s₁ mg mb fa o pm cd doc a vs ns hbits G Y ho hd hcd hmg hobj hints hlen hg => ?_
  have KX := hY w _ Y
  obtain ⟨fd, hb, hF⟩ := F w mg fa _ KX G.T.g hmg
  exact law_call KX G.T.g G.T.b G.T.builtins G.T.nolimit hg hobj hints (Nat.le_trans hlen hn2) hr hF hb (fun H hO hS => hsp w H a ns hlen hbits hO hS) fun H e s' => hCX w H s₁ e s'
abbrev BitsOk (ns : List Int) : Prop := ∀ x ∈ ns, Builtin.Int.intBits x ≤ 1048576
end L2
namespace L2
open PySem PySem.Spec PyProof.Rows PySem.W
section
variable {α β : Type}
variable {lt : Nat → Nat → Bool} {n : Nat}
structure WOr (lt : Nat → Nat → Bool) : Prop where
  asym : ∀ {a b}, lt a b = true → lt b a = false
  tr : ∀ {a b c}, lt b a = false → lt c b = false → lt c a = false
abbrev le (lt : Nat → Nat → Bool) (a b : Nat) : Prop := lt b a = false
theorem WOr.refl (w : WOr lt) (a : Nat) : le lt a a := by
  cases h : lt a a with
  | false => exact h
  | true => exact w.asym h
def Asc (lt : Nat → Nat → Bool) (p : Array Nat) (k : Nat) : Prop := ∀ i j, i ≤ j → j < k → le lt (p.getD i 0) (p.getD j 0)
theorem Asc.one (w : WOr lt) (p : Array Nat) : Asc lt p 1 := fun i j a b => by
  obtain rfl : i = j := by omega
  exact w.refl _
end
section
variable {prog : Program} {w : World} {A : Around} {E : Value → Shared → Prop} {s : Shared} {vs : List Value} {lt : Nat → Nat → Bool}
end
end L2
namespace L2
open PySem PySem.Spec PyProof.Rows PySem.W
section
variable {prog : Program} {w : World} {A : Around} {E : Value → Shared → Prop} {s : Shared} {Q : Bool → Shared → Prop}
end
section
variable {X : Cx}
end
end L2
namespace L2
open PySem PySem.Spec PyProof.Rows PySem.W
section
variable {α β : Type}
end
end L2
namespace L2
open PySem PySem.Spec PyProof.Rows PySem.W
section
variable {α β γ : Type} {K : PySem.W.Frag} {E : XK}
end
end L2
universe u
namespace L2
open PySem PySem.Spec PyProof.Rows
section
variable {α γ : Type} {K : PySem.W.Frag} {E : XK} {L : List Sl} {T : Ty α} {e : TE}
end
section
variable {α : Type} {K : PySem.W.Frag} {E : XK} {L : List Sl} {T : Ty α} {F h H F0 H0 : Hp} {ρ B S : Type} {LS : S → List Sl} {LB : B → List Sl} {O : Own ρ}
theorem set_selfU {α : Type u} {l : List α} {i : Nat} {o : α} (h : l[i]? = some o) : l.set i o = l := by
  apply List.ext_getElem?
  intro j
  rw [List.getElem?_set]
  have hlt := (List.getElem?_eq_some_iff.mp h).1
  by_cases e : i = j
  · subst e; rw [if_pos rfl, if_pos hlt, h]
  · rw [if_neg e]
end
end L2
namespace L2
open PySem PySem.Spec PyProof.Rows PySem.W
section
variable {prog : Program} {w : World} {A : Around} {E : Value → Shared → Prop} {s : Shared} {T : String} {rr dd : Addr} {n : Nat} {PP : Nat → Value → Prop} {OK : Heap → Prop}
end
section
variable {prog : Program} {w : World} {A : Around} {E : Value → Shared → Prop} {s : Shared} {lt : Nat → Nat → Bool}
end
section
variable {X : Cx}
end
section
variable {α β γ κ : Type} {K : PySem.W.Frag} {E : XK}
theorem hk_int (x : Int) (F : Hp) : (kInt).T.R x (kV (kInt.key x)) F := rfl
end
end L2
namespace L2
open PySem PySem.Spec PyProof.Rows PySem.W
structure ZpAp (z ti to i j : Addr) (f g : List Addr) : Prop where
  a1 : ti ≠ z
  a2 : to ≠ z
  a3 : i ≠ z
  a4 : j ≠ z
  a5 : ti ≠ to
  a6 : ti ≠ i
  a7 : ti ≠ j
  a8 : to ≠ i
  a9 : to ≠ j
  b1 : i ≠ j
  b2 : z ∉ f
  b3 : z ∉ g
  b4 : to ∉ f
  b5 : to ∉ g
  b6 : j ∉ f
  b7 : i ∉ g
section
variable {prog : Program} {w : World} {A : Around} {E : Value → Shared → Prop} {s : Shared} {z ti to i j : Addr} {f g : List Addr} {n1 n2 k : Nat} {P1 P2 : Nat → Value → Prop} {S1 S2 : Nat → Heap → Prop} {a b : Value}
theorem zpD_item {Q : Value → Shared → Prop} (D1 : Draws prog w A i f n1 P1 S1) (D2 : Draws prog w A j g n2 P2 S2) (ap : ZpAp z ti to i j f g)
    (hz : IsZip s.heap z ti to .none) (hti : IsPair s.heap ti (.ref i) (.ref j)) (hto : IsPair s.heap to a b) (st1 : S1 k s.heap) (st2 : S2 k s.heap) (l1 : k < n1) (l2 : k < n2)
    (hQ : ∀ x y h' tk, P1 k x → P2 k y → IsZip h' z ti to (rawInt s.heap.objs.size) → IsPair h' to x y → S1 (k + 1) h' → S2 (k + 1) h' → IsPair h' s.heap.objs.size x y → h'.objs.size = s.heap.objs.size + 1 →
      (∀ c o, c ≠ z → c ≠ to → c ≠ i → c ≠ j → s.heap.get? c = some o → h'.get? c = some o) → Q (.ref s.heap.objs.size) { s with heap := h', toks := tk }) :
    wpAny (model prog w) A (Builtin.«zip.__next__» ⟨[.ref z], []⟩) (fun fin s' => ∃ v, fin = .done (.ret v) ∧ Q v s') E s := by
  obtain ⟨hp, gn, dd, tk0, os⟩ := s
  show wpAny _ _ (field (.ref z) 2 >>= _) _ _ _; refine wpAny_bind (wpAny_field hz rfl (x := .bool false) rfl ?_)
  show wpAny _ _ (field (.ref z) 3 >>= _) _ _ _; refine wpAny_bind (wpAny_field hz rfl (x := .ref ti) rfl ?_)
  refine wpAny_bind (wpAny_seqItems hti rfl ?_); show wpAny _ _ (Builtin.SmallTypes.ownedTupleIsFree (.ref z) >>= _) _ _ _
  refine wpAny_bind ?_; unfold Builtin.SmallTypes.ownedTupleIsFree
  refine wpAny_bind (wpAny_field hz rfl (x := .none) rfl (wpAny_pure ?_)); simp only [if_true]
  refine wpAny_bind (wpAny_rule ?_); refine wpAny_bind (wpAny_field hz rfl (x := .ref to) rfl ?_)
  refine wpAny_bind (wpAny_setField_rec hz (by simp) fun q1 (z1 : IsZip q1 z ti to .ellipsis) e1 => ?_)
  have e1' : Heap.ExtBut z hp q1 := e1.extBut
  refine wpAny_bind ?_; simp only [List.zipIdx_cons, List.zipIdx_nil, List.forIn_cons, List.forIn_nil]
  refine wpAny_bind (wpAny_bind (wpAny_onRaise ?_)); show wpAny _ _ (Builtin.SmallTypes.nextOf (.ref i) >>= _) _ _ _
  refine wpAny_bind (D1.item k _ _ _ l1 (D1.frame k _ _ st1 fun c hc o e => e1' c o (fun q => ap.b2 (q ▸ hc)) e) fun x q2 t2 px s2 e2 => wpAny_pure ?_)
  have e2' : Heap.ExtBut i q1 q2 := e2.extBut
  have to2 : IsPair q2 to a b := e2' _ _ ap.a8 (e1' _ _ ap.a2 hto)
  refine wpAny_bind (wpAny_seqItems (s := ⟨q2, gn, dd, t2, os⟩) to2 rfl ?_); refine wpAny_bind (wpAny_updateSeq_pair (s := ⟨q2, gn, dd, t2, os⟩) to2 fun q3 (to3 : IsPair q3 to x b) e3 => ?_)
  have e3' : Heap.ExtBut to q2 q3 := e3.extBut
  refine wpAny_bind (wpAny_letGo (wpAny_pure ?_)); refine wpAny_bind (wpAny_bind (wpAny_onRaise ?_)); show wpAny _ _ (Builtin.SmallTypes.nextOf (.ref j) >>= _) _ _ _
  refine wpAny_bind (D2.item k ⟨q3, gn, dd, t2, os⟩ _ _ l2 (D2.frame k _ _ st2 fun c hc o e => e3' c o (fun q => ap.b5 (q ▸ hc)) (e2' c o (fun q => ap.b7 (q ▸ hc)) (e1' c o (fun q => ap.b3 (q ▸ hc)) e))) fun y q4 t4 py s4 e4 => wpAny_pure ?_)
  have e4' : Heap.ExtBut j q3 q4 := e4.extBut
  have to4 : IsPair q4 to x b := e4' _ _ ap.a9 to3
  refine wpAny_bind (wpAny_seqItems (s := ⟨q4, gn, dd, t4, os⟩) to4 rfl ?_); refine wpAny_bind (wpAny_updateSeq_pair (s := ⟨q4, gn, dd, t4, os⟩) to4 fun q5 (to5 : IsPair q5 to x y) e5 => ?_)
  have e5' : Heap.ExtBut to q4 q5 := e5.extBut
  refine wpAny_bind (wpAny_letGo (wpAny_pure (wpAny_pure ?_))); refine wpAny_bind (wpAny_seqItems (s := ⟨q5, gn, dd, t4, os⟩) to5 rfl ?_)
  refine wpAny_bind (wpAny_newTuple ?_)
  have sz : q5.objs.size = hp.objs.size := by rw [e5.1, e4.1, e3.1, e2.1, e1.1]
  have z5 : IsZip q5 z ti to .ellipsis := e5' _ _ ap.a2.symm (e4' _ _ ap.a4.symm (e3' _ _ ap.a2.symm (e2' _ _ ap.a3.symm z1)))
  have kp : ∀ c o, c ≠ z → c ≠ to → c ≠ i → c ≠ j → hp.get? c = some o → q5.get? c = some o := fun c o c1 c2 c3 c4 e =>
    e5' c o c2 (e4' c o c4 (e3' c o c2 (e2' c o c3 (e1' c o c1 e))))
  have zl : z < q5.objs.size := Heap.lt_size z5
  show wpAny _ _ (Builtin.SmallTypes.ownedTupleHandOut (.ref z) (.ref q5.objs.size) >>= _) _ _ ⟨q5.push _, gn, dd, t4, os⟩
  refine wpAny_bind ?_; unfold Builtin.SmallTypes.ownedTupleHandOut
  have z6 : IsZip (q5.push { cls := .type "tuple", data := .seq #[x, y] }) z ti to .ellipsis := Heap.get?_push_of_some _ z5
  refine wpAny_bind (wpAny_setField_rec (s := ⟨q5.push _, gn, dd, t4, os⟩) z6 (by simp) fun q7 (z7 : IsZip q7 z ti to (rawInt q5.objs.size)) e7 => ?_)
  refine wpAny_setField_rec (s := ⟨q7, gn, dd, t4, os⟩) z7 (by simp) fun q8 (z8 : IsZip q8 z ti to (rawInt q5.objs.size)) e8 => ?_
  have up : ∀ c o, c ≠ z → (q5.push { cls := .type "tuple", data := .seq #[x, y] }).get? c = some o → q8.get? c = some o := fun c o c1 e => e8.extBut _ _ c1 (e7.extBut _ _ c1 e)
  have up5 : ∀ c o, c ≠ z → q5.get? c = some o → q8.get? c = some o := fun c o c1 e => up c o c1 (Heap.get?_push_of_some _ e)
  have t8 : IsPair q8 q5.objs.size x y := up _ _ (Nat.ne_of_gt zl) (Heap.get?_push_size _ rfl)
  have sz8 : q8.objs.size = q5.objs.size + 1 := by rw [e8.1, e7.1]; exact Heap.size_push ..
  rw [sz] at z8 t8 sz8
  refine wpAny_pure ⟨_, rfl, ?_⟩
  show Q (.ref q5.objs.size) ⟨q8, gn, dd, t4, os⟩
  rw [sz]
  refine hQ x y q8 t4 px py z8 (up5 _ _ ap.a2 to5) (D1.frame _ _ _ s2 fun c hc o e => ?_) (D2.frame _ _ _ s4 fun c hc o e => ?_) t8 sz8 fun c o c1 c2 c3 c4 e => up5 c o c1 (kp c o c1 c2 c3 c4 e)
  · exact up5 c o (fun q => ap.b2 (q ▸ hc)) (e5' c o (fun q => ap.b4 (q ▸ hc)) (e4' c o (fun q => ap.b6 (q ▸ hc)) (e3' c o (fun q => ap.b4 (q ▸ hc)) e)))
  · exact up5 c o (fun q => ap.b3 (q ▸ hc)) (e5' c o (fun q => ap.b5 (q ▸ hc)) e)
theorem zpD_end {Q : PySem.Fin → Shared → Prop} (D1 : Draws prog w A i f n1 P1 S1) (D2 : Draws prog w A j g n2 P2 S2) (ap : ZpAp z ti to i j f g)
    (hz : IsZip s.heap z ti to .none) (hti : IsPair s.heap ti (.ref i) (.ref j)) (hto : IsPair s.heap to a b) (st1 : S1 k s.heap) (st2 : S2 k s.heap) (l1 : k = n1 ∨ k < n1 ∧ k = n2)
    (hE : ∀ h' e tk, (∀ c o, c ≠ z → c ≠ to → c ≠ i → c ≠ j → s.heap.get? c = some o → h'.get? c = some o) → (∃ o, h'.get? e = some o ∧ o.cls = .type "StopIteration") → E (.ref e) { s with heap := h', toks := tk }) :
    wpAny (model prog w) A (Builtin.«zip.__next__» ⟨[.ref z], []⟩) Q E s := by
  obtain ⟨hp, gn, dd, tk0, os⟩ := s
  show wpAny _ _ (field (.ref z) 2 >>= _) _ _ _; refine wpAny_bind (wpAny_field hz rfl (x := .bool false) rfl ?_)
  show wpAny _ _ (field (.ref z) 3 >>= _) _ _ _; refine wpAny_bind (wpAny_field hz rfl (x := .ref ti) rfl ?_)
  refine wpAny_bind (wpAny_seqItems hti rfl ?_); show wpAny _ _ (Builtin.SmallTypes.ownedTupleIsFree (.ref z) >>= _) _ _ _
  refine wpAny_bind ?_; unfold Builtin.SmallTypes.ownedTupleIsFree
  refine wpAny_bind (wpAny_field hz rfl (x := .none) rfl (wpAny_pure ?_)); simp only [if_true]
  refine wpAny_bind (wpAny_rule ?_); refine wpAny_bind (wpAny_field hz rfl (x := .ref to) rfl ?_)
  refine wpAny_bind (wpAny_setField_rec hz (by simp) fun q1 (z1 : IsZip q1 z ti to .ellipsis) e1 => ?_)
  have e1' : Heap.ExtBut z hp q1 := e1.extBut
  refine wpAny_bind ?_; simp only [List.zipIdx_cons, List.zipIdx_nil, List.forIn_cons, List.forIn_nil]
  refine wpAny_bind (wpAny_bind (wpAny_onRaise ?_)); show wpAny _ _ (Builtin.SmallTypes.nextOf (.ref i) >>= _) _ _ _
  have f1 : S1 k q1 := D1.frame k _ _ st1 fun c hc o e => e1' c o (fun q => ap.b2 (q ▸ hc)) e
  rcases l1 with rfl | ⟨l1, rfl⟩
  · refine wpAny_bind (D1.done _ _ _ f1 fun q2 e e2 he => ?_)
    obtain ⟨oe, hoe, hce⟩ := he
    have e2' : Heap.ExtBut i q1 q2 := e2
    have z2 : IsZip q2 z ti to .ellipsis := e2' _ _ ap.a3.symm z1
    have ez : e ≠ z := fun x => by subst x; have hoe' : q2.get? e = some oe := hoe; rw [z2] at hoe'; cases hoe'; simp at hce
    exact wpAny_setField_rec (s := ⟨q2, gn, dd, tk0, os⟩) z2 (by simp) fun q3 _ e3 => hE q3 e tk0 (fun c o c1 _ c3 _ x => e3.extBut _ _ c1 (e2' c o c3 (e1' c o c1 x))) ⟨oe, e3.extBut _ _ ez hoe, hce⟩
  · refine wpAny_bind (D1.item k _ _ _ l1 f1 fun x q2 t2 px s2 e2 => wpAny_pure ?_)
    have e2' : Heap.ExtBut i q1 q2 := e2.extBut
    have to2 : IsPair q2 to a b := e2' _ _ ap.a8 (e1' _ _ ap.a2 hto)
    refine wpAny_bind (wpAny_seqItems (s := ⟨q2, gn, dd, t2, os⟩) to2 rfl ?_); refine wpAny_bind (wpAny_updateSeq_pair (s := ⟨q2, gn, dd, t2, os⟩) to2 fun q3 (to3 : IsPair q3 to x b) e3 => ?_)
    have e3' : Heap.ExtBut to q2 q3 := e3.extBut
    refine wpAny_bind (wpAny_letGo (wpAny_pure ?_)); refine wpAny_bind (wpAny_bind (wpAny_onRaise ?_)); show wpAny _ _ (Builtin.SmallTypes.nextOf (.ref j) >>= _) _ _ _
    refine wpAny_bind (D2.done ⟨q3, gn, dd, t2, os⟩ _ _ (D2.frame k _ _ st2 fun c hc o e => e3' c o (fun q => ap.b5 (q ▸ hc)) (e2' c o (fun q => ap.b7 (q ▸ hc)) (e1' c o (fun q => ap.b3 (q ▸ hc)) e))) fun q4 e e4 he => ?_)
    obtain ⟨oe, hoe, hce⟩ := he
    have e4' : Heap.ExtBut j q3 q4 := e4
    have z4 : IsZip q4 z ti to .ellipsis := e4' _ _ ap.a4.symm (e3' _ _ ap.a2.symm (e2' _ _ ap.a3.symm z1))
    have ez : e ≠ z := fun x => by subst x; have hoe' : q4.get? e = some oe := hoe; rw [z4] at hoe'; cases hoe'; simp at hce
    exact wpAny_setField_rec (s := ⟨q4, gn, dd, t2, os⟩) z4 (by simp) fun q5 _ e5 => hE q5 e t2 (fun c o c1 c2 c3 c4 x => e5.extBut _ _ c1 (e4' c o c4 (e3' c o c2 (e2' c o c3 (e1' c o c1 x))))) ⟨oe, e5.extBut _ _ ez hoe, hce⟩
theorem next_zpD {Q : Option Value → Shared → Prop} (D1 : Draws prog w A.in1 i f n1 P1 S1) (D2 : Draws prog w A.in1 j g n2 P2 S2) (ap : ZpAp z ti to i j f g)
    (hz : IsZip s.heap z ti to .none) (hti : IsPair s.heap ti (.ref i) (.ref j)) (hto : IsPair s.heap to a b) (st1 : S1 k s.heap) (st2 : S2 k s.heap) (l1 : k < n1) (l2 : k < n2)
    (hQ : ∀ x y h' tk, P1 k x → P2 k y → IsZip h' z ti to (rawInt s.heap.objs.size) → IsPair h' to x y → S1 (k + 1) h' → S2 (k + 1) h' → IsPair h' s.heap.objs.size x y → h'.objs.size = s.heap.objs.size + 1 →
      (∀ c o, c ≠ z → c ≠ to → c ≠ i → c ≠ j → s.heap.get? c = some o → h'.get? c = some o) → Q (some (.ref s.heap.objs.size)) { s with heap := h', toks := tk }) :
    wpAny (model prog w) A (pyNext (.ref z)) Q E s := by
  have hT : s.TypeIs (.ref z) "zip" := ⟨_, hz, rfl⟩
  unfold pyNext; refine wpAny_bind (wpAny_attempt (wpAny_callSpecial?_slot (name := Str.ofString "__next__") hT F.slot_zip_next (wpAny_call_entry F.slot_zip_next hT F.entry_zip_next ?_ (F.args_zip_next_1 _))))
  exact zpD_item D1 D2 ap hz hti hto st1 st2 l1 l2 fun x y h' tk p1 p2 q1 q2 q3 q4 q5 q6 q7 => wpAny_pure (hQ x y h' tk p1 p2 q1 q2 q3 q4 q5 q6 q7)
theorem end_zpD {Q : Option Value → Shared → Prop} (D1 : Draws prog w A.in1 i f n1 P1 S1) (D2 : Draws prog w A.in1 j g n2 P2 S2) (ap : ZpAp z ti to i j f g)
    (hz : IsZip s.heap z ti to .none) (hti : IsPair s.heap ti (.ref i) (.ref j)) (hto : IsPair s.heap to a b) (st1 : S1 k s.heap) (st2 : S2 k s.heap) (l1 : k = n1 ∨ k < n1 ∧ k = n2)
    (hQ : ∀ h' tk, (∀ c o, c ≠ z → c ≠ to → c ≠ i → c ≠ j → s.heap.get? c = some o → h'.get? c = some o) → Q none { s with heap := h', toks := tk }) : wpAny (model prog w) A (pyNext (.ref z)) Q E s := by
  have hT : s.TypeIs (.ref z) "zip" := ⟨_, hz, rfl⟩
  unfold pyNext; refine wpAny_bind (wpAny_attempt (wpAny_callSpecial?_slot (name := Str.ofString "__next__") hT F.slot_zip_next (wpAny_call_entry F.slot_zip_next hT F.entry_zip_next ?_ (F.args_zip_next_1 _))))
  refine zpD_end D1 D2 ap hz hti hto st1 st2 l1 fun h' e tk hk he => ?_
  obtain ⟨o, ho, hc⟩ := he
  exact wpAny_bind (wpAny_isInstance (s := { s with heap := h', toks := tk }) (T := "StopIteration") (b := true) ⟨o, ho, hc⟩ isSubtype_stop (wpAny_pure (hQ _ _ hk)))
end
end L2
namespace L2
open PySem PySem.Spec PyProof.Rows PySem.W
def strIt (x : Str) (t : Tok) : Obj := { cls := .type (strIterType x), data := .fields #[.str x t, .int 0 0] }
theorem iter_strIt {prog : Program} {w : World} {A : Around} {E : Value → Shared → Prop} {s : Shared} {x : Str} {t : Tok} {Q : Value → Shared → Prop} (h : Q (.ref s.heap.objs.size) { s with heap := s.heap.push (strIt x t) }) : wpAny (model prog w) A (pyIter (.str x t)) Q E s := by
  unfold strIt at h
  cases ha : x.cps.all (· < 128)
  · rw [show strIterType x = "str_iterator" by simp [strIterType, ha]] at h; exact wpAny_pyIter_wide ha h
  · rw [show strIterType x = "str_ascii_iterator" by simp [strIterType, ha]] at h; exact wpAny_pyIter_ascii ha h
abbrev zp1 (h : Heap) (l : Addr) : Heap := h.push { cls := .type "list_iterator", data := .fields #[.ref l, .int 0 0] }
abbrev zp2 (h : Heap) (l : Addr) (x : Str) (t : Tok) : Heap := (zp1 h l).push (strIt x t)
abbrev zp3 (h : Heap) (l : Addr) (x : Str) (t : Tok) : Heap := (zp2 h l x t).push { cls := .type "tuple", data := .seq #[.ref h.objs.size, .ref (zp1 h l).objs.size] }
abbrev zp4 (h : Heap) (l : Addr) (x : Str) (t : Tok) : Heap := (zp3 h l x t).push { cls := .type "tuple", data := .seq #[.none, .none] }
abbrev zp5 (h : Heap) (l : Addr) (x : Str) (t : Tok) : Heap := (zp4 h l x t).push { cls := .type "zip", data := .fields #[.none, .bool false, .bool false, .ref (zp2 h l x t).objs.size, .ref (zp3 h l x t).objs.size] }
theorem mt_zp (l : Addr) (x : Str) (t : Tok) (xs : Array Value) :
    Meets (Builtin.«zip.__new__» ⟨[.type "zip", .ref l, .str x t], []⟩) (fun _ R s => s.heap.IsList l xs ∧ R (.ok (.ret (.ref (zp4 s.heap l x t).objs.size))) { s with heap := zp5 s.heap l x t }) :=
  .of_wp fun prog w A R s h => by
    obtain ⟨hp, g, d, tk, os⟩ := s; obtain ⟨hl1, h⟩ := h
    have hsub := sub_zip
    have h1 : Heap.IsList (Shared.heap ⟨hp, g, d, tk, os⟩) l xs := hl1
    wp_walk using wpAny_pyIter_list h1, iter_strIt
    exact ⟨_, rfl, h⟩
section
variable {prog : Program} {w : World} {A : Around} {E : Value → Shared → Prop} {s : Shared}
theorem call_zp {l : Addr} {x : Str} {t : Tok} {xs : Array Value} {Q : Value → Shared → Prop} (hl : s.heap.IsList l xs)
    (h : ∀ h', IsZip h' (s.heap.objs.size + 4) (s.heap.objs.size + 2) (s.heap.objs.size + 3) .none → IsPair h' (s.heap.objs.size + 2) (.ref s.heap.objs.size) (.ref (s.heap.objs.size + 1)) →
      IsPair h' (s.heap.objs.size + 3) .none .none → h'.IsListIter s.heap.objs.size l 0 → h'.IsStrIter (s.heap.objs.size + 1) (strIterType x) x t 0 →
      (∀ c o, s.heap.get? c = some o → h'.get? c = some o) → Q (.ref (s.heap.objs.size + 4)) { s with heap := h' }) :
    wpAny (model prog w) A (call (.type "zip") [.ref l, .str x t]) Q E s := by
  refine callType_new F.called_zip (by decide) (F.typeCall_zip_2 _ _) (F.newCall_zip_2 _ _) (fun obj => F.args_object_init_3 obj _ _) F.entry_zip_new (mt_zp l x t xs) ⟨hl, ?_⟩
  have n1 : (zp1 s.heap l).objs.size = s.heap.objs.size + 1 := Heap.size_push ..
  have n2 : (zp2 s.heap l x t).objs.size = s.heap.objs.size + 2 := by rw [Heap.size_push, n1]
  have n3 : (zp3 s.heap l x t).objs.size = s.heap.objs.size + 3 := by rw [Heap.size_push, n2]
  have n4 : (zp4 s.heap l x t).objs.size = s.heap.objs.size + 4 := by rw [Heap.size_push, n3]
  have up : ∀ c o, (zp2 s.heap l x t).get? c = some o → (zp5 s.heap l x t).get? c = some o := fun c o e => Heap.get?_push_of_some _ (Heap.get?_push_of_some _ (Heap.get?_push_of_some _ e))
  have g5 : (zp5 s.heap l x t).get? (zp4 s.heap l x t).objs.size = some _ := Heap.get?_push_size _ rfl
  have g4 : (zp5 s.heap l x t).get? (zp3 s.heap l x t).objs.size = some _ := Heap.get?_push_of_some _ (Heap.get?_push_size _ rfl)
  have g3 : (zp5 s.heap l x t).get? (zp2 s.heap l x t).objs.size = some _ := Heap.get?_push_of_some _ (Heap.get?_push_of_some _ (Heap.get?_push_size _ rfl))
  have g2 : (zp5 s.heap l x t).get? (zp1 s.heap l).objs.size = some _ := up _ _ (Heap.get?_push_size _ rfl)
  have g1 : (zp5 s.heap l x t).get? s.heap.objs.size = some _ := up _ _ (Heap.get?_push_of_some _ (Heap.get?_push_size _ rfl))
  show _ ∧ _
  rw [n2, n3, n4] at g5; rw [n1, n2] at g3; rw [n3] at g4; rw [n1] at g2; rw [n4]
  exact ⟨⟨_, g5, rfl⟩, h _ g5 g3 g4 ⟨_, g1, rfl, rfl⟩ ⟨_, g2, rfl, rfl⟩ fun c o e => up c o (Heap.get?_push_of_some _ (Heap.get?_push_of_some _ e))⟩
end
def ItzS (K : PySem.W.Frag) (l : Addr) (n : Nat) (f : Nat → V) : It :=
  ⟨fun i H => ∃ xs x, SqL K H l xs ∧ xs[i]? = some x ∧ i < n,
   fun i H v H' => ∃ p x, (∀ xs, SqL K H l xs → xs[i]? = some x) ∧ H p = none ∧ v = .ref p ∧ H' = upd H p (.tup [x, f i]),
   fun i H => ∃ xs, SqL K H l xs ∧ (i = xs.length ∨ i < xs.length ∧ i = n)⟩
theorem turn_zipS {P : Program} {w : World} {K : PySem.W.Frag} {elts : List Expr} {kk : Nat} {pos : Pos} (z ti to i1 i2 l : Addr) (t0 : Str) (t : Tok) (D : ZpAp z ti to i1 i2 [i1, l] [i2]) (hl1 : l ≠ i1) :
    Turn P w K (.Tuple elts kk pos) (ItzS K l t0.cps.size (sgn t0)) [z, ti, to, i1, i2] z (fun i h => IsZip h z ti to .none ∧ IsPair h ti (.ref i1) (.ref i2) ∧ (∃ a b, IsPair h to a b) ∧ h.IsListIter i1 l i ∧ h.IsStrIter i2 (strIterType t0) t0 t i) where
  mem := by simp
  obj := fun i h st b hb => by
    obtain ⟨hz, hTI, ⟨a, c, hTO⟩, ⟨o1, ho1, c1, d1⟩, ⟨o2, ho2, c2, d2⟩⟩ := st
    rcases List.mem_cons.mp hb with rfl | hb
    · exact ⟨_, hz, fun v z => by cases z⟩
    rcases List.mem_cons.mp hb with rfl | hb
    · exact ⟨_, hTI, fun v z => by cases z⟩
    rcases List.mem_cons.mp hb with rfl | hb
    · exact ⟨_, hTO, fun v z => by cases z⟩
    rcases List.mem_cons.mp hb with rfl | hb
    · exact ⟨o1, ho1, fun v z => by rw [d1] at z; cases z⟩
    · have e : b = i2 := by simpa using hb
      subst e
      exact ⟨o2, ho2, fun v z => by rw [d2] at z; cases z⟩
  keep := fun i h h' st k => by
    obtain ⟨hz, hTI, ⟨a, c, hTO⟩, h1, o2, ho2, r2⟩ := st
    exact ⟨k z (by simp) _ hz, k ti (by simp) _ hTI, ⟨a, c, k to (by simp) _ hTO⟩, h1.at fun o q => k i1 (by simp) o q, o2, k i2 (by simp) o2 ho2, r2⟩
  item := by
    intro X hP hw hK hc i pins s σ H E I hf st hg
    subst hP hw hK
    obtain ⟨xs, x, hq, hx, hin⟩ := hg
    obtain ⟨its, rv, p, hz0⟩ := I.list hq
    obtain ⟨u, hu, ru⟩ := rv.get hx
    obtain ⟨hz, hTI, ⟨a, c, hTO⟩, h1, h2⟩ := st
    have lt : ∀ {c o}, s.heap.get? c = some o → c < s.heap.objs.size := fun e => Heap.lt_size e
    have lz := lt hz
    have lTI := lt hTI
    have lTO := lt hTO
    have l1 : i1 < s.heap.objs.size := by obtain ⟨o, e, _⟩ := id h1; exact lt e
    have l2 : i2 < s.heap.objs.size := by obtain ⟨o, e, _⟩ := id h2; exact lt e
    have hil : i < its.toArray.size := by have := (List.getElem?_eq_some_iff.mp hu).1; simpa using this
    refine next_zpD (Draws.list (A := X.A.in1) (show X.A.in1.handled = none from I.ok.hd hc) i1 l hl1 its.toArray) (draws_str (t := t) X.A.in1 (I.ok.hd hc)) D hz hTI hTO ⟨h1, p.isList⟩ h2 hil hin fun u' v h3 tk pu pv z3 TO3 it13 it23 pr3 sz3 hk3 => ?_
    obtain rfl : u' = u := by
      have e : its.toArray[i]? = some u' := pu
      rw [List.getElem?_toArray, hu] at e
      exact (Option.some.inj e).symm
    have rw' : RelV (sgn t0 i) v := signAt_rel pv
    refine ⟨_, rfl, ?_⟩
    refine wpAny_letOwnedTupleGo_zip (s := { s with heap := h3, toks := tk }) z3 fun h4 z4 hs4 => ?_
    replace hs4 : Heap.SameBut z h3 h4 := hs4
    have hp : H s.heap.objs.size = none := I.hok.fresh (Nat.le_refl _)
    have I1 : Inv X pins σ (upd H s.heap.objs.size (.tup [x, sgn t0 i])) { s with heap := s.heap.push { cls := .type "tuple", data := .seq #[u', v] }, toks := tk } := by
      refine I.laid (fun b u q => Heap.get?_push_of_some _ q) (Nat.le_refl _) ⟨?_, [u', v], .cons ru (.cons rw' .nil), ⟨_, Heap.get?_push_size _ rfl, rfl, _, rfl⟩⟩
      show 2 ≤ sizeLine
      decide
    have hlt : ∀ b ∈ [z, ti, to, i1, i2], b < s.heap.objs.size := fun b hb => by
      simp only [List.mem_cons, List.not_mem_nil, or_false] at hb
      rcases hb with rfl | rfl | rfl | rfl | rfl
      · exact lz
      · exact lTI
      · exact lTO
      · exact l1
      · exact l2
    have hf1 : ∀ b ∈ [z, ti, to, i1, i2], FpOk X pins (upd H s.heap.objs.size (.tup [x, sgn t0 i])) b := fun b hb => by
      obtain ⟨f0, r⟩ := hf b hb
      refine ⟨?_, r⟩
      rw [upd_ne (Nat.ne_of_lt (hlt b hb))]
      exact f0
    have I2 : Inv X pins σ (upd H s.heap.objs.size (.tup [x, sgn t0 i])) { s with heap := h4, toks := tk } := by
      refine Inv.turnedL (s := { s with heap := s.heap.push { cls := .type "tuple", data := .seq #[u', v] }, toks := tk }) (ch := [z, ti, to, i1, i2]) I1 (fun b o hb q => ?_) hf1
      have n1 : b ≠ z := fun e => hb (by simp [e])
      have n2 : b ≠ to := fun e => hb (by simp [e])
      have n3 : b ≠ i1 := fun e => hb (by simp [e])
      have n4 : b ≠ i2 := fun e => hb (by simp [e])
      refine (hs4.2 b n1).trans ?_
      rcases Heap.get?_push_cases q with ⟨rfl, rfl⟩ | q'
      · exact pr3
      · exact hk3 b o n1 n2 n3 n4 q'
    refine ⟨.ref s.heap.objs.size, _, I2, rfl, ⟨s.heap.objs.size, x, fun zs hy' => by rw [I.list_inj hy' hq]; exact hx, hp, rfl, rfl⟩, ⟨z4, ?_, ⟨u', v, ?_⟩, ?_, ?_⟩, fun b hb => (hf1 b hb).1⟩
    · exact (hs4.2 ti D.a1).trans (hk3 ti _ D.a1 D.a5 D.a6 D.a7 hTI)
    · exact (hs4.2 to D.a2).trans TO3
    · exact it13.1.extBut hs4.extBut D.a3
    · exact it23.extBut hs4.extBut D.a4
  done := by
    intro X hP hw hK hc i pins s σ H E I hf st hg
    subst hP hw hK
    obtain ⟨xs, hq, hx⟩ := hg
    obtain ⟨its, rv, p, hz0⟩ := I.list hq
    obtain ⟨hz, hTI, ⟨a, c, hTO⟩, h1, h2⟩ := st
    have hl := rv.length
    refine end_zpD (Draws.list (A := X.A.in1) (show X.A.in1.handled = none from I.ok.hd hc) i1 l hl1 its.toArray) (draws_str (t := t) X.A.in1 (I.ok.hd hc)) D hz hTI hTO ⟨h1, p.isList⟩ h2 (by rw [hl] at hx; simpa using hx) fun h' tk eb => ⟨rfl, ?_⟩
    exact Inv.turnedL (s := s) (t' := tk) (ch := [z, ti, to, i1, i2]) I (fun b o hb q => eb b o (fun e => hb (by simp [e])) (fun e => hb (by simp [e])) (fun e => hb (by simp [e])) (fun e => hb (by simp [e])) q) hf
  self := fun _ _ _ _ _ st h => wpAny_pyIter_zip st.1 h
theorem zpAp_new {N l : Nat} (hl : l < N) : ZpAp (N + 4) (N + 2) (N + 3) N (N + 1) [N, l] [N + 1] := by
  have q : ∀ {a b : Nat}, a ≠ b → (a : Addr) ≠ (b : Addr) := fun h => h
  have m1 : ∀ {a b : Nat}, a ≠ b → (a : Addr) ∉ ([b] : List Addr) := fun h e => h (List.mem_singleton.mp e)
  have m2 : ∀ {a b c : Nat}, a ≠ b → a ≠ c → (a : Addr) ∉ ([b, c] : List Addr) := fun h1 h2 e => by
    rcases List.mem_cons.mp e with e | e
    · exact h1 e
    · exact h2 (List.mem_singleton.mp e)
  exact ⟨q (by omega), q (by omega), q (by omega), q (by omega), q (by omega), q (by omega), q (by omega), q (by omega), q (by omega), q (by omega), m2 (by omega) (by omega), m1 (by omega), m2 (by omega) (by omega), m1 (by omega), m2 (by omega) (by omega), m1 (by omega)⟩
section
variable {X : Cx} {elts : List Expr} {kk : Nat} {tpos : Pos}
def iZipX (K : PySem.W.Frag) (ta : TA) : TI := fun σ H R => ta σ H fun vs H1 => match vs with
  | [.ref a, .ref b] => (∃ xs, SqL K H1 a xs) ∧ (∃ ys, SqL K H1 b ys) ∧ R (Itz K a b) H1
  | [.ref a, .str x] => (∃ xs, SqL K H1 a xs) ∧ R (ItzS K a x.cps.size (sgn x)) H1
  | _ => False
theorem pi_zipX {a b : Expr} {ta : TA} {p pos : Pos} (hm : Gb X.mg "zip") (ha : PA X [a, b] ta) (hg : Gl X "zip" := by rfl) (hs : starEach [a, b] X.env = [(false, eval a X.env), (false, eval b X.env)] := by rfl) (hs2 : starEach [b] X.env = [(false, eval b X.env)] := by rfl) :
    PI X (.Tuple elts kk tpos) (.Call (.Name "zip" p) [a, b] [] pos) (iZipX X.K ta) := by
  intro pins s σ H R I h
  refine Call_ (ld_blt I hg hm (u := .type "zip") (by rfl) (PyProof.Rows.callWith_type1 (thn (ha pos pins s σ H _ I h) fun us s1 ⟨vs, H1, I1, r1, q1⟩ => ?_) (by rw [hs, hs2]) (by rw [hs2]; rfl)))
  dsimp only at q1
  have lo : ∀ b ∈ [s1.heap.objs.size + 4, s1.heap.objs.size + 2, s1.heap.objs.size + 3, s1.heap.objs.size, s1.heap.objs.size + 1], s1.heap.objs.size ≤ b := fun b hb => by
    simp only [List.mem_cons, List.not_mem_nil, or_false] at hb
    rcases hb with rfl | rfl | rfl | rfl | rfl <;> first | exact Nat.le_add_right _ _ | exact Nat.le_refl _
  split at q1
  · rename_i l m
    obtain ⟨⟨xs, hq⟩, ⟨ys, hq2⟩, q⟩ := q1
    obtain ⟨w1, w2, rfl, r, r'⟩ := vals2 r1
    cases r
    cases r'
    obtain ⟨its, rv, p1, hz⟩ := I1.list hq
    obtain ⟨its2, rv2, p2, hz2⟩ := I1.list hq2
    refine call_zip_2 p1.isList p2.isList fun h' hz' hTI hTO h1 h2 hsz hk => ?_
    refine wpAny_pyIter_zip (s := { s1 with heap := h' }) hz' ?_
    have I2 : Inv X pins σ H1 { s1 with heap := h' } := I1.kept (t' := s1.toks) hk
    have la : l < s1.heap.objs.size := by obtain ⟨o, e, _⟩ := p1.isList; exact Heap.lt_size e
    have lb : m < s1.heap.objs.size := by obtain ⟨o, e, _⟩ := p2.isList; exact Heap.lt_size e
    refine ⟨s1.heap.objs.size + 4, [s1.heap.objs.size + 4, s1.heap.objs.size + 2, s1.heap.objs.size + 3, s1.heap.objs.size, s1.heap.objs.size + 1], _, _, H1, rfl, I2, turn_zip _ _ _ _ _ l m (zip_apart la lb), ⟨hz', hTI, ⟨_, _, hTO⟩, h1, h2⟩, fun b hb => ?_, q⟩
    exact I1.fpOk (lo b hb) (I1.hok.fresh (lo b hb))
  · rename_i l x
    obtain ⟨⟨xs, hq⟩, q⟩ := q1
    obtain ⟨w1, w2, rfl, r, r'⟩ := vals2 r1
    cases r
    obtain ⟨t, rfl⟩ := r'
    obtain ⟨its, rv, p1, hz⟩ := I1.list hq
    refine call_zp p1.isList fun h' hz' hTI hTO h1 h2 hk => ?_
    refine wpAny_pyIter_zip (s := { s1 with heap := h' }) hz' ?_
    have I2 : Inv X pins σ H1 { s1 with heap := h' } := I1.kept (t' := s1.toks) hk
    have la : l < s1.heap.objs.size := by obtain ⟨o, e, _⟩ := p1.isList; exact Heap.lt_size e
    refine ⟨s1.heap.objs.size + 4, [s1.heap.objs.size + 4, s1.heap.objs.size + 2, s1.heap.objs.size + 3, s1.heap.objs.size, s1.heap.objs.size + 1], _, _, H1, rfl, I2, turn_zipS _ _ _ _ _ l x t (zpAp_new la) (Nat.ne_of_lt la), ⟨hz', hTI, ⟨_, _, hTO⟩, h1, h2⟩, fun b hb => ?_, q⟩
    exact I1.fpOk (lo b hb) (I1.hok.fresh (lo b hb))
  · exact q1.elim
end
section
variable {K : PySem.W.Frag} {E : XK} {α β : Type} {L : List Sl} {T : Ty α}
theorem ei_zipX {T2 : Ty β} {r : Mo (List α × List β)} {ta : TA} (h : EvA K ta E L r (csCons (tyL T) (csLast (tyL T2)))) : EvI K (iZipX K ta) E L (r.bind fun c => .ok (c.1.zip c.2)) (tyTup (csCons T (csLast T2))) := by
  intro σ F H R hL hs q
  refine h σ F H _ hL hs (q.bind.imp fun l F1 H1 x1 k1 vs hv => ?_)
  obtain ⟨v, ws, rfl, ⟨p, us, rfl, hp, hr⟩, v2, rfl, p2, us2, rfl, hp2, hr2⟩ := hv
  refine ⟨⟨us, .of (x1.2.1 _ _ hp)⟩, ⟨us2, .of (x1.2.1 _ _ hp2)⟩, k1.ok x1.2.1 _ ⟨fun i H x hH hx => ?_, fun H hH => ?_⟩⟩
  · obtain ⟨hx1, hx2⟩ := List.getElem?_zip_eq_some.mp (show (l.1.zip l.2)[i]? = some (x.1, x.2) from hx)
    rcases hr.get i with ⟨a, _⟩ | ⟨y, u, a, b, c⟩
    · rw [a] at hx1; cases hx1
    rcases hr2.get i with ⟨a', _⟩ | ⟨y', u', a', b', c'⟩
    · rw [a'] at hx2; cases hx2
    rw [a] at hx1; rw [a'] at hx2
    injection hx1 with hx1
    injection hx2 with hx2
    refine ⟨⟨us, us2, u, u', .of (hH _ _ hp), .of (hH _ _ hp2), b, b'⟩, ?_⟩
    rintro v H' ⟨p3, w, w', z, z', hp3, rfl, rfl⟩ F hF hF'
    have e := z us (.of (hH _ _ hp))
    have e' := z' us2 (.of (hH _ _ hp2))
    rw [b] at e; cases e
    rw [b'] at e'; cases e'
    have x' := Ext.new (o := .tup [u, u']) hF' hp3
    refine ⟨_, x', p3, _, rfl, upd_same, _, _, rfl, ?_, u', rfl, ?_⟩
    · rw [← hx1]; exact T.mono (hF.trans x'.1) c
    · rw [← hx2]; exact T2.mono (hF.trans x'.1) c'
  · refine ⟨us, us2, .of (hH _ _ hp), .of (hH _ _ hp2), ?_⟩
    rw [List.length_zip, hr.len, hr2.len]
    omega
end
end L2
namespace L2
open PySem PySem.Spec PyProof.Rows
section
variable {K : PySem.W.Frag} {E : XK} {α β γ ρ S B : Type} {F0 H0 F h H : Hp} {L : List Sl} {e : TE} {T : Ty α} {r : Mo α} {O : Own ρ} {u : TS} {LS : S → List Sl} {LB : B → List Sl}
structure PutC (F2 H2 h H0 k k' F3 H3 : Hp) : Prop where
  ff : Same F2 F3
  fh : Same F3 H3
  ol : Same (less H2 k) H3
  nw : ∀ q, F2 q = none → F3 q ≠ none → H2 q = none ∨ k q ≠ none
  kh : Same k' H3
  dj : Dj F3 k'
  fr : ∀ q, k q = none → k' q ≠ none → h q = none ∧ H0 q = none
theorem PutC.same {k k' : Hp} {H3 : Hp} (ok : Okk F0 H0 F h H) (kh : Same k h) (a : Same k' H3) (b : ∀ q, k q = none → k' q = none → H3 q = H q) (c : ∀ q, k q = none → k' q ≠ none → F q = none ∧ h q = none ∧ H0 q = none ∧ H q = k' q) : PutC F H h H0 k k' F H3 := by
  have dj : Dj F k' := fun q => by
    by_cases w : k' q = none
    · exact .inr w
    · left
      by_cases y : k q = none
      · exact (c q y w).1
      · rcases ok.2.1 q with d | d
        · exact d
        · exact absurd (kh.free d) y
  have ol : ∀ q o, k q = none → H q = some o → H3 q = some o := fun q o y z => by
    by_cases w : k' q = none
    · rw [b q y w]; exact z
    · obtain ⟨_, _, _, e⟩ := c q y w
      rw [z] at e
      exact a _ _ e.symm
  refine ⟨Same.refl _, fun q o z => ?_, fun q o z => ?_, fun q y z => absurd y z, a, dj, fun q y z => ⟨(c q y z).2.1, (c q y z).2.2.1⟩⟩
  · have y : k q = none := by
      rcases ok.2.1 q with d | d
      · rw [d] at z; cases z
      · exact kh.free d
    exact ol q o y (ok.1.2.1 _ _ z)
  · unfold less at z
    split at z
    · rename_i y; exact ol q o y z
    · cases z
theorem PutC.one {p : Addr} {o o' : HO} (ok : Okk F0 H0 F h H) (kh : Same (one p o) h) : PutC F H h H0 (one p o) (one p o') F (upd H p o') := by
  have ne : ∀ q, L2.one p o q = none → q ≠ p := fun q z w => by rw [w, one_same] at z; cases z
  refine PutC.same ok kh (fun q s z => ?_) (fun q z1 z2 => upd_ne (ne q z1)) fun q z1 z2 => ?_
  · unfold L2.one at z
    split at z
    · rename_i w; unfold upd; rw [if_pos w]; exact z
    · cases z
  · unfold L2.one at z2
    rw [if_neg (ne q z1)] at z2
    exact absurd rfl z2
end
section
variable {K : PySem.W.Frag} {E : XK} {α β γ ρ S B : Type} {F0 H0 F h H : Hp} {L : List Sl} {e : TE} {T : Ty α} {r : Mo α} {O : Own ρ} {u : TS} {LS : S → List Sl} {LB : B → List Sl} {p : Addr} {vs : List V}
end
end L2
namespace L2
open PySem PySem.Spec PyProof.Rows
section
variable {α β γ : Type}
def OwAll (O : Own α) (F : Hp) : List α → List V → Hp → Prop
  | [], [], h => ∀ p, h p = none
  | x :: xs, v :: vs, h => ∃ h1 h2, Jn h1 h2 h ∧ O.O x v F h1 ∧ OwAll O F xs vs h2
  | _, _, _ => False
variable {O : Own α}
theorem OwAll.mono : ∀ {xs : List α} {vs : List V} {F F' h : Hp}, Same F F' → OwAll O F xs vs h → OwAll O F' xs vs h
  | [], [], _, _, _, _, q => q
  | x :: xs, v :: vs, F, F', h, g, ⟨h1, h2, j, o, r⟩ => ⟨h1, h2, j, O.mono g o, r.mono g⟩
  | [], _ :: _, _, _, _, _, q => q.elim
  | _ :: _, [], _, _, _, _, q => q.elim
theorem OwAll.imm (i : ImmO O) : ∀ {xs : List α} {vs : List V} {F F' h : Hp}, Tups F F' → OwAll O F xs vs h → OwAll O F' xs vs h
  | [], [], _, _, _, _, q => q
  | x :: xs, v :: vs, F, F', h, g, ⟨h1, h2, j, o, r⟩ => ⟨h1, h2, j, i g o, r.imm i g⟩
  | [], _ :: _, _, _, _, _, q => q.elim
  | _ :: _, [], _, _, _, _, q => q.elim
theorem OwAll.notup : ∀ {xs : List α} {vs : List V} {F h : Hp}, OwAll O F xs vs h → ∀ p ys, h p ≠ some (.tup ys)
  | [], [], _, _, q, p, ys => by rw [q p]; exact fun z => by cases z
  | x :: xs, v :: vs, F, h, ⟨h1, h2, j, o, r⟩, p, ys => by
    rcases j p with ⟨_, b⟩ | ⟨_, b⟩
    · rw [b]; exact r.notup p ys
    · rw [b]; exact O.notup o p ys
  | [], _ :: _, _, _, q, _, _ => q.elim
  | _ :: _, [], _, _, q, _, _ => q.elim
theorem OwAll.len : ∀ {xs : List α} {vs : List V} {F h : Hp}, OwAll O F xs vs h → xs.length = vs.length
  | [], [], _, _, _ => rfl
  | x :: xs, v :: vs, F, h, ⟨h1, h2, j, o, r⟩ => by rw [List.length_cons, List.length_cons, r.len]
  | [], _ :: _, _, _, q => q.elim
  | _ :: _, [], _, _, q => q.elim
theorem un_mono {F h1 h : Hp} (d : Dj F h) (s : Same h1 h) : Same (un F h1) (un F h) := fun p o e => by
  unfold un at e ⊢
  cases z : F p with
  | some w => rw [z] at e; exact e
  | none => rw [z] at e; exact s _ _ e
theorem OwAll.prs : ∀ {xs : List α} {vs : List V} {F h G : Hp}, Dj F h → Same (un F h) G → OwAll O F xs vs h → Prs O.fr G xs vs
  | [], [], _, _, _, _, _, _ => .nil
  | x :: xs, v :: vs, F, h, G, d, g, ⟨h1, h2, j, o, r⟩ => by
    have d1 : Dj F h1 := fun p => by
      rcases d p with z | z
      · exact .inl z
      · exact .inr (j.l.free z)
    have d2 : Dj F h2 := fun p => by
      rcases d p with z | z
      · exact .inl z
      · exact .inr (j.r.free z)
    exact .cons (O.fr.mono ((un_mono d j.l).trans g) (O.frz d1 o)) (r.prs d2 ((un_mono d j.r).trans g))
  | [], _ :: _, _, _, _, _, _, q => q.elim
  | _ :: _, [], _, _, _, _, _, q => q.elim
theorem jn_sym {h1 h2 h : Hp} (j : Jn h1 h2 h) : Jn h2 h1 h := fun p => by
  rcases j p with ⟨a, b⟩ | ⟨a, b⟩
  · exact .inr ⟨a, b⟩
  · exact .inl ⟨a, b⟩
theorem jn_assoc {h1 h2 h12 h3 h : Hp} (j : Jn h1 h2 h12) (k : Jn h12 h3 h) : ∃ h23, Jn h2 h3 h23 ∧ Jn h1 h23 h := by
  have d : Dj h2 h3 := fun p => by
    rcases k.dj p with z | z
    · exact .inl (j.r.free z)
    · exact .inr z
  refine ⟨un h2 h3, jn_of d, fun p => ?_⟩
  unfold un
  rcases k p with ⟨a, b⟩ | ⟨a, b⟩
  · refine .inl ⟨j.l.free a, ?_⟩
    rw [j.r.free a]; exact b
  · rcases j p with ⟨c, e⟩ | ⟨c, e⟩
    · refine .inl ⟨c, ?_⟩
      rw [b, e]
      cases z : h2 p with
      | none => exact a.symm ▸ rfl
      | some w => rfl
    · refine .inr ⟨?_, by rw [b, e]⟩
      rw [c]; exact a
theorem OwAll.at : ∀ {xs : List α} {vs : List V} {F h : Hp} (i : Nat) {x : α}, OwAll O F xs vs h → xs[i]? = some x →
    ∃ v h1 h2, vs[i]? = some v ∧ Jn h1 h2 h ∧ O.O x v F h1 ∧ ∀ x' h1' h' F3, Same F F3 → O.O x' v F3 h1' → Jn h1' h2 h' → OwAll O F3 (xs.set i x') vs h'
  | [], _, _, _, _, _, _, e => by cases e
  | x :: xs, [], _, _, _, _, q, _ => q.elim
  | x :: xs, v :: vs, F, h, 0, y, ⟨h1, h2, j, o, r⟩, e => by
    cases e
    exact ⟨v, h1, h2, rfl, j, o, fun x' h1' h' F3 g o' j' => ⟨h1', h2, j', o', r.mono g⟩⟩
  | x :: xs, v :: vs, F, h, i + 1, y, ⟨h1, h2, j, o, r⟩, e => by
    obtain ⟨w, k1, k2, e1, j1, o1, f⟩ := OwAll.at i r (by simpa using e)
    obtain ⟨m, jm, jh⟩ := jn_assoc j1 (jn_sym j)
    refine ⟨w, k1, m, by simpa using e1, jh, o1, fun x' k1' h' F3 g o' j' => ?_⟩
    have d : Dj k1' k2 := fun p => by
      rcases j'.dj p with z | z
      · exact .inl z
      · exact .inr (jm.l.free z)
    refine ⟨h1, un k1' k2, ?_, O.mono g o, f x' k1' _ F3 g o' (jn_of d)⟩
    intro p
    rcases j' p with ⟨a, b⟩ | ⟨a, b⟩
    · rcases jm p with ⟨c, e⟩ | ⟨c, e⟩
      · right
        refine ⟨by unfold un; rw [a, c], by rw [b, e]⟩
      · left
        refine ⟨c, by unfold un; rw [a, b, e]⟩
    · left
      refine ⟨jm.r.free a, ?_⟩
      unfold un
      rw [b]
      cases z : k1' p with
      | none => exact (jm.l.free a).symm ▸ rfl
      | some w => rfl
theorem OwAll.snoc : ∀ {xs : List α} {vs : List V} {F h : Hp} {x : α} {v : V} {hn : Hp}, OwAll O F xs vs h → O.O x v F hn → Dj h hn → OwAll O F (xs ++ [x]) (vs ++ [v]) (un h hn)
  | [], [], F, h, x, v, hn, q, o, d => by
    refine ⟨hn, fun _ => none, fun p => .inr ⟨rfl, ?_⟩, o, fun _ => rfl⟩
    unfold un; rw [q p]
  | y :: xs, w :: vs, F, h, x, v, hn, ⟨h1, h2, j, o1, r⟩, o, d => by
    obtain ⟨m, jm, jh⟩ := jn_assoc j (jn_of d)
    have d2 : Dj h2 hn := jm.dj
    have e : m = un h2 hn := by
      funext p
      unfold un
      rcases jm p with ⟨a, b⟩ | ⟨a, b⟩
      · rw [a]; exact b
      · rw [b]
        cases z : h2 p with
        | none => exact a.symm ▸ rfl
        | some w => rfl
    rw [e] at jh
    exact ⟨h1, _, jh, o1, r.snoc o d2⟩
  | [], _ :: _, _, _, _, _, _, q, _, _ => q.elim
  | _ :: _, [], _, _, _, _, _, q, _, _ => q.elim
end
section
variable {K : PySem.W.Frag} {E : XK} {α β γ ρ S B : Type} {F0 H0 F h H : Hp} {L : List Sl} {e te ei : TE} {T : Ty α} {r : Mo α} {Or : Own ρ} {u : TS} {LS : S → List Sl} {LB : B → List Sl} {σ : St}
end
end L2
namespace L2
open PySem PySem.Spec PyProof.Rows
section
variable {X : Cx} {e value o : Expr} {es : List Expr} {f m x : Str} {p pos pos' apos : Pos} {ta tv : TE} {t : TA} {C : Addr} {k : Nat} {ps : List Str} {sp : Sp}
end
section
variable {α β γ : Type}
end
section
variable {K : PySem.W.Frag} {E : XK} {α β γ δ ρ S B : Type} {F0 H0 F h H : Hp} {L : List Sl} {e te ei : TE} {T : Ty α} {r : Mo α} {Or : Own ρ} {u : TS} {LS : S → List Sl} {LB : B → List Sl} {σ : St} {C : Addr} {ns : List Str} {f : Str} {i n : Nat}
end
end L2
namespace L2
open PySem PySem.Spec PyProof.Rows
section
variable {K : PySem.W.Frag} {E : XK} {α β γ δ ρ ρ' S B : Type} {F0 H0 F h H : Hp} {L : List Sl} {e te ei : TE} {T : Ty α} {r : Mo α} {Or : Own ρ} {t u : TS} {LS : S → List Sl} {LB : B → List Sl} {σ : St} {C : Addr} {ns : List Str} {f m : Str} {i n : Nat}
end
end L2
namespace L2
open PySem PySem.Spec PyProof.Rows
section
variable {K : PySem.W.Frag} {E : XK} {α β γ δ ρ ρ' S B : Type} {F0 H0 F h H : Hp} {L : List Sl} {e te ei : TE} {T : Ty α} {r : Mo α} {Or : Own ρ} {t u : TS} {LS : S → List Sl} {LB : B → List Sl} {σ : St} {C : Addr} {ns : List Str} {f m : Str} {i n : Nat}
end
end L2
namespace L2
open PySem PySem.Spec PyProof.Rows
section
variable {K : PySem.W.Frag} {E : XK} {γ : Type} {L : List Sl} {C : Addr} {ns : List Str}
end
end L2
namespace L2
open PySem PySem.Spec PyProof.Rows
end L2
namespace L2
open PySem PySem.Spec PyProof.Rows
section
variable {X : Cx}
end
section
variable {K : PySem.W.Frag} {E : XK} {α β : Type} {L : List Sl} {e : TE} {T : Ty α}
theorem ev_unopt {r : Mo (Option α)} (h : EvF K e E L r (tyOpt T)) : EvF K e E L (r.bind fun o => Mo.opt o) T := by
  intro σ F H Q hL hs q
  refine h σ F H _ hL hs (q.bind.imp fun o F1 H1 x k v hv => ?_)
  cases o with
  | none => exact k.elim
  | some a => exact k.ok x.2.1 v hv.1
end
end L2
namespace L2
open PySem PySem.Spec PyProof.Rows
end L2
namespace L2
open PySem PySem.Spec PyProof.Rows
section
variable {prog : Program} {w : World} {A : Around} {E : Value → Shared → Prop} {s : Shared}
end
section
variable {X : Cx}
end
section
variable {K : PySem.W.Frag} {E : XK} {α β γ ρ S B : Type} {F H : Hp} {L : List Sl} {e : TE} {T : Ty α}
end
end L2
namespace L2
open PySem PySem.Spec PyProof.Rows
section
variable {α β γ : Type}
end
section
variable {K : PySem.W.Frag} {E : XK} {α β γ δ ρ ρ' S B : Type} {F0 H0 F h H : Hp} {L : List Sl} {e te ei : TE} {T : Ty α} {r : Mo α} {Or : Own ρ} {t u : TS} {LS : S → List Sl} {LB : B → List Sl} {σ : St} {C : Addr} {ns : List Str} {f m : Str} {i n w : Nat}
end
end L2
namespace L2
open PySem PySem.Spec PyProof.Rows
section
variable {K : PySem.W.Frag} {E : XK} {α β γ δ ρ ρ' S B : Type} {F0 H0 F h H : Hp} {L : List Sl} {e te ei tc : TE} {T : Ty α} {r : Mo α} {Or : Own ρ} {Or' : Own ρ'} {t u : TS} {LS : S → List Sl} {LB : B → List Sl} {σ : St} {C : Addr} {ns : List Str} {f m : Str} {i n w j : Nat}
end
end L2
namespace L2
open PySem PySem.Spec PyProof.Rows
section
variable {K : PySem.W.Frag} {E : XK} {α β γ δ ρ ρ' S B : Type} {F0 H0 F h H : Hp} {L : List Sl} {e te ei tc : TE} {T : Ty α} {r : Mo α} {Or : Own ρ} {Or' : Own ρ'} {t u : TS} {LS : S → List Sl} {LB : B → List Sl} {σ : St} {C : Addr} {ns : List Str} {f m : Str} {i n w j : Nat}
end
end L2
namespace L2
open PySem PySem.Spec PyProof.Rows
section
variable {K : PySem.W.Frag} {E : XK} {L : List Sl}
end
section
variable {K : PySem.W.Frag} {E : XK} {α β ρ B : Type} {F0 H0 F h H : Hp} {L : List Sl} {te : TE} {Or : Own ρ} {tb : TS} {LB : B → List Sl} {i w : Nat}
end
end L2
namespace L2
open PySem PySem.Spec PyProof.Rows
section
variable {K : PySem.W.Frag} {E : XK} {α β γ δ ρ ρ' S B : Type} {F0 H0 F h H : Hp} {L : List Sl} {e te ei tc : TE} {ta : TA} {T : Ty α} {r : Mo α} {Or : Own ρ} {Or' : Own ρ'} {t u : TS} {LS : S → List Sl} {LB : B → List Sl} {σ : St} {C : Addr} {ns : List Str} {f m : Str} {i n w j : Nat}
end
end L2
namespace L2
open PySem PySem.Spec PyProof.Rows
section
variable {K : PySem.W.Frag} {E : XK} {α κ : Type} [DecidableEq κ] {KY : KyT κ} {L : List Sl} {e1 e2 e3 : TE} {T : Ty α}
end
section
variable {K : PySem.W.Frag} {E : XK} {α β ρ ρ' B : Type} {L : List Sl} {te : TE} {Or : Own ρ} {Or' : Own ρ'} {LB : B → List Sl} {C : Addr} {ns : List Str} {m : Str} {i w : Nat}
end
end L2
namespace L2
open PySem PySem.Spec PyProof.Rows
section
variable {K : PySem.W.Frag} {E : XK} {α β γ δ ρ ρ' S B : Type} {F0 H0 F h H : Hp} {L : List Sl} {e te te2 tc : TE} {ta : TA} {T : Ty α} {r : Mo α} {Or : Own ρ} {Or' : Own ρ'} {t u : TS} {LS : S → List Sl} {LB : B → List Sl} {σ : St} {C : Addr} {ns : List Str} {f m : Str} {i n w j : Nat}
end
theorem atF {K : PySem.W.Frag} {E : XK} {α : Type} {e : TE} {r : Mo α} {T : Ty α} (L : List Sl) (h : EvF K e E L r T) : EvF K e E L r T := h
end L2
namespace L2
open PySem PySem.Spec PyProof.Rows
def Itv (K : PySem.W.Frag) (a : Addr) (n : Nat) : It :=
  ⟨fun i H => ∃ xs, SqL K H a xs ∧ xs.length = n ∧ i < n, fun i H x H' => H' = H ∧ ∀ xs, SqL K H a xs → xs[n - 1 - i]? = some x, fun i H => n ≤ i⟩
theorem turn_rev {P : Program} {w : World} {K : PySem.W.Frag} {tg : Expr} (a it : Addr) (n : Nat) : Turn P w K tg (Itv K a n) [it] it (fun i h => i ≤ n ∧ h.IsRevIter it a ((n : Int) - 1 - (i : Int))) where
  mem := by simp
  obj := fun i h st b hb => by
    have e : b = it := by simpa using hb
    subst e
    obtain ⟨_, o, e, c, d⟩ := st
    exact ⟨o, e, fun v z => by rw [d] at z; cases z⟩
  keep := fun i h h' st k => ⟨st.1, st.2.at fun o e => k it (by simp) o e⟩
  item := by
    intro X hP hw hK hc i pins s σ H E I hf st hg
    subst hP hw hK
    obtain ⟨xs, hq, hn, hi⟩ := hg
    obtain ⟨its, rv, p, hz⟩ := I.list hq
    obtain ⟨x, hx⟩ : ∃ x, xs[n - 1 - i]? = some x := ⟨_, List.getElem?_eq_getElem (by omega)⟩
    obtain ⟨u, hu, ru⟩ := rv.get hx
    obtain ⟨f0, f1, f2, f3, f4, f5⟩ := hf it (by simp)
    have e : (n : Int) - 1 - (i : Int) = ((n - 1 - i : Nat) : Int) := by omega
    have e2 : ((n - 1 - i : Nat) : Int) - 1 = (n : Int) - 1 - ((i + 1 : Nat) : Int) := by omega
    have hit := st.2
    rw [e] at hit
    refine wpAny_pyNext_rev_item hit p.isList (x := u) (by simpa using hu) fun h' st' sb => ?_
    rw [e2] at st'
    have I1 : Inv X pins σ H { s with heap := h' } := I.turned (t' := s.toks) (fun b o hb e => (sb.2 b hb).trans e) f0 f1 f3 f4 f5
    obtain ⟨o, eo, c, d⟩ := id st'
    exact ⟨u, rfl, go_of (s := { s with heap := h' }) eo c d (by decide) ⟨x, H, I1, ru, ⟨rfl, fun ys hy => by rw [I.list_inj hy hq]; exact hx⟩, ⟨hi, st'⟩, fun b hb => (hf b hb).1⟩⟩
  done := by
    intro X hP hw hK hc i pins s σ H E I hf st hg
    subst hP hw hK
    obtain ⟨f0, f1, f2, f3, f4, f5⟩ := hf it (by simp)
    have hi : n ≤ i := hg
    have ei : i = n := Nat.le_antisymm st.1 hi
    subst ei
    have e : (i : Int) - 1 - (i : Int) = -1 := by omega
    have hit := st.2
    rw [e] at hit
    exact wpAny_pyNext_rev_end (I.ok.hd hc) hit fun h' eb => ⟨rfl, I.turned (t' := s.toks) (fun b o hb e => eb b o hb e) f0 f1 f3 f4 f5⟩
  self := fun _ _ _ _ _ st h => wpAny_pyIter_revIter st.2 h
def iRev (K : PySem.W.Frag) (ta : TA) : TI := fun σ H R => ta σ H fun vs H1 => match vs with
  | [.ref a] => ∃ xs, SqL K H1 a xs ∧ R (Itv K a xs.length) H1
  | _ => False
section
variable {X : Cx} {tg : Expr}
theorem pi_rev {a : Expr} {ta : TA} {p pos : Pos} (hm : Gb X.mg "reversed") (ha : PA X [a] ta) (hg : Gl X "reversed" := by rfl) (hs : starEach [a] X.env = [(false, eval a X.env)] := by rfl) :
    PI X tg (.Call (.Name "reversed" p) [a] [] pos) (iRev X.K ta) := by
  intro pins s σ H R I h
  refine Call_ (ld_blt I hg hm (u := .type "reversed") (by rfl) (PyProof.Rows.callWith_type1 (thn (ha pos pins s σ H _ I h) fun us s1 ⟨vs, H1, I1, r1, q1⟩ => ?_) hs rfl))
  dsimp only at q1
  split at q1
  · rename_i l
    obtain ⟨xs, hq, q⟩ := q1
    cases r1 with
    | cons r rr =>
      cases rr
      cases r
      obtain ⟨its, rv, p, hz⟩ := I1.list hq
      refine call_reversed_list p.isList ?_
      have hl : (its.toArray.size : Int) - 1 = (xs.length : Int) - 1 - ((0 : Nat) : Int) := by
        have := rv.length
        simp; omega
      have hit : Heap.IsRevIter (s1.heap.push (revObj l ((its.toArray.size : Int) - 1))) s1.heap.objs.size l ((xs.length : Int) - 1 - ((0 : Nat) : Int)) := ⟨_, Heap.get?_push_size _ rfl, rfl, by rw [← hl]; rfl⟩
      refine wpAny_pyIter_revIter (s := { s1 with heap := s1.heap.push (revObj l ((its.toArray.size : Int) - 1)) }) hit ?_
      refine ⟨s1.heap.objs.size, [s1.heap.objs.size], _, _, H1, rfl, I1.kept (t' := s1.toks) fun b o e => Heap.get?_push_of_some _ e, turn_rev l _ xs.length, ⟨Nat.zero_le _, hit⟩, fun b hb => ?_, q⟩
      have e : b = s1.heap.objs.size := by simpa using hb
      subst e
      exact I1.fpOk (Nat.le_refl _) (I1.hok.fresh (Nat.le_refl _))
  · exact q1.elim
end
section
variable {K : PySem.W.Frag} {E : XK} {α β : Type} {L : List Sl} {T : Ty α}
theorem ei_rev {r : Mo (List α)} {ta : TA} (h : EvA K ta E L r (csLast (tyL T))) : EvI K (iRev K ta) E L (r.bind fun l => .ok l.reverse) T := by
  intro σ F H R hL hs q
  refine h σ F H _ hL hs (q.bind.imp fun l F1 H1 x1 k1 vs hv => ?_)
  obtain ⟨v, rfl, p, us, rfl, hp, hr⟩ := hv
  have hlen : l.length = us.length := hr.len
  refine ⟨us, .of (x1.2.1 _ _ hp), k1.ok x1.2.1 _ ⟨fun i H x hH hx => ?_, fun H hH => ?_⟩⟩
  · obtain ⟨hi, _⟩ := List.getElem?_eq_some_iff.mp hx
    rw [List.length_reverse] at hi
    rw [List.getElem?_reverse hi] at hx
    rcases hr.get (l.length - 1 - i) with ⟨a, _⟩ | ⟨y, u, a, b, c⟩
    · rw [a] at hx; cases hx
    · rw [a] at hx; cases hx
      refine ⟨⟨us, .of (hH _ _ hp), rfl, by omega⟩, ?_⟩
      rintro v H' ⟨rfl, z⟩ F hF hF'
      have e := z us (.of (hH _ _ hp))
      rw [← hlen, b] at e; cases e
      exact ⟨F, .refl hF', T.mono hF c⟩
  · show us.length ≤ _
    rw [List.length_reverse, hlen]; exact Nat.le_refl _
end
def mSetD (td ty tz : TE) : TE := fun σ H Q => td σ H fun x H1 => (match x with | .ref a => ∃ kvs, H1 a = some (.dK kvs) | _ => False) ∧ ty σ H1 fun y H2 => tz σ H2 fun z H3 => atD x y H3 fun a kvs k =>
  match valV kvs k with | some v => Q v H3 | none => kvs.length < sizeLine ∧ Q z (upd H3 a (.dK (putK kvs k z)))
section
variable {X : Cx} {o e f : Expr} {apos cpos : Pos} {td ty tz : TE}
theorem pe_setdM (hu : X.A.units + 60 < cLine) (ho : PE X o td) (he : PE X e ty) (hf : PE X f tz) (m : M2 X o "setdefault" apos e f cpos := by exact ⟨rfl, rfl, rfl, rfl⟩) : PE X (.Call (.Attribute o "setdefault" apos) [e, f] [] cpos) (mSetD td ty tz) := by
  intro pins s σ H Q I h
  refine wpAny_Call_method m.base m.few m.line PySem.F.plainAttrs_dict PySem.F.slot_dict_setdefault PySem.F.type_dict_setdefault (thn (ho pins s σ H _ I h) fun u s1 ⟨x, H1, I1, rx, hx, q1⟩ => ?_)
  cases x with
  | ref a =>
    obtain ⟨kvs0, hd0⟩ := hx
    obtain rfl : u = Value.ref a := rx
    obtain ⟨t1, t2, _⟩ := isD_at I1 (.inl ⟨kvs0, .inl hd0⟩)
    refine ⟨t1, t2, ?_⟩
    rw [m.trees]
    refine Calls.callWith_builtin rfl (Calls.evalArgs_plain (Calls.spliced_cons (thn (he pins s1 σ H1 _ I1 q1) fun iv s2 ⟨y, H2, I2, ry, q2⟩ =>
      Calls.spliced_cons (thn (hf pins s2 σ H2 _ I2 q2) fun fv s3 ⟨z, H3, I3, rz, q3⟩ => Calls.spliced_nil ?_))))
    obtain ⟨a', kvs, k, ea, rfl, hd, q⟩ := atD_of q3
    cases ea
    obtain ⟨hz, hsys, vs, rel, dd⟩ := dk_of I3.hok hd
    have hzv : vs.length ≤ sizeLine := by rw [← rel.length]; exact hz
    have rk := rel.val k
    refine call_meetsIn PySem.F.slot_dict_setdefault dd.typeIs PySem.F.entry_dict_setdefault (PySem.F.args_dict_setdefault_3 _ _ _) (kt_meets_setdefault (mixKind X.prog X.w) a (kV_is ry) hsys fv) ⟨vs, dd, hzv, fun v hv => ?_, fun hn h' dd' hs => ?_⟩
    · rw [hv] at rk
      cases g : valV kvs k with
      | none => rw [g] at rk; exact rk.elim
      | some v0 => rw [g] at rk q; exact ⟨v0, H3, I3.tok _, rk, q⟩
    · rw [hn] at rk
      cases g : valV kvs k with
      | some v0 => rw [g] at rk; exact rk.elim
      | none =>
        rw [g] at q
        have hl : (putK kvs k z).length ≤ sizeLine := by have := length_putK kvs k z; have := q.1; omega
        have hq : ∃ q, h'.get? a = some q := let ⟨q, _, _, hq, _⟩ := dd'; ⟨q, hq⟩
        exact ⟨z, _, d_write I3 (by rw [hd]; exact True.intro) hs hq (dk_new hl hsys (rel.put k rz) dd'), rz, q.2⟩
  | _ => exact hx.elim
end
section
variable {K : PySem.W.Frag} {E : XK} {α β γ ρ κ S B : Type} {F0 H0 F h H : Hp} {L : List Sl} {T : Ty α} {O : Own ρ} {t u : TS} {LS : S → List Sl} {LB : B → List Sl} {KY : KyT κ} [DecidableEq κ]
def sdA (m : List (κ × α)) (k : κ) (d : α) : α × List (κ × α) := match getA m k with | some a => (a, m) | none => (d, putA m k d)
theorem s_ifSd {i : Nat} {m : List (κ × α)} {rk : Mo κ} {rv : Mo α} {rc : α × List (κ × α) → Mo α} {ek ev ec : TE} {R : R2} {g : α → α → Mo Bool} {r1 r2 : α × List (κ × α) → Mo (Out ρ B S)}
    (hi : L[i]? = some (.ow (owD KY T) m)) (hT : Imm T) (hKT : Imm KY.T) (hk : EvF K ek E L rk KY.T) (hv : EvF K ev E L rv T) (hop : Op2 K R E T T g tyBl)
    (hc : ∀ q : α × List (κ × α), EvF K ec E (L.set i (.ow (owD KY T) q.2)) (rc q) T) (h1 : ∀ q : α × List (κ × α), EvS K t E (L.set i (.ow (owD KY T) q.2)) (r1 q) LS LB O) (h2 : ∀ q : α × List (κ × α), EvS K u E (L.set i (.ow (owD KY T) q.2)) (r2 q) LS LB O) :
    EvS K (mIfS (mTest (tOp R (mSetD (mVar i) ek ev) ec)) t u) E L (rk.bind fun k => rv.bind fun d => .lim (m.length + 1) ((Mo.ok (sdA m k d)).bind fun q => (rc q).bind fun c => (g q.1 c).bind fun b => if b then r1 q else r2 q)) LS LB O := by
  intro F0 H0 σ F h H D hL ok fin
  obtain ⟨p, kvs, e1, hp, hr, _⟩ := hold_mutD hL hi ok
  show mVar i σ H fun x H1 => (match x with | .ref a => ∃ kvs, H1 a = some (.dK kvs) | _ => False) ∧ ek σ H1 fun y H2 => ev σ H2 fun z H3 => atD x y H3 fun a kvs k =>
    match valV kvs k with
    | some v => ec σ H3 fun w H4 => R v w H4 fun x H5 => match x with | .bl k => br k (t D σ H5) (u D σ H5) | _ => False
    | none => kvs.length < sizeLine ∧ ec σ (upd H3 a (.dK (putK kvs k z))) fun w H4 => R z w H4 fun x H5 => match x with | .bl k => br k (t D σ H5) (u D σ H5) | _ => False
  refine mvar_at e1 ⟨⟨kvs, hp⟩, ?_⟩
  refine hk σ (un F h) H _ (hL.froz ok.2.1) ok.thaw (fin_ok (G := F) ok _ (.inl rfl) fin fun y F1 H1 hry x1 v1 hv1 => ?_)
  obtain ⟨o, hs, ht⟩ := ok.back x1
  rw [hry] at fin
  have hL' := hL.mono hs
  have hv1' := hKT ht hv1
  refine hv σ (un _ h) H1 _ (hL'.froz o.2.1) o.thaw (fin_ok (G := F) o _ (.inl rfl) fin fun d F2 H2 hrd x2 v2 hv2 => ?_)
  obtain ⟨o', hs', ht'⟩ := o.back x2
  rw [hrd] at fin
  obtain ⟨hz, fin⟩ := fin_lim (show Fin K (Mo.lim (m.length + 1) ((Mo.ok (sdA m y d)).bind fun q => (rc q).bind fun c => (g q.1 c).bind fun b => if b then r1 q else r2 q)) E LS LB O F0 H0 D from fin)
  have hL2 := hL'.mono hs'
  obtain ⟨p', kvs', e1', hp', hr', mm⟩ := hold_mutD hL2 hi o'
  rw [e1] at e1'; cases e1'
  have hv2' := hT ht' hv2
  have tail : ∀ (q : α × List (κ × α)) (va : V) (h' H' : Hp), sdA m y d = q → Hold (L.set i (.ow (owD KY T) q.2)) σ (less F2 h) h' → Okk F0 H0 (less F2 h) h' H' → T.R q.1 va (less F2 h) →
      ec σ H' fun w H3 => R va w H3 fun x H4 => match x with | .bl k => br k (t D σ H4) (u D σ H4) | _ => False := by
    intro q va h' H' hq hLq okq hva
    have fq : Fin K ((rc q).bind fun c => (g q.1 c).bind fun b => if b then r1 q else r2 q) E LS LB O F0 H0 D := by rw [← hq]; exact fin
    refine hc q σ (un _ h') H' _ (hLq.froz okq.2.1) okq.thaw (fin_ok (G := F) okq _ (.inl rfl) fq fun c F3 H3 hrc x3 w hw => ?_)
    obtain ⟨o3, hs3, ht3⟩ := okq.back x3
    rw [hrc] at fq
    have fq' : Fin K ((g q.1 c).bind fun b => if b then r1 q else r2 q) E LS LB O F0 H0 D := fq
    refine hop q.1 c va w _ H3 _ o3.1.2.1 (T.mono hs3 hva) (hT ht3 hw) (fin_ok (G := F) o3 _ (.inr rfl) fq' fun b F4 H4 hrb x4 v4 hv4 => ?_)
    cases hv4
    rw [hrb] at fq'
    have f4 : Fin K (if b then r1 q else r2 q) E LS LB O F0 H0 D := fq'
    have L4 := (hLq.mono hs3).mono x4.1
    have o4 := o3.cold x4
    refine ⟨fun z => ?_, fun z => ?_⟩
    · rw [if_pos z] at f4; exact h1 q F0 H0 σ _ h' H4 D L4 o4 f4
    · rw [if_neg (by rw [z]; decide)] at f4; exact h2 q F0 H0 σ _ h' H4 D L4 o4 f4
  unfold atD
  simp only
  rw [KY.of (KY.T.mono hs' hv1')]
  refine ⟨kvs', hp', ?_⟩
  rcases dpr_get hr' y with ⟨g1, g2⟩ | ⟨a, va, g1, g2, g3⟩
  · rw [g2]
    obtain ⟨h', a1, a2⟩ := mm (putA m y d) (putK kvs' (KY.key y) v2) (dpr_put hr' y hv2')
    refine ⟨?_, tail (d, putA m y d) v2 h' _ (by unfold sdA; rw [g1]) a1 a2 hv2'⟩
    have := Paired.length hr'
    omega
  · rw [g2]
    refine tail (a, m) va h H2 (by unfold sdA; rw [g1]) ?_ o' g3
    show Hold (L.set i (.ow (owD KY T) m)) σ (less F2 h) h
    rw [set_selfU hi]; exact hL2
end
end L2
namespace L2
open PySem PySem.Spec PyProof.Rows
section
variable {X : Cx} {pins : List (Addr × Obj)} {σ : St} {H : Hp} {s : Shared} {d : Addr} {o : Obj} {kvs : List (Key × V)}
theorem ok_frz {P : Program} {w : World} {h : Heap} {a : Addr} {u v v' : HO} (hd : H d = some v) (h1 : ∀ x, v ≠ .own x) (h2 : ∀ xs, v ≠ .tup xs) (q : ObjOk P w H h a u) : ObjOk P w (upd H d v') h a u :=
  q.stay (fun _ _ _ e => e) (fun b e => by rw [upd_ne (fun z => by rw [z, hd] at e; cases e; exact h1 _ rfl)]; exact e) fun b xs e => by rw [upd_ne (fun z => by rw [z, hd] at e; cases e; exact h2 _ rfl)]; exact e
theorem Inv.frzD (I : Inv X pins σ H s) (hd : H d = some (.dK kvs)) (ho : s.heap.get? d = some o) : Inv X pins σ (upd H d (.frz o (.dK kvs))) s :=
  I.write (x := d) (e := d) (o := .frz o (.dK kvs)) (t' := s.toks) (h' := s.heap) (by rw [hd]; exact True.intro) (.inl rfl) (fun _ _ _ e => e) ⟨o, ho⟩ ⟨ho, ok_frz hd (fun _ z => by cases z) (fun _ z => by cases z) (I.hok d _ hd)⟩
def Zf (X : Cx) (d : Addr) : Prop := ∀ o u, X.H₀ d ≠ some (.frz o u)
theorem Inv.thawD (I : Inv X pins σ H s) (hd : H d = some (.frz o (.dK kvs))) (hn : Zf X d) : Inv X pins σ (upd H d (.dK kvs)) s := by
  have ne : ∀ b u, H b = u → u ≠ some (.frz o (.dK kvs)) → b ≠ d := fun b u e z y => z (by rw [← e, y]; exact hd)
  refine ⟨I.ok, I.os, I.bare, ⟨I.base.keep, I.base.slot, fun b q e n hx => ?_, I.base.there, fun b xs e => ?_, fun b q u e => ?_, fun b ps e => ?_⟩, I.loc, I.cell, ?_, fun x c e => ?_, fun p hp => ?_, fun a u e => ?_, I.len⟩
  · have := I.base.free b q e n hx
    rw [upd_ne (ne b _ this (by simp))]; exact this
  · have := I.base.tups b xs e
    rw [upd_ne (ne b _ this (fun z => by cases z))]; exact this
  · have := I.base.frzs b q u e
    rw [upd_ne (fun z => hn q u (by rw [← z]; exact e))]; exact this
  · obtain ⟨m, e'⟩ := I.base.tbls b ps e
    exact ⟨m, by rw [upd_ne (ne b _ e' (fun z => by cases z))]; exact e'⟩
  · rw [upd_ne (ne _ _ I.free (by simp))]; exact I.free
  · have := I.freeC x c e
    rw [upd_ne (ne _ _ this (by simp))]; exact this
  · obtain ⟨a1, a2, a3⟩ := I.pin p hp
    exact ⟨a1, by rw [upd_ne (ne _ _ a2 (by simp))]; exact a2, a3⟩
  · by_cases z : a = d
    · subst z
      rw [upd_same] at e; cases e
      exact ok_frz hd (fun _ z => by cases z) (fun _ z => by cases z) (I.hok a _ hd).2
    · rw [upd_ne z] at e
      exact ok_frz hd (fun _ z => by cases z) (fun _ z => by cases z) (I.hok a u e)
end
theorem paired_get {α β : Type} {R : α → β → Prop} : ∀ {xs : List α} {ys : List β}, Paired R xs ys → ∀ i : Nat, (xs[i]? = none ∧ ys[i]? = none) ∨ ∃ x y, xs[i]? = some x ∧ ys[i]? = some y ∧ R x y
  | _, _, .nil, _ => .inl ⟨rfl, rfl⟩
  | _, _, .cons r t, 0 => .inr ⟨_, _, rfl, rfl, r⟩
  | _, _, .cons r t, i + 1 => by simpa using paired_get t i
def Iti (d : Addr) (o : Obj) (kvs : List (Key × V)) : It :=
  ⟨fun i H => H d = some (.frz o (.dK kvs)) ∧ i < kvs.length, fun i H y H' => ∃ p q, kvs[i]? = some q ∧ H p = none ∧ y = .ref p ∧ H' = upd H p (.tup [kV q.1, q.2]), fun i H => H d = some (.frz o (.dK kvs)) ∧ kvs.length ≤ i⟩
theorem kV_of {P : Program} {w : World} {k : Key} {u : Value} (h : (mixKind P w).is k u = true) : RelV (kV k) u := by
  cases k with
  | inl i => exact Value.isInt_shape h
  | inr x => exact Value.isStrOf_shape h
theorem turn_itm {P : Program} {w : World} {K : PySem.W.Frag} {elts : List Expr} {kk : Nat} {pos : Pos} (it d : Addr) (o : Obj) (kvs : List (Key × V)) (ep : Nat) (hep : ∃ es, o.data = .dict es ep) :
    Turn P w K (.Tuple elts kk pos) (Iti d o kvs) [it] it (fun i h => ∃ ok ov, IsItemIter h it d i kvs.length ep ok ov) where
  mem := by simp
  obj := fun i h st b hb => by
    have e : b = it := by simpa using hb
    subst e
    obtain ⟨ok, ov, he⟩ := st
    exact ⟨_, he, fun v z => by cases z⟩
  keep := fun i h h' st k => by
    obtain ⟨ok, ov, he⟩ := st
    exact ⟨ok, ov, k it (by simp) _ he⟩
  item := by
    intro X hP hw hK hc i pins s σ H E I hf st hg
    subst hP hw hK
    obtain ⟨hd, hi⟩ := hg
    obtain ⟨ok, ov, he⟩ := st
    obtain ⟨hod, z, hsys, vs, rel, dd⟩ := (show ObjOk X.prog X.w H s.heap d (.frz o (.dK kvs)) from I.hok d _ hd)
    have hl : kvs.length = vs.length := rel.length
    obtain ⟨ep', hat⟩ := dd.dictAt
    obtain ⟨es, hes⟩ := hep
    have e : ep' = ep := by
      obtain ⟨o2, es2, h1, h2, h3, _⟩ := hat
      rw [hod] at h1; cases h1
      rw [hes] at h3; cases h3; rfl
    subst e
    rcases paired_get rel i with ⟨a, _⟩ | ⟨q, qv, hq, hqv, r1, r2⟩
    · have := List.getElem?_eq_none_iff.mp a; omega
    rw [hl] at he
    refine wpAny_pyNext_items_item he hat (k := qv.1) (v := qv.2) hqv fun key h1 hkey hout htup hsz hk => ?_
    refine ⟨_, rfl, ?_⟩
    refine wpAny_letOwnedTupleGo_items (s := { s with heap := h1 }) hout fun h2 he2 hs2 => ?_
    replace hs2 : Heap.SameBut it h1 h2 := hs2
    have hit : it < s.heap.objs.size := Heap.lt_size he
    have hp : H s.heap.objs.size = none := I.hok.fresh (Nat.le_refl _)
    have hni : s.heap.objs.size ≠ it := Nat.ne_of_gt hit
    have I1 : Inv X pins σ (upd H s.heap.objs.size (.tup [kV q.1, q.2])) { s with heap := s.heap.push { cls := .type "tuple", data := .seq #[key, qv.2] } } := by
      refine I.laid (t' := s.toks) (fun b u q => Heap.get?_push_of_some _ q) (Nat.le_refl _) ⟨?_, [key, qv.2], .cons (by rw [r1]; exact kV_of hkey) (.cons r2 .nil), ⟨_, Heap.get?_push_size _ rfl, rfl, _, rfl⟩⟩
      show 2 ≤ sizeLine
      decide
    have hf1 : ∀ b ∈ [it], FpOk X pins (upd H s.heap.objs.size (.tup [kV q.1, q.2])) b := fun b hb => by
      obtain ⟨f0, r⟩ := hf b hb
      have e : b = it := by simpa using hb
      exact ⟨by rw [upd_ne (by rw [e]; exact hni.symm)]; exact f0, r⟩
    have I2 : Inv X pins σ (upd H s.heap.objs.size (.tup [kV q.1, q.2])) { s with heap := h2 } := by
      refine Inv.turnedL (s := { s with heap := s.heap.push { cls := .type "tuple", data := .seq #[key, qv.2] } }) (t' := s.toks) (ch := [it]) I1 (fun b o hb q => ?_) hf1
      have nbi : b ≠ it := fun z => hb (by simp [z])
      refine (hs2.2 b nbi).trans ?_
      rcases Heap.get?_push_cases q with ⟨rfl, rfl⟩ | q'
      · exact htup
      · exact hk b o nbi q'
    rw [← hl] at he2
    exact ⟨.ref s.heap.objs.size, _, I2, rfl, ⟨_, q, hq, hp, rfl, rfl⟩, ⟨key, qv.2, he2⟩, fun b hb => (hf1 b hb).1⟩
  done := by
    intro X hP hw hK hc i pins s σ H E I hf st hg
    subst hP hw hK
    obtain ⟨hd, hi⟩ := hg
    obtain ⟨ok, ov, he⟩ := st
    obtain ⟨hod, z, hsys, vs, rel, dd⟩ := (show ObjOk X.prog X.w H s.heap d (.frz o (.dK kvs)) from I.hok d _ hd)
    have hl : kvs.length = vs.length := rel.length
    obtain ⟨ep', hat⟩ := dd.dictAt
    obtain ⟨es, hes⟩ := hep
    have e : ep' = ep := by
      obtain ⟨o2, es2, h1, h2, h3, _⟩ := hat
      rw [hod] at h1; cases h1
      rw [hes] at h3; cases h3; rfl
    subst e
    obtain ⟨f0, f1, f2, f3, f4, f5⟩ := hf it (by simp)
    rw [hl] at he
    exact wpAny_pyNext_items_end (I.ok.hd hc) he hat (List.getElem?_eq_none (by omega)) fun h' eb => ⟨rfl, I.turned (t' := s.toks) (fun b o hb e => eb b o hb e) f0 f1 f3 f4 f5⟩
  self := fun A i s Q E st h => by
    obtain ⟨ok, ov, he⟩ := st
    exact PySem.W.kcp_self he h
def iItm (Z : Addr → Prop) (te : TE) : TI := fun σ H R => te σ H fun x H1 => match x with
  | .ref d => ∃ kvs, H1 d = some (.dK kvs) ∧ ∀ o, Z d → R (Iti d o kvs) (upd H1 d (.frz o (.dK kvs)))
  | _ => False
structure M0 (X : Cx) (o : Expr) (m : Str) (apos : Pos) (cpos : Pos) : Prop where
  base : attributeBase o m X.env (eval o X.env) = eval o X.env
  few : ((backTo cpos (starEach [] X.env)).all (fun x => !x.1) && (backToKw cpos (keywordEach [] X.env)).all (fun x => x.1.isSome) && decide (([] : List Expr).length + ([] : List Keyword).length + (if ([] : List Keyword).isEmpty then 0 else 1) < 30)) = true
  line : (apos.endLine == cpos.line) = true
  trees : backTo cpos (starEach [] X.env) = []
section
variable {X : Cx} {e : Expr} {te : TE} {apos cpos pos tpos : Pos} {elts : List Expr} {kk : Nat}
theorem pi_itm (he : PE X e te) (m : M0 X e "items" apos cpos) : PI X (.Tuple elts kk tpos) (.Call (.Attribute e "items" apos) [] [] cpos) (iItm (Zf X) te) := by
  intro pins s σ H R I h
  refine wpAny_Call_method m.base m.few m.line PySem.F.plainAttrs_dict PySem.F.slot_dict_items PySem.F.type_dict_items (thn (he pins s σ H _ I h) fun u s1 ⟨x, H1, I1, rx, hx⟩ => ?_)
  cases x with
  | ref d =>
    obtain ⟨kvs, hd, q⟩ := hx
    obtain rfl : u = Value.ref d := rx
    obtain ⟨t1, t2, hsys⟩ := isD_at I1 (.inl ⟨kvs, .inl hd⟩)
    refine ⟨t1, t2, ?_⟩
    rw [m.trees]
    refine Calls.callWith_builtin rfl (PySem.evalArgs_none ?_)
    obtain ⟨z, hsys, vs, rel, dd⟩ := dk_of I1.hok hd
    refine call_meetsIn PySem.F.slot_dict_items dd.typeIs PySem.F.entry_dict_items (PySem.F.args_dict_items_1 _) (meets_dict_items (mixKind X.prog X.w) d hsys) ⟨⟨vs, dd⟩, ?_⟩
    obtain ⟨ep, hat⟩ := dd.dictAt
    obtain ⟨od, es, hod, hc1, hdat, hc2⟩ := id hat
    have hz : Zf X d := fun o u z => by have := I1.base.frzs d o u z; rw [hd] at this; cases this
    have I2 := I1.frzD hd hod
    have I3 : Inv X pins σ (upd H1 d (.frz od (.dK kvs))) { s1 with heap := s1.heap.push { cls := .type "dict_items", data := .fields #[.ref d] } } := I2.kept (t' := s1.toks) fun b o e => Heap.get?_push_of_some _ e
    refine wpAny_pyIter_items (s := { s1 with heap := s1.heap.push { cls := .type "dict_items", data := .fields #[.ref d] } }) (kvs := vs) (ep := ep) ⟨_, Heap.get?_push_size _ rfl, rfl, rfl⟩ (hat.push _) ?_
    have hl : kvs.length = vs.length := rel.length
    refine ⟨_, [_], _, Iti d od kvs, _, rfl, I3.kept (t' := s1.toks) fun b o e => Heap.get?_push_of_some _ e, turn_itm _ d od kvs ep ⟨es, hdat⟩, ⟨.none, .none, ?_⟩, fun b hb => ?_, q od hz⟩
    · rw [hl]; exact Heap.get?_push_size _ rfl
    · have e := List.mem_singleton.mp hb
      subst e
      exact I3.fpOk (Nat.le_refl _) (I3.hok.fresh (Nat.le_refl _))
  | _ => exact hx.elim
def thawE (Z : Addr → Prop) (D : Ends) : Ends :=
  { nx := fun σ H => ∃ d o kvs, Z d ∧ H d = some (.frz o (.dK kvs)) ∧ D.nx σ (upd H d (.dK kvs)), rt := fun v H => ∃ d o kvs, Z d ∧ H d = some (.frz o (.dK kvs)) ∧ D.rt v (upd H d (.dK kvs)) }
def mForD (te : TE) (g : TG) (tb : TS) : TS := fun D σ H => ∀ Z, tFor (iItm Z te) g tb (thawE Z D) σ H
theorem ps_forD {body : List Stmt} {g : TG} {tb : TS} (hp : PassesOwn (model X.prog X.w) X.A X.env X.xe) (hc : X.calm = true) (he : PE X e te) (hg : PG X (.Tuple elts kk tpos) g) (hb : PSs X body tb) (m : M0 X e "items" apos cpos := by exact ⟨rfl, rfl, rfl, rfl⟩)
    (hs : ∀ x, foldedSetIterable (.Call (.Attribute e "items" apos) [] [] cpos) X.env x = pure x := by intro _; rfl) :
    PS X (.For (.Tuple elts kk tpos) (.Call (.Attribute e "items" apos) [] [] cpos) body [] pos) (mForD te g tb) := by
  intro pins s σ H D I h
  refine thn (ps_for hp hc (pi_itm he m) hg hb hs pins s σ H (thawE (Zf X) D) I (h (Zf X))) fun f s' q => ?_
  cases f with
  | next => obtain ⟨σ', H', I', d, o, kvs, z, hd, q⟩ := q; exact ⟨σ', _, I'.thawD hd z, q⟩
  | ret u => obtain ⟨v, σ', H', I', r, d, o, kvs, z, hd, q⟩ := q; exact ⟨v, σ', _, I'.thawD hd z, r, q⟩
  | brk => obtain ⟨_, _, _, q⟩ := q; exact q.elim
  | cont => obtain ⟨_, _, _, q⟩ := q; exact q.elim
end
inductive SubI : List Sl → List Sl → Prop
  | nil : SubI [] []
  | dead {s : Sl} {L L' : List Sl} (h : SubI L L') : SubI (s :: L) (.dead :: L')
  | imm {α : Type} {T : Ty α} {a : α} {L L' : List Sl} (i : Imm T) (h : SubI L L') : SubI (.fz T a :: L) (.fz T a :: L')
abbrev hpE : Hp := fun _ => none
theorem SubI.hold {L L' : List Sl} (w : SubI L L') : ∀ {σ : St} {F F' h : Hp}, Tups F F' → Hold L σ F h → Hold L' σ F' hpE := by
  induction w with
  | nil =>
    intro σ F F' h g q
    cases σ with
    | nil => trivial
    | cons o σ => exact q.elim
  | dead _ ih =>
    intro σ F F' h g q
    cases σ with
    | nil => exact q.elim
    | cons o σ => obtain ⟨h1, h2, j, p, r⟩ := q; exact ⟨hpE, hpE, fun _ => .inl ⟨rfl, rfl⟩, trivial, ih g r⟩
  | imm i _ ih =>
    intro σ F F' h g q
    cases σ with
    | nil => exact q.elim
    | cons o σ => obtain ⟨h1, h2, j, ⟨v, e, p⟩, r⟩ := q; exact ⟨hpE, hpE, fun _ => .inl ⟨rfl, rfl⟩, ⟨v, e, i g p⟩, ih g r⟩
theorem SubI.self {L L' : List Sl} (w : SubI L L') : SubI L' L' := by
  induction w with
  | nil => exact .nil
  | dead _ ih => exact .dead ih
  | imm i _ ih => exact .imm i ih
theorem tups_upd {F : Hp} {d : Addr} {u v : HO} (hd : F d = some u) (hu : ∀ xs, u ≠ .tup xs) : Tups F (upd F d v) := fun p xs e => by
  rw [upd_ne (fun z => by rw [z, hd] at e; cases e; exact hu xs rfl)]; exact e
theorem okk_cut {F0 H0 F h H : Hp} (o : Okk F0 H0 F h H) : Okk F0 H0 F hpE H := ⟨o.1, fun _ => .inr rfl, fun _ _ z => (by cases z), fun _ z => absurd rfl z, fun _ _ z => (by cases z)⟩
section
variable {F0 H0 F1 H1 F h H : Hp} {d : Addr} {o : Obj} {u : HO}
theorem same_upd {A B : Hp} (h : Same A B) {v : HO} : Same (upd A d v) (upd B d v) := fun p w e => by
  unfold upd at e ⊢
  split
  · rename_i z; rw [if_pos z] at e; exact e
  · rename_i z; rw [if_neg z] at e; exact h _ _ e
theorem okk_thaw (x : Ext F0 H0 F1 H1) (hd : F1 d = some u) (ok : Okk (upd F1 d (.frz o u)) (upd H1 d (.frz o u)) F h H) : F d = some (.frz o u) ∧ H d = some (.frz o u) ∧ Okk F0 H0 (upd F d u) h (upd H d u) := by
  obtain ⟨⟨o1, o2, o3, o4⟩, o5, o6, o7, o8⟩ := ok
  have e1 : F d = some (.frz o u) := o1 _ _ upd_same
  have e2 : H d = some (.frz o u) := o2 _ _ e1
  have hh : h d = none := by
    rcases o5 d with z | z
    · rw [e1] at z; cases z
    · exact z
  have hd1 : H1 d = some u := x.2.1 _ _ hd
  have frees : ∀ p, H1 p = none → H0 p = none := fun p z => x.2.2.1.free z
  refine ⟨e1, e2, ⟨fun p w e => ?_, same_upd o2, fun p w e => ?_, fun p a b => ?_⟩, fun p => ?_, fun p w e => ?_, fun p z => ?_, o8⟩
  · by_cases z : p = d
    · subst z
      have := x.1 _ _ e
      rw [hd] at this; cases this; exact upd_same
    · rw [upd_ne z]; exact o1 _ _ (by rw [upd_ne z]; exact x.1 _ _ e)
  · by_cases z : p = d
    · subst z
      have := x.2.2.1 _ _ e
      rw [hd1] at this; cases this; exact upd_same
    · rw [upd_ne z]; exact o3 _ _ (by rw [upd_ne z]; exact x.2.2.1 _ _ e)
  · by_cases z : p = d
    · subst z
      exact x.2.2.2 p a (by rw [hd]; exact Option.some_ne_none _)
    · rw [upd_ne z] at b
      cases y : F1 p with
      | some w => exact x.2.2.2 p a (by rw [y]; exact Option.some_ne_none _)
      | none =>
        have := o4 p (by rw [upd_ne z]; exact y) b
        rw [upd_ne z] at this
        exact frees p this
  · by_cases z : p = d
    · subst z; exact .inr hh
    · rw [upd_ne z]; exact o5 p
  · by_cases z : p = d
    · subst z; rw [hh] at e; cases e
    · rw [upd_ne z]; exact o6 _ _ e
  · by_cases y : p = d
    · subst y; exact absurd hh z
    · have := o7 p z
      rw [upd_ne y] at this
      exact frees p this
end
section
variable {K : PySem.W.Frag} {E : XK} {α β γ ρ κ S B : Type} {L Li : List Sl} {T : Ty α} {O : Own ρ} {LB : B → List Sl} {KY : KyT κ}
theorem s_forD {te : TE} {g : TG} {tb : TS} {r : Mo (List (κ × α))} {ss : κ × α → List (Nat × Sl)} {step : κ × α → Mo (Out ρ Unit Unit)} (hT : Imm T) (hKT : Imm KY.T) (hkv : ∀ k F, KY.T.R k (kV (KY.key k)) F) (hi : EvF K te E (L.map Sl.cold) r (tyD KY T))
    (hg : TgR K g (tyTup (csCons KY.T (csLast T))) ss) (hs : SubI L Li) (hO : ImmO O) (hb : ∀ a, EvS K tb E (setL Li (ss a)) (step a) (fun _ : Unit => Li) (fun _ : Unit => Li) O) :
    EvS K (mForD te g tb) E L (r.bind fun m => forO (fun (_ : Unit) a => (step a).noex) m ()) (fun _ : Unit => Li) LB O := by
  intro F0 H0 σ F h H D hL ok fin Z
  refine hi σ F H _ hL.coldF ok.1.2.1 (fin_ok (G := F) ok _ (.inr rfl) fin fun m F1 H1 hr x1 v hv => ?_)
  rw [hr] at fin
  obtain ⟨d, kvs, rfl, hd, hp⟩ := hv
  have xx := ok.1.trans x1
  have hd1 : H1 d = some (.dK kvs) := x1.2.1 _ _ hd
  have hlen : m.length = kvs.length := Paired.length hp
  refine ⟨kvs, hd1, fun o hz => ?_⟩
  have tF : Tups F (upd F1 d (.frz o (.dK kvs))) := fun p xs e => tups_upd hd (fun _ z => by cases z) p xs (x1.1 _ _ e)
  have tb0 : ∀ {F'}, F' d = some (.frz o (.dK kvs)) → Tups F' (upd F' d (.dK kvs)) := fun e => tups_upd e fun _ z => by cases z
  refine ⟨fun i n σ H => n = kvs.length - i ∧ i ≤ kvs.length ∧ ∃ F h, Hold Li σ F h ∧ Okk (upd F1 d (.frz o (.dK kvs))) (upd H1 d (.frz o (.dK kvs))) F h H ∧ Fin K (forO (B := B) (fun (_ : Unit) a => (step a).noex) (m.drop i) ()) E (fun _ : Unit => Li) LB O F0 H0 D,
    ⟨_, rfl, Nat.zero_le _, _, hpE, hs.hold tF hL, okk_start (same_upd x1.2.1), fin⟩, ?_⟩
  rintro i n σ H ⟨rfl, hi, F, h, hL, ok, fin⟩
  obtain ⟨e1, e2, okt⟩ := okk_thaw xx hd ok
  by_cases hlt : i < kvs.length
  · right
    have hlm : i < m.length := by omega
    refine ⟨⟨e2, hlt⟩, fun σ' H' => i + 1 ≤ kvs.length ∧ ∃ F h, Hold Li σ' F h ∧ Okk (upd F1 d (.frz o (.dK kvs))) (upd H1 d (.frz o (.dK kvs))) F h H' ∧ Fin K (forO (B := B) (fun (_ : Unit) a => (step a).noex) (m.drop (i + 1)) ()) E (fun _ : Unit => Li) LB O F0 H0 D,
      fun σ' H' z => ⟨kvs.length - (i + 1), by omega, rfl, z⟩, ?_⟩
    rintro v H2 ⟨p, q, hq, hp2, rfl, rfl⟩
    have x2 := Ext.new (o := .tup [kV q.1, q.2]) ok.1.2.1 hp2
    rcases paired_get hp i with ⟨a, _⟩ | ⟨y, q', hy, hq', r1, r2⟩
    · have := List.getElem?_eq_none_iff.mp a; omega
    rw [hq] at hq'; cases hq'
    have hy' : m[i] = y := by have := List.getElem?_eq_getElem hlm; rw [hy] at this; exact (Option.some.inj this).symm
    have t1 : Tups F1 (upd F p (.tup [kV q.1, q.2])) := fun b xs e => x2.1 _ _ (ok.1.1 _ _ (tups_upd hd (fun _ z => by cases z) b xs e))
    refine hg y (.ref p) σ _ _ _ x2.2.1 ⟨p, _, rfl, upd_same, _, _, rfl, by rw [r1]; exact hkv _ _, _, rfl, hT t1 r2⟩ fun vs hpl => ?_
    refine hb y (upd F1 d (.frz o (.dK kvs))) (upd H1 d (.frz o (.dK kvs))) _ _ h _ _ (hold_plain hpl (hL.mono x2.1)) (ok.cold x2) ?_
    rw [List.drop_eq_getElem_cons hlm, hy'] at fin
    unfold forO at fin
    cases e : step y with
    | no => rw [e] at fin; exact fin
    | ex c => rw [e] at fin; exact fin.elim
    | ok w =>
      rw [e] at fin
      cases w with
      | nx s' => exact fun σ' F' h' H' hL' ok' => ⟨hlt, F', h', hL', ok', fin⟩
      | ct s' => exact fun σ' F' h' H' hL' ok' => ⟨hlt, F', h', hL', ok', fin⟩
      | bk s' =>
        intro σ' F' h' H' hL' ok'
        obtain ⟨a1, a2, a3⟩ := okk_thaw xx hd ok'
        exact ⟨d, o, kvs, hz, a2, fin σ' _ hpE _ (hs.self.hold (tb0 a1) hL') (okk_cut a3)⟩
      | rt a =>
        intro v F' h' H' ok' ho
        obtain ⟨a1, a2, a3⟩ := okk_thaw xx hd ok'
        exact ⟨d, o, kvs, hz, a2, fin v _ h' _ a3 (hO (tb0 a1) ho)⟩
  · left
    have e : i = m.length := by omega
    rw [e, List.drop_length] at fin
    exact ⟨⟨e2, by omega⟩, d, o, kvs, hz, e2, fin σ _ hpE _ (hs.self.hold (tb0 e1) hL) (okk_cut okt)⟩
theorem nn_dict [DecidableEq κ] {a : List (κ × α)} {v : V} {F : Hp} (h : (tyD KY T).R a v F) : v ≠ .non := by obtain ⟨p, vs, rfl, _⟩ := h; exact fun z => V.noConfusion z
end
end L2
namespace K16
open PySem PySem.Spec PyProof.Rows L2
def b_law_stream (p_cell : Int) (p_many : Int) : Mo (Out (List Int) Unit Unit) :=
  (Mo.bind (Mo.ok ([] : List Int)) fun found_1 => (Mo.bind (Mo.bind (Mo.bind (Mo.ok p_cell) fun a_3 => Mo.bind (Mo.ok (2147483647 : Int)) fun b_4 => Mo.grd (0 < b_4) (Mo.ok (a_3 % b_4))) fun a_5 => Mo.bind (Mo.ok (48271 : Int)) fun b_6 => Mo.ok (a_5 + b_6)) fun number_2 => (thenO (S := (Int × (List Int))) (Mo.bind (Mo.bind (Mo.ok p_many) fun c_8 => Mo.grd (-(2 ^ 62) ≤ c_8 ∧ c_8 < 2 ^ 62) (Mo.ok (rngI 0 c_8.toNat))) fun xs_22 => forO (fun (s_7 : (Int × (List Int))) x_9 => (Mo.bind (Mo.bind (Mo.bind (Mo.bind (Mo.bind (Mo.ok s_7.1) fun a_11 => Mo.bind (Mo.ok s_7.1) fun b_12 => Mo.grd (IntMulOk a_11 b_12) (Mo.ok (a_11 * b_12))) fun a_15 => Mo.bind (Mo.bind (Mo.ok (48271 : Int)) fun a_13 => Mo.bind (Mo.ok s_7.1) fun b_14 => Mo.grd (IntMulOk a_13 b_14) (Mo.ok (a_13 * b_14))) fun b_16 => Mo.ok (a_15 + b_16)) fun a_17 => Mo.bind (Mo.ok x_9) fun b_18 => Mo.ok (a_17 + b_18)) fun a_19 => Mo.bind (Mo.ok (2147483647 : Int)) fun b_20 => Mo.grd (0 < b_20) (Mo.ok (a_19 % b_20))) fun number_10 => (Mo.bind (Mo.ok number_10) fun a_21 => Mo.lim (s_7.2.length + 1) (Mo.ok (.nx (number_10, (s_7.2 ++ [a_21]))))))) xs_22 (number_2, found_1)) fun s_7 => (Mo.ok (.rt s_7.2)))))
def f_law_stream (p_cell : Int) (p_many : Int) : Mo (List Int) := fnO (b_law_stream p_cell p_many)
def b_law_deck (p_cell : Int) (p_many : Int) (p_spread : Int) : Mo (Out (List (List Nat)) Unit Unit) :=
  (Mo.bind (Mo.ok (SG : List Nat)) fun signs_1 => (Mo.bind (Mo.bind (Mo.bind (Mo.ok p_cell) fun a_5 => Mo.bind (Mo.bind (Mo.ok (36 : Int)) fun a_3 => Mo.bind (Mo.ok p_many) fun b_4 => Mo.grd (IntMulOk a_3 b_4) (Mo.ok (a_3 * b_4))) fun c_6 => Mo.ok (a_5, c_6)) fun c_7 => Mo.noex (f_law_stream c_7.1 c_7.2)) fun numbers_2 => (Mo.bind (Mo.ok ([] : List (List Nat))) fun deck_here_8 => (thenO (S := (List (List Nat))) (Mo.bind (Mo.bind (Mo.ok p_many) fun c_10 => Mo.grd (-(2 ^ 62) ≤ c_10 ∧ c_10 < 2 ^ 62) (Mo.ok (rngI 0 c_10.toNat))) fun xs_69 => forO (fun (s_9 : (List (List Nat))) x_11 => (Mo.bind (Mo.ok ([] : List Nat)) fun text_12 => (thenO (S := (List Nat)) (Mo.bind (Mo.bind (Mo.ok (36 : Int)) fun c_14 => Mo.grd (-(2 ^ 62) ≤ c_14 ∧ c_14 < 2 ^ 62) (Mo.ok (rngI 0 c_14.toNat))) fun xs_36 => forO (fun (s_13 : (List Nat)) x_15 => (Mo.bind (Mo.bind (Mo.bind (Mo.bind (Mo.ok numbers_2) fun a_21 => Mo.bind (Mo.bind (Mo.bind (Mo.ok (36 : Int)) fun a_17 => Mo.bind (Mo.ok x_11) fun b_18 => Mo.grd (IntMulOk a_17 b_18) (Mo.ok (a_17 * b_18))) fun a_19 => Mo.bind (Mo.ok x_15) fun b_20 => Mo.ok (a_19 + b_20)) fun b_22 => Mo.opt (atI a_21 b_22)) fun a_23 => Mo.bind (Mo.ok (7 : Int)) fun b_24 => Mo.grd (CDivG a_23 b_24) (Mo.ok (a_23 / b_24))) fun a_25 => Mo.bind (Mo.ok p_spread) fun b_26 => Mo.grd (0 < b_26) (Mo.ok (a_25 % b_26))) fun step_16 => (Mo.bind (Mo.bind (Mo.ok s_13) fun a_34 => Mo.bind (Mo.bind (Mo.ok signs_1) fun a_32 => Mo.bind (Mo.bind (Mo.bind (Mo.ok p_cell) fun a_28 => Mo.bind (Mo.ok step_16) fun b_29 => Mo.ok (a_28 + b_29)) fun a_30 => Mo.bind (Mo.ok (37 : Int)) fun b_31 => Mo.grd (0 < b_31) (Mo.ok (a_30 % b_31))) fun b_33 => Mo.lim a_32.length (Mo.opt ((atI a_32 b_33).map fun c => [c]))) fun b_35 => Mo.lim (a_34.length + b_35.length) (Mo.ok (a_34 ++ b_35))) fun text_27 => (Mo.ok (.nx text_27))))) xs_36 text_12) fun s_13 => (Mo.bind (Mo.bind (Mo.bind (Mo.bind (Mo.ok signs_1) fun a_42 => Mo.bind (Mo.bind (Mo.bind (Mo.ok p_cell) fun a_38 => Mo.bind (Mo.ok (37 : Int)) fun b_39 => Mo.grd (CDivG a_38 b_39) (Mo.ok (a_38 / b_39))) fun a_40 => Mo.bind (Mo.ok (37 : Int)) fun b_41 => Mo.grd (0 < b_41) (Mo.ok (a_40 % b_41))) fun b_43 => Mo.lim a_42.length (Mo.opt ((atI a_42 b_43).map fun c => [c]))) fun c_44 => Mo.ok [c_44]) fun a_45 => Mo.bind (Mo.ok (4 : Int)) fun b_46 => Mo.grd (CRep a_45.length b_46) (Mo.ok (repL a_45 b_46))) fun mark_37 => (Mo.bind (Mo.bind (Mo.ok signs_1) fun a_57 => Mo.bind (Mo.bind (Mo.bind (Mo.ok p_cell) fun a_53 => Mo.bind (Mo.ok x_11) fun b_54 => Mo.ok (a_53 + b_54)) fun a_55 => Mo.bind (Mo.ok (37 : Int)) fun b_56 => Mo.grd (0 < b_56) (Mo.ok (a_55 % b_56))) fun b_58 => Mo.lim a_57.length (Mo.opt ((atI a_57 b_58).map fun c => [c]))) fun a_61 => Mo.bind (Mo.bind (Mo.ok p_cell) fun a_59 => Mo.bind (Mo.ok (4 : Int)) fun b_60 => Mo.grd (0 < b_60) (Mo.ok (a_59 % b_60))) fun j_62 => Mo.bind (Mo.opt ((ixN (mark_37).length j_62).map fun n => (mark_37).set n a_61)) fun mark_63 => (Mo.bind (Mo.bind (Mo.ok s_13) fun a_66 => Mo.bind (Mo.bind (Mo.ok ([] : List Nat)) fun a_64 => Mo.bind (Mo.ok mark_63) fun b_65 => Mo.grd (JoinOk ⟨a_64.toArray⟩ (strsL b_65) = true) (Mo.ok (joinS a_64 (strsL b_65)))) fun b_67 => Mo.lim (a_66.length + b_67.length) (Mo.ok (a_66 ++ b_67))) fun a_68 => Mo.lim (s_9.length + 1) (Mo.ok (.nx (s_9 ++ [a_68]))))))))) xs_69 deck_here_8) fun s_9 => (Mo.ok (.rt s_9))))))
def f_law_deck (p_cell : Int) (p_many : Int) (p_spread : Int) : Mo (List (List Nat)) := fnO (b_law_deck p_cell p_many p_spread)
def b_law_cell_at (p_script : (List Int)) (p_k : Int) : Mo (Out Int Unit Unit) :=
  (thenO (S := Unit) (Mo.bind (Mo.bind (Mo.ok p_k) fun a_2 => Mo.bind (Mo.bind (Mo.ok p_script) fun c_1 => Mo.ok (c_1.length : Int)) fun b_3 => Mo.ok (decide (a_2 < b_3))) fun c_4 => if c_4 then (Mo.bind (Mo.bind (Mo.ok p_script) fun a_6 => Mo.bind (Mo.ok p_k) fun b_7 => Mo.opt (atI a_6 b_7)) fun r_8 => Mo.ok (.rt r_8)) else (Mo.ok (.nx ()))) fun _ => (Mo.bind (Mo.ok (0 : Int)) fun r_9 => Mo.ok (.rt r_9)))
def f_law_cell_at (p_script : (List Int)) (p_k : Int) : Mo Int := fnO (b_law_cell_at p_script p_k)
def b_gather (p_some : (List (List (List Nat)))) : Mo (Out (List (List Nat)) Unit Unit) :=
  (Mo.bind (Mo.ok ([] : List (List Nat))) fun deck_1 => (thenO (S := (List (List Nat))) (Mo.bind (Mo.ok p_some) fun xs_5 => forO (fun (s_2 : (List (List Nat))) x_3 => (Mo.bind (Mo.ok x_3) fun a_4 => Mo.lim (s_2.length + a_4.length) (Mo.ok (.nx (s_2 ++ a_4))))) xs_5 deck_1) fun s_2 => (Mo.ok (.rt s_2))))
def f_gather (p_some : (List (List (List Nat)))) : Mo (List (List Nat)) := fnO (b_gather p_some)
def b_is_sign (p_text : (List Nat)) : Mo (Out Bool Unit Unit) :=
  (Mo.bind (Mo.bind (Mo.bind (Mo.bind (Mo.ok p_text) fun c_1 => Mo.lim c_1.length (Mo.ok (c_1.length : Int))) fun a_2 => Mo.bind (Mo.ok (1 : Int)) fun b_3 => Mo.ok (decide (a_2 = b_3))) fun c_6 => if c_6 then (Mo.bind (Mo.ok p_text) fun a_4 => Mo.bind (Mo.ok (SG : List Nat)) fun b_5 => Mo.ok (inS a_4 b_5)) else Mo.ok false) fun r_7 => Mo.ok (.rt r_7))
def f_is_sign (p_text : (List Nat)) : Mo Bool := fnO (b_is_sign p_text)
def b_rank_of (p_sign : (List Nat)) : Mo (Out Int Unit Unit) :=
  (thenO (S := Unit) (Mo.bind (Mo.bind (Mo.bind (Mo.ok p_sign) fun c_1 => Mo.noex (f_is_sign c_1)) fun a_2 => Mo.ok (!a_2)) fun c_3 => if c_3 then Mo.no else (Mo.ok (.nx ()))) fun _ => (Mo.bind (Mo.bind (Mo.ok (SG : List Nat)) fun a_5 => Mo.bind (Mo.ok p_sign) fun b_6 => Mo.grd (findS a_5 b_6 ≠ -1) (Mo.ok (findS a_5 b_6))) fun r_7 => Mo.ok (.rt r_7)))
def f_rank_of (p_sign : (List Nat)) : Mo Int := fnO (b_rank_of p_sign)
def b_sign_at (p_card : (List Nat)) (p_column : Int) : Mo (Out (List Nat) Unit Unit) :=
  (Mo.bind (Mo.bind (Mo.ok p_card) fun a_3 => Mo.bind (Mo.bind (Mo.ok p_column) fun a_1 => Mo.bind (Mo.ok (1 : Int)) fun b_2 => Mo.ok (a_1 - b_2)) fun b_4 => Mo.lim a_3.length (Mo.opt ((atI a_3 b_4).map fun c => [c]))) fun r_5 => Mo.ok (.rt r_5))
def f_sign_at (p_card : (List Nat)) (p_column : Int) : Mo (List Nat) := fnO (b_sign_at p_card p_column)
def b_pockets_of (p_deck : (List (List Nat))) (p_column : Int) : Mo (Out (List (List (List Nat))) Unit Unit) :=
  (Mo.bind (Mo.bind (Mo.bind (Mo.ok (SG : List Nat)) fun a_2 => Mo.ok (a_2.map fun c => [c])) fun xs_4 => compM (fun x_3 => cond1 (Mo.ok true) (Mo.ok ([] : List (List Nat)))) xs_4 []) fun pockets_1 => (thenO (S := (List (List (List Nat)))) (Mo.bind (Mo.ok p_deck) fun xs_14 => forO (fun (s_5 : (List (List (List Nat)))) x_6 => (Mo.bind (Mo.bind (Mo.bind (Mo.bind (Mo.ok x_6) fun a_7 => Mo.bind (Mo.ok p_column) fun c_8 => Mo.ok (a_7, c_8)) fun c_9 => Mo.noex (f_sign_at c_9.1 c_9.2)) fun c_10 => f_rank_of c_10) fun j_11 => Mo.bind (Mo.opt (ixN (s_5).length j_11)) fun n_12 => Mo.bind (Mo.ok x_6) fun a_13 => Mo.lim (((s_5)[n_12]?.getD []).length + 1) (Mo.ok (.nx (appN s_5 n_12 a_13))))) xs_14 pockets_1) fun s_5 => (Mo.ok (.rt s_5))))
def f_pockets_of (p_deck : (List (List Nat))) (p_column : Int) : Mo (List (List (List Nat))) := fnO (b_pockets_of p_deck p_column)
def b_deal_all (p_deck : (List (List Nat))) (p_row : (List Int)) : Mo (Out (List (List Nat)) Unit Unit) :=
  (Mo.bind (Mo.bind (Mo.ok p_deck) fun c_2 => Mo.ok c_2) fun dealt_1 => (thenO (S := (List (List Nat))) (Mo.bind (Mo.ok p_row) fun xs_10 => forO (fun (s_3 : (List (List Nat))) x_4 => (Mo.bind (Mo.bind (Mo.bind (Mo.bind (Mo.ok s_3) fun a_6 => Mo.bind (Mo.ok x_4) fun c_7 => Mo.ok (a_6, c_7)) fun c_8 => f_pockets_of c_8.1 c_8.2) fun c_9 => Mo.noex (f_gather c_9)) fun dealt_5 => (Mo.ok (.nx dealt_5)))) xs_10 dealt_1) fun s_3 => (Mo.ok (.rt s_3))))
def f_deal_all (p_deck : (List (List Nat))) (p_row : (List Int)) : Mo (List (List Nat)) := fnO (b_deal_all p_deck p_row)
def b_pass_all (p_deck : (List (List Nat))) (p_row : (List Pas)) : Mo (Out (List (List Nat)) Unit Unit) :=
  (Mo.bind (Mo.bind (Mo.ok p_deck) fun c_2 => Mo.ok c_2) fun gone_1 => (thenO (S := (List (List Nat))) (Mo.bind (Mo.ok p_row) fun xs_26 => forO (fun (s_3 : (List (List Nat))) x_4 => (thenO (S := (List (List Nat))) (Mo.bind (Mo.bind (Mo.bind (Mo.ok x_4) fun a_5 => Mo.ok (pTag a_5)) fun a_6 => Mo.bind (Mo.ok ([100, 101, 97, 108] : List Nat)) fun b_7 => Mo.ok (decide (a_6 = b_7))) fun c_8 => if c_8 then (Mo.bind (Mo.bind (Mo.bind (Mo.ok s_3) fun a_13 => Mo.bind (Mo.bind (Mo.bind (Mo.ok x_4) fun a_11 => Mo.ok a_11.1) fun c_12 => Mo.ok [c_12]) fun c_14 => Mo.ok (a_13, c_14)) fun c_15 => f_deal_all c_15.1 c_15.2) fun gone_10 => (Mo.ok (.nx gone_10))) else (Mo.bind (Mo.bind (Mo.ok s_3) fun xs_25 => compM (fun x_17 => cond1 (Mo.bind (Mo.bind (Mo.bind (Mo.ok x_17) fun a_19 => Mo.bind (Mo.bind (Mo.ok x_4) fun a_18 => Mo.ok a_18.1) fun c_20 => Mo.ok (a_19, c_20)) fun c_21 => Mo.noex (f_sign_at c_21.1 c_21.2)) fun a_23 => Mo.bind (Mo.bind (Mo.ok x_4) fun a_22 => Mo.opt a_22.2) fun b_24 => Mo.ok (decide (a_23 = b_24))) (Mo.ok x_17)) xs_25 []) fun gone_16 => (Mo.ok (.nx gone_16)))) fun s_9 => (Mo.ok (.nx s_9)))) xs_26 gone_1) fun s_3 => (Mo.ok (.rt s_3))))
def f_pass_all (p_deck : (List (List Nat))) (p_row : (List Pas)) : Mo (List (List Nat)) := fnO (b_pass_all p_deck p_row)
def b_picked_signs (p_row : (List Pas)) : Mo (Out (Option (List (Int × (List Nat)))) Unit Unit) :=
  (Mo.bind (Mo.ok ([] : (List (Int × (List Nat))))) fun signs_1 => (thenO (S := (List (Int × (List Nat)))) (Mo.bind (Mo.ok p_row) fun xs_18 => forO (fun (s_2 : (List (Int × (List Nat)))) x_3 => (thenO (S := (List (Int × (List Nat)))) (Mo.bind (Mo.bind (Mo.bind (Mo.ok x_3) fun a_4 => Mo.ok (pTag a_4)) fun a_5 => Mo.bind (Mo.ok ([112, 105, 99, 107] : List Nat)) fun b_6 => Mo.ok (decide (a_5 = b_6))) fun c_7 => if c_7 then (Mo.bind (Mo.bind (Mo.ok x_3) fun a_14 => Mo.ok a_14.1) fun k_9 => Mo.bind (Mo.bind (Mo.ok x_3) fun a_15 => Mo.opt a_15.2) fun d_10 => Mo.lim (s_2.length + 1) (Mo.bind (Mo.ok (sdA s_2 k_9 d_10)) fun q_11 => Mo.bind (Mo.bind (Mo.ok x_3) fun a_16 => Mo.opt a_16.2) fun c_12 => Mo.bind (Mo.ok (!decide (q_11.1 = c_12))) fun b_13 => if b_13 then (Mo.bind (Mo.ok (none : (Option (List (Int × (List Nat)))))) fun r_17 => Mo.ok (.rt r_17)) else (Mo.ok (.nx q_11.2)))) else (Mo.ok (.nx s_2))) fun s_8 => (Mo.ok (.nx s_8)))) xs_18 signs_1) fun s_2 => (Mo.bind (Mo.bind (Mo.ok s_2) fun a_19 => Mo.ok (some a_19)) fun r_20 => Mo.ok (.rt r_20))))
def f_picked_signs (p_row : (List Pas)) : Mo (Option (List (Int × (List Nat)))) := fnO (b_picked_signs p_row)
def b_sense_of (p_row : (List Pas)) : Mo (Out (Option ((Option (List (Int × (List Nat)))) × (List Int))) Unit Unit) :=
  (Mo.bind (Mo.bind (Mo.ok p_row) fun c_3 => Mo.noex (f_picked_signs c_3)) fun signs_2 => (thenO (S := Unit) (Mo.bind (Mo.bind (Mo.ok signs_2) fun a_4 => Mo.bind (Mo.ok ()) fun b_5 => Mo.ok a_4.isNone) fun c_6 => if c_6 then (Mo.bind (Mo.ok (none : (Option ((Option (List (Int × (List Nat)))) × (List Int))))) fun r_8 => Mo.ok (.rt r_8)) else (Mo.ok (.nx ()))) fun _ => (Mo.bind (Mo.ok ([] : List Int)) fun columns_9 => (thenO (S := (List Int)) (Mo.bind (Mo.bind (Mo.ok p_row) fun c_11 => Mo.ok c_11.reverse) fun xs_29 => forO (fun (s_10 : (List Int)) x_12 => (thenO (S := (List Int)) (Mo.bind (Mo.bind (Mo.bind (Mo.bind (Mo.ok x_12) fun a_13 => Mo.ok (pTag a_13)) fun a_14 => Mo.bind (Mo.ok ([100, 101, 97, 108] : List Nat)) fun b_15 => Mo.ok (decide (a_14 = b_15))) fun c_24 => if c_24 then (Mo.bind (Mo.bind (Mo.bind (Mo.ok x_12) fun a_16 => Mo.ok a_16.1) fun a_18 => Mo.bind (Mo.bind (Mo.ok signs_2) fun a_17 => Mo.opt a_17) fun b_19 => Mo.ok (if true then !(getA b_19 a_18).isSome else (getA b_19 a_18).isSome)) fun c_23 => if c_23 then (Mo.bind (Mo.bind (Mo.ok x_12) fun a_20 => Mo.ok a_20.1) fun a_21 => Mo.bind (Mo.ok s_10) fun b_22 => Mo.ok (!(b_22.any fun y => decide (y = a_21)))) else Mo.ok false) else Mo.ok false) fun c_25 => if c_25 then (Mo.bind (Mo.bind (Mo.ok x_12) fun a_27 => Mo.ok a_27.1) fun a_28 => Mo.lim (s_10.length + 1) (Mo.ok (.nx (s_10 ++ [a_28])))) else (Mo.ok (.nx s_10))) fun s_26 => (Mo.ok (.nx s_26)))) xs_29 columns_9) fun s_10 => (Mo.bind (Mo.bind (Mo.bind (Mo.ok signs_2) fun a_30 => Mo.bind (Mo.ok s_10) fun c_31 => Mo.ok (a_30, c_31)) fun a_32 => Mo.ok (some a_32)) fun r_33 => Mo.ok (.rt r_33))))))
def f_sense_of (p_row : (List Pas)) : Mo (Option ((Option (List (Int × (List Nat)))) × (List Int))) := fnO (b_sense_of p_row)
def b_law_in_turn (p_card : (List Nat)) (p_other : (List Nat)) (p_key : (List Int)) (p_places : (List ((List Nat) × Int))) : Mo (Out Bool Unit Unit) :=
  (thenO (S := Unit) (Mo.bind (Mo.ok p_key) fun xs_25 => forO (fun (_ : Unit) x_2 => (Mo.bind (Mo.bind (Mo.bind (Mo.ok p_card) fun a_5 => Mo.bind (Mo.bind (Mo.ok x_2) fun a_3 => Mo.bind (Mo.ok (1 : Int)) fun b_4 => Mo.ok (a_3 - b_4)) fun b_6 => Mo.lim a_5.length (Mo.opt ((atI a_5 b_6).map fun c => [c]))) fun a_11 => Mo.bind (Mo.bind (Mo.ok p_other) fun a_9 => Mo.bind (Mo.bind (Mo.ok x_2) fun a_7 => Mo.bind (Mo.ok (1 : Int)) fun b_8 => Mo.ok (a_7 - b_8)) fun b_10 => Mo.lim a_9.length (Mo.opt ((atI a_9 b_10).map fun c => [c]))) fun b_12 => Mo.ok (!decide (a_11 = b_12))) fun c_13 => if c_13 then (Mo.bind (Mo.bind (Mo.bind (Mo.ok p_card) fun a_16 => Mo.bind (Mo.bind (Mo.ok x_2) fun a_14 => Mo.bind (Mo.ok (1 : Int)) fun b_15 => Mo.ok (a_14 - b_15)) fun b_17 => Mo.lim a_16.length (Mo.opt ((atI a_16 b_17).map fun c => [c]))) fun a_22 => Mo.bind (Mo.bind (Mo.ok p_other) fun a_20 => Mo.bind (Mo.bind (Mo.ok x_2) fun a_18 => Mo.bind (Mo.ok (1 : Int)) fun b_19 => Mo.ok (a_18 - b_19)) fun b_21 => Mo.lim a_20.length (Mo.opt ((atI a_20 b_21).map fun c => [c]))) fun b_23 => Mo.ok (decide (a_22 < b_23))) fun r_24 => Mo.ok (.rt r_24)) else (Mo.ok (.nx ())))) xs_25 ()) fun _ => (Mo.bind (Mo.bind (Mo.bind (Mo.ok p_places) fun a_26 => Mo.bind (Mo.ok p_card) fun b_27 => Mo.opt (getA a_26 b_27)) fun a_30 => Mo.bind (Mo.bind (Mo.ok p_places) fun a_28 => Mo.bind (Mo.ok p_other) fun b_29 => Mo.opt (getA a_28 b_29)) fun b_31 => Mo.ok (decide (a_30 < b_31))) fun r_32 => Mo.ok (.rt r_32)))
def f_law_in_turn (p_card : (List Nat)) (p_other : (List Nat)) (p_key : (List Int)) (p_places : (List ((List Nat) × Int))) : Mo Bool := fnO (b_law_in_turn p_card p_other p_key p_places)
def b_law_fits (p_card : (List Nat)) (p_picks : (Option (List (Int × (List Nat))))) : Mo (Out Bool Unit Unit) :=
  (thenO (S := Unit) (Mo.bind (Mo.bind (Mo.ok p_picks) fun a_2 => Mo.opt a_2) fun xs_12 => forO (fun (_ : Unit) x_3 => Mo.noex (Mo.bind (Mo.bind (Mo.bind (Mo.ok p_card) fun a_6 => Mo.bind (Mo.bind (Mo.ok x_3.1) fun a_4 => Mo.bind (Mo.ok (1 : Int)) fun b_5 => Mo.ok (a_4 - b_5)) fun b_7 => Mo.lim a_6.length (Mo.opt ((atI a_6 b_7).map fun c => [c]))) fun a_8 => Mo.bind (Mo.ok x_3.2) fun b_9 => Mo.ok (!decide (a_8 = b_9))) fun c_10 => if c_10 then (Mo.bind (Mo.ok false) fun r_11 => Mo.ok (.rt r_11)) else (Mo.ok (.nx ())))) xs_12 ()) fun _ => (Mo.bind (Mo.ok true) fun r_13 => Mo.ok (.rt r_13)))
def f_law_fits (p_card : (List Nat)) (p_picks : (Option (List (Int × (List Nat))))) : Mo Bool := fnO (b_law_fits p_card p_picks)
def b_law_told (p_found : (List (List Nat))) (p_sense : (Option ((Option (List (Int × (List Nat)))) × (List Int)))) (p_deck_here : (List (List Nat))) : Mo (Out Bool Unit Unit) :=
  (thenO (S := Unit) (Mo.bind (Mo.bind (Mo.bind (Mo.ok p_found) fun a_1 => Mo.ok true) fun a_2 => Mo.ok (!a_2)) fun c_3 => if c_3 then (Mo.bind (Mo.ok false) fun r_5 => Mo.ok (.rt r_5)) else (Mo.ok (.nx ()))) fun _ => (thenO (S := Unit) (Mo.bind (Mo.bind (Mo.ok p_sense) fun a_6 => Mo.bind (Mo.ok ()) fun b_7 => Mo.ok a_6.isNone) fun c_8 => if c_8 then (Mo.bind (Mo.bind (Mo.ok p_found) fun a_10 => Mo.bind (Mo.ok ([] : List (List Nat))) fun b_11 => Mo.ok (((eqL (fun a b => decide (a = b))) a_10 b_11))) fun r_12 => Mo.ok (.rt r_12)) else (Mo.ok (.nx ()))) fun _ => (thenO (S := Unit) (Mo.bind (Mo.bind (Mo.bind (Mo.ok p_found) fun c_13 => Mo.ok (c_13.length : Int)) fun a_22 => Mo.bind (Mo.bind (Mo.bind (Mo.ok p_deck_here) fun xs_20 => compM (fun x_14 => cond1 (Mo.bind (Mo.bind (Mo.ok x_14) fun a_17 => Mo.bind (Mo.bind (Mo.bind (Mo.ok p_sense) fun a_15 => Mo.opt a_15) fun a_16 => Mo.ok a_16.1) fun c_18 => Mo.ok (a_17, c_18)) fun c_19 => Mo.noex (f_law_fits c_19.1 c_19.2)) (Mo.ok x_14)) xs_20 []) fun c_21 => Mo.ok (c_21.length : Int)) fun b_23 => Mo.ok (!decide (a_22 = b_23))) fun c_24 => if c_24 then (Mo.bind (Mo.ok false) fun r_26 => Mo.ok (.rt r_26)) else (Mo.ok (.nx ()))) fun _ => (Mo.bind (Mo.ok ([] : (List ((List Nat) × Int)))) fun places_27 => (thenO (S := (List ((List Nat) × Int))) (Mo.bind (Mo.bind (Mo.bind (Mo.ok p_deck_here) fun c_29 => Mo.ok (c_29.length : Int)) fun c_30 => Mo.grd (-(2 ^ 62) ≤ c_30 ∧ c_30 < 2 ^ 62) (Mo.ok (rngI 0 c_30.toNat))) fun xs_36 => forO (fun (s_28 : (List ((List Nat) × Int))) x_31 => (Mo.bind (Mo.ok x_31) fun a_34 => Mo.bind (Mo.bind (Mo.ok p_deck_here) fun a_32 => Mo.bind (Mo.ok x_31) fun b_33 => Mo.opt (atI a_32 b_33)) fun y_35 => Mo.lim (s_28.length + 1) (Mo.ok (.nx (putA s_28 y_35 a_34))))) xs_36 places_27) fun s_28 => (thenO (S := Unit) (Mo.bind (Mo.ok p_found) fun xs_53 => forO (fun (_ : Unit) x_38 => (Mo.bind (Mo.bind (Mo.bind (Mo.bind (Mo.ok x_38) fun a_39 => Mo.ok true) fun a_40 => Mo.ok (!a_40)) fun c_50 => if c_50 then Mo.ok true else (Mo.bind (Mo.bind (Mo.ok x_38) fun a_41 => Mo.bind (Mo.ok s_28) fun b_42 => Mo.ok (if true then !(getA b_42 a_41).isSome else (getA b_42 a_41).isSome)) fun c_49 => if c_49 then Mo.ok true else (Mo.bind (Mo.bind (Mo.bind (Mo.ok x_38) fun a_45 => Mo.bind (Mo.bind (Mo.bind (Mo.ok p_sense) fun a_43 => Mo.opt a_43) fun a_44 => Mo.ok a_44.1) fun c_46 => Mo.ok (a_45, c_46)) fun c_47 => Mo.noex (f_law_fits c_47.1 c_47.2)) fun a_48 => Mo.ok (!a_48)))) fun c_51 => if c_51 then (Mo.bind (Mo.ok false) fun r_52 => Mo.ok (.rt r_52)) else (Mo.ok (.nx ())))) xs_53 ()) fun _ => (thenO (S := Unit) (Mo.bind (Mo.bind (Mo.bind (Mo.bind (Mo.ok p_found) fun a_57 => Mo.bind (Mo.ok none) fun b_58 => Mo.bind (Mo.bind (Mo.bind (Mo.ok (1 : Int)) fun a_55 => Mo.ok (-a_55)) fun i_56 => Mo.ok (some i_56)) fun d_59 => Mo.ok (cutG a_57 b_58 d_59)) fun a_64 => Mo.bind (Mo.bind (Mo.ok p_found) fun a_61 => Mo.bind (Mo.bind (Mo.ok (1 : Int)) fun i_60 => Mo.ok (some i_60)) fun b_62 => Mo.bind (Mo.ok none) fun d_63 => Mo.ok (cutG a_61 b_62 d_63)) fun c_65 => Mo.ok (a_64, c_65)) fun c_66 => Mo.ok (c_66.1.zip c_66.2)) fun xs_80 => forO (fun (_ : Unit) x_67 => (Mo.bind (Mo.bind (Mo.bind (Mo.bind (Mo.ok x_67.1) fun a_74 => Mo.bind (Mo.bind (Mo.ok x_67.2) fun a_72 => Mo.bind (Mo.bind (Mo.bind (Mo.bind (Mo.ok p_sense) fun a_68 => Mo.opt a_68) fun a_69 => Mo.ok a_69.2) fun a_70 => Mo.bind (Mo.ok s_28) fun c_71 => Mo.ok (a_70, c_71)) fun c_73 => Mo.ok (a_72, c_73)) fun c_75 => Mo.ok (a_74, c_75)) fun c_76 => Mo.noex (f_law_in_turn c_76.1 c_76.2.1 c_76.2.2.1 c_76.2.2.2)) fun a_77 => Mo.ok (!a_77)) fun c_78 => if c_78 then (Mo.bind (Mo.ok false) fun r_79 => Mo.ok (.rt r_79)) else (Mo.ok (.nx ())))) xs_80 ()) fun _ => (Mo.bind (Mo.ok true) fun r_81 => Mo.ok (.rt r_81)))))))))
def f_law_told (p_found : (List (List Nat))) (p_sense : (Option ((Option (List (Int × (List Nat)))) × (List Int)))) (p_deck_here : (List (List Nat))) : Mo Bool := fnO (b_law_told p_found p_sense p_deck_here)
def b_law_pass (p_cell : Int) (p_hero : (List Nat)) (p_start : Int) (p_reach : Int) (p_share : Int) : Mo (Out Pas Unit Unit) :=
  (Mo.bind (Mo.ok (SG : List Nat)) fun signs_1 => (Mo.bind (Mo.bind (Mo.bind (Mo.ok p_cell) fun a_3 => Mo.bind (Mo.ok (2147483647 : Int)) fun b_4 => Mo.grd (0 < b_4) (Mo.ok (a_3 % b_4))) fun a_5 => Mo.bind (Mo.ok (69621 : Int)) fun b_6 => Mo.ok (a_5 + b_6)) fun number_2 => (Mo.bind (Mo.bind (Mo.bind (Mo.ok number_2) fun a_8 => Mo.bind (Mo.ok number_2) fun b_9 => Mo.grd (IntMulOk a_8 b_9) (Mo.ok (a_8 * b_9))) fun a_10 => Mo.bind (Mo.ok (2147483629 : Int)) fun b_11 => Mo.grd (0 < b_11) (Mo.ok (a_10 % b_11))) fun number_7 => (Mo.bind (Mo.bind (Mo.ok (1 : Int)) fun a_21 => Mo.bind (Mo.bind (Mo.bind (Mo.ok p_start) fun a_17 => Mo.bind (Mo.bind (Mo.bind (Mo.ok number_7) fun a_13 => Mo.bind (Mo.ok (8 : Int)) fun b_14 => Mo.grd (CDivG a_13 b_14) (Mo.ok (a_13 / b_14))) fun a_15 => Mo.bind (Mo.ok p_reach) fun b_16 => Mo.grd (0 < b_16) (Mo.ok (a_15 % b_16))) fun b_18 => Mo.ok (a_17 + b_18)) fun a_19 => Mo.bind (Mo.ok (36 : Int)) fun b_20 => Mo.grd (0 < b_20) (Mo.ok (a_19 % b_20))) fun b_22 => Mo.ok (a_21 + b_22)) fun column_12 => (thenO (S := Unit) (Mo.bind (Mo.bind (Mo.bind (Mo.ok number_7) fun a_23 => Mo.bind (Mo.ok (8 : Int)) fun b_24 => Mo.grd (0 < b_24) (Mo.ok (a_23 % b_24))) fun a_25 => Mo.bind (Mo.ok p_share) fun b_26 => Mo.ok (decide (b_26 ≤ a_25))) fun c_27 => if c_27 then (Mo.bind (Mo.bind (Mo.ok column_12) fun a_29 => Mo.ok (a_29, none)) fun r_30 => Mo.ok (.rt r_30)) else (Mo.ok (.nx ()))) fun _ => (thenO (S := Unit) (Mo.bind (Mo.bind (Mo.bind (Mo.bind (Mo.ok number_7) fun a_31 => Mo.bind (Mo.ok (512 : Int)) fun b_32 => Mo.grd (CDivG a_31 b_32) (Mo.ok (a_31 / b_32))) fun a_33 => Mo.bind (Mo.ok (7 : Int)) fun b_34 => Mo.grd (0 < b_34) (Mo.ok (a_33 % b_34))) fun a_35 => Mo.bind (Mo.ok (1 : Int)) fun b_36 => Mo.ok (decide (a_35 = b_36))) fun c_37 => if c_37 then (Mo.bind (Mo.bind (Mo.ok column_12) fun a_45 => Mo.bind (Mo.bind (Mo.ok signs_1) fun a_43 => Mo.bind (Mo.bind (Mo.bind (Mo.ok number_7) fun a_39 => Mo.bind (Mo.ok (4096 : Int)) fun b_40 => Mo.grd (CDivG a_39 b_40) (Mo.ok (a_39 / b_40))) fun a_41 => Mo.bind (Mo.ok (37 : Int)) fun b_42 => Mo.grd (0 < b_42) (Mo.ok (a_41 % b_42))) fun b_44 => Mo.lim a_43.length (Mo.opt ((atI a_43 b_44).map fun c => [c]))) fun b_46 => Mo.ok (a_45, some b_46)) fun r_47 => Mo.ok (.rt r_47)) else (Mo.ok (.nx ()))) fun _ => (Mo.bind (Mo.bind (Mo.ok column_12) fun a_52 => Mo.bind (Mo.bind (Mo.ok p_hero) fun a_50 => Mo.bind (Mo.bind (Mo.ok column_12) fun a_48 => Mo.bind (Mo.ok (1 : Int)) fun b_49 => Mo.ok (a_48 - b_49)) fun b_51 => Mo.lim a_50.length (Mo.opt ((atI a_50 b_51).map fun c => [c]))) fun b_53 => Mo.ok (a_52, some b_53)) fun r_54 => Mo.ok (.rt r_54))))))))
def f_law_pass (p_cell : Int) (p_hero : (List Nat)) (p_start : Int) (p_reach : Int) (p_share : Int) : Mo Pas := fnO (b_law_pass p_cell p_hero p_start p_reach p_share)
def b_law (p_script : (List Int)) : Mo (Out Bool Unit Unit) :=
  (Mo.bind (Mo.bind (Mo.bind (Mo.bind (Mo.ok p_script) fun a_2 => Mo.bind (Mo.ok (0 : Int)) fun c_3 => Mo.ok (a_2, c_3)) fun c_4 => Mo.noex (f_law_cell_at c_4.1 c_4.2)) fun a_5 => Mo.bind (Mo.ok (10 : Int)) fun b_6 => Mo.grd (0 < b_6) (Mo.ok (a_5 % b_6))) fun many_1 => (thenO (S := Int) (Mo.bind (Mo.bind (Mo.bind (Mo.bind (Mo.bind (Mo.bind (Mo.ok p_script) fun a_7 => Mo.bind (Mo.ok (0 : Int)) fun c_8 => Mo.ok (a_7, c_8)) fun c_9 => Mo.noex (f_law_cell_at c_9.1 c_9.2)) fun a_10 => Mo.bind (Mo.ok (10 : Int)) fun b_11 => Mo.grd (CDivG a_10 b_11) (Mo.ok (a_10 / b_11))) fun a_12 => Mo.bind (Mo.ok (4 : Int)) fun b_13 => Mo.grd (0 < b_13) (Mo.ok (a_12 % b_13))) fun a_14 => Mo.bind (Mo.ok (1 : Int)) fun b_15 => Mo.ok (decide (a_14 = b_15))) fun c_16 => if c_16 then (Mo.bind (Mo.bind (Mo.ok (10 : Int)) fun a_26 => Mo.bind (Mo.bind (Mo.bind (Mo.bind (Mo.bind (Mo.ok p_script) fun a_19 => Mo.bind (Mo.ok (0 : Int)) fun c_20 => Mo.ok (a_19, c_20)) fun c_21 => Mo.noex (f_law_cell_at c_21.1 c_21.2)) fun a_22 => Mo.bind (Mo.ok (40 : Int)) fun b_23 => Mo.grd (CDivG a_22 b_23) (Mo.ok (a_22 / b_23))) fun a_24 => Mo.bind (Mo.ok (15 : Int)) fun b_25 => Mo.grd (0 < b_25) (Mo.ok (a_24 % b_25))) fun b_27 => Mo.ok (a_26 + b_27)) fun many_18 => (Mo.ok (.nx many_18))) else (Mo.ok (.nx many_1))) fun s_17 => (Mo.bind (Mo.bind (Mo.bind (Mo.bind (Mo.ok (2 : Int)) fun a_33 => Mo.bind (Mo.bind (Mo.ok (3 : Int)) fun a_31 => Mo.bind (Mo.bind (Mo.ok (1 : Int)) fun a_29 => Mo.bind (Mo.ok (37 : Int)) fun c_30 => Mo.ok (a_29, c_30)) fun c_32 => Mo.ok (a_31, c_32)) fun c_34 => Mo.ok (a_33, c_34)) fun c_35 => Mo.ok [c_35.1, c_35.2.1, c_35.2.2.1, c_35.2.2.2]) fun a_41 => Mo.bind (Mo.bind (Mo.bind (Mo.bind (Mo.ok p_script) fun a_36 => Mo.bind (Mo.ok (2 : Int)) fun c_37 => Mo.ok (a_36, c_37)) fun c_38 => Mo.noex (f_law_cell_at c_38.1 c_38.2)) fun a_39 => Mo.bind (Mo.ok (4 : Int)) fun b_40 => Mo.grd (0 < b_40) (Mo.ok (a_39 % b_40))) fun b_42 => Mo.opt (atI a_41 b_42)) fun spread_28 => (Mo.bind (Mo.bind (Mo.bind (Mo.bind (Mo.bind (Mo.ok p_script) fun a_44 => Mo.bind (Mo.ok (2 : Int)) fun c_45 => Mo.ok (a_44, c_45)) fun c_46 => Mo.noex (f_law_cell_at c_46.1 c_46.2)) fun a_47 => Mo.bind (Mo.ok (4 : Int)) fun b_48 => Mo.grd (CDivG a_47 b_48) (Mo.ok (a_47 / b_48))) fun a_49 => Mo.bind (Mo.ok (36 : Int)) fun b_50 => Mo.grd (0 < b_50) (Mo.ok (a_49 % b_50))) fun start_43 => (Mo.bind (Mo.bind (Mo.bind (Mo.bind (Mo.bind (Mo.ok p_script) fun a_52 => Mo.bind (Mo.ok (1 : Int)) fun c_53 => Mo.ok (a_52, c_53)) fun c_54 => Mo.noex (f_law_cell_at c_54.1 c_54.2)) fun a_57 => Mo.bind (Mo.bind (Mo.ok s_17) fun a_55 => Mo.bind (Mo.ok spread_28) fun c_56 => Mo.ok (a_55, c_56)) fun c_58 => Mo.ok (a_57, c_58)) fun c_59 => Mo.noex (f_law_deck c_59.1 c_59.2.1 c_59.2.2)) fun deck_here_51 => (Mo.bind (Mo.bind (Mo.bind (Mo.ok deck_here_51) fun a_64 => Mo.bind (Mo.bind (Mo.bind (Mo.ok ([32] : List Nat)) fun a_61 => Mo.bind (Mo.ok (40 : Int)) fun b_62 => Mo.grd (CRep a_61.length b_62) (Mo.ok (repL a_61 b_62))) fun c_63 => Mo.ok [c_63]) fun b_65 => Mo.lim (a_64.length + b_65.length) (Mo.ok (a_64 ++ b_65))) fun a_66 => Mo.bind (Mo.ok (0 : Int)) fun b_67 => Mo.opt (atI a_66 b_67)) fun hero_60 => (Mo.bind (Mo.bind (Mo.bind (Mo.ok p_script) fun a_69 => Mo.bind (Mo.ok (3 : Int)) fun c_70 => Mo.ok (a_69, c_70)) fun c_71 => Mo.noex (f_law_cell_at c_71.1 c_71.2)) fun ways_68 => (Mo.bind (Mo.bind (Mo.bind (Mo.bind (Mo.ok (2 : Int)) fun a_77 => Mo.bind (Mo.bind (Mo.ok (1 : Int)) fun a_75 => Mo.bind (Mo.bind (Mo.ok (4 : Int)) fun a_73 => Mo.bind (Mo.ok (36 : Int)) fun c_74 => Mo.ok (a_73, c_74)) fun c_76 => Mo.ok (a_75, c_76)) fun c_78 => Mo.ok (a_77, c_78)) fun c_79 => Mo.ok [c_79.1, c_79.2.1, c_79.2.2.1, c_79.2.2.2]) fun a_82 => Mo.bind (Mo.bind (Mo.ok ways_68) fun a_80 => Mo.bind (Mo.ok (4 : Int)) fun b_81 => Mo.grd (0 < b_81) (Mo.ok (a_80 % b_81))) fun b_83 => Mo.opt (atI a_82 b_83)) fun reach_72 => (Mo.bind (Mo.ok ([] : List Pas)) fun row_84 => (thenO (S := (List Pas)) (Mo.bind (Mo.bind (Mo.ok p_script) fun a_88 => Mo.bind (Mo.bind (Mo.ok (4 : Int)) fun i_86 => Mo.ok (some i_86)) fun b_89 => Mo.bind (Mo.bind (Mo.ok (104 : Int)) fun i_87 => Mo.ok (some i_87)) fun d_90 => Mo.ok (cutG a_88 b_89 d_90)) fun xs_113 => forO (fun (s_85 : (List Pas)) x_91 => (Mo.bind (Mo.bind (Mo.bind (Mo.ok x_91) fun a_109 => Mo.bind (Mo.bind (Mo.ok hero_60) fun a_107 => Mo.bind (Mo.bind (Mo.ok start_43) fun a_105 => Mo.bind (Mo.bind (Mo.ok reach_72) fun a_103 => Mo.bind (Mo.bind (Mo.bind (Mo.bind (Mo.ok (2 : Int)) fun a_94 => Mo.bind (Mo.bind (Mo.ok (0 : Int)) fun a_92 => Mo.bind (Mo.ok (4 : Int)) fun c_93 => Mo.ok (a_92, c_93)) fun c_95 => Mo.ok (a_94, c_95)) fun c_96 => Mo.ok [c_96.1, c_96.2.1, c_96.2.2]) fun a_101 => Mo.bind (Mo.bind (Mo.bind (Mo.ok ways_68) fun a_97 => Mo.bind (Mo.ok (4 : Int)) fun b_98 => Mo.grd (CDivG a_97 b_98) (Mo.ok (a_97 / b_98))) fun a_99 => Mo.bind (Mo.ok (3 : Int)) fun b_100 => Mo.grd (0 < b_100) (Mo.ok (a_99 % b_100))) fun b_102 => Mo.opt (atI a_101 b_102)) fun c_104 => Mo.ok (a_103, c_104)) fun c_106 => Mo.ok (a_105, c_106)) fun c_108 => Mo.ok (a_107, c_108)) fun c_110 => Mo.ok (a_109, c_110)) fun c_111 => Mo.noex (f_law_pass c_111.1 c_111.2.1 c_111.2.2.1 c_111.2.2.2.1 c_111.2.2.2.2)) fun a_112 => Mo.lim (s_85.length + 1) (Mo.ok (.nx (s_85 ++ [a_112]))))) xs_113 row_84) fun s_85 => (Mo.bind (Mo.bind (Mo.ok deck_here_51) fun c_115 => Mo.ok c_115) fun handed_114 => (Mo.bind (Mo.bind (Mo.bind (Mo.ok handed_114) fun a_117 => Mo.bind (Mo.ok s_85) fun c_118 => Mo.ok (a_117, c_118)) fun c_119 => Mo.noex (f_pass_all c_119.1 c_119.2)) fun found_116 => (Mo.bind (Mo.bind (Mo.ok s_85) fun c_122 => Mo.noex (f_sense_of c_122)) fun sense_121 => (thenO (S := Unit) (Mo.bind (Mo.bind (Mo.bind (Mo.ok handed_114) fun a_123 => Mo.bind (Mo.ok deck_here_51) fun b_124 => Mo.ok (!((eqL (fun a b => decide (a = b))) a_123 b_124))) fun c_131 => if c_131 then Mo.ok true else (Mo.bind (Mo.bind (Mo.bind (Mo.ok found_116) fun a_127 => Mo.bind (Mo.bind (Mo.ok sense_121) fun a_125 => Mo.bind (Mo.ok deck_here_51) fun c_126 => Mo.ok (a_125, c_126)) fun c_128 => Mo.ok (a_127, c_128)) fun c_129 => Mo.noex (f_law_told c_129.1 c_129.2.1 c_129.2.2)) fun a_130 => Mo.ok (!a_130))) fun c_132 => if c_132 then (Mo.bind (Mo.ok false) fun r_134 => Mo.ok (.rt r_134)) else (Mo.ok (.nx ()))) fun _ => (Mo.bind (Mo.bind (Mo.ok s_85) fun a_136 => Mo.ok a_136.reverse) fun back_135 => (thenO (S := Unit) (Mo.bind (Mo.bind (Mo.bind (Mo.bind (Mo.bind (Mo.bind (Mo.ok deck_here_51) fun a_137 => Mo.bind (Mo.ok back_135) fun c_138 => Mo.ok (a_137, c_138)) fun c_139 => Mo.noex (f_pass_all c_139.1 c_139.2)) fun a_143 => Mo.bind (Mo.bind (Mo.bind (Mo.ok back_135) fun c_140 => Mo.noex (f_sense_of c_140)) fun a_141 => Mo.bind (Mo.ok deck_here_51) fun c_142 => Mo.ok (a_141, c_142)) fun c_144 => Mo.ok (a_143, c_144)) fun c_145 => Mo.noex (f_law_told c_145.1 c_145.2.1 c_145.2.2)) fun a_146 => Mo.ok (!a_146)) fun c_147 => if c_147 then (Mo.bind (Mo.ok false) fun r_149 => Mo.ok (.rt r_149)) else (Mo.ok (.nx ()))) fun _ => (Mo.bind (Mo.bind (Mo.bind (Mo.ok found_116) fun a_152 => Mo.bind (Mo.bind (Mo.ok sense_121) fun a_150 => Mo.bind (Mo.ok deck_here_51) fun c_151 => Mo.ok (a_150, c_151)) fun c_153 => Mo.ok (a_152, c_153)) fun c_154 => Mo.noex (f_law_told c_154.1 c_154.2.1 c_154.2.2)) fun r_155 => Mo.ok (.rt r_155))))))))))))))))))
def f_law (p_script : (List Int)) : Mo Bool := fnO (b_law p_script)
end K16
namespace K16
open PySem PySem.Spec PyProof.Rows L2
def top (i : Nat) : Stmt := PySem.Challenge.pw_cardshop_k16_what_a_sense_tells.main.body.getD i (.Pass ⟨0, 0, 0, 0⟩)
abbrev s_law_stream : Stmt := top 18
abbrev s_law_deck : Stmt := top 19
abbrev s_law_cell_at : Stmt := top 17
abbrev s_gather : Stmt := top 10
abbrev s_is_sign : Stmt := top 5
abbrev s_rank_of : Stmt := top 6
abbrev s_sign_at : Stmt := top 7
abbrev s_pockets_of : Stmt := top 9
abbrev s_deal_all : Stmt := top 11
abbrev s_pass_all : Stmt := top 13
abbrev s_picked_signs : Stmt := top 14
abbrev s_sense_of : Stmt := top 15
abbrev s_law_in_turn : Stmt := top 22
abbrev s_law_fits : Stmt := top 21
abbrev s_law_told : Stmt := top 23
abbrev s_law_pass : Stmt := top 20
abbrev s_law : Stmt := top 24
structure Fx (K : PySem.W.Frag) : Prop where
  exc_NoCard : excK K (gA K "NoCard") = true
def sp_law_stream (K : PySem.W.Frag) : Sp := Ct K (csCons tyInt (csLast tyInt)) (fun c => f_law_stream c.1 c.2) (owL tyInt)
def sp_law_deck (K : PySem.W.Frag) : Sp := Ct K (csCons tyInt (csCons tyInt (csLast tyInt))) (fun c => f_law_deck c.1 c.2.1 c.2.2) (owL tyStr)
def sp_law_cell_at (K : PySem.W.Frag) : Sp := Ct K (csCons (tySc K) (csLast tyInt)) (fun c => f_law_cell_at c.1 c.2) (owF tyInt)
def sp_gather (K : PySem.W.Frag) : Sp := Ct K (csLast (tyL (tyL tyStr))) (fun c => f_gather c) (owL tyStr)
def sp_is_sign (K : PySem.W.Frag) : Sp := Ct K (csLast tyStr) (fun c => f_is_sign c) (owF tyBl)
def sp_rank_of (K : PySem.W.Frag) : Sp := Ct K (csLast tyStr) (fun c => f_rank_of c) (owF tyInt)
def sp_sign_at (K : PySem.W.Frag) : Sp := Ct K (csCons tyStr (csLast tyInt)) (fun c => f_sign_at c.1 c.2) (owF tyStr)
def sp_pockets_of (K : PySem.W.Frag) : Sp := Ct K (csCons (tyL tyStr) (csLast tyInt)) (fun c => f_pockets_of c.1 c.2) (owLL tyStr)
def sp_deal_all (K : PySem.W.Frag) : Sp := Ct K (csCons (tyL tyStr) (csLast (tyL tyInt))) (fun c => f_deal_all c.1 c.2) (owL tyStr)
def sp_pass_all (K : PySem.W.Frag) : Sp := Ct K (csCons (tyL tyStr) (csLast (tyL tyPass))) (fun c => f_pass_all c.1 c.2) (owL tyStr)
def sp_picked_signs (K : PySem.W.Frag) : Sp := Ct K (csLast (tyL tyPass)) (fun c => f_picked_signs c) (owF (tyOpt (tyD kInt tyStr)))
def sp_sense_of (K : PySem.W.Frag) : Sp := Ct K (csLast (tyL tyPass)) (fun c => f_sense_of c) (owF (tyOpt (tyTup (csCons (tyOpt (tyD kInt tyStr)) (csLast (tyL tyInt))))))
def sp_law_in_turn (K : PySem.W.Frag) : Sp := Ct K (csCons tyStr (csCons tyStr (csCons (tyL tyInt) (csLast (tyD kStr tyInt))))) (fun c => f_law_in_turn c.1 c.2.1 c.2.2.1 c.2.2.2) (owF tyBl)
def sp_law_fits (K : PySem.W.Frag) : Sp := Ct K (csCons tyStr (csLast (tyOpt (tyD kInt tyStr)))) (fun c => f_law_fits c.1 c.2) (owF tyBl)
def sp_law_told (K : PySem.W.Frag) : Sp := Ct K (csCons (tyL tyStr) (csCons (tyOpt (tyTup (csCons (tyOpt (tyD kInt tyStr)) (csLast (tyL tyInt))))) (csLast (tyL tyStr)))) (fun c => f_law_told c.1 c.2.1 c.2.2) (owF tyBl)
def sp_law_pass (K : PySem.W.Frag) : Sp := Ct K (csCons tyInt (csCons tyStr (csCons tyInt (csCons tyInt (csLast tyInt))))) (fun c => f_law_pass c.1 c.2.1 c.2.2.1 c.2.2.2.1 c.2.2.2.2) (owF tyPass)
def sp_law (K : PySem.W.Frag) : Sp := fun vs H Q _ => ∃ (a : Addr) (ns : List Int), vs = [.ref a] ∧ SqL K H a (ns.map V.int) ∧ ns.length ≤ 63 ∧ BitsOk ns ∧ ∀ H', Q (.bl true) H'
def t_law_stream (K : PySem.W.Frag) : TS := (tSeq (tAsg (tLst tNil) (gName 2)) (tSeq (tAsg (tOp mAdd (tOp mMod (mVar 0) (tC (.int 2147483647))) (tC (.int 48271))) (gName 3)) (tSeq (tFor (mRng1 (tCons (mVar 1) tNil)) (gName 4) (tSeq (tAsg (tOp mMod (tOp mAdd (tOp mAdd (tOp mMulX (mVar 3) (mVar 3)) (tOp mMulX (tC (.int 48271)) (mVar 3))) (mVar 4)) (tC (.int 2147483647))) (gName 3)) (tDrop (tBM K "list" rAppend (mVar 2) (tCons (mVar 3) tNil))))) (tRet (mVar 2)))))
abbrev RD_law_stream (K : PySem.W.Frag) : Prop := ∀ vs H Q E, sp_law_stream K vs H Q E → t_law_stream K { nx := fun _ H' => Q .non H', rt := Q } (start ["_law_cell", "_law_many", "_law_found", "_law_number", "_law_k"] vs) H
theorem len_law_stream {K : PySem.W.Frag} : ∀ vs H Q E, sp_law_stream K vs H Q E → vs.length = 2 := by
  rintro vs H Q E ⟨F, c, _, hc, _⟩; exact ((csn_cons csn_last) : CsN (csCons tyInt (csLast tyInt)) 2) hc
def t_law_deck (K : PySem.W.Frag) : TS := (tSeq (tAsg (tC (tx SG)) (gName 3)) (tSeq (tAsg (tCall (sp_law_stream K) [] E0 (tCons (mVar 0) (tCons (tOp mMulX (tC (.int 36)) (mVar 1)) tNil))) (gName 4)) (tSeq (tAsg (tLst tNil) (gName 5)) (tSeq (tFor (mRng1 (tCons (mVar 1) tNil)) (gName 6) (tSeq (tAsg (tC (tx [])) (gName 7)) (tSeq (tFor (mRng1 (tCons (tC (.int 36)) tNil)) (gName 8) (tSeq (tAsg (tOp mMod (tOp mDivG (tOp (mIx K) (mVar 4) (tOp mAdd (tOp mMulX (tC (.int 36)) (mVar 6)) (mVar 8))) (tC (.int 7))) (mVar 2)) (gName 9)) (tAsg (tOp mAdd (mVar 7) (tOp (mIx K) (mVar 3) (tOp mMod (tOp mAdd (mVar 0) (mVar 9)) (tC (.int 37))))) (gName 7)))) (tSeq (tAsg (tOp mMulX (tLst (tCons (tOp (mIx K) (mVar 3) (tOp mMod (tOp mDivG (mVar 0) (tC (.int 37))) (tC (.int 37)))) tNil)) (tC (.int 4))) (gName 10)) (tSeq (tAsg (tOp (mIx K) (mVar 3) (tOp mMod (tOp mAdd (mVar 0) (mVar 6)) (tC (.int 37)))) (gSub (mVar 10) (tOp mMod (mVar 0) (tC (.int 4))) mSet)) (tDrop (tBM K "list" rAppend (mVar 5) (tCons (tOp mAdd (mVar 7) (tBM K "str" (mJoin K) (tC (tx [])) (tCons (mVar 10) tNil))) tNil)))))))) (tRet (mVar 5))))))
abbrev RD_law_deck (K : PySem.W.Frag) : Prop := ∀ vs H Q E, sp_law_deck K vs H Q E → t_law_deck K { nx := fun _ H' => Q .non H', rt := Q } (start ["_law_cell", "_law_many", "_law_spread", "_law_signs", "_law_numbers", "_law_deck_here", "_law_k", "_law_text", "_law_at", "_law_step", "_law_mark"] vs) H
theorem len_law_deck {K : PySem.W.Frag} : ∀ vs H Q E, sp_law_deck K vs H Q E → vs.length = 3 := by
  rintro vs H Q E ⟨F, c, _, hc, _⟩; exact ((csn_cons (csn_cons csn_last)) : CsN (csCons tyInt (csCons tyInt (csLast tyInt))) 3) hc
def t_law_cell_at (K : PySem.W.Frag) : TS := (tSeq (mIfS (mTest (tOp (mLtK K) (mVar 1) (tCB (mLen K) (tCons (mVar 0) tNil)))) (tRet (tOp (mIx K) (mVar 0) (mVar 1))) tNext) (tRet (tC (.int 0))))
abbrev RD_law_cell_at (K : PySem.W.Frag) : Prop := ∀ vs H Q E, sp_law_cell_at K vs H Q E → t_law_cell_at K { nx := fun _ H' => Q .non H', rt := Q } (start ["_law_script", "_law_k"] vs) H
theorem len_law_cell_at {K : PySem.W.Frag} : ∀ vs H Q E, sp_law_cell_at K vs H Q E → vs.length = 2 := by
  rintro vs H Q E ⟨F, c, _, hc, _⟩; exact ((csn_cons csn_last) : CsN (csCons (tySc K) (csLast tyInt)) 2) hc
def t_gather (K : PySem.W.Frag) : TS := (tSeq (tAsg (tLst tNil) (gName 1)) (tSeq (tFor (iAny K (mVar 0)) (gName 2) (tDrop (tBM K "list" rExtend (mVar 1) (tCons (mVar 2) tNil)))) (tRet (mVar 1))))
abbrev RD_gather (K : PySem.W.Frag) : Prop := ∀ vs H Q E, sp_gather K vs H Q E → t_gather K { nx := fun _ H' => Q .non H', rt := Q } (start ["some", "deck", "pocket"] vs) H
theorem len_gather {K : PySem.W.Frag} : ∀ vs H Q E, sp_gather K vs H Q E → vs.length = 1 := by
  rintro vs H Q E ⟨F, c, _, hc, _⟩; exact (csn_last : CsN (csLast (tyL (tyL tyStr))) 1) hc
def t_is_sign (K : PySem.W.Frag) : TS := (tRet (mAndV (tOp (mEqK K) (tCB (mLen K) (tCons (mVar 0) tNil)) (tC (.int 1))) (tOp (mIn K false) (mVar 0) (tC (tx SG)))))
abbrev RD_is_sign (K : PySem.W.Frag) : Prop := ∀ vs H Q E, sp_is_sign K vs H Q E → t_is_sign K { nx := fun _ H' => Q .non H', rt := Q } (start ["text"] vs) H
theorem len_is_sign {K : PySem.W.Frag} : ∀ vs H Q E, sp_is_sign K vs H Q E → vs.length = 1 := by
  rintro vs H Q E ⟨F, c, _, hc, _⟩; exact (csn_last : CsN (csLast tyStr) 1) hc
def t_rank_of (K : PySem.W.Frag) (E : XK) : TS := (tSeq (mIfS (tNot (mTest (tCall (sp_is_sign K) [] E0 (tCons (mVar 0) tNil)))) (tRaise (gA K "NoCard") E (tCons (tJoin (tJ1 (tUn mRepr (mVar 0)) (tJ1 (tC (tx [32, 105, 115, 32, 110, 111, 32, 115, 105, 103, 110])) tJ0))) tNil)) tNext) (tRet (tBM K "str" mIndex (tC (tx SG)) (tCons (mVar 0) tNil))))
abbrev RD_rank_of (K : PySem.W.Frag) : Prop := ∀ vs H Q E, sp_rank_of K vs H Q E → t_rank_of K E { nx := fun _ H' => Q .non H', rt := Q } (start ["sign"] vs) H
theorem len_rank_of {K : PySem.W.Frag} : ∀ vs H Q E, sp_rank_of K vs H Q E → vs.length = 1 := by
  rintro vs H Q E ⟨F, c, _, hc, _⟩; exact (csn_last : CsN (csLast tyStr) 1) hc
def t_sign_at (K : PySem.W.Frag) : TS := (tRet (tOp (mIx K) (mVar 0) (tOp mSub (mVar 1) (tC (.int 1)))))
abbrev RD_sign_at (K : PySem.W.Frag) : Prop := ∀ vs H Q E, sp_sign_at K vs H Q E → t_sign_at K { nx := fun _ H' => Q .non H', rt := Q } (start ["card", "column"] vs) H
theorem len_sign_at {K : PySem.W.Frag} : ∀ vs H Q E, sp_sign_at K vs H Q E → vs.length = 2 := by
  rintro vs H Q E ⟨F, c, _, hc, _⟩; exact ((csn_cons csn_last) : CsN (csCons tyStr (csLast tyInt)) 2) hc
def t_pockets_of (K : PySem.W.Frag) (E : XK) : TS := (tSeq (tAsg (tComp ["sign"] [] (iAny K (tC (tx SG))) (gName 0) tTrue (tLst tNil)) (gName 2)) (tSeq (tFor (iAny K (mVar 0)) (gName 3) (tDrop (tBM K "list" rAppend (tOp (mIx K) (mVar 2) (tCall (sp_rank_of K) [] E (tCons (tCall (sp_sign_at K) [] E0 (tCons (mVar 3) (tCons (mVar 1) tNil))) tNil))) (tCons (mVar 3) tNil)))) (tRet (mVar 2))))
abbrev RD_pockets_of (K : PySem.W.Frag) : Prop := ∀ vs H Q E, sp_pockets_of K vs H Q E → t_pockets_of K E { nx := fun _ H' => Q .non H', rt := Q } (start ["deck", "column", "pockets", "card"] vs) H
theorem len_pockets_of {K : PySem.W.Frag} : ∀ vs H Q E, sp_pockets_of K vs H Q E → vs.length = 2 := by
  rintro vs H Q E ⟨F, c, _, hc, _⟩; exact ((csn_cons csn_last) : CsN (csCons (tyL tyStr) (csLast tyInt)) 2) hc
def t_deal_all (K : PySem.W.Frag) (E : XK) : TS := (tSeq (tAsg (tCB (mList K) (tCons (mVar 0) tNil)) (gName 2)) (tSeq (tFor (iAny K (mVar 1)) (gName 3) (tAsg (tCall (sp_gather K) [] E0 (tCons (tCall (sp_pockets_of K) [] E (tCons (mVar 2) (tCons (mVar 3) tNil))) tNil)) (gName 2))) (tRet (mVar 2))))
abbrev RD_deal_all (K : PySem.W.Frag) : Prop := ∀ vs H Q E, sp_deal_all K vs H Q E → t_deal_all K E { nx := fun _ H' => Q .non H', rt := Q } (start ["deck", "row", "dealt", "column"] vs) H
theorem len_deal_all {K : PySem.W.Frag} : ∀ vs H Q E, sp_deal_all K vs H Q E → vs.length = 2 := by
  rintro vs H Q E ⟨F, c, _, hc, _⟩; exact ((csn_cons csn_last) : CsN (csCons (tyL tyStr) (csLast (tyL tyInt))) 2) hc
def t_pass_all (K : PySem.W.Frag) (E : XK) : TS := (tSeq (tAsg (tCB (mList K) (tCons (mVar 0) tNil)) (gName 2)) (tSeq (tFor (iAny K (mVar 1)) (gName 3) (mIfS (mTest (tOp (mEqK K) (tOp (mIx K) (mVar 3) (tC (.int 0))) (tC (tx [100, 101, 97, 108])))) (tAsg (tCall (sp_deal_all K) [] E (tCons (mVar 2) (tCons (tLst (tCons (tOp (mIx K) (mVar 3) (tC (.int 1))) tNil)) tNil))) (gName 2)) (tAsg (tComp ["card"] [("step", 3)] (iAny K (mVar 2)) (gName 0) (mTest (tOp (mEqK K) (tCall (sp_sign_at K) [] E0 (tCons (mVar 0) (tCons (tOp (mIx K) (mVar 1) (tC (.int 1))) tNil))) (tOp (mIx K) (mVar 1) (tC (.int 2))))) (mVar 0)) (gName 2)))) (tRet (mVar 2))))
abbrev RD_pass_all (K : PySem.W.Frag) : Prop := ∀ vs H Q E, sp_pass_all K vs H Q E → t_pass_all K E { nx := fun _ H' => Q .non H', rt := Q } (start ["deck", "row", "gone", "step"] vs) H
theorem len_pass_all {K : PySem.W.Frag} : ∀ vs H Q E, sp_pass_all K vs H Q E → vs.length = 2 := by
  rintro vs H Q E ⟨F, c, _, hc, _⟩; exact ((csn_cons csn_last) : CsN (csCons (tyL tyStr) (csLast (tyL tyPass))) 2) hc
def t_picked_signs (K : PySem.W.Frag) : TS := (tSeq (tAsg tDNewK (gName 1)) (tSeq (tFor (iAny K (mVar 0)) (gName 2) (mIfS (mTest (tOp (mEqK K) (tOp (mIx K) (mVar 2) (tC (.int 0))) (tC (tx [112, 105, 99, 107])))) (mIfS (mTest (tOp (mNeK K) (mSetD (mVar 1) (tOp (mIx K) (mVar 2) (tC (.int 1))) (tOp (mIx K) (mVar 2) (tC (.int 2)))) (tOp (mIx K) (mVar 2) (tC (.int 2))))) (tRet (tC .non)) tNext) tNext)) (tRet (mVar 1))))
abbrev RD_picked_signs (K : PySem.W.Frag) : Prop := ∀ vs H Q E, sp_picked_signs K vs H Q E → t_picked_signs K { nx := fun _ H' => Q .non H', rt := Q } (start ["row", "signs", "step"] vs) H
theorem len_picked_signs {K : PySem.W.Frag} : ∀ vs H Q E, sp_picked_signs K vs H Q E → vs.length = 1 := by
  rintro vs H Q E ⟨F, c, _, hc, _⟩; exact (csn_last : CsN (csLast (tyL tyPass)) 1) hc
def t_sense_of (K : PySem.W.Frag) : TS := (tSeq (tAsg (tCall (sp_picked_signs K) [] E0 (tCons (mVar 0) tNil)) (gName 1)) (tSeq (mIfS (mTest (tOp mIs (mVar 1) (tC .non))) (tRet (tC .non)) tNext) (tSeq (tAsg (tLst tNil) (gName 2)) (tSeq (tFor (iRev K (tCons (mVar 0) tNil)) (gName 3) (mIfS (mAnd (mTest (tOp (mEqK K) (tOp (mIx K) (mVar 3) (tC (.int 0))) (tC (tx [100, 101, 97, 108])))) (mAnd (mTest (mDIn true (tOp (mIx K) (mVar 3) (tC (.int 1))) (mVar 1))) (mTest (tOp (mIn K true) (tOp (mIx K) (mVar 3) (tC (.int 1))) (mVar 2))))) (tDrop (tBM K "list" rAppend (mVar 2) (tCons (tOp (mIx K) (mVar 3) (tC (.int 1))) tNil))) tNext)) (tRet (tTup (tCons (mVar 1) (tCons (mVar 2) tNil))))))))
abbrev RD_sense_of (K : PySem.W.Frag) : Prop := ∀ vs H Q E, sp_sense_of K vs H Q E → t_sense_of K { nx := fun _ H' => Q .non H', rt := Q } (start ["row", "signs", "columns", "step"] vs) H
theorem len_sense_of {K : PySem.W.Frag} : ∀ vs H Q E, sp_sense_of K vs H Q E → vs.length = 1 := by
  rintro vs H Q E ⟨F, c, _, hc, _⟩; exact (csn_last : CsN (csLast (tyL tyPass)) 1) hc
def t_law_in_turn (K : PySem.W.Frag) : TS := (tSeq (tFor (iAny K (mVar 2)) (gName 4) (mIfS (mTest (tOp (mNeK K) (tOp (mIx K) (mVar 0) (tOp mSub (mVar 4) (tC (.int 1)))) (tOp (mIx K) (mVar 1) (tOp mSub (mVar 4) (tC (.int 1)))))) (tRet (tOp (mLtK K) (tOp (mIx K) (mVar 0) (tOp mSub (mVar 4) (tC (.int 1)))) (tOp (mIx K) (mVar 1) (tOp mSub (mVar 4) (tC (.int 1)))))) tNext)) (tRet (tOp (mLtK K) (mDGet (mVar 3) (mVar 0)) (mDGet (mVar 3) (mVar 1)))))
abbrev RD_law_in_turn (K : PySem.W.Frag) : Prop := ∀ vs H Q E, sp_law_in_turn K vs H Q E → t_law_in_turn K { nx := fun _ H' => Q .non H', rt := Q } (start ["_law_card", "_law_other", "_law_key", "_law_places", "_law_column"] vs) H
theorem len_law_in_turn {K : PySem.W.Frag} : ∀ vs H Q E, sp_law_in_turn K vs H Q E → vs.length = 4 := by
  rintro vs H Q E ⟨F, c, _, hc, _⟩; exact ((csn_cons (csn_cons (csn_cons csn_last))) : CsN (csCons tyStr (csCons tyStr (csCons (tyL tyInt) (csLast (tyD kStr tyInt))))) 4) hc
def t_law_fits (K : PySem.W.Frag) : TS := (tSeq (mForD (mVar 1) (gTupM K 2 (gConsM (gName 2) (gConsM (gName 3) gNilM))) (mIfS (mTest (tOp (mNeK K) (tOp (mIx K) (mVar 0) (tOp mSub (mVar 2) (tC (.int 1)))) (mVar 3))) (tRet (tC (.bl false))) tNext)) (tRet (tC (.bl true))))
abbrev RD_law_fits (K : PySem.W.Frag) : Prop := ∀ vs H Q E, sp_law_fits K vs H Q E → t_law_fits K { nx := fun _ H' => Q .non H', rt := Q } (start ["_law_card", "_law_picks", "_law_column", "_law_sign"] vs) H
theorem len_law_fits {K : PySem.W.Frag} : ∀ vs H Q E, sp_law_fits K vs H Q E → vs.length = 2 := by
  rintro vs H Q E ⟨F, c, _, hc, _⟩; exact ((csn_cons csn_last) : CsN (csCons tyStr (csLast (tyOpt (tyD kInt tyStr)))) 2) hc
def t_law_told (K : PySem.W.Frag) : TS := (tSeq (mIfS (tNot (mTest (tCB (mIsa K) (tCons (mVar 0) (tCons (tC (.ty "list")) tNil))))) (tRet (tC (.bl false))) tNext) (tSeq (mIfS (mTest (tOp mIs (mVar 1) (tC .non))) (tRet (tOp (mEqK K) (mVar 0) (tLst tNil))) tNext) (tSeq (mIfS (mTest (tOp (mNeK K) (tCB (mLen K) (tCons (mVar 0) tNil)) (tCB (mLen K) (tCons (tComp ["_law_card"] [("_law_sense", 1)] (iAny K (mVar 2)) (gName 0) (mTest (tCall (sp_law_fits K) [] E0 (tCons (mVar 0) (tCons (tOp (mIx K) (mVar 1) (tC (.int 0))) tNil)))) (mVar 0)) tNil)))) (tRet (tC (.bl false))) tNext) (tSeq (tAsg tDNewK (gName 3)) (tSeq (tFor (mRng1 (tCons (tCB (mLen K) (tCons (mVar 2) tNil)) tNil)) (gName 4) (mDPut (mVar 3) (tOp (mIx K) (mVar 2) (mVar 4)) (mVar 4))) (tSeq (tFor (iAny K (mVar 0)) (gName 5) (mIfS (mOr (tNot (mTest (tCB (mIsa K) (tCons (mVar 5) (tCons (tC (.ty "str")) tNil))))) (mOr (mTest (mDIn true (mVar 5) (mVar 3))) (tNot (mTest (tCall (sp_law_fits K) [] E0 (tCons (mVar 5) (tCons (tOp (mIx K) (mVar 1) (tC (.int 0))) tNil))))))) (tRet (tC (.bl false))) tNext)) (tSeq (tFor (iZipX K (tCons (tSl (mSl K) (mVar 0) tNoPart (mPart (mNeg (tC (.int 1))))) (tCons (tSl (mSl K) (mVar 0) (mPart (tC (.int 1))) tNoPart) tNil))) (gTupM K 2 (gConsM (gName 5) (gConsM (gName 6) gNilM))) (mIfS (tNot (mTest (tCall (sp_law_in_turn K) [] E0 (tCons (mVar 5) (tCons (mVar 6) (tCons (tOp (mIx K) (mVar 1) (tC (.int 1))) (tCons (mVar 3) tNil))))))) (tRet (tC (.bl false))) tNext)) (tRet (tC (.bl true))))))))))
abbrev RD_law_told (K : PySem.W.Frag) : Prop := ∀ vs H Q E, sp_law_told K vs H Q E → t_law_told K { nx := fun _ H' => Q .non H', rt := Q } (start ["_law_found", "_law_sense", "_law_deck_here", "_law_places", "_law_k", "_law_card", "_law_other"] vs) H
theorem len_law_told {K : PySem.W.Frag} : ∀ vs H Q E, sp_law_told K vs H Q E → vs.length = 3 := by
  rintro vs H Q E ⟨F, c, _, hc, _⟩; exact ((csn_cons (csn_cons csn_last)) : CsN (csCons (tyL tyStr) (csCons (tyOpt (tyTup (csCons (tyOpt (tyD kInt tyStr)) (csLast (tyL tyInt))))) (csLast (tyL tyStr)))) 3) hc
def t_law_pass (K : PySem.W.Frag) : TS := (tSeq (tAsg (tC (tx SG)) (gName 5)) (tSeq (tAsg (tOp mAdd (tOp mMod (mVar 0) (tC (.int 2147483647))) (tC (.int 69621))) (gName 6)) (tSeq (tAsg (tOp mMod (tOp mMulX (mVar 6) (mVar 6)) (tC (.int 2147483629))) (gName 6)) (tSeq (tAsg (tOp mAdd (tC (.int 1)) (tOp mMod (tOp mAdd (mVar 2) (tOp mMod (tOp mDivG (mVar 6) (tC (.int 8))) (mVar 3))) (tC (.int 36)))) (gName 7)) (tSeq (mIfS (mTest (tOp mGe (tOp mMod (mVar 6) (tC (.int 8))) (mVar 4))) (tRet (tTup (tCons (tC (tx [100, 101, 97, 108])) (tCons (mVar 7) tNil)))) tNext) (tSeq (mIfS (mTest (tOp (mEqK K) (tOp mMod (tOp mDivG (mVar 6) (tC (.int 512))) (tC (.int 7))) (tC (.int 1)))) (tRet (tTup (tCons (tC (tx [112, 105, 99, 107])) (tCons (mVar 7) (tCons (tOp (mIx K) (mVar 5) (tOp mMod (tOp mDivG (mVar 6) (tC (.int 4096))) (tC (.int 37)))) tNil))))) tNext) (tRet (tTup (tCons (tC (tx [112, 105, 99, 107])) (tCons (mVar 7) (tCons (tOp (mIx K) (mVar 1) (tOp mSub (mVar 7) (tC (.int 1)))) tNil)))))))))))
abbrev RD_law_pass (K : PySem.W.Frag) : Prop := ∀ vs H Q E, sp_law_pass K vs H Q E → t_law_pass K { nx := fun _ H' => Q .non H', rt := Q } (start ["_law_cell", "_law_hero", "_law_start", "_law_reach", "_law_share", "_law_signs", "_law_number", "_law_column"] vs) H
theorem len_law_pass {K : PySem.W.Frag} : ∀ vs H Q E, sp_law_pass K vs H Q E → vs.length = 5 := by
  rintro vs H Q E ⟨F, c, _, hc, _⟩; exact ((csn_cons (csn_cons (csn_cons (csn_cons csn_last)))) : CsN (csCons tyInt (csCons tyStr (csCons tyInt (csCons tyInt (csLast tyInt))))) 5) hc
def t_law (K : PySem.W.Frag) : TS := (tSeq (tAsg (tOp mMod (tCall (sp_law_cell_at K) [] E0 (tCons (mVar 0) (tCons (tC (.int 0)) tNil))) (tC (.int 10))) (gName 1)) (tSeq (mIfS (mTest (tOp (mEqK K) (tOp mMod (tOp mDivG (tCall (sp_law_cell_at K) [] E0 (tCons (mVar 0) (tCons (tC (.int 0)) tNil))) (tC (.int 10))) (tC (.int 4))) (tC (.int 1)))) (tAsg (tOp mAdd (tC (.int 10)) (tOp mMod (tOp mDivG (tCall (sp_law_cell_at K) [] E0 (tCons (mVar 0) (tCons (tC (.int 0)) tNil))) (tC (.int 40))) (tC (.int 15)))) (gName 1)) tNext) (tSeq (tAsg (tOp (mIx K) (tLst (tCons (tC (.int 2)) (tCons (tC (.int 3)) (tCons (tC (.int 1)) (tCons (tC (.int 37)) tNil))))) (tOp mMod (tCall (sp_law_cell_at K) [] E0 (tCons (mVar 0) (tCons (tC (.int 2)) tNil))) (tC (.int 4)))) (gName 2)) (tSeq (tAsg (tOp mMod (tOp mDivG (tCall (sp_law_cell_at K) [] E0 (tCons (mVar 0) (tCons (tC (.int 2)) tNil))) (tC (.int 4))) (tC (.int 36))) (gName 3)) (tSeq (tAsg (tCall (sp_law_deck K) [] E0 (tCons (tCall (sp_law_cell_at K) [] E0 (tCons (mVar 0) (tCons (tC (.int 1)) tNil))) (tCons (mVar 1) (tCons (mVar 2) tNil)))) (gName 4)) (tSeq (tAsg (tOp (mIx K) (tOp mAdd (mVar 4) (tLst (tCons (tOp mMulX (tC (tx [32])) (tC (.int 40))) tNil))) (tC (.int 0))) (gName 5)) (tSeq (tAsg (tCall (sp_law_cell_at K) [] E0 (tCons (mVar 0) (tCons (tC (.int 3)) tNil))) (gName 6)) (tSeq (tAsg (tOp (mIx K) (tLst (tCons (tC (.int 2)) (tCons (tC (.int 1)) (tCons (tC (.int 4)) (tCons (tC (.int 36)) tNil))))) (tOp mMod (mVar 6) (tC (.int 4)))) (gName 7)) (tSeq (tAsg (tLst tNil) (gName 8)) (tSeq (tFor (iAny K (tSl (mSl K) (mVar 0) (mPart (tC (.int 4))) (mPart (tC (.int 104))))) (gName 9) (tDrop (tBM K "list" rAppend (mVar 8) (tCons (tCall (sp_law_pass K) [] E0 (tCons (mVar 9) (tCons (mVar 5) (tCons (mVar 3) (tCons (mVar 7) (tCons (tOp (mIx K) (tLst (tCons (tC (.int 2)) (tCons (tC (.int 0)) (tCons (tC (.int 4)) tNil)))) (tOp mMod (tOp mDivG (mVar 6) (tC (.int 4))) (tC (.int 3)))) tNil)))))) tNil)))) (tSeq (tAsg (tCB (mList K) (tCons (mVar 4) tNil)) (gName 10)) (tSeq (tAsg (tCall (sp_pass_all K) [] E0 (tCons (mVar 10) (tCons (mVar 8) tNil))) (gName 11)) (tSeq (tAsg (tCall (sp_sense_of K) [] E0 (tCons (mVar 8) tNil)) (gName 12)) (tSeq (mIfS (mOr (mTest (tOp (mNeK K) (mVar 10) (mVar 4))) (tNot (mTest (tCall (sp_law_told K) [] E0 (tCons (mVar 11) (tCons (mVar 12) (tCons (mVar 4) tNil))))))) (tRet (tC (.bl false))) tNext) (tSeq (tAsg (tRev K (mVar 8) (mPart (mNeg (tC (.int 1))))) (gName 13)) (tSeq (mIfS (tNot (mTest (tCall (sp_law_told K) [] E0 (tCons (tCall (sp_pass_all K) [] E0 (tCons (mVar 4) (tCons (mVar 13) tNil))) (tCons (tCall (sp_sense_of K) [] E0 (tCons (mVar 13) tNil)) (tCons (mVar 4) tNil)))))) (tRet (tC (.bl false))) tNext) (tRet (tCall (sp_law_told K) [] E0 (tCons (mVar 11) (tCons (mVar 12) (tCons (mVar 4) tNil)))))))))))))))))))))
abbrev RD_law (K : PySem.W.Frag) : Prop := ∀ vs H Q E, sp_law K vs H Q E → t_law K { nx := fun _ H' => Q .non H', rt := Q } (start ["_law_script", "_law_many", "_law_spread", "_law_start", "_law_deck_here", "_law_hero", "_law_ways", "_law_reach", "_law_row", "_law_cell", "_law_handed", "_law_found", "_law_sense", "_law_back"] vs) H
theorem len_law {K : PySem.W.Frag} : ∀ vs H Q E, sp_law K vs H Q E → vs.length = 1 := by
  intro vs H Q E h; obtain ⟨a, ns, rfl, _⟩ := h; rfl
end K16
namespace K16
open PySem PySem.Spec PyProof.Rows L2
section
variable {P : Program} {w : World} {K : PySem.W.Frag} {mg : Str → Option Value} {base : Heap}
theorem sc_law_stream : FnScope ["_law_cell", "_law_many", "_law_found", "_law_number", "_law_k"] ["_law_cell", "_law_many"] (defScope s_law_stream) := ⟨rfl, rfl, rfl, by decide +kernel, rfl, by decide +kernel, by decide +kernel⟩
theorem tm_law_stream (B_range : Gb mg "range") {cdv : Value} {A : Around} {outer : List Env} {s : Shared} {H : Hp} {E : XK} {f : Addr} (hr : Room 0 (A.deeper (envOfC "_law_stream" (defScope s_law_stream) s.heap.objs.size f cdv))) :
    (PSs (cxOf CX0 P w K mg base ["_law_cell", "_law_many", "_law_found", "_law_number", "_law_k"] "_law_stream" (defScope s_law_stream) f cdv A outer s H E).nox (defBody s_law_stream) (t_law_stream K)) := 
  (pss_cons (ps_set (i := 2) sc_law_stream.nd rfl (by first | exact Or.inl rfl | exact Or.inr rfl) (pe_lst pa_nil)) (pss_cons (ps_set (i := 3) sc_law_stream.nd rfl (by first | exact Or.inl rfl | exact Or.inr rfl) (pe_op op_addM (pe_op op_modM (pe_mvar 0) pe_int) pe_int)) (pss_cons (ps_for PassesOwn.never rfl (pi_rngM1 B_range (pa_cons (pe_mvar 1) pa_nil)) (pg_name (i := 4) sc_law_stream.nd rfl (by first | exact Or.inl rfl | exact Or.inr rfl)) (pss_cons (ps_set (i := 3) sc_law_stream.nd rfl (by first | exact Or.inl rfl | exact Or.inr rfl) (pe_op op_modM (pe_op op_addM (pe_op op_addM (pe_op op_mulX (pe_mvar 3) (pe_mvar 3)) (pe_op op_mulX pe_int (pe_mvar 3))) (pe_mvar 4)) pe_int)) (pss_one (ps_expr (pe_bm PySem.F.plainAttrs_list PySem.F.slot_list_append PySem.F.type_list_append mt_append (pe_mvar 2) (pa_cons (pe_mvar 3) pa_nil)))))) (pss_one (ps_ret (pe_mvar 2))))))
theorem ok_law_stream (B_range : Gb mg "range") {f : Addr} {fd : FuncData} (F : Fun K "_law_stream" "_law_stream" s_law_stream f fd) (len : ∀ vs H Q E, sp_law_stream K vs H Q E → vs.length = 2)
    (rd : ∀ vs H Q E, sp_law_stream K vs H Q E → t_law_stream K { nx := fun _ H' => Q .non H', rt := Q } (start ["_law_cell", "_law_many", "_law_found", "_law_number", "_law_k"] vs) H) : FnOk P w K mg base CX0 1 f fd ["_law_cell", "_law_many"] (sp_law_stream K) := by
  refine F.ok sc_law_stream len (fun cdv A outer s H vs Q E hr h => ⟨_, tm_law_stream B_range hr, rd vs H Q E h⟩)
theorem sc_law_deck : FnScope ["_law_cell", "_law_many", "_law_spread", "_law_signs", "_law_numbers", "_law_deck_here", "_law_k", "_law_text", "_law_at", "_law_step", "_law_mark"] ["_law_cell", "_law_many", "_law_spread"] (defScope s_law_deck) := ⟨rfl, rfl, rfl, by decide +kernel, rfl, by decide +kernel, by decide +kernel⟩
theorem tm_law_deck (G_law_stream : Gd P w K mg base CX0 1 "_law_stream" ["_law_cell", "_law_many"] (sp_law_stream K)) (B_range : Gb mg "range") {cdv : Value} {A : Around} {outer : List Env} {s : Shared} {H : Hp} {E : XK} {f : Addr} (hr : Room 1 (A.deeper (envOfC "_law_deck" (defScope s_law_deck) s.heap.objs.size f cdv))) :
    (PSs (cxOf CX0 P w K mg base ["_law_cell", "_law_many", "_law_spread", "_law_signs", "_law_numbers", "_law_deck_here", "_law_k", "_law_text", "_law_at", "_law_step", "_law_mark"] "_law_deck" (defScope s_law_deck) f cdv A outer s H E).nox (defBody s_law_deck) (t_law_deck K)) := 
  (pss_cons (ps_set (i := 3) sc_law_deck.nd rfl (by first | exact Or.inl rfl | exact Or.inr rfl) (pe_txt (l := SG))) (pss_cons (ps_set (i := 4) sc_law_deck.nd rfl (by first | exact Or.inl rfl | exact Or.inr rfl) (pe_callG G_law_stream (hr.mono (j := 1) (by decide)) (pa_cons (pe_mvar 0) (pa_cons (pe_op op_mulX pe_int (pe_mvar 1)) pa_nil)))) (pss_cons (ps_set (i := 5) sc_law_deck.nd rfl (by first | exact Or.inl rfl | exact Or.inr rfl) (pe_lst pa_nil)) (pss_cons (ps_for PassesOwn.never rfl (pi_rngM1 B_range (pa_cons (pe_mvar 1) pa_nil)) (pg_name (i := 6) sc_law_deck.nd rfl (by first | exact Or.inl rfl | exact Or.inr rfl)) (pss_cons (ps_set (i := 7) sc_law_deck.nd rfl (by first | exact Or.inl rfl | exact Or.inr rfl) (pe_txt (l := []))) (pss_cons (ps_for PassesOwn.never rfl (pi_rngM1 B_range (pa_cons pe_int pa_nil)) (pg_name (i := 8) sc_law_deck.nd rfl (by first | exact Or.inl rfl | exact Or.inr rfl)) (pss_cons (ps_set (i := 9) sc_law_deck.nd rfl (by first | exact Or.inl rfl | exact Or.inr rfl) (pe_op op_modM (pe_op op_divG (pe_ix ix_M (pe_mvar 4) (pe_op op_addM (pe_op op_mulX pe_int (pe_mvar 6)) (pe_mvar 8)) (fun _ _ => rfl)) pe_int) (pe_mvar 2))) (pss_one (ps_set (i := 7) sc_law_deck.nd rfl (by first | exact Or.inl rfl | exact Or.inr rfl) (pe_op op_addM (pe_mvar 7) (pe_ix ix_M (pe_mvar 3) (pe_op op_modM (pe_op op_addM (pe_mvar 0) (pe_mvar 9)) pe_int) (fun _ _ => rfl))))))) (pss_cons (ps_set (i := 10) sc_law_deck.nd rfl (by first | exact Or.inl rfl | exact Or.inr rfl) (pe_op op_mulX (pe_lst (pa_cons (pe_ix ix_M (pe_mvar 3) (pe_op op_modM (pe_op op_divG (pe_mvar 0) pe_int) pe_int) (fun _ _ => rfl)) pa_nil)) pe_int)) (pss_cons (ps_asg (pe_ix ix_M (pe_mvar 3) (pe_op op_modM (pe_op op_addM (pe_mvar 0) (pe_mvar 6)) pe_int) (fun _ _ => rfl)) (pg_sub (pe_mvar 10) (pe_op op_modM (pe_mvar 0) pe_int) set_M)) (pss_one (ps_expr (pe_bm PySem.F.plainAttrs_list PySem.F.slot_list_append PySem.F.type_list_append mt_append (pe_mvar 5) (pa_cons (pe_op op_addM (pe_mvar 7) (pe_sm PySem.F.slot_str_join PySem.F.type_str_join mt_join (pe_txt (l := [])) (pa_cons (pe_mvar 10) pa_nil))) pa_nil))))))))) (pss_one (ps_ret (pe_mvar 5)))))))
theorem ok_law_deck (G_law_stream : Gd P w K mg base CX0 1 "_law_stream" ["_law_cell", "_law_many"] (sp_law_stream K)) (B_range : Gb mg "range") {f : Addr} {fd : FuncData} (F : Fun K "_law_deck" "_law_deck" s_law_deck f fd) (len : ∀ vs H Q E, sp_law_deck K vs H Q E → vs.length = 3)
    (rd : ∀ vs H Q E, sp_law_deck K vs H Q E → t_law_deck K { nx := fun _ H' => Q .non H', rt := Q } (start ["_law_cell", "_law_many", "_law_spread", "_law_signs", "_law_numbers", "_law_deck_here", "_law_k", "_law_text", "_law_at", "_law_step", "_law_mark"] vs) H) : FnOk P w K mg base CX0 2 f fd ["_law_cell", "_law_many", "_law_spread"] (sp_law_deck K) := by
  refine F.ok sc_law_deck len (fun cdv A outer s H vs Q E hr h => ⟨_, tm_law_deck G_law_stream B_range hr, rd vs H Q E h⟩)
theorem sc_law_cell_at : FnScope ["_law_script", "_law_k"] ["_law_script", "_law_k"] (defScope s_law_cell_at) := ⟨rfl, rfl, rfl, by decide +kernel, rfl, by decide +kernel, by decide +kernel⟩
theorem tm_law_cell_at (B_len : Gb mg "len") {cdv : Value} {A : Around} {outer : List Env} {s : Shared} {H : Hp} {E : XK} {f : Addr} (hr : Room 0 (A.deeper (envOfC "_law_cell_at" (defScope s_law_cell_at) s.heap.objs.size f cdv))) :
    (PSs (cxOf CX0 P w K mg base ["_law_script", "_law_k"] "_law_cell_at" (defScope s_law_cell_at) f cdv A outer s H E).nox (defBody s_law_cell_at) (t_law_cell_at K)) := 
  (pss_cons (ps_ifM (pt_cmpM (op_ltK hr.u60) (pe_mvar 1) (pe_bf call_lenM B_len (pa_cons (pe_mvar 0) pa_nil))) (pss_one (ps_ret (pe_ix ix_M (pe_mvar 0) (pe_mvar 1) (fun _ _ => rfl)))) pss_nil) (pss_one (ps_ret pe_int)))
theorem ok_law_cell_at (B_len : Gb mg "len") {f : Addr} {fd : FuncData} (F : Fun K "_law_cell_at" "_law_cell_at" s_law_cell_at f fd) (len : ∀ vs H Q E, sp_law_cell_at K vs H Q E → vs.length = 2)
    (rd : ∀ vs H Q E, sp_law_cell_at K vs H Q E → t_law_cell_at K { nx := fun _ H' => Q .non H', rt := Q } (start ["_law_script", "_law_k"] vs) H) : FnOk P w K mg base CX0 1 f fd ["_law_script", "_law_k"] (sp_law_cell_at K) := by
  refine F.ok sc_law_cell_at len (fun cdv A outer s H vs Q E hr h => ⟨_, tm_law_cell_at B_len hr, rd vs H Q E h⟩)
theorem sc_gather : FnScope ["some", "deck", "pocket"] ["some"] (defScope s_gather) := ⟨rfl, rfl, rfl, by decide +kernel, rfl, by decide +kernel, by decide +kernel⟩
theorem tm_gather  {cdv : Value} {A : Around} {outer : List Env} {s : Shared} {H : Hp} {E : XK} {f : Addr} (hr : Room 0 (A.deeper (envOfC "gather" (defScope s_gather) s.heap.objs.size f cdv))) :
    (PSs (cxOf CX0 P w K mg base ["some", "deck", "pocket"] "gather" (defScope s_gather) f cdv A outer s H E).nox (defBody s_gather) (t_gather K)) := 
  (pss_cons (ps_set (i := 1) sc_gather.nd rfl (by first | exact Or.inl rfl | exact Or.inr rfl) (pe_lst pa_nil)) (pss_cons (ps_for PassesOwn.never rfl (pi_any (pe_mvar 0)) (pg_name (i := 2) sc_gather.nd rfl (by first | exact Or.inl rfl | exact Or.inr rfl)) (pss_one (ps_expr (pe_bm PySem.F.plainAttrs_list PySem.F.slot_list_extend PySem.F.type_list_extend mt_extend (pe_mvar 1) (pa_cons (pe_mvar 2) pa_nil))))) (pss_one (ps_ret (pe_mvar 1)))))
theorem ok_gather  {f : Addr} {fd : FuncData} (F : Fun K "gather" "gather" s_gather f fd) (len : ∀ vs H Q E, sp_gather K vs H Q E → vs.length = 1)
    (rd : ∀ vs H Q E, sp_gather K vs H Q E → t_gather K { nx := fun _ H' => Q .non H', rt := Q } (start ["some", "deck", "pocket"] vs) H) : FnOk P w K mg base CX0 1 f fd ["some"] (sp_gather K) := by
  refine F.ok sc_gather len (fun cdv A outer s H vs Q E hr h => ⟨_, tm_gather  hr, rd vs H Q E h⟩)
theorem sc_is_sign : FnScope ["text"] ["text"] (defScope s_is_sign) := ⟨rfl, rfl, rfl, by decide +kernel, rfl, by decide +kernel, by decide +kernel⟩
theorem tm_is_sign (C_SIGNS : Gc mg "SIGNS" (tx SG)) (B_len : Gb mg "len") {cdv : Value} {A : Around} {outer : List Env} {s : Shared} {H : Hp} {E : XK} {f : Addr} (hr : Room 0 (A.deeper (envOfC "is_sign" (defScope s_is_sign) s.heap.objs.size f cdv))) :
    (PSs (cxOf CX0 P w K mg base ["text"] "is_sign" (defScope s_is_sign) f cdv A outer s H E).nox (defBody s_is_sign) (t_is_sign K)) := 
  (pss_one (ps_ret (pe_andM (pe_cmpM (op_eqK hr.u60) (pe_bf call_lenM B_len (pa_cons (pe_mvar 0) pa_nil)) pe_int) (pe_one (pe_cmpM op_inM (pe_mvar 0) (pe_gc C_SIGNS))))))
theorem ok_is_sign (C_SIGNS : Gc mg "SIGNS" (tx SG)) (B_len : Gb mg "len") {f : Addr} {fd : FuncData} (F : Fun K "is_sign" "is_sign" s_is_sign f fd) (len : ∀ vs H Q E, sp_is_sign K vs H Q E → vs.length = 1)
    (rd : ∀ vs H Q E, sp_is_sign K vs H Q E → t_is_sign K { nx := fun _ H' => Q .non H', rt := Q } (start ["text"] vs) H) : FnOk P w K mg base CX0 1 f fd ["text"] (sp_is_sign K) := by
  refine F.ok sc_is_sign len (fun cdv A outer s H vs Q E hr h => ⟨_, tm_is_sign C_SIGNS B_len hr, rd vs H Q E h⟩)
theorem sc_rank_of : FnScope ["sign"] ["sign"] (defScope s_rank_of) := ⟨rfl, rfl, rfl, by decide +kernel, rfl, by decide +kernel, by decide +kernel⟩
theorem tm_rank_of (G_is_sign : Gd P w K mg base CX0 1 "is_sign" ["text"] (sp_is_sign K)) (C_SIGNS : Gc mg "SIGNS" (tx SG)) (C_NoCard : Gc mg "NoCard" (.ref (gA K "NoCard"))) (M_NoCard : mg "NoCard" = some (.ref (gA K "NoCard"))) (Q_NoCard : excK K (gA K "NoCard") = true) {cdv : Value} {A : Around} {outer : List Env} {s : Shared} {H : Hp} {E : XK} {f : Addr} (hr : Room 1 (A.deeper (envOfC "rank_of" (defScope s_rank_of) s.heap.objs.size f cdv))) :
    (PSs (cxOf (CXx P w) P w K mg base ["sign"] "rank_of" (defScope s_rank_of) f cdv A outer s H E) (defBody s_rank_of) (t_rank_of K E)) := 
  (pss_cons (ps_ifM (pt_not (pt_valM (pe_callG G_is_sign (hr.mono (j := 1) (by decide)) (pa_cons (pe_mvar 0) pa_nil)))) (pss_one (ps_raise takes_cx rfl Q_NoCard M_NoCard (pa_cons (pe_joined (pj_cons (pe_fvr (pe_mvar 0)) (pj_cons (pe_txt (l := [32, 105, 115, 32, 110, 111, 32, 115, 105, 103, 110])) pj_nil))) pa_nil))) pss_nil) (pss_one (ps_ret (pe_sm PySem.F.slot_str_index PySem.F.type_str_index mt_index (pe_gc C_SIGNS) (pa_cons (pe_mvar 0) pa_nil)))))
theorem ok_rank_of (G_is_sign : Gd P w K mg base CX0 1 "is_sign" ["text"] (sp_is_sign K)) (C_SIGNS : Gc mg "SIGNS" (tx SG)) (C_NoCard : Gc mg "NoCard" (.ref (gA K "NoCard"))) (M_NoCard : mg "NoCard" = some (.ref (gA K "NoCard"))) (Q_NoCard : excK K (gA K "NoCard") = true) {f : Addr} {fd : FuncData} (F : Fun K "rank_of" "rank_of" s_rank_of f fd) (len : ∀ vs H Q E, sp_rank_of K vs H Q E → vs.length = 1)
    (rd : ∀ vs H Q E, sp_rank_of K vs H Q E → t_rank_of K E { nx := fun _ H' => Q .non H', rt := Q } (start ["sign"] vs) H) : FnOk P w K mg base (CXx P w) 2 f fd ["sign"] (sp_rank_of K) := by
  refine F.okX sc_rank_of len (fun cdv A outer s H vs Q E hr h => ⟨_, tm_rank_of G_is_sign C_SIGNS C_NoCard M_NoCard Q_NoCard hr, rd vs H Q E h⟩)
theorem sc_sign_at : FnScope ["card", "column"] ["card", "column"] (defScope s_sign_at) := ⟨rfl, rfl, rfl, by decide +kernel, rfl, by decide +kernel, by decide +kernel⟩
theorem tm_sign_at  {cdv : Value} {A : Around} {outer : List Env} {s : Shared} {H : Hp} {E : XK} {f : Addr} (hr : Room 0 (A.deeper (envOfC "sign_at" (defScope s_sign_at) s.heap.objs.size f cdv))) :
    (PSs (cxOf CX0 P w K mg base ["card", "column"] "sign_at" (defScope s_sign_at) f cdv A outer s H E).nox (defBody s_sign_at) (t_sign_at K)) := 
  (pss_one (ps_ret (pe_ix ix_M (pe_mvar 0) (pe_op op_subM (pe_mvar 1) pe_int) (fun _ _ => rfl))))
theorem ok_sign_at  {f : Addr} {fd : FuncData} (F : Fun K "sign_at" "sign_at" s_sign_at f fd) (len : ∀ vs H Q E, sp_sign_at K vs H Q E → vs.length = 2)
    (rd : ∀ vs H Q E, sp_sign_at K vs H Q E → t_sign_at K { nx := fun _ H' => Q .non H', rt := Q } (start ["card", "column"] vs) H) : FnOk P w K mg base CX0 1 f fd ["card", "column"] (sp_sign_at K) := by
  refine F.ok sc_sign_at len (fun cdv A outer s H vs Q E hr h => ⟨_, tm_sign_at  hr, rd vs H Q E h⟩)
theorem sc_pockets_of : FnScope ["deck", "column", "pockets", "card"] ["deck", "column"] (defScope s_pockets_of) := ⟨rfl, rfl, rfl, by decide +kernel, rfl, by decide +kernel, by decide +kernel⟩
theorem tm_pockets_of (G_rank_of : Gd P w K mg base (CXx P w) 2 "rank_of" ["sign"] (sp_rank_of K)) (G_sign_at : Gd P w K mg base CX0 1 "sign_at" ["card", "column"] (sp_sign_at K)) (C_SIGNS : Gc mg "SIGNS" (tx SG)) {cdv : Value} {A : Around} {outer : List Env} {s : Shared} {H : Hp} {E : XK} {f : Addr} (hr : Room 2 (A.deeper (envOfC "pockets_of" (defScope s_pockets_of) s.heap.objs.size f cdv))) :
    (PSs (cxOf (CXx P w) P w K mg base ["deck", "column", "pockets", "card"] "pockets_of" (defScope s_pockets_of) f cdv A outer s H E) (defBody s_pockets_of) (t_pockets_of K E)) := 
  (pss_cons (ps_setcomp (cl := []) (lv := ["sign"]) (fr := []) rfl ⟨rfl, by decide +kernel, rfl, by decide +kernel, (by intro q hq; cases hq)⟩ (pi_any (pe_gc C_SIGNS)) (fun _ _ _ _ => (pg_name (i := 0) (show List.Nodup (["sign"] : List Str) from by decide +kernel) rfl (Or.inl rfl))) (fun _ _ _ _ => pif_nil) (fun _ _ _ _ => (pe_lst pa_nil)) (pg_name (i := 2) sc_pockets_of.nd rfl (by first | exact Or.inl rfl | exact Or.inr rfl))) (pss_cons (ps_for PassesOwn.leaving rfl (pi_any (pe_mvar 0)) (pg_name (i := 3) sc_pockets_of.nd rfl (by first | exact Or.inl rfl | exact Or.inr rfl)) (pss_one (ps_expr (pe_bm PySem.F.plainAttrs_list PySem.F.slot_list_append PySem.F.type_list_append mt_append (pe_ix ix_M (pe_mvar 2) (pe_callX G_rank_of (hr.mono (j := 2) (by decide)) passes_cx (pa_cons (pe_callG G_sign_at (hr.mono (j := 1) (by decide)) (pa_cons (pe_mvar 3) (pa_cons (pe_mvar 1) pa_nil))) pa_nil)) (fun _ _ => rfl)) (pa_cons (pe_mvar 3) pa_nil))))) (pss_one (ps_ret (pe_mvar 2)))))
theorem ok_pockets_of (G_rank_of : Gd P w K mg base (CXx P w) 2 "rank_of" ["sign"] (sp_rank_of K)) (G_sign_at : Gd P w K mg base CX0 1 "sign_at" ["card", "column"] (sp_sign_at K)) (C_SIGNS : Gc mg "SIGNS" (tx SG)) {f : Addr} {fd : FuncData} (F : Fun K "pockets_of" "pockets_of" s_pockets_of f fd) (len : ∀ vs H Q E, sp_pockets_of K vs H Q E → vs.length = 2)
    (rd : ∀ vs H Q E, sp_pockets_of K vs H Q E → t_pockets_of K E { nx := fun _ H' => Q .non H', rt := Q } (start ["deck", "column", "pockets", "card"] vs) H) : FnOk P w K mg base (CXx P w) 3 f fd ["deck", "column"] (sp_pockets_of K) := by
  refine F.okX sc_pockets_of len (fun cdv A outer s H vs Q E hr h => ⟨_, tm_pockets_of G_rank_of G_sign_at C_SIGNS hr, rd vs H Q E h⟩)
theorem sc_deal_all : FnScope ["deck", "row", "dealt", "column"] ["deck", "row"] (defScope s_deal_all) := ⟨rfl, rfl, rfl, by decide +kernel, rfl, by decide +kernel, by decide +kernel⟩
theorem tm_deal_all (G_gather : Gd P w K mg base CX0 1 "gather" ["some"] (sp_gather K)) (G_pockets_of : Gd P w K mg base (CXx P w) 3 "pockets_of" ["deck", "column"] (sp_pockets_of K)) (B_list : Gb mg "list") {cdv : Value} {A : Around} {outer : List Env} {s : Shared} {H : Hp} {E : XK} {f : Addr} (hr : Room 3 (A.deeper (envOfC "deal_all" (defScope s_deal_all) s.heap.objs.size f cdv))) :
    (PSs (cxOf (CXx P w) P w K mg base ["deck", "row", "dealt", "column"] "deal_all" (defScope s_deal_all) f cdv A outer s H E) (defBody s_deal_all) (t_deal_all K E)) := 
  (pss_cons (ps_set (i := 2) sc_deal_all.nd rfl (by first | exact Or.inl rfl | exact Or.inr rfl) (pe_tf "list" (call_listM rfl) B_list (pa_cons (pe_mvar 0) pa_nil))) (pss_cons (ps_for PassesOwn.leaving rfl (pi_any (pe_mvar 1)) (pg_name (i := 3) sc_deal_all.nd rfl (by first | exact Or.inl rfl | exact Or.inr rfl)) (pss_one (ps_set (i := 2) sc_deal_all.nd rfl (by first | exact Or.inl rfl | exact Or.inr rfl) (pe_callG G_gather (hr.mono (j := 1) (by decide)) (pa_cons (pe_callX G_pockets_of (hr.mono (j := 3) (by decide)) passes_cx (pa_cons (pe_mvar 2) (pa_cons (pe_mvar 3) pa_nil))) pa_nil))))) (pss_one (ps_ret (pe_mvar 2)))))
theorem ok_deal_all (G_gather : Gd P w K mg base CX0 1 "gather" ["some"] (sp_gather K)) (G_pockets_of : Gd P w K mg base (CXx P w) 3 "pockets_of" ["deck", "column"] (sp_pockets_of K)) (B_list : Gb mg "list") {f : Addr} {fd : FuncData} (F : Fun K "deal_all" "deal_all" s_deal_all f fd) (len : ∀ vs H Q E, sp_deal_all K vs H Q E → vs.length = 2)
    (rd : ∀ vs H Q E, sp_deal_all K vs H Q E → t_deal_all K E { nx := fun _ H' => Q .non H', rt := Q } (start ["deck", "row", "dealt", "column"] vs) H) : FnOk P w K mg base (CXx P w) 4 f fd ["deck", "row"] (sp_deal_all K) := by
  refine F.okX sc_deal_all len (fun cdv A outer s H vs Q E hr h => ⟨_, tm_deal_all G_gather G_pockets_of B_list hr, rd vs H Q E h⟩)
theorem sc_pass_all : FnScope ["deck", "row", "gone", "step"] ["deck", "row"] (defScope s_pass_all) := ⟨rfl, rfl, rfl, by decide +kernel, rfl, by decide +kernel, by decide +kernel⟩
theorem tm_pass_all (G_deal_all : Gd P w K mg base (CXx P w) 4 "deal_all" ["deck", "row"] (sp_deal_all K)) (G_sign_at : Gd P w K mg base CX0 1 "sign_at" ["card", "column"] (sp_sign_at K)) (B_list : Gb mg "list") {cdv : Value} {A : Around} {outer : List Env} {s : Shared} {H : Hp} {E : XK} {f : Addr} (hr : Room 4 (A.deeper (envOfC "pass_all" (defScope s_pass_all) s.heap.objs.size f cdv))) :
    (PSs (cxOf (CXx P w) P w K mg base ["deck", "row", "gone", "step"] "pass_all" (defScope s_pass_all) f cdv A outer s H E) (defBody s_pass_all) (t_pass_all K E)) := 
  (pss_cons (ps_set (i := 2) sc_pass_all.nd rfl (by first | exact Or.inl rfl | exact Or.inr rfl) (pe_tf "list" (call_listM rfl) B_list (pa_cons (pe_mvar 0) pa_nil))) (pss_cons (ps_for PassesOwn.leaving rfl (pi_any (pe_mvar 1)) (pg_name (i := 3) sc_pass_all.nd rfl (by first | exact Or.inl rfl | exact Or.inr rfl)) (pss_one (ps_ifM (pt_cmpM (op_eqK hr.u60) (pe_ix ix_M (pe_mvar 3) pe_int (fun _ _ => rfl)) (pe_txt (l := [100, 101, 97, 108]))) (pss_one (ps_set (i := 2) sc_pass_all.nd rfl (by first | exact Or.inl rfl | exact Or.inr rfl) (pe_callX G_deal_all (hr.mono (j := 4) (by decide)) passes_cx (pa_cons (pe_mvar 2) (pa_cons (pe_lst (pa_cons (pe_ix ix_M (pe_mvar 3) pe_int (fun _ _ => rfl)) pa_nil)) pa_nil))))) (pss_one (ps_setcomp (cl := _) (lv := ["card"]) (fr := [("step", 3)]) rfl ⟨rfl, by decide +kernel, rfl, by decide +kernel, (fr_cons (by refine ⟨rfl, by decide +kernel, ?_, ?_⟩ <;> first | exact Or.inl rfl | exact Or.inr rfl) fr_nil)⟩ (pi_any (pe_mvar 2)) (fun _ _ _ _ => (pg_name (i := 0) (show List.Nodup (["card", "step"] : List Str) from by decide +kernel) rfl (Or.inl rfl))) (fun _ _ _ _ => (pif_one (pt_cmpM (op_eqK hr.u60) (pe_callG G_sign_at (hr.mono (j := 1) (by decide)) (pa_cons (pe_mvar 0) (pa_cons (pe_ix ix_M (pe_mvar 1) pe_int (fun _ _ => rfl)) pa_nil))) (pe_ix ix_M (pe_mvar 1) pe_int (fun _ _ => rfl))))) (fun _ _ _ _ => (pe_mvar 0)) (pg_name (i := 2) sc_pass_all.nd rfl (by first | exact Or.inl rfl | exact Or.inr rfl))))))) (pss_one (ps_ret (pe_mvar 2)))))
theorem ok_pass_all (G_deal_all : Gd P w K mg base (CXx P w) 4 "deal_all" ["deck", "row"] (sp_deal_all K)) (G_sign_at : Gd P w K mg base CX0 1 "sign_at" ["card", "column"] (sp_sign_at K)) (B_list : Gb mg "list") {f : Addr} {fd : FuncData} (F : Fun K "pass_all" "pass_all" s_pass_all f fd) (len : ∀ vs H Q E, sp_pass_all K vs H Q E → vs.length = 2)
    (rd : ∀ vs H Q E, sp_pass_all K vs H Q E → t_pass_all K E { nx := fun _ H' => Q .non H', rt := Q } (start ["deck", "row", "gone", "step"] vs) H) : FnOk P w K mg base (CXx P w) 5 f fd ["deck", "row"] (sp_pass_all K) := by
  refine F.okX sc_pass_all len (fun cdv A outer s H vs Q E hr h => ⟨_, tm_pass_all G_deal_all G_sign_at B_list hr, rd vs H Q E h⟩)
theorem sc_picked_signs : FnScope ["row", "signs", "step"] ["row"] (defScope s_picked_signs) := ⟨rfl, rfl, rfl, by decide +kernel, rfl, by decide +kernel, by decide +kernel⟩
theorem tm_picked_signs  {cdv : Value} {A : Around} {outer : List Env} {s : Shared} {H : Hp} {E : XK} {f : Addr} (hr : Room 0 (A.deeper (envOfC "picked_signs" (defScope s_picked_signs) s.heap.objs.size f cdv))) :
    (PSs (cxOf CX0 P w K mg base ["row", "signs", "step"] "picked_signs" (defScope s_picked_signs) f cdv A outer s H E).nox (defBody s_picked_signs) (t_picked_signs K)) := 
  (pss_cons (ps_set (i := 1) sc_picked_signs.nd rfl (by first | exact Or.inl rfl | exact Or.inr rfl) pe_dnewK) (pss_cons (ps_for PassesOwn.never rfl (pi_any (pe_mvar 0)) (pg_name (i := 2) sc_picked_signs.nd rfl (by first | exact Or.inl rfl | exact Or.inr rfl)) (pss_one (ps_ifM (pt_cmpM (op_eqK hr.u60) (pe_ix ix_M (pe_mvar 2) pe_int (fun _ _ => rfl)) (pe_txt (l := [112, 105, 99, 107]))) (pss_one (ps_ifM (pt_cmpM (op_neK hr.u60) (pe_setdM hr.u60 (pe_mvar 1) (pe_ix ix_M (pe_mvar 2) pe_int (fun _ _ => rfl)) (pe_ix ix_M (pe_mvar 2) pe_int (fun _ _ => rfl))) (pe_ix ix_M (pe_mvar 2) pe_int (fun _ _ => rfl))) (pss_one (ps_ret pe_non)) pss_nil)) pss_nil))) (pss_one (ps_ret (pe_mvar 1)))))
theorem ok_picked_signs  {f : Addr} {fd : FuncData} (F : Fun K "picked_signs" "picked_signs" s_picked_signs f fd) (len : ∀ vs H Q E, sp_picked_signs K vs H Q E → vs.length = 1)
    (rd : ∀ vs H Q E, sp_picked_signs K vs H Q E → t_picked_signs K { nx := fun _ H' => Q .non H', rt := Q } (start ["row", "signs", "step"] vs) H) : FnOk P w K mg base CX0 1 f fd ["row"] (sp_picked_signs K) := by
  refine F.ok sc_picked_signs len (fun cdv A outer s H vs Q E hr h => ⟨_, tm_picked_signs  hr, rd vs H Q E h⟩)
theorem sc_sense_of : FnScope ["row", "signs", "columns", "step"] ["row"] (defScope s_sense_of) := ⟨rfl, rfl, rfl, by decide +kernel, rfl, by decide +kernel, by decide +kernel⟩
theorem tm_sense_of (G_picked_signs : Gd P w K mg base CX0 1 "picked_signs" ["row"] (sp_picked_signs K)) (B_reversed : Gb mg "reversed") {cdv : Value} {A : Around} {outer : List Env} {s : Shared} {H : Hp} {E : XK} {f : Addr} (hr : Room 1 (A.deeper (envOfC "sense_of" (defScope s_sense_of) s.heap.objs.size f cdv))) :
    (PSs (cxOf CX0 P w K mg base ["row", "signs", "columns", "step"] "sense_of" (defScope s_sense_of) f cdv A outer s H E).nox (defBody s_sense_of) (t_sense_of K)) := 
  (pss_cons (ps_set (i := 1) sc_sense_of.nd rfl (by first | exact Or.inl rfl | exact Or.inr rfl) (pe_callG G_picked_signs (hr.mono (j := 1) (by decide)) (pa_cons (pe_mvar 0) pa_nil))) (pss_cons (ps_ifM (pt_cmpM op_isM (pe_mvar 1) pe_non) (pss_one (ps_ret pe_non)) pss_nil) (pss_cons (ps_set (i := 2) sc_sense_of.nd rfl (by first | exact Or.inl rfl | exact Or.inr rfl) (pe_lst pa_nil)) (pss_cons (ps_for PassesOwn.never rfl (pi_rev B_reversed (pa_cons (pe_mvar 0) pa_nil)) (pg_name (i := 3) sc_sense_of.nd rfl (by first | exact Or.inl rfl | exact Or.inr rfl)) (pss_one (ps_ifM (PW.pt (pw_andM (pt_cmpM (op_eqK hr.u60) (pe_ix ix_M (pe_mvar 3) pe_int (fun _ _ => rfl)) (pe_txt (l := [100, 101, 97, 108]))) (pw_andM (pt_dnotinM hr.u60 (pe_ix ix_M (pe_mvar 3) pe_int (fun _ _ => rfl)) (pe_mvar 1)) (pw_and1 (pt_cmpM op_notInM (pe_ix ix_M (pe_mvar 3) pe_int (fun _ _ => rfl)) (pe_mvar 2)))))) (pss_one (ps_expr (pe_bm PySem.F.plainAttrs_list PySem.F.slot_list_append PySem.F.type_list_append mt_append (pe_mvar 2) (pa_cons (pe_ix ix_M (pe_mvar 3) pe_int (fun _ _ => rfl)) pa_nil)))) pss_nil))) (pss_one (ps_ret (pe_tup (pa_cons (pe_mvar 1) (pa_cons (pe_mvar 2) pa_nil)))))))))
theorem ok_sense_of (G_picked_signs : Gd P w K mg base CX0 1 "picked_signs" ["row"] (sp_picked_signs K)) (B_reversed : Gb mg "reversed") {f : Addr} {fd : FuncData} (F : Fun K "sense_of" "sense_of" s_sense_of f fd) (len : ∀ vs H Q E, sp_sense_of K vs H Q E → vs.length = 1)
    (rd : ∀ vs H Q E, sp_sense_of K vs H Q E → t_sense_of K { nx := fun _ H' => Q .non H', rt := Q } (start ["row", "signs", "columns", "step"] vs) H) : FnOk P w K mg base CX0 2 f fd ["row"] (sp_sense_of K) := by
  refine F.ok sc_sense_of len (fun cdv A outer s H vs Q E hr h => ⟨_, tm_sense_of G_picked_signs B_reversed hr, rd vs H Q E h⟩)
theorem sc_law_in_turn : FnScope ["_law_card", "_law_other", "_law_key", "_law_places", "_law_column"] ["_law_card", "_law_other", "_law_key", "_law_places"] (defScope s_law_in_turn) := ⟨rfl, rfl, rfl, by decide +kernel, rfl, by decide +kernel, by decide +kernel⟩
theorem tm_law_in_turn  {cdv : Value} {A : Around} {outer : List Env} {s : Shared} {H : Hp} {E : XK} {f : Addr} (hr : Room 0 (A.deeper (envOfC "_law_in_turn" (defScope s_law_in_turn) s.heap.objs.size f cdv))) :
    (PSs (cxOf CX0 P w K mg base ["_law_card", "_law_other", "_law_key", "_law_places", "_law_column"] "_law_in_turn" (defScope s_law_in_turn) f cdv A outer s H E).nox (defBody s_law_in_turn) (t_law_in_turn K)) := 
  (pss_cons (ps_for PassesOwn.never rfl (pi_any (pe_mvar 2)) (pg_name (i := 4) sc_law_in_turn.nd rfl (by first | exact Or.inl rfl | exact Or.inr rfl)) (pss_one (ps_ifM (pt_cmpM (op_neK hr.u60) (pe_ix ix_M (pe_mvar 0) (pe_op op_subM (pe_mvar 4) pe_int) (fun _ _ => rfl)) (pe_ix ix_M (pe_mvar 1) (pe_op op_subM (pe_mvar 4) pe_int) (fun _ _ => rfl))) (pss_one (ps_ret (pe_cmpM (op_ltK hr.u60) (pe_ix ix_M (pe_mvar 0) (pe_op op_subM (pe_mvar 4) pe_int) (fun _ _ => rfl)) (pe_ix ix_M (pe_mvar 1) (pe_op op_subM (pe_mvar 4) pe_int) (fun _ _ => rfl))))) pss_nil))) (pss_one (ps_ret (pe_cmpM (op_ltK hr.u60) (pe_dgetM hr.u60 (pe_mvar 3) (pe_mvar 0)) (pe_dgetM hr.u60 (pe_mvar 3) (pe_mvar 1))))))
theorem ok_law_in_turn  {f : Addr} {fd : FuncData} (F : Fun K "_law_in_turn" "_law_in_turn" s_law_in_turn f fd) (len : ∀ vs H Q E, sp_law_in_turn K vs H Q E → vs.length = 4)
    (rd : ∀ vs H Q E, sp_law_in_turn K vs H Q E → t_law_in_turn K { nx := fun _ H' => Q .non H', rt := Q } (start ["_law_card", "_law_other", "_law_key", "_law_places", "_law_column"] vs) H) : FnOk P w K mg base CX0 1 f fd ["_law_card", "_law_other", "_law_key", "_law_places"] (sp_law_in_turn K) := by
  refine F.ok sc_law_in_turn len (fun cdv A outer s H vs Q E hr h => ⟨_, tm_law_in_turn  hr, rd vs H Q E h⟩)
theorem sc_law_fits : FnScope ["_law_card", "_law_picks", "_law_column", "_law_sign"] ["_law_card", "_law_picks"] (defScope s_law_fits) := ⟨rfl, rfl, rfl, by decide +kernel, rfl, by decide +kernel, by decide +kernel⟩
theorem tm_law_fits  {cdv : Value} {A : Around} {outer : List Env} {s : Shared} {H : Hp} {E : XK} {f : Addr} (hr : Room 0 (A.deeper (envOfC "_law_fits" (defScope s_law_fits) s.heap.objs.size f cdv))) :
    (PSs (cxOf CX0 P w K mg base ["_law_card", "_law_picks", "_law_column", "_law_sign"] "_law_fits" (defScope s_law_fits) f cdv A outer s H E).nox (defBody s_law_fits) (t_law_fits K)) := 
  (pss_cons (ps_forD PassesOwn.never rfl (pe_mvar 1) (pg_tupM (n := 2) rfl (pgs_consM (pg_name (i := 2) sc_law_fits.nd rfl (by first | exact Or.inl rfl | exact Or.inr rfl)) (pgs_consM (pg_name (i := 3) sc_law_fits.nd rfl (by first | exact Or.inl rfl | exact Or.inr rfl)) pgs_nilM))) (pss_one (ps_ifM (pt_cmpM (op_neK hr.u60) (pe_ix ix_M (pe_mvar 0) (pe_op op_subM (pe_mvar 2) pe_int) (fun _ _ => rfl)) (pe_mvar 3)) (pss_one (ps_ret pe_bl)) pss_nil))) (pss_one (ps_ret pe_bl)))
theorem ok_law_fits  {f : Addr} {fd : FuncData} (F : Fun K "_law_fits" "_law_fits" s_law_fits f fd) (len : ∀ vs H Q E, sp_law_fits K vs H Q E → vs.length = 2)
    (rd : ∀ vs H Q E, sp_law_fits K vs H Q E → t_law_fits K { nx := fun _ H' => Q .non H', rt := Q } (start ["_law_card", "_law_picks", "_law_column", "_law_sign"] vs) H) : FnOk P w K mg base CX0 1 f fd ["_law_card", "_law_picks"] (sp_law_fits K) := by
  refine F.ok sc_law_fits len (fun cdv A outer s H vs Q E hr h => ⟨_, tm_law_fits  hr, rd vs H Q E h⟩)
theorem sc_law_told : FnScope ["_law_found", "_law_sense", "_law_deck_here", "_law_places", "_law_k", "_law_card", "_law_other"] ["_law_found", "_law_sense", "_law_deck_here"] (defScope s_law_told) := ⟨rfl, rfl, rfl, by decide +kernel, rfl, by decide +kernel, by decide +kernel⟩
theorem tm_law_told (G_law_fits : Gd P w K mg base CX0 1 "_law_fits" ["_law_card", "_law_picks"] (sp_law_fits K)) (G_law_in_turn : Gd P w K mg base CX0 1 "_law_in_turn" ["_law_card", "_law_other", "_law_key", "_law_places"] (sp_law_in_turn K)) (B_isinstance : Gb mg "isinstance") (B_list : Gb mg "list") (B_len : Gb mg "len") (B_range : Gb mg "range") (B_str : Gb mg "str") (B_zip : Gb mg "zip") {cdv : Value} {A : Around} {outer : List Env} {s : Shared} {H : Hp} {E : XK} {f : Addr} (hr : Room 1 (A.deeper (envOfC "_law_told" (defScope s_law_told) s.heap.objs.size f cdv))) :
    (PSs (cxOf CX0 P w K mg base ["_law_found", "_law_sense", "_law_deck_here", "_law_places", "_law_k", "_law_card", "_law_other"] "_law_told" (defScope s_law_told) f cdv A outer s H E).nox (defBody s_law_told) (t_law_told K)) := 
  (pss_cons (ps_ifM (pt_not (pt_valM (pe_bf call_isa B_isinstance (pa_cons (pe_mvar 0) (pa_cons (pe_ty "list" B_list) pa_nil))))) (pss_one (ps_ret pe_bl)) pss_nil) (pss_cons (ps_ifM (pt_cmpM op_isM (pe_mvar 1) pe_non) (pss_one (ps_ret (pe_cmpM (op_eqK hr.u60) (pe_mvar 0) (pe_lst pa_nil)))) pss_nil) (pss_cons (ps_ifM (pt_cmpM (op_neK hr.u60) (pe_bf call_lenM B_len (pa_cons (pe_mvar 0) pa_nil)) (pe_bf call_lenM B_len (pa_cons (pe_comp (cl := _) (lv := ["_law_card"]) (fr := [("_law_sense", 1)]) rfl ⟨rfl, by decide +kernel, rfl, by decide +kernel, (fr_cons (by refine ⟨rfl, by decide +kernel, ?_, ?_⟩ <;> first | exact Or.inl rfl | exact Or.inr rfl) fr_nil)⟩ (pi_any (pe_mvar 2)) (fun _ _ _ _ => (pg_name (i := 0) (show List.Nodup (["_law_card", "_law_sense"] : List Str) from by decide +kernel) rfl (Or.inl rfl))) (fun _ _ _ _ => (pif_one (pt_valM (pe_callG G_law_fits (hr.mono (j := 1) (by decide)) (pa_cons (pe_mvar 0) (pa_cons (pe_ix ix_M (pe_mvar 1) pe_int (fun _ _ => rfl)) pa_nil)))))) (fun _ _ _ _ => (pe_mvar 0))) pa_nil))) (pss_one (ps_ret pe_bl)) pss_nil) (pss_cons (ps_set (i := 3) sc_law_told.nd rfl (by first | exact Or.inl rfl | exact Or.inr rfl) pe_dnewK) (pss_cons (ps_for PassesOwn.never rfl (pi_rngM1 B_range (pa_cons (pe_bf call_lenM B_len (pa_cons (pe_mvar 2) pa_nil)) pa_nil)) (pg_name (i := 4) sc_law_told.nd rfl (by first | exact Or.inl rfl | exact Or.inr rfl)) (pss_one (ps_dputM hr.u60 (pe_mvar 3) (pe_ix ix_M (pe_mvar 2) (pe_mvar 4) (fun _ _ => rfl)) (pe_mvar 4)))) (pss_cons (ps_for PassesOwn.never rfl (pi_any (pe_mvar 0)) (pg_name (i := 5) sc_law_told.nd rfl (by first | exact Or.inl rfl | exact Or.inr rfl)) (pss_one (ps_ifM (PW.pt (pw_orM (pt_not (pt_valM (pe_bf call_isa B_isinstance (pa_cons (pe_mvar 5) (pa_cons (pe_ty "str" B_str) pa_nil))))) (pw_orM (pt_dnotinM hr.u60 (pe_mvar 5) (pe_mvar 3)) (pw_or1 (pt_not (pt_valM (pe_callG G_law_fits (hr.mono (j := 1) (by decide)) (pa_cons (pe_mvar 5) (pa_cons (pe_ix ix_M (pe_mvar 1) pe_int (fun _ _ => rfl)) pa_nil))))))))) (pss_one (ps_ret pe_bl)) pss_nil))) (pss_cons (ps_for PassesOwn.never rfl (pi_zipX B_zip (pa_cons (pe_slice sl_M (pe_mvar 0) po_none (po_M (pe_neg pe_int))) (pa_cons (pe_slice sl_M (pe_mvar 0) (po_M pe_int) po_none) pa_nil))) (pg_tupM (n := 2) rfl (pgs_consM (pg_name (i := 5) sc_law_told.nd rfl (by first | exact Or.inl rfl | exact Or.inr rfl)) (pgs_consM (pg_name (i := 6) sc_law_told.nd rfl (by first | exact Or.inl rfl | exact Or.inr rfl)) pgs_nilM))) (pss_one (ps_ifM (pt_not (pt_valM (pe_callG G_law_in_turn (hr.mono (j := 1) (by decide)) (pa_cons (pe_mvar 5) (pa_cons (pe_mvar 6) (pa_cons (pe_ix ix_M (pe_mvar 1) pe_int (fun _ _ => rfl)) (pa_cons (pe_mvar 3) pa_nil))))))) (pss_one (ps_ret pe_bl)) pss_nil))) (pss_one (ps_ret pe_bl)))))))))
theorem ok_law_told (G_law_fits : Gd P w K mg base CX0 1 "_law_fits" ["_law_card", "_law_picks"] (sp_law_fits K)) (G_law_in_turn : Gd P w K mg base CX0 1 "_law_in_turn" ["_law_card", "_law_other", "_law_key", "_law_places"] (sp_law_in_turn K)) (B_isinstance : Gb mg "isinstance") (B_list : Gb mg "list") (B_len : Gb mg "len") (B_range : Gb mg "range") (B_str : Gb mg "str") (B_zip : Gb mg "zip") {f : Addr} {fd : FuncData} (F : Fun K "_law_told" "_law_told" s_law_told f fd) (len : ∀ vs H Q E, sp_law_told K vs H Q E → vs.length = 3)
    (rd : ∀ vs H Q E, sp_law_told K vs H Q E → t_law_told K { nx := fun _ H' => Q .non H', rt := Q } (start ["_law_found", "_law_sense", "_law_deck_here", "_law_places", "_law_k", "_law_card", "_law_other"] vs) H) : FnOk P w K mg base CX0 2 f fd ["_law_found", "_law_sense", "_law_deck_here"] (sp_law_told K) := by
  refine F.ok sc_law_told len (fun cdv A outer s H vs Q E hr h => ⟨_, tm_law_told G_law_fits G_law_in_turn B_isinstance B_list B_len B_range B_str B_zip hr, rd vs H Q E h⟩)
theorem sc_law_pass : FnScope ["_law_cell", "_law_hero", "_law_start", "_law_reach", "_law_share", "_law_signs", "_law_number", "_law_column"] ["_law_cell", "_law_hero", "_law_start", "_law_reach", "_law_share"] (defScope s_law_pass) := ⟨rfl, rfl, rfl, by decide +kernel, rfl, by decide +kernel, by decide +kernel⟩
theorem tm_law_pass  {cdv : Value} {A : Around} {outer : List Env} {s : Shared} {H : Hp} {E : XK} {f : Addr} (hr : Room 0 (A.deeper (envOfC "_law_pass" (defScope s_law_pass) s.heap.objs.size f cdv))) :
    (PSs (cxOf CX0 P w K mg base ["_law_cell", "_law_hero", "_law_start", "_law_reach", "_law_share", "_law_signs", "_law_number", "_law_column"] "_law_pass" (defScope s_law_pass) f cdv A outer s H E).nox (defBody s_law_pass) (t_law_pass K)) := 
  (pss_cons (ps_set (i := 5) sc_law_pass.nd rfl (by first | exact Or.inl rfl | exact Or.inr rfl) (pe_txt (l := SG))) (pss_cons (ps_set (i := 6) sc_law_pass.nd rfl (by first | exact Or.inl rfl | exact Or.inr rfl) (pe_op op_addM (pe_op op_modM (pe_mvar 0) pe_int) pe_int)) (pss_cons (ps_set (i := 6) sc_law_pass.nd rfl (by first | exact Or.inl rfl | exact Or.inr rfl) (pe_op op_modM (pe_op op_mulX (pe_mvar 6) (pe_mvar 6)) pe_int)) (pss_cons (ps_set (i := 7) sc_law_pass.nd rfl (by first | exact Or.inl rfl | exact Or.inr rfl) (pe_op op_addM pe_int (pe_op op_modM (pe_op op_addM (pe_mvar 2) (pe_op op_modM (pe_op op_divG (pe_mvar 6) pe_int) (pe_mvar 3))) pe_int))) (pss_cons (ps_ifM (pt_cmpM op_geM (pe_op op_modM (pe_mvar 6) pe_int) (pe_mvar 4)) (pss_one (ps_ret (pe_tup (pa_cons (pe_txt (l := [100, 101, 97, 108])) (pa_cons (pe_mvar 7) pa_nil))))) pss_nil) (pss_cons (ps_ifM (pt_cmpM (op_eqK hr.u60) (pe_op op_modM (pe_op op_divG (pe_mvar 6) pe_int) pe_int) pe_int) (pss_one (ps_ret (pe_tup (pa_cons (pe_txt (l := [112, 105, 99, 107])) (pa_cons (pe_mvar 7) (pa_cons (pe_ix ix_M (pe_mvar 5) (pe_op op_modM (pe_op op_divG (pe_mvar 6) pe_int) pe_int) (fun _ _ => rfl)) pa_nil)))))) pss_nil) (pss_one (ps_ret (pe_tup (pa_cons (pe_txt (l := [112, 105, 99, 107])) (pa_cons (pe_mvar 7) (pa_cons (pe_ix ix_M (pe_mvar 1) (pe_op op_subM (pe_mvar 7) pe_int) (fun _ _ => rfl)) pa_nil))))))))))))
theorem ok_law_pass  {f : Addr} {fd : FuncData} (F : Fun K "_law_pass" "_law_pass" s_law_pass f fd) (len : ∀ vs H Q E, sp_law_pass K vs H Q E → vs.length = 5)
    (rd : ∀ vs H Q E, sp_law_pass K vs H Q E → t_law_pass K { nx := fun _ H' => Q .non H', rt := Q } (start ["_law_cell", "_law_hero", "_law_start", "_law_reach", "_law_share", "_law_signs", "_law_number", "_law_column"] vs) H) : FnOk P w K mg base CX0 1 f fd ["_law_cell", "_law_hero", "_law_start", "_law_reach", "_law_share"] (sp_law_pass K) := by
  refine F.ok sc_law_pass len (fun cdv A outer s H vs Q E hr h => ⟨_, tm_law_pass  hr, rd vs H Q E h⟩)
theorem sc_law : FnScope ["_law_script", "_law_many", "_law_spread", "_law_start", "_law_deck_here", "_law_hero", "_law_ways", "_law_reach", "_law_row", "_law_cell", "_law_handed", "_law_found", "_law_sense", "_law_back"] ["_law_script"] (defScope s_law) := ⟨rfl, rfl, rfl, by decide +kernel, rfl, by decide +kernel, by decide +kernel⟩
theorem tm_law (G_law_cell_at : Gd P w K mg base CX0 1 "_law_cell_at" ["_law_script", "_law_k"] (sp_law_cell_at K)) (G_law_deck : Gd P w K mg base CX0 2 "_law_deck" ["_law_cell", "_law_many", "_law_spread"] (sp_law_deck K)) (G_law_pass : Gd P w K mg base CX0 1 "_law_pass" ["_law_cell", "_law_hero", "_law_start", "_law_reach", "_law_share"] (sp_law_pass K)) (G_pass_all : Gd P w K mg base (CXx P w) 5 "pass_all" ["deck", "row"] (sp_pass_all K)) (G_sense_of : Gd P w K mg base CX0 2 "sense_of" ["row"] (sp_sense_of K)) (G_law_told : Gd P w K mg base CX0 2 "_law_told" ["_law_found", "_law_sense", "_law_deck_here"] (sp_law_told K)) (B_list : Gb mg "list") {cdv : Value} {A : Around} {outer : List Env} {s : Shared} {H : Hp} {E : XK} {f : Addr} (hr : Room 5 (A.deeper (envOfC "law" (defScope s_law) s.heap.objs.size f cdv))) :
    (PSs (cxOf CX0 P w K mg base ["_law_script", "_law_many", "_law_spread", "_law_start", "_law_deck_here", "_law_hero", "_law_ways", "_law_reach", "_law_row", "_law_cell", "_law_handed", "_law_found", "_law_sense", "_law_back"] "law" (defScope s_law) f cdv A outer s H E).nox (defBody s_law) (t_law K)) := 
  (pss_cons (ps_set (i := 1) sc_law.nd rfl (by first | exact Or.inl rfl | exact Or.inr rfl) (pe_op op_modM (pe_callG G_law_cell_at (hr.mono (j := 1) (by decide)) (pa_cons (pe_mvar 0) (pa_cons pe_int pa_nil))) pe_int)) (pss_cons (ps_ifM (pt_cmpM (op_eqK hr.u60) (pe_op op_modM (pe_op op_divG (pe_callG G_law_cell_at (hr.mono (j := 1) (by decide)) (pa_cons (pe_mvar 0) (pa_cons pe_int pa_nil))) pe_int) pe_int) pe_int) (pss_one (ps_set (i := 1) sc_law.nd rfl (by first | exact Or.inl rfl | exact Or.inr rfl) (pe_op op_addM pe_int (pe_op op_modM (pe_op op_divG (pe_callG G_law_cell_at (hr.mono (j := 1) (by decide)) (pa_cons (pe_mvar 0) (pa_cons pe_int pa_nil))) pe_int) pe_int)))) pss_nil) (pss_cons (ps_set (i := 2) sc_law.nd rfl (by first | exact Or.inl rfl | exact Or.inr rfl) (pe_ix ix_M (pe_lst (pa_cons pe_int (pa_cons pe_int (pa_cons pe_int (pa_cons pe_int pa_nil))))) (pe_op op_modM (pe_callG G_law_cell_at (hr.mono (j := 1) (by decide)) (pa_cons (pe_mvar 0) (pa_cons pe_int pa_nil))) pe_int) (fun _ _ => rfl))) (pss_cons (ps_set (i := 3) sc_law.nd rfl (by first | exact Or.inl rfl | exact Or.inr rfl) (pe_op op_modM (pe_op op_divG (pe_callG G_law_cell_at (hr.mono (j := 1) (by decide)) (pa_cons (pe_mvar 0) (pa_cons pe_int pa_nil))) pe_int) pe_int)) (pss_cons (ps_set (i := 4) sc_law.nd rfl (by first | exact Or.inl rfl | exact Or.inr rfl) (pe_callG G_law_deck (hr.mono (j := 2) (by decide)) (pa_cons (pe_callG G_law_cell_at (hr.mono (j := 1) (by decide)) (pa_cons (pe_mvar 0) (pa_cons pe_int pa_nil))) (pa_cons (pe_mvar 1) (pa_cons (pe_mvar 2) pa_nil))))) (pss_cons (ps_set (i := 5) sc_law.nd rfl (by first | exact Or.inl rfl | exact Or.inr rfl) (pe_ix ix_M (pe_op op_addM (pe_mvar 4) (pe_lst (pa_cons (pe_op op_mulX (pe_txt (l := [32])) pe_int) pa_nil))) pe_int (fun _ _ => rfl))) (pss_cons (ps_set (i := 6) sc_law.nd rfl (by first | exact Or.inl rfl | exact Or.inr rfl) (pe_callG G_law_cell_at (hr.mono (j := 1) (by decide)) (pa_cons (pe_mvar 0) (pa_cons pe_int pa_nil)))) (pss_cons (ps_set (i := 7) sc_law.nd rfl (by first | exact Or.inl rfl | exact Or.inr rfl) (pe_ix ix_M (pe_lst (pa_cons pe_int (pa_cons pe_int (pa_cons pe_int (pa_cons pe_int pa_nil))))) (pe_op op_modM (pe_mvar 6) pe_int) (fun _ _ => rfl))) (pss_cons (ps_set (i := 8) sc_law.nd rfl (by first | exact Or.inl rfl | exact Or.inr rfl) (pe_lst pa_nil)) (pss_cons (ps_for PassesOwn.never rfl (pi_any (pe_slice sl_M (pe_mvar 0) (po_M pe_int) (po_M pe_int))) (pg_name (i := 9) sc_law.nd rfl (by first | exact Or.inl rfl | exact Or.inr rfl)) (pss_one (ps_expr (pe_bm PySem.F.plainAttrs_list PySem.F.slot_list_append PySem.F.type_list_append mt_append (pe_mvar 8) (pa_cons (pe_callG G_law_pass (hr.mono (j := 1) (by decide)) (pa_cons (pe_mvar 9) (pa_cons (pe_mvar 5) (pa_cons (pe_mvar 3) (pa_cons (pe_mvar 7) (pa_cons (pe_ix ix_M (pe_lst (pa_cons pe_int (pa_cons pe_int (pa_cons pe_int pa_nil)))) (pe_op op_modM (pe_op op_divG (pe_mvar 6) pe_int) pe_int) (fun _ _ => rfl)) pa_nil)))))) pa_nil))))) (pss_cons (ps_set (i := 10) sc_law.nd rfl (by first | exact Or.inl rfl | exact Or.inr rfl) (pe_tf "list" (call_listM rfl) B_list (pa_cons (pe_mvar 4) pa_nil))) (pss_cons (ps_set (i := 11) sc_law.nd rfl (by first | exact Or.inl rfl | exact Or.inr rfl) (pe_callX G_pass_all (hr.mono (j := 5) (by decide)) passX0 (pa_cons (pe_mvar 10) (pa_cons (pe_mvar 8) pa_nil)))) (pss_cons (ps_set (i := 12) sc_law.nd rfl (by first | exact Or.inl rfl | exact Or.inr rfl) (pe_callG G_sense_of (hr.mono (j := 2) (by decide)) (pa_cons (pe_mvar 8) pa_nil))) (pss_cons (ps_ifM (PW.pt (pw_orM (pt_cmpM (op_neK hr.u60) (pe_mvar 10) (pe_mvar 4)) (pw_or1 (pt_not (pt_valM (pe_callG G_law_told (hr.mono (j := 2) (by decide)) (pa_cons (pe_mvar 11) (pa_cons (pe_mvar 12) (pa_cons (pe_mvar 4) pa_nil))))))))) (pss_one (ps_ret pe_bl)) pss_nil) (pss_cons (ps_set (i := 13) sc_law.nd rfl (by first | exact Or.inl rfl | exact Or.inr rfl) (pe_rev (pe_mvar 8) (po_M (pe_neg pe_int)))) (pss_cons (ps_ifM (pt_not (pt_valM (pe_callG G_law_told (hr.mono (j := 2) (by decide)) (pa_cons (pe_callX G_pass_all (hr.mono (j := 5) (by decide)) passX0 (pa_cons (pe_mvar 4) (pa_cons (pe_mvar 13) pa_nil))) (pa_cons (pe_callG G_sense_of (hr.mono (j := 2) (by decide)) (pa_cons (pe_mvar 13) pa_nil)) (pa_cons (pe_mvar 4) pa_nil)))))) (pss_one (ps_ret pe_bl)) pss_nil) (pss_one (ps_ret (pe_callG G_law_told (hr.mono (j := 2) (by decide)) (pa_cons (pe_mvar 11) (pa_cons (pe_mvar 12) (pa_cons (pe_mvar 4) pa_nil))))))))))))))))))))))
theorem ok_law (G_law_cell_at : Gd P w K mg base CX0 1 "_law_cell_at" ["_law_script", "_law_k"] (sp_law_cell_at K)) (G_law_deck : Gd P w K mg base CX0 2 "_law_deck" ["_law_cell", "_law_many", "_law_spread"] (sp_law_deck K)) (G_law_pass : Gd P w K mg base CX0 1 "_law_pass" ["_law_cell", "_law_hero", "_law_start", "_law_reach", "_law_share"] (sp_law_pass K)) (G_pass_all : Gd P w K mg base (CXx P w) 5 "pass_all" ["deck", "row"] (sp_pass_all K)) (G_sense_of : Gd P w K mg base CX0 2 "sense_of" ["row"] (sp_sense_of K)) (G_law_told : Gd P w K mg base CX0 2 "_law_told" ["_law_found", "_law_sense", "_law_deck_here"] (sp_law_told K)) (B_list : Gb mg "list") {f : Addr} {fd : FuncData} (F : Fun K "law" "law" s_law f fd) (len : ∀ vs H Q E, sp_law K vs H Q E → vs.length = 1)
    (rd : ∀ vs H Q E, sp_law K vs H Q E → t_law K { nx := fun _ H' => Q .non H', rt := Q } (start ["_law_script", "_law_many", "_law_spread", "_law_start", "_law_deck_here", "_law_hero", "_law_ways", "_law_reach", "_law_row", "_law_cell", "_law_handed", "_law_found", "_law_sense", "_law_back"] vs) H) : FnOk P w K mg base CX0 6 f fd ["_law_script"] (sp_law K) := by
  refine F.ok sc_law len (fun cdv A outer s H vs Q E hr h => ⟨_, tm_law G_law_cell_at G_law_deck G_law_pass G_pass_all G_sense_of G_law_told B_list hr, rd vs H Q E h⟩)
end
end K16
namespace K16
open PySem PySem.Spec PyProof.Rows L2
theorem ev_law_stream {K : PySem.W.Frag} {E : XK} (c : (Int × Int)) : EvS K (t_law_stream K) E [(Sl.fz tyInt c.1), (Sl.fz tyInt c.2), Sl.dead, Sl.dead, Sl.dead] (b_law_stream c.1 c.2) (fun _ : Unit => []) (fun _ : Unit => []) (owL tyInt) :=
  (s_asgO (i := 2) rfl (immo_l imm_int) (ev_lst0 tyInt) fun found_1 => (at_ [(Sl.fz tyInt c.1), (Sl.fz tyInt c.2), (Sl.ow (owL tyInt) found_1), Sl.dead, Sl.dead] (s_asg (i := 3) rfl imm_int (ev_op op_addI (ev_op op_modI (ev_var 0 rfl) (ev_int 2147483647)) (ev_int 48271)) fun number_2 => (at_ [(Sl.fz tyInt c.1), (Sl.fz tyInt c.2), (Sl.ow (owL tyInt) found_1), (Sl.fz tyInt number_2), Sl.dead] (s_seq (LS := (fun s_7 : (Int × (List Int)) => [(Sl.fz tyInt c.1), (Sl.fz tyInt c.2), (Sl.ow (owL tyInt) s_7.2), (Sl.fz tyInt s_7.1), Sl.dead])) (s_weak (L' := [(Sl.fz tyInt c.1), (Sl.fz tyInt c.2), (Sl.ow (owL tyInt) found_1), (Sl.fz tyInt number_2), Sl.dead]) (.same (.same (.same (.same (.same .nil))))) (s_for (LS := (fun s_7 : (Int × (List Int)) => [(Sl.fz tyInt c.1), (Sl.fz tyInt c.2), (Sl.ow (owL tyInt) s_7.2), (Sl.fz tyInt s_7.1), Sl.dead])) (s0 := (number_2, found_1)) (ei_rng1 (ea_last (ev_var 1 rfl))) (tg_name 4) fun s_7 x_9 => at_ [(Sl.fz tyInt c.1), (Sl.fz tyInt c.2), (Sl.ow (owL tyInt) s_7.2), (Sl.fz tyInt s_7.1), (Sl.fz tyInt x_9)] (s_asg (i := 3) rfl imm_int (ev_op op_modI (ev_op op_addI (ev_op op_addI (ev_op op_mulXI (ev_var 3 rfl) (ev_var 3 rfl)) (ev_op op_mulXI (ev_int 48271) (ev_var 3 rfl))) (ev_var 4 rfl)) (ev_int 2147483647)) fun number_10 => (at_ [(Sl.fz tyInt c.1), (Sl.fz tyInt c.2), (Sl.ow (owL tyInt) s_7.2), (Sl.fz tyInt number_10), (Sl.fz tyInt x_9)] (s_end (s_append (i := 2) rfl imm_int (ev_var 3 rfl) fun a_21 => (at_ [(Sl.fz tyInt c.1), (Sl.fz tyInt c.2), (Sl.ow (owL tyInt) (s_7.2 ++ [a_21])), (Sl.fz tyInt number_10), (Sl.fz tyInt x_9)] (s_nextW (.same (.same (.same (.same (.dead .nil))))))))))))) fun s_7 => (at_ [(Sl.fz tyInt c.1), (Sl.fz tyInt c.2), (Sl.ow (owL tyInt) s_7.2), (Sl.fz tyInt s_7.1), Sl.dead] (s_retV (i := 2) rfl)))))))
theorem rd_law_stream {K : PySem.W.Frag} : RD_law_stream K := fn_rd (K := K) (N := ["_law_cell", "_law_many", "_law_found", "_law_number", "_law_k"]) (C := (csCons tyInt (csLast tyInt))) (O := (owL tyInt)) (t := fun E => t_law_stream K) (ss := fun c => [(Sl.fz tyInt c.1), (Sl.fz tyInt c.2)]) (f := fun c => b_law_stream c.1 c.2) 2 3 (csn_cons csn_last) rfl (css_cons css_last) fun c E => ev_law_stream c
theorem ev_law_deck {K : PySem.W.Frag} {E : XK} (c : (Int × (Int × Int))) : EvS K (t_law_deck K) E [(Sl.fz tyInt c.1), (Sl.fz tyInt c.2.1), (Sl.fz tyInt c.2.2), Sl.dead, Sl.dead, Sl.dead, Sl.dead, Sl.dead, Sl.dead, Sl.dead, Sl.dead] (b_law_deck c.1 c.2.1 c.2.2) (fun _ : Unit => []) (fun _ : Unit => []) (owL tyStr) :=
  (s_asg (i := 3) rfl imm_str (ev_str SG) fun signs_1 => (at_ [(Sl.fz tyInt c.1), (Sl.fz tyInt c.2.1), (Sl.fz tyInt c.2.2), (Sl.fz tyStr signs_1), Sl.dead, Sl.dead, Sl.dead, Sl.dead, Sl.dead, Sl.dead, Sl.dead] (s_asgO (i := 4) rfl (immo_l imm_int) (ev_call0 (ea_cons (ev_var 0 rfl) (ea_last (ev_op op_mulXI (ev_int 36) (ev_var 1 rfl))))) fun numbers_2 => s_frz (i := 4) rfl (at_ [(Sl.fz tyInt c.1), (Sl.fz tyInt c.2.1), (Sl.fz tyInt c.2.2), (Sl.fz tyStr signs_1), (Sl.fz (tyL tyInt) numbers_2), Sl.dead, Sl.dead, Sl.dead, Sl.dead, Sl.dead, Sl.dead] (s_asgO (i := 5) rfl (immo_l imm_str) (ev_lst0 tyStr) fun deck_here_8 => (at_ [(Sl.fz tyInt c.1), (Sl.fz tyInt c.2.1), (Sl.fz tyInt c.2.2), (Sl.fz tyStr signs_1), (Sl.fz (tyL tyInt) numbers_2), (Sl.ow (owL tyStr) deck_here_8), Sl.dead, Sl.dead, Sl.dead, Sl.dead, Sl.dead] (s_seq (LS := (fun s_9 : (List (List Nat)) => [(Sl.fz tyInt c.1), (Sl.fz tyInt c.2.1), (Sl.fz tyInt c.2.2), (Sl.fz tyStr signs_1), (Sl.fz (tyL tyInt) numbers_2), (Sl.ow (owL tyStr) s_9), Sl.dead, Sl.dead, Sl.dead, Sl.dead, Sl.dead])) (s_weak (L' := [(Sl.fz tyInt c.1), (Sl.fz tyInt c.2.1), (Sl.fz tyInt c.2.2), (Sl.fz tyStr signs_1), (Sl.fz (tyL tyInt) numbers_2), (Sl.ow (owL tyStr) deck_here_8), Sl.dead, Sl.dead, Sl.dead, Sl.dead, Sl.dead]) (.same (.same (.same (.same (.same (.same (.same (.same (.same (.same (.same .nil))))))))))) (s_for (LS := (fun s_9 : (List (List Nat)) => [(Sl.fz tyInt c.1), (Sl.fz tyInt c.2.1), (Sl.fz tyInt c.2.2), (Sl.fz tyStr signs_1), (Sl.fz (tyL tyInt) numbers_2), (Sl.ow (owL tyStr) s_9), Sl.dead, Sl.dead, Sl.dead, Sl.dead, Sl.dead])) (s0 := deck_here_8) (ei_rng1 (ea_last (ev_var 1 rfl))) (tg_name 6) fun s_9 x_11 => at_ [(Sl.fz tyInt c.1), (Sl.fz tyInt c.2.1), (Sl.fz tyInt c.2.2), (Sl.fz tyStr signs_1), (Sl.fz (tyL tyInt) numbers_2), (Sl.ow (owL tyStr) s_9), (Sl.fz tyInt x_11), Sl.dead, Sl.dead, Sl.dead, Sl.dead] (s_asg (i := 7) rfl imm_str (ev_str []) fun text_12 => (at_ [(Sl.fz tyInt c.1), (Sl.fz tyInt c.2.1), (Sl.fz tyInt c.2.2), (Sl.fz tyStr signs_1), (Sl.fz (tyL tyInt) numbers_2), (Sl.ow (owL tyStr) s_9), (Sl.fz tyInt x_11), (Sl.fz tyStr text_12), Sl.dead, Sl.dead, Sl.dead] (s_seq (LS := (fun s_13 : (List Nat) => [(Sl.fz tyInt c.1), (Sl.fz tyInt c.2.1), (Sl.fz tyInt c.2.2), (Sl.fz tyStr signs_1), (Sl.fz (tyL tyInt) numbers_2), (Sl.ow (owL tyStr) s_9), (Sl.fz tyInt x_11), (Sl.fz tyStr s_13), Sl.dead, Sl.dead, Sl.dead])) (s_weak (L' := [(Sl.fz tyInt c.1), (Sl.fz tyInt c.2.1), (Sl.fz tyInt c.2.2), (Sl.fz tyStr signs_1), (Sl.fz (tyL tyInt) numbers_2), (Sl.ow (owL tyStr) s_9), (Sl.fz tyInt x_11), (Sl.fz tyStr text_12), Sl.dead, Sl.dead, Sl.dead]) (.same (.same (.same (.same (.same (.same (.same (.same (.same (.same (.same .nil))))))))))) (s_for (LS := (fun s_13 : (List Nat) => [(Sl.fz tyInt c.1), (Sl.fz tyInt c.2.1), (Sl.fz tyInt c.2.2), (Sl.fz tyStr signs_1), (Sl.fz (tyL tyInt) numbers_2), (Sl.ow (owL tyStr) s_9), (Sl.fz tyInt x_11), (Sl.fz tyStr s_13), Sl.dead, Sl.dead, Sl.dead])) (s0 := text_12) (ei_rng1 (ea_last (ev_int 36))) (tg_name 8) fun s_13 x_15 => at_ [(Sl.fz tyInt c.1), (Sl.fz tyInt c.2.1), (Sl.fz tyInt c.2.2), (Sl.fz tyStr signs_1), (Sl.fz (tyL tyInt) numbers_2), (Sl.ow (owL tyStr) s_9), (Sl.fz tyInt x_11), (Sl.fz tyStr s_13), (Sl.fz tyInt x_15), Sl.dead, Sl.dead] (s_asg (i := 9) rfl imm_int (ev_op op_modI (ev_op op_divGI (ev_op op_ixL (ev_var 4 rfl) (ev_op op_addI (ev_op op_mulXI (ev_int 36) (ev_var 6 rfl)) (ev_var 8 rfl))) (ev_int 7)) (ev_var 2 rfl)) fun step_16 => (at_ [(Sl.fz tyInt c.1), (Sl.fz tyInt c.2.1), (Sl.fz tyInt c.2.2), (Sl.fz tyStr signs_1), (Sl.fz (tyL tyInt) numbers_2), (Sl.ow (owL tyStr) s_9), (Sl.fz tyInt x_11), (Sl.fz tyStr s_13), (Sl.fz tyInt x_15), (Sl.fz tyInt step_16), Sl.dead] (s_end (s_asg (i := 7) rfl imm_str (ev_op op_addS (ev_var 7 rfl) (ev_op op_ixS (ev_var 3 rfl) (ev_op op_modI (ev_op op_addI (ev_var 0 rfl) (ev_var 9 rfl)) (ev_int 37)))) fun text_27 => (at_ [(Sl.fz tyInt c.1), (Sl.fz tyInt c.2.1), (Sl.fz tyInt c.2.2), (Sl.fz tyStr signs_1), (Sl.fz (tyL tyInt) numbers_2), (Sl.ow (owL tyStr) s_9), (Sl.fz tyInt x_11), (Sl.fz tyStr text_27), (Sl.fz tyInt x_15), (Sl.fz tyInt step_16), Sl.dead] (s_nextW (.same (.same (.same (.same (.same (.same (.same (.same (.dead (.dead (.same .nil))))))))))))))))))) fun s_13 => (at_ [(Sl.fz tyInt c.1), (Sl.fz tyInt c.2.1), (Sl.fz tyInt c.2.2), (Sl.fz tyStr signs_1), (Sl.fz (tyL tyInt) numbers_2), (Sl.ow (owL tyStr) s_9), (Sl.fz tyInt x_11), (Sl.fz tyStr s_13), Sl.dead, Sl.dead, Sl.dead] (s_asgO (i := 10) rfl (immo_l imm_str) (ev_opO op_mulXL (EvO.fr (ev_lst csn_last csl_last (ea_last (ev_op op_ixS (ev_var 3 rfl) (ev_op op_modI (ev_op op_divGI (ev_var 0 rfl) (ev_int 37)) (ev_int 37)))))) (ev_int 4)) fun mark_37 => (at_ [(Sl.fz tyInt c.1), (Sl.fz tyInt c.2.1), (Sl.fz tyInt c.2.2), (Sl.fz tyStr signs_1), (Sl.fz (tyL tyInt) numbers_2), (Sl.ow (owL tyStr) s_9), (Sl.fz tyInt x_11), (Sl.fz tyStr s_13), Sl.dead, Sl.dead, (Sl.ow (owL tyStr) mark_37)] (s_setI (i := 10) rfl imm_str (ev_op op_ixS (ev_var 3 rfl) (ev_op op_modI (ev_op op_addI (ev_var 0 rfl) (ev_var 6 rfl)) (ev_int 37))) (ev_op op_modI (ev_var 0 rfl) (ev_int 4)) fun mark_63 => (at_ [(Sl.fz tyInt c.1), (Sl.fz tyInt c.2.1), (Sl.fz tyInt c.2.2), (Sl.fz tyStr signs_1), (Sl.fz (tyL tyInt) numbers_2), (Sl.ow (owL tyStr) s_9), (Sl.fz tyInt x_11), (Sl.fz tyStr s_13), Sl.dead, Sl.dead, (Sl.ow (owL tyStr) mark_63)] (s_end (s_append (i := 5) rfl imm_str (ev_op op_addS (ev_var 7 rfl) (ev_me me_join (ev_str []) (ea_last (ev_varL 10 rfl)))) fun a_68 => (at_ [(Sl.fz tyInt c.1), (Sl.fz tyInt c.2.1), (Sl.fz tyInt c.2.2), (Sl.fz tyStr signs_1), (Sl.fz (tyL tyInt) numbers_2), (Sl.ow (owL tyStr) (s_9 ++ [a_68])), (Sl.fz tyInt x_11), (Sl.fz tyStr s_13), Sl.dead, Sl.dead, (Sl.ow (owL tyStr) mark_63)] (s_nextW (.same (.same (.same (.same (.same (.same (.dead (.dead (.same (.same (.dead .nil))))))))))))))))))))))))) fun s_9 => (at_ [(Sl.fz tyInt c.1), (Sl.fz tyInt c.2.1), (Sl.fz tyInt c.2.2), (Sl.fz tyStr signs_1), (Sl.fz (tyL tyInt) numbers_2), (Sl.ow (owL tyStr) s_9), Sl.dead, Sl.dead, Sl.dead, Sl.dead, Sl.dead] (s_retV (i := 5) rfl)))))))))
theorem rd_law_deck {K : PySem.W.Frag} : RD_law_deck K := fn_rd (K := K) (N := ["_law_cell", "_law_many", "_law_spread", "_law_signs", "_law_numbers", "_law_deck_here", "_law_k", "_law_text", "_law_at", "_law_step", "_law_mark"]) (C := (csCons tyInt (csCons tyInt (csLast tyInt)))) (O := (owL tyStr)) (t := fun E => t_law_deck K) (ss := fun c => [(Sl.fz tyInt c.1), (Sl.fz tyInt c.2.1), (Sl.fz tyInt c.2.2)]) (f := fun c => b_law_deck c.1 c.2.1 c.2.2) 3 8 (csn_cons (csn_cons csn_last)) rfl (css_cons (css_cons css_last)) fun c E => ev_law_deck c
theorem ev_law_cell_at {K : PySem.W.Frag} {E : XK} (c : ((List Int) × Int)) : EvS K (t_law_cell_at K) E [(Sl.fz (tySc K) c.1), (Sl.fz tyInt c.2)] (b_law_cell_at c.1 c.2) (fun _ : Unit => []) (fun _ : Unit => []) (owF tyInt) :=
  (s_seq (LS := (fun _ : Unit => [(Sl.fz (tySc K) c.1), (Sl.fz tyInt c.2)])) (s_if (et_val (ev_op op_ltKI (ev_var 1 rfl) (ev_cb bl_lenSc (ea_last (ev_var 0 rfl))))) (s_ret (immo_f imm_int) (EvF.ow (ev_op op_ixSc (ev_var 0 rfl) (ev_var 1 rfl)))) (s_nextW (.same (.same .nil)))) fun _ => (at_ [(Sl.fz (tySc K) c.1), (Sl.fz tyInt c.2)] (s_ret (immo_f imm_int) (EvF.ow (ev_int 0)))))
theorem rd_law_cell_at {K : PySem.W.Frag} : RD_law_cell_at K := fn_rd (K := K) (N := ["_law_script", "_law_k"]) (C := (csCons (tySc K) (csLast tyInt))) (O := (owF tyInt)) (t := fun E => t_law_cell_at K) (ss := fun c => [(Sl.fz (tySc K) c.1), (Sl.fz tyInt c.2)]) (f := fun c => b_law_cell_at c.1 c.2) 2 0 (csn_cons csn_last) rfl (css_cons css_last) fun c E => ev_law_cell_at c
theorem ev_gather {K : PySem.W.Frag} {E : XK} (c : (List (List (List Nat)))) : EvS K (t_gather K) E [(Sl.fz (tyL (tyL tyStr)) c), Sl.dead, Sl.dead] (b_gather c) (fun _ : Unit => []) (fun _ : Unit => []) (owL tyStr) :=
  (s_asgO (i := 1) rfl (immo_l imm_str) (ev_lst0 tyStr) fun deck_1 => (at_ [(Sl.fz (tyL (tyL tyStr)) c), (Sl.ow (owL tyStr) deck_1), Sl.dead] (s_seq (LS := (fun s_2 : (List (List Nat)) => [(Sl.fz (tyL (tyL tyStr)) c), (Sl.ow (owL tyStr) s_2), Sl.dead])) (s_weak (L' := [(Sl.fz (tyL (tyL tyStr)) c), (Sl.ow (owL tyStr) deck_1), Sl.dead]) (.same (.same (.same .nil))) (s_for (LS := (fun s_2 : (List (List Nat)) => [(Sl.fz (tyL (tyL tyStr)) c), (Sl.ow (owL tyStr) s_2), Sl.dead])) (s0 := deck_1) (ei_l (ev_var 0 rfl)) (tg_name 2) fun s_2 x_3 => at_ [(Sl.fz (tyL (tyL tyStr)) c), (Sl.ow (owL tyStr) s_2), (Sl.fz (tyL tyStr) x_3)] (s_end (s_extend (i := 1) rfl imm_str (ev_var 2 rfl) fun a_4 => (at_ [(Sl.fz (tyL (tyL tyStr)) c), (Sl.ow (owL tyStr) (s_2 ++ a_4)), (Sl.fz (tyL tyStr) x_3)] (s_nextW (.same (.same (.dead .nil))))))))) fun s_2 => (at_ [(Sl.fz (tyL (tyL tyStr)) c), (Sl.ow (owL tyStr) s_2), Sl.dead] (s_retV (i := 1) rfl)))))
theorem rd_gather {K : PySem.W.Frag} : RD_gather K := fn_rd (K := K) (N := ["some", "deck", "pocket"]) (C := (csLast (tyL (tyL tyStr)))) (O := (owL tyStr)) (t := fun E => t_gather K) (ss := fun c => [(Sl.fz (tyL (tyL tyStr)) c)]) (f := fun c => b_gather c) 1 2 csn_last rfl css_last fun c E => ev_gather c
theorem ev_is_sign {K : PySem.W.Frag} {E : XK} (c : (List Nat)) : EvS K (t_is_sign K) E [(Sl.fz tyStr c)] (b_is_sign c) (fun _ : Unit => []) (fun _ : Unit => []) (owF tyBl) :=
  (s_ret (immo_f imm_bl) (EvF.ow (ev_and (ev_op op_eqI (ev_cb bl_lenS (ea_last (ev_var 0 rfl))) (ev_int 1)) (ev_op op_inS (ev_var 0 rfl) (ev_str SG)))))
theorem rd_is_sign {K : PySem.W.Frag} : RD_is_sign K := fn_rd (K := K) (N := ["text"]) (C := (csLast tyStr)) (O := (owF tyBl)) (t := fun E => t_is_sign K) (ss := fun c => [(Sl.fz tyStr c)]) (f := fun c => b_is_sign c) 1 0 csn_last rfl css_last fun c E => ev_is_sign c
theorem ev_rank_of {K : PySem.W.Frag} {E : XK} (c : (List Nat)) : EvS K (t_rank_of K E) E [(Sl.fz tyStr c)] (b_rank_of c) (fun _ : Unit => []) (fun _ : Unit => []) (owF tyInt) :=
  (s_seq (LS := (fun _ : Unit => [(Sl.fz tyStr c)])) (s_if (et_not (et_val (ev_callF0 (ea_last (ev_var 0 rfl))))) s_never (s_nextW (.same .nil))) fun _ => (at_ [(Sl.fz tyStr c)] (s_ret (immo_f imm_int) (EvF.ow (ev_me me_index (ev_str SG) (ea_last (ev_var 0 rfl)))))))
theorem rd_rank_of {K : PySem.W.Frag} (FX : Fx K) : RD_rank_of K := fn_rd (K := K) (N := ["sign"]) (C := (csLast tyStr)) (O := (owF tyInt)) (t := fun E => t_rank_of K E) (ss := fun c => [(Sl.fz tyStr c)]) (f := fun c => b_rank_of c) 1 0 csn_last rfl css_last fun c E => ev_rank_of c
theorem ev_sign_at {K : PySem.W.Frag} {E : XK} (c : ((List Nat) × Int)) : EvS K (t_sign_at K) E [(Sl.fz tyStr c.1), (Sl.fz tyInt c.2)] (b_sign_at c.1 c.2) (fun _ : Unit => []) (fun _ : Unit => []) (owF tyStr) :=
  (s_ret (immo_f imm_str) (EvF.ow (ev_op op_ixS (ev_var 0 rfl) (ev_op op_subI (ev_var 1 rfl) (ev_int 1)))))
theorem rd_sign_at {K : PySem.W.Frag} : RD_sign_at K := fn_rd (K := K) (N := ["card", "column"]) (C := (csCons tyStr (csLast tyInt))) (O := (owF tyStr)) (t := fun E => t_sign_at K) (ss := fun c => [(Sl.fz tyStr c.1), (Sl.fz tyInt c.2)]) (f := fun c => b_sign_at c.1 c.2) 2 0 (csn_cons csn_last) rfl (css_cons css_last) fun c E => ev_sign_at c
theorem ev_pockets_of {K : PySem.W.Frag} {E : XK} (c : ((List (List Nat)) × Int)) : EvS K (t_pockets_of K E) E [(Sl.fz (tyL tyStr) c.1), (Sl.fz tyInt c.2), Sl.dead, Sl.dead] (b_pockets_of c.1 c.2) (fun _ : Unit => []) (fun _ : Unit => []) (owLL tyStr) :=
  (s_asgO (i := 2) rfl (immo_ll imm_str) (ev_compN (ei_str (ev_str SG)) (tg_name 0) (fun _ => dead1) (fun x_3 => et_true) (fun x_3 => (ev_lst0 tyStr))) fun pockets_1 => (at_ [(Sl.fz (tyL tyStr) c.1), (Sl.fz tyInt c.2), (Sl.ow (owLL tyStr) pockets_1), Sl.dead] (s_seq (LS := (fun s_5 : (List (List (List Nat))) => [(Sl.fz (tyL tyStr) c.1), (Sl.fz tyInt c.2), (Sl.ow (owLL tyStr) s_5), Sl.dead])) (s_weak (L' := [(Sl.fz (tyL tyStr) c.1), (Sl.fz tyInt c.2), (Sl.ow (owLL tyStr) pockets_1), Sl.dead]) (.same (.same (.same (.same .nil)))) (s_for (LS := (fun s_5 : (List (List (List Nat))) => [(Sl.fz (tyL tyStr) c.1), (Sl.fz tyInt c.2), (Sl.ow (owLL tyStr) s_5), Sl.dead])) (s0 := pockets_1) (ei_l (ev_var 0 rfl)) (tg_name 3) fun s_5 x_6 => at_ [(Sl.fz (tyL tyStr) c.1), (Sl.fz tyInt c.2), (Sl.ow (owLL tyStr) s_5), (Sl.fz tyStr x_6)] (s_end (s_appendN (i := 2) rfl imm_str (ev_callF (ea_last (ev_callF0 (ea_cons (ev_var 3 rfl) (ea_last (ev_var 1 rfl)))))) (ev_var 3 rfl) fun n_12 a_13 => (at_ [(Sl.fz (tyL tyStr) c.1), (Sl.fz tyInt c.2), (Sl.ow (owLL tyStr) (appN s_5 n_12 a_13)), (Sl.fz tyStr x_6)] (s_nextW (.same (.same (.same (.dead .nil)))))))))) fun s_5 => (at_ [(Sl.fz (tyL tyStr) c.1), (Sl.fz tyInt c.2), (Sl.ow (owLL tyStr) s_5), Sl.dead] (s_retV (i := 2) rfl)))))
theorem rd_pockets_of {K : PySem.W.Frag} (FX : Fx K) : RD_pockets_of K := fn_rd (K := K) (N := ["deck", "column", "pockets", "card"]) (C := (csCons (tyL tyStr) (csLast tyInt))) (O := (owLL tyStr)) (t := fun E => t_pockets_of K E) (ss := fun c => [(Sl.fz (tyL tyStr) c.1), (Sl.fz tyInt c.2)]) (f := fun c => b_pockets_of c.1 c.2) 2 2 (csn_cons csn_last) rfl (css_cons css_last) fun c E => ev_pockets_of c
theorem ev_deal_all {K : PySem.W.Frag} {E : XK} (c : ((List (List Nat)) × (List Int))) : EvS K (t_deal_all K E) E [(Sl.fz (tyL tyStr) c.1), (Sl.fz (tyL tyInt) c.2), Sl.dead, Sl.dead] (b_deal_all c.1 c.2) (fun _ : Unit => []) (fun _ : Unit => []) (owL tyStr) :=
  (s_asgO (i := 2) rfl (immo_l imm_str) (ev_cbO bl_list (ea_last (ev_var 0 rfl))) fun dealt_1 => (at_ [(Sl.fz (tyL tyStr) c.1), (Sl.fz (tyL tyInt) c.2), (Sl.ow (owL tyStr) dealt_1), Sl.dead] (s_seq (LS := (fun s_3 : (List (List Nat)) => [(Sl.fz (tyL tyStr) c.1), (Sl.fz (tyL tyInt) c.2), (Sl.ow (owL tyStr) s_3), Sl.dead])) (s_weak (L' := [(Sl.fz (tyL tyStr) c.1), (Sl.fz (tyL tyInt) c.2), (Sl.ow (owL tyStr) dealt_1), Sl.dead]) (.same (.same (.same (.same .nil)))) (s_for (LS := (fun s_3 : (List (List Nat)) => [(Sl.fz (tyL tyStr) c.1), (Sl.fz (tyL tyInt) c.2), (Sl.ow (owL tyStr) s_3), Sl.dead])) (s0 := dealt_1) (ei_l (ev_var 1 rfl)) (tg_name 3) fun s_3 x_4 => at_ [(Sl.fz (tyL tyStr) c.1), (Sl.fz (tyL tyInt) c.2), (Sl.ow (owL tyStr) s_3), (Sl.fz tyInt x_4)] (s_end (s_asgO (i := 2) rfl (immo_l imm_str) (ev_call0 (ea_last (EvO.fr (ev_call (ea_cons (ev_varL 2 rfl) (ea_last (ev_var 3 rfl))))))) fun dealt_5 => (at_ [(Sl.fz (tyL tyStr) c.1), (Sl.fz (tyL tyInt) c.2), (Sl.ow (owL tyStr) dealt_5), (Sl.fz tyInt x_4)] (s_nextW (.same (.same (.same (.dead .nil)))))))))) fun s_3 => (at_ [(Sl.fz (tyL tyStr) c.1), (Sl.fz (tyL tyInt) c.2), (Sl.ow (owL tyStr) s_3), Sl.dead] (s_retV (i := 2) rfl)))))
theorem rd_deal_all {K : PySem.W.Frag} (FX : Fx K) : RD_deal_all K := fn_rd (K := K) (N := ["deck", "row", "dealt", "column"]) (C := (csCons (tyL tyStr) (csLast (tyL tyInt)))) (O := (owL tyStr)) (t := fun E => t_deal_all K E) (ss := fun c => [(Sl.fz (tyL tyStr) c.1), (Sl.fz (tyL tyInt) c.2)]) (f := fun c => b_deal_all c.1 c.2) 2 2 (csn_cons csn_last) rfl (css_cons css_last) fun c E => ev_deal_all c
theorem ev_pass_all {K : PySem.W.Frag} {E : XK} (c : ((List (List Nat)) × (List Pas))) : EvS K (t_pass_all K E) E [(Sl.fz (tyL tyStr) c.1), (Sl.fz (tyL tyPass) c.2), Sl.dead, Sl.dead] (b_pass_all c.1 c.2) (fun _ : Unit => []) (fun _ : Unit => []) (owL tyStr) :=
  (s_asgO (i := 2) rfl (immo_l imm_str) (ev_cbO bl_list (ea_last (ev_var 0 rfl))) fun gone_1 => (at_ [(Sl.fz (tyL tyStr) c.1), (Sl.fz (tyL tyPass) c.2), (Sl.ow (owL tyStr) gone_1), Sl.dead] (s_seq (LS := (fun s_3 : (List (List Nat)) => [(Sl.fz (tyL tyStr) c.1), (Sl.fz (tyL tyPass) c.2), (Sl.ow (owL tyStr) s_3), Sl.dead])) (s_weak (L' := [(Sl.fz (tyL tyStr) c.1), (Sl.fz (tyL tyPass) c.2), (Sl.ow (owL tyStr) gone_1), Sl.dead]) (.same (.same (.same (.same .nil)))) (s_for (LS := (fun s_3 : (List (List Nat)) => [(Sl.fz (tyL tyStr) c.1), (Sl.fz (tyL tyPass) c.2), (Sl.ow (owL tyStr) s_3), Sl.dead])) (s0 := gone_1) (ei_l (ev_var 1 rfl)) (tg_name 3) fun s_3 x_4 => at_ [(Sl.fz (tyL tyStr) c.1), (Sl.fz (tyL tyPass) c.2), (Sl.ow (owL tyStr) s_3), (Sl.fz tyPass x_4)] (s_end (s_seq (LS := (fun s_9 : (List (List Nat)) => [(Sl.fz (tyL tyStr) c.1), (Sl.fz (tyL tyPass) c.2), (Sl.ow (owL tyStr) s_9), (Sl.fz tyPass x_4)])) (s_if (et_val (ev_op op_eqS (ev_pass0 (ev_var 3 rfl)) (ev_str [100, 101, 97, 108]))) (s_end (s_asgO (i := 2) rfl (immo_l imm_str) (ev_call (ea_cons (ev_varL 2 rfl) (ea_last (EvO.fr (ev_lst csn_last csl_last (ea_last (ev_pass1 (ev_var 3 rfl)))))))) fun gone_10 => (at_ [(Sl.fz (tyL tyStr) c.1), (Sl.fz (tyL tyPass) c.2), (Sl.ow (owL tyStr) gone_10), (Sl.fz tyPass x_4)] (s_nextW (.same (.same (.same (.same .nil)))))))) (s_end (s_asgO (i := 2) rfl (immo_l imm_str) (ev_comp (ei_l (ev_varL 2 rfl)) (tg_name 0) (fun _ => dead1) (fun x_17 => (et_val (ev_op op_eqS (ev_callF0 (ea_cons (ev_var 0 rfl) (ea_last (ev_pass1 (ev_var 1 rfl))))) (ev_pass2 (ev_var 1 rfl))))) (fun x_17 => (ev_var 0 rfl))) fun gone_16 => (at_ [(Sl.fz (tyL tyStr) c.1), (Sl.fz (tyL tyPass) c.2), (Sl.ow (owL tyStr) gone_16), (Sl.fz tyPass x_4)] (s_nextW (.same (.same (.same (.same .nil))))))))) fun s_9 => (at_ [(Sl.fz (tyL tyStr) c.1), (Sl.fz (tyL tyPass) c.2), (Sl.ow (owL tyStr) s_9), (Sl.fz tyPass x_4)] (s_nextW (.same (.same (.same (.dead .nil)))))))))) fun s_3 => (at_ [(Sl.fz (tyL tyStr) c.1), (Sl.fz (tyL tyPass) c.2), (Sl.ow (owL tyStr) s_3), Sl.dead] (s_retV (i := 2) rfl)))))
theorem rd_pass_all {K : PySem.W.Frag} (FX : Fx K) : RD_pass_all K := fn_rd (K := K) (N := ["deck", "row", "gone", "step"]) (C := (csCons (tyL tyStr) (csLast (tyL tyPass)))) (O := (owL tyStr)) (t := fun E => t_pass_all K E) (ss := fun c => [(Sl.fz (tyL tyStr) c.1), (Sl.fz (tyL tyPass) c.2)]) (f := fun c => b_pass_all c.1 c.2) 2 2 (csn_cons csn_last) rfl (css_cons css_last) fun c E => ev_pass_all c
theorem ev_picked_signs {K : PySem.W.Frag} {E : XK} (c : (List Pas)) : EvS K (t_picked_signs K) E [(Sl.fz (tyL tyPass) c), Sl.dead, Sl.dead] (b_picked_signs c) (fun _ : Unit => []) (fun _ : Unit => []) (owF (tyOpt (tyD kInt tyStr))) :=
  (s_asgO (i := 1) rfl (immo_d imm_str) (ev_dnew kInt tyStr) fun signs_1 => (at_ [(Sl.fz (tyL tyPass) c), (Sl.ow (owD kInt tyStr) signs_1), Sl.dead] (s_seq (LS := (fun s_2 : (List (Int × (List Nat))) => [(Sl.fz (tyL tyPass) c), (Sl.ow (owD kInt tyStr) s_2), Sl.dead])) (s_weak (L' := [(Sl.fz (tyL tyPass) c), (Sl.ow (owD kInt tyStr) signs_1), Sl.dead]) (.same (.same (.same .nil))) (s_for (LS := (fun s_2 : (List (Int × (List Nat))) => [(Sl.fz (tyL tyPass) c), (Sl.ow (owD kInt tyStr) s_2), Sl.dead])) (s0 := signs_1) (ei_l (ev_var 0 rfl)) (tg_name 2) fun s_2 x_3 => at_ [(Sl.fz (tyL tyPass) c), (Sl.ow (owD kInt tyStr) s_2), (Sl.fz tyPass x_3)] (s_end (s_seq (LS := (fun s_8 : (List (Int × (List Nat))) => [(Sl.fz (tyL tyPass) c), (Sl.ow (owD kInt tyStr) s_8), (Sl.fz tyPass x_3)])) (s_if (et_val (ev_op op_eqS (ev_pass0 (ev_var 2 rfl)) (ev_str [112, 105, 99, 107]))) (s_ifSd (i := 1) rfl imm_str imm_int (ev_pass1 (ev_var 2 rfl)) (ev_pass2 (ev_var 2 rfl)) op_neS (fun q_11 => atF [(Sl.fz (tyL tyPass) c), (Sl.ow (owD kInt tyStr) q_11.2), (Sl.fz tyPass x_3)] (ev_pass2 (ev_var 2 rfl))) (fun q_11 => at_ [(Sl.fz (tyL tyPass) c), (Sl.ow (owD kInt tyStr) q_11.2), (Sl.fz tyPass x_3)] (s_retC (EvF.ow ev_none))) (fun q_11 => at_ [(Sl.fz (tyL tyPass) c), (Sl.ow (owD kInt tyStr) q_11.2), (Sl.fz tyPass x_3)] (s_nextW (.same (.same (.same .nil)))))) (s_nextW (.same (.same (.same .nil))))) fun s_8 => (at_ [(Sl.fz (tyL tyPass) c), (Sl.ow (owD kInt tyStr) s_8), (Sl.fz tyPass x_3)] (s_nextW (.same (.same (.dead .nil))))))))) fun s_2 => (at_ [(Sl.fz (tyL tyPass) c), (Sl.ow (owD kInt tyStr) s_2), Sl.dead] (s_frz (i := 1) rfl (at_ [(Sl.fz (tyL tyPass) c), (Sl.fz (tyD kInt tyStr) s_2), Sl.dead] (s_retC (EvF.ow (ev_some (fun _ _ _ => nn_dict) (ev_var 1 rfl))))))))))
theorem rd_picked_signs {K : PySem.W.Frag} : RD_picked_signs K := fn_rd (K := K) (N := ["row", "signs", "step"]) (C := (csLast (tyL tyPass))) (O := (owF (tyOpt (tyD kInt tyStr)))) (t := fun E => t_picked_signs K) (ss := fun c => [(Sl.fz (tyL tyPass) c)]) (f := fun c => b_picked_signs c) 1 2 csn_last rfl css_last fun c E => ev_picked_signs c
theorem ev_sense_of {K : PySem.W.Frag} {E : XK} (c : (List Pas)) : EvS K (t_sense_of K) E [(Sl.fz (tyL tyPass) c), Sl.dead, Sl.dead, Sl.dead] (b_sense_of c) (fun _ : Unit => []) (fun _ : Unit => []) (owF (tyOpt (tyTup (csCons (tyOpt (tyD kInt tyStr)) (csLast (tyL tyInt)))))) :=
  (s_asgC (i := 1) rfl (ev_callF0 (ea_last (ev_var 0 rfl))) fun signs_2 => (at_ [(Sl.fz (tyL tyPass) c), (Sl.fz (tyOpt (tyD kInt tyStr)) signs_2), Sl.dead, Sl.dead] (s_seq (LS := (fun _ : Unit => [(Sl.fz (tyL tyPass) c), (Sl.fz (tyOpt (tyD kInt tyStr)) signs_2), Sl.dead, Sl.dead])) (s_if (et_val (ev_op op_isNo (ev_var 1 rfl) ev_non)) (s_retC (EvF.ow ev_none)) (s_nextW (.same (.same (.same (.same .nil)))))) fun _ => (at_ [(Sl.fz (tyL tyPass) c), (Sl.fz (tyOpt (tyD kInt tyStr)) signs_2), Sl.dead, Sl.dead] (s_asgO (i := 2) rfl (immo_l imm_int) (ev_lst0 tyInt) fun columns_9 => (at_ [(Sl.fz (tyL tyPass) c), (Sl.fz (tyOpt (tyD kInt tyStr)) signs_2), (Sl.ow (owL tyInt) columns_9), Sl.dead] (s_seq (LS := (fun s_10 : (List Int) => [(Sl.fz (tyL tyPass) c), (Sl.fz (tyOpt (tyD kInt tyStr)) signs_2), (Sl.ow (owL tyInt) s_10), Sl.dead])) (s_weak (L' := [(Sl.fz (tyL tyPass) c), (Sl.fz (tyOpt (tyD kInt tyStr)) signs_2), (Sl.ow (owL tyInt) columns_9), Sl.dead]) (.same (.same (.same (.same .nil)))) (s_for (LS := (fun s_10 : (List Int) => [(Sl.fz (tyL tyPass) c), (Sl.fz (tyOpt (tyD kInt tyStr)) signs_2), (Sl.ow (owL tyInt) s_10), Sl.dead])) (s0 := columns_9) (ei_rev (ea_last (ev_var 0 rfl))) (tg_name 3) fun s_10 x_12 => at_ [(Sl.fz (tyL tyPass) c), (Sl.fz (tyOpt (tyD kInt tyStr)) signs_2), (Sl.ow (owL tyInt) s_10), (Sl.fz tyPass x_12)] (s_end (s_seq (LS := (fun s_26 : (List Int) => [(Sl.fz (tyL tyPass) c), (Sl.fz (tyOpt (tyD kInt tyStr)) signs_2), (Sl.ow (owL tyInt) s_26), (Sl.fz tyPass x_12)])) (s_if (et_and (et_val (ev_op op_eqS (ev_pass0 (ev_var 3 rfl)) (ev_str [100, 101, 97, 108]))) (et_and (et_val (ev_din true (ev_pass1 (ev_var 3 rfl)) (ev_unopt (ev_var 1 rfl)))) (et_val (ev_op (op_ninL flt_int) (ev_pass1 (ev_var 3 rfl)) (ev_varL 2 rfl))))) (s_end (s_append (i := 2) rfl imm_int (ev_pass1 (ev_var 3 rfl)) fun a_28 => (at_ [(Sl.fz (tyL tyPass) c), (Sl.fz (tyOpt (tyD kInt tyStr)) signs_2), (Sl.ow (owL tyInt) (s_10 ++ [a_28])), (Sl.fz tyPass x_12)] (s_nextW (.same (.same (.same (.same .nil)))))))) (s_nextW (.same (.same (.same (.same .nil)))))) fun s_26 => (at_ [(Sl.fz (tyL tyPass) c), (Sl.fz (tyOpt (tyD kInt tyStr)) signs_2), (Sl.ow (owL tyInt) s_26), (Sl.fz tyPass x_12)] (s_nextW (.same (.same (.same (.dead .nil)))))))))) fun s_10 => (at_ [(Sl.fz (tyL tyPass) c), (Sl.fz (tyOpt (tyD kInt tyStr)) signs_2), (Sl.ow (owL tyInt) s_10), Sl.dead] (s_frz (i := 2) rfl (at_ [(Sl.fz (tyL tyPass) c), (Sl.fz (tyOpt (tyD kInt tyStr)) signs_2), (Sl.fz (tyL tyInt) s_10), Sl.dead] (s_retC (EvF.ow (ev_some (fun _ _ _ => nn_tup) (ev_tup (csn_cons csn_last) (ea_cons (ev_var 1 rfl) (ea_last (ev_var 2 rfl)))))))))))))))))
theorem rd_sense_of {K : PySem.W.Frag} : RD_sense_of K := fn_rd (K := K) (N := ["row", "signs", "columns", "step"]) (C := (csLast (tyL tyPass))) (O := (owF (tyOpt (tyTup (csCons (tyOpt (tyD kInt tyStr)) (csLast (tyL tyInt))))))) (t := fun E => t_sense_of K) (ss := fun c => [(Sl.fz (tyL tyPass) c)]) (f := fun c => b_sense_of c) 1 3 csn_last rfl css_last fun c E => ev_sense_of c
theorem ev_law_in_turn {K : PySem.W.Frag} {E : XK} (c : ((List Nat) × ((List Nat) × ((List Int) × (List ((List Nat) × Int)))))) : EvS K (t_law_in_turn K) E [(Sl.fz tyStr c.1), (Sl.fz tyStr c.2.1), (Sl.fz (tyL tyInt) c.2.2.1), (Sl.fz (tyD kStr tyInt) c.2.2.2), Sl.dead] (b_law_in_turn c.1 c.2.1 c.2.2.1 c.2.2.2) (fun _ : Unit => []) (fun _ : Unit => []) (owF tyBl) :=
  (s_seq (LS := (fun _ : Unit => [(Sl.fz tyStr c.1), (Sl.fz tyStr c.2.1), (Sl.fz (tyL tyInt) c.2.2.1), (Sl.fz (tyD kStr tyInt) c.2.2.2), Sl.dead])) (s_weak (L' := [(Sl.fz tyStr c.1), (Sl.fz tyStr c.2.1), (Sl.fz (tyL tyInt) c.2.2.1), (Sl.fz (tyD kStr tyInt) c.2.2.2), Sl.dead]) (.same (.same (.same (.same (.same .nil))))) (s_for (LS := (fun _ : Unit => [(Sl.fz tyStr c.1), (Sl.fz tyStr c.2.1), (Sl.fz (tyL tyInt) c.2.2.1), (Sl.fz (tyD kStr tyInt) c.2.2.2), Sl.dead])) (s0 := ()) (ei_l (ev_var 2 rfl)) (tg_name 4) fun _ x_2 => at_ [(Sl.fz tyStr c.1), (Sl.fz tyStr c.2.1), (Sl.fz (tyL tyInt) c.2.2.1), (Sl.fz (tyD kStr tyInt) c.2.2.2), (Sl.fz tyInt x_2)] (s_if (et_val (ev_op op_neS (ev_op op_ixS (ev_var 0 rfl) (ev_op op_subI (ev_var 4 rfl) (ev_int 1))) (ev_op op_ixS (ev_var 1 rfl) (ev_op op_subI (ev_var 4 rfl) (ev_int 1))))) (s_ret (immo_f imm_bl) (EvF.ow (ev_op op_ltKS (ev_op op_ixS (ev_var 0 rfl) (ev_op op_subI (ev_var 4 rfl) (ev_int 1))) (ev_op op_ixS (ev_var 1 rfl) (ev_op op_subI (ev_var 4 rfl) (ev_int 1)))))) (s_nextW (.same (.same (.same (.same (.dead .nil))))))))) fun _ => (at_ [(Sl.fz tyStr c.1), (Sl.fz tyStr c.2.1), (Sl.fz (tyL tyInt) c.2.2.1), (Sl.fz (tyD kStr tyInt) c.2.2.2), Sl.dead] (s_ret (immo_f imm_bl) (EvF.ow (ev_op op_ltKI (ev_dget (ev_var 3 rfl) (ev_var 0 rfl)) (ev_dget (ev_var 3 rfl) (ev_var 1 rfl)))))))
theorem rd_law_in_turn {K : PySem.W.Frag} : RD_law_in_turn K := fn_rd (K := K) (N := ["_law_card", "_law_other", "_law_key", "_law_places", "_law_column"]) (C := (csCons tyStr (csCons tyStr (csCons (tyL tyInt) (csLast (tyD kStr tyInt)))))) (O := (owF tyBl)) (t := fun E => t_law_in_turn K) (ss := fun c => [(Sl.fz tyStr c.1), (Sl.fz tyStr c.2.1), (Sl.fz (tyL tyInt) c.2.2.1), (Sl.fz (tyD kStr tyInt) c.2.2.2)]) (f := fun c => b_law_in_turn c.1 c.2.1 c.2.2.1 c.2.2.2) 4 1 (csn_cons (csn_cons (csn_cons csn_last))) rfl (css_cons (css_cons (css_cons css_last))) fun c E => ev_law_in_turn c
theorem ev_law_fits {K : PySem.W.Frag} {E : XK} (c : ((List Nat) × (Option (List (Int × (List Nat)))))) : EvS K (t_law_fits K) E [(Sl.fz tyStr c.1), (Sl.fz (tyOpt (tyD kInt tyStr)) c.2), Sl.dead, Sl.dead] (b_law_fits c.1 c.2) (fun _ : Unit => []) (fun _ : Unit => []) (owF tyBl) :=
  (s_seq (LS := (fun _ : Unit => [(Sl.fz tyStr c.1), Sl.dead, Sl.dead, Sl.dead])) (s_weak (L' := [(Sl.fz tyStr c.1), (Sl.fz (tyOpt (tyD kInt tyStr)) c.2), Sl.dead, Sl.dead]) (.same (.same (.same (.same .nil)))) (s_forD (KY := kInt) (T := tyStr) (Li := [(Sl.fz tyStr c.1), Sl.dead, Sl.dead, Sl.dead]) imm_str imm_int hk_int (ev_unopt (ev_var 1 rfl)) (tg_tup (csn_cons csn_last) (tc_cons 2 (tc_last (tg_name 3)))) (.imm imm_str (.dead (.dead (.dead .nil)))) (immo_f imm_bl) fun x_3 => at_ [(Sl.fz tyStr c.1), Sl.dead, (Sl.fz tyInt x_3.1), (Sl.fz tyStr x_3.2)] (s_if (et_val (ev_op op_neS (ev_op op_ixS (ev_var 0 rfl) (ev_op op_subI (ev_var 2 rfl) (ev_int 1))) (ev_var 3 rfl))) (s_ret (immo_f imm_bl) (EvF.ow (ev_bl false))) (s_nextW (.same (.same (.dead (.dead .nil)))))))) fun _ => (at_ [(Sl.fz tyStr c.1), Sl.dead, Sl.dead, Sl.dead] (s_ret (immo_f imm_bl) (EvF.ow (ev_bl true)))))
theorem rd_law_fits {K : PySem.W.Frag} : RD_law_fits K := fn_rd (K := K) (N := ["_law_card", "_law_picks", "_law_column", "_law_sign"]) (C := (csCons tyStr (csLast (tyOpt (tyD kInt tyStr))))) (O := (owF tyBl)) (t := fun E => t_law_fits K) (ss := fun c => [(Sl.fz tyStr c.1), (Sl.fz (tyOpt (tyD kInt tyStr)) c.2)]) (f := fun c => b_law_fits c.1 c.2) 2 2 (csn_cons csn_last) rfl (css_cons css_last) fun c E => ev_law_fits c
theorem ev_law_told {K : PySem.W.Frag} {E : XK} (c : ((List (List Nat)) × ((Option ((Option (List (Int × (List Nat)))) × (List Int))) × (List (List Nat))))) : EvS K (t_law_told K) E [(Sl.fz (tyL tyStr) c.1), (Sl.fz (tyOpt (tyTup (csCons (tyOpt (tyD kInt tyStr)) (csLast (tyL tyInt))))) c.2.1), (Sl.fz (tyL tyStr) c.2.2), Sl.dead, Sl.dead, Sl.dead, Sl.dead] (b_law_told c.1 c.2.1 c.2.2) (fun _ : Unit => []) (fun _ : Unit => []) (owF tyBl) :=
  (s_seq (LS := (fun _ : Unit => [(Sl.fz (tyL tyStr) c.1), (Sl.fz (tyOpt (tyTup (csCons (tyOpt (tyD kInt tyStr)) (csLast (tyL tyInt))))) c.2.1), (Sl.fz (tyL tyStr) c.2.2), Sl.dead, Sl.dead, Sl.dead, Sl.dead])) (s_if (et_not (et_val (ev_isa tn_l (ev_var 0 rfl)))) (s_ret (immo_f imm_bl) (EvF.ow (ev_bl false))) (s_nextW (.same (.same (.same (.same (.same (.same (.same .nil))))))))) fun _ => (at_ [(Sl.fz (tyL tyStr) c.1), (Sl.fz (tyOpt (tyTup (csCons (tyOpt (tyD kInt tyStr)) (csLast (tyL tyInt))))) c.2.1), (Sl.fz (tyL tyStr) c.2.2), Sl.dead, Sl.dead, Sl.dead, Sl.dead] (s_seq (LS := (fun _ : Unit => [(Sl.fz (tyL tyStr) c.1), (Sl.fz (tyOpt (tyTup (csCons (tyOpt (tyD kInt tyStr)) (csLast (tyL tyInt))))) c.2.1), (Sl.fz (tyL tyStr) c.2.2), Sl.dead, Sl.dead, Sl.dead, Sl.dead])) (s_if (et_val (ev_op op_isNo (ev_var 1 rfl) ev_non)) (s_ret (immo_f imm_bl) (EvF.ow (ev_op (op_eqL (eqt_l eqt_str)) (ev_var 0 rfl) (EvO.fr (ev_lst0 tyStr))))) (s_nextW (.same (.same (.same (.same (.same (.same (.same .nil))))))))) fun _ => (at_ [(Sl.fz (tyL tyStr) c.1), (Sl.fz (tyOpt (tyTup (csCons (tyOpt (tyD kInt tyStr)) (csLast (tyL tyInt))))) c.2.1), (Sl.fz (tyL tyStr) c.2.2), Sl.dead, Sl.dead, Sl.dead, Sl.dead] (s_seq (LS := (fun _ : Unit => [(Sl.fz (tyL tyStr) c.1), (Sl.fz (tyOpt (tyTup (csCons (tyOpt (tyD kInt tyStr)) (csLast (tyL tyInt))))) c.2.1), (Sl.fz (tyL tyStr) c.2.2), Sl.dead, Sl.dead, Sl.dead, Sl.dead])) (s_if (et_val (ev_op op_neI (ev_cb bl_lenL (ea_last (ev_var 0 rfl))) (ev_cb bl_lenL (ea_last (EvO.fr (O := (owL tyStr)) (ev_comp (ei_l (ev_var 2 rfl)) (tg_name 0) (fun _ => dead1) (fun x_14 => (et_val (ev_callF0 (ea_cons (ev_var 0 rfl) (ea_last (ev_ixT (i := 0) at_0 (ev_unopt (ev_var 1 rfl)))))))) (fun x_14 => (ev_var 0 rfl)))))))) (s_ret (immo_f imm_bl) (EvF.ow (ev_bl false))) (s_nextW (.same (.same (.same (.same (.same (.same (.same .nil))))))))) fun _ => (at_ [(Sl.fz (tyL tyStr) c.1), (Sl.fz (tyOpt (tyTup (csCons (tyOpt (tyD kInt tyStr)) (csLast (tyL tyInt))))) c.2.1), (Sl.fz (tyL tyStr) c.2.2), Sl.dead, Sl.dead, Sl.dead, Sl.dead] (s_asgO (i := 3) rfl (immo_d imm_int) (ev_dnew kStr tyInt) fun places_27 => (at_ [(Sl.fz (tyL tyStr) c.1), (Sl.fz (tyOpt (tyTup (csCons (tyOpt (tyD kInt tyStr)) (csLast (tyL tyInt))))) c.2.1), (Sl.fz (tyL tyStr) c.2.2), (Sl.ow (owD kStr tyInt) places_27), Sl.dead, Sl.dead, Sl.dead] (s_seq (LS := (fun s_28 : (List ((List Nat) × Int)) => [(Sl.fz (tyL tyStr) c.1), (Sl.fz (tyOpt (tyTup (csCons (tyOpt (tyD kInt tyStr)) (csLast (tyL tyInt))))) c.2.1), (Sl.fz (tyL tyStr) c.2.2), (Sl.ow (owD kStr tyInt) s_28), Sl.dead, Sl.dead, Sl.dead])) (s_weak (L' := [(Sl.fz (tyL tyStr) c.1), (Sl.fz (tyOpt (tyTup (csCons (tyOpt (tyD kInt tyStr)) (csLast (tyL tyInt))))) c.2.1), (Sl.fz (tyL tyStr) c.2.2), (Sl.ow (owD kStr tyInt) places_27), Sl.dead, Sl.dead, Sl.dead]) (.same (.same (.same (.same (.same (.same (.same .nil))))))) (s_for (LS := (fun s_28 : (List ((List Nat) × Int)) => [(Sl.fz (tyL tyStr) c.1), (Sl.fz (tyOpt (tyTup (csCons (tyOpt (tyD kInt tyStr)) (csLast (tyL tyInt))))) c.2.1), (Sl.fz (tyL tyStr) c.2.2), (Sl.ow (owD kStr tyInt) s_28), Sl.dead, Sl.dead, Sl.dead])) (s0 := places_27) (ei_rng1 (ea_last (ev_cb bl_lenL (ea_last (ev_var 2 rfl))))) (tg_name 4) fun s_28 x_31 => at_ [(Sl.fz (tyL tyStr) c.1), (Sl.fz (tyOpt (tyTup (csCons (tyOpt (tyD kInt tyStr)) (csLast (tyL tyInt))))) c.2.1), (Sl.fz (tyL tyStr) c.2.2), (Sl.ow (owD kStr tyInt) s_28), (Sl.fz tyInt x_31), Sl.dead, Sl.dead] (s_end (s_dput (i := 3) rfl imm_int imm_str (ev_var 4 rfl) (ev_op op_ixL (ev_var 2 rfl) (ev_var 4 rfl)) fun a_34 y_35 => (at_ [(Sl.fz (tyL tyStr) c.1), (Sl.fz (tyOpt (tyTup (csCons (tyOpt (tyD kInt tyStr)) (csLast (tyL tyInt))))) c.2.1), (Sl.fz (tyL tyStr) c.2.2), (Sl.ow (owD kStr tyInt) (putA s_28 y_35 a_34)), (Sl.fz tyInt x_31), Sl.dead, Sl.dead] (s_nextW (.same (.same (.same (.same (.dead (.same (.same .nil))))))))))))) fun s_28 => (at_ [(Sl.fz (tyL tyStr) c.1), (Sl.fz (tyOpt (tyTup (csCons (tyOpt (tyD kInt tyStr)) (csLast (tyL tyInt))))) c.2.1), (Sl.fz (tyL tyStr) c.2.2), (Sl.ow (owD kStr tyInt) s_28), Sl.dead, Sl.dead, Sl.dead] (s_seq (LS := (fun _ : Unit => [(Sl.fz (tyL tyStr) c.1), (Sl.fz (tyOpt (tyTup (csCons (tyOpt (tyD kInt tyStr)) (csLast (tyL tyInt))))) c.2.1), (Sl.fz (tyL tyStr) c.2.2), (Sl.ow (owD kStr tyInt) s_28), Sl.dead, Sl.dead, Sl.dead])) (s_weak (L' := [(Sl.fz (tyL tyStr) c.1), (Sl.fz (tyOpt (tyTup (csCons (tyOpt (tyD kInt tyStr)) (csLast (tyL tyInt))))) c.2.1), (Sl.fz (tyL tyStr) c.2.2), (Sl.ow (owD kStr tyInt) s_28), Sl.dead, Sl.dead, Sl.dead]) (.same (.same (.same (.same (.same (.same (.same .nil))))))) (s_for (LS := (fun _ : Unit => [(Sl.fz (tyL tyStr) c.1), (Sl.fz (tyOpt (tyTup (csCons (tyOpt (tyD kInt tyStr)) (csLast (tyL tyInt))))) c.2.1), (Sl.fz (tyL tyStr) c.2.2), (Sl.ow (owD kStr tyInt) s_28), Sl.dead, Sl.dead, Sl.dead])) (s0 := ()) (ei_l (ev_var 0 rfl)) (tg_name 5) fun _ x_38 => at_ [(Sl.fz (tyL tyStr) c.1), (Sl.fz (tyOpt (tyTup (csCons (tyOpt (tyD kInt tyStr)) (csLast (tyL tyInt))))) c.2.1), (Sl.fz (tyL tyStr) c.2.2), (Sl.ow (owD kStr tyInt) s_28), Sl.dead, (Sl.fz tyStr x_38), Sl.dead] (s_if (et_or (et_not (et_val (ev_isa tn_str (ev_var 5 rfl)))) (et_or (et_val (ev_din true (ev_var 5 rfl) (ev_varD 3 rfl))) (et_not (et_val (ev_callF0 (ea_cons (ev_var 5 rfl) (ea_last (ev_ixT (i := 0) at_0 (ev_unopt (ev_var 1 rfl)))))))))) (s_ret (immo_f imm_bl) (EvF.ow (ev_bl false))) (s_nextW (.same (.same (.same (.same (.same (.dead (.same .nil))))))))))) fun _ => (at_ [(Sl.fz (tyL tyStr) c.1), (Sl.fz (tyOpt (tyTup (csCons (tyOpt (tyD kInt tyStr)) (csLast (tyL tyInt))))) c.2.1), (Sl.fz (tyL tyStr) c.2.2), (Sl.ow (owD kStr tyInt) s_28), Sl.dead, Sl.dead, Sl.dead] (s_seq (LS := (fun _ : Unit => [(Sl.fz (tyL tyStr) c.1), (Sl.fz (tyOpt (tyTup (csCons (tyOpt (tyD kInt tyStr)) (csLast (tyL tyInt))))) c.2.1), (Sl.fz (tyL tyStr) c.2.2), (Sl.ow (owD kStr tyInt) s_28), Sl.dead, Sl.dead, Sl.dead])) (s_weak (L' := [(Sl.fz (tyL tyStr) c.1), (Sl.fz (tyOpt (tyTup (csCons (tyOpt (tyD kInt tyStr)) (csLast (tyL tyInt))))) c.2.1), (Sl.fz (tyL tyStr) c.2.2), (Sl.ow (owD kStr tyInt) s_28), Sl.dead, Sl.dead, Sl.dead]) (.same (.same (.same (.same (.same (.same (.same .nil))))))) (s_for (LS := (fun _ : Unit => [(Sl.fz (tyL tyStr) c.1), (Sl.fz (tyOpt (tyTup (csCons (tyOpt (tyD kInt tyStr)) (csLast (tyL tyInt))))) c.2.1), (Sl.fz (tyL tyStr) c.2.2), (Sl.ow (owD kStr tyInt) s_28), Sl.dead, Sl.dead, Sl.dead])) (s0 := ()) (ei_zipX (ea_cons (EvO.fr (ev_slL (ev_var 0 rfl) ep_no (ep_of (ev_neg (ev_int 1))))) (ea_last (EvO.fr (ev_slL (ev_var 0 rfl) (ep_of (ev_int 1)) ep_no))))) (tg_tup (csn_cons csn_last) (tc_cons 5 (tc_last (tg_name 6)))) fun _ x_67 => at_ [(Sl.fz (tyL tyStr) c.1), (Sl.fz (tyOpt (tyTup (csCons (tyOpt (tyD kInt tyStr)) (csLast (tyL tyInt))))) c.2.1), (Sl.fz (tyL tyStr) c.2.2), (Sl.ow (owD kStr tyInt) s_28), Sl.dead, (Sl.fz tyStr x_67.1), (Sl.fz tyStr x_67.2)] (s_if (et_not (et_val (ev_callF0 (ea_cons (ev_var 5 rfl) (ea_cons (ev_var 6 rfl) (ea_cons (ev_ixT (i := 1) (at_s at_last) (ev_unopt (ev_var 1 rfl))) (ea_last (ev_varD 3 rfl)))))))) (s_ret (immo_f imm_bl) (EvF.ow (ev_bl false))) (s_nextW (.same (.same (.same (.same (.same (.dead (.dead .nil))))))))))) fun _ => (at_ [(Sl.fz (tyL tyStr) c.1), (Sl.fz (tyOpt (tyTup (csCons (tyOpt (tyD kInt tyStr)) (csLast (tyL tyInt))))) c.2.1), (Sl.fz (tyL tyStr) c.2.2), (Sl.ow (owD kStr tyInt) s_28), Sl.dead, Sl.dead, Sl.dead] (s_ret (immo_f imm_bl) (EvF.ow (ev_bl true)))))))))))))))))
theorem rd_law_told {K : PySem.W.Frag} : RD_law_told K := fn_rd (K := K) (N := ["_law_found", "_law_sense", "_law_deck_here", "_law_places", "_law_k", "_law_card", "_law_other"]) (C := (csCons (tyL tyStr) (csCons (tyOpt (tyTup (csCons (tyOpt (tyD kInt tyStr)) (csLast (tyL tyInt))))) (csLast (tyL tyStr))))) (O := (owF tyBl)) (t := fun E => t_law_told K) (ss := fun c => [(Sl.fz (tyL tyStr) c.1), (Sl.fz (tyOpt (tyTup (csCons (tyOpt (tyD kInt tyStr)) (csLast (tyL tyInt))))) c.2.1), (Sl.fz (tyL tyStr) c.2.2)]) (f := fun c => b_law_told c.1 c.2.1 c.2.2) 3 4 (csn_cons (csn_cons csn_last)) rfl (css_cons (css_cons css_last)) fun c E => ev_law_told c
theorem ev_law_pass {K : PySem.W.Frag} {E : XK} (c : (Int × ((List Nat) × (Int × (Int × Int))))) : EvS K (t_law_pass K) E [(Sl.fz tyInt c.1), (Sl.fz tyStr c.2.1), (Sl.fz tyInt c.2.2.1), (Sl.fz tyInt c.2.2.2.1), (Sl.fz tyInt c.2.2.2.2), Sl.dead, Sl.dead, Sl.dead] (b_law_pass c.1 c.2.1 c.2.2.1 c.2.2.2.1 c.2.2.2.2) (fun _ : Unit => []) (fun _ : Unit => []) (owF tyPass) :=
  (s_asg (i := 5) rfl imm_str (ev_str SG) fun signs_1 => (at_ [(Sl.fz tyInt c.1), (Sl.fz tyStr c.2.1), (Sl.fz tyInt c.2.2.1), (Sl.fz tyInt c.2.2.2.1), (Sl.fz tyInt c.2.2.2.2), (Sl.fz tyStr signs_1), Sl.dead, Sl.dead] (s_asg (i := 6) rfl imm_int (ev_op op_addI (ev_op op_modI (ev_var 0 rfl) (ev_int 2147483647)) (ev_int 69621)) fun number_2 => (at_ [(Sl.fz tyInt c.1), (Sl.fz tyStr c.2.1), (Sl.fz tyInt c.2.2.1), (Sl.fz tyInt c.2.2.2.1), (Sl.fz tyInt c.2.2.2.2), (Sl.fz tyStr signs_1), (Sl.fz tyInt number_2), Sl.dead] (s_asg (i := 6) rfl imm_int (ev_op op_modI (ev_op op_mulXI (ev_var 6 rfl) (ev_var 6 rfl)) (ev_int 2147483629)) fun number_7 => (at_ [(Sl.fz tyInt c.1), (Sl.fz tyStr c.2.1), (Sl.fz tyInt c.2.2.1), (Sl.fz tyInt c.2.2.2.1), (Sl.fz tyInt c.2.2.2.2), (Sl.fz tyStr signs_1), (Sl.fz tyInt number_7), Sl.dead] (s_asg (i := 7) rfl imm_int (ev_op op_addI (ev_int 1) (ev_op op_modI (ev_op op_addI (ev_var 2 rfl) (ev_op op_modI (ev_op op_divGI (ev_var 6 rfl) (ev_int 8)) (ev_var 3 rfl))) (ev_int 36))) fun column_12 => (at_ [(Sl.fz tyInt c.1), (Sl.fz tyStr c.2.1), (Sl.fz tyInt c.2.2.1), (Sl.fz tyInt c.2.2.2.1), (Sl.fz tyInt c.2.2.2.2), (Sl.fz tyStr signs_1), (Sl.fz tyInt number_7), (Sl.fz tyInt column_12)] (s_seq (LS := (fun _ : Unit => [(Sl.fz tyInt c.1), (Sl.fz tyStr c.2.1), (Sl.fz tyInt c.2.2.1), (Sl.fz tyInt c.2.2.2.1), (Sl.fz tyInt c.2.2.2.2), (Sl.fz tyStr signs_1), (Sl.fz tyInt number_7), (Sl.fz tyInt column_12)])) (s_if (et_val (ev_op op_geI (ev_op op_modI (ev_var 6 rfl) (ev_int 8)) (ev_var 4 rfl))) (s_ret (immo_f imm_pass) (EvF.ow (ev_deal (ev_var 7 rfl)))) (s_nextW (.same (.same (.same (.same (.same (.same (.same (.same .nil)))))))))) fun _ => (at_ [(Sl.fz tyInt c.1), (Sl.fz tyStr c.2.1), (Sl.fz tyInt c.2.2.1), (Sl.fz tyInt c.2.2.2.1), (Sl.fz tyInt c.2.2.2.2), (Sl.fz tyStr signs_1), (Sl.fz tyInt number_7), (Sl.fz tyInt column_12)] (s_seq (LS := (fun _ : Unit => [(Sl.fz tyInt c.1), (Sl.fz tyStr c.2.1), (Sl.fz tyInt c.2.2.1), (Sl.fz tyInt c.2.2.2.1), (Sl.fz tyInt c.2.2.2.2), (Sl.fz tyStr signs_1), (Sl.fz tyInt number_7), (Sl.fz tyInt column_12)])) (s_if (et_val (ev_op op_eqI (ev_op op_modI (ev_op op_divGI (ev_var 6 rfl) (ev_int 512)) (ev_int 7)) (ev_int 1))) (s_ret (immo_f imm_pass) (EvF.ow (ev_pick (ev_var 7 rfl) (ev_op op_ixS (ev_var 5 rfl) (ev_op op_modI (ev_op op_divGI (ev_var 6 rfl) (ev_int 4096)) (ev_int 37)))))) (s_nextW (.same (.same (.same (.same (.same (.same (.same (.same .nil)))))))))) fun _ => (at_ [(Sl.fz tyInt c.1), (Sl.fz tyStr c.2.1), (Sl.fz tyInt c.2.2.1), (Sl.fz tyInt c.2.2.2.1), (Sl.fz tyInt c.2.2.2.2), (Sl.fz tyStr signs_1), (Sl.fz tyInt number_7), (Sl.fz tyInt column_12)] (s_ret (immo_f imm_pass) (EvF.ow (ev_pick (ev_var 7 rfl) (ev_op op_ixS (ev_var 1 rfl) (ev_op op_subI (ev_var 7 rfl) (ev_int 1))))))))))))))))))
theorem rd_law_pass {K : PySem.W.Frag} : RD_law_pass K := fn_rd (K := K) (N := ["_law_cell", "_law_hero", "_law_start", "_law_reach", "_law_share", "_law_signs", "_law_number", "_law_column"]) (C := (csCons tyInt (csCons tyStr (csCons tyInt (csCons tyInt (csLast tyInt)))))) (O := (owF tyPass)) (t := fun E => t_law_pass K) (ss := fun c => [(Sl.fz tyInt c.1), (Sl.fz tyStr c.2.1), (Sl.fz tyInt c.2.2.1), (Sl.fz tyInt c.2.2.2.1), (Sl.fz tyInt c.2.2.2.2)]) (f := fun c => b_law_pass c.1 c.2.1 c.2.2.1 c.2.2.2.1 c.2.2.2.2) 5 3 (csn_cons (csn_cons (csn_cons (csn_cons csn_last)))) rfl (css_cons (css_cons (css_cons (css_cons css_last)))) fun c E => ev_law_pass c
theorem ev_law {K : PySem.W.Frag} {E : XK} (c : (List Int)) : EvS K (t_law K) E [(Sl.fz (tySc K) c), Sl.dead, Sl.dead, Sl.dead, Sl.dead, Sl.dead, Sl.dead, Sl.dead, Sl.dead, Sl.dead, Sl.dead, Sl.dead, Sl.dead, Sl.dead] (b_law c) (fun _ : Unit => []) (fun _ : Unit => []) (owF tyBl) :=
  (s_asg (i := 1) rfl imm_int (ev_op op_modI (ev_callF0 (ea_cons (ev_var 0 rfl) (ea_last (ev_int 0)))) (ev_int 10)) fun many_1 => (at_ [(Sl.fz (tySc K) c), (Sl.fz tyInt many_1), Sl.dead, Sl.dead, Sl.dead, Sl.dead, Sl.dead, Sl.dead, Sl.dead, Sl.dead, Sl.dead, Sl.dead, Sl.dead, Sl.dead] (s_seq (LS := (fun s_17 : Int => [(Sl.fz (tySc K) c), (Sl.fz tyInt s_17), Sl.dead, Sl.dead, Sl.dead, Sl.dead, Sl.dead, Sl.dead, Sl.dead, Sl.dead, Sl.dead, Sl.dead, Sl.dead, Sl.dead])) (s_if (et_val (ev_op op_eqI (ev_op op_modI (ev_op op_divGI (ev_callF0 (ea_cons (ev_var 0 rfl) (ea_last (ev_int 0)))) (ev_int 10)) (ev_int 4)) (ev_int 1))) (s_end (s_asg (i := 1) rfl imm_int (ev_op op_addI (ev_int 10) (ev_op op_modI (ev_op op_divGI (ev_callF0 (ea_cons (ev_var 0 rfl) (ea_last (ev_int 0)))) (ev_int 40)) (ev_int 15))) fun many_18 => (at_ [(Sl.fz (tySc K) c), (Sl.fz tyInt many_18), Sl.dead, Sl.dead, Sl.dead, Sl.dead, Sl.dead, Sl.dead, Sl.dead, Sl.dead, Sl.dead, Sl.dead, Sl.dead, Sl.dead] (s_nextW (.same (.same (.same (.same (.same (.same (.same (.same (.same (.same (.same (.same (.same (.same .nil)))))))))))))))))) (s_nextW (.same (.same (.same (.same (.same (.same (.same (.same (.same (.same (.same (.same (.same (.same .nil)))))))))))))))) fun s_17 => (at_ [(Sl.fz (tySc K) c), (Sl.fz tyInt s_17), Sl.dead, Sl.dead, Sl.dead, Sl.dead, Sl.dead, Sl.dead, Sl.dead, Sl.dead, Sl.dead, Sl.dead, Sl.dead, Sl.dead] (s_asg (i := 2) rfl imm_int (ev_op op_ixL (EvO.fr (ev_lst (csn_cons (csn_cons (csn_cons csn_last))) (csl_cons (csl_cons (csl_cons csl_last))) (ea_cons (ev_int 2) (ea_cons (ev_int 3) (ea_cons (ev_int 1) (ea_last (ev_int 37))))))) (ev_op op_modI (ev_callF0 (ea_cons (ev_var 0 rfl) (ea_last (ev_int 2)))) (ev_int 4))) fun spread_28 => (at_ [(Sl.fz (tySc K) c), (Sl.fz tyInt s_17), (Sl.fz tyInt spread_28), Sl.dead, Sl.dead, Sl.dead, Sl.dead, Sl.dead, Sl.dead, Sl.dead, Sl.dead, Sl.dead, Sl.dead, Sl.dead] (s_asg (i := 3) rfl imm_int (ev_op op_modI (ev_op op_divGI (ev_callF0 (ea_cons (ev_var 0 rfl) (ea_last (ev_int 2)))) (ev_int 4)) (ev_int 36)) fun start_43 => (at_ [(Sl.fz (tySc K) c), (Sl.fz tyInt s_17), (Sl.fz tyInt spread_28), (Sl.fz tyInt start_43), Sl.dead, Sl.dead, Sl.dead, Sl.dead, Sl.dead, Sl.dead, Sl.dead, Sl.dead, Sl.dead, Sl.dead] (s_asgO (i := 4) rfl (immo_l imm_str) (ev_call0 (ea_cons (ev_callF0 (ea_cons (ev_var 0 rfl) (ea_last (ev_int 1)))) (ea_cons (ev_var 1 rfl) (ea_last (ev_var 2 rfl))))) fun deck_here_51 => s_frz (i := 4) rfl (at_ [(Sl.fz (tySc K) c), (Sl.fz tyInt s_17), (Sl.fz tyInt spread_28), (Sl.fz tyInt start_43), (Sl.fz (tyL tyStr) deck_here_51), Sl.dead, Sl.dead, Sl.dead, Sl.dead, Sl.dead, Sl.dead, Sl.dead, Sl.dead, Sl.dead] (s_asg (i := 5) rfl imm_str (ev_op op_ixL (EvO.fr (ev_opO op_addL (ev_var 4 rfl) (EvO.fr (ev_lst csn_last csl_last (ea_last (ev_op op_mulXS (ev_str [32]) (ev_int 40))))))) (ev_int 0)) fun hero_60 => (at_ [(Sl.fz (tySc K) c), (Sl.fz tyInt s_17), (Sl.fz tyInt spread_28), (Sl.fz tyInt start_43), (Sl.fz (tyL tyStr) deck_here_51), (Sl.fz tyStr hero_60), Sl.dead, Sl.dead, Sl.dead, Sl.dead, Sl.dead, Sl.dead, Sl.dead, Sl.dead] (s_asg (i := 6) rfl imm_int (ev_callF0 (ea_cons (ev_var 0 rfl) (ea_last (ev_int 3)))) fun ways_68 => (at_ [(Sl.fz (tySc K) c), (Sl.fz tyInt s_17), (Sl.fz tyInt spread_28), (Sl.fz tyInt start_43), (Sl.fz (tyL tyStr) deck_here_51), (Sl.fz tyStr hero_60), (Sl.fz tyInt ways_68), Sl.dead, Sl.dead, Sl.dead, Sl.dead, Sl.dead, Sl.dead, Sl.dead] (s_asg (i := 7) rfl imm_int (ev_op op_ixL (EvO.fr (ev_lst (csn_cons (csn_cons (csn_cons csn_last))) (csl_cons (csl_cons (csl_cons csl_last))) (ea_cons (ev_int 2) (ea_cons (ev_int 1) (ea_cons (ev_int 4) (ea_last (ev_int 36))))))) (ev_op op_modI (ev_var 6 rfl) (ev_int 4))) fun reach_72 => (at_ [(Sl.fz (tySc K) c), (Sl.fz tyInt s_17), (Sl.fz tyInt spread_28), (Sl.fz tyInt start_43), (Sl.fz (tyL tyStr) deck_here_51), (Sl.fz tyStr hero_60), (Sl.fz tyInt ways_68), (Sl.fz tyInt reach_72), Sl.dead, Sl.dead, Sl.dead, Sl.dead, Sl.dead, Sl.dead] (s_asgO (i := 8) rfl (immo_l imm_pass) (ev_lst0 tyPass) fun row_84 => (at_ [(Sl.fz (tySc K) c), (Sl.fz tyInt s_17), (Sl.fz tyInt spread_28), (Sl.fz tyInt start_43), (Sl.fz (tyL tyStr) deck_here_51), (Sl.fz tyStr hero_60), (Sl.fz tyInt ways_68), (Sl.fz tyInt reach_72), (Sl.ow (owL tyPass) row_84), Sl.dead, Sl.dead, Sl.dead, Sl.dead, Sl.dead] (s_seq (LS := (fun s_85 : (List Pas) => [(Sl.fz (tySc K) c), (Sl.fz tyInt s_17), (Sl.fz tyInt spread_28), (Sl.fz tyInt start_43), (Sl.fz (tyL tyStr) deck_here_51), (Sl.fz tyStr hero_60), (Sl.fz tyInt ways_68), (Sl.fz tyInt reach_72), (Sl.ow (owL tyPass) s_85), Sl.dead, Sl.dead, Sl.dead, Sl.dead, Sl.dead])) (s_weak (L' := [(Sl.fz (tySc K) c), (Sl.fz tyInt s_17), (Sl.fz tyInt spread_28), (Sl.fz tyInt start_43), (Sl.fz (tyL tyStr) deck_here_51), (Sl.fz tyStr hero_60), (Sl.fz tyInt ways_68), (Sl.fz tyInt reach_72), (Sl.ow (owL tyPass) row_84), Sl.dead, Sl.dead, Sl.dead, Sl.dead, Sl.dead]) (.same (.same (.same (.same (.same (.same (.same (.same (.same (.same (.same (.same (.same (.same .nil)))))))))))))) (s_for (LS := (fun s_85 : (List Pas) => [(Sl.fz (tySc K) c), (Sl.fz tyInt s_17), (Sl.fz tyInt spread_28), (Sl.fz tyInt start_43), (Sl.fz (tyL tyStr) deck_here_51), (Sl.fz tyStr hero_60), (Sl.fz tyInt ways_68), (Sl.fz tyInt reach_72), (Sl.ow (owL tyPass) s_85), Sl.dead, Sl.dead, Sl.dead, Sl.dead, Sl.dead])) (s0 := row_84) (ei_l (EvO.fr (ev_slSc (ev_var 0 rfl) (ep_of (ev_int 4)) (ep_of (ev_int 104))))) (tg_name 9) fun s_85 x_91 => at_ [(Sl.fz (tySc K) c), (Sl.fz tyInt s_17), (Sl.fz tyInt spread_28), (Sl.fz tyInt start_43), (Sl.fz (tyL tyStr) deck_here_51), (Sl.fz tyStr hero_60), (Sl.fz tyInt ways_68), (Sl.fz tyInt reach_72), (Sl.ow (owL tyPass) s_85), (Sl.fz tyInt x_91), Sl.dead, Sl.dead, Sl.dead, Sl.dead] (s_end (s_append (i := 8) rfl imm_pass (ev_callF0 (ea_cons (ev_var 9 rfl) (ea_cons (ev_var 5 rfl) (ea_cons (ev_var 3 rfl) (ea_cons (ev_var 7 rfl) (ea_last (ev_op op_ixL (EvO.fr (ev_lst (csn_cons (csn_cons csn_last)) (csl_cons (csl_cons csl_last)) (ea_cons (ev_int 2) (ea_cons (ev_int 0) (ea_last (ev_int 4)))))) (ev_op op_modI (ev_op op_divGI (ev_var 6 rfl) (ev_int 4)) (ev_int 3))))))))) fun a_112 => (at_ [(Sl.fz (tySc K) c), (Sl.fz tyInt s_17), (Sl.fz tyInt spread_28), (Sl.fz tyInt start_43), (Sl.fz (tyL tyStr) deck_here_51), (Sl.fz tyStr hero_60), (Sl.fz tyInt ways_68), (Sl.fz tyInt reach_72), (Sl.ow (owL tyPass) (s_85 ++ [a_112])), (Sl.fz tyInt x_91), Sl.dead, Sl.dead, Sl.dead, Sl.dead] (s_nextW (.same (.same (.same (.same (.same (.same (.same (.same (.same (.dead (.same (.same (.same (.same .nil)))))))))))))))))))) fun s_85 => (at_ [(Sl.fz (tySc K) c), (Sl.fz tyInt s_17), (Sl.fz tyInt spread_28), (Sl.fz tyInt start_43), (Sl.fz (tyL tyStr) deck_here_51), (Sl.fz tyStr hero_60), (Sl.fz tyInt ways_68), (Sl.fz tyInt reach_72), (Sl.ow (owL tyPass) s_85), Sl.dead, Sl.dead, Sl.dead, Sl.dead, Sl.dead] (s_asgO (i := 10) rfl (immo_l imm_str) (ev_cbO bl_list (ea_last (ev_var 4 rfl))) fun handed_114 => s_frz (i := 10) rfl (at_ [(Sl.fz (tySc K) c), (Sl.fz tyInt s_17), (Sl.fz tyInt spread_28), (Sl.fz tyInt start_43), (Sl.fz (tyL tyStr) deck_here_51), (Sl.fz tyStr hero_60), (Sl.fz tyInt ways_68), (Sl.fz tyInt reach_72), (Sl.ow (owL tyPass) s_85), Sl.dead, (Sl.fz (tyL tyStr) handed_114), Sl.dead, Sl.dead, Sl.dead] (s_asgO (i := 11) rfl (immo_l imm_str) (ev_call0 (ea_cons (ev_var 10 rfl) (ea_last (ev_varL 8 rfl)))) fun found_116 => s_frz (i := 11) rfl (at_ [(Sl.fz (tySc K) c), (Sl.fz tyInt s_17), (Sl.fz tyInt spread_28), (Sl.fz tyInt start_43), (Sl.fz (tyL tyStr) deck_here_51), (Sl.fz tyStr hero_60), (Sl.fz tyInt ways_68), (Sl.fz tyInt reach_72), (Sl.ow (owL tyPass) s_85), Sl.dead, (Sl.fz (tyL tyStr) handed_114), (Sl.fz (tyL tyStr) found_116), Sl.dead, Sl.dead] (s_frz (i := 8) rfl (at_ [(Sl.fz (tySc K) c), (Sl.fz tyInt s_17), (Sl.fz tyInt spread_28), (Sl.fz tyInt start_43), (Sl.fz (tyL tyStr) deck_here_51), (Sl.fz tyStr hero_60), (Sl.fz tyInt ways_68), (Sl.fz tyInt reach_72), (Sl.fz (tyL tyPass) s_85), Sl.dead, (Sl.fz (tyL tyStr) handed_114), (Sl.fz (tyL tyStr) found_116), Sl.dead, Sl.dead] (s_asgC (i := 12) rfl (ev_callF0 (ea_last (ev_var 8 rfl))) fun sense_121 => (at_ [(Sl.fz (tySc K) c), (Sl.fz tyInt s_17), (Sl.fz tyInt spread_28), (Sl.fz tyInt start_43), (Sl.fz (tyL tyStr) deck_here_51), (Sl.fz tyStr hero_60), (Sl.fz tyInt ways_68), (Sl.fz tyInt reach_72), (Sl.fz (tyL tyPass) s_85), Sl.dead, (Sl.fz (tyL tyStr) handed_114), (Sl.fz (tyL tyStr) found_116), (Sl.fz (tyOpt (tyTup (csCons (tyOpt (tyD kInt tyStr)) (csLast (tyL tyInt))))) sense_121), Sl.dead] (s_seq (LS := (fun _ : Unit => [(Sl.fz (tySc K) c), (Sl.fz tyInt s_17), (Sl.fz tyInt spread_28), (Sl.fz tyInt start_43), (Sl.fz (tyL tyStr) deck_here_51), (Sl.fz tyStr hero_60), (Sl.fz tyInt ways_68), (Sl.fz tyInt reach_72), (Sl.fz (tyL tyPass) s_85), Sl.dead, (Sl.fz (tyL tyStr) handed_114), (Sl.fz (tyL tyStr) found_116), (Sl.fz (tyOpt (tyTup (csCons (tyOpt (tyD kInt tyStr)) (csLast (tyL tyInt))))) sense_121), Sl.dead])) (s_if (et_or (et_val (ev_op (op_neL (eqt_l eqt_str)) (ev_var 10 rfl) (ev_var 4 rfl))) (et_not (et_val (ev_callF0 (ea_cons (ev_var 11 rfl) (ea_cons (ev_var 12 rfl) (ea_last (ev_var 4 rfl)))))))) (s_ret (immo_f imm_bl) (EvF.ow (ev_bl false))) (s_nextW (.same (.same (.same (.same (.same (.same (.same (.same (.same (.same (.same (.same (.same (.same .nil)))))))))))))))) fun _ => (at_ [(Sl.fz (tySc K) c), (Sl.fz tyInt s_17), (Sl.fz tyInt spread_28), (Sl.fz tyInt start_43), (Sl.fz (tyL tyStr) deck_here_51), (Sl.fz tyStr hero_60), (Sl.fz tyInt ways_68), (Sl.fz tyInt reach_72), (Sl.fz (tyL tyPass) s_85), Sl.dead, (Sl.fz (tyL tyStr) handed_114), (Sl.fz (tyL tyStr) found_116), (Sl.fz (tyOpt (tyTup (csCons (tyOpt (tyD kInt tyStr)) (csLast (tyL tyInt))))) sense_121), Sl.dead] (s_asgO (i := 13) rfl (immo_l imm_pass) (ev_rev (ev_var 8 rfl) (ep_of (ev_neg (ev_int 1)))) fun back_135 => s_frz (i := 13) rfl (at_ [(Sl.fz (tySc K) c), (Sl.fz tyInt s_17), (Sl.fz tyInt spread_28), (Sl.fz tyInt start_43), (Sl.fz (tyL tyStr) deck_here_51), (Sl.fz tyStr hero_60), (Sl.fz tyInt ways_68), (Sl.fz tyInt reach_72), (Sl.fz (tyL tyPass) s_85), Sl.dead, (Sl.fz (tyL tyStr) handed_114), (Sl.fz (tyL tyStr) found_116), (Sl.fz (tyOpt (tyTup (csCons (tyOpt (tyD kInt tyStr)) (csLast (tyL tyInt))))) sense_121), (Sl.fz (tyL tyPass) back_135)] (s_seq (LS := (fun _ : Unit => [(Sl.fz (tySc K) c), (Sl.fz tyInt s_17), (Sl.fz tyInt spread_28), (Sl.fz tyInt start_43), (Sl.fz (tyL tyStr) deck_here_51), (Sl.fz tyStr hero_60), (Sl.fz tyInt ways_68), (Sl.fz tyInt reach_72), (Sl.fz (tyL tyPass) s_85), Sl.dead, (Sl.fz (tyL tyStr) handed_114), (Sl.fz (tyL tyStr) found_116), (Sl.fz (tyOpt (tyTup (csCons (tyOpt (tyD kInt tyStr)) (csLast (tyL tyInt))))) sense_121), (Sl.fz (tyL tyPass) back_135)])) (s_if (et_not (et_val (ev_callF0 (ea_cons (EvO.fr (ev_call0 (ea_cons (ev_var 4 rfl) (ea_last (ev_var 13 rfl))))) (ea_cons (ev_callF0 (ea_last (ev_var 13 rfl))) (ea_last (ev_var 4 rfl))))))) (s_ret (immo_f imm_bl) (EvF.ow (ev_bl false))) (s_nextW (.same (.same (.same (.same (.same (.same (.same (.same (.same (.same (.same (.same (.same (.same .nil)))))))))))))))) fun _ => (at_ [(Sl.fz (tySc K) c), (Sl.fz tyInt s_17), (Sl.fz tyInt spread_28), (Sl.fz tyInt start_43), (Sl.fz (tyL tyStr) deck_here_51), (Sl.fz tyStr hero_60), (Sl.fz tyInt ways_68), (Sl.fz tyInt reach_72), (Sl.fz (tyL tyPass) s_85), Sl.dead, (Sl.fz (tyL tyStr) handed_114), (Sl.fz (tyL tyStr) found_116), (Sl.fz (tyOpt (tyTup (csCons (tyOpt (tyD kInt tyStr)) (csLast (tyL tyInt))))) sense_121), (Sl.fz (tyL tyPass) back_135)] (s_ret (immo_f imm_bl) (EvF.ow (ev_callF0 (ea_cons (ev_var 11 rfl) (ea_cons (ev_var 12 rfl) (ea_last (ev_var 4 rfl)))))))))))))))))))))))))))))))))))))))))
theorem rd_law_of (hf : ∀ ns : List Int, ns.length ≤ 63 → BitsOk ns → f_law ns = .ok true) {K : PySem.W.Frag} : RD_law K := by
  rintro vs H Q E ⟨a, ns, rfl, hS, hl, hb, q⟩
  refine fn_rd (K := K) (N := ["_law_script", "_law_many", "_law_spread", "_law_start", "_law_deck_here", "_law_hero", "_law_ways", "_law_reach", "_law_row", "_law_cell", "_law_handed", "_law_found", "_law_sense", "_law_back"]) (C := (csLast (tySc K))) (O := owF tyBl) (t := fun E => t_law K) (ss := fun c => [(Sl.fz (tySc K) c)]) (f := fun c => b_law c) 1 13 csn_last rfl css_last (fun c E => ev_law c) _ H Q E ⟨H, ns, Same.refl _, ⟨_, rfl, a, rfl, hS⟩, ?_⟩
  show After K (f_law ns) E H H _
  rw [hf ns hl hb]
  rintro F' H' x v h _ _ _ ⟨_, rfl⟩
  exact q H'
end K16
namespace K16
open PySem PySem.Spec PyProof.Rows L2
local macro_rules | `(tactic| walk_at "mo") => `(tactic| simp only [Mo.okB, Mo.exB, Mo.noB, Mo.noexO, Mo.optS, thenO_nx, thenO_rt, thenO_bk, thenO_ct, fnO_rt, forO_nil, grd_div, grd_mod, grd_mulL, grd_T, Bool.not_true, Bool.not_false, if_true, if_false, Bool.false_eq_true, Option.map_some, Option.map_none, ite_true, ite_false, Int.reduceLT, Int.reduceLE, Int.reduceNeg, Int.reduceSub, Int.reduceAdd, Int.reduceMul, Nat.reduceAdd, Nat.reduceLT, decide_true, decide_false, Option.isSome_none, Option.isSome_some, Option.isNone_none, Option.isNone_some, Bool.and_true, Bool.and_false])
theorem lim40 {α : Type} {c : Crd} (h : isC c) (k : Mo α) : Mo.lim c.length k = k := Mo.lim_ok (by rw [h.1]; omega)
theorem sign_at_eq {c : Crd} {col : Int} (h : isC c) (hc : colOk col) : f_sign_at c col = .ok [sg c col] := by
  unfold f_sign_at b_sign_at
  walk_at "mo"
  rw [lim40 h, (sg_at h hc).1]
  rfl
theorem is_sign_eq {x : Nat} (h : x ∈ SG) : f_is_sign [x] = .ok true := by
  unfold f_is_sign b_is_sign
  walk_at "mo"
  rw [Mo.lim_ok (by simp)]
  have : inS [x] SG = true := decide_eq_true h
  simp [this]
theorem rank_eq {x : Nat} (h : x ∈ SG) : f_rank_of [x] = .ok (rk1 x : Int) := by
  unfold f_rank_of b_rank_of
  walk_at "mo"
  rw [is_sign_eq h]
  walk_at "mo"
  rw [rk1_find h, Mo.grd_ok (by omega)]
  rfl
theorem stream_eq (cell : Int) {many : Int} (h0 : 0 ≤ many) (h1 : many ≤ 5000) : ∃ ns, f_law_stream cell many = .ok ns ∧ ns.length = many.toNat := by
  unfold f_law_stream b_law_stream
  walk_at "mo"
  rw [Mo.grd_ok ⟨by omega, by omega⟩]
  walk_at "mo"
  have hn : many.toNat ≤ 5000 := by omega
  generalize many.toNat = n at hn
  refine forO_elim (G := fun m => ∃ c : List Int, fnO (thenO m _) = .ok c ∧ c.length = n) (fun d (s : Int × List Int) => s.2.length = d.length ∧ 0 ≤ s.1 ∧ s.1 < 4294967296) ⟨rfl, by show 0 ≤ cell % 2147483647 + 48271; omega, by show cell % 2147483647 + 48271 < 4294967296; omega⟩ ?_ ?_
  · rintro d x ⟨nn, cs⟩ ⟨r, hr⟩ ⟨q1, q3, q4⟩
    have hd : d.length ≤ 5000 := by
      have := congrArg List.length hr
      rw [rngI_len, List.length_append] at this; omega
    simp only at q1 q3 q4
    have hmul : IntMulOk nn nn := mulG_small (.inl ⟨by omega, by omega⟩)
    walk_at "mo"
    rw [Mo.grd_ok hmul]
    walk_at "mo"
    rw [Mo.lim_ok (by omega)]
    exact ⟨_, rfl, by simp; exact q1, Int.emod_nonneg _ (by decide), Int.lt_trans (Int.emod_lt_of_pos _ (by decide)) (by decide)⟩
  · rintro s ⟨q1, _, _⟩
    rw [rngI_len] at q1
    exact ⟨s.2, rfl, q1⟩
theorem sgn_eq (k : Int) : ∃ x, atI SG (k % 37) = some x ∧ x ∈ SG := atI_some (xs := SG) (Int.emod_nonneg _ (by decide)) (Int.emod_lt_of_pos _ (by decide))
theorem limSG {α : Type} (k : Mo α) : Mo.lim SG.length k = k := Mo.lim_ok (by decide)
def mkAt (cell : Int) (c : Crd) : Option Nat := c[36 + (cell % 4).toNat]?
theorem deck_eq (cell : Int) {many spread : Int} (h0 : 0 ≤ many) (h1 : many ≤ 36) (hs : 0 < spread) : ∃ d, f_law_deck cell many spread = .ok d ∧ d.length = many.toNat ∧ (∀ c ∈ d, isC c) ∧ d.Nodup := by
  unfold f_law_deck b_law_deck
  walk_at "mo"
  obtain ⟨st, es, hst⟩ := stream_eq cell (many := 36 * many) (by omega) (by omega)
  rw [es]
  walk_at "mo"
  rw [Mo.grd_ok ⟨by omega, by omega⟩]
  walk_at "mo"
  refine forO_elim (G := fun m => ∃ c : List Crd, fnO (thenO m _) = .ok c ∧ c.length = many.toNat ∧ (∀ x ∈ c, isC x) ∧ c.Nodup) (fun d (s : List Crd) => s.length = d.length ∧ (∀ x ∈ s, isC x) ∧ ∀ (i : Nat) c, s[i]? = some c → mkAt cell c = atI SG ((cell + i) % 37)) ⟨rfl, by simp, by simp⟩ ?_ ?_
  · rintro d k s ⟨r, hr⟩ ⟨q1, q2, q3⟩
    have hkd : k = (d.length : Int) := by
      have h := congrArg (fun l => l[d.length]?) hr
      simp only [List.getElem?_append_right (Nat.le_refl _), Nat.sub_self, List.getElem?_cons_zero] at h
      unfold rngI at h
      rw [List.getElem?_map] at h
      cases g : (List.range many.toNat)[d.length]? with
      | none => rw [g] at h; cases h
      | some v =>
        rw [g] at h
        obtain ⟨_, g⟩ := List.getElem?_eq_some_iff.mp g
        rw [List.getElem_range] at g; subst g
        simp at h
        omega
    have hk : k ∈ rngI 0 many.toNat := by rw [hr]; simp
    have hk := rngI_mem.mp hk
    have hd : d.length ≤ 100 := by
      have := congrArg List.length hr
      rw [rngI_len, List.length_append] at this; omega
    rw [Mo.grd_ok (show (-2 ^ 62 ≤ (36 : Int) ∧ (36 : Int) < 2 ^ 62) by decide)]
    walk_at "mo"
    refine forO_elim (G := fun m => ∃ s' : List Crd, thenO m _ = Mo.ok (Out.nx s') ∧ s'.length = (d ++ [k]).length ∧ (∀ x ∈ s', isC x) ∧ ∀ (i : Nat) c, s'[i]? = some c → mkAt cell c = atI SG ((cell + i) % 37)) (fun dd (t : List Nat) => t.length = dd.length ∧ ∀ x ∈ t, x ∈ SG) ⟨rfl, by simp⟩ ?_ ?_
    · rintro dd x t ⟨r', hr'⟩ ⟨w1, w2⟩
      have hx : x ∈ rngI 0 (Int.toNat 36) := by rw [hr']; simp
      have hx := rngI_mem.mp hx
      have hx2 : x < 36 := by simpa using hx.2
      have hdd : dd.length ≤ 36 := by
        have := congrArg List.length hr'
        rw [rngI_len, List.length_append] at this; simp at this; omega
      obtain ⟨a, ea, _⟩ := atI_some (xs := st) (k := 36 * k + x) (by omega) (by omega)
      rw [ea]
      walk_at "mo"
      rw [grd_mod hs]
      walk_at "mo"
      obtain ⟨y, ey, hy⟩ := sgn_eq (cell + a / 7 % spread)
      rw [limSG, ey]
      walk_at "mo"
      rw [Mo.lim_ok (by simp; omega)]
      walk_at "mo"
      refine ⟨_, rfl, by simp; exact w1, fun z hz => ?_⟩
      rcases List.mem_append.mp hz with hz | hz
      · exact w2 z hz
      · rw [List.mem_singleton.mp hz]; exact hy
    · rintro t ⟨w1, w2⟩
      rw [rngI_len] at w1
      have w1' : t.length = 36 := w1
      walk_at "mo"
      obtain ⟨y, ey, hy⟩ := sgn_eq (cell / 37)
      obtain ⟨z, ez, hz⟩ := sgn_eq (cell + k)
      rw [limSG, limSG, ey, ez]
      walk_at "mo"
      rw [Mo.grd_ok (show CRep [[y]].length 4 by unfold CRep; simp)]
      walk_at "mo"
      have hm4 : 0 ≤ cell % 4 ∧ cell % 4 < 4 := ⟨Int.emod_nonneg _ (by decide), Int.emod_lt_of_pos _ (by decide)⟩
      rw [show repL [[y]] 4 = [[y], [y], [y], [y]] from rfl]
      rw [ixN_lt hm4.1 (by simpa using hm4.2)]
      walk_at "mo"
      have hmk : ∃ w : List Nat, ([[y], [y], [y], [y]] : List (List Nat)).set (cell % 4).toNat [z] = w.map (fun c => [c]) ∧ w.length = 4 ∧ (∀ c ∈ w, c ∈ SG) ∧ w[(cell % 4).toNat]? = some z := by
        refine ⟨([y, y, y, y] : List Nat).set (cell % 4).toNat z, ?_, by simp, fun c hc => ?_, ?_⟩
        · rw [List.map_set]; rfl
        · rcases List.mem_or_eq_of_mem_set hc with h | h
          · simp at h; rw [h]; exact hy
          · rw [h]; exact hz
        · rw [List.getElem?_set_self (by simp; omega)]
      obtain ⟨w, ew, hw1, hw2, hw3⟩ := hmk
      rw [ew]
      have esl : strsL (w.map fun c => [c]) = w.map fun c => (⟨#[c]⟩ : Str) := by unfold strsL; rw [List.map_map]; rfl
      rw [esl]
      have hj : JoinOk { cps := #[] } (w.map fun c => (⟨#[c]⟩ : Str)) = true := joinOk_small (by rw [List.length_map, hw1]; decide) (fun q hq => by
        obtain ⟨c, _, rfl⟩ := List.mem_map.mp hq
        simp [Str.length])
      rw [Mo.grd_ok hj, L2.join_ones]
      walk_at "mo"
      rw [Mo.lim_ok (by omega)]
      walk_at "mo"
      rw [Mo.lim_ok (by omega)]
      refine ⟨_, rfl, by simp; exact q1, fun x hx => ?_, fun i c hc => ?_⟩
      · rcases List.mem_append.mp hx with hx | hx
        · exact q2 x hx
        · rw [List.mem_singleton.mp hx]
          refine ⟨by rw [List.length_append]; omega, fun c hc => ?_⟩
          rcases List.mem_append.mp hc with hc | hc
          · exact w2 c hc
          · exact hw2 c hc
      · by_cases hi : i < s.length
        · rw [List.getElem?_append_left hi] at hc; exact q3 i c hc
        · rw [List.getElem?_append_right (by omega)] at hc
          have hi0 : i - s.length = 0 := by
            have := (List.getElem?_eq_some_iff.mp hc).1
            simp at this; omega
          rw [hi0] at hc
          cases hc
          unfold mkAt
          rw [List.getElem?_append_right (by omega), show 36 + (cell % 4).toNat - t.length = (cell % 4).toNat by omega, hw3, ← ez]
          congr 2
          omega
  · rintro s ⟨q1, q2, q3⟩
    rw [rngI_len] at q1
    refine ⟨s, rfl, q1, q2, ?_⟩
    unfold List.Nodup
    rw [List.pairwise_iff_getElem]
    intro i j hi hj hij e
    have g1 := q3 i _ (List.getElem?_eq_getElem hi)
    have g2 := q3 j _ (List.getElem?_eq_getElem hj)
    rw [e, g2] at g1
    have hinj : ∀ a, a < 37 → ∀ b, b < 37 → atI SG (a : Nat) = atI SG (b : Nat) → a = b := by decide +kernel
    have ha : 0 ≤ (cell + i) % 37 ∧ (cell + i) % 37 < 37 := ⟨Int.emod_nonneg _ (by decide), Int.emod_lt_of_pos _ (by decide)⟩
    have hb : 0 ≤ (cell + j) % 37 ∧ (cell + j) % 37 < 37 := ⟨Int.emod_nonneg _ (by decide), Int.emod_lt_of_pos _ (by decide)⟩
    have := hinj ((cell + j) % 37).toNat (by omega) ((cell + i) % 37).toNat (by omega) (by rw [Int.toNat_of_nonneg hb.1, Int.toNat_of_nonneg ha.1]; exact g1)
    omega
theorem pockets_eq {d : List Crd} {col : Int} (hd : ∀ c ∈ d, isC c) (hc : colOk col) (hl : d.length ≤ 1000) : f_pockets_of d col = .ok (pok d col) := by
  unfold f_pockets_of b_pockets_of
  walk_at "mo"
  rw [compM_map (f := fun _ => cond1 (Mo.ok true) (Mo.ok [])) (g := fun _ => ([] : List Crd)) (fun x _ => rfl) (by rw [List.length_map]; decide), pok_nil col]
  walk_at "mo"
  refine forO_elim (G := fun m => fnO (thenO m _) = .ok (pok d col)) (fun dn s => s = pok dn col) rfl ?_ ?_
  · rintro dn x s ⟨r, hr⟩ rfl
    have hx : isC x := hd x (by rw [hr]; simp)
    have hdl : dn.length ≤ 1000 := by have := congrArg List.length hr; rw [List.length_append] at this; omega
    rw [sign_at_eq hx hc]
    walk_at "mo"
    rw [rank_eq (sg_at hx hc).2]
    walk_at "mo"
    rw [pok_len, ixN_lt (by omega) (by have := rk1_lt (sg x col); omega)]
    walk_at "mo"
    rw [Int.toNat_natCast]
    have hg : ((pok dn col)[rk1 (sg x col)]?.getD []).length ≤ dn.length := by
      unfold pok
      rw [List.getElem?_map, List.getElem?_range (rk1_lt _)]
      exact List.length_filter_le _ _
    rw [Mo.lim_ok (by omega)]
    exact ⟨_, rfl, by rw [pok_snoc]; rfl⟩
  · rintro s rfl
    rfl
theorem gather_eq {xss : List (List Crd)} (hl : xss.flatten.length ≤ 1000) : f_gather xss = .ok xss.flatten := by
  unfold f_gather b_gather
  walk_at "mo"
  refine forO_elim (G := fun m => fnO (thenO m _) = .ok xss.flatten) (fun dn s => s = dn.flatten) rfl ?_ ?_
  · rintro dn x s ⟨r, hr⟩ rfl
    have : dn.flatten.length + x.length ≤ 1000 := by
      have := congrArg (fun l => (List.flatten l).length) hr
      simp only [List.flatten_append, List.flatten_cons, List.length_append] at this
      omega
    rw [Mo.lim_ok (by omega)]
    exact ⟨_, rfl, by simp⟩
  · rintro s rfl
    rfl
theorem deal_all_eq {d : List Crd} {row : List Int} (hd : ∀ c ∈ d, isC c) (hc : ∀ c ∈ row, colOk c) (hl : d.length ≤ 1000) : f_deal_all d row = .ok (sK (kv row.reverse) d) := by
  unfold f_deal_all b_deal_all
  walk_at "mo"
  refine forO_elim (G := fun m => fnO (thenO m _) = .ok (sK (kv row.reverse) d)) (fun dn s => s = sK (kv dn.reverse) d) (by rw [List.reverse_nil, kv_nil, sK_zero]) ?_ ?_
  · rintro dn c s ⟨r, hr⟩ rfl
    rw [pockets_eq (fun x hx => hd x ((mem_sK d).mp hx)) (hc c (by rw [hr]; simp)) (by rw [len_sK]; exact hl)]
    walk_at "mo"
    rw [gather_eq (by rw [pok_flat, deal_len, len_sK]; exact hl), pok_flat]
    walk_at "mo"
    exact ⟨_, rfl, by rw [deal_sort, List.reverse_append]; rfl⟩
  · rintro s rfl
    rfl
def psOk (p : Pas) : Prop := (1 ≤ p.1 ∧ p.1 ≤ 36) ∧ ∀ s, p.2 = some s → ∃ x, s = [x] ∧ x ∈ SG
theorem psOk.col {p : Pas} (h : psOk p) : colOk p.1 := ⟨h.1.1, by have := h.1.2; omega⟩
def doP (d : List Crd) (p : Pas) : List Crd := match p.2 with | none => sK (kv [p.1]) d | some s => d.filter fun x => decide ([sg x p.1] = s)
theorem doP_mem {d : List Crd} {p : Pas} {x : Crd} (h : x ∈ doP d p) : x ∈ d := by
  obtain ⟨c, o⟩ := p
  cases o with
  | none => exact (mem_sK d).mp h
  | some s => exact (List.mem_filter.mp h).1
theorem doP_len (d : List Crd) (p : Pas) : (doP d p).length ≤ d.length := by
  obtain ⟨c, o⟩ := p
  cases o with
  | none => show (sK _ d).length ≤ _; rw [len_sK]; exact Nat.le_refl _
  | some s => exact List.length_filter_le _ _
theorem fold_mem {row : List Pas} : ∀ {d : List Crd} {x : Crd}, x ∈ row.foldl doP d → x ∈ d := by
  induction row with
  | nil => exact fun h => h
  | cons p row ih => exact fun h => doP_mem (ih h)
theorem fold_len (row : List Pas) : ∀ (d : List Crd), (row.foldl doP d).length ≤ d.length := by
  induction row with
  | nil => exact fun d => Nat.le_refl _
  | cons p row ih => exact fun d => Nat.le_trans (ih _) (doP_len d p)
theorem pass_all_eq {d : List Crd} {row : List Pas} (hd : ∀ c ∈ d, isC c) (hr : ∀ p ∈ row, psOk p) (hl : d.length ≤ 1000) : f_pass_all d row = .ok (row.foldl doP d) := by
  unfold f_pass_all b_pass_all
  walk_at "mo"
  refine forO_elim (G := fun m => fnO (thenO m _) = .ok (row.foldl doP d)) (fun dn s => s = dn.foldl doP d) rfl ?_ ?_
  · rintro dn p s ⟨r, hrr⟩ rfl
    have hp : psOk p := hr p (by rw [hrr]; simp)
    have hm : ∀ x ∈ dn.foldl doP d, isC x := fun x hx => hd x (fold_mem hx)
    have hml := fold_len dn d
    rw [List.foldl_append]
    generalize dn.foldl doP d = g at hm hml
    obtain ⟨c, o⟩ := p
    cases o with
    | none =>
      have e : decide (pTag (c, none) = [100, 101, 97, 108]) = true := rfl
      simp only [e]
      walk_at "mo"
      rw [deal_all_eq hm (fun x hx => by rw [List.mem_singleton.mp hx]; exact hp.col) (by omega)]
      walk_at "mo"
      exact ⟨_, rfl, rfl⟩
    | some s =>
      have e : decide (pTag (c, some s) = [100, 101, 97, 108]) = false := by show decide (([112, 105, 99, 107] : List Nat) = [100, 101, 97, 108]) = false; decide
      simp only [e]
      walk_at "mo"
      rw [compM_filter (g := fun x => decide ([sg x c] = s)) (fun x hx => ?_) (by simpa using (by omega : g.length ≤ 100000))]
      · exact ⟨_, rfl, rfl⟩
      · unfold cond1
        rw [sign_at_eq (hm x hx) hp.col]
        walk_at "mo"
        by_cases h : [sg x c] = s
        · rw [decide_eq_true h]; rfl
        · rw [decide_eq_false h]; rfl
  · rintro s rfl
    rfl
theorem sg_rank {x y : Nat} (hx : x ∈ SG) (hy : y ∈ SG) : (x ≤ y ↔ rk1 x ≤ rk1 y) := by
  have : ∀ x ∈ SG, ∀ y ∈ SG, (x ≤ y ↔ rk1 x ≤ rk1 y) := by decide +kernel
  exact this x hx y hy
theorem pass_eq (cell : Int) {hero : Crd} (hh : isC hero) (start : Int) {reach : Int} (hr : 0 < reach) (share : Int) : ∃ p, f_law_pass cell hero start reach share = .ok p ∧ psOk p := by
  unfold f_law_pass b_law_pass
  walk_at "mo"
  rw [Mo.grd_ok (mulG_small (.inl ⟨by omega, by omega⟩))]
  walk_at "mo"
  rw [grd_mod hr]
  walk_at "mo"
  generalize (cell % 2147483647 + 69621) * (cell % 2147483647 + 69621) % 2147483629 = n
  have hc : 1 ≤ 1 + (start + n / 8 % reach) % 36 ∧ 1 + (start + n / 8 % reach) % 36 ≤ 36 := by omega
  generalize 1 + (start + n / 8 % reach) % 36 = col at hc
  by_cases h1 : share ≤ n % 8
  · rw [decide_eq_true h1]
    walk_at "mo"
    exact ⟨_, rfl, hc, fun s z => by cases z⟩
  · rw [decide_eq_false h1]
    walk_at "mo"
    by_cases h2 : n / 512 % 7 = 1
    · rw [decide_eq_true h2]
      walk_at "mo"
      obtain ⟨y, ey, hy⟩ := sgn_eq (n / 4096)
      rw [limSG, ey]
      walk_at "mo"
      exact ⟨_, rfl, hc, fun s z => by cases z; exact ⟨y, rfl, hy⟩⟩
    · rw [decide_eq_false h2]
      walk_at "mo"
      have hco : colOk col := ⟨hc.1, by omega⟩
      rw [lim40 hh, (sg_at hh hco).1]
      walk_at "mo"
      exact ⟨_, rfl, hc, fun s z => by cases z; exact ⟨_, rfl, (sg_at hh hco).2⟩⟩
theorem forO_exit {α S B ρ : Type} {step : S → α → Mo (Out ρ S S)} {xs : List α} {s : S} {G : Mo (Out ρ B S) → Prop} (P : List α → S → Prop) (h0 : P [] s)
    (hs : ∀ d x s, (∃ r, xs = d ++ x :: r) → P d s → (∃ s', step s x = .ok (.nx s') ∧ P (d ++ [x]) s') ∨ ∃ a, step s x = .ok (.rt a) ∧ G (.ok (.rt a))) (hk : ∀ s', P xs s' → G (.ok (.nx s'))) : G (forO step xs s) := by
  have all : ∀ (r d : List α) (s : S), xs = d ++ r → P d s → G (forO step r s) := by
    intro r
    induction r with
    | nil => intro d s e p; rw [List.append_nil] at e; subst e; exact hk s p
    | cons x r ih =>
      intro d s e p
      rcases hs d x s ⟨r, e⟩ p with ⟨s', e1, p'⟩ | ⟨a, e1, g⟩
      · show G ((step s x).bind _)
        rw [e1]
        exact ih (d ++ [x]) s' (by rw [e]; simp) p'
      · show G ((step s x).bind _)
        rw [e1]
        exact g
  exact all xs [] s rfl h0
theorem filter_sK {k : Crd → Nat} (p : Crd → Bool) (xs : List Crd) : (sK k xs).filter p = sK k (xs.filter p) := by
  refine snoc_ind (P := fun xs => (sK k xs).filter p = sK k (xs.filter p)) rfl (fun xs x ih => ?_) xs
  have hs := srt_sK k xs
  rw [sK_snoc, List.filter_append]
  by_cases hx : p x = true
  · rw [show [x].filter p = [x] by simp [hx], sK_snoc, ← ih]
    unfold insK
    rw [List.filter_append, List.filter_cons, if_pos hx]
    simp only [List.filter_filter, Bool.and_comm]
  · rw [show [x].filter p = [] by simp [hx], List.append_nil, ← ih]
    unfold insK
    rw [List.filter_append, List.filter_cons, if_neg hx]
    have := srt_split (k := k) (List.Pairwise.filter p hs) (k x)
    conv => rhs; rw [this]
    simp only [List.filter_filter, Bool.and_comm]
def pcols (row : List Pas) : List Int := row.filterMap fun p => match p.2 with | none => some p.1 | some _ => none
def pfit (row : List Pas) (x : Crd) : Bool := row.all fun p => match p.2 with | none => true | some s => decide ([sg x p.1] = s)
theorem pfit_snoc (row : List Pas) (p : Pas) (x : Crd) : pfit (row ++ [p]) x = (pfit row x && match p.2 with | none => true | some s => decide ([sg x p.1] = s)) := by
  unfold pfit; rw [List.all_append]; simp
theorem fold_eq (d : List Crd) (row : List Pas) : row.foldl doP d = sK (kv (pcols row).reverse) (d.filter (pfit row)) := by
  refine snoc_ind (P := fun row => row.foldl doP d = sK (kv (pcols row).reverse) (d.filter (pfit row))) ?_ (fun row p ih => ?_) row
  · show d = sK (kv []) (d.filter fun _ => true)
    rw [kv_nil, sK_zero]; exact (List.filter_eq_self.mpr fun _ _ => rfl).symm
  · rw [List.foldl_append, ih]
    obtain ⟨c, o⟩ := p
    cases o with
    | none =>
      have e1 : pcols (row ++ [(c, none)]) = pcols row ++ [c] := by unfold pcols; rw [List.filterMap_append]; rfl
      have e2 : pfit (row ++ [(c, none)]) = pfit row := by funext x; rw [pfit_snoc]; simp
      rw [e1, e2, List.reverse_append]
      show sK (kv [c]) _ = sK (kv (c :: (pcols row).reverse)) _
      exact (deals_all [c] _).symm.trans (deal_sort _ c _)
    | some s =>
      have e1 : pcols (row ++ [(c, some s)]) = pcols row := by unfold pcols; rw [List.filterMap_append]; simp
      have e2 : d.filter (pfit (row ++ [(c, some s)])) = (d.filter (pfit row)).filter fun x => decide ([sg x c] = s) := by
        rw [List.filter_filter]
        refine List.filter_congr fun x _ => ?_
        rw [pfit_snoc, Bool.and_comm]
      rw [e1, e2]
      exact filter_sK (fun x => decide ([sg x c] = s)) _
theorem getA_mem {m : List (Int × List Nat)} {c : Int} {s : List Nat} (h : getA m c = some s) : (c, s) ∈ m := by
  unfold getA at h
  cases g : m.find? (fun q => decide (q.1 = c)) with
  | none => rw [g] at h; cases h
  | some q =>
    rw [g] at h
    have h1 := List.mem_of_find?_eq_some g
    have h2 := List.find?_some g
    simp at h2
    have h3 : q.2 = s := Option.some.inj h
    rw [← h2, ← h3]; exact h1
theorem putA_new {m : List (Int × List Nat)} {c : Int} (s : List Nat) (h : getA m c = none) : putA m c s = m ++ [(c, s)] := by
  unfold putA
  rw [if_neg]
  intro z
  rw [List.any_eq_true] at z
  obtain ⟨q, hq, hc⟩ := z
  unfold getA at h
  cases g : m.find? (fun q => decide (q.1 = c)) with
  | none => exact absurd hc (by simpa using List.find?_eq_none.mp g q hq)
  | some q => rw [g] at h; cases h
structure PkOk (row : List Pas) (m : List (Int × List Nat)) : Prop where
  fit : ∀ x, (m.all fun q => decide ([sg x q.1] = q.2)) = pfit row x
  mem : ∀ c s, getA m c = some s → (c, some s) ∈ row
  len : m.length ≤ row.length
  col : ∀ q ∈ m, colOk q.1
theorem picked_eq {row : List Pas} (hr : ∀ p ∈ row, psOk p) (hl : row.length ≤ 1000) : (f_picked_signs row = .ok none ∧ ∀ x, pfit row x = false) ∨ ∃ m, f_picked_signs row = .ok (some m) ∧ PkOk row m := by
  unfold f_picked_signs b_picked_signs
  walk_at "mo"
  refine forO_exit (G := fun z => (fnO (thenO z _) = .ok none ∧ ∀ x, pfit row x = false) ∨ ∃ m, fnO (thenO z _) = .ok (some m) ∧ PkOk row m) (fun dn m => PkOk dn m) ⟨fun x => rfl, fun c s z => (by cases z), Nat.le_refl _, fun q z => (by cases z)⟩ ?_ ?_
  · rintro dn p m ⟨r, hrr⟩ w
    have hp : psOk p := hr p (by rw [hrr]; simp)
    have hdl : dn.length ≤ 1000 := by have := congrArg List.length hrr; rw [List.length_append] at this; omega
    have hml := w.len
    obtain ⟨c, o⟩ := p
    cases o with
    | none =>
      have e : decide (pTag (c, none) = [112, 105, 99, 107]) = false := by show decide (([100, 101, 97, 108] : List Nat) = [112, 105, 99, 107]) = false; decide
      simp only [e]
      walk_at "mo"
      refine .inl ⟨_, rfl, ⟨fun x => by rw [w.fit, pfit_snoc]; simp, fun c s z => List.mem_append_left _ (w.mem c s z), by simp; omega, w.col⟩⟩
    | some s =>
      have e : decide (pTag (c, some s) = [112, 105, 99, 107]) = true := rfl
      simp only [e]
      walk_at "mo"
      rw [Mo.lim_ok (by omega)]
      unfold sdA
      cases g : getA m c with
      | some s0 =>
        by_cases hs : s0 = s
        · subst hs
          simp only [decide_true, Bool.not_true]
          walk_at "mo"
          refine .inl ⟨_, rfl, ⟨fun x => ?_, fun c s z => List.mem_append_left _ (w.mem c s z), by simp; omega, w.col⟩⟩
          rw [pfit_snoc, w.fit]
          cases hf : pfit dn x with
          | false => rfl
          | true =>
            rw [← w.fit, List.all_eq_true] at hf
            have := hf _ (getA_mem g)
            simpa using this
        · simp only [decide_eq_false hs, Bool.not_false]
          walk_at "mo"
          refine .inr ⟨_, rfl, .inl ⟨rfl, fun x => ?_⟩⟩
          cases hf : pfit row x with
          | false => rfl
          | true =>
            unfold pfit at hf
            rw [List.all_eq_true] at hf
            have h1 := hf (c, some s0) (by rw [hrr]; exact List.mem_append_left _ (w.mem c s0 g))
            have h2 := hf (c, some s) (by rw [hrr]; simp)
            simp at h1 h2
            exact absurd (h1.symm.trans h2) hs
      | none =>
        simp only [decide_true, Bool.not_true]
        walk_at "mo"
        rw [putA_new s g]
        refine .inl ⟨_, rfl, ⟨fun x => ?_, fun c' s' z => ?_, by simp; exact w.len, fun q hq => ?_⟩⟩
        · rw [List.all_append, w.fit, pfit_snoc]; simp
        · rw [← putA_new s g, getA_put] at z
          split at z
          · rename_i h; subst h; cases z; simp
          · exact List.mem_append_left _ (w.mem c' s' z)
        · rcases List.mem_append.mp hq with h | h
          · exact w.col q h
          · rw [List.mem_singleton.mp h]; exact hp.col
  · intro m w
    exact .inr ⟨m, rfl, w⟩
def skey (row : List Pas) (m : List (Int × List Nat)) : List Int := onceL ((pcols row).reverse.filter fun c => !(getA m c).isSome)
theorem once_snoc (L : List Int) (c : Int) : onceL (L ++ [c]) = if c ∈ onceL L then onceL L else onceL L ++ [c] := by unfold onceL; rw [List.foldl_append]; rfl
theorem once_len (L : List Int) : (onceL L).length ≤ L.length := by
  refine snoc_ind (P := fun L => (onceL L).length ≤ L.length) (Nat.le_refl _) (fun L c ih => ?_) L
  rw [once_snoc]; split <;> simp <;> omega
theorem once_mem {L : List Int} {c : Int} : c ∈ onceL L → c ∈ L := by
  refine snoc_ind (P := fun L => c ∈ onceL L → c ∈ L) (fun h => h) (fun L x ih h => ?_) L
  rw [once_snoc] at h
  split at h
  · exact List.mem_append_left _ (ih h)
  · rcases List.mem_append.mp h with h | h
    · exact List.mem_append_left _ (ih h)
    · exact List.mem_append_right _ h
theorem sense_eq {row : List Pas} (hr : ∀ p ∈ row, psOk p) (hl : row.length ≤ 1000) : (f_sense_of row = .ok none ∧ ∀ x, pfit row x = false) ∨ ∃ m, f_sense_of row = .ok (some (some m, skey row m)) ∧ PkOk row m := by
  unfold f_sense_of b_sense_of
  walk_at "mo"
  rcases picked_eq hr hl with ⟨e, h⟩ | ⟨m, e, w⟩
  · rw [e]
    walk_at "mo"
    first | exact .inl ⟨rfl, h⟩ | exact .inl ⟨trivial, h⟩
  · rw [e]
    walk_at "mo"
    refine .inr ⟨m, ?_, w⟩
    refine forO_elim (G := fun z => fnO (thenO z _) = .ok (some (some m, skey row m))) (fun dn s => s = onceL ((pcols dn).filter fun c => !(getA m c).isSome)) rfl ?_ ?_
    · rintro dn p s ⟨r, hrr⟩ rfl
      have hdl : dn.length ≤ 1000 := by have := congrArg List.length hrr; rw [List.length_append, List.length_reverse] at this; omega
      obtain ⟨c, o⟩ := p
      cases o with
      | some s =>
        have e : decide (pTag (c, some s) = [100, 101, 97, 108]) = false := by show decide (([112, 105, 99, 107] : List Nat) = [100, 101, 97, 108]) = false; decide
        have e1 : pcols (dn ++ [(c, some s)]) = pcols dn := by unfold pcols; rw [List.filterMap_append]; simp
        simp only [e]
        walk_at "mo"
        exact ⟨_, rfl, by rw [e1]⟩
      | none =>
        have e : decide (pTag (c, none) = [100, 101, 97, 108]) = true := rfl
        have e1 : pcols (dn ++ [(c, none)]) = pcols dn ++ [c] := by unfold pcols; rw [List.filterMap_append]; rfl
        have hpl : (pcols dn).length ≤ dn.length := List.length_filterMap_le _ _
        have hol := Nat.le_trans (once_len ((pcols dn).filter fun c => !(getA m c).isSome)) (List.length_filter_le _ _)
        simp only [e]
        walk_at "mo"
        rw [e1, List.filter_append]
        cases g : getA m c with
        | some s =>
          walk_at "mo"
          exact ⟨_, rfl, by simp [g]⟩
        | none =>
          have e2 : [c].filter (fun c => !(getA m c).isSome) = [c] := by simp [g]
          rw [e2, once_snoc]
          walk_at "mo"
          by_cases hc : c ∈ onceL ((pcols dn).filter fun c => !(getA m c).isSome)
          · rw [show (onceL ((pcols dn).filter fun c => !(getA m c).isSome)).any (fun y => decide (y = c)) = true by rw [List.any_eq_true]; exact ⟨c, hc, by simp⟩, if_pos hc]
            walk_at "mo"
            exact ⟨_, rfl, rfl⟩
          · rw [show (onceL ((pcols dn).filter fun c => !(getA m c).isSome)).any (fun y => decide (y = c)) = false by rw [List.any_eq_false]; intro y hy z; simp at z; exact hc (z ▸ hy), if_neg hc]
            walk_at "mo"
            rw [Mo.lim_ok (by omega)]
            walk_at "mo"
            exact ⟨_, rfl, rfl⟩
    · rintro s rfl
      walk_at "mo"
      unfold skey
      rw [show pcols row.reverse = (pcols row).reverse by unfold pcols; rw [List.filterMap_reverse]]
theorem fits_eq {x : Crd} {m : List (Int × List Nat)} (hx : isC x) (hm : ∀ q ∈ m, colOk q.1) : f_law_fits x (some m) = .ok (m.all fun q => decide ([sg x q.1] = q.2)) := by
  unfold f_law_fits b_law_fits
  walk_at "mo"
  rw [forO_find (p := fun q : Int × List Nat => !decide ([sg x q.1] = q.2)) (a := fun _ => false) (fun q hq => ?_)]
  · cases g : m.find? (fun q : Int × List Nat => !decide ([sg x q.1] = q.2)) with
    | none =>
      have : (m.all fun q => decide ([sg x q.1] = q.2)) = true := by
        rw [List.all_eq_true]
        intro q hq
        simpa using List.find?_eq_none.mp g q hq
      rw [this]; rfl
    | some q =>
      have : (m.all fun q => decide ([sg x q.1] = q.2)) = false := by
        cases h : (m.all fun q => decide ([sg x q.1] = q.2)) with
        | false => rfl
        | true =>
          rw [List.all_eq_true] at h
          have h1 := h q (List.mem_of_find?_eq_some g)
          have h2 := List.find?_some g
          rw [h1] at h2; cases h2
      rw [this]; rfl
  · rw [lim40 hx, (sg_at hx (hm q hq)).1]
    walk_at "mo"
    by_cases h : [sg x q.1] = q.2
    · rw [decide_eq_true h]; rfl
    · rw [decide_eq_false h]; rfl
theorem ahd_or (L : List Int) (a b : Crd) : (∀ c ∈ L, rnk a c = rnk b c) ∨ ahd L a b = true ∨ ahd L b a = true := by
  induction L with
  | nil => exact .inl fun c h => by cases h
  | cons c L ih =>
    unfold ahd
    by_cases h : rnk a c = rnk b c
    · rw [if_pos h, if_pos h.symm]
      rcases ih with ih | ih
      · exact .inl fun x hx => by
          rcases List.mem_cons.mp hx with rfl | hx
          · exact h
          · exact ih x hx
      · exact .inr ih
    · rw [if_neg h, if_neg (fun z => h z.symm)]
      right
      rcases Nat.lt_or_gt_of_ne h with z | z
      · exact .inl (decide_eq_true z)
      · exact .inr (decide_eq_true z)
theorem ahd_filter (q : Int → Bool) (L : List Int) (a b : Crd) (h : ∀ c, q c = false → rnk a c = rnk b c) : ahd (L.filter q) a b = ahd L a b := by
  induction L with
  | nil => rfl
  | cons c L ih =>
    rw [List.filter_cons]
    cases g : q c with
    | true => rw [if_pos rfl]; unfold ahd; rw [ih]
    | false => rw [if_neg (by decide), ih]; conv => rhs; unfold ahd; rw [if_pos (h c g)]
theorem turn_eq {a b : Crd} {key : List Int} {s : List (Crd × Int)} (ha : isC a) (hb : isC b) (hc : ∀ c ∈ key, colOk c) {i j : Int} (ga : getA s a = some i) (gb : getA s b = some j) (h : ahd key a b = true ∨ ((∀ c ∈ key, rnk a c = rnk b c) ∧ i < j)) : f_law_in_turn a b key s = .ok true := by
  unfold f_law_in_turn b_law_in_turn
  walk_at "mo"
  rw [forO_find (p := fun c => decide (rnk a c ≠ rnk b c)) (a := fun c => decide (rnk a c < rnk b c)) (fun c hcc => ?_)]
  · rw [ahd_find] at h
    cases g : key.find? (fun c => decide (rnk a c ≠ rnk b c)) with
    | none =>
      rw [g] at h
      rcases h with h | h
      · cases h
      · walk_at "mo"
        rw [ga, gb]
        walk_at "mo"
        rw [decide_eq_true h.2]
    | some c =>
      rw [g] at h
      rcases h with h | h
      · have h' : decide (rnk a c < rnk b c) = true := h
        walk_at "mo"
        rw [h']
      · have h1 := List.find?_some g
        simp at h1
        exact absurd (h.1 c (List.mem_of_find?_eq_some g)) h1
  · obtain ⟨a1, a2⟩ := sg_at ha (hc c hcc)
    obtain ⟨b1, b2⟩ := sg_at hb (hc c hcc)
    rw [lim40 ha, lim40 hb, a1, b1]
    walk_at "mo"
    by_cases e : sg a c = sg b c
    · rw [e]; simp [rnk, e]
    · have e2 : rnk a c ≠ rnk b c := fun z => e (rk1_inj a2 b2 z)
      have e3 : ([sg a c] : List Nat) ≠ [sg b c] := fun z => e (by injection z)
      have e4 : decide (([sg a c] : List Nat) < [sg b c]) = decide (rnk a c < rnk b c) := by
        rw [decide_eq_decide]
        have hle := sg_rank b2 a2
        have : (([sg a c] : List Nat) < [sg b c]) ↔ sg a c < sg b c := by
          generalize sg a c = u
          generalize sg b c = v
          constructor
          · intro h; cases h with
            | rel h => exact h
            | cons h => cases h
          · intro h; exact List.Lex.rel h
        rw [this]
        unfold rnk
        omega
      rw [decide_eq_false e3, e4, decide_eq_true e2]
      rfl
theorem told_eq {d : List Crd} {row : List Pas} (hd : ∀ c ∈ d, isC c) (hn : d.Nodup) (hr : ∀ p ∈ row, psOk p) (hl : d.length ≤ 1000) (hlr : row.length ≤ 1000) : ∃ se, f_sense_of row = .ok se ∧ f_law_told (row.foldl doP d) se d = .ok true := by
  rcases sense_eq hr hlr with ⟨e, h⟩ | ⟨m, e, w⟩
  · refine ⟨none, e, ?_⟩
    rw [fold_eq, show d.filter (pfit row) = [] by rw [List.filter_eq_nil_iff]; intro x _; rw [h]; decide]
    unfold f_law_told b_law_told
    walk_at "mo"
    rfl
  · refine ⟨_, e, ?_⟩
    have hfit : ∀ x, isC x → f_law_fits x (some m) = .ok (pfit row x) := fun x hx => by rw [fits_eq hx w.col, w.fit]
    have hcol : ∀ c ∈ skey row m, colOk c := fun c hc => by
      have h1 := (List.mem_filter.mp (once_mem hc)).1
      rw [List.mem_reverse] at h1
      unfold pcols at h1
      obtain ⟨p, hp, hq⟩ := List.mem_filterMap.mp h1
      have := (hr p hp).col
      obtain ⟨c', o⟩ := p
      cases o with
      | none => cases hq; exact this
      | some s => cases hq
    rw [fold_eq]
    generalize hfd : sK (kv (pcols row).reverse) (d.filter (pfit row)) = found
    have hfm : ∀ x, x ∈ found ↔ x ∈ d ∧ pfit row x = true := fun x => by rw [← hfd, mem_sK, List.mem_filter]
    unfold f_law_told b_law_told
    walk_at "mo"
    rw [compM_filter (g := pfit row) (fun x hx => ?_) (by simpa using (by omega : d.length ≤ 100000))]
    · walk_at "mo"
      rw [show (found.length : Int) = ((([] : List Crd) ++ d.filter (pfit row)).length : Int) by rw [← hfd, len_sK]; rfl]
      walk_at "mo"
      rw [Mo.grd_ok ⟨by omega, by omega⟩]
      walk_at "mo"
      refine forO_elim (G := fun z => fnO (thenO z _) = .ok true) (fun dn (s : List (Crd × Int)) => s.length ≤ dn.length ∧ ∀ (i : Nat) (h : i < d.length), (i : Int) ∈ dn → getA s d[i] = some (i : Int)) ⟨Nat.le_refl _, by simp⟩ ?_ ?_
      · rintro dn k s ⟨r, hrr⟩ ⟨w1, w2⟩
        have hk : k ∈ rngI 0 (d.length : Int).toNat := by rw [hrr]; simp
        have hk := rngI_mem.mp hk
        have hdn : dn.length ≤ 1000 := by
          have := congrArg List.length hrr
          rw [rngI_len, List.length_append] at this; omega
        obtain ⟨k', rfl⟩ : ∃ k' : Nat, k = k' := ⟨k.toNat, by omega⟩
        have hk' : k' < d.length := by omega
        rw [show atI d (k' : Int) = some d[k'] by rw [atI_nn (by omega), Int.toNat_natCast, List.getElem?_eq_getElem hk']]
        walk_at "mo"
        rw [Mo.lim_ok (by omega)]
        refine ⟨_, rfl, ?_, fun i hi hm => ?_⟩
        · rw [List.length_append]; exact Nat.le_trans (putA_len _ _ _) (by simp; omega)
        · rw [getA_put]
          by_cases hik : i = k'
          · subst hik; rw [if_pos rfl]
          · rw [if_neg (fun z => hik ((List.getElem_inj hn).mp z).symm)]
            rcases List.mem_append.mp hm with h | h
            · exact w2 i hi h
            · have := List.mem_singleton.mp h; omega
      · rintro s ⟨w1, w2⟩
        have hget : ∀ (i : Nat) (h : i < d.length), getA s d[i] = some (i : Int) := fun i h => w2 i h (rngI_mem.mpr ⟨by omega, by omega⟩)
        have hmem : ∀ x ∈ d, ∃ i : Nat, getA s x = some (i : Int) := fun x hx => by
          obtain ⟨i, hi, rfl⟩ := List.mem_iff_getElem.mp hx
          exact ⟨i, hget i hi⟩
        walk_at "mo"
        rw [forO_all (fun x hx => ?_)]
        · walk_at "mo"
          have hpw : d.Pairwise (fun a b => (getA s a).getD 0 < (getA s b).getD 0) := by
            rw [List.pairwise_iff_getElem]
            intro i j hi hj hij
            rw [hget i hi, hget j hj]
            simp; omega
          have hst := sK_stable (k := kv (pcols row).reverse) (ix := fun a => (getA s a).getD 0) (d.filter (pfit row)) (List.Pairwise.filter _ hpw)
          rw [hfd] at hst
          rw [cutG_last, cutG_tail, forO_all (fun q hq => ?_)]
          · rfl
          · have hR := zip_next hst hq
            obtain ⟨hq1, f1⟩ := (hfm q.1).mp (List.dropLast_subset _ (List.of_mem_zip (show (q.1, q.2) ∈ _ from hq)).1)
            obtain ⟨hq2, f2⟩ := (hfm q.2).mp (List.mem_of_mem_tail (List.of_mem_zip (show (q.1, q.2) ∈ _ from hq)).2)
            obtain ⟨i1, g1⟩ := hmem q.1 hq1
            obtain ⟨i2, g2⟩ := hmem q.2 hq2
            rw [g1, g2] at hR
            have hno : ∀ c, (!(getA m c).isSome) = false → rnk q.1 c = rnk q.2 c := fun c hc => by
              cases g : getA m c with
              | none => rw [g] at hc; cases hc
              | some sn =>
                rw [← w.fit, List.all_eq_true] at f1 f2
                have h1 := f1 _ (getA_mem g)
                have h2 := f2 _ (getA_mem g)
                simp at h1 h2
                have : ([sg q.1 c] : List Nat) = [sg q.2 c] := h1.trans h2.symm
                injection this with this
                unfold rnk; rw [this]
            have hkey : ahd (skey row m) q.1 q.2 = ahd (pcols row).reverse q.1 q.2 := by unfold skey; rw [ahd_once, ahd_filter _ _ _ _ hno]
            rw [turn_eq (hd _ hq1) (hd _ hq2) hcol g1 g2 ?_]
            · walk_at "mo"
            · rcases hR with h | ⟨h, h2⟩
              · left; rw [hkey, ahd_kv]; exact decide_eq_true h
              · right
                refine ⟨fun c hc => ?_, by simpa using h2⟩
                rcases ahd_or (pcols row).reverse q.1 q.2 with z | z | z
                · exact z c (List.mem_filter.mp (once_mem hc)).1
                · rw [ahd_kv] at z; have := of_decide_eq_true z; omega
                · rw [ahd_kv] at z; have := of_decide_eq_true z; omega
        · obtain ⟨hx1, hx2⟩ := (hfm x).mp hx
          obtain ⟨i, hi⟩ := hmem x hx1
          rw [hi, hfit x (hd x hx1), hx2]
          rfl
    · unfold cond1
      walk_at "mo"
      rw [hfit x (hd x hx)]
      walk_at "mo"
      cases pfit row x <;> rfl
theorem cell_eq (ns : List Int) (k : Int) (h : 0 ≤ k) : ∃ c, f_law_cell_at ns k = .ok c := by
  unfold f_law_cell_at b_law_cell_at
  walk_at "mo"
  by_cases hk : k < (ns.length : Int)
  · obtain ⟨x, e, _⟩ := atI_some h hk
    rw [decide_eq_true hk, if_pos rfl, e]
    exact ⟨x, rfl⟩
  · rw [decide_eq_false hk, if_neg (by decide)]
    exact ⟨0, rfl⟩
theorem law_true (ns : List Int) (hl : ns.length ≤ 63) : f_law ns = .ok true := by
  obtain ⟨c0, e0⟩ := cell_eq ns 0 (by decide)
  obtain ⟨c1, e1⟩ := cell_eq ns 1 (by decide)
  obtain ⟨c2, e2⟩ := cell_eq ns 2 (by decide)
  obtain ⟨c3, e3⟩ := cell_eq ns 3 (by decide)
  unfold f_law b_law
  walk_at "mo"
  rw [e0, e1, e2, e3]
  walk_at "mo"
  have hmany : ∃ many : Int, (if decide (c0 / 10 % 4 = 1) = true then (Mo.ok (Out.nx (10 + c0 / 40 % 15)) : Mo (Out Bool Unit Int)) else Mo.ok (Out.nx (c0 % 10))) = .ok (.nx many) ∧ 0 ≤ many ∧ many ≤ 36 := by
    by_cases h : c0 / 10 % 4 = 1
    · rw [decide_eq_true h]; exact ⟨_, rfl, by omega, by omega⟩
    · rw [decide_eq_false h]; exact ⟨_, rfl, by omega, by omega⟩
  obtain ⟨many, em, hm0, hm1⟩ := hmany
  rw [em]
  walk_at "mo"
  have pick : ∀ (xs : List Int) (k : Int), (∀ x ∈ xs, 0 < x) → 0 ≤ k → k < xs.length → ∃ x, atI xs k = some x ∧ 0 < x := fun xs k h h0 h1 => by
    obtain ⟨x, e, hx⟩ := atI_some h0 h1
    exact ⟨x, e, h x hx⟩
  obtain ⟨spread, esp, hsp⟩ := pick [2, 3, 1, 37] (c2 % 4) (by decide) (by omega) (by simp; omega)
  rw [esp]
  walk_at "mo"
  obtain ⟨d, ed, hdl, hd, hn⟩ := deck_eq c1 (many := many) (spread := spread) hm0 hm1 hsp
  rw [ed]
  walk_at "mo"
  rw [Mo.grd_ok (show CRep [32].length 40 by unfold CRep; decide)]
  walk_at "mo"
  rw [Mo.lim_ok (by simp; omega)]
  walk_at "mo"
  have hbl : isC (repL [32] 40) := ⟨by decide, by decide⟩
  obtain ⟨hero, eh, hh⟩ : ∃ x, atI (d ++ [repL [32] 40]) 0 = some x ∧ isC x := by
    obtain ⟨x, e, hx⟩ := atI_some (xs := d ++ [repL [32] 40]) (k := 0) (by omega) (by rw [List.length_append]; simp)
    refine ⟨x, e, ?_⟩
    rcases List.mem_append.mp hx with h | h
    · exact hd x h
    · rw [List.mem_singleton.mp h]; exact hbl
  rw [eh]
  walk_at "mo"
  obtain ⟨reach, ere, hre⟩ := pick [2, 1, 4, 36] (c3 % 4) (by decide) (by omega) (by simp; omega)
  rw [ere]
  walk_at "mo"
  obtain ⟨share, esh, _⟩ := atI_some (xs := [(2 : Int), 0, 4]) (k := c3 / 4 % 3) (by omega) (by simp; omega)
  rw [esh]
  walk_at "mo"
  have hcl := cutG_len ns (some 4) (some 104)
  refine forO_elim (G := fun m => fnO (thenO m _) = .ok true) (fun dn (s : List Pas) => s.length = dn.length ∧ ∀ p ∈ s, psOk p) ⟨rfl, by simp⟩ ?_ ?_
  · rintro dn x row ⟨r, hr⟩ ⟨w2, w3⟩
    have hdn : dn.length ≤ 64 := by
      have := congrArg List.length hr
      rw [List.length_append] at this; omega
    obtain ⟨p, ep, hp⟩ := pass_eq x hh (c2 / 4 % 36) hre share
    rw [ep]
    walk_at "mo"
    rw [Mo.lim_ok (by omega)]
    refine ⟨_, rfl, by simp; exact w2, fun q hq => ?_⟩
    rcases List.mem_append.mp hq with h | h
    · exact w3 q h
    · rw [List.mem_singleton.mp h]; exact hp
  · rintro row ⟨w2, w3⟩
    walk_at "mo"
    have w3r : ∀ p ∈ row.reverse, psOk p := fun p hp => w3 p (by simpa using hp)
    obtain ⟨se, es, ht⟩ := told_eq hd hn w3 (by omega) (by omega)
    obtain ⟨se', es', ht'⟩ := told_eq hd hn w3r (by omega) (by simp; omega)
    rw [pass_all_eq hd w3 (by omega)]
    walk_at "mo"
    rw [es]
    walk_at "mo"
    rw [eqL_refl (by simp), ht]
    walk_at "mo"
    rw [pass_all_eq hd w3r (by omega)]
    walk_at "mo"
    rw [es']
    walk_at "mo"
    rw [ht']
    walk_at "mo"
end K16
namespace K16
open PySem PySem.Spec PyProof.Rows L2
theorem rd_law {K : PySem.W.Frag} : RD_law K := rd_law_of (fun ns hl hb => law_true ns hl)
theorem all_mk {l : PySem.W.OpenLaw} {w : World} {K : PySem.W.Frag} {h : Heap} {mg : Str → Option Value} {fa : Addr} (X : K.In h) (G : h.Ns mainGlobals mg) (hfa : mg "law" = some (.ref fa))
    {f0 : Addr} {od0 an0 : Option Addr} {sl0 : Array (Option Value)} {oc0 kV0 dc0 pm0 cd0 ct0 : Value}
    {f1 : Addr} {od1 an1 : Option Addr} {sl1 : Array (Option Value)} {oc1 kV1 dc1 pm1 cd1 ct1 : Value}
    {f2 : Addr} {od2 an2 : Option Addr} {sl2 : Array (Option Value)} {oc2 kV2 dc2 pm2 cd2 ct2 : Value}
    {f3 : Addr} {od3 an3 : Option Addr} {sl3 : Array (Option Value)} {oc3 kV3 dc3 pm3 cd3 ct3 : Value}
    {f4 : Addr} {od4 an4 : Option Addr} {sl4 : Array (Option Value)} {oc4 kV4 dc4 pm4 cd4 ct4 : Value}
    {f5 : Addr} {od5 an5 : Option Addr} {sl5 : Array (Option Value)} {oc5 kV5 dc5 pm5 cd5 ct5 : Value}
    {f6 : Addr} {od6 an6 : Option Addr} {sl6 : Array (Option Value)} {oc6 kV6 dc6 pm6 cd6 ct6 : Value}
    {f7 : Addr} {od7 an7 : Option Addr} {sl7 : Array (Option Value)} {oc7 kV7 dc7 pm7 cd7 ct7 : Value}
    {f8 : Addr} {od8 an8 : Option Addr} {sl8 : Array (Option Value)} {oc8 kV8 dc8 pm8 cd8 ct8 : Value}
    {f9 : Addr} {od9 an9 : Option Addr} {sl9 : Array (Option Value)} {oc9 kV9 dc9 pm9 cd9 ct9 : Value}
    {f10 : Addr} {od10 an10 : Option Addr} {sl10 : Array (Option Value)} {oc10 kV10 dc10 pm10 cd10 ct10 : Value}
    {f11 : Addr} {od11 an11 : Option Addr} {sl11 : Array (Option Value)} {oc11 kV11 dc11 pm11 cd11 ct11 : Value}
    {f12 : Addr} {od12 an12 : Option Addr} {sl12 : Array (Option Value)} {oc12 kV12 dc12 pm12 cd12 ct12 : Value}
    {f13 : Addr} {od13 an13 : Option Addr} {sl13 : Array (Option Value)} {oc13 kV13 dc13 pm13 cd13 ct13 : Value}
    {f14 : Addr} {od14 an14 : Option Addr} {sl14 : Array (Option Value)} {oc14 kV14 dc14 pm14 cd14 ct14 : Value}
    {f15 : Addr} {od15 an15 : Option Addr} {sl15 : Array (Option Value)} {oc15 kV15 dc15 pm15 cd15 ct15 : Value}
    {f16 : Addr} {od16 an16 : Option Addr} {sl16 : Array (Option Value)} {oc16 kV16 dc16 pm16 cd16 ct16 : Value}
    (a0 : PySem.W.nsIn K mainGlobals "_law_stream" = some (some (.ref f0))) (l0 : K.lookup f0 = some ⟨oc0, od0, .func (PySem.W.fnOf "_law_stream" "_law_stream" (defArgs s_law_stream) (defBody s_law_stream) (defScope s_law_stream) .none kV0 dc0 pm0 an0 cd0 ct0), sl0⟩) (c0 : PySem.W.codeIn K cd0 "_law_stream" = true) (k0 : PySem.W.keepIn K (.ref f0) = true)
    (a1 : PySem.W.nsIn K mainGlobals "_law_deck" = some (some (.ref f1))) (l1 : K.lookup f1 = some ⟨oc1, od1, .func (PySem.W.fnOf "_law_deck" "_law_deck" (defArgs s_law_deck) (defBody s_law_deck) (defScope s_law_deck) .none kV1 dc1 pm1 an1 cd1 ct1), sl1⟩) (c1 : PySem.W.codeIn K cd1 "_law_deck" = true) (k1 : PySem.W.keepIn K (.ref f1) = true)
    (a2 : PySem.W.nsIn K mainGlobals "_law_cell_at" = some (some (.ref f2))) (l2 : K.lookup f2 = some ⟨oc2, od2, .func (PySem.W.fnOf "_law_cell_at" "_law_cell_at" (defArgs s_law_cell_at) (defBody s_law_cell_at) (defScope s_law_cell_at) .none kV2 dc2 pm2 an2 cd2 ct2), sl2⟩) (c2 : PySem.W.codeIn K cd2 "_law_cell_at" = true) (k2 : PySem.W.keepIn K (.ref f2) = true)
    (a3 : PySem.W.nsIn K mainGlobals "gather" = some (some (.ref f3))) (l3 : K.lookup f3 = some ⟨oc3, od3, .func (PySem.W.fnOf "gather" "gather" (defArgs s_gather) (defBody s_gather) (defScope s_gather) .none kV3 dc3 pm3 an3 cd3 ct3), sl3⟩) (c3 : PySem.W.codeIn K cd3 "gather" = true) (k3 : PySem.W.keepIn K (.ref f3) = true)
    (a4 : PySem.W.nsIn K mainGlobals "is_sign" = some (some (.ref f4))) (l4 : K.lookup f4 = some ⟨oc4, od4, .func (PySem.W.fnOf "is_sign" "is_sign" (defArgs s_is_sign) (defBody s_is_sign) (defScope s_is_sign) .none kV4 dc4 pm4 an4 cd4 ct4), sl4⟩) (c4 : PySem.W.codeIn K cd4 "is_sign" = true) (k4 : PySem.W.keepIn K (.ref f4) = true)
    (a5 : PySem.W.nsIn K mainGlobals "rank_of" = some (some (.ref f5))) (l5 : K.lookup f5 = some ⟨oc5, od5, .func (PySem.W.fnOf "rank_of" "rank_of" (defArgs s_rank_of) (defBody s_rank_of) (defScope s_rank_of) .none kV5 dc5 pm5 an5 cd5 ct5), sl5⟩) (c5 : PySem.W.codeIn K cd5 "rank_of" = true) (k5 : PySem.W.keepIn K (.ref f5) = true)
    (a6 : PySem.W.nsIn K mainGlobals "sign_at" = some (some (.ref f6))) (l6 : K.lookup f6 = some ⟨oc6, od6, .func (PySem.W.fnOf "sign_at" "sign_at" (defArgs s_sign_at) (defBody s_sign_at) (defScope s_sign_at) .none kV6 dc6 pm6 an6 cd6 ct6), sl6⟩) (c6 : PySem.W.codeIn K cd6 "sign_at" = true) (k6 : PySem.W.keepIn K (.ref f6) = true)
    (a7 : PySem.W.nsIn K mainGlobals "pockets_of" = some (some (.ref f7))) (l7 : K.lookup f7 = some ⟨oc7, od7, .func (PySem.W.fnOf "pockets_of" "pockets_of" (defArgs s_pockets_of) (defBody s_pockets_of) (defScope s_pockets_of) .none kV7 dc7 pm7 an7 cd7 ct7), sl7⟩) (c7 : PySem.W.codeIn K cd7 "pockets_of" = true) (k7 : PySem.W.keepIn K (.ref f7) = true)
    (a8 : PySem.W.nsIn K mainGlobals "deal_all" = some (some (.ref f8))) (l8 : K.lookup f8 = some ⟨oc8, od8, .func (PySem.W.fnOf "deal_all" "deal_all" (defArgs s_deal_all) (defBody s_deal_all) (defScope s_deal_all) .none kV8 dc8 pm8 an8 cd8 ct8), sl8⟩) (c8 : PySem.W.codeIn K cd8 "deal_all" = true) (k8 : PySem.W.keepIn K (.ref f8) = true)
    (a9 : PySem.W.nsIn K mainGlobals "pass_all" = some (some (.ref f9))) (l9 : K.lookup f9 = some ⟨oc9, od9, .func (PySem.W.fnOf "pass_all" "pass_all" (defArgs s_pass_all) (defBody s_pass_all) (defScope s_pass_all) .none kV9 dc9 pm9 an9 cd9 ct9), sl9⟩) (c9 : PySem.W.codeIn K cd9 "pass_all" = true) (k9 : PySem.W.keepIn K (.ref f9) = true)
    (a10 : PySem.W.nsIn K mainGlobals "picked_signs" = some (some (.ref f10))) (l10 : K.lookup f10 = some ⟨oc10, od10, .func (PySem.W.fnOf "picked_signs" "picked_signs" (defArgs s_picked_signs) (defBody s_picked_signs) (defScope s_picked_signs) .none kV10 dc10 pm10 an10 cd10 ct10), sl10⟩) (c10 : PySem.W.codeIn K cd10 "picked_signs" = true) (k10 : PySem.W.keepIn K (.ref f10) = true)
    (a11 : PySem.W.nsIn K mainGlobals "sense_of" = some (some (.ref f11))) (l11 : K.lookup f11 = some ⟨oc11, od11, .func (PySem.W.fnOf "sense_of" "sense_of" (defArgs s_sense_of) (defBody s_sense_of) (defScope s_sense_of) .none kV11 dc11 pm11 an11 cd11 ct11), sl11⟩) (c11 : PySem.W.codeIn K cd11 "sense_of" = true) (k11 : PySem.W.keepIn K (.ref f11) = true)
    (a12 : PySem.W.nsIn K mainGlobals "_law_in_turn" = some (some (.ref f12))) (l12 : K.lookup f12 = some ⟨oc12, od12, .func (PySem.W.fnOf "_law_in_turn" "_law_in_turn" (defArgs s_law_in_turn) (defBody s_law_in_turn) (defScope s_law_in_turn) .none kV12 dc12 pm12 an12 cd12 ct12), sl12⟩) (c12 : PySem.W.codeIn K cd12 "_law_in_turn" = true) (k12 : PySem.W.keepIn K (.ref f12) = true)
    (a13 : PySem.W.nsIn K mainGlobals "_law_fits" = some (some (.ref f13))) (l13 : K.lookup f13 = some ⟨oc13, od13, .func (PySem.W.fnOf "_law_fits" "_law_fits" (defArgs s_law_fits) (defBody s_law_fits) (defScope s_law_fits) .none kV13 dc13 pm13 an13 cd13 ct13), sl13⟩) (c13 : PySem.W.codeIn K cd13 "_law_fits" = true) (k13 : PySem.W.keepIn K (.ref f13) = true)
    (a14 : PySem.W.nsIn K mainGlobals "_law_told" = some (some (.ref f14))) (l14 : K.lookup f14 = some ⟨oc14, od14, .func (PySem.W.fnOf "_law_told" "_law_told" (defArgs s_law_told) (defBody s_law_told) (defScope s_law_told) .none kV14 dc14 pm14 an14 cd14 ct14), sl14⟩) (c14 : PySem.W.codeIn K cd14 "_law_told" = true) (k14 : PySem.W.keepIn K (.ref f14) = true)
    (a15 : PySem.W.nsIn K mainGlobals "_law_pass" = some (some (.ref f15))) (l15 : K.lookup f15 = some ⟨oc15, od15, .func (PySem.W.fnOf "_law_pass" "_law_pass" (defArgs s_law_pass) (defBody s_law_pass) (defScope s_law_pass) .none kV15 dc15 pm15 an15 cd15 ct15), sl15⟩) (c15 : PySem.W.codeIn K cd15 "_law_pass" = true) (k15 : PySem.W.keepIn K (.ref f15) = true)
    (a16 : PySem.W.nsIn K mainGlobals "law" = some (some (.ref f16))) (l16 : K.lookup f16 = some ⟨oc16, od16, .func (PySem.W.fnOf "law" "law" (defArgs s_law) (defBody s_law) (defScope s_law) .none kV16 dc16 pm16 an16 cd16 ct16), sl16⟩) (c16 : PySem.W.codeIn K cd16 "law" = true) (k16 : PySem.W.keepIn K (.ref f16) = true)
    {uc0 : Value} (x0 : PySem.W.nsIn K mainGlobals "SIGNS" = some (some uc0)) (y0 : RelV (tx SG) uc0)
    (z0 : PySem.W.nsIn K mainGlobals "range" = some none)
    (z1 : PySem.W.nsIn K mainGlobals "len" = some none)
    (z2 : PySem.W.nsIn K mainGlobals "list" = some none)
    (z3 : PySem.W.nsIn K mainGlobals "reversed" = some none)
    (z4 : PySem.W.nsIn K mainGlobals "isinstance" = some none)
    (z5 : PySem.W.nsIn K mainGlobals "str" = some none)
    (z6 : PySem.W.nsIn K mainGlobals "zip" = some none)
    {cc0 : Addr} (v0 : PySem.W.nsIn K mainGlobals "NoCard" = some (some (.ref cc0)))
    (u0 : excK K cc0 = true) :
    ∃ fd : FuncData, (∀ (s : Shared) (v : Value), BindsTo s fd ⟨[v], []⟩ [("_law_script", v)]) ∧ ∀ base : Heap, K.In base → base.Ns mainGlobals mg → FnOk l.prog w K mg base CX0 6 fa fd ["_law_script"] (sp_law K) := by
  have e := hfa.symm.trans (PySem.W.mg_of X G a16)
  cases e
  have F0 := fun_mk (st := s_law_stream) l0 c0 k0
  have b0 := F0.binds (ps := ["_law_cell", "_law_many"]) fun _ _ _ _ _ _ us hl => match us, hl with | [_, _], _ => rfl
  have F1 := fun_mk (st := s_law_deck) l1 c1 k1
  have b1 := F1.binds (ps := ["_law_cell", "_law_many", "_law_spread"]) fun _ _ _ _ _ _ us hl => match us, hl with | [_, _, _], _ => rfl
  have F2 := fun_mk (st := s_law_cell_at) l2 c2 k2
  have b2 := F2.binds (ps := ["_law_script", "_law_k"]) fun _ _ _ _ _ _ us hl => match us, hl with | [_, _], _ => rfl
  have F3 := fun_mk (st := s_gather) l3 c3 k3
  have b3 := F3.binds (ps := ["some"]) fun _ _ _ _ _ _ us hl => match us, hl with | [_], _ => rfl
  have F4 := fun_mk (st := s_is_sign) l4 c4 k4
  have b4 := F4.binds (ps := ["text"]) fun _ _ _ _ _ _ us hl => match us, hl with | [_], _ => rfl
  have F5 := fun_mk (st := s_rank_of) l5 c5 k5
  have b5 := F5.binds (ps := ["sign"]) fun _ _ _ _ _ _ us hl => match us, hl with | [_], _ => rfl
  have F6 := fun_mk (st := s_sign_at) l6 c6 k6
  have b6 := F6.binds (ps := ["card", "column"]) fun _ _ _ _ _ _ us hl => match us, hl with | [_, _], _ => rfl
  have F7 := fun_mk (st := s_pockets_of) l7 c7 k7
  have b7 := F7.binds (ps := ["deck", "column"]) fun _ _ _ _ _ _ us hl => match us, hl with | [_, _], _ => rfl
  have F8 := fun_mk (st := s_deal_all) l8 c8 k8
  have b8 := F8.binds (ps := ["deck", "row"]) fun _ _ _ _ _ _ us hl => match us, hl with | [_, _], _ => rfl
  have F9 := fun_mk (st := s_pass_all) l9 c9 k9
  have b9 := F9.binds (ps := ["deck", "row"]) fun _ _ _ _ _ _ us hl => match us, hl with | [_, _], _ => rfl
  have F10 := fun_mk (st := s_picked_signs) l10 c10 k10
  have b10 := F10.binds (ps := ["row"]) fun _ _ _ _ _ _ us hl => match us, hl with | [_], _ => rfl
  have F11 := fun_mk (st := s_sense_of) l11 c11 k11
  have b11 := F11.binds (ps := ["row"]) fun _ _ _ _ _ _ us hl => match us, hl with | [_], _ => rfl
  have F12 := fun_mk (st := s_law_in_turn) l12 c12 k12
  have b12 := F12.binds (ps := ["_law_card", "_law_other", "_law_key", "_law_places"]) fun _ _ _ _ _ _ us hl => match us, hl with | [_, _, _, _], _ => rfl
  have F13 := fun_mk (st := s_law_fits) l13 c13 k13
  have b13 := F13.binds (ps := ["_law_card", "_law_picks"]) fun _ _ _ _ _ _ us hl => match us, hl with | [_, _], _ => rfl
  have F14 := fun_mk (st := s_law_told) l14 c14 k14
  have b14 := F14.binds (ps := ["_law_found", "_law_sense", "_law_deck_here"]) fun _ _ _ _ _ _ us hl => match us, hl with | [_, _, _], _ => rfl
  have F15 := fun_mk (st := s_law_pass) l15 c15 k15
  have b15 := F15.binds (ps := ["_law_cell", "_law_hero", "_law_start", "_law_reach", "_law_share"]) fun _ _ _ _ _ _ us hl => match us, hl with | [_, _, _, _, _], _ => rfl
  have F16 := fun_mk (st := s_law) l16 c16 k16
  refine ⟨PySem.W.fnOf "law" "law" (defArgs s_law) (defBody s_law) (defScope s_law) .none kV16 dc16 pm16 an16 cd16 ct16, fun s v => .of_eq rfl, fun base _ _ => ?_⟩
  have C_SIGNS : Gc mg "SIGNS" (tx SG) := ⟨_, PySem.W.mg_of X G x0, y0⟩
  have M_NoCard : mg "NoCard" = some (.ref (gA K "NoCard")) := by rw [gA_of v0]; exact PySem.W.mg_of X G v0
  have C_NoCard : Gc mg "NoCard" (.ref (gA K "NoCard")) := ⟨_, M_NoCard, rfl⟩
  have FX : Fx K := ⟨(by rw [gA_of v0]; exact u0)⟩
  have Q_NoCard := FX.exc_NoCard
  have B_range : Gb mg "range" := PySem.W.mg_none_of X G z0
  have B_len : Gb mg "len" := PySem.W.mg_none_of X G z1
  have B_list : Gb mg "list" := PySem.W.mg_none_of X G z2
  have B_reversed : Gb mg "reversed" := PySem.W.mg_none_of X G z3
  have B_isinstance : Gb mg "isinstance" := PySem.W.mg_none_of X G z4
  have B_str : Gb mg "str" := PySem.W.mg_none_of X G z5
  have B_zip : Gb mg "zip" := PySem.W.mg_none_of X G z6
  have G_law_stream : Gd l.prog w K mg base CX0 1 "_law_stream" ["_law_cell", "_law_many"] (sp_law_stream K) := ⟨_, _, ok_law_stream B_range F0 len_law_stream rd_law_stream, PySem.W.mg_of X G a0, k0, b0⟩
  have G_law_deck : Gd l.prog w K mg base CX0 2 "_law_deck" ["_law_cell", "_law_many", "_law_spread"] (sp_law_deck K) := ⟨_, _, ok_law_deck G_law_stream B_range F1 len_law_deck rd_law_deck, PySem.W.mg_of X G a1, k1, b1⟩
  have G_law_cell_at : Gd l.prog w K mg base CX0 1 "_law_cell_at" ["_law_script", "_law_k"] (sp_law_cell_at K) := ⟨_, _, ok_law_cell_at B_len F2 len_law_cell_at rd_law_cell_at, PySem.W.mg_of X G a2, k2, b2⟩
  have G_gather : Gd l.prog w K mg base CX0 1 "gather" ["some"] (sp_gather K) := ⟨_, _, ok_gather  F3 len_gather rd_gather, PySem.W.mg_of X G a3, k3, b3⟩
  have G_is_sign : Gd l.prog w K mg base CX0 1 "is_sign" ["text"] (sp_is_sign K) := ⟨_, _, ok_is_sign C_SIGNS B_len F4 len_is_sign rd_is_sign, PySem.W.mg_of X G a4, k4, b4⟩
  have G_rank_of : Gd l.prog w K mg base (CXx l.prog w) 2 "rank_of" ["sign"] (sp_rank_of K) := ⟨_, _, ok_rank_of G_is_sign C_SIGNS C_NoCard M_NoCard Q_NoCard F5 len_rank_of (rd_rank_of FX), PySem.W.mg_of X G a5, k5, b5⟩
  have G_sign_at : Gd l.prog w K mg base CX0 1 "sign_at" ["card", "column"] (sp_sign_at K) := ⟨_, _, ok_sign_at  F6 len_sign_at rd_sign_at, PySem.W.mg_of X G a6, k6, b6⟩
  have G_pockets_of : Gd l.prog w K mg base (CXx l.prog w) 3 "pockets_of" ["deck", "column"] (sp_pockets_of K) := ⟨_, _, ok_pockets_of G_rank_of G_sign_at C_SIGNS F7 len_pockets_of (rd_pockets_of FX), PySem.W.mg_of X G a7, k7, b7⟩
  have G_deal_all : Gd l.prog w K mg base (CXx l.prog w) 4 "deal_all" ["deck", "row"] (sp_deal_all K) := ⟨_, _, ok_deal_all G_gather G_pockets_of B_list F8 len_deal_all (rd_deal_all FX), PySem.W.mg_of X G a8, k8, b8⟩
  have G_pass_all : Gd l.prog w K mg base (CXx l.prog w) 5 "pass_all" ["deck", "row"] (sp_pass_all K) := ⟨_, _, ok_pass_all G_deal_all G_sign_at B_list F9 len_pass_all (rd_pass_all FX), PySem.W.mg_of X G a9, k9, b9⟩
  have G_picked_signs : Gd l.prog w K mg base CX0 1 "picked_signs" ["row"] (sp_picked_signs K) := ⟨_, _, ok_picked_signs  F10 len_picked_signs rd_picked_signs, PySem.W.mg_of X G a10, k10, b10⟩
  have G_sense_of : Gd l.prog w K mg base CX0 2 "sense_of" ["row"] (sp_sense_of K) := ⟨_, _, ok_sense_of G_picked_signs B_reversed F11 len_sense_of rd_sense_of, PySem.W.mg_of X G a11, k11, b11⟩
  have G_law_in_turn : Gd l.prog w K mg base CX0 1 "_law_in_turn" ["_law_card", "_law_other", "_law_key", "_law_places"] (sp_law_in_turn K) := ⟨_, _, ok_law_in_turn  F12 len_law_in_turn rd_law_in_turn, PySem.W.mg_of X G a12, k12, b12⟩
  have G_law_fits : Gd l.prog w K mg base CX0 1 "_law_fits" ["_law_card", "_law_picks"] (sp_law_fits K) := ⟨_, _, ok_law_fits  F13 len_law_fits rd_law_fits, PySem.W.mg_of X G a13, k13, b13⟩
  have G_law_told : Gd l.prog w K mg base CX0 2 "_law_told" ["_law_found", "_law_sense", "_law_deck_here"] (sp_law_told K) := ⟨_, _, ok_law_told G_law_fits G_law_in_turn B_isinstance B_list B_len B_range B_str B_zip F14 len_law_told rd_law_told, PySem.W.mg_of X G a14, k14, b14⟩
  have G_law_pass : Gd l.prog w K mg base CX0 1 "_law_pass" ["_law_cell", "_law_hero", "_law_start", "_law_reach", "_law_share"] (sp_law_pass K) := ⟨_, _, ok_law_pass  F15 len_law_pass rd_law_pass, PySem.W.mg_of X G a15, k15, b15⟩
  exact ok_law (P := l.prog) (w := w) (base := base) G_law_cell_at G_law_deck G_law_pass G_pass_all G_sense_of G_law_told B_list F16 len_law rd_law
theorem walk {l : PySem.W.OpenLaw} {q : Program} {loose : List Str} {XP : (Str → Option Value) → Heap → Prop} {YP : World → Heap → Prop} {d : DefRec} {K : Params → PySem.W.Frag} (hn : l.most = some 63) (hdf : d.params.defaults = [])
    (hY : ∀ (w : World) (h : Heap), YP w h → (K w.params).In h)
    (F : ∀ (w : World) (mg : Str → Option Value) (fa : Addr) (h : Heap), (K w.params).In h → h.Ns mainGlobals mg → mg d.name = some (.ref fa) →
      ∃ fd : FuncData, (∀ (s : Shared) (u : Value), BindsTo s fd ⟨[u], []⟩ [("_law_script", u)]) ∧ ∀ base : Heap, (K w.params).In base → base.Ns mainGlobals mg → FnOk l.prog w (K w.params) mg base CX0 6 fa fd ["_law_script"] (sp_law (K w.params))) :
    PySem.W.WalkO q loose XP YP l.row.toRowW d [] (fun f vs => PySem.call f vs) :=
  L2.walk_ofB (n := 63) (k := 6) (x := "_law_script") (CX := fun _ => CX0) (sp := fun w => sp_law (K w.params)) hn (by decide) hdf ⟨rfl, by decide, by decide⟩ hY F (fun _ _ a ns hl hb _ hS => ⟨a, ns, rfl, hS, hl, hb, fun _ => rfl⟩) fun _ _ _ _ _ z => z
end K16
open PySem PySem.W PyProof.Rows
set_option maxRecDepth 100000 in
set_option maxHeartbeats 0 in
theorem PySem.Challenge.cw_cardshop_k16_what_a_sense_tells_holds : PySem.Challenge.rw_cardshop_k16_what_a_sense_tells.Holds := by
  w_on; o_law; k_head; (case hw => w_witness2)
  k_fill
  refine K16.walk (l := PySem.Challenge.rw_cardshop_k16_what_a_sense_tells) rfl rfl (fun w h Y => PySem.W.kIn_of Y) ?F
  case F =>
    intro w mg fa h KX G hmg
    refine' K16.all_mk KX G hmg ?a0 ?l0 ?c0 ?k0 ?a1 ?l1 ?c1 ?k1 ?a2 ?l2 ?c2 ?k2 ?a3 ?l3 ?c3 ?k3 ?a4 ?l4 ?c4 ?k4 ?a5 ?l5 ?c5 ?k5 ?a6 ?l6 ?c6 ?k6 ?a7 ?l7 ?c7 ?k7 ?a8 ?l8 ?c8 ?k8 ?a9 ?l9 ?c9 ?k9 ?a10 ?l10 ?c10 ?k10 ?a11 ?l11 ?c11 ?k11 ?a12 ?l12 ?c12 ?k12 ?a13 ?l13 ?c13 ?k13 ?a14 ?l14 ?c14 ?k14 ?a15 ?l15 ?c15 ?k15 ?a16 ?l16 ?c16 ?k16 ?x0 ?y0 ?z0 ?z1 ?z2 ?z3 ?z4 ?z5 ?z6 ?v0 ?u0
    (case a0 => k_is)
    (case l0 => k_is)
    (case c0 => k_is)
    (case k0 => k_is)
    (case a1 => k_is)
    (case l1 => k_is)
    (case c1 => k_is)
    (case k1 => k_is)
    (case a2 => k_is)
    (case l2 => k_is)
    (case c2 => k_is)
    (case k2 => k_is)
    (case a3 => k_is)
    (case l3 => k_is)
    (case c3 => k_is)
    (case k3 => k_is)
    (case a4 => k_is)
    (case l4 => k_is)
    (case c4 => k_is)
    (case k4 => k_is)
    (case a5 => k_is)
    (case l5 => k_is)
    (case c5 => k_is)
    (case k5 => k_is)
    (case a6 => k_is)
    (case l6 => k_is)
    (case c6 => k_is)
    (case k6 => k_is)
    (case a7 => k_is)
    (case l7 => k_is)
    (case c7 => k_is)
    (case k7 => k_is)
    (case a8 => k_is)
    (case l8 => k_is)
    (case c8 => k_is)
    (case k8 => k_is)
    (case a9 => k_is)
    (case l9 => k_is)
    (case c9 => k_is)
    (case k9 => k_is)
    (case a10 => k_is)
    (case l10 => k_is)
    (case c10 => k_is)
    (case k10 => k_is)
    (case a11 => k_is)
    (case l11 => k_is)
    (case c11 => k_is)
    (case k11 => k_is)
    (case a12 => k_is)
    (case l12 => k_is)
    (case c12 => k_is)
    (case k12 => k_is)
    (case a13 => k_is)
    (case l13 => k_is)
    (case c13 => k_is)
    (case k13 => k_is)
    (case a14 => k_is)
    (case l14 => k_is)
    (case c14 => k_is)
    (case k14 => k_is)
    (case a15 => k_is)
    (case l15 => k_is)
    (case c15 => k_is)
    (case k15 => k_is)
    (case a16 => k_is)
    (case l16 => k_is)
    (case c16 => k_is)
    (case k16 => k_is)
    (case x0 => k_is)
    (case y0 => exact ⟨_, rfl⟩)
    (case z0 => k_is)
    (case z1 => k_is)
    (case z2 => k_is)
    (case z3 => k_is)
    (case z4 => k_is)
    (case z5 => k_is)
    (case z6 => k_is)
    (case v0 => k_is)
    (case u0 => kernel_rfl!)
#print axioms PySem.Challenge.cw_cardshop_k16_what_a_sense_tells_holds
