import PyProof.Rows.All
import Wide.All
import OpenK.AllK
import Wide.FinOn
import Lean
import PyProof.EqAt
import PyProof.EqKinds
import PyProof.TupleCall
import PyProof.StrLawsRepr
import PyProof.NeKinds
import PySem.Challenge.RW_cardshop_k29_board_read
set_option Elab.async false
set_option linter.all false
set_option maxRecDepth 100000
set_option maxHeartbeats 4000000
namespace L2
open PySem PySem.Spec PyProof.Rows
abbrev Key := Sum Int Str
def keyIs : Key → Value → Bool
  | .inl k, v => Value.isInt k v
  | .inr x, v => Value.isStrOf x v
def keyH (w : World) : Key → Int
  | .inl k => hashInt k
  | .inr x => hashStr w x
theorem keyIs_shape : ∀ {k : Key} {v : Value}, keyIs k v = true → (∃ i t, k = Sum.inl i ∧ v = Value.int i t) ∨ (∃ x t, k = Sum.inr x ∧ v = Value.str x t)
  | .inl i, v, h => by
    obtain ⟨t, e⟩ := Value.isInt_shape (k := i) (v := v) h
    exact .inl ⟨i, t, rfl, e⟩
  | .inr x, v, h => by
    obtain ⟨t, e⟩ := Value.isStrOf_shape (x := x) (v := v) h
    exact .inr ⟨x, t, rfl, e⟩
theorem keyIs_int (i : Int) (t : Tok) : keyIs (.inl i) (.int i t) = true := by simp [keyIs, Value.isInt]
theorem keyIs_str (x : Str) (t : Tok) : keyIs (.inr x) (.str x t) = true := by simp [keyIs, Value.isStrOf]
theorem key_ll (a b : Int) : decide ((Sum.inl a : Key) = Sum.inl b) = (a == b) := by
  by_cases e : a = b
  · subst e; simp
  · have h : ¬ (Sum.inl a : Key) = Sum.inl b := fun q => e (Sum.inl.inj q)
    rw [decide_eq_false h]
    exact (beq_eq_false_iff_ne.mpr e).symm
theorem key_rr (a b : Str) : decide ((Sum.inr a : Key) = Sum.inr b) = decide (a = b) := by
  by_cases e : a = b
  · subst e; simp
  · have h : ¬ (Sum.inr a : Key) = Sum.inr b := fun q => e (Sum.inr.inj q)
    rw [decide_eq_false h, decide_eq_false e]
theorem key_lr (a : Int) (b : Str) : decide ((Sum.inl a : Key) = Sum.inr b) = false := decide_eq_false (fun q => nomatch q)
theorem key_rl (a : Str) (b : Int) : decide ((Sum.inr a : Key) = Sum.inl b) = false := decide_eq_false (fun q => nomatch q)
def mixKind (prog : Program) (w : World) : PySem.KeyKind prog w Key where
  is := keyIs
  hash := keyH w
  inj := fun v a b ha hb => by
    rcases keyIs_shape ha with ⟨i, t, rfl, rfl⟩ | ⟨x, t, rfl, rfl⟩
    · rcases keyIs_shape hb with ⟨j, u, rfl, e⟩ | ⟨y, u, rfl, e⟩
      · injection e with e1 _; rw [e1]
      · exact nomatch e
    · rcases keyIs_shape hb with ⟨j, u, rfl, e⟩ | ⟨y, u, rfl, e⟩
      · exact nomatch e
      · injection e with e1 _; rw [e1]
  byValue := fun k v h => by
    rcases keyIs_shape h with ⟨i, t, rfl, rfl⟩ | ⟨x, t, rfl, rfl⟩ <;> rfl
  pyHash := fun hv h => by
    rcases keyIs_shape hv with ⟨i, t, rfl, rfl⟩ | ⟨x, t, rfl, rfl⟩
    · exact wpAny_pyHash_int h
    · exact wpAny_pyHash_str h
  eqBool := fun hu hv h => by
    rcases keyIs_shape hu with ⟨i, t, rfl, rfl⟩ | ⟨x, t, rfl, rfl⟩
    · rcases keyIs_shape hv with ⟨j, u, rfl, rfl⟩ | ⟨y, u, rfl, rfl⟩
      · rw [key_ll] at h; exact wpAny_eqBool_int h
      · rw [key_lr] at h; exact SeqAt.EqAt.int_str i t y u _ _ _ _ h
    · rcases keyIs_shape hv with ⟨j, u, rfl, rfl⟩ | ⟨y, u, rfl, rfl⟩
      · rw [key_rl] at h; exact SeqAt.EqAt.str_int x t j u _ _ _ _ h
      · rw [key_rr] at h; exact wpAny_eqBool_str h
  «strs» := fun k x t v h => by
    rcases keyIs_shape h with ⟨i, u, rfl, e⟩ | ⟨y, u, rfl, e⟩
    · exact nomatch e
    · injection e with e1 _
      subst e1
      cases v <;> rfl
theorem mixKind_is (prog : Program) (w : World) (k : Key) (v : Value) : (mixKind prog w).is k v = keyIs k v := rfl
theorem mixKind_int (prog : Program) (w : World) (i : Int) (t : Tok) : (mixKind prog w).is (.inl i) (.int i t) = true := keyIs_int i t
theorem mixKind_str (prog : Program) (w : World) (x : Str) (t : Tok) : (mixKind prog w).is (.inr x) (.str x t) = true := keyIs_str x t
end L2
namespace L2
open PySem PySem.Spec PyProof.Rows
inductive V where
  | non | bl (b : Bool) | int (i : Int) | str (x : Str) | byt (b : Array UInt8) | flt (b : UInt64) | ref (a : Addr) | ty (n : String)
  deriving DecidableEq
def RelV : V → Value → Prop
  | .non, u => u = Value.none
  | .bl b, u => u = Value.bool b
  | .int i, u => ∃ t, u = Value.int i t
  | .str x, u => ∃ t, u = Value.str x t
  | .byt b, u => ∃ t, u = Value.bytes b t
  | .flt b, u => ∃ t, u = Value.float b t
  | .ref a, u => u = Value.ref a
  | .ty n, u => u = Value.type n
abbrev Vals : List V → List Value → Prop := Paired RelV
theorem Vals.length {xs : List V} {us : List Value} (r : Vals xs us) : xs.length = us.length := Paired.length r
theorem Vals.get : ∀ {xs : List V} {us : List Value} {i : Nat} {x : V}, Vals xs us → xs[i]? = some x → ∃ u, us[i]? = some u ∧ RelV x u
  | _, _, _, _, .nil, e => by simp at e
  | _, _, 0, _, .cons r _, e => by simp at e; subst e; exact ⟨_, rfl, r⟩
  | _, _, i + 1, x, .cons _ t, e => by
    obtain ⟨u, h1, h2⟩ := Vals.get (i := i) (x := x) t (by simpa using e)
    exact ⟨u, by simpa using h1, h2⟩
theorem Vals.set {x : V} {u : Value} (r : RelV x u) : ∀ {xs : List V} {us : List Value} (i : Nat), Vals xs us → Vals (xs.set i x) (us.set i u)
  | _, _, _, .nil => .nil
  | _, _, 0, .cons _ t => .cons r t
  | _, _, i + 1, .cons q t => .cons q (Vals.set r i t)
theorem Vals.append : ∀ {xs ys : List V} {us ws : List Value}, Vals xs us → Vals ys ws → Vals (xs ++ ys) (us ++ ws)
  | _, _, _, _, .nil, s => s
  | _, _, _, _, .cons r t, s => .cons r (Vals.append t s)
theorem Vals.take : ∀ {xs : List V} {us : List Value} (n : Nat), Vals xs us → Vals (xs.take n) (us.take n)
  | _, _, 0, _ => .nil
  | _, _, _ + 1, .nil => .nil
  | _, _, n + 1, .cons r t => .cons r (Vals.take n t)
theorem Vals.drop : ∀ {xs : List V} {us : List Value} (n : Nat), Vals xs us → Vals (xs.drop n) (us.drop n)
  | _, _, 0, r => r
  | _, _, _ + 1, .nil => .nil
  | _, _, n + 1, .cons _ t => Vals.drop n t
def RelO : Option V → Option Value → Prop
  | some v, some u => RelV v u
  | none, none => True
  | _, _ => False
def KV {κ : Type} : List (κ × V) → List (κ × Value) → Prop := Paired fun (p : κ × V) (q : κ × Value) => p.1 = q.1 ∧ RelV p.2 q.2
def kV : Key → V
  | .inl i => .int i
  | .inr x => .str x
inductive HO where
  | lst (xs : List V)
  | tup (xs : List V)
  | dK (kvs : List (Key × V)) | dT (kvs : List (List Key × V))
  | set (S : Int → Bool) (n : Nat)
  | ins (C dx : Addr) (fs : List (Str × V))
  | own (x : Addr)
  | xd (fs : List (Str × V))
  | met (f x : Addr)
  | rng (lo hi : Int)
  | frz (o : Obj) (u : HO)
  | tbl (ps : Array Value)
  | ext (φ : Heap → Prop)
abbrev Hp := Addr → Option HO
def upd (H : Hp) (a : Addr) (o : HO) : Hp := fun b => if b = a then some o else H b
theorem upd_same {H : Hp} {a : Addr} {o : HO} : upd H a o a = some o := by unfold upd; rw [if_pos rfl]
theorem upd_ne {H : Hp} {a b : Addr} {o : HO} (h : b ≠ a) : upd H a o b = H b := by unfold upd; rw [if_neg h]
theorem ne_of {H : Hp} {a b : Addr} {o u : HO} (h : H a = some o) (h' : H b = some u) (d : o ≠ u) : a ≠ b := by
  intro e; subst e; rw [h] at h'; exact d (Option.some.inj h')
theorem ne_of_none {H : Hp} {a b : Addr} {o : HO} (h : H a = some o) (h' : H b = none) : a ≠ b := by
  intro e; subst e; rw [h] at h'; cases h'
section
variable (P : Program) (w : World)
def ObjOk (H : Hp) (h : Heap) (a : Addr) : HO → Prop
  | .lst xs => xs.length ≤ sizeLine ∧ ∃ (its : List Value) (n : Nat), Vals xs its ∧ h.get? a = some { cls := .type "list", data := .seq its.toArray n }
  | .tup xs => xs.length ≤ sizeLine ∧ ∃ its : List Value, Vals xs its ∧ IsTup h a its.toArray
  | .dK kvs => kvs.length ≤ sizeLine ∧ (a == sysModules) = false ∧ ∃ vs, KV kvs vs ∧ h.DictOf (mixKind P w) a vs
  | .dT kvs => kvs.length ≤ sizeLine ∧ (a == sysModules) = false ∧ ∃ xs : List (List Key × Addr × Value),
      Paired (fun (p : List Key × V) (q : List Key × Addr × Value) => p.1 = q.1 ∧ H q.2.1 = some (.tup (p.1.map kV)) ∧ RelV p.2 q.2.2) kvs xs ∧
      ∃ o es ep, h.get? a = some o ∧ o.ExactDict ∧ o.data = .dict es ep ∧ es.toList = xs.map (entryOfKey (tupleKind (mixKind P w))) ∧ (xs.map (·.1)).Nodup
  | .set S n => h.SetOf (intKind P w) a S n
  | .ins C dx fs => H dx = some (.own a) ∧ fs.length ≤ 1000 ∧ dx ≠ a ∧ h.get? a = some (PySem.W.instObj C dx) ∧
      ∃ mA, h.Ns1 dx mA ∧ (∀ f, RelO (fs.lookup f) (mA f)) ∧ PySem.Within mA (fs.map (·.1))
  | .own _ => ∃ o, h.get? a = some o
  | .xd fs => ∃ mA, h.Ns1 a mA ∧ ∀ f, RelO (fs.lookup f) (mA f)
  | .rng lo hi => ∃ t u v, h.get? a = some { cls := .type "range", data := .fields #[.int lo t, .int hi u, .int 1 v] }
  | .frz o u => h.get? a = some o ∧ ObjOk H h a u
  | .tbl ps => h.get? a = some { cls := .none, data := .fields ps }
  | .met f x => h.get? a = some (PySem.W.methodObj (.ref f) (.ref x))
  | .ext φ => φ h ∧ (∃ o, h.get? a = some o) ∧ ∀ h1 h2 : Heap, φ h1 → (∀ o, h1.get? a = some o → h2.get? a = some o) → φ h2
def HOk (H : Hp) (h : Heap) : Prop := ∀ a o, H a = some o → ObjOk P w H h a o
end
section
variable {P : Program} {w : World} {H H' : Hp} {h h' : Heap} {a : Addr} {o : HO}
theorem ObjOk.lt (x : ObjOk P w H h a o) : a < h.objs.size := by
  cases o with
  | lst xs => obtain ⟨_, _, _, _, e⟩ := x; exact Heap.lt_size e
  | tup xs => obtain ⟨_, _, _, p⟩ := x; exact p.lt
  | dK kvs => obtain ⟨_, _, _, _, o, _, _, e, _⟩ := x; exact Heap.lt_size e
  | dT kvs => obtain ⟨_, _, _, _, o, _, _, e, _⟩ := x; exact Heap.lt_size e
  | set S n => obtain ⟨o, _, _, _, e, _⟩ := x; exact Heap.lt_size e
  | ins C dx fs => obtain ⟨_, _, _, e, _⟩ := x; exact Heap.lt_size e
  | own y => obtain ⟨_, e⟩ := x; exact Heap.lt_size e
  | xd fs => obtain ⟨_, ⟨_, _, _, e, _⟩, _⟩ := x; exact Heap.lt_size e
  | rng lo hi => obtain ⟨_, _, _, e⟩ := x; exact Heap.lt_size e
  | frz ob u => obtain ⟨e, _⟩ := x; exact Heap.lt_size e
  | tbl ps => exact Heap.lt_size (show h.get? a = some _ from x)
  | met f y => exact Heap.lt_size (show h.get? a = some _ from x)
  | ext φ => obtain ⟨_, ⟨_, e⟩, _⟩ := x; exact Heap.lt_size e
theorem Paired.mapP {α β : Type} {F G : α → β → Prop} : ∀ {l₁ : List α} {l₂ : List β}, Paired F l₁ l₂ → (∀ a b, F a b → G a b) → Paired G l₁ l₂
  | _, _, .nil, _ => .nil
  | _, _, .cons r t, f => .cons (f _ _ r) (Paired.mapP t f)
theorem ObjOk.stay (x : ObjOk P w H h a o) (k : ∀ b u, (b = a ∨ H b = some (.own a)) → h.get? b = some u → h'.get? b = some u)
    (ho : ∀ b, H b = some (.own a) → H' b = some (.own a)) (ht : ∀ b xs, H b = some (.tup xs) → H' b = some (.tup xs)) : ObjOk P w H' h' a o := by
  induction o with
  | lst xs => obtain ⟨z, its, n, r, e⟩ := x; exact ⟨z, its, n, r, k _ _ (.inl rfl) e⟩
  | tup xs => obtain ⟨z, its, r, ob, e, c⟩ := x; exact ⟨z, its, r, ob, k _ _ (.inl rfl) e, c⟩
  | dK kvs => obtain ⟨z, y, vs, r, ob, es, ep, e, c⟩ := x; exact ⟨z, y, vs, r, ob, es, ep, k _ _ (.inl rfl) e, c⟩
  | dT kvs =>
    obtain ⟨z, y, xs, r, ob, es, ep, e, c⟩ := x
    exact ⟨z, y, xs, Paired.mapP r fun p q z => ⟨z.1, ht _ _ z.2.1, z.2.2⟩, ob, es, ep, k _ _ (.inl rfl) e, c⟩
  | set S n => obtain ⟨ob, es, ep, t, e, c⟩ := x; exact ⟨ob, es, ep, t, k _ _ (.inl rfl) e, c⟩
  | ins C dx fs =>
    obtain ⟨d, z, ne, e, mA, ⟨od, es, ep, e2, c⟩, r⟩ := x
    exact ⟨ho _ d, z, ne, k _ _ (.inl rfl) e, mA, ⟨od, es, ep, k _ _ (.inr d) e2, c⟩, r⟩
  | own y => obtain ⟨ob, e⟩ := x; exact ⟨ob, k _ _ (.inl rfl) e⟩
  | xd fs => obtain ⟨mA, ⟨od, es, ep, e, c⟩, r⟩ := x; exact ⟨mA, ⟨od, es, ep, k _ _ (.inl rfl) e, c⟩, r⟩
  | rng lo hi => obtain ⟨t, u, v, e⟩ := x; exact ⟨t, u, v, k _ _ (.inl rfl) e⟩
  | frz ob u ih => obtain ⟨e, q⟩ := x; exact ⟨k _ _ (.inl rfl) e, ih q⟩
  | tbl ps =>
    have e : h.get? a = some { cls := .none, data := .fields ps } := x
    show h'.get? a = some { cls := .none, data := .fields ps }
    exact k a _ (.inl rfl) e
  | met f y =>
    have e : h.get? a = some (PySem.W.methodObj (.ref f) (.ref y)) := x
    show h'.get? a = some (PySem.W.methodObj (.ref f) (.ref y))
    exact k a _ (.inl rfl) e
  | ext φ => obtain ⟨p, ⟨o, e⟩, st⟩ := x; exact ⟨st _ _ p fun o q => k _ _ (.inl rfl) q, ⟨o, k _ _ (.inl rfl) e⟩, st⟩
theorem HOk.lt (x : HOk P w H h) (e : H a = some o) : a < h.objs.size := (x a o e).lt
theorem HOk.fresh (x : HOk P w H h) (e : h.objs.size ≤ a) : H a = none := by
  cases q : H a with
  | none => rfl
  | some u => exact absurd (Nat.lt_of_lt_of_le (x.lt q) e) (Nat.lt_irrefl _)
theorem HOk.kept (x : HOk P w H h) (k : ∀ b u, h.get? b = some u → h'.get? b = some u) : HOk P w H h' := fun a o e =>
  (x a o e).stay (fun b u _ q => k b u q) (fun _ q => q) fun _ _ q => q
theorem HOk.laid (x : HOk P w H h) (k : ∀ b u, h.get? b = some u → h'.get? b = some u) (hp : h.objs.size ≤ a) (new : ObjOk P w (upd H a o) h' a o) : HOk P w (upd H a o) h' := fun b u e => by
  have hn := x.fresh hp
  by_cases hb : b = a
  · subst hb; rw [upd_same] at e; cases e; exact new
  · rw [upd_ne hb] at e
    exact (x b u e).stay (fun c v _ q => k c v q) (fun c q => by rw [upd_ne (ne_of_none q hn)]; exact q) fun c xs q => by rw [upd_ne (ne_of_none q hn)]; exact q
end
def Rd (H : Hp) (a : Addr) (u : HO) : Prop := H a = some u ∨ ∃ o, H a = some (.frz o u)
theorem Rd.of {H : Hp} {a : Addr} {u : HO} (h : H a = some u) : Rd H a u := .inl h
theorem Rd.ok {P : Program} {w : World} {H : Hp} {h : Heap} {a : Addr} {u : HO} (r : Rd H a u) (x : HOk P w H h) : ObjOk P w H h a u := by
  rcases r with r | ⟨o, r⟩
  · exact x a u r
  · obtain ⟨_, q⟩ := x a _ r
    exact q
def Mut : Option HO → Prop
  | some (.lst _) => True
  | some (.dK _) => True
  | some (.dT _) => True
  | some (.set _ _) => True
  | some (.ins _ _ _) => True
  | some (.ext _) => True
  | _ => False
section
variable {P : Program} {w : World} {H : Hp} {h h' : Heap} {x e : Addr} {o' : HO}
theorem HOk.write (ok : HOk P w H h) (mu : Mut (H x)) (he : e = x ∨ H e = some (.own x)) (k : ∀ b u, b ≠ e → h.get? b = some u → h'.get? b = some u) (heo : ∃ u, h'.get? e = some u)
    (new : ObjOk P w (upd H x o') h' x o') : HOk P w (upd H x o') h' := fun b u q => by
  have nown : ∀ c y, H c = some (.own y) → c ≠ x := fun c y r z => by subst z; rw [r] at mu; exact mu
  have ntup : ∀ c xs, H c = some (.tup xs) → c ≠ x := fun c xs r z => by subst z; rw [r] at mu; exact mu
  by_cases hb : b = x
  · subst hb; rw [upd_same] at q; cases q; exact new
  · rw [upd_ne hb] at q
    by_cases hbe : b = e
    · have q' : H b = some (.own x) := by
        rcases he with z | z
        · exact absurd (hbe.trans z) hb
        · rw [hbe]; exact z
      rw [q] at q'; cases q'
      obtain ⟨v, hv⟩ := heo
      exact ⟨v, by rw [hbe]; exact hv⟩
    · refine (ok b u q).stay (fun c v hc r => k c v ?_ r) (fun c r => by rw [upd_ne (nown c b r)]; exact r) fun c xs r => by rw [upd_ne (ntup c xs r)]; exact r
      rcases hc with rfl | hc
      · exact hbe
      · rintro rfl
        rcases he with z | z
        · exact nown c b hc z
        · rw [hc] at z; cases z; exact hb rfl
end
structure Un (fs ex : List Addr) (H H' : Hp) (h h' : Heap) : Prop where
  keep : ∀ b o, h.get? b = some o → H b = none → b ∉ fs → b ∉ ex → h'.get? b = some o
  slot : ∀ b o, h.get? b = some o → H b = none → b ∈ fs → b ∉ ex → ∃ sl, h'.get? b = some { o with slots := sl }
  free : ∀ b o, h.get? b = some o → H b = none → b ∉ ex → H' b = none
  there : ∀ b o, h.get? b = some o → b ∉ ex → ∃ o', h'.get? b = some o'
  tups : ∀ b xs, H b = some (.tup xs) → H' b = some (.tup xs)
  frzs : ∀ b o u, H b = some (.frz o u) → H' b = some (.frz o u)
  tbls : ∀ b ps, H b = some (.tbl ps) → ∃ more, H' b = some (.tbl (ps ++ more))
section
variable {fs fs' ex ex' : List Addr} {H H1 H2 : Hp} {h h1 h2 h' : Heap} {a x e : Addr} {o : HO}
theorem Un.any (u : Un fs ex H H1 h h1) {b : Addr} {ob : Obj} (q : h.get? b = some ob) (n : H b = none) (hx : b ∉ ex) : ∃ sl, h1.get? b = some { ob with slots := sl } := by
  by_cases hb : b ∈ fs
  · exact u.slot b ob q n hb hx
  · exact ⟨ob.slots, u.keep b ob q n hb hx⟩
theorem Un.trans (a : Un fs ex H H1 h h1) (b : Un fs ex H1 H2 h1 h2) : Un fs ex H H2 h h2 where
  keep := fun c ob q n hc hx => b.keep c ob (a.keep c ob q n hc hx) (a.free c ob q n hx) hc hx
  slot := fun c ob q n hc hx => by
    obtain ⟨sl, e1⟩ := a.slot c ob q n hc hx
    obtain ⟨sl', e2⟩ := b.slot c _ e1 (a.free c ob q n hx) hc hx
    exact ⟨sl', e2⟩
  free := fun c ob q n hx => by
    obtain ⟨o', e1⟩ := a.there c ob q hx
    exact b.free c o' e1 (a.free c ob q n hx) hx
  there := fun c ob q hx => by
    obtain ⟨o', e1⟩ := a.there c ob q hx
    exact b.there c o' e1 hx
  tups := fun c xs q => b.tups c xs (a.tups c xs q)
  frzs := fun c ob xs q => b.frzs c ob xs (a.frzs c ob xs q)
  tbls := fun c ps q => by
    obtain ⟨m1, e1⟩ := a.tbls c ps q
    obtain ⟨m2, e2⟩ := b.tbls c _ e1
    exact ⟨m1 ++ m2, by rw [e2, Array.append_assoc]⟩
theorem Un.kept (k : ∀ b u, h.get? b = some u → h'.get? b = some u) : Un fs ex H H h h' :=
  ⟨fun b ob q _ _ _ => k b ob q, fun b ob q _ _ _ => ⟨ob.slots, k b ob q⟩, fun _ _ _ n _ => n, fun b ob q _ => ⟨ob, k b ob q⟩, fun _ _ q => q, fun _ _ _ q => q, fun _ ps q => ⟨#[], by rw [q]; simp⟩⟩
theorem Un.refl : Un fs ex H H h h := Un.kept fun _ _ q => q
theorem Un.laid (k : ∀ b u, h.get? b = some u → h'.get? b = some u) (hp : h.objs.size ≤ a) (hn : H a = none) : Un fs ex H (upd H a o) h h' where
  keep := fun b u q _ _ _ => k b u q
  slot := fun b u q _ _ _ => ⟨u.slots, k b u q⟩
  free := fun b u q n _ => by rw [upd_ne (Nat.ne_of_lt (Nat.lt_of_lt_of_le (Heap.lt_size q) hp))]; exact n
  there := fun b u q _ => ⟨u, k b u q⟩
  tups := fun b xs q => by rw [upd_ne (ne_of_none q hn)]; exact q
  frzs := fun b u xs q => by rw [upd_ne (ne_of_none q hn)]; exact q
  tbls := fun b ps q => ⟨#[], by rw [upd_ne (ne_of_none q hn), q]; simp⟩
theorem Un.write (mu : Mut (H x)) (he : e = x ∨ H e = some (.own x)) (k : ∀ b u, b ≠ e → h.get? b = some u → h'.get? b = some u) (heo : ∃ u, h'.get? e = some u) : Un fs ex H (upd H x o) h h' := by
  have hx : ∀ b, H b = none → b ≠ x := fun b n z => by subst z; rw [n] at mu; exact mu
  have hb : ∀ b, H b = none → b ≠ e := fun b n z => by
    subst z
    rcases he with r | r
    · exact hx b n r
    · rw [n] at r; cases r
  have hm : ∀ b u, H b = some u → ¬ Mut (some u) → b ≠ x := fun b u q nm z => by subst z; rw [q] at mu; exact nm mu
  refine ⟨fun b u q n _ _ => k b u (hb b n) q, fun b u q n _ _ => ⟨u.slots, k b u (hb b n) q⟩, fun b u q n _ => by rw [upd_ne (hx b n)]; exact n, fun b u q _ => ?_,
    fun b xs q => by rw [upd_ne (hm b _ q fun z => z)]; exact q, fun b u xs q => by rw [upd_ne (hm b _ q fun z => z)]; exact q, fun b ps q => ⟨#[], by rw [upd_ne (hm b _ q fun z => z), q]; simp⟩⟩
  by_cases hbe : b = e
  · subst hbe; exact heo
  · exact ⟨u, k b u hbe q⟩
theorem Un.mono (u : Un fs ex H H1 h h1) (hs : ∀ b ∈ fs, b ∈ fs') (hx : ∀ b ∈ ex, b ∈ ex') : Un fs' ex' H H1 h h1 :=
  ⟨fun b ob q n hb he => u.keep b ob q n (fun z => hb (hs b z)) fun z => he (hx b z), fun _ _ q n _ he => u.any q n fun z => he (hx _ z), fun b ob q n he => u.free b ob q n fun z => he (hx b z), fun b ob q he => u.there b ob q fun z => he (hx b z), u.tups, u.frzs, u.tbls⟩
end
def trk (h : Heap) (H : Hp) : List Addr := (List.range h.objs.size).filter fun a => (H a).isSome
def hidT (h : Heap) (H : Hp) : Heap := PySem.W.hideAll h (trk h H)
theorem hidT_size (h : Heap) (H : Hp) : (hidT h H).objs.size = h.objs.size := PySem.W.hideAll_size _ _
theorem hidT_get {h : Heap} {H : Hp} {b : Addr} {o : Obj} (e : h.get? b = some o) (n : H b = none) : (hidT h H).get? b = some o :=
  PySem.W.hideAll_get _ e fun hm => by
    have q : (H b).isSome = true := (List.mem_filter.mp hm).2
    rw [n] at q; simp at q
theorem of_hidT {h : Heap} {H : Hp} {b : Addr} {o : Obj} (e : (hidT h H).get? b = some o) : h.get? b = some o ∧ H b = none := by
  have e' : h.get? b = some o := PySem.W.of_hideAll (trk h H) e
  refine ⟨e', ?_⟩
  cases q : H b with
  | none => rfl
  | some x =>
    have hm : b ∈ trk h H := List.mem_filter.mpr ⟨List.mem_range.mpr (Heap.lt_size e'), by simp [q]⟩
    have z : (hidT h H).get? b = none := PySem.W.hideAll_none (trk h H) hm
    rw [z] at e; cases e
def allNews (g h : Heap) (L : Addr) : List (Addr × Obj) := (List.range h.objs.size).filterMap fun a => if a = L ∨ (g.get? a).isSome = true then none else (h.get? a).map fun o => (a, o)
def rest (g h : Heap) (L d : Addr) : List (Addr × Obj) := (allNews g h L).filter fun p => decide (p.1 ≠ d)
end L2
namespace L2
open PySem PySem.Spec PyProof.Rows
structure Mod (K : PySem.W.Frag) (mg : Str → Option Value) (base : Heap) : Prop where
  kin : K.In base
  glob : base.Ns mainGlobals mg
  blt : ∃ mb, base.Ns builtinsNs mb ∧ ∀ x : Str, x ≠ "__name__" → mb x = bootBuiltins x
  nolimit : base.NoLimit
structure Cx where
  prog : Program
  w : World
  K : PySem.W.Frag
  mg : Str → Option Value
  base : Heap
  A : Around
  N : List Str
  s₀ : Shared
  H₀ : Hp
  env : Env
  outer : List Env
  stack : List Env
  ex : List Addr
  fn : Str → Bool
  calm : Bool
  pn : List (Addr × Obj)
  xe : Value → Shared → Prop
def frs (l : List Env) : List Addr := l.filterMap (·.frame)
abbrev Cx.fs (X : Cx) : List Addr := frs X.outer
def Vis (sc : Scope) (x : Str) : Prop := sc.names.lookup x = some .local ∨ sc.names.lookup x = some .cell ∨ sc.names.lookup x = some .free
def Loc (sc : Scope) (x : Str) : Prop := sc.names.lookup x = some .local ∨ sc.names.lookup x = some .cell
def Look (env : Env) (h : Heap) (m : Str → Option Value) (x : Str) (u : Value) : Prop :=
  (env.kindOf x = some .local ∧ m x = some u) ∨ ((env.kindOf x = some .cell ∨ env.kindOf x = some .free) ∧ ∃ c, env.cells.lookup x = some c ∧ h.IsCell c (some u))
structure Cx.Ok (X : Cx) : Prop where
  mod : Mod X.K X.mg X.base
  kind : X.env.scope.kind = .function
  glob : X.env.globals = mainGlobals
  blt : X.env.builtins = builtinsNs
  above : X.s₀.heap.objs.size ≤ X.env.locals
  inj : ∀ x y c, X.env.cells.lookup x = some c → X.env.cells.lookup y = some c → x = y
  has : ∀ x, (X.env.kindOf x = some .cell ∨ X.env.kindOf x = some .free) → ∃ c, X.env.cells.lookup x = some c
  cab : ∀ x c, X.fn x = true → X.env.cells.lookup x = some c → X.s₀.heap.objs.size ≤ c
  hd : X.calm = true → X.A.handled = none
  frames : X.A.frames = some X.stack
  stk : X.stack = X.outer ∨ (X.stack = X.env :: X.outer ∧ X.env.frame = some X.env.locals)
  exf : ∀ b ∈ X.ex, b ≠ X.env.locals ∧ ∀ x c, X.env.cells.lookup x = some c → c ≠ b
  bs : ∀ b o, X.base.get? b = some o → X.s₀.heap.get? b = some o ∧ X.H₀ b = none
  bsz : X.base.objs.size ≤ X.s₀.heap.objs.size
  noex : ∀ b o, X.base.get? b = some o → b ∉ X.ex
  exfs : ∀ b ∈ X.ex, b ∉ X.fs
  funs : X.s₀.heap.FunFrames X.base X.outer
  frf : ∀ b ∈ X.fs, X.H₀ b = none
structure Inv (X : Cx) (pins : List (Addr × Obj)) (σ : List (Option V)) (H : Hp) (s : Shared) : Prop where
  ok : X.Ok
  os : s.os = X.s₀.os
  bare : AllBare s.gens
  base : Un X.fs X.ex X.H₀ H X.s₀.heap s.heap
  loc : ∃ m, s.heap.Ns X.env.locals m ∧ ∀ (i : Nat) (x : Str) (v : V), X.N[i]? = some x → σ[i]? = some (some v) → Vis X.env.scope x → ∃ u, RelV v u ∧ Look X.env s.heap m x u
  cell : ∀ x c, X.env.cells.lookup x = some c → ∃ v, s.heap.IsCell c v
  free : H X.env.locals = none
  freeC : ∀ x c, X.env.cells.lookup x = some c → H c = none
  pin : ∀ p ∈ X.pn ++ pins, s.heap.get? p.1 = some p.2 ∧ H p.1 = none ∧ p.1 ≠ X.env.locals ∧ p.1 ∉ X.fs ∧ ∀ v, p.2.data ≠ .cell v
  hok : HOk X.prog X.w H s.heap
  len : σ.length = X.N.length
section
variable {X : Cx} {pins : List (Addr × Obj)} {σ : List (Option V)} {H H' : Hp} {s : Shared} {h' : Heap}
theorem Cx.Ok.nofr (ok : X.Ok) {b : Addr} {o : Obj} (e : X.base.get? b = some o) : b ∉ X.fs := fun hb => by
  have := (ok.funs.mem hb).1
  rw [e] at this; cases this
theorem Inv.bs (I : Inv X pins σ H s) : ∀ b o, X.base.get? b = some o → s.heap.get? b = some o ∧ H b = none := fun b o e =>
  ⟨I.base.keep b o (I.ok.bs b o e).1 (I.ok.bs b o e).2 (I.ok.nofr e) (I.ok.noex b o e), I.base.free b o (I.ok.bs b o e).1 (I.ok.bs b o e).2 (I.ok.noex b o e)⟩
theorem Inv.bk (I : Inv X pins σ H s) : ∀ b o, X.base.get? b = some o → s.heap.get? b = some o := fun b o e => (I.bs b o e).1
theorem Inv.mod (I : Inv X pins σ H s) : Mod X.K X.mg X.base := I.ok.mod
theorem Inv.kIn (I : Inv X pins σ H s) : X.K.In s.heap := I.ok.mod.kin.keeps I.bk
theorem Inv.nolimit (I : Inv X pins σ H s) : s.heap.NoLimit := I.ok.mod.nolimit.keeps I.bk
theorem Inv.fr (I : Inv X pins σ H s) : ∃ m, Fr X.base X.env.locals s.heap m :=
  let ⟨m, hn, _⟩ := I.loc
  ⟨m, hn, I.bk, Nat.le_trans I.ok.bsz I.ok.above⟩
theorem Inv.lt (I : Inv X pins σ H s) : X.env.locals < s.heap.objs.size := let ⟨_, hn, _⟩ := I.loc; hn.lt
theorem Inv.sz (I : Inv X pins σ H s) : X.s₀.heap.objs.size ≤ s.heap.objs.size := Nat.le_trans I.ok.above (Nat.le_of_lt I.lt)
theorem Inv.nofs (I : Inv X pins σ H s) {a : Addr} (h : s.heap.objs.size ≤ a) : a ∉ X.fs := fun hb => by
  obtain ⟨_, o, ho, _⟩ := I.ok.funs.mem hb
  exact absurd (Nat.lt_of_lt_of_le (Heap.lt_size ho) (Nat.le_trans I.sz h)) (Nat.lt_irrefl _)
theorem Inv.cne (I : Inv X pins σ H s) : ∀ x c, X.env.cells.lookup x = some c → c ≠ X.env.locals := fun x c e z => by
  obtain ⟨v, o, ho, hd⟩ := I.cell x c e
  obtain ⟨m, ⟨o', es, ep, ho', hd', _⟩, _⟩ := I.loc
  rw [z, ho'] at ho; cases ho; rw [hd'] at hd; cases hd
theorem Inv.funs (I : Inv X pins σ H s) : s.heap.FunFrames X.base X.outer := by
  have all : ∀ (l : List Env), (∀ b ∈ frs l, b ∈ X.fs) → X.s₀.heap.FunFrames X.base l → s.heap.FunFrames X.base l := by
    intro l
    induction l with
    | nil => intro _ _; trivial
    | cons env r ih =>
      intro hs hl
      obtain ⟨hk, ⟨L, o, hf, hn, ho, hd⟩, hr⟩ := hl
      have hL : L ∈ X.fs := hs L (by unfold frs; rw [List.filterMap_cons, hf]; exact List.mem_cons_self)
      obtain ⟨sl, e⟩ := I.base.slot L o ho (I.ok.frf L hL) hL fun z => I.ok.exfs L z hL
      exact ⟨hk, ⟨L, _, hf, hn, e, hd⟩, ih (fun b hb => hs b (by unfold frs; rw [List.filterMap_cons, hf]; exact List.mem_cons_of_mem _ hb)) hr⟩
  exact all X.outer (fun _ hb => hb) I.ok.funs
theorem Inv.stack (I : Inv X pins σ H s) : s.heap.FunFrames X.base X.stack := by
  rcases I.ok.stk with e | ⟨e, hf⟩
  · rw [e]; exact I.funs
  · rw [e]
    obtain ⟨m, hn, _⟩ := I.loc
    refine .cons (by rw [I.ok.kind]; decide) hf hn ?_ I.funs
    exact Heap.get?_none_of_le (Nat.le_trans I.ok.bsz I.ok.above)
theorem Inv.stkSub (I : Inv X pins σ H s) : ∀ b ∈ frs X.stack, b ∈ X.env.locals :: X.fs := fun b hb => by
  rcases I.ok.stk with e | ⟨e, hf⟩
  · rw [e] at hb; exact List.mem_cons_of_mem _ hb
  · rw [e] at hb
    unfold frs at hb
    rw [List.filterMap_cons, hf] at hb
    exact hb
theorem Inv.stkFree (I : Inv X pins σ H s) : ∀ b ∈ frs X.stack, H b = none := fun b hb => by
  rcases List.mem_cons.mp (I.stkSub b hb) with e | hb
  · rw [e]; exact I.free
  · obtain ⟨_, o, ho, _⟩ := I.ok.funs.mem hb
    exact I.base.free b o ho (I.ok.frf b hb) fun z => I.ok.exfs b z hb
theorem Inv.step {g' : Array GenState} {t' : Nat} {d' : Drawn} {ch : List Addr} (I : Inv X pins σ H s)
    (hch : ∀ b ∈ ch, (b ∈ X.ex ∨ X.s₀.heap.objs.size ≤ b) ∧ b ≠ X.env.locals ∧ (∀ x c, X.env.cells.lookup x = some c → c ≠ b) ∧ ∀ p ∈ X.pn ++ pins, p.1 ≠ b)
    (keep : ∀ b o, b ≠ X.env.locals → b ∉ X.fs → b ∉ ch → s.heap.get? b = some o → H b = none → h'.get? b = some o)
    (slot : ∀ b o, b ≠ X.env.locals → b ∈ X.fs → b ∉ ch → s.heap.get? b = some o → H b = none → ∃ sl, h'.get? b = some { o with slots := sl }) (free : ∀ b o, b ∉ ch → s.heap.get? b = some o → H b = none → H' b = none)
    (there : ∀ b o, b ∉ ch → s.heap.get? b = some o → ∃ o', h'.get? b = some o')
    (tups : ∀ b xs, H b = some (.tup xs) → H' b = some (.tup xs)) (frzs : ∀ b o u, H b = some (.frz o u) → H' b = some (.frz o u)) (tbls : ∀ b ps, H b = some (.tbl ps) → ∃ more, H' b = some (.tbl (ps ++ more)))
    (ns : ∀ m, s.heap.Ns X.env.locals m → h'.Ns X.env.locals m) (hok : HOk X.prog X.w H' h') (hg : AllBare g') :
    Inv X pins σ H' { s with heap := h', gens := g', drawn := d', toks := t' } := by
  have neL : ∀ b o, X.s₀.heap.get? b = some o → b ≠ X.env.locals := fun b o e => Nat.ne_of_lt (Nat.lt_of_lt_of_le (Heap.lt_size e) I.ok.above)
  have neC : ∀ b o, X.s₀.heap.get? b = some o → b ∉ X.ex → b ∉ ch := fun b o e hx hb => by
    rcases (hch b hb).1 with z | z
    · exact hx z
    · exact absurd (Nat.lt_of_lt_of_le (Heap.lt_size e) z) (Nat.lt_irrefl _)
  have cellK : ∀ x c, X.env.cells.lookup x = some c → ∀ v, s.heap.IsCell c v → h'.IsCell c v := fun x c e v ⟨o, ho, hd⟩ => by
    have nch : c ∉ ch := fun z => (hch c z).2.2.1 x c e rfl
    by_cases hc : c ∈ X.fs
    · obtain ⟨sl, q⟩ := slot c o (I.cne x c e) hc nch ho (I.freeC x c e)
      exact ⟨_, q, hd⟩
    · exact ⟨o, keep c o (I.cne x c e) hc nch ho (I.freeC x c e), hd⟩
  refine ⟨I.ok, I.os, hg, ⟨fun b o e n hb hx => ?_, fun b o e n hb hx => ?_, fun b o e n hx => ?_, fun b o e hx => ?_, fun b xs e => tups b xs (I.base.tups b xs e), fun b o xs e => frzs b o xs (I.base.frzs b o xs e), fun b ps e => ?_⟩, ?_, fun x c e => ?_, ?_, fun x c e => ?_, fun p hp => ?_, hok, I.len⟩
  · exact keep b o (neL b o e) hb (neC b o e hx) (I.base.keep b o e n hb hx) (I.base.free b o e n hx)
  · obtain ⟨sl, e1⟩ := I.base.slot b o e n hb hx
    obtain ⟨sl', e2⟩ := slot b _ (neL b o e) hb (neC b o e hx) e1 (I.base.free b o e n hx)
    exact ⟨sl', e2⟩
  · obtain ⟨o', e1⟩ := I.base.there b o e hx
    exact free b o' (neC b o e hx) e1 (I.base.free b o e n hx)
  · obtain ⟨o', e1⟩ := I.base.there b o e hx
    exact there b o' (neC b o e hx) e1
  · obtain ⟨m1, e1⟩ := I.base.tbls b ps e
    obtain ⟨m2, e2⟩ := tbls b _ e1
    exact ⟨m1 ++ m2, by rw [e2, Array.append_assoc]⟩
  · obtain ⟨m, hn, hl⟩ := I.loc
    refine ⟨m, ns m hn, fun i x v e1 e2 e3 => ?_⟩
    obtain ⟨u, r, l⟩ := hl i x v e1 e2 e3
    refine ⟨u, r, ?_⟩
    rcases l with l | ⟨k, c, e, z⟩
    · exact .inl l
    · exact .inr ⟨k, c, e, cellK x c e _ z⟩
  · obtain ⟨v, z⟩ := I.cell x c e
    exact ⟨v, cellK x c e v z⟩
  · obtain ⟨m, ⟨o, _, _, ho, _⟩, _⟩ := I.loc
    exact free _ o (fun z => (hch _ z).2.1 rfl) ho I.free
  · obtain ⟨v, o, ho, hd⟩ := I.cell x c e
    exact free c o (fun z => (hch c z).2.2.1 x c e rfl) ho (I.freeC x c e)
  · obtain ⟨e, n, ne, nf, d⟩ := I.pin p hp
    have nch : p.1 ∉ ch := fun z => (hch p.1 z).2.2.2 p hp rfl
    exact ⟨keep p.1 p.2 ne nf nch e n, free p.1 p.2 nch e n, ne, nf, d⟩
theorem Inv.un {t' : Nat} (I : Inv X pins σ H s) (u : Un X.fs [] H H' s.heap h') (hok : HOk X.prog X.w H' h') : Inv X pins σ H' { s with heap := h', toks := t' } := by
  obtain ⟨m, ⟨o, es, ep, ho, r⟩, _⟩ := id I.loc
  obtain ⟨sl, hL⟩ := u.any ho I.free (by simp)
  exact I.step (g' := s.gens) (d' := s.drawn) (ch := []) (fun _ z => nomatch z) (fun b o _ hb _ e n => u.keep b o e n hb (by simp)) (fun b o _ hb _ e n => u.slot b o e n hb (by simp)) (fun b o _ e n => u.free b o e n (by simp)) (fun b o _ e => u.there b o e (by simp)) u.tups u.frzs u.tbls (fun m' hm => by
    obtain ⟨o', es', ep', ho', r'⟩ := hm
    rw [ho] at ho'; cases ho'
    exact ⟨_, es', ep', hL, r'⟩) hok I.bare
theorem Inv.call {g' : Array GenState} {t' : Nat} {d' : Drawn} {ch : List Addr} (I : Inv X pins σ H s) (u : Un (frs X.stack) ch H H' s.heap h') (hok : HOk X.prog X.w H' h') (hg : AllBare g')
    (hch : ∀ b ∈ ch, (b ∈ X.ex ∨ X.s₀.heap.objs.size ≤ b) ∧ b ≠ X.env.locals ∧ (∀ x c, X.env.cells.lookup x = some c → c ≠ b) ∧ ∀ p ∈ X.pn ++ pins, p.1 ≠ b) :
    Inv X pins σ H' { s with heap := h', gens := g', drawn := d', toks := t' } := by
  obtain ⟨m, ⟨o, es, ep, ho, r⟩, _⟩ := id I.loc
  obtain ⟨sl, hL⟩ := u.any ho I.free fun z => (hch _ z).2.1 rfl
  exact I.step (ch := ch) hch (fun b o hL hb hc e n => u.keep b o e n (fun z => (List.mem_cons.mp (I.stkSub b z)).elim hL hb) hc) (fun b o _ _ hc e n => u.any e n hc) (fun b o hc e n => u.free b o e n hc) (fun b o hc e => u.there b o e hc) u.tups u.frzs u.tbls (fun m' hm => by
    obtain ⟨o', es', ep', ho', r'⟩ := hm
    rw [ho] at ho'; cases ho'
    exact ⟨_, es', ep', hL, r'⟩) hok hg
theorem Inv.turned {t' : Nat} {it : Addr} (I : Inv X pins σ H s) (k : ∀ b o, b ≠ it → s.heap.get? b = some o → h'.get? b = some o) (hn : H it = none) (hL : it ≠ X.env.locals)
    (h1 : it ∈ X.ex ∨ X.s₀.heap.objs.size ≤ it) (h2 : ∀ x c, X.env.cells.lookup x = some c → c ≠ it) (h3 : ∀ p ∈ X.pn ++ pins, p.1 ≠ it) : Inv X pins σ H { s with heap := h', toks := t' } := by
  have nit : ∀ b u, H b = some u → b ≠ it := fun b u e z => by rw [z, hn] at e; cases e
  refine I.step (g' := s.gens) (d' := s.drawn) (ch := [it]) (fun b hb => ?_) (fun b o _ _ hc e _ => k b o (fun z => hc (by simp [z])) e) (fun b o _ _ hc e _ => ⟨o.slots, k b o (fun z => hc (by simp [z])) e⟩) (fun _ _ _ _ n => n)
    (fun b o hc e => ⟨o, k b o (fun z => hc (by simp [z])) e⟩) (fun _ _ e => e) (fun _ _ _ e => e) (fun b ps e => ⟨#[], by rw [e]; simp⟩) (fun m hm => ?_) (fun b u e => ?_) I.bare
  · have e : b = it := by simpa using hb
    subst e
    exact ⟨h1, hL, h2, h3⟩
  · obtain ⟨o, es, ep, ho, r⟩ := hm
    exact ⟨o, es, ep, k _ o (Ne.symm hL) ho, r⟩
  · refine (I.hok b u e).stay (fun c v hc q => k c v ?_ q) (fun _ q => q) fun _ _ q => q
    rcases hc with z | z
    · rw [z]; exact nit b u e
    · exact nit c _ z
theorem Inv.tok (I : Inv X pins σ H s) (t : Nat) : Inv X pins σ H { s with toks := t } := I.un (h' := s.heap) (t' := t) Un.refl I.hok
theorem Inv.kept {t' : Nat} (I : Inv X pins σ H s) (k : ∀ b u, s.heap.get? b = some u → h'.get? b = some u) : Inv X pins σ H { s with heap := h', toks := t' } := I.un (Un.kept k) (I.hok.kept k)
theorem Inv.laid {a : Addr} {o : HO} {t' : Nat} (I : Inv X pins σ H s) (k : ∀ b u, s.heap.get? b = some u → h'.get? b = some u) (hp : s.heap.objs.size ≤ a) (new : ObjOk X.prog X.w (upd H a o) h' a o) :
    Inv X pins σ (upd H a o) { s with heap := h', toks := t' } := I.un (Un.laid k hp (I.hok.fresh hp)) (I.hok.laid k hp new)
theorem Inv.write {x e : Addr} {o : HO} {t' : Nat} (I : Inv X pins σ H s) (mu : Mut (H x)) (he : e = x ∨ H e = some (.own x)) (k : ∀ b u, b ≠ e → s.heap.get? b = some u → h'.get? b = some u) (heo : ∃ u, h'.get? e = some u)
    (new : ObjOk X.prog X.w (upd H x o) h' x o) : Inv X pins σ (upd H x o) { s with heap := h', toks := t' } := I.un (Un.write mu he k heo) (I.hok.write mu he k heo new)
theorem Inv.pins_of {pins' : List (Addr × Obj)} (I : Inv X pins σ H s) (h : ∀ p ∈ pins', s.heap.get? p.1 = some p.2 ∧ H p.1 = none ∧ p.1 ≠ X.env.locals ∧ p.1 ∉ X.fs ∧ ∀ v, p.2.data ≠ .cell v) : Inv X pins' σ H s :=
  ⟨I.ok, I.os, I.bare, I.base, I.loc, I.cell, I.free, I.freeC, fun p hp => (List.mem_append.mp hp).elim (fun z => I.pin p (List.mem_append_left _ z)) (h p), I.hok, I.len⟩
theorem nodup_ix {N : List Str} (hN : N.Nodup) {i j : Nat} {x : Str} (a : N[i]? = some x) (b : N[j]? = some x) : i = j := by
  obtain ⟨h1, e1⟩ := List.getElem?_eq_some_iff.mp a
  obtain ⟨h2, e2⟩ := List.getElem?_eq_some_iff.mp b
  exact (List.getElem_inj hN).mp (e1.trans e2.symm)
theorem store_ok2 {M : Model} {A : Around} {E : Value → Shared → Prop} {i : Nat} {x : Str} {v : V} {u : Value} {Q : Unit → Shared → Prop} (I : Inv X pins σ H s) (hN : X.N.Nodup) (hi : X.N[i]? = some x) (hx : Loc X.env.scope x) (r : RelV v u)
    (h : ∀ s', Inv X pins (σ.set i (some v)) H s' → (∃ a, Heap.SameBut a s.heap s'.heap ∧ (a = X.env.locals ∨ X.env.cells.lookup x = some a)) → Q () s') (hf : X.fn x = true ∨ X.env.scope.names.lookup x = some .local := by first | exact .inl rfl | exact .inr rfl | assumption) : wpAny M A (storeName X.env x u) Q E s := by
  obtain ⟨m, hn, hl⟩ := id I.loc
  have hcls : (X.env.scope.kind == .class || (X.env.scope.kind == .module && X.env.locals != X.env.globals)) = false := by rw [I.ok.kind]; rfl
  have hiσ : i < σ.length := by rw [I.len]; exact (List.getElem?_eq_some_iff.mp hi).1
  have cne := I.cne
  have tracked : ∀ {a : Addr} {h' : Heap}, (∃ o, s.heap.get? a = some o ∧ H a = none) → Heap.SameBut a s.heap h' → HOk X.prog X.w H h' := fun {a h'} ha hs b ob e => by
    obtain ⟨_, _, hfree⟩ := ha
    refine (I.hok b ob e).stay (fun c w' hc q => (hs.2 c ?_).trans q) (fun _ q => q) fun _ _ q => q
    rintro rfl
    rcases hc with rfl | hc
    · rw [hfree] at e; cases e
    · rw [hfree] at hc; cases hc
  rcases hx with hk | hk
  · refine wpAny_storeName_local hk hn (fun h' hn' hs => ?_) hcls
    obtain ⟨oL, _, _, hoL, _⟩ := id hn
    refine h _ ⟨I.ok, I.os, I.bare, ⟨fun b o e n hb hx => ?_, fun b o e n hb hx => ?_, I.base.free, fun b o e hx => ?_, I.base.tups, I.base.frzs, I.base.tbls⟩, ⟨_, hn', fun j y v' e1 e2 e3 => ?_⟩, fun y c e => ?_, I.free, I.freeC, fun p hp => ?_, tracked ⟨oL, hoL, I.free⟩ hs, by simpa using I.len⟩ ⟨_, hs, .inl rfl⟩
    · exact (hs.2 b (Nat.ne_of_lt (Nat.lt_of_lt_of_le (Heap.lt_size e) I.ok.above))).trans (I.base.keep b o e n hb hx)
    · obtain ⟨sl, e1⟩ := I.base.slot b o e n hb hx
      exact ⟨sl, (hs.2 b (Nat.ne_of_lt (Nat.lt_of_lt_of_le (Heap.lt_size e) I.ok.above))).trans e1⟩
    · obtain ⟨o', e1⟩ := I.base.there b o e hx
      exact ⟨o', (hs.2 b (Nat.ne_of_lt (Nat.lt_of_lt_of_le (Heap.lt_size e) I.ok.above))).trans e1⟩
    · by_cases hj : j = i
      · subst hj
        rw [hi] at e1; cases e1
        rw [List.getElem?_set_self hiσ] at e2
        cases e2
        exact ⟨u, r, .inl ⟨hk, by simp⟩⟩
      · rw [List.getElem?_set_ne (Ne.symm hj)] at e2
        obtain ⟨u', r', q⟩ := hl j y v' e1 e2 e3
        refine ⟨u', r', ?_⟩
        rcases q with ⟨k, e⟩ | ⟨k, c, e, z⟩
        · refine .inl ⟨k, ?_⟩
          have : y ≠ x := fun e => hj (nodup_ix hN e1 (e ▸ hi))
          simp [this, e]
        · exact .inr ⟨k, c, e, z.sameBut hs (cne y c e)⟩
    · obtain ⟨w', z⟩ := I.cell y c e
      exact ⟨w', z.sameBut hs (cne y c e)⟩
    · obtain ⟨e, n, ne, nf, d⟩ := I.pin p hp
      exact ⟨(hs.2 p.1 ne).trans e, n, ne, nf, d⟩
  · have hfn : X.fn x = true := by
      rcases hf with z | z
      · exact z
      · rw [z] at hk; cases hk
    obtain ⟨c, hc⟩ := I.ok.has x (.inl hk)
    obtain ⟨w', z⟩ := I.cell x c hc
    refine wpAny_storeName_cell I.ok.kind hk hc z (fun h' hc' hs => ?_)
    obtain ⟨oc, hoc, hocd⟩ := id z
    refine h { s with heap := h' } ⟨I.ok, I.os, I.bare, ⟨fun b o e n hb hx => ?_, fun b o e n hb hx => ?_, I.base.free, fun b o e hx => ?_, I.base.tups, I.base.frzs, I.base.tbls⟩, ⟨m, hn.sameBut hs (Ne.symm (cne x c hc)), fun j y v' e1 e2 e3 => ?_⟩, fun y c' e => ?_, I.free, I.freeC, fun p hp => ?_, tracked ⟨oc, hoc, I.freeC x c hc⟩ hs, by simpa using I.len⟩ ⟨c, hs, .inr hc⟩
    · exact (hs.2 b (Nat.ne_of_lt (Nat.lt_of_lt_of_le (Heap.lt_size e) (I.ok.cab x c hfn hc)))).trans (I.base.keep b o e n hb hx)
    · obtain ⟨sl, e1⟩ := I.base.slot b o e n hb hx
      exact ⟨sl, (hs.2 b (Nat.ne_of_lt (Nat.lt_of_lt_of_le (Heap.lt_size e) (I.ok.cab x c hfn hc)))).trans e1⟩
    · obtain ⟨o', e1⟩ := I.base.there b o e hx
      exact ⟨o', (hs.2 b (Nat.ne_of_lt (Nat.lt_of_lt_of_le (Heap.lt_size e) (I.ok.cab x c hfn hc)))).trans e1⟩
    · by_cases hj : j = i
      · subst hj
        rw [hi] at e1; cases e1
        rw [List.getElem?_set_self hiσ] at e2
        cases e2
        exact ⟨u, r, .inr ⟨.inl hk, c, hc, hc'⟩⟩
      · rw [List.getElem?_set_ne (Ne.symm hj)] at e2
        obtain ⟨u', r', q⟩ := hl j y v' e1 e2 e3
        refine ⟨u', r', ?_⟩
        rcases q with q | ⟨k, c', e, z'⟩
        · exact .inl q
        · refine .inr ⟨k, c', e, z'.sameBut hs ?_⟩
          rintro rfl
          exact hj (nodup_ix hN e1 (I.ok.inj _ _ _ e hc ▸ hi))
    · by_cases hcc : c' = c
      · subst hcc; exact ⟨_, hc'⟩
      · obtain ⟨w2, z2⟩ := I.cell y c' e
        exact ⟨w2, z2.sameBut hs hcc⟩
    · obtain ⟨e, n, ne, nf, d⟩ := I.pin p hp
      refine ⟨(hs.2 p.1 ?_).trans e, n, ne, nf, d⟩
      intro q
      rw [q, hoc] at e
      have q' : oc = p.2 := Option.some.inj e
      exact d w' (by rw [← q']; exact hocd)
theorem store_ok {M : Model} {A : Around} {E : Value → Shared → Prop} {i : Nat} {x : Str} {v : V} {u : Value} {Q : Unit → Shared → Prop} (I : Inv X pins σ H s) (hN : X.N.Nodup) (hi : X.N[i]? = some x) (hx : Loc X.env.scope x) (r : RelV v u)
    (h : ∀ s', Inv X pins (σ.set i (some v)) H s' → Q () s') (hf : X.fn x = true ∨ X.env.scope.names.lookup x = some .local := by first | exact .inl rfl | exact .inr rfl | assumption) : wpAny M A (storeName X.env x u) Q E s :=
  store_ok2 I hN hi hx r (fun s' I' _ => h s' I') hf
theorem Inv.call' {s' : Shared} {ch : List Addr} (I : Inv X pins σ H s) (ho : s'.os = s.os) (u : Un (frs X.stack) ch H H' s.heap s'.heap) (hok : HOk X.prog X.w H' s'.heap) (hg : AllBare s'.gens)
    (hch : ∀ b ∈ ch, (b ∈ X.ex ∨ X.s₀.heap.objs.size ≤ b) ∧ b ≠ X.env.locals ∧ (∀ x c, X.env.cells.lookup x = some c → c ≠ b) ∧ ∀ p ∈ X.pn ++ pins, p.1 ≠ b) : Inv X pins σ H' s' := by
  obtain ⟨h', g', d', t', o'⟩ := s'
  have e : o' = s.os := ho
  subst e
  exact I.call (g' := g') (t' := t') (d' := d') u hok hg hch
end
abbrev XK := Value → Option Addr → Hp → Prop
abbrev St := List (Option V)
abbrev VK := V → Hp → Prop
abbrev TE := St → Hp → VK → Prop
abbrev TT := St → Hp → (Bool → Hp → Prop) → Prop
abbrev TA := St → Hp → (List V → Hp → Prop) → Prop
structure Ends where
  nx : St → Hp → Prop
  rt : VK
  bk : St → Hp → Prop := fun _ _ => False
  ct : St → Hp → Prop := fun _ _ => False
abbrev TS := Ends → St → Hp → Prop
def EP (X : Cx) (pins : List (Addr × Obj)) (σ : St) (Q : VK) (u : Value) (s' : Shared) : Prop := ∃ v H', Inv X pins σ H' s' ∧ RelV v u ∧ Q v H'
def TP (X : Cx) (pins : List (Addr × Obj)) (σ : St) (Q : Bool → Hp → Prop) (b : Bool) (s' : Shared) : Prop := ∃ H', Inv X pins σ H' s' ∧ Q b H'
def AP (X : Cx) (pins : List (Addr × Obj)) (σ : St) (Q : List V → Hp → Prop) (us : List Value) (s' : Shared) : Prop := ∃ vs H', Inv X pins σ H' s' ∧ Vals vs us ∧ Q vs H'
def SP (X : Cx) (pins : List (Addr × Obj)) (D : Ends) (f : Flow) (s' : Shared) : Prop :=
  match f with
  | .next => ∃ σ' H', Inv X pins σ' H' s' ∧ D.nx σ' H'
  | .brk => ∃ σ' H', Inv X pins σ' H' s' ∧ D.bk σ' H'
  | .cont => ∃ σ' H', Inv X pins σ' H' s' ∧ D.ct σ' H'
  | .ret u => ∃ v σ' H', Inv X pins σ' H' s' ∧ RelV v u ∧ D.rt v H'
def PE (X : Cx) (e : Expr) (t : TE) : Prop :=
  ∀ (pins : List (Addr × Obj)) (s : Shared) (σ : St) (H : Hp) (Q : VK), Inv X pins σ H s → t σ H Q → wpAny (model X.prog X.w) X.A (eval e X.env) (EP X pins σ Q) X.xe s
def PT (X : Cx) (e : Expr) (t : TT) : Prop :=
  ∀ (pins : List (Addr × Obj)) (s : Shared) (σ : St) (H : Hp) (Q : Bool → Hp → Prop), Inv X pins σ H s → t σ H Q → wpAny (model X.prog X.w) X.A (isTrue e X.env (eval e X.env)) (TP X pins σ Q) X.xe s
def PW (X : Cx) (e : Expr) (t : TT) : Prop :=
  ∀ (whole : Sem Value) (pins : List (Addr × Obj)) (s : Shared) (σ : St) (H : Hp) (Q : Bool → Hp → Prop), Inv X pins σ H s → t σ H Q → wpAny (model X.prog X.w) X.A (isTrue e X.env whole) (TP X pins σ Q) X.xe s
theorem PW.pt {X : Cx} {e : Expr} {t : TT} (h : PW X e t) : PT X e t := h _
def PA (X : Cx) (es : List Expr) (t : TA) : Prop :=
  ∀ (pos : Pos) (pins : List (Addr × Obj)) (s : Shared) (σ : St) (H : Hp) (Q : List V → Hp → Prop), Inv X pins σ H s → t σ H Q → wpAny (model X.prog X.w) X.A (spliced (backTo pos (starEach es X.env))) (AP X pins σ Q) X.xe s
def PS (X : Cx) (st : Stmt) (t : TS) : Prop :=
  ∀ (pins : List (Addr × Obj)) (s : Shared) (σ : St) (H : Hp) (D : Ends), Inv X pins σ H s → t D σ H → wpAny (model X.prog X.w) X.A (exec st X.env) (SP X pins D) X.xe s
def PSs (X : Cx) (st : List Stmt) (t : TS) : Prop :=
  ∀ (pins : List (Addr × Obj)) (s : Shared) (σ : St) (H : Hp) (D : Ends), Inv X pins σ H s → t D σ H → wpAny (model X.prog X.w) X.A (execs st X.env) (SP X pins D) X.xe s
theorem thn {α : Type} {t : Sem α} {Q Q' : α → Shared → Prop} {M : Model} {A : Around} {E : Value → Shared → Prop} {s : Shared} (h : wpAny M A t Q E s) (hQ : ∀ a s, Q a s → Q' a s) : wpAny M A t Q' E s := wpAny_mono h hQ fun _ _ x => x
end L2
namespace L2
open PySem PySem.Spec PyProof.Rows
section
variable {X : Cx}
def tVar (i : Nat) : TE := fun σ H Q => ∃ v, σ[i]? = some (some v) ∧ Q v H
def tC (v : V) : TE := fun _ H Q => Q v H
theorem pe_var {i : Nat} {x : Str} {pos : Pos} (hN : X.N[i]? = some x) (hv : Vis X.env.scope x) (hd : (x == ("__debug__" : Str)) = false := by decide) (hcd : (x == ("__classdict__" : Str)) = false := by decide) : PE X (.Name x pos) (tVar i) := by
  intro pins s σ H Q I h
  obtain ⟨v, e, h⟩ := h
  obtain ⟨m, hn, hl⟩ := I.loc
  obtain ⟨u, r, l⟩ := hl i x v hN e hv
  have fin : EP X pins σ Q u s := ⟨v, H, I, r, h⟩
  rcases l with ⟨hk, hm⟩ | ⟨hk, c, hc, hcell⟩
  · exact wpAny_Name (wpAny_loadName_local I.ok.kind hk hn hm fin) hd
  · rcases hk with hk | hk
    · exact wpAny_Name (wpAny_loadName_cell I.ok.kind hk hc hcell fin) hd
    · exact wpAny_Name (wpAny_loadName_free I.ok.kind hk hc hcell fin hcd) hd
theorem pe_int {i j pos} : PE X (.Constant (.int i) j pos) (tC (.int i)) := fun _ _ _ H _ I h => wpAny_Constant_int ⟨.int i, H, I.tok _, ⟨_, rfl⟩, h⟩
theorem pe_bl {b j pos} : PE X (.Constant (.bool b) j pos) (tC (.bl b)) := fun _ _ _ H _ I h => Constant_bool ⟨.bl b, H, I, rfl, h⟩
theorem pe_non {j pos} : PE X (.Constant .none j pos) (tC .non) := fun _ _ _ H _ I h => Constant_none ⟨.non, H, I, rfl, h⟩
theorem pe_str {x j pos} : PE X (.Constant (.str x) j pos) (tC (.str x)) := fun _ _ _ H _ I h => Calls.Constant_str ⟨.str x, H, I.tok _, ⟨_, rfl⟩, h⟩
def Gl (X : Cx) (x : Str) : Prop := X.env.kindOf x = some .globalImplicit
theorem ld_glob {E : Value → Shared → Prop} {pins : List (Addr × Obj)} {s : Shared} {σ : St} {H : Hp} {x : Str} {u : Value} {pos : Pos} {Q : Value → Shared → Prop} (I : Inv X pins σ H s) (hg : Gl X x) (hm : X.mg x = some u) (h : Q u s)
    (hd : (x == ("__debug__" : Str)) = false := by decide) : wpAny (model X.prog X.w) X.A (eval (.Name x pos) X.env) Q E s :=
  Calls.Name_function_global I.ok.kind hg (Calls.loadGlobal_global (by rw [I.ok.glob]; exact I.mod.glob.keeps I.bk) hm h) hd
theorem ld_blt {E : Value → Shared → Prop} {pins : List (Addr × Obj)} {s : Shared} {σ : St} {H : Hp} {x : Str} {u : Value} {pos : Pos} {Q : Value → Shared → Prop} (I : Inv X pins σ H s) (hg : Gl X x) (hm : X.mg x = none) (hv : bootBuiltins x = some u) (h : Q u s)
    (hn : x ≠ "__name__" := by decide) (hd : (x == ("__debug__" : Str)) = false := by decide) : wpAny (model X.prog X.w) X.A (eval (.Name x pos) X.env) Q E s := by
  obtain ⟨mb, h1, h2⟩ := I.mod.blt
  exact Calls.Name_function_global I.ok.kind hg (Calls.loadGlobal_builtin (by rw [I.ok.glob]; exact I.mod.glob.keeps I.bk) hm (by rw [I.ok.blt]; exact h1.keeps I.bk) ((h2 x hn).trans hv) h) hd
theorem pe_glob {x : Str} {v : V} {u : Value} {pos : Pos} (hg : Gl X x) (hm : X.mg x = some u) (r : RelV v u) (hd : (x == ("__debug__" : Str)) = false := by decide) : PE X (.Name x pos) (tC v) :=
  fun _ _ _ H _ I h => ld_glob I hg hm ⟨v, H, I, r, h⟩ hd
theorem pe_bltn {x : Str} {v : V} {u : Value} {pos : Pos} (hg : Gl X x) (hm : X.mg x = none) (hv : bootBuiltins x = some u) (r : RelV v u) (hn : x ≠ "__name__" := by decide) (hd : (x == ("__debug__" : Str)) = false := by decide) : PE X (.Name x pos) (tC v) :=
  fun _ _ _ H _ I h => ld_blt I hg hm hv ⟨v, H, I, r, h⟩ hn hd
variable {a b : Expr} {ta tb : TE} {pos : Pos}
def PC (X : Cx) (op : CmpOp) (a b : Expr) (t : TE) : Prop :=
  ∀ (pins : List (Addr × Obj)) (s : Shared) (σ : St) (H : Hp) (Q : VK), Inv X pins σ H s → t σ H Q →
    wpAny (model X.prog X.w) X.A (eval a X.env) (fun v s₁ => wpAny (model X.prog X.w) X.A (eval b X.env) (fun u s₂ => wpAny (model X.prog X.w) X.A (compareOp op v u) (EP X pins σ Q) X.xe s₂) X.xe s₁) X.xe s
theorem nobehind (b : Expr) {op : CmpOp} (h : op ≠ .In) (h2 : op ≠ .NotIn) : behindInMarks op b = false := by
  have e1 : (op == CmpOp.In) = false := by cases op <;> first | rfl | exact absurd rfl h
  have e2 : (op == CmpOp.NotIn) = false := by cases op <;> first | rfl | exact absurd rfl h2
  cases b <;> simp [behindInMarks, e1, e2]
variable {tA tB' : TT} {rest : List Expr}
def tNot (t : TT) : TT := fun σ H Q => t σ H fun c H1 => Q (!c) H1
theorem pw_and1 (ha : PT X a tA) : PW X (.BoolOp .And [a] pos) tA := by
  intro wh pins s σ H Q I h
  refine isTrue_and (thn (ha pins s σ H Q I h) fun c s1 e => ?_)
  cases c with
  | true => exact isTrue_and_nil e
  | false => exact e
theorem pw_or1 (ha : PT X a tA) : PW X (.BoolOp .Or [a] pos) tA := by
  intro wh pins s σ H Q I h
  refine isTrue_or (thn (ha pins s σ H Q I h) fun c s1 e => ?_)
  cases c with
  | false => exact isTrue_or_nil e
  | true => exact e
theorem pt_not (ha : PT X a tA) : PT X (.UnaryOp .Not a pos) (tNot tA) := by
  intro pins s σ H Q I h
  exact isTrue_not (ha pins s σ H (fun c H1 => Q (!c) H1) I h)
theorem pe_one {op} {t : TE} (h : PE X a t) : PE X (.BoolOp op [a] pos) t := fun pins s σ H Q I hw => BoolOp_one (h pins s σ H Q I hw)
end
end L2
namespace L2
open PySem PySem.Spec PyProof.Rows
def SqL (K : PySem.W.Frag) (H : Hp) (a : Addr) (xs : List V) : Prop :=
  Rd H a (.lst xs) ∨
    ∃ (o : Obj) (its : Array Value) (n : Nat), K.lookup a = some o ∧ o.cls = .type "list" ∧ o.dict = none ∧ o.data = .seq its n ∧ its.size ≤ sizeLine ∧ Vals xs its.toList
def SqT (K : PySem.W.Frag) (H : Hp) (a : Addr) (xs : List V) : Prop :=
  Rd H a (.tup xs) ∨
    ∃ (o : Obj) (its : Array Value) (n : Nat), K.lookup a = some o ∧ o.cls = .type "tuple" ∧ o.data = .seq its n ∧ its.size ≤ sizeLine ∧ Vals xs its.toList
def absV : Value → Option V
  | .none => some .non
  | .bool b => some (.bl b)
  | .int i _ => some (.int i)
  | .str x _ => some (.str x)
  | .bytes b _ => some (.byt b)
  | .float b _ => some (.flt b)
  | .ref a => some (.ref a)
  | .type n => some (.ty n)
  | _ => none
theorem RelV.abs {x : V} {u : Value} (r : RelV x u) : absV u = some x := by
  cases x with
  | non => cases r; rfl
  | bl _ => cases r; rfl
  | int _ => obtain ⟨t, rfl⟩ := r; rfl
  | str _ => obtain ⟨t, rfl⟩ := r; rfl
  | byt _ => obtain ⟨t, rfl⟩ := r; rfl
  | flt _ => obtain ⟨t, rfl⟩ := r; rfl
  | ref _ => cases r; rfl
  | ty _ => cases r; rfl
theorem RelV.inj {x y : V} {u : Value} (r : RelV x u) (q : RelV y u) : x = y := Option.some.inj (r.abs.symm.trans q.abs)
theorem Vals.inj : ∀ {xs ys : List V} {us : List Value}, Vals xs us → Vals ys us → xs = ys
  | _, _, _, .nil, .nil => rfl
  | _, _, _, .cons r t, .cons r' t' => by rw [r.inj r', Vals.inj t t']
section
variable {X : Cx} {pins : List (Addr × Obj)} {σ : St} {H : Hp} {s : Shared} {a : Addr} {xs ys : List V}
theorem SqL.of {K : PySem.W.Frag} (h : H a = some (.lst xs)) : SqL K H a xs := .inl (.inl h)
theorem SqT.of {K : PySem.W.Frag} (h : H a = some (.tup xs)) : SqT K H a xs := .inl (.inl h)
theorem Inv.list (I : Inv X pins σ H s) (h : SqL X.K H a xs) : ∃ its : List Value, Vals xs its ∧ PlainL s.heap a its.toArray ∧ xs.length ≤ sizeLine := by
  rcases h with h | ⟨o, its, n, hk, hc, hd, hs, hz, r⟩
  · obtain ⟨z, its, n, r, e⟩ := h.ok I.hok
    exact ⟨its, r, ⟨_, n, e, rfl, rfl, rfl⟩, z⟩
  · refine ⟨its.toList, r, ⟨o, n, I.kIn a o hk, hc, hd, by simpa using hs⟩, ?_⟩
    have e := r.length
    simp only [Array.length_toList] at e
    omega
theorem Inv.tuple (I : Inv X pins σ H s) (h : SqT X.K H a xs) : ∃ its : List Value, Vals xs its ∧ IsTup s.heap a its.toArray ∧ xs.length ≤ sizeLine := by
  rcases h with h | ⟨o, its, n, hk, hc, hs, hz, r⟩
  · obtain ⟨z, its, r, p⟩ := h.ok I.hok
    exact ⟨its, r, p, z⟩
  · refine ⟨its.toList, r, ⟨o, I.kIn a o hk, hc, n, by simpa using hs⟩, ?_⟩
    have e := r.length
    simp only [Array.length_toList] at e
    omega
theorem Inv.list_inj (I : Inv X pins σ H s) (h : SqL X.K H a xs) (h' : SqL X.K H a ys) : xs = ys := by
  obtain ⟨its, r, ⟨o, n, e, _, _, d⟩, _⟩ := I.list h
  obtain ⟨its', r', ⟨o', n', e', _, _, d'⟩, _⟩ := I.list h'
  rw [e] at e'; cases e'
  rw [d] at d'
  injection d' with d1 _
  have : its = its' := by simpa using congrArg Array.toList d1
  subst this
  exact r.inj r'
theorem Inv.tuple_inj (I : Inv X pins σ H s) (h : SqT X.K H a xs) (h' : SqT X.K H a ys) : xs = ys := by
  obtain ⟨its, r, ⟨o, e, _, n, d⟩, _⟩ := I.tuple h
  obtain ⟨its', r', ⟨o', e', _, n', d'⟩, _⟩ := I.tuple h'
  rw [e] at e'; cases e'
  rw [d] at d'
  injection d' with d1 _
  have : its = its' := by simpa using congrArg Array.toList d1
  subst this
  exact r.inj r'
end
abbrev Cx.wish (X : Cx) (E : Value → Shared → Prop) : Cx := { X with xe := E }
abbrev Cx.nox (X : Cx) : Cx := X.wish fun _ _ => False
theorem Cx.Ok.wish {X : Cx} (ok : X.Ok) (E : Value → Shared → Prop) : (X.wish E).Ok :=
  ⟨ok.mod, ok.kind, ok.glob, ok.blt, ok.above, ok.inj, ok.has, ok.cab, ok.hd, ok.frames, ok.stk, ok.exf, ok.bs, ok.bsz, ok.noex, ok.exfs, ok.funs, ok.frf⟩
theorem Cx.Ok.unwish {X : Cx} {E : Value → Shared → Prop} (ok : (X.wish E).Ok) : X.Ok :=
  ⟨ok.mod, ok.kind, ok.glob, ok.blt, ok.above, ok.inj, ok.has, ok.cab, ok.hd, ok.frames, ok.stk, ok.exf, ok.bs, ok.bsz, ok.noex, ok.exfs, ok.funs, ok.frf⟩
section
variable {X : Cx} {pins : List (Addr × Obj)} {σ : St} {H : Hp} {s : Shared} {E : Value → Shared → Prop}
theorem Inv.wish (I : Inv X pins σ H s) (E : Value → Shared → Prop) : Inv (X.wish E) pins σ H s := ⟨I.ok.wish E, I.os, I.bare, I.base, I.loc, I.cell, I.free, I.freeC, I.pin, I.hok, I.len⟩
theorem Inv.unwish (I : Inv (X.wish E) pins σ H s) : Inv X pins σ H s := ⟨I.ok.unwish, I.os, I.bare, I.base, I.loc, I.cell, I.free, I.freeC, I.pin, I.hok, I.len⟩
theorem SP.unwish {D : Ends} {f : Flow} {s' : Shared} (h : SP (X.wish E) pins D f s') : SP X pins D f s' := by
  cases f with
  | next => obtain ⟨σ', H', I, q⟩ := h; exact ⟨σ', H', I.unwish, q⟩
  | brk => obtain ⟨σ', H', I, q⟩ := h; exact ⟨σ', H', I.unwish, q⟩
  | cont => obtain ⟨σ', H', I, q⟩ := h; exact ⟨σ', H', I.unwish, q⟩
  | ret u => obtain ⟨v, σ', H', I, r, q⟩ := h; exact ⟨v, σ', H', I.unwish, r, q⟩
theorem PE.nox {e : Expr} {t : TE} (h : PE X.nox e t) : PE X e t := fun pins s σ H Q I hw =>
  wpAny_mono (h pins s σ H Q (I.wish _) hw) (fun _ _ ⟨v, H', I', r, q⟩ => ⟨v, H', I'.unwish, r, q⟩) fun _ _ z => False.elim z
theorem PT.nox {e : Expr} {t : TT} (h : PT X.nox e t) : PT X e t := fun pins s σ H Q I hw =>
  wpAny_mono (h pins s σ H Q (I.wish _) hw) (fun _ _ ⟨H', I', q⟩ => ⟨H', I'.unwish, q⟩) fun _ _ z => False.elim z
theorem PSs.nox {st : List Stmt} {t : TS} (h : PSs X.nox st t) : PSs X st t := fun pins s σ H D I hw =>
  wpAny_mono (h pins s σ H D (I.wish _) hw) (fun _ _ q => q.unwish) fun _ _ z => False.elim z
end
section
variable {X : Cx} {st : Stmt} {rest : List Stmt} {t u : TS} {e : Expr} {te : TE} {pos : Pos}
def tNext : TS := fun D σ H => D.nx σ H
def tSeq (t u : TS) : TS := fun D σ H => t { D with nx := u D } σ H
theorem pss_nil : PSs X [] tNext := fun _ _ σ H _ I h => wpAny_execs_nil ⟨σ, H, I, h⟩
theorem pss_cons (h1 : PS X st t) (h2 : PSs X rest u) : PSs X (st :: rest) (tSeq t u) := by
  intro pins s σ H D I h
  refine wpAny_execs_cons (thn (h1 pins s σ H { D with nx := u D } I h) fun f s1 q => ?_)
  cases f with
  | next =>
    obtain ⟨σ', H', I', q⟩ := q
    exact h2 pins s1 σ' H' D I' q
  | ret v => exact q
  | brk => exact q
  | cont => exact q
theorem pss_one (h1 : PS X st t) : PSs X [st] t := by
  intro pins s σ H D I h
  refine wpAny_execs_cons (thn (h1 pins s σ H D I h) fun f s1 q => ?_)
  cases f with
  | next => exact wpAny_execs_nil q
  | ret v => exact q
  | brk => exact q
  | cont => exact q
theorem Inv.quiet {pins : List (Addr × Obj)} {σ : St} {H : Hp} {s : Shared} (I : Inv X pins σ H s) : interactive X.env = false := by simp [interactive, I.ok.kind]
def tDrop (te : TE) : TS := fun D σ H => te σ H fun _ H1 => D.nx σ H1
theorem ps_expr (he : PE X e te) (hs : swapsWith e none pos.line X.env = pure false := by rfl) : PS X (.Expr e pos) (tDrop te) := by
  intro pins s σ H D I h
  exact wpAny_Expr_any (thn (he pins s σ H _ I h) fun v s1 ⟨x, H1, I1, r1, q1⟩ => ⟨σ, H1, I1, q1⟩) I.quiet hs
def tRet (te : TE) : TS := fun D σ H => te σ H D.rt
theorem ps_ret (he : PE X e te) : PS X (.Return (some e) pos) (tRet te) := by
  intro pins s σ H D I h
  exact wpAny_Return_some (thn (he pins s σ H _ I h) fun v s1 ⟨x, H1, I1, r1, q1⟩ => ⟨x, σ, H1, I1, r1, q1⟩)
def tNever : TS := fun _ _ _ => False
theorem ps_never : PS X st tNever := fun _ _ _ _ _ _ h => h.elim
end
abbrev TG := V → St → Hp → (St → Hp → Prop) → Prop
abbrev TGs := List V → St → Hp → (St → Hp → Prop) → Prop
def PG (X : Cx) (target : Expr) (t : TG) : Prop :=
  ∀ (pins : List (Addr × Obj)) (s : Shared) (σ : St) (H : Hp) (v : V) (u : Value) (Q : St → Hp → Prop), Inv X pins σ H s → RelV v u → t v σ H Q →
    wpAny (model X.prog X.w) X.A (assign target X.env u) (fun _ s' => ∃ σ' H', Inv X pins σ' H' s' ∧ Q σ' H') X.xe s
def PGs (X : Cx) (ts : List Expr) (t : TGs) : Prop :=
  ∀ (pins : List (Addr × Obj)) (s : Shared) (σ : St) (H : Hp) (vs : List V) (us : List Value) (Q : St → Hp → Prop), Inv X pins σ H s → Vals vs us → t vs σ H Q →
    wpAny (model X.prog X.w) X.A (assignInOrder ((assignEach ts X.env).map (·.2)) us) (fun _ s' => ∃ σ' H', Inv X pins σ' H' s' ∧ Q σ' H') X.xe s
abbrev TSet := V → V → V → Hp → (Hp → Prop) → Prop
def PSet (X : Cx) (t : TSet) : Prop :=
  ∀ (pins : List (Addr × Obj)) (s : Shared) (σ : St) (H : Hp) (o i v : V) (ov iv u : Value) (Q : Hp → Prop), Inv X pins σ H s → RelV o ov → RelV i iv → RelV v u → t o i v H Q →
    wpAny (model X.prog X.w) X.A (setItem ov iv u) (fun _ s' => ∃ H', Inv X pins σ H' s' ∧ Q H') X.xe s
section
variable {X : Cx} {pos : Pos}
def gName (i : Nat) : TG := fun v σ H Q => Q (σ.set i (some v)) H
theorem pg_name {i : Nat} {x : Str} (hN : X.N.Nodup) (hi : X.N[i]? = some x) (hx : Loc X.env.scope x) (hf : X.fn x = true ∨ X.env.scope.names.lookup x = some .local := by first | exact .inl rfl | exact .inr rfl | assumption) : PG X (.Name x pos) (gName i) := by
  intro pins s σ H v u Q I r h
  exact wpAny_assign_Name (store_ok I hN hi hx r (fun s' I' => ⟨_, H, I', h⟩) hf)
def gNil : TGs := fun vs σ H Q => vs = [] ∧ Q σ H
def gCons (t : TG) (u : TGs) : TGs := fun vs σ H Q => ∃ v r, vs = v :: r ∧ t v σ H fun σ' H' => u r σ' H' Q
theorem pgs_nil : PGs X [] gNil := by
  intro pins s σ H vs us Q I r h
  obtain ⟨e, h⟩ := h
  subst e
  cases r
  exact assignInOrder_nil ⟨σ, H, I, h⟩
theorem pgs_cons {e : Expr} {es : List Expr} {t : TG} {u : TGs} (h1 : PG X e t) (h2 : PGs X es u)
    (hs : (assignEach (e :: es) X.env).map (·.2) = assign e X.env :: (assignEach es X.env).map (·.2) := by rfl) : PGs X (e :: es) (gCons t u) := by
  intro pins s σ H vs us Q I r h
  obtain ⟨v, vr, e1, h⟩ := h
  subst e1
  cases r with
  | cons r rr =>
    rw [hs]
    refine assignInOrder_cons (thn (h1 pins s σ H _ _ _ I r h) fun _ s1 ⟨σ1, H1, I1, q1⟩ => ?_)
    exact h2 pins s1 σ1 H1 _ _ Q I1 rr q1
def gTup (K : PySem.W.Frag) (n : Nat) (t : TGs) : TG := fun v σ H Q => ∃ a xs, v = .ref a ∧ SqT K H a xs ∧ xs.length = n ∧ t xs σ H Q
theorem pg_tup {es : List Expr} {k : Nat} {t : TGs} {n : Nat} (hc : X.calm = true) (h : PGs X es t)
    (hn : (assignEach es X.env).length = n := by rfl) (hst : (assignEach es X.env).findIdx? (·.1) = none := by rfl) : PG X (.Tuple es k pos) (gTup X.K n t) := by
  intro pins s σ H v u Q I r hw
  obtain ⟨a, xs, e1, hq, hl, hw⟩ := hw
  subst e1
  cases r
  obtain ⟨its, rv, ht, hz⟩ := I.tuple hq
  refine assign_Tuple_tuple (I.ok.hd hc) ht (by simp [hn, ← hl, rv.length]) hst fun h' hx => ?_
  have I1 : Inv X pins σ H { s with heap := h' } := I.kept (t' := s.toks) fun b o e => hx b o (Nat.ne_of_lt (Heap.lt_size e)) e
  exact h pins _ σ H xs _ Q I1 (by simpa using rv) hw
def gSub (to ti : TE) (t : TSet) : TG := fun v σ H Q => to σ H fun o H1 => ti σ H1 fun i H2 => t o i v H2 fun H3 => Q σ H3
theorem pg_sub {o i : Expr} {to ti : TE} {t : TSet} (ho : PE X o to) (hi : PE X i ti) (hs : PSet X t)
    (ha : ∀ v, assign (.Subscript o i pos) X.env v = (do
      let ov ← holding [v] (eval o X.env)
      let iv ← holding [v, ov] (eval i X.env)
      standAt pos
      holding [v, ov, iv] (setItem ov iv v)
      release [v, ov, iv] []) := by intro _; rfl) : PG X (.Subscript o i pos) (gSub to ti t) := by
  intro pins s σ H v u Q I r h
  rw [ha]
  refine wpAny_bind (wpAny_holding (thn (ho pins s σ H _ I h) fun ov s1 ⟨x, H1, I1, r1, q1⟩ => ?_))
  refine wpAny_bind (wpAny_holding (thn (hi pins s1 σ H1 _ I1 q1) fun iv s2 ⟨y, H2, I2, r2, q2⟩ => ?_))
  refine wpAny_bind (wpAny_standAt (wpAny_bind (wpAny_holding (thn (hs pins s2 σ H2 x y v ov iv u _ I2 r1 r2 r q2) fun _ s3 ⟨H3, I3, q3⟩ => ?_))))
  exact wpAny_release ⟨σ, H3, I3, q3⟩
def tAsg (te : TE) (g : TG) : TS := fun D σ H => te σ H fun x H1 => g x σ H1 D.nx
theorem ps_asg {tg e : Expr} {te : TE} {g : TG} (he : PE X e te) (hg : PG X tg g) (hs : swapsWithSole [tg] e pos.line X.env = pure false := by rfl) (hw : swappedStores [tg] e X.env = pure none := by rfl)
    (h1 : (assignEach [tg] X.env).map (·.2) = [assign tg X.env] := by rfl) : PS X (.Assign [tg] e pos) (tAsg te g) := by
  intro pins s σ H D I h
  refine wpAny_Assign_stores (thn (he pins s σ H _ I h) fun v s1 ⟨x, H1, I1, r1, q1⟩ => ?_) hs hw
  rw [h1]
  exact thn (hg pins s1 σ H1 x v _ I1 r1 q1) fun _ s2 q => q
theorem ps_set {i : Nat} {x : Str} {e : Expr} {te : TE} {pos' : Pos} (hN : X.N.Nodup) (hi : X.N[i]? = some x) (hx : Loc X.env.scope x) (he : PE X e te) (hs : swapsWith e (some (.Name x pos')) pos.line X.env = pure false := by rfl) (hf : X.fn x = true ∨ X.env.scope.names.lookup x = some .local := by first | exact .inl rfl | exact .inr rfl | assumption) :
    PS X (.Assign [.Name x pos'] e pos) (tAsg te (gName i)) := by
  intro pins s σ H D I h
  refine wpAny_Assign_Name (thn (he pins s σ H _ I h) fun v s1 ⟨y, H1, I1, r1, q1⟩ => ?_) hs
  exact store_ok I1 hN hi hx r1 (fun s2 I2 => ⟨_, H1, I2, q1⟩) hf
end
section
variable {X : Cx} {pos : Pos}
end
structure It where
  go : Nat → Hp → Prop
  yld : Nat → Hp → V → Hp → Prop
  stop : Nat → Hp → Prop
def FpOk (X : Cx) (pins : List (Addr × Obj)) (H : Hp) (b : Addr) : Prop :=
  H b = none ∧ b ≠ X.env.locals ∧ b ∉ X.fs ∧ (b ∈ X.ex ∨ X.s₀.heap.objs.size ≤ b) ∧ (∀ x c, X.env.cells.lookup x = some c → c ≠ b) ∧ ∀ p ∈ X.pn ++ pins, p.1 ≠ b
theorem Inv.fpOk {X : Cx} {pins : List (Addr × Obj)} {σ : St} {H H' : Hp} {s : Shared} {b : Addr} (I : Inv X pins σ H s) (hb : s.heap.objs.size ≤ b) (hn : H' b = none) : FpOk X pins H' b := by
  refine ⟨hn, Nat.ne_of_gt (Nat.lt_of_lt_of_le I.lt hb), I.nofs hb, .inr (Nat.le_trans I.sz hb), fun x c e z => ?_, fun p hp z => ?_⟩
  · obtain ⟨v, q⟩ := I.cell x c e
    exact absurd (Nat.lt_of_lt_of_le q.lt (by rw [z]; exact hb)) (Nat.lt_irrefl _)
  · exact absurd (Nat.lt_of_lt_of_le (Heap.lt_size (I.pin p hp).1) (by rw [z]; exact hb)) (Nat.lt_irrefl _)
structure Turn (P : Program) (w : World) (K : PySem.W.Frag) (tg : Expr) (J : It) (fp : List Addr) (it : Addr) (tn : Nat → Heap → Prop) : Prop where
  mem : it ∈ fp
  obj : ∀ i h, tn i h → ∀ b ∈ fp, ∃ o, h.get? b = some o ∧ ∀ v, o.data ≠ .cell v
  keep : ∀ i h h', tn i h → (∀ b ∈ fp, ∀ o, h.get? b = some o → h'.get? b = some o) → tn i h'
  item : ∀ (X : Cx), X.prog = P → X.w = w → X.K = K → X.calm = true → ∀ (i : Nat) (pins : List (Addr × Obj)) (s : Shared) (σ : St) (H : Hp) (E : Value → Shared → Prop), Inv X pins σ H s → (∀ b ∈ fp, FpOk X pins H b) → tn i s.heap → J.go i H →
    wpAny (model P w) X.A (pyNext (.ref it)) (fun r s1 => ∃ u, r = some u ∧
      wpAny (model P w) X.A (letOwnedTupleGo tg (.ref it) u) (fun _ s2 => ∃ x H', Inv X pins σ H' s2 ∧ RelV x u ∧ J.yld i H x H' ∧ tn (i + 1) s2.heap ∧ ∀ b ∈ fp, H' b = none) E s1) E s
  done : ∀ (X : Cx), X.prog = P → X.w = w → X.K = K → X.calm = true → ∀ (i : Nat) (pins : List (Addr × Obj)) (s : Shared) (σ : St) (H : Hp) (E : Value → Shared → Prop), Inv X pins σ H s → (∀ b ∈ fp, FpOk X pins H b) → tn i s.heap → J.stop i H →
    wpAny (model P w) X.A (pyNext (.ref it)) (fun r s1 => r = none ∧ Inv X pins σ H s1) E s
  self : ∀ (A : Around) (i : Nat) (s : Shared) (Q : Value → Shared → Prop) (E : Value → Shared → Prop), tn i s.heap → Q (.ref it) s → wpAny (model P w) A (pyIter (.ref it)) Q E s
abbrev TI := St → Hp → (It → Hp → Prop) → Prop
def PIE (X : Cx) (pins : List (Addr × Obj)) (σ : St) (tg : Expr) (R : It → Hp → Prop) (itv : Value) (s2 : Shared) : Prop :=
  ∃ (it : Addr) (fp : List Addr) (tn : Nat → Heap → Prop) (J : It) (H' : Hp), itv = .ref it ∧ Inv X pins σ H' s2 ∧ Turn X.prog X.w X.K tg J fp it tn ∧ tn 0 s2.heap ∧ (∀ b ∈ fp, FpOk X pins H' b) ∧ R J H'
def PI (X : Cx) (tg iter : Expr) (wi : TI) : Prop :=
  ∀ (pins : List (Addr × Obj)) (s : Shared) (σ : St) (H : Hp) (R : It → Hp → Prop), Inv X pins σ H s → wi σ H R →
    wpAny (model X.prog X.w) X.A (eval iter X.env) (fun v s1 => wpAny (model X.prog X.w) X.A (pyIter v) (PIE X pins σ tg R) X.xe s1) X.xe s
theorem go_of {M : Model} {A : Around} {E : Value → Shared → Prop} {s : Shared} {tg : Expr} {it : Addr} {u : Value} {o : Obj} {n : String} {vs : Array Value} {Q : Unit → Shared → Prop} (ho : s.heap.get? it = some o) (hc : o.cls = .type n) (hd : o.data = .fields vs)
    (hn : ["enumerate", "zip", "dict_itemiterator", "dict_reverseitemiterator", "odict_iterator", "itertools.zip_longest", "itertools.pairwise"].contains n = false) (hQ : Q () s) : wpAny M A (letOwnedTupleGo tg (.ref it) u) Q E s := by
  unfold letOwnedTupleGo
  cases tg <;> first
    | exact wpAny_pure hQ
    | (cases u <;> first
        | exact wpAny_pure hQ
        | (refine wpAny_bind (wpAny_load ho ?_)
           rw [hc, hd]
           show wpAny M A (if (["enumerate", "zip", "dict_itemiterator", "dict_reverseitemiterator", "odict_iterator", "itertools.zip_longest", "itertools.pairwise"].contains n && vs[0]? == some (rawInt _)) = true then _ else _) Q E s
           rw [if_neg (by intro h; rw [hn, Bool.false_and] at h; cases h)]
           exact wpAny_pure hQ))
def Itl (K : PySem.W.Frag) (a : Addr) : It :=
  ⟨fun i H => ∃ xs x, SqL K H a xs ∧ xs[i]? = some x, fun i H x H' => H' = H ∧ ∀ xs, SqL K H a xs → xs[i]? = some x, fun i H => ∃ xs, SqL K H a xs ∧ xs.length ≤ i⟩
def Itt (K : PySem.W.Frag) (a : Addr) : It :=
  ⟨fun i H => ∃ xs x, SqT K H a xs ∧ xs[i]? = some x, fun i H x H' => H' = H ∧ ∀ xs, SqT K H a xs → xs[i]? = some x, fun i H => ∃ xs, SqT K H a xs ∧ xs.length ≤ i⟩
def Itr (lo : Int) (n : Nat) : It := ⟨fun i _ => i < n, fun i H x H' => H' = H ∧ x = .int (lo + i), fun i _ => n ≤ i⟩
theorem turn_list {P : Program} {w : World} {K : PySem.W.Frag} {tg : Expr} (a it : Addr) : Turn P w K tg (Itl K a) [it] it (fun i h => h.IsListIter it a i) where
  mem := by simp
  obj := fun i h st b hb => by
    have e : b = it := by simpa using hb
    subst e
    obtain ⟨o, e, c, d⟩ := st
    exact ⟨o, e, fun v z => by rw [d] at z; cases z⟩
  keep := fun i h h' st k => st.at fun o e => k it (by simp) o e
  item := by
    intro X hP hw hK hc i pins s σ H E I hf st hg
    subst hP hw hK
    obtain ⟨xs, x, hq, hx⟩ := hg
    obtain ⟨its, rv, p, hz⟩ := I.list hq
    obtain ⟨u, hu, ru⟩ := rv.get hx
    obtain ⟨f0, f1, f2, f3, f4, f5⟩ := hf it (by simp)
    refine wpAny_pyNext_list_item st p.isList (x := u) (by simpa using hu) fun h' st' sb => ?_
    have I1 : Inv X pins σ H { s with heap := h' } := I.turned (t' := s.toks) (fun b o hb e => (sb.2 b hb).trans e) f0 f1 f3 f4 f5
    obtain ⟨o, e, c, d⟩ := id st'
    exact ⟨u, rfl, go_of (s := { s with heap := h' }) e c d (by decide) ⟨x, H, I1, ru, ⟨rfl, fun ys hy => by rw [I.list_inj hy hq]; exact hx⟩, st', fun b hb => (hf b hb).1⟩⟩
  done := by
    intro X hP hw hK hc i pins s σ H E I hf st hg
    subst hP hw hK
    obtain ⟨xs, hq, hx⟩ := hg
    obtain ⟨its, rv, p, hz⟩ := I.list hq
    obtain ⟨f0, f1, f2, f3, f4, f5⟩ := hf it (by simp)
    have hl := rv.length
    exact wpAny_pyNext_list_end (I.ok.hd hc) st p.isList (by simp; omega) fun h' eb => ⟨rfl, I.turned (t' := s.toks) (fun b o hb e => eb b o hb e) f0 f1 f3 f4 f5⟩
  self := fun _ _ _ _ _ st h => wpAny_pyIter_listiter st h
theorem turn_tuple {P : Program} {w : World} {K : PySem.W.Frag} {tg : Expr} (a it : Addr) : Turn P w K tg (Itt K a) [it] it (fun i h => h.IsTupleIter it a i) where
  mem := by simp
  obj := fun i h st b hb => by
    have e : b = it := by simpa using hb
    subst e
    obtain ⟨o, e, c, d⟩ := st
    exact ⟨o, e, fun v z => by rw [d] at z; cases z⟩
  keep := fun i h h' st k => st.at fun o e => k it (by simp) o e
  item := by
    intro X hP hw hK hc i pins s σ H E I hf st hg
    subst hP hw hK
    obtain ⟨xs, x, hq, hx⟩ := hg
    obtain ⟨its, rv, p, hz⟩ := I.tuple hq
    obtain ⟨u, hu, ru⟩ := rv.get hx
    obtain ⟨f0, f1, f2, f3, f4, f5⟩ := hf it (by simp)
    refine wpAny_pyNext_tuple_item st (show s.heap.IsTuple a its.toArray from p) (x := u) (by simpa using hu) fun h' st' sb => ?_
    have I1 : Inv X pins σ H { s with heap := h' } := I.turned (t' := s.toks) (fun b o hb e => (sb.2 b hb).trans e) f0 f1 f3 f4 f5
    obtain ⟨o, e, c, d⟩ := id st'
    exact ⟨u, rfl, go_of (s := { s with heap := h' }) e c d (by decide) ⟨x, H, I1, ru, ⟨rfl, fun ys hy => by rw [I.tuple_inj hy hq]; exact hx⟩, st', fun b hb => (hf b hb).1⟩⟩
  done := by
    intro X hP hw hK hc i pins s σ H E I hf st hg
    subst hP hw hK
    obtain ⟨xs, hq, hx⟩ := hg
    obtain ⟨its, rv, p, hz⟩ := I.tuple hq
    obtain ⟨f0, f1, f2, f3, f4, f5⟩ := hf it (by simp)
    have hl := rv.length
    exact wpAny_pyNext_tuple_end (I.ok.hd hc) st (show s.heap.IsTuple a its.toArray from p) (by simp; omega) fun h' eb => ⟨rfl, I.turned (t' := s.toks) (fun b o hb e => eb b o hb e) f0 f1 f3 f4 f5⟩
  self := fun _ _ _ _ _ st h => wpAny_pyIter_tupleiter st h
theorem turn_range {P : Program} {w : World} {K : PySem.W.Frag} {tg : Expr} (it : Addr) (lo : Int) (n : Nat) : Turn P w K tg (Itr lo n) [it] it (fun i h => IsRangeIter h it (lo + (i : Nat) * 1) ((n : Int) - (i : Nat)) 1) where
  mem := by simp
  obj := fun i h st b hb => by
    have e : b = it := by simpa using hb
    subst e
    exact ⟨_, st, fun v z => by
      have z' : Data.fields _ = Data.cell v := z
      cases z'⟩
  keep := fun i h h' st k => k it (by simp) _ st
  item := by
    intro X hP hw hK hc i pins s σ H E I hf st hg
    subst hP hw hK
    obtain ⟨f0, f1, f2, f3, f4, f5⟩ := hf it (by simp)
    have W := Walks.range (prog := X.prog) (w := X.w) (I.ok.hd hc) it lo 1 n
    refine W.item i s _ _ hg st fun v h' tk hv st' kk => ?_
    obtain ⟨t, rfl⟩ := hv
    have I1 : Inv X pins σ H { s with heap := h', toks := tk } := I.turned (fun b o hb e => kk b o (by simpa using hb) e) f0 f1 f3 f4 f5
    refine ⟨_, rfl, go_of (s := { s with heap := h', toks := tk }) (n := "range_iterator") st' rfl rfl (by decide) ⟨.int (lo + i), H, I1, ⟨t, ?_⟩, ⟨rfl, rfl⟩, st', fun b hb => (hf b hb).1⟩⟩
    rw [Int.mul_one]
  done := by
    intro X hP hw hK hc i pins s σ H E I hf st hg
    subst hP hw hK
    obtain ⟨f0, f1, f2, f3, f4, f5⟩ := hf it (by simp)
    exact wpAny_pyNext_range_end (I.ok.hd hc) st (by have : n ≤ i := hg; omega) fun h' eb => ⟨rfl, I.turned (t' := s.toks) (fun b o hb e => eb b o hb e) f0 f1 f3 f4 f5⟩
  self := fun _ _ _ _ _ st h => wpAny_pyIter_rangeiter st h
end L2
namespace L2
open PySem PySem.Spec PyProof.Rows
section
variable {X : Cx} {tg : Expr}
theorem range_it {pins : List (Addr × Obj)} {σ : St} {H : Hp} {s : Shared} {R : It → Hp → Prop} {E : Value → Shared → Prop} {lo hi : Int} {t u v : Tok} {tk : Nat} (I : Inv X pins σ H s) (h1 : -(2 ^ 62) ≤ lo) (h2 : lo < 2 ^ 62) (h3 : -(2 ^ 62) ≤ hi) (h4 : hi < 2 ^ 62)
    (q : R (Itr lo (hi - lo).toNat) H) : wpAny (model X.prog X.w) X.A (pyIter (.ref s.heap.objs.size)) (PIE X pins σ tg R) E { s with heap := s.heap.push { cls := .type "range", data := .fields #[.int lo t, .int hi u, .int 1 v] }, toks := tk } := by
  refine wpAny_pyIter_range (IsRange.new ..) (small_one h1 h2 h3 h4) ?_
  have I1 : Inv X pins σ H { s with heap := s.heap.push { cls := .type "range", data := .fields #[.int lo t, .int hi u, .int 1 v] }, toks := tk } := I.kept fun b o e => Heap.get?_push_of_some _ e
  refine ⟨(s.heap.push { cls := .type "range", data := .fields #[.int lo t, .int hi u, .int 1 v] }).objs.size, [(s.heap.push { cls := .type "range", data := .fields #[.int lo t, .int hi u, .int 1 v] }).objs.size], _, _, H, rfl,
    I1.kept (t' := tk) fun b o e => Heap.get?_push_of_some _ e, turn_range _ lo (hi - lo).toNat, ?_, fun b hb => ?_, q⟩
  · have e1 : lo + ((0 : Nat) : Int) * 1 = lo := by simp
    have e2 : (((hi - lo).toNat : Nat) : Int) - ((0 : Nat) : Int) = Builtin.Range.rangeSize lo hi 1 := by rw [rangeSize_one]; split <;> omega
    show IsRangeIter _ _ (lo + ((0 : Nat) : Int) * 1) ((((hi - lo).toNat : Nat) : Int) - ((0 : Nat) : Int)) 1
    rw [e1, e2]
    exact Heap.get?_push_size _ rfl
  · have e : b = (s.heap.push { cls := .type "range", data := .fields #[.int lo t, .int hi u, .int 1 v] }).objs.size := by simpa using hb
    subst e
    exact I1.fpOk (Nat.le_refl _) (I1.hok.fresh (Nat.le_refl _))
def tFor (wi : TI) (g : TG) (tb : TS) : TS := fun D σ H => wi σ H fun J H1 => ∃ W : Nat → Nat → St → Hp → Prop, (∃ m, W 0 m σ H1) ∧ ∀ i m σ H, W i m σ H →
  (J.stop i H ∧ D.nx σ H) ∨ (J.go i H ∧ ∃ N : St → Hp → Prop, (∀ σ' H', N σ' H' → ∃ m', m' < m ∧ W (i + 1) m' σ' H') ∧ ∀ x H', J.yld i H x H' → g x σ H' fun σ2 H2 => tb { D with nx := N, ct := N, bk := D.nx } σ2 H2)
def pinsAt (fp : List Addr) (h : Heap) : List (Addr × Obj) := fp.filterMap fun b => (h.get? b).map fun o => (b, o)
theorem mem_pinsAt {fp : List Addr} {h : Heap} {b : Addr} {o : Obj} (hb : b ∈ fp) (e : h.get? b = some o) : (b, o) ∈ pinsAt fp h := List.mem_filterMap.mpr ⟨b, hb, by rw [e]; rfl⟩
theorem of_pinsAt {fp : List Addr} {h : Heap} {p : Addr × Obj} (hp : p ∈ pinsAt fp h) : p.1 ∈ fp ∧ h.get? p.1 = some p.2 := by
  obtain ⟨b, hb, e⟩ := List.mem_filterMap.mp hp
  cases q : h.get? b with
  | none => rw [q] at e; cases e
  | some o =>
    rw [q] at e
    have e' : (b, o) = p := Option.some.inj e
    subst e'
    exact ⟨hb, q⟩
theorem Inv.pinned {pins : List (Addr × Obj)} {σ : St} {H : Hp} {s : Shared} {fp : List Addr} (I : Inv X pins σ H s) (hf : ∀ b ∈ fp, FpOk X pins H b) (ho : ∀ b ∈ fp, ∃ o, s.heap.get? b = some o ∧ ∀ v, o.data ≠ .cell v) : Inv X (pins ++ pinsAt fp s.heap) σ H s :=
  I.pins_of fun p hp => (List.mem_append.mp hp).elim (fun z => I.pin p (List.mem_append_right _ z)) fun z => by
    obtain ⟨hb, e⟩ := of_pinsAt z
    obtain ⟨f0, f1, f2, _⟩ := hf p.1 hb
    obtain ⟨o, e', d⟩ := ho p.1 hb
    rw [e] at e'; cases e'
    exact ⟨e, f0, f1, f2, d⟩
theorem Inv.unpinned {pins pl : List (Addr × Obj)} {σ : St} {H : Hp} {s : Shared} (I : Inv X (pins ++ pl) σ H s) : Inv X pins σ H s := I.pins_of fun p hp => I.pin p (List.mem_append_right _ (List.mem_append_left _ hp))
theorem ps_for {iter : Expr} {body : List Stmt} {wi : TI} {g : TG} {tb : TS} {pos : Pos} (hp : PassesOwn (model X.prog X.w) X.A X.env X.xe) (hc : X.calm = true) (hi : PI X tg iter wi) (hg : PG X tg g) (hb : PSs X body tb)
    (hs : ∀ x, foldedSetIterable iter X.env x = pure x := by intro _; rfl) : PS X (.For tg iter body [] pos) (tFor wi g tb) := by
  intro pins s σ H D I h
  refine wpAny_For (thn (hi pins s σ H _ I h) fun v s1 h1 => thn h1 fun itv s2 h2 => ?_) hs
  obtain ⟨it, fp, tn, J, H2, e, I2, T, st2, f2, W, ⟨m0, w0⟩, turn⟩ := h2
  subst e
  have stat : ∀ {H' : Hp}, (∀ b ∈ fp, H' b = none) → ∀ b ∈ fp, FpOk X pins H' b := fun hn b hb => ⟨hn b hb, (f2 b hb).2⟩
  refine codeAny_forLoop_any (fun n s' => ∃ i σ' H', Inv X pins σ' H' s' ∧ tn i s'.heap ∧ (∀ b ∈ fp, H' b = none) ∧ W i n σ' H') ?_ m0 ⟨0, σ, H2, I2, st2, fun b hb => (f2 b hb).1, w0⟩
  rintro n s3 ⟨i, σ3, H3, I3, st3, fr3, w3⟩
  rcases turn i n σ3 H3 w3 with ⟨stop, qn⟩ | ⟨go, N, hN, step⟩
  · refine wpAny_passesOwn hp (thn (T.done X rfl rfl rfl hc i pins s3 σ3 H3 X.xe I3 (stat fr3) st3 stop) fun r s4 ⟨hr, I4⟩ => ?_)
    subst hr
    exact wpAny_execs_nil ⟨σ3, H3, I4, qn⟩
  · refine wpAny_passesOwn hp (thn (T.item X rfl rfl rfl hc i pins s3 σ3 H3 X.xe I3 (stat fr3) st3 go) fun r s4 ⟨u, hr, h4⟩ => ?_)
    subst hr
    refine wpAny_passesOwn hp (thn h4 fun _ s5 ⟨x, H5, I5, r5, y5, st5, fr5⟩ => ?_)
    have I5' := I5.pinned (stat fr5) (T.obj _ _ st5)
    refine wpAny_passesOwn hp (thn (hg _ s5 σ3 H5 x u _ I5' r5 (step x H5 y5)) fun _ s6 ⟨σ6, H6, I6, q6⟩ => ?_)
    refine wpAny_passesOwn hp (thn (hb _ s6 σ6 H6 _ I6 q6) fun f s7 q7 => ?_)
    have again : ∀ {σ7 : St} {H7 : Hp}, Inv X (pins ++ pinsAt fp s5.heap) σ7 H7 s7 → N σ7 H7 → ∃ m, m < n ∧ ∃ i σ' H', Inv X pins σ' H' s7 ∧ tn i s7.heap ∧ (∀ b ∈ fp, H' b = none) ∧ W i m σ' H' := fun {σ7 H7} I7 n7 => by
      obtain ⟨m', hm, w7⟩ := hN σ7 H7 n7
      refine ⟨m', hm, i + 1, σ7, H7, I7.unpinned, T.keep _ _ _ st5 fun b hb o e => (I7.pin (b, o) (List.mem_append_right _ (List.mem_append_right _ (mem_pinsAt hb e)))).1, fun b hb => ?_, w7⟩
      obtain ⟨o, e, d⟩ := T.obj _ _ st5 b hb
      exact (I7.pin (b, o) (List.mem_append_right _ (List.mem_append_right _ (mem_pinsAt hb e)))).2.1
    cases f with
    | next => obtain ⟨σ7, H7, I7, n7⟩ := q7; exact again I7 n7
    | cont => obtain ⟨σ7, H7, I7, n7⟩ := q7; exact again I7 n7
    | brk => obtain ⟨σ7, H7, I7, q7⟩ := q7; exact ⟨σ7, H7, I7.unpinned, q7⟩
    | ret v => obtain ⟨x7, σ7, H7, I7, r7, q7⟩ := q7; exact ⟨x7, σ7, H7, I7.unpinned, r7, q7⟩
end
end L2
namespace L2
open PySem PySem.Spec PyProof.Rows
abbrev R2 := V → V → Hp → VK → Prop
def OpR (X : Cx) (f : Value → Value → Sem Value) (r : R2) : Prop :=
  ∀ (pins : List (Addr × Obj)) (s : Shared) (σ : St) (H : Hp) (x y : V) (v u : Value) (Q : VK), Inv X pins σ H s → RelV x v → RelV y u → r x y H Q →
    wpAny (model X.prog X.w) X.A (f v u) (EP X pins σ Q) X.xe s
def UnR (X : Cx) (f : Value → Sem Value) (r : V → Hp → VK → Prop) : Prop :=
  ∀ (pins : List (Addr × Obj)) (s : Shared) (σ : St) (H : Hp) (x : V) (v : Value) (Q : VK), Inv X pins σ H s → RelV x v → r x H Q →
    wpAny (model X.prog X.w) X.A (f v) (EP X pins σ Q) X.xe s
def CallR (X : Cx) (f : Value) (r : List V → Hp → VK → Prop) : Prop :=
  ∀ (pins : List (Addr × Obj)) (s : Shared) (σ : St) (H : Hp) (xs : List V) (us : List Value) (Q : VK), Inv X pins σ H s → Vals xs us → r xs H Q →
    wpAny (model X.prog X.w) X.A (call f us) (EP X pins σ Q) X.xe s
def tOp (r : R2) (ta tb : TE) : TE := fun σ H Q => ta σ H fun x H1 => tb σ H1 fun y H2 => r x y H2 Q
def tUn (r : V → Hp → VK → Prop) (ta : TE) : TE := fun σ H Q => ta σ H fun x H1 => r x H1 Q
def rI (C : Int → Int → Prop) (g : Int → Int → V) : R2 := fun x y H Q => ∃ i j, x = .int i ∧ y = .int j ∧ C i j ∧ Q (g i j) H
def rI0 (g : Int → Int → V) : R2 := fun x y H Q => ∃ i j, x = .int i ∧ y = .int j ∧ Q (g i j) H
def rU (g : Int → V) : V → Hp → VK → Prop := fun x H Q => ∃ i, x = .int i ∧ Q (g i) H
section
variable {X : Cx} {a b c : Expr} {ta tb tc : TE} {pos : Pos}
theorem binT (ha : PE X a ta) (hb : PE X b tb) {pins : List (Addr × Obj)} {s : Shared} {σ : St} {H : Hp} {R : V → V → Hp → Prop} (I : Inv X pins σ H s)
    (h : ta σ H fun x H1 => tb σ H1 fun y H2 => R x y H2) {Q : Value → Shared → Prop} {f : Value → Value → Sem Value}
    (hf : ∀ v u s2 x y H2, Inv X pins σ H2 s2 → RelV x v → RelV y u → R x y H2 → wpAny (model X.prog X.w) X.A (f v u) Q X.xe s2) :
    wpAny (model X.prog X.w) X.A (eval a X.env) (fun v s₁ => wpAny (model X.prog X.w) X.A (eval b X.env) (fun u s₂ => wpAny (model X.prog X.w) X.A (f v u) Q X.xe s₂) X.xe s₁) X.xe s := by
  refine thn (ha pins s σ H _ I h) fun v s1 ⟨x, H1, I1, r1, q1⟩ => ?_
  refine thn (hb pins s1 σ H1 _ I1 q1) fun u s2 ⟨y, H2, I2, r2, q2⟩ => ?_
  exact hf v u s2 x y H2 I2 r1 r2 q2
theorem pe_op {op : Operator} {r : R2} (ho : OpR X (binaryOp op) r) (ha : PE X a ta) (hb : PE X b tb) : PE X (.BinOp a op b pos) (tOp r ta tb) := by
  intro pins s σ H Q I h
  exact wpAny_BinOp (binT ha hb I h fun v u s2 x y H2 I2 rx ry q => ho pins s2 σ H2 x y v u Q I2 rx ry q)
theorem opI {f : Value → Value → Sem Value} {C : Int → Int → Prop} {g : Int → Int → Int}
    (rule : ∀ (i j : Int) (t u : Tok) (s : Shared) (Q : Value → Shared → Prop) (E : Value → Shared → Prop), C i j → Q (.int (g i j) s.toks) { s with toks := s.toks + 1 } → wpAny (model X.prog X.w) X.A (f (.int i t) (.int j u)) Q E s) :
    OpR X f (rI C fun i j => .int (g i j)) := by
  intro pins s σ H x y v u Q I rx ry h
  obtain ⟨i, j, rfl, rfl, hc, q⟩ := h
  obtain ⟨t, rfl⟩ := rx
  obtain ⟨t', rfl⟩ := ry
  exact rule i j t t' s _ _ hc ⟨.int (g i j), H, I.tok _, ⟨_, rfl⟩, q⟩
theorem opI0 {f : Value → Value → Sem Value} {g : Int → Int → Int}
    (rule : ∀ (i j : Int) (t u : Tok) (s : Shared) (Q : Value → Shared → Prop) (E : Value → Shared → Prop), Q (.int (g i j) s.toks) { s with toks := s.toks + 1 } → wpAny (model X.prog X.w) X.A (f (.int i t) (.int j u)) Q E s) :
    OpR X f (rI0 fun i j => .int (g i j)) := by
  intro pins s σ H x y v u Q I rx ry h
  obtain ⟨i, j, rfl, rfl, q⟩ := h
  obtain ⟨t, rfl⟩ := rx
  obtain ⟨t', rfl⟩ := ry
  exact rule i j t t' s _ _ ⟨.int (g i j), H, I.tok _, ⟨_, rfl⟩, q⟩
theorem opB0 {f : Value → Value → Sem Value} {g : Int → Int → Bool}
    (rule : ∀ (i j : Int) (t u : Tok) (s : Shared) (Q : Value → Shared → Prop) (E : Value → Shared → Prop), Q (.bool (g i j)) s → wpAny (model X.prog X.w) X.A (f (.int i t) (.int j u)) Q E s) :
    OpR X f (rI0 fun i j => .bl (g i j)) := by
  intro pins s σ H x y v u Q I rx ry h
  obtain ⟨i, j, rfl, rfl, q⟩ := h
  obtain ⟨t, rfl⟩ := rx
  obtain ⟨t', rfl⟩ := ry
  exact rule i j t t' s _ _ ⟨.bl (g i j), H, I, rfl, q⟩
def CDiv (i j : Int) : Prop := 0 < j ∧ j < 1073741824
def CPow (i j : Int) : Prop := 0 ≤ j ∧ j ≤ 1000000 ∧ i.natAbs < 2 ^ 64
def CMul (i j : Int) : Prop := (-(2 ^ 64) < i ∧ i < 2 ^ 64) ∨ (-(2 ^ 64) < j ∧ j < 2 ^ 64)
theorem CMul.ok {i j : Int} (h : CMul i j) : IntMulOk i j := by
  rcases h with ⟨h1, h2⟩ | ⟨h1, h2⟩
  · exact .of_left (intBits_le_64 h1 h2)
  · exact .of_right (intBits_le_64 h1 h2)
theorem op_add : OpR X (binaryOp .Add) (rI0 fun i j => .int (i + j)) := opI0 fun _ _ _ _ _ _ _ q => add_int q
theorem op_sub : OpR X (binaryOp .Sub) (rI0 fun i j => .int (i - j)) := opI0 fun _ _ _ _ _ _ _ q => sub_int q
theorem op_mod : OpR X (binaryOp .Mod) (rI (fun _ j => 0 < j) fun i j => .int (i % j)) := opI fun i j _ _ _ _ _ hc q => by
  have h1 : (0 : Int) < j := hc
  exact mod_int' (by omega) (by rw [Int.fmod_eq_emod_of_nonneg i (by omega)]; exact q)
theorem op_pow : OpR X (binaryOp .Pow) (rI CPow fun i j => .int (i ^ j.toNat)) := opI fun _ _ _ _ _ _ _ hc q => pow_int_small hc.1 hc.2.1 hc.2.2 q
theorem unI {f : Value → Sem Value} {g : Int → Int}
    (rule : ∀ (i : Int) (t : Tok) (s : Shared) (Q : Value → Shared → Prop) (E : Value → Shared → Prop), Q (.int (g i) s.toks) { s with toks := s.toks + 1 } → wpAny (model X.prog X.w) X.A (f (.int i t)) Q E s) :
    UnR X f (rU fun i => .int (g i)) := by
  intro pins s σ H x v Q I rx h
  obtain ⟨i, rfl, q⟩ := h
  obtain ⟨t, rfl⟩ := rx
  exact rule i t s _ _ ⟨.int (g i), H, I.tok _, ⟨_, rfl⟩, q⟩
theorem un_neg : UnR X (unaryOp .USub) (rU fun i => .int (-i)) := unI fun _ _ _ _ _ q => neg_int q
end
def scal : V → V → Bool
  | .non, .non => true | .non, .int _ => true | .int _, .non => true | .non, .bl _ => true | .bl _, .non => true | .non, .str _ => true | .str _, .non => true
  | .int _, .int _ => true | .bl _, .bl _ => true | .str _, .str _ => true | .byt _, .byt _ => true
  | .int _, .str _ => true | .str _, .int _ => true | .bl _, .str _ => true | .str _, .bl _ => true
  | _, _ => false
def rEq : R2 := fun x y H Q => scal x y = true ∧ Q (.bl (decide (x = y))) H
def rNe : R2 := fun x y H Q => scal x y = true ∧ Q (.bl (!decide (x = y))) H
theorem dec_int {i j : Int} : decide (V.int i = V.int j) = (i == j) := by
  rw [Bool.eq_iff_iff]
  simp
theorem dec_bl {i j : Bool} : decide (V.bl i = V.bl j) = (i == j) := by
  rw [Bool.eq_iff_iff]
  simp
theorem dec_str {i j : Str} : decide (V.str i = V.str j) = (i == j) := by
  rw [Bool.eq_iff_iff]
  simp
theorem dec_byt {i j : Array UInt8} : decide (V.byt i = V.byt j) = (i.toList == j.toList) := by
  rw [Bool.eq_iff_iff]
  cases i
  cases j
  simp
section
variable {X : Cx} {a b c : Expr} {ta tb tc : TE} {pos : Pos}
theorem fin_bl {pins : List (Addr × Obj)} {σ : St} {H : Hp} {s : Shared} {Q : VK} {k k' : Bool} (I : Inv X pins σ H s) (q : Q (.bl k) H) (e : k = k') : EP X pins σ Q (.bool k') s := by
  subst e
  exact ⟨.bl k, H, I, rfl, q⟩
theorem op_eq : OpR X (compareOp .Eq) rEq := by
  intro pins s σ H x y v u Q I rx ry h
  obtain ⟨hs, q⟩ := h
  cases x with
  | non =>
    cases rx
    cases y with
    | non => cases ry; exact PySem.EqNone.eq_none_none (fin_bl I q (by simp))
    | bl j => cases ry; exact PySem.EqNone.eq_none_bool (fin_bl I q (by simp))
    | int j => obtain ⟨t', rfl⟩ := ry; exact PySem.EqNone.eq_none_int (fin_bl I q (by simp))
    | str j => obtain ⟨t', rfl⟩ := ry; exact PySem.EqNone.eq_none_str (fin_bl I q (by simp))
    | _ => exact absurd (show false = true from hs) Bool.false_ne_true
  | bl i =>
    cases rx
    cases y with
    | non => cases ry; exact PySem.EqNone.eq_bool_none (fin_bl I q (by simp))
    | bl j => cases ry; exact eq_bool (fin_bl I q dec_bl)
    | str j => obtain ⟨t', rfl⟩ := ry; exact PySem.EqMixed.eq_bool_str (fin_bl I q (by simp))
    | _ => exact absurd (show false = true from hs) Bool.false_ne_true
  | int i =>
    obtain ⟨t, rfl⟩ := rx
    cases y with
    | non => cases ry; exact PySem.EqNone.eq_int_none (fin_bl I q (by simp))
    | int j => obtain ⟨t', rfl⟩ := ry; exact eq_int (fin_bl I q dec_int)
    | str j => obtain ⟨t', rfl⟩ := ry; exact PySem.EqMixed.eq_int_str (fin_bl I q (by simp))
    | _ => exact absurd (show false = true from hs) Bool.false_ne_true
  | str i =>
    obtain ⟨t, rfl⟩ := rx
    cases y with
    | non => cases ry; exact PySem.EqNone.eq_str_none (fin_bl I q (by simp))
    | bl j => cases ry; exact PySem.EqMixed.eq_str_bool (fin_bl I q (by simp))
    | int j => obtain ⟨t', rfl⟩ := ry; exact PySem.EqMixed.eq_str_int (fin_bl I q (by simp))
    | str j => obtain ⟨t', rfl⟩ := ry; exact eq_str (fin_bl I q dec_str)
    | _ => exact absurd (show false = true from hs) Bool.false_ne_true
  | byt i =>
    obtain ⟨t, rfl⟩ := rx
    cases y with
    | byt j => obtain ⟨t', rfl⟩ := ry; exact PySem.W.eq_bytes (fin_bl I q dec_byt)
    | _ => exact absurd (show false = true from hs) Bool.false_ne_true
  | _ => cases y <;> exact absurd (show false = true from hs) Bool.false_ne_true
theorem op_ne : OpR X (compareOp .NotEq) rNe := by
  intro pins s σ H x y v u Q I rx ry h
  obtain ⟨hs, q⟩ := h
  cases x with
  | non =>
    cases rx
    cases y with
    | non => cases ry; exact PySem.EqNone.ne_none_none (fin_bl I q (by simp))
    | bl j => cases ry; exact PySem.EqNone.ne_none_bool (fin_bl I q (by simp))
    | int j => obtain ⟨t', rfl⟩ := ry; exact PySem.EqNone.ne_none_int (fin_bl I q (by simp))
    | str j => obtain ⟨t', rfl⟩ := ry; exact PySem.EqNone.ne_none_str (fin_bl I q (by simp))
    | _ => exact absurd (show false = true from hs) Bool.false_ne_true
  | bl i =>
    cases rx
    cases y with
    | non => cases ry; exact PySem.EqNone.ne_bool_none (fin_bl I q (by simp))
    | bl j => cases ry; exact ne_bool (fin_bl I q (congrArg not dec_bl))
    | str j => obtain ⟨t', rfl⟩ := ry; exact PySem.EqMixed.ne_bool_str (fin_bl I q (by simp))
    | _ => exact absurd (show false = true from hs) Bool.false_ne_true
  | int i =>
    obtain ⟨t, rfl⟩ := rx
    cases y with
    | non => cases ry; exact PySem.EqNone.ne_int_none (fin_bl I q (by simp))
    | int j => obtain ⟨t', rfl⟩ := ry; exact ne_int (fin_bl I q (congrArg not dec_int))
    | str j => obtain ⟨t', rfl⟩ := ry; exact PySem.EqMixed.ne_int_str (fin_bl I q (by simp))
    | _ => exact absurd (show false = true from hs) Bool.false_ne_true
  | str i =>
    obtain ⟨t, rfl⟩ := rx
    cases y with
    | non => cases ry; exact PySem.EqNone.ne_str_none (fin_bl I q (by simp))
    | bl j => cases ry; exact PySem.EqMixed.ne_str_bool (fin_bl I q (by simp))
    | int j => obtain ⟨t', rfl⟩ := ry; exact PySem.EqMixed.ne_str_int (fin_bl I q (by simp))
    | str j => obtain ⟨t', rfl⟩ := ry; exact ne_str (fin_bl I q (congrArg not dec_str))
    | _ => exact absurd (show false = true from hs) Bool.false_ne_true
  | byt i =>
    obtain ⟨t, rfl⟩ := rx
    cases y with
    | byt j => obtain ⟨t', rfl⟩ := ry; exact PySem.W.ne_bytes (fin_bl I q (congrArg not dec_byt))
    | _ => exact absurd (show false = true from hs) Bool.false_ne_true
  | _ => cases y <;> exact absurd (show false = true from hs) Bool.false_ne_true
theorem op_lt : OpR X (compareOp .Lt) (rI0 fun i j => .bl (decide (i < j))) := opB0 fun _ _ _ _ _ _ _ q => lt_int q
theorem op_le : OpR X (compareOp .LtE) (rI0 fun i j => .bl (decide (i ≤ j))) := opB0 fun _ _ _ _ _ _ _ q => le_int q
theorem op_gt : OpR X (compareOp .Gt) (rI0 fun i j => .bl (decide (j < i))) := opB0 fun _ _ _ _ _ _ _ q => gt_int q
theorem op_ge : OpR X (compareOp .GtE) (rI0 fun i j => .bl (decide (j ≤ i))) := opB0 fun _ _ _ _ _ _ _ q => ge_int q
theorem op_lt_str : OpR X (compareOp .Lt) (fun x y H Q => ∃ i j, x = .str i ∧ y = .str j ∧ Q (.bl (decide (i.cps.toList < j.cps.toList))) H) := by
  intro pins s σ H x y v u Q I rx ry h
  obtain ⟨i, j, rfl, rfl, q⟩ := h
  obtain ⟨t, rfl⟩ := rx
  obtain ⟨t', rfl⟩ := ry
  exact lt_str (fin_bl I q rfl)
theorem op_in_str : OpR X (compareOp .In) (fun x y H Q => ∃ i j, x = .str i ∧ y = .str j ∧ Q (.bl (!(Builtin.Str.occurrences j i 0 j.length 1).isEmpty)) H) := by
  intro pins s σ H x y v u Q I rx ry h
  obtain ⟨i, j, rfl, rfl, q⟩ := h
  obtain ⟨t, rfl⟩ := rx
  obtain ⟨t', rfl⟩ := ry
  exact in_str (fin_bl I q rfl)
theorem op_notin_str : OpR X (compareOp .NotIn) (fun x y H Q => ∃ i j, x = .str i ∧ y = .str j ∧ Q (.bl (!(!(Builtin.Str.occurrences j i 0 j.length 1).isEmpty))) H) := by
  intro pins s σ H x y v u Q I rx ry h
  obtain ⟨i, j, rfl, rfl, q⟩ := h
  obtain ⟨t, rfl⟩ := rx
  obtain ⟨t', rfl⟩ := ry
  exact notIn_str (fin_bl I q rfl)
theorem pe_cmpR {op : CmpOp} {r : R2} (ho : OpR X (compareOp op) r) (ha : PE X a ta) (hb : PE X b tb) (hm : behindInMarks op b = false) : PE X (.Compare a [op] [b] pos) (tOp r ta tb) := by
  intro pins s σ H Q I h
  exact wpAny_Compare1 (binT ha hb I h fun v u s2 x y H2 I2 rx ry q => ho pins s2 σ H2 x y v u Q I2 rx ry q) hm
theorem line63 : (sizeLine : Nat) < 2 ^ 63 := by rw [sizeLine_eq]; decide
theorem op_add_str : OpR X (binaryOp .Add) (fun x y H Q => ∃ i j, x = .str i ∧ y = .str j ∧ i.length + j.length ≤ sizeLine ∧ Q (.str (i ++ j)) H) := by
  intro pins s σ H x y v u Q I rx ry h
  obtain ⟨i, j, rfl, rfl, hz, q⟩ := h
  obtain ⟨t, rfl⟩ := rx
  obtain ⟨t', rfl⟩ := ry
  exact add_str (fun t' tk => ⟨.str (i ++ j), H, I.tok _, ⟨_, rfl⟩, q⟩) hz
theorem vals1 {x : V} {us : List Value} (r : Vals [x] us) : ∃ u, us = [u] ∧ RelV x u := by
  cases r with
  | cons r1 r2 => cases r2; exact ⟨_, rfl, r1⟩
theorem vals2 {x y : V} {us : List Value} (r : Vals [x, y] us) : ∃ u w', us = [u, w'] ∧ RelV x u ∧ RelV y w' := by
  cases r with
  | cons r1 r2 =>
    cases r2 with
    | cons r3 r4 => cases r4; exact ⟨_, _, rfl, r1, r3⟩
theorem call_min2 (hc : X.calm = true) : CallR X (.builtin "min") (fun xs H Q => ∃ i j, xs = [.int i, .int j] ∧ Q (.int (if j < i then j else i)) H) := by
  intro pins s σ H xs us Q I r h
  obtain ⟨i, j, rfl, q⟩ := h
  obtain ⟨u, w', rfl, ⟨t, rfl⟩, ⟨t', rfl⟩⟩ := vals2 r
  refine min_two_ints (I.ok.hd hc) fun h' tk k => ⟨_, H, I.kept k, ?_, q⟩
  by_cases hj : j < i
  · rw [if_pos hj, if_pos hj]; exact ⟨_, rfl⟩
  · rw [if_neg hj, if_neg hj]; exact ⟨_, rfl⟩
theorem call_str_int : CallR X (.type "str") (fun xs H Q => ∃ i, xs = [.int i] ∧ i.natAbs.log2 < 1920 ∧ Q (.str (toString i)) H) := by
  intro pins s σ H xs us Q I r h
  obtain ⟨i, rfl, hz, q⟩ := h
  obtain ⟨u, rfl, t, rfl⟩ := vals1 r
  exact PySem.P.str_of_int hz ⟨.str _, H, I.tok _, ⟨_, rfl⟩, q⟩
end
end L2
namespace L2
open PySem PySem.Spec PyProof.Rows
structure ObjM (h : Heap) (x dx C : Addr) (mA : Str → Option Value) : Prop where
  obj : h.get? x = some (PySem.W.instObj C dx)
  ns : h.Ns1 dx mA
  ne : dx ≠ x
theorem lookIn_ns {h : Heap} {dx : Addr} {mA : Str → Option Value} (n : h.Ns1 dx mA) : ∃ od, h.get? dx = some od ∧ ∀ name, PySem.W.lookIn name od = some (mA name) := by
  obtain ⟨o, es, ep, ho, hd, hk, _, hm⟩ := n
  refine ⟨o, ho, fun name => ?_⟩
  have e := hm name
  unfold nsFind findBy at e
  rw [← Array.find?_toList] at e
  unfold PySem.W.lookIn
  rw [hd]
  dsimp only
  split
  · rename_i y q
    rw [q] at e
    exact congrArg some e
  · rename_i q
    rw [q] at e
    have a : es.toList.any (·.refKey) = false := by
      rw [List.any_eq_false]
      intro y hy
      obtain ⟨z, t, hkey⟩ := hk y (Array.mem_toList_iff.mp hy)
      simp [DictEntry.refKey, hkey]
    have a' : ¬ es.toList.any (·.refKey) = true := by rw [a]; exact Bool.false_ne_true
    rw [if_neg a']
    exact congrArg some e
theorem ObjM.look {h : Heap} {x dx C : Addr} {mA : Str → Option Value} (I : ObjM h x dx C mA) : ∃ od, PySem.W.InstAt h x (PySem.W.instObj C dx) C (some od) ∧ ∀ name, PySem.W.lookIn name od = some (mA name) :=
  let ⟨od, ho, hl⟩ := lookIn_ns I.ns
  ⟨od, ⟨I.obj, rfl, rfl, ho⟩, hl⟩
section
variable {prog : Program} {w : World} {A : Around} {E : Value → Shared → Prop} {s : Shared} {K : PySem.W.Frag} {x dx C f : Addr} {mA : Str → Option Value} {name : Str} {v : Value}
end
theorem RelO.some_of {v : V} {o : Option Value} (r : RelO (some v) o) : ∃ u, o = some u ∧ RelV v u := by
  cases o with
  | none => exact (show False from r).elim
  | some u => exact ⟨u, rfl, r⟩
section
variable {P : Program} {w : World} {H H' : Hp} {h h' : Heap} {a C dx : Addr} {fs fs' : List (Str × V)}
theorem ins_get (hok : HOk P w H h) (e : H a = some (.ins C dx fs)) : ∃ mA, ObjM h a dx C mA ∧ (∀ f, RelO (fs.lookup f) (mA f)) ∧ PySem.Within mA (fs.map (·.1)) ∧ fs.length ≤ 1000 ∧ H dx = some (.own a) := by
  obtain ⟨d, z, ne, ob, mA, n, r, q⟩ := (show ObjOk P w H h a (.ins C dx fs) from hok a _ e)
  exact ⟨mA, ⟨ob, n, ne⟩, r, q, z, d⟩
end
structure Cls (K : PySem.W.Frag) (C : Addr) : Prop where
  pg : PySem.W.plainGet K C Str.empty = true
  hd : PySem.W.hasDictIn K C = true
  po : PySem.W.plainOver K C = true
  sa : PySem.W.findIn K (.ref C) "__setattr__" = some (some (.builtin "object.__setattr__"))
theorem Cls.get {K : PySem.W.Frag} {C : Addr} (c : Cls K C) (f : Str) : PySem.W.plainGet K C f = true := c.pg
section
variable {X : Cx} {pins : List (Addr × Obj)} {σ : St} {H : Hp} {s : Shared} {a C dx : Addr} {fs : List (Str × V)} {f : Str} {v : V} {A : Around} {E : Value → Shared → Prop}
end
section
variable {X : Cx} {o e value : Expr} {f : Str} {pos pos' tpos : Pos} {ta tv : TE}
end
section
variable {X : Cx} {pins : List (Addr × Obj)} {σ : St} {H : Hp} {s : Shared} {A : Around} {E : Value → Shared → Prop} {Q : Value → Shared → Prop} {c : Value} {b : Bool}
inductive TyOf (K : PySem.W.Frag) (H : Hp) : V → Value → Prop where
  | non : TyOf K H .non (.type "NoneType")
  | bl (x : Bool) : TyOf K H (.bl x) (.type "bool")
  | int (i : Int) : TyOf K H (.int i) (.type "int")
  | str (x : Str) : TyOf K H (.str x) (.type "str")
  | flt (x : UInt64) : TyOf K H (.flt x) (.type "float")
  | lst {a : Addr} {xs : List V} (e : H a = some (.lst xs)) : TyOf K H (.ref a) (.type "list")
  | frz {a : Addr} {o : Obj} {xs : List V} (e : H a = some (.frz o (.lst xs))) : TyOf K H (.ref a) (.type "list")
  | tup {a : Addr} {xs : List V} (e : H a = some (.tup xs)) : TyOf K H (.ref a) (.type "tuple")
  | dK {a : Addr} {kvs : List (Key × V)} (e : H a = some (.dK kvs)) : TyOf K H (.ref a) (.type "dict")
  | dT {a : Addr} {kvs : List (List Key × V)} (e : H a = some (.dT kvs)) : TyOf K H (.ref a) (.type "dict")
  | ins {a C dx : Addr} {fs : List (Str × V)} (e : H a = some (.ins C dx fs)) (cl : Cls K C) (ha : PySem.W.findIn K (.ref C) "__class__" = some (some (.builtin "object.__class__")))
      (hn : PySem.W.specialIn K (.builtin "object.__class__") "__get__" = some (some (.builtin "getset_descriptor.__get__"))) (htk : PySem.W.takesIn K (.builtin "object.__class__") = some true)
      (hm : PySem.W.mroIn K C (.type "object") = some true) : TyOf K H (.ref a) (.ref C)
theorem isinst_ok {x : V} {u t : Value} (I : Inv X pins σ H s) (rx : RelV x u) (ty : TyOf X.K H x t) (e : PySem.W.kitOne X.K t c = some b) (h : ∀ tk, Q (.bool b) { s with toks := tk }) :
    wpAny (model X.prog X.w) A (call (.builtin "isinstance") [u, c]) Q E s := by
  cases ty with
  | non => cases (show u = Value.none from rx); exact PySem.W.kia_one PySem.W.kitx_none I.kIn True.intro e (fun z => nomatch z) h
  | bl y => cases (show u = Value.bool y from rx); exact PySem.W.kia_one PySem.W.kitx_bool I.kIn True.intro e (fun z => nomatch z) h
  | int i => obtain ⟨t, q⟩ := (show ∃ t, u = Value.int i t from rx); cases q; exact PySem.W.kia_one PySem.W.kitx_int I.kIn True.intro e (fun z => nomatch z) h
  | str y => obtain ⟨t, q⟩ := (show ∃ t, u = Value.str y t from rx); cases q; exact PySem.W.kia_one PySem.W.kitx_str I.kIn True.intro e (fun z => nomatch z) h
  | flt y => obtain ⟨t, q⟩ := (show ∃ t, u = Value.float y t from rx); cases q; exact PySem.W.kia_one PySem.W.kitx_float I.kIn True.intro e (fun z => nomatch z) h
  | @lst a xs ea =>
    cases (show u = Value.ref a from rx)
    obtain ⟨_, _, n, _, h1⟩ := (show ObjOk X.prog X.w H s.heap a (.lst xs) from I.hok a _ ea)
    exact PySem.W.kia_one PySem.W.kitx_list I.kIn ⟨_, h1, rfl⟩ e (fun z => nomatch z) h
  | @frz a ob xs ea =>
    cases (show u = Value.ref a from rx)
    obtain ⟨_, _, _, n, _, h1⟩ := (show ObjOk X.prog X.w H s.heap a (.frz ob (.lst xs)) from I.hok a _ ea)
    exact PySem.W.kia_one PySem.W.kitx_list I.kIn ⟨_, h1, rfl⟩ e (fun z => nomatch z) h
  | @tup a xs ea =>
    cases (show u = Value.ref a from rx)
    obtain ⟨_, _, _, p⟩ := (show ObjOk X.prog X.w H s.heap a (.tup xs) from I.hok a _ ea)
    obtain ⟨o, h1, h2, _⟩ := p
    exact PySem.W.kia_one PySem.W.kitx_tuple I.kIn ⟨o, h1, h2⟩ e (fun z => nomatch z) h
  | @dK a kvs ea =>
    cases (show u = Value.ref a from rx)
    obtain ⟨_, _, vs, _, p⟩ := (show ObjOk X.prog X.w H s.heap a (.dK kvs) from I.hok a _ ea)
    obtain ⟨o, es, ep, h1, h2, _⟩ := p
    exact PySem.W.kia_one PySem.W.kitx_dict I.kIn ⟨o, h1, h2.1⟩ e (fun z => nomatch z) h
  | @dT a kvs ea =>
    cases (show u = Value.ref a from rx)
    obtain ⟨_, _, xs, _, o, es, ep, h1, h2, _⟩ := (show ObjOk X.prog X.w H s.heap a (.dT kvs) from I.hok a _ ea)
    exact PySem.W.kia_one PySem.W.kitx_dict I.kIn ⟨o, h1, h2.1⟩ e (fun z => nomatch z) h
  | @ins a C dx fs ea cl ha hn htk hm =>
    cases (show u = Value.ref a from rx)
    obtain ⟨mA, O, _⟩ := ins_get I.hok ea
    obtain ⟨od, J, _⟩ := O.look
    exact PySem.W.kia_one (PySem.W.kitx_own (cl.get _) cl.hd ha hn htk hm) I.kIn J e (fun z => nomatch z) h
end
end L2
namespace L2
open PySem PySem.Spec PyProof.Rows
structure Room (k : Nat) (A : Around) : Prop where
  hd : A.handled = none
  dp : A.depth + 3 * k + 5 < recursionLimit
  un : A.units + 16 * k + 200 < cLine
theorem Room.mono {j k : Nat} {A : Around} (r : Room k A) (h : j ≤ k) : Room j A := ⟨r.hd, by have := r.dp; omega, by have := r.un; omega⟩
theorem Room.deeper {k : Nat} {A : Around} (r : Room (k + 1) A) (env : Env) : Room k (A.deeper env) :=
  ⟨r.hd, by have := r.dp; show A.depth + 1 + 3 * k + 5 < _; omega, by have := r.un; show A.units + 3 + 16 * k + 200 < _; omega⟩
theorem Room.in1 {k : Nat} {A : Around} (r : Room (k + 1) A) : Room k A.in1 :=
  ⟨r.hd, by have := r.dp; show A.depth + 3 * k + 5 < _; omega, by have := r.un; show A.units + 1 + 16 * k + 200 < _; omega⟩
theorem Room.depth {k : Nat} {A : Around} (r : Room k A) : A.depth < recursionLimit := by have := r.dp; omega
theorem Room.units {k : Nat} {A : Around} (r : Room k A) : A.units + 64 < cLine := by have := r.un; omega
def tNil : TA := fun _ H Q => Q [] H
def tCons (ta : TE) (tr : TA) : TA := fun σ H Q => ta σ H fun x H1 => tr σ H1 fun xs H2 => Q (x :: xs) H2
section
variable {X : Cx} {e : Expr} {es : List Expr} {te : TE} {t : TA} {pos : Pos}
theorem pa_nil : PA X [] tNil := fun _ _ _ _ H Q I h => Calls.spliced_nil ⟨[], H, I, .nil, h⟩
theorem pa_cons (ha : PE X e te) (hr : PA X es t) (hs : starEach (e :: es) X.env = (false, eval e X.env) :: starEach es X.env := by rfl) : PA X (e :: es) (tCons te t) := by
  intro pos pins s σ H Q I h
  rw [hs]
  show wpAny _ _ (spliced ((false, eval e X.env) :: backTo pos (starEach es X.env))) _ _ s
  refine Calls.spliced_cons (thn (ha pins s σ H _ I h) fun u s1 ⟨x, H1, I1, r1, q1⟩ => ?_)
  exact thn (hr pos pins s1 σ H1 _ I1 q1) fun us s2 ⟨xs, H2, I2, r2, q2⟩ => ⟨x :: xs, H2, I2, .cons r1 r2, q2⟩
def tTup (t : TA) : TE := fun σ H Q => t σ H fun xs H1 => xs.length ≤ sizeLine ∧ ∀ p, H1 p = none → Q (.ref p) (upd H1 p (.tup xs))
def tLst (t : TA) : TE := fun σ H Q => t σ H fun xs H1 => xs.length ≤ sizeLine ∧ ∀ p, H1 p = none → Q (.ref p) (upd H1 p (.lst xs))
theorem pe_tup {x1} (h : PA X es t) : PE X (.Tuple es x1 pos) (tTup t) := by
  intro pins s σ H Q I hq
  refine wpAny_Tuple_spliced (thn (h pos pins s σ H _ I hq) fun us s1 ⟨xs, H1, I1, r, z, q⟩ => ⟨by rw [← r.length]; exact z, ?_⟩)
  have hf : H1 s1.heap.objs.size = none := I1.hok.fresh (Nat.le_refl _)
  refine ⟨.ref s1.heap.objs.size, upd H1 s1.heap.objs.size (.tup xs), I1.laid (t' := s1.toks) (fun b u e => Heap.get?_push_of_some _ e) (Nat.le_refl _) ?_, rfl, q _ hf⟩
  exact ⟨z, us, r, ⟨_, Heap.get?_push_size _ rfl, rfl, _, rfl⟩⟩
theorem pe_lst (h : PA X es t) : PE X (.List es pos) (tLst t) := by
  intro pins s σ H Q I hq
  refine wpAny_List_spliced (thn (h pos pins s σ H _ I hq) fun us s1 ⟨xs, H1, I1, r, z, q⟩ => ⟨by rw [← r.length]; exact z, ?_⟩)
  have hf : H1 s1.heap.objs.size = none := I1.hok.fresh (Nat.le_refl _)
  refine ⟨.ref s1.heap.objs.size, upd H1 s1.heap.objs.size (.lst xs), I1.laid (t' := s1.toks) (fun b u e => Heap.get?_push_of_some _ e) (Nat.le_refl _) ?_, rfl, q _ hf⟩
  exact ⟨z, us, 0, r, Heap.get?_push_size _ rfl⟩
end
abbrev Sp := List V → Hp → VK → XK → Prop
abbrev CXT := List Env → Hp → Shared → XK → Value → Shared → Prop
structure Env0 (P : Program) (w : World) (K : PySem.W.Frag) (mg : Str → Option Value) (base : Heap) (A : Around) (outer : List Env) (s : Shared) (H : Hp) : Prop where
  frames : A.frames = some outer
  mod : Mod K mg base
  bs : ∀ b o, base.get? b = some o → s.heap.get? b = some o ∧ H b = none
  bsz : base.objs.size ≤ s.heap.objs.size
  funs : s.heap.FunFrames base outer
  frf : ∀ b ∈ frs outer, H b = none
  hok : HOk P w H s.heap
  bare : AllBare s.gens
def CE (outer : List Env) (P : Program) (w : World) (H : Hp) (s : Shared) (Q : VK) (u : Value) (s' : Shared) : Prop :=
  ∃ v H', s'.os = s.os ∧ AllBare s'.gens ∧ Un (frs outer) [] H H' s.heap s'.heap ∧ HOk P w H' s'.heap ∧ RelV v u ∧ Q v H'
def CR (CX : CXT) (outer : List Env) (P : Program) (w : World) (H : Hp) (s : Shared) (Q : VK) (E : XK) (r : Result) (s' : Shared) : Prop :=
  match r with
  | .ok (.ret u) => CE outer P w H s Q u s'
  | .ok _ => False
  | .error e => CX outer H s E e s'
structure FnOk (P : Program) (w : World) (K : PySem.W.Frag) (mg : Str → Option Value) (base : Heap) (CX : CXT) (k : Nat) (f : Addr) (fd : FuncData) (ps : List Str) (sp : Sp) : Prop where
  len : ∀ vs H Q E, sp vs H Q E → vs.length = ps.length
  run : ∀ (A : Around) (outer : List Env) (s : Shared) (H : Hp) (args : Args) (us : List Value) (vs : List V) (Q : VK) (E : XK), Room k A → Env0 P w K mg base A outer s H → BindsTo s fd args (ps.zip us) → Vals vs us → sp vs H Q E →
    codeAny (model P w) A (.call (.ref f) args) (CR CX outer P w H s Q E) s
theorem FnOk.mono {P : Program} {w : World} {K : PySem.W.Frag} {mg : Str → Option Value} {base : Heap} {CX : CXT} {j k : Nat} {f : Addr} {fd : FuncData} {ps : List Str} {sp : Sp} (F : FnOk P w K mg base CX j f fd ps sp) (h : j ≤ k) :
    FnOk P w K mg base CX k f fd ps sp := ⟨F.len, fun A outer s H args us vs Q E hr => F.run A outer s H args us vs Q E (hr.mono h)⟩
theorem FnOk.imp {P : Program} {w : World} {K : PySem.W.Frag} {mg : Str → Option Value} {base : Heap} {CX : CXT} {k : Nat} {f : Addr} {fd : FuncData} {ps : List Str} {sp sp' : Sp} (F : FnOk P w K mg base CX k f fd ps sp)
    (h : ∀ vs H Q E, sp' vs H Q E → sp vs H Q E) : FnOk P w K mg base CX k f fd ps sp' :=
  ⟨fun vs H Q E q => F.len vs H Q E (h _ _ _ _ q), fun A outer s H args us vs Q E hr he hb hv hs => F.run A outer s H args us vs Q E hr he hb hv (h _ _ _ _ hs)⟩
theorem Env0.in1 {P : Program} {w : World} {K : PySem.W.Frag} {mg : Str → Option Value} {base : Heap} {A : Around} {outer : List Env} {s : Shared} {H : Hp} (e : Env0 P w K mg base A outer s H) :
    Env0 P w K mg base A.in1 outer s H := ⟨e.frames, e.mod, e.bs, e.bsz, e.funs, e.frf, e.hok, e.bare⟩
section
variable {X : Cx} {pins : List (Addr × Obj)} {σ : St} {H : Hp} {s s' : Shared}
theorem Inv.env0 (I : Inv X pins σ H s) : Env0 X.prog X.w X.K X.mg X.base X.A X.stack s H :=
  ⟨I.ok.frames, I.ok.mod, I.bs, Nat.le_trans I.ok.bsz I.sz, I.stack, I.stkFree, I.hok, I.bare⟩
theorem Inv.after {Q : VK} {u : Value} (I : Inv X pins σ H s) (h : CE X.stack X.prog X.w H s Q u s') : EP X pins σ Q u s' := by
  obtain ⟨v, H', os, bare, un, hok, r, q⟩ := h
  obtain ⟨hh, g, d, t, os'⟩ := s'
  obtain rfl : os' = s.os := os
  exact ⟨v, H', I.call (h' := hh) (g' := g) (d' := d) (t' := t) (ch := []) un hok bare (fun b z => absurd z (by simp)), r, q⟩
end
def tCall (sp : Sp) (dvs : List V) (E : XK) (t : TA) : TE := fun σ H Q => t σ H fun vs H1 => sp (vs ++ dvs) H1 Q E
def Binds (K : PySem.W.Frag) (fd : FuncData) (ps : List Str) (ds : List Value) : Prop :=
  ∀ (s : Shared) (us : List Value), K.In s.heap → (us ++ ds).length = ps.length → BindsTo s fd ⟨us, []⟩ (ps.zip (us ++ ds))
theorem Binds.all {K : PySem.W.Frag} {fd : FuncData} {ps : List Str} (h : ∀ us : List Value, us.length = ps.length → bindArgs fd ⟨us, []⟩ = pure (ps.zip us)) : Binds K fd ps [] := fun s us _ hl => by
  rw [List.append_nil] at hl ⊢
  exact .of_eq (h us hl)
def Passes (CX : CXT) (X : Cx) (E : XK) : Prop := ∀ (pins : List (Addr × Obj)) (σ : St) (H : Hp) (s : Shared) (e : Value) (s' : Shared), Inv X pins σ H s → CX X.stack H s E e s' → X.xe e s'
section
variable {X : Cx} {CX : CXT} {k : Nat} {f C : Addr} {fd : FuncData} {ps : List Str} {sp : Sp} {dvs : List V} {ds : List Value} {E : XK} {x m : Str} {p pos apos : Pos} {e o : Expr} {es : List Expr} {ta : TE} {t : TA}
theorem run_fn {pins : List (Addr × Obj)} {σ : St} {H : Hp} {s : Shared} {Q : VK} {us : List Value} {vs : List V} (F : FnOk X.prog X.w X.K X.mg X.base CX k f fd ps sp) (hr : Room k X.A) (hb : Binds X.K fd ps ds) (hd : Vals dvs ds) (hx : Passes CX X E)
    (I : Inv X pins σ H s) (r : Vals vs us) (h : sp (vs ++ dvs) H Q E) : wpAny (model X.prog X.w) X.A (call (.ref f) us) (EP X pins σ Q) X.xe s := by
  have r2 : Vals (vs ++ dvs) (us ++ ds) := r.append hd
  have hl : (us ++ ds).length = ps.length := by rw [← r2.length]; exact F.len _ _ _ _ h
  refine wpAny_call (codeAny_mono (F.run X.A X.stack s H ⟨us, []⟩ (us ++ ds) (vs ++ dvs) Q E hr I.env0 (hb s us I.kIn hl) r2 h) fun r s' hq => ?_)
  cases r with
  | error e => exact hx pins σ H s e s' I hq
  | ok fl =>
    cases fl with
    | ret u => exact I.after hq
    | next => exact False.elim hq
    | brk => exact False.elim hq
    | cont => exact False.elim hq
theorem pe_call (F : FnOk X.prog X.w X.K X.mg X.base CX k f fd ps sp) (hr : Room k X.A) (hg : Gl X x) (hm : X.mg x = some (.ref f)) (hk : PySem.W.keepIn X.K (.ref f) = true) (hb : Binds X.K fd ps ds) (hd : Vals dvs ds) (hx : Passes CX X E)
    (ha : PA X (e :: es) t) (hdb : (x == ("__debug__" : Str)) = false := by decide) (he : starEach (e :: es) X.env = (false, eval e X.env) :: starEach es X.env := by rfl) (hpl : (backTo pos (starEach es X.env)).any (·.1) = false := by rfl) :
    PE X (.Call (.Name x p) (e :: es) [] pos) (tCall sp dvs E t) := by
  intro pins s σ H Q I h
  refine wpAny_Call_Name_kw (ld_glob I hg hm ?_ hdb)
  refine PySem.W.callWith_K (h₀ := X.base) I.ok.mod.kin hk (thn (ha pos pins s σ H _ I h) fun us s1 ⟨vs, H1, I1, r, q⟩ => ⟨I1.kIn, ?_⟩) he hpl
  exact run_fn F hr hb hd hx I1 r q
end
section
variable {X : Cx} {CX : CXT} {k : Nat} {f C : Addr} {fd : FuncData} {ps ks : List Str} {sp : Sp} {E : XK} {x m : Str} {p pos apos kpos : Pos} {e o : Expr} {es : List Expr} {kws : List Keyword} {te ta : TE} {t tk : TA} {nm : Option Str}
variable {g : List Value → List Value → List Value} {gV : List V → List V → List V}
end
structure FnScope (N P : List Str) (sc : Scope) : Prop where
  kind : sc.kind = .function
  co : sc.isCoroutine = false
  gen : sc.isGenerator = false
  nd : N.Nodup
  pre : N.take P.length = P
  par : ∀ x ∈ P, sc.names.lookup x = some .local ∨ sc.names.lookup x = some .cell
  nofree : ∀ y ∈ sc.names, y.2 ≠ .free
theorem bindL_out {kindOf : Str → Option NameKind} {x : Str} : ∀ {binds : List (Str × Value)} {m : Str → Option Value}, (∀ v, (x, v) ∉ binds) → bindL kindOf binds m x = m x
  | [], _, _ => rfl
  | (n, v) :: r, m, h => by
    unfold bindL
    rw [bindL_out fun w hw => h w (List.mem_cons_of_mem _ hw)]
    split
    · have : x ≠ n := by rintro rfl; exact h v List.mem_cons_self
      simp [this]
    · rfl
theorem bindC_out {kindOf : Str → Option NameKind} {x : Str} : ∀ {binds : List (Str × Value)} {m : Str → Option Value}, (∀ v, (x, v) ∉ binds) → bindC kindOf binds m x = m x
  | [], _, _ => rfl
  | (n, v) :: r, m, h => by
    unfold bindC
    rw [bindC_out fun w hw => h w (List.mem_cons_of_mem _ hw)]
    split
    · rfl
    · have : x ≠ n := by rintro rfl; exact h v List.mem_cons_self
      simp [this]
theorem bindL_get {kindOf : Str → Option NameKind} {x : Str} {v : Value} : ∀ {P : List Str} {vs : List Value} {i : Nat} {m : Str → Option Value}, P.Nodup → P[i]? = some x → vs[i]? = some v → kindOf x = some .local →
    bindL kindOf (P.zip vs) m x = some v
  | [], _, _, _, _, h, _, _ => by simp at h
  | _ :: _, [], _, _, _, _, h, _ => by simp at h
  | p :: P, w :: vs, 0, m, nd, h1, h2, hk => by
    simp at h1 h2; subst h1; subst h2
    show bindL kindOf ((p, w) :: P.zip vs) m p = _
    unfold bindL
    rw [bindL_out fun v hv => (List.nodup_cons.mp nd).1 (List.of_mem_zip hv).1, if_pos hk]
    simp
  | p :: P, w :: vs, i + 1, m, nd, h1, h2, hk => by
    show bindL kindOf ((p, w) :: P.zip vs) m x = _
    unfold bindL
    exact bindL_get (i := i) (List.nodup_cons.mp nd).2 (by simpa using h1) (by simpa using h2) hk
theorem bindC_get {kindOf : Str → Option NameKind} {x : Str} {v : Value} : ∀ {P : List Str} {vs : List Value} {i : Nat} {m : Str → Option Value}, P.Nodup → P[i]? = some x → vs[i]? = some v → kindOf x ≠ some .local →
    bindC kindOf (P.zip vs) m x = some v
  | [], _, _, _, _, h, _, _ => by simp at h
  | _ :: _, [], _, _, _, _, h, _ => by simp at h
  | p :: P, w :: vs, 0, m, nd, h1, h2, hk => by
    simp at h1 h2; subst h1; subst h2
    show bindC kindOf ((p, w) :: P.zip vs) m p = _
    unfold bindC
    rw [bindC_out fun v hv => (List.nodup_cons.mp nd).1 (List.of_mem_zip hv).1, if_neg hk]
    simp
  | p :: P, w :: vs, i + 1, m, nd, h1, h2, hk => by
    show bindC kindOf ((p, w) :: P.zip vs) m x = _
    unfold bindC
    exact bindC_get (i := i) (List.nodup_cons.mp nd).2 (by simpa using h1) (by simpa using h2) hk
def start (N : List Str) (vs : List V) : St := vs.map some ++ List.replicate (N.length - vs.length) none
def cxOf (CX : CXT) (P : Program) (w : World) (K : PySem.W.Frag) (mg : Str → Option Value) (base : Heap) (N : List Str) (qual : Str) (scope : Scope) (f : Addr) (cd : Value) (A : Around) (outer : List Env) (s : Shared) (H : Hp) (E : XK) : Cx where
  prog := P
  w := w
  K := K
  mg := mg
  base := base
  A := A.deeper (envOfC qual scope s.heap.objs.size f cd)
  N := N
  s₀ := s
  H₀ := H
  env := envOfC qual scope s.heap.objs.size f cd
  outer := outer
  stack := envOfC qual scope s.heap.objs.size f cd :: outer
  ex := []
  calm := true
  fn := fun _ => true
  pn := []
  xe := fun e s' => wpAny (model P w) (A.deeper (envOfC qual scope s.heap.objs.size f cd)) (leaving (envOfC qual scope s.heap.objs.size f cd) e) (fun _ s'' => CX outer H s E e s'') (fun e' s'' => CX outer H s E e' s'') s'
theorem cell_has {sc : Scope} {n : Nat} {x : Str} (h : sc.names.lookup x = some .cell) : ∃ c, (cellsFrom n sc.names []).lookup x = some c := by
  have q := PySem.W.cellsFrom_some sc.names n [] (.inl h)
  exact Option.isSome_iff_exists.mp q
theorem inv_start {CX : CXT} {P : Program} {w : World} {K : PySem.W.Frag} {mg : Str → Option Value} {base : Heap} {N ps : List Str} {qual : Str} {scope : Scope} {f : Addr} {cd : Value} {A : Around} {outer : List Env} {s s1 : Shared} {H : Hp} {E : XK} {us : List Value} {vs : List V}
    (S : FnScope N ps scope) (hd : A.handled = none) (e0 : Env0 P w K mg base A outer s H) (hl : vs.length = ps.length) (r : Vals vs us)
    (x : InCallC s s.heap.objs.size (bindL (envOfC qual scope s.heap.objs.size f cd).kindOf (ps.zip us) fun _ => none) (cellsFrom (s.heap.objs.size + 1) scope.names []) (bindC (envOfC qual scope s.heap.objs.size f cd).kindOf (ps.zip us) fun _ => none) s1) :
    Inv (cxOf CX P w K mg base N qual scope f cd A outer s H E) [] (start N vs) H s1 := by
  have hpl : ps.length ≤ N.length := by have := congrArg List.length S.pre; rw [List.length_take] at this; omega
  obtain ⟨h1, tk, rfl, hk⟩ := x.done
  have noA : ∀ b : Addr, b ∉ (cxOf CX P w K mg base N qual scope f cd A outer s H E).ex := fun b z => absurd (show b ∈ ([] : List Addr) from z) (by simp)
  refine ⟨⟨e0.mod, S.kind, rfl, rfl, Nat.le_refl _, fun y z c h1 h2 => ?_, fun y hy => ?_, fun y c _ h => ?_, fun _ => hd, Around.frames_deeper e0.frames, .inr ⟨rfl, rfl⟩, fun b z => absurd z (noA b), e0.bs, e0.bsz, fun b _ _ => noA b, fun b z => absurd z (noA b), e0.funs, e0.frf⟩,
    rfl, e0.bare, Un.kept hk, ⟨_, x.toInCall.ns, fun i y v h1 h2 h3 => ?_⟩, fun y c h => ⟨_, x.cell y c h⟩, e0.hok.fresh (Nat.le_refl _), fun y c h => ?_, fun p hp => absurd (show p ∈ ([] : List (Addr × Obj)) from hp) (by simp), e0.hok.kept hk, ?_⟩
  · exact name_of_addr x.apart (PySem.mem_of_lookup h1) (PySem.mem_of_lookup h2)
  · have hy : scope.names.lookup y = some .cell ∨ scope.names.lookup y = some .free := hy
    rcases hy with hy | hy
    · exact cell_has hy
    · exact absurd rfl (S.nofree _ (PySem.mem_of_lookup hy))
  · exact Nat.le_of_lt (x.above y c (PySem.mem_of_lookup h))
  · have hi : i < vs.length := by
      unfold start at h2
      by_cases hi : i < vs.length
      · exact hi
      · rw [List.getElem?_append_right (by simpa using hi)] at h2
        rw [List.getElem?_replicate] at h2
        split at h2 <;> cases h2
    have ha : vs[i]? = some v := by
      unfold start at h2
      rw [List.getElem?_append_left (by simpa using hi), List.getElem?_map] at h2
      cases e : vs[i]? with
      | none => rw [e] at h2; cases h2
      | some a => rw [e] at h2; cases h2; rfl
    obtain ⟨u, hu, rv⟩ := r.get ha
    have hp : ps[i]? = some y := by
      rw [← S.pre, List.getElem?_take_of_lt (by omega)]; exact h1
    have ndP : ps.Nodup := by rw [← S.pre]; exact S.nd.sublist (List.take_sublist _ _)
    refine ⟨u, rv, ?_⟩
    rcases S.par y (List.mem_of_getElem? hp) with k | k
    · exact .inl ⟨k, bindL_get ndP hp hu k⟩
    · obtain ⟨c, e⟩ := cell_has (n := s.heap.objs.size + 1) k
      refine .inr ⟨.inl k, c, e, ?_⟩
      have q := x.cell y c e
      rw [bindC_get ndP hp hu (by show scope.names.lookup y ≠ _; rw [k]; decide)] at q
      exact q
  · exact e0.hok.fresh (Nat.le_of_lt (x.above y c (PySem.mem_of_lookup h)))
  · unfold start
    show _ = N.length
    rw [List.length_append, List.length_map, List.length_replicate]
    omega
theorem fn_of {CX : CXT} {P : Program} {w : World} {K : PySem.W.Frag} {mg : Str → Option Value} {base : Heap} {k : Nat} {f : Addr} {name qual : Str} {params : Arguments} {body : List Stmt} {scope : Scope} {dV kV doc pm cdv ct oc : Value} {an od : Option Addr}
    {osl : Array (Option Value)} {N ps : List Str} {sp : Sp} (lk : K.lookup f = some ⟨oc, od, .func (PySem.W.fnOf name qual params body scope dV kV doc pm an cdv ct), osl⟩) (hcd : PySem.W.codeIn K cdv qual = true) (S : FnScope N ps scope)
    (len : ∀ vs H Q E, sp vs H Q E → vs.length = ps.length)
    (hbody : ∀ (A : Around) (outer : List Env) (s : Shared) (H : Hp) (vs : List V) (Q : VK) (E : XK), Room k (A.deeper (envOfC qual scope s.heap.objs.size f cdv)) → sp vs H Q E →
      ∃ t, PSs (cxOf CX P w K mg base N qual scope f cdv A outer s H E) body t ∧ t { nx := fun _ H' => Q .non H', rt := Q } (start N vs) H) :
    FnOk P w K mg base CX (k + 1) f (PySem.W.fnOf name qual params body scope dV kV doc pm an cdv ct) ps sp := by
  refine ⟨len, fun A outer s H args us vs Q E hr e0 hb r hsp => ?_⟩
  have hl := len _ _ _ _ hsp
  have KX : K.In s.heap := e0.mod.kin.keeps fun b o e => (e0.bs b o e).1
  have lim : s.heap.NoLimit := e0.mod.nolimit.keeps fun b o e => (e0.bs b o e).1
  have hkind : ∀ y ∈ ps.zip us, scope.names.lookup y.1 = some .local ∨ (scope.names.lookup y.1 = some .cell ∧ ((cellsFrom (s.heap.objs.size + 1) scope.names []).lookup y.1).isSome = true) := fun ⟨n, v⟩ hy => by
    rcases S.par n (List.of_mem_zip hy).1 with q | q
    · exact .inl q
    · exact .inr ⟨q, PySem.W.cellsFrom_some _ _ _ (.inl q)⟩
  refine codeAny_call_function hr.depth (KX _ _ lk) rfl S.co S.gen rfl (PySem.W.codeRec_of KX hcd) (hb _ _ _ _ ?_)
  refine wpAny_newFunctionEnv_cells S.kind hkind fun env he s1 x => ?_
  subst he
  refine ⟨lim.keeps x.toInCall.keep, codeAny_func ?_⟩
  obtain ⟨t, ht, hq⟩ := hbody A outer s H vs Q E (hr.deeper _) hsp
  have I : Inv (cxOf CX P w K mg base N qual scope f cdv A outer s H E) [] (start N vs) H s1 := inv_start S hr.hd e0 hl r x
  refine wpAny_mono (ht [] s1 (start N vs) H _ I hq) (fun fl s' hs => ?_) fun e s' hs => hs
  have fin : ∀ {σ' : St} {H' : Hp} {v : V} {u : Value}, Inv (cxOf CX P w K mg base N qual scope f cdv A outer s H E) [] σ' H' s' → RelV v u → Q v H' → CE outer P w H s Q u s' :=
    fun {σ' H' v u} J rv q => ⟨v, H', J.os, J.bare, J.base, J.hok, rv, q⟩
  cases fl with
  | ret u =>
    obtain ⟨v, σ', H', J, rv, q⟩ := hs
    exact fin J rv q
  | next =>
    obtain ⟨σ', H', J, q⟩ := hs
    exact fin (v := V.non) (u := Value.none) J rfl q
  | brk =>
    obtain ⟨_, _, _, q⟩ := hs
    exact False.elim q
  | cont =>
    obtain ⟨_, _, _, q⟩ := hs
    exact False.elim q
end L2
namespace L2
open PySem PySem.Spec PyProof.Rows
section
variable {X : Cx} {x : Str} {p pos : Pos} {e : Expr} {es : List Expr} {t : TA} {id T : String} {r : List V → Hp → VK → Prop}
def tCB (r : List V → Hp → VK → Prop) (t : TA) : TE := fun σ H Q => t σ H fun vs H1 => r vs H1 Q
theorem pe_callB (hc : CallR X (.builtin id) r) (hg : Gl X x) (hm : X.mg x = none) (hv : bootBuiltins x = some (.builtin id)) (ha : PA X (e :: es) t) (hn : x ≠ "__name__" := by decide) (hdb : (x == ("__debug__" : Str)) = false := by decide)
    (he : starEach (e :: es) X.env = (false, eval e X.env) :: starEach es X.env := by rfl) (hpl : (backTo pos (starEach es X.env)).any (·.1) = false := by rfl) : PE X (.Call (.Name x p) (e :: es) [] pos) (tCB r t) := by
  intro pins s σ H Q I h
  refine wpAny_Call_Name_kw (ld_blt I hg hm hv ?_ hn hdb)
  exact PyProof.Rows.callWith_builtin1 (thn (ha pos pins s σ H _ I h) fun us s1 ⟨vs, H1, I1, r1, q1⟩ => hc pins s1 σ H1 vs us Q I1 r1 q1) he hpl
theorem pe_callTy (hc : CallR X (.type T) r) (hg : Gl X x) (hm : X.mg x = none) (hv : bootBuiltins x = some (.type T)) (ha : PA X (e :: es) t) (hn : x ≠ "__name__" := by decide) (hdb : (x == ("__debug__" : Str)) = false := by decide)
    (he : starEach (e :: es) X.env = (false, eval e X.env) :: starEach es X.env := by rfl) (hpl : (backTo pos (starEach es X.env)).any (·.1) = false := by rfl) : PE X (.Call (.Name x p) (e :: es) [] pos) (tCB r t) := by
  intro pins s σ H Q I h
  refine wpAny_Call_Name_kw (ld_blt I hg hm hv ?_ hn hdb)
  exact PyProof.Rows.callWith_type1 (thn (ha pos pins s σ H _ I h) fun us s1 ⟨vs, H1, I1, r1, q1⟩ => hc pins s1 σ H1 vs us Q I1 r1 q1) he hpl
end
end L2
namespace HT
open PySem PyProof.Rows
def lexLt : List Int → List Int → Bool
  | [], [] => false
  | [], _ :: _ => true
  | _ :: _, [] => false
  | x :: xs, y :: ys => if x = y then lexLt xs ys else decide (x < y)
theorem lexLt_cons (x y : Int) (xs ys : List Int) : lexLt (x :: xs) (y :: ys) = if x = y then lexLt xs ys else decide (x < y) := rfl
theorem eqAt_int (A : Around) (s : Shared) (a : Int) (t : Tok) (c : Int) (u : Tok) : ∃ e, SeqAt.EqAt A s (.int a t) (.int c u) e ∧ (e = true ↔ a = c) :=
  ⟨(a == c), SeqAt.EqAt.int_int a t c u, by simp⟩
theorem rcLt_int (A : Around) (s : Shared) (a : Int) (t : Tok) (c : Int) (u : Tok) (prog : Program) (w : World) (E : Value → Shared → Prop) (Q : Value → Shared → Prop) (h : Q (.bool (decide (a < c))) s) :
    wpAny (model prog w) A (richCompare .Lt (.int a t) (.int c u)) Q E s :=
  (PyProof.Rows.lt_int h : wpAny (model prog w) A (compareOp .Lt (.int a t) (.int c u)) Q E s)
section
open PySem.SeqAt
open PySem.AutoSeq1 (wpAny_loadPart')
open PySem.MeetsSeq PySem.MeetsSeq2 PySem.MeetsSeq3
end
section
variable {prog : Program} {w : World} {A : Around} {E : Value → Shared → Prop} {s : Shared}
def sIx (n d : Nat) : Option Int → Nat
  | none => d
  | some v => if v < 0 then (v + (n : Int)).toNat else min v.toNat n
theorem sIx_le (n d : Nat) (hd : d ≤ n) (o : Option Int) : sIx n d o ≤ n := by
  cases o with
  | none => exact hd
  | some v =>
    show (if v < 0 then (v + (n : Int)).toNat else min v.toNat n) ≤ n
    by_cases hv : v < 0
    · rw [if_pos hv]; omega
    · rw [if_neg hv]; exact Nat.min_le_right _ _
end
end HT
namespace L2
open PySem PySem.Spec PyProof.Rows
abbrev TO := St → Hp → (Option Int → Hp → Prop) → Prop
def PO (X : Cx) (e : Option Expr) (t : TO) : Prop :=
  ∀ (pins : List (Addr × Obj)) (s : Shared) (σ : St) (H : Hp) (Q : Option Int → Hp → Prop), Inv X pins σ H s → t σ H Q →
    wpAny (model X.prog X.w) X.A (evalPart e X.env) (fun u s' => ∃ o H', Inv X pins σ H' s' ∧ IsPart u o ∧ Q o H') X.xe s
def tNoPart : TO := fun _ H Q => Q none H
theorem intsAre_of {ns : List Int} : ∀ {us : List Value}, Vals (ns.map V.int) us → IntsAre us ns := by
  induction ns with
  | nil => intro us r; rw [List.map_nil] at r; cases r; exact .nil
  | cons n ns ih =>
    intro us r
    rw [List.map_cons] at r
    cases r with
    | cons r1 r2 =>
      obtain ⟨t, e⟩ := r1
      subst e
      exact .cons n t (ih r2)
section
variable {X : Cx} {e : Expr} {te : TE} {lo hi : Option Expr} {tl th : TO} {pos p2 : Pos}
theorem po_none : PO X none tNoPart := by
  intro pins s σ H Q I h
  rw [evalPart_none]
  exact wpAny_pure ⟨none, H, I, .none, h⟩
def SlR (X : Cx) (r : V → Option Int → Option Int → Hp → VK → Prop) : Prop :=
  ∀ (pins : List (Addr × Obj)) (s : Shared) (σ : St) (H : Hp) (x : V) (v vl vu : Value) (lo hi : Option Int) (sl : Addr) (Q : VK), Inv X pins σ H s → RelV x v → s.heap.IsSliceOf sl vl vu .none → IsPart vl lo → IsPart vu hi → r x lo hi H Q →
    ∃ T id, typeLookup (.type T) "__getitem__" = pure (some (.builtin id)) ∧ s.TypeIs v T ∧ wpAny (model X.prog X.w) X.A (getItem v (.ref sl)) (EP X pins σ Q) X.xe s
def tSl (r : V → Option Int → Option Int → Hp → VK → Prop) (te : TE) (tl th : TO) : TE := fun σ H Q => te σ H fun x H1 => tl σ H1 fun l H2 => th σ H2 fun u H3 => r x l u H3 Q
theorem pe_slice {r : V → Option Int → Option Int → Hp → VK → Prop} (hr : SlR X r) (he : PE X e te) (hl : PO X lo tl) (hu : PO X hi th) : PE X (.Subscript e (.Slice lo hi none p2) pos) (tSl r te tl th) := by
  intro pins s σ H Q I h
  refine Subscript_ (thn (he pins s σ H _ I h) fun v s1 ⟨x, H1, I1, r1, q1⟩ => ?_)
  refine wpAny_Slice (thn (hl pins s1 σ H1 _ I1 q1) fun vl s2 ⟨l, H2, I2, pl, q2⟩ => thn (hu pins s2 σ H2 _ I2 q2) fun vu s3 ⟨u, H3, I3, pu, q3⟩ => ?_)
  rw [evalPart_none]
  refine wpAny_pure ?_
  have I4 : Inv X pins σ H3 { s3 with heap := s3.heap.push { cls := .type "slice", data := .fields #[vl, vu, .none] } } := I3.kept (t' := s3.toks) fun b ob q => Heap.get?_push_of_some _ q
  obtain ⟨T, id, hT, ht, hg⟩ := hr pins { s3 with heap := s3.heap.push { cls := .type "slice", data := .fields #[vl, vu, .none] } } σ H3 x v vl vu l u s3.heap.objs.size Q I4 r1 (Heap.IsSliceOf.new ..) pl pu q3
  show wpAny (model X.prog X.w) X.A (subscriptTail e (.Slice lo hi none p2) v (.ref s3.heap.objs.size)) (EP X pins σ Q) X.xe { s3 with heap := s3.heap.push { cls := .type "slice", data := .fields #[vl, vu, .none] } }
  exact tail_any (ops := [.ref s3.heap.objs.size, v]) ht hT hg (by with_unfolding_all rfl)
def cutV (xs : List V) (lo hi : Option Int) : List V := (xs.drop (HT.sIx xs.length 0 lo)).take (HT.sIx xs.length xs.length hi - HT.sIx xs.length 0 lo)
theorem cutV_length (xs : List V) (lo hi : Option Int) : (cutV xs lo hi).length ≤ xs.length := by
  unfold cutV
  rw [List.length_take, List.length_drop]
  omega
end
end L2
namespace L2
open PySem PySem.Spec PyProof.Rows
def ixN (n : Nat) (i : Int) : Option Nat := if 0 ≤ i then (if i < n then some i.toNat else none) else if -(n : Int) ≤ i then some (i + n).toNat else none
def atI {α : Type} (xs : List α) (i : Int) : Option α := (ixN xs.length i).bind fun j => xs[j]?
theorem ixN_seq {n : Nat} {i : Int} {j : Nat} (h : ixN n i = some j) : seqIndex? i n = some j ∧ j < n ∧ -(n : Int) ≤ i ∧ i < n := by
  unfold ixN at h
  by_cases h0 : 0 ≤ i
  · rw [if_pos h0] at h
    by_cases h1 : i < n
    · rw [if_pos h1] at h
      have e : i.toNat = j := Option.some.inj h
      exact ⟨by rw [seqIndex_of h0 h1, e], by omega, by omega, h1⟩
    · rw [if_neg h1] at h; cases h
  · rw [if_neg h0] at h
    by_cases h1 : -(n : Int) ≤ i
    · rw [if_pos h1] at h
      have e : (i + n).toNat = j := Option.some.inj h
      exact ⟨by rw [seqIndex_neg (by omega) h1, e], by omega, h1, by omega⟩
    · rw [if_neg h1] at h; cases h
theorem atI_get {α : Type} {xs : List α} {i : Int} {v : α} (h : atI xs i = some v) : ∃ j, seqIndex? i xs.length = some j ∧ xs[j]? = some v ∧ j < xs.length ∧ -(xs.length : Int) ≤ i ∧ i < xs.length := by
  unfold atI at h
  cases e : ixN xs.length i with
  | none => rw [e] at h; cases h
  | some j =>
    rw [e] at h
    obtain ⟨h1, h2, h3, h4⟩ := ixN_seq e
    exact ⟨j, h1, h, h2, h3, h4⟩
theorem atI_last {α : Type} (xs : List α) (v : α) : atI (xs ++ [v]) (-1) = some v := by
  have hl : (xs ++ [v]).length = xs.length + 1 := by simp
  have e : ixN (xs ++ [v]).length (-1) = some xs.length := by
    unfold ixN
    rw [hl, if_neg (by decide), if_pos (by omega)]
    congr 1
    omega
  unfold atI
  rw [e]
  show (xs ++ [v])[xs.length]? = some v
  simp
def PlainIx (b : Expr) : Prop := ∀ o i, subscripted b false o i = operate [o, i] (getItem o i)
def IxR (X : Cx) (r : R2) : Prop :=
  ∀ (value slice : Expr) (pins : List (Addr × Obj)) (s : Shared) (σ : St) (H : Hp) (x y : V) (v u : Value) (Q : VK), Inv X pins σ H s → RelV x v → RelV y u → r x y H Q →
    subscripted slice false v u = operate [v, u] (getItem v u) → wpAny (model X.prog X.w) X.A (subscriptTail value slice v u) (EP X pins σ Q) X.xe s
def MtR (X : Cx) (id : String) (r : V → List V → Hp → VK → Prop) : Prop :=
  ∀ (pins : List (Addr × Obj)) (s : Shared) (σ : St) (H : Hp) (x : V) (xs : List V) (v : Value) (us : List Value) (Q : VK), Inv X pins σ H s → RelV x v → Vals xs us → r x xs H Q →
    wpAny (model X.prog X.w) X.A (call (.builtin id) (v :: us)) (EP X pins σ Q) X.xe s
section
variable {X : Cx} {a b : Expr} {ta tb : TE} {pos : Pos}
theorem pe_ix {r : R2} (hr : IxR X r) (ha : PE X a ta) (hb : PE X b tb) (hs : PlainIx b) : PE X (.Subscript a b pos) (tOp r ta tb) := by
  intro pins s σ H Q I h
  exact Subscript_ (binT ha hb I h fun v u s2 x y H2 I2 rx ry q => hr a b pins s2 σ H2 x y v u Q I2 rx ry q (hs _ _))
def rIxL (K : PySem.W.Frag) : R2 := fun x y H Q => ∃ p xs i v, x = .ref p ∧ y = .int i ∧ SqL K H p xs ∧ atI xs i = some v ∧ Q v H
def rIxT (K : PySem.W.Frag) : R2 := fun x y H Q => ∃ p xs i v, x = .ref p ∧ y = .int i ∧ SqT K H p xs ∧ atI xs i = some v ∧ Q v H
def rIxS : R2 := fun x y H Q => ∃ z i c, x = .str z ∧ y = .int i ∧ z.length ≤ sizeLine ∧ atI z.cps.toList i = some c ∧ Q (.str ⟨#[c]⟩) H
theorem ix_list : IxR X (rIxL X.K) := by
  intro value slice pins s σ H x y v u Q I rx ry h hs
  obtain ⟨p, xs, i, z, rfl, rfl, hq, he, q⟩ := h
  cases rx
  obtain ⟨t, rfl⟩ := ry
  obtain ⟨its, r, pl, hz⟩ := I.list hq
  obtain ⟨j, h1, h2, h3, h4, h5⟩ := atI_get he
  obtain ⟨w, ew, rw'⟩ := r.get h2
  have hl := r.length
  have hn := line63
  have fin : EP X pins σ Q w s := ⟨z, H, I, rw', q⟩
  by_cases h0 : 0 ≤ i
  · have hj : i.toNat = j := by
      rw [seqIndex_of h0 h5] at h1
      exact Option.some.inj h1
    exact item_listR pl.isList h0 (by omega) (by rw [hj]; simpa using ew) fin hs
  · have hj : (i + (its.toArray.size : Int)).toNat = j := by
      rw [seqIndex_neg (by omega) h4] at h1
      rw [List.size_toArray, ← hl]
      exact Option.some.inj h1
    exact subscriptTail_builtinR (x := w) pl.isList.typeIs slot_list_getitem.lookup
      (wpAny_getItem_list_neg (Q := fun r s' => r = w ∧ EP X pins σ Q r s') pl.isList (by omega) (by rw [List.size_toArray] <;> omega) (by omega) (by rw [hj]; simpa using ew) ⟨rfl, fin⟩) hs
theorem ix_tup : IxR X (rIxT X.K) := by
  intro value slice pins s σ H x y v u Q I rx ry h hs
  obtain ⟨p, xs, i, z, rfl, rfl, hq, he, q⟩ := h
  cases rx
  obtain ⟨t, rfl⟩ := ry
  obtain ⟨its, r, pl, hz⟩ := I.tuple hq
  obtain ⟨j, h1, h2, h3, h4, h5⟩ := atI_get he
  obtain ⟨w, ew, rw'⟩ := r.get h2
  have hl := r.length
  have hn := line63
  have fin : EP X pins σ Q w s := ⟨z, H, I, rw', q⟩
  exact subscriptTail_builtinR (x := w) pl.typeIs slot_tuple_getitem.lookup
    (getItem_tuple (j := j) (Q := fun r s' => r = w ∧ EP X pins σ Q r s') pl (by omega) (by omega) (by rw [List.size_toArray, ← hl]; exact h1) (by simpa using ew) ⟨rfl, fin⟩) hs
theorem ix_str : IxR X rIxS := by
  intro value slice pins s σ H x y v u Q I rx ry h hs
  obtain ⟨z, i, c, rfl, rfl, hz, he, q⟩ := h
  obtain ⟨t, rfl⟩ := rx
  obtain ⟨t', rfl⟩ := ry
  obtain ⟨j, h1, h2, h3, h4, h5⟩ := atI_get he
  have hl : z.cps.toList.length = z.length := by simp [Str.length]
  rw [hl] at h1 h4 h5
  have hn := line63
  exact tail_any (typeIs_str s z t) slot_str_getitem.lookup (getItem_str (c := c) (by
    have e1 : decide (i < -(2 ^ 63 : Int)) = false := decide_eq_false (by omega)
    have e2 : decide (i ≥ 2 ^ 63) = false := decide_eq_false (by omega)
    rw [e1, e2, Bool.or_false]) (by rw [h1]; simpa using h2) ⟨.str ⟨#[c]⟩, H, I.tok _, ⟨_, rfl⟩, q⟩) hs
theorem mapSeq_set (its : List Value) (n j : Nat) (u : Value) : Obj.mapSeq (·.setIfInBounds j u) { cls := .type "list", data := .seq its.toArray n } = { cls := .type "list", data := .seq (its.set j u).toArray n } := by
  simp [Obj.mapSeq]
theorem Inv.lst {pins : List (Addr × Obj)} {σ : St} {H : Hp} {s : Shared} {p : Addr} {xs : List V} (I : Inv X pins σ H s) (h : H p = some (.lst xs)) :
    ∃ (its : List Value) (n : Nat), Vals xs its ∧ s.heap.get? p = some { cls := .type "list", data := .seq its.toArray n } ∧ xs.length ≤ sizeLine := by
  obtain ⟨z, its, n, r, e⟩ := I.hok p _ h
  exact ⟨its, n, r, e, z⟩
theorem Inv.lstUpd {pins : List (Addr × Obj)} {σ : St} {H : Hp} {s : Shared} {p : Addr} {xs ys : List V} {its its' : List Value} {n n' : Nat} {f : Obj → Obj} (I : Inv X pins σ H s) (h : H p = some (.lst xs))
    (ho : s.heap.get? p = some { cls := .type "list", data := .seq its.toArray n }) (hf : f { cls := .type "list", data := .seq its.toArray n } = { cls := .type "list", data := .seq its'.toArray n' }) (r : Vals ys its') (hz : ys.length ≤ sizeLine) (t : Nat) :
    Inv X pins σ (upd H p (.lst ys)) { s with heap := s.heap.update p f, toks := t } := by
  have e : (s.heap.update p f).get? p = some { cls := .type "list", data := .seq its'.toArray n' } := by
    rw [Heap.get?_update_self f ho (by rw [hf] <;> rfl), hf]
  refine I.write (x := p) (e := p) (by rw [h]; trivial) (.inl rfl) (fun b u hb q => (Heap.get?_update_other _ _ (Ne.symm hb)).trans q) ⟨_, e⟩ ?_
  exact ⟨hz, its', n', r, e⟩
def rSetL : V → V → V → Hp → (Hp → Prop) → Prop := fun o i v H Q => ∃ p xs k j, o = .ref p ∧ i = .int k ∧ H p = some (.lst xs) ∧ ixN xs.length k = some j ∧ Q (upd H p (.lst (xs.set j v)))
theorem set_list : PSet X rSetL := by
  intro pins s σ H o i v ov iv u Q I ro ri rv h
  obtain ⟨p, xs, k, j, rfl, rfl, hp, hj, q⟩ := h
  cases ro
  obtain ⟨t, rfl⟩ := ri
  obtain ⟨its, n, r, ho, hz⟩ := I.lst hp
  obtain ⟨h1, h2, h3, h4⟩ := ixN_seq hj
  have hl := r.length
  have hn := line63
  have I' : Inv X pins σ (upd H p (.lst (xs.set j v))) { s with heap := s.heap.update p (Obj.mapSeq (·.setIfInBounds j u)) } :=
    I.lstUpd hp ho (mapSeq_set its n j u) (r.set rv j) (by rw [List.length_set]; exact hz) s.toks
  by_cases h0 : 0 ≤ k
  · have hk : k.toNat = j := by
      rw [seqIndex_of h0 h4] at h1
      exact Option.some.inj h1
    exact PySem.W.ki_setAt ho h0 (by omega) (by rw [List.size_toArray, ← hl]; exact h4) (by rw [hk]; exact ⟨_, I', q⟩)
  · have hk : (k + (its.toArray.size : Int)).toNat = j := by
      rw [seqIndex_neg (by omega) h3] at h1
      rw [List.size_toArray, ← hl]
      exact Option.some.inj h1
    exact PySem.W.ki_setBack ho (by omega) (by rw [List.size_toArray, ← hl]; exact h3) (by omega) (by rw [hk]; exact ⟨_, I', q⟩)
theorem slice_bounds (lo hi : Option Int) (n : Nat) : (sliceBounds lo hi none n).1 = ((HT.sIx n 0 lo : Nat) : Int) ∧ (sliceBounds lo hi none n).2.1 = ((HT.sIx n n hi : Nat) : Int) ∧ (sliceBounds lo hi none n).2.2 = 1 := by
  refine ⟨?_, ?_, rfl⟩
  · cases lo with
    | none => simp [sliceBounds, HT.sIx]
    | some i =>
      simp only [sliceBounds, HT.sIx, Option.getD_none, show (1 : Int) > 0 by decide, if_true]
      by_cases h : i < 0
      · simp only [h, if_true] <;> omega
      · simp only [h, if_false] <;> omega
  · cases hi with
    | none => simp [sliceBounds, HT.sIx]
    | some i =>
      simp only [sliceBounds, HT.sIx, Option.getD_none, show (1 : Int) > 0 by decide, if_true]
      by_cases h : i < 0
      · simp only [h, if_true] <;> omega
      · simp only [h, if_false] <;> omega
theorem slicePick_cut (its : List Value) (lo hi : Option Int) : slicePick its.toArray lo hi none = ((its.drop (HT.sIx its.length 0 lo)).take (HT.sIx its.length its.length hi - HT.sIx its.length 0 lo)).toArray := by
  obtain ⟨h1, h2, h3⟩ := slice_bounds lo hi its.toArray.size
  unfold slicePick
  rw [h1, h2, h3]
  simp only [sliceRange_one, pick_run, List.size_toArray] <;> rfl
def rSlL (K : PySem.W.Frag) : V → Option Int → Option Int → Hp → VK → Prop := fun x lo hi H Q => ∃ a xs, x = .ref a ∧ SqL K H a xs ∧ ∀ p, H p = none → Q (.ref p) (upd H p (.lst (cutV xs lo hi)))
theorem sl_list : SlR X (rSlL X.K) := by
  intro pins s σ H x v vl vu lo hi sl Q I rx hs pl pu h
  obtain ⟨a, xs, rfl, hx, q⟩ := h
  cases rx
  obtain ⟨its, r, ht, hz⟩ := I.list hx
  have hlen := r.length
  refine ⟨"list", _, slot_list_getitem.lookup, ht.isList.typeIs, ?_⟩
  refine wpAny_getItem_list_slice ht.isList hs pl pu .none (by simp) ?_ (by rw [List.size_toArray] <;> omega)
  rw [slicePick_cut, ← hlen]
  refine ⟨.ref s.heap.objs.size, _, I.laid (t' := s.toks) (o := .lst (cutV xs lo hi)) (fun b ob q => Heap.get?_push_of_some _ q) (Nat.le_refl _) ?_, rfl, q _ (I.hok.fresh (Nat.le_refl _))⟩
  exact ⟨Nat.le_trans (cutV_length xs lo hi) hz, _, 0, (r.drop (HT.sIx xs.length 0 lo)).take (HT.sIx xs.length xs.length hi - HT.sIx xs.length 0 lo), Heap.get?_push_size _ rfl⟩
def flatV : V → Bool
  | .non => true
  | .bl _ => true
  | .int _ => true
  | .str _ => true
  | _ => false
def eqV : V → V → Bool
  | .non, .non => true
  | .bl a, .bl b => a == b
  | .bl a, .int b => (if a then 1 else 0) == b
  | .int a, .bl b => a == (if b then 1 else 0)
  | .int a, .int b => a == b
  | .str a, .str b => a == b
  | _, _ => false
theorem eqAt_V {A : Around} {s : Shared} {y x : V} {u v : Value} (ry : RelV y u) (rx : RelV x v) (fy : flatV y = true) (fx : flatV x = true) : SeqAt.EqAt A s u v (eqV y x) := by
  cases y with
  | non =>
    cases ry
    cases x with
    | non => cases rx; exact SeqAt.EqAt.same _
    | bl b => cases rx; exact SeqAt.EqAt.none_bool b
    | int b => obtain ⟨t, rfl⟩ := rx; exact SeqAt.EqAt.none_int b t
    | str b => obtain ⟨t, rfl⟩ := rx; exact SeqAt.EqAt.none_str b t
    | _ => exact absurd (show false = true from fx) Bool.false_ne_true
  | bl a =>
    cases ry
    cases x with
    | non => cases rx; exact SeqAt.EqAt.bool_none a
    | bl b => cases rx; exact SeqAt.EqAt.bool_bool a b
    | int b => obtain ⟨t, rfl⟩ := rx; exact SeqAt.EqAt.bool_int a b t
    | str b => obtain ⟨t, rfl⟩ := rx; exact SeqAt.EqAt.bool_str a b t
    | _ => exact absurd (show false = true from fx) Bool.false_ne_true
  | int a =>
    obtain ⟨t', rfl⟩ := ry
    cases x with
    | non => cases rx; exact SeqAt.EqAt.int_none a t'
    | bl b => cases rx; exact SeqAt.EqAt.int_bool a t' b
    | int b => obtain ⟨t, rfl⟩ := rx; exact SeqAt.EqAt.int_int a t' b t
    | str b => obtain ⟨t, rfl⟩ := rx; exact SeqAt.EqAt.int_str a t' b t
    | _ => exact absurd (show false = true from fx) Bool.false_ne_true
  | str a =>
    obtain ⟨t', rfl⟩ := ry
    cases x with
    | non => cases rx; exact SeqAt.EqAt.str_none a t'
    | bl b => cases rx; exact SeqAt.EqAt.str_bool a t' b
    | int b => obtain ⟨t, rfl⟩ := rx; exact SeqAt.EqAt.str_int a t' b t
    | str b => obtain ⟨t, rfl⟩ := rx; exact SeqAt.EqAt.str_str a t' b t
    | _ => exact absurd (show false = true from fx) Bool.false_ne_true
  | _ => exact absurd (show false = true from fy) Bool.false_ne_true
def eqU (x : V) (u : Value) : Bool := match u with
  | .none => eqV .non x
  | .bool b => eqV (.bl b) x
  | .int i _ => eqV (.int i) x
  | .str z _ => eqV (.str z) x
  | _ => false
theorem eqU_of {x y : V} {u : Value} (r : RelV y u) (f : flatV y = true) : eqU x u = eqV y x := by
  cases y with
  | non => cases r; rfl
  | bl b => cases r; rfl
  | int i => obtain ⟨t, rfl⟩ := r; rfl
  | str z => obtain ⟨t, rfl⟩ := r; rfl
  | _ => exact absurd (show false = true from f) Bool.false_ne_true
theorem any_eqU {x : V} : ∀ {xs : List V} {us : List Value}, Vals xs us → xs.all flatV = true → us.any (eqU x) = xs.any fun y => eqV y x
  | _, _, .nil, _ => rfl
  | y :: xs, u :: us, .cons r t, f => by
    rw [List.all_cons, Bool.and_eq_true] at f
    rw [List.any_cons, List.any_cons, eqU_of r f.1, any_eqU t f.2]
theorem mem_eqAt {A : Around} {s : Shared} {x : V} {v : Value} (rx : RelV x v) (fx : flatV x = true) : ∀ {xs : List V} {us : List Value}, Vals xs us → xs.all flatV = true → ∀ u ∈ us, SeqAt.EqAt A s u v (eqU x u)
  | _, _, .nil, _ => fun u hu => by cases hu
  | y :: xs, u :: us, .cons r t, f => fun u' hu => by
    rw [List.all_cons, Bool.and_eq_true] at f
    rcases List.mem_cons.mp hu with rfl | hu
    · rw [eqU_of r f.1]; exact eqAt_V r rx f.1 fx
    · exact mem_eqAt rx fx t f.2 u' hu
def inV (x : V) (xs : List V) : Bool := xs.any fun y => eqV y x
def rIn (K : PySem.W.Frag) (neg : Bool) : R2 := fun x y H Q => ∃ p xs, y = .ref p ∧ (SqL K H p xs ∨ SqT K H p xs) ∧ flatV x = true ∧ xs.all flatV = true ∧ Q (.bl (if neg then !inV x xs else inV x xs)) H
theorem op_in_seq : OpR X (compareOp .In) (rIn X.K false) := by
  intro pins s σ H x y v u Q I rx ry h
  obtain ⟨p, xs, rfl, hq, fx, fs, q⟩ := h
  cases ry
  rcases hq with hq | hq
  · obtain ⟨its, r, pl, hz⟩ := I.list hq
    refine SeqAt.in_listAt (eqU x) pl.isList (fun w hw => mem_eqAt rx fx r fs w (by simpa using hw)) ⟨.bl _, H, I, rfl, ?_⟩
    rw [show its.toArray.any (eqU x) = its.any (eqU x) by simp, any_eqU r fs]
    exact q
  · obtain ⟨its, r, pl, hz⟩ := I.tuple hq
    refine SeqAt.in_tupleAt (eqU x) pl (fun w hw => mem_eqAt rx fx r fs w (by simpa using hw)) ⟨.bl _, H, I, rfl, ?_⟩
    rw [show its.toArray.any (eqU x) = its.any (eqU x) by simp, any_eqU r fs]
    exact q
theorem op_notIn_seq : OpR X (compareOp .NotIn) (rIn X.K true) := by
  intro pins s σ H x y v u Q I rx ry h
  obtain ⟨p, xs, rfl, hq, fx, fs, q⟩ := h
  cases ry
  rcases hq with hq | hq
  · obtain ⟨its, r, pl, hz⟩ := I.list hq
    refine SeqAt.notIn_listAt (eqU x) pl.isList (fun w hw => mem_eqAt rx fx r fs w (by simpa using hw)) ⟨.bl _, H, I, rfl, ?_⟩
    rw [show its.toArray.any (eqU x) = its.any (eqU x) by simp, any_eqU r fs]
    exact q
  · obtain ⟨its, r, pl, hz⟩ := I.tuple hq
    refine SeqAt.notIn_tupleAt (eqU x) pl (fun w hw => mem_eqAt rx fx r fs w (by simpa using hw)) ⟨.bl _, H, I, rfl, ?_⟩
    rw [show its.toArray.any (eqU x) = its.any (eqU x) by simp, any_eqU r fs]
    exact q
theorem call_len_seq : CallR X (.builtin "len") (fun xs H Q => ∃ p ys, xs = [.ref p] ∧ (SqL X.K H p ys ∨ SqT X.K H p ys) ∧ Q (.int ys.length) H) := by
  intro pins s σ H xs us Q I r h
  obtain ⟨p, ys, rfl, hq, q⟩ := h
  obtain ⟨u, rfl, rx⟩ := vals1 r
  cases rx
  have hn := line63
  rcases hq with hq | hq
  · obtain ⟨its, r', pl, hz⟩ := I.list hq
    have hlen := r'.length
    exact Calls.call_len_list pl.isList (by simp only [List.size_toArray] <;> omega) ⟨.int ys.length, H, I.tok _, ⟨s.toks + 1, by rw [List.size_toArray, hlen]⟩, q⟩
  · obtain ⟨its, r', pl, hz⟩ := I.tuple hq
    have hlen := r'.length
    exact len_tuple pl (by simp only [List.size_toArray] <;> omega) ⟨.int ys.length, H, I.tok _, ⟨s.toks + 1, by rw [List.size_toArray, hlen]⟩, q⟩
theorem call_len_str : CallR X (.builtin "len") (fun xs H Q => ∃ z, xs = [.str z] ∧ z.length ≤ sizeLine ∧ Q (.int z.length) H) := by
  intro pins s σ H xs us Q I r h
  obtain ⟨z, rfl, hz, q⟩ := h
  obtain ⟨u, rfl, t, rfl⟩ := vals1 r
  have hn := line63
  exact len_str (by omega) ⟨.int z.length, H, I.tok _, ⟨_, rfl⟩, q⟩
def tyV (K : PySem.W.Frag) (T : String) (x : V) (H : Hp) : Prop := match x with
  | .str _ => T = "str"
  | .int _ => T = "int"
  | .ref p => (T = "list" ∧ ∃ xs, SqL K H p xs) ∨ (T = "tuple" ∧ ∃ o, K.lookup p = some o ∧ o.cls = .type "tuple" ∧ o.dict = none) ∨
      (T = "dict" ∧ ((∃ kvs, H p = some (.dK kvs)) ∨ ∃ kvs, H p = some (.dT kvs))) ∨ (T = "set" ∧ ∃ S n, H p = some (.set S n))
  | _ => False
theorem tyV_is {pins : List (Addr × Obj)} {σ : St} {H : Hp} {s : Shared} {T : String} {x : V} {v : Value} (I : Inv X pins σ H s) (r : RelV x v) (ty : tyV X.K T x H) :
    s.TypeIs v T ∧ ∀ a, v = .ref a → ∃ ob, s.heap.get? a = some ob ∧ ob.dict = none := by
  cases x with
  | str z =>
    obtain ⟨t, rfl⟩ := r
    cases (show T = "str" from ty)
    exact ⟨typeIs_str s z t, fun _ e => nomatch e⟩
  | int i =>
    obtain ⟨t, rfl⟩ := r
    cases (show T = "int" from ty)
    exact ⟨typeIs_int s i t, fun _ e => nomatch e⟩
  | ref p =>
    cases r
    rcases ty with ⟨rfl, xs, hq⟩ | ⟨rfl, o, hk, hc, hd⟩ | ⟨rfl, hk⟩ | ⟨rfl, S, n, hk⟩
    · obtain ⟨its, _, pl, _⟩ := I.list hq
      refine ⟨pl.isList.typeIs, fun a e => ?_⟩
      cases e
      obtain ⟨o, n, e, c, hd, _⟩ := pl
      exact ⟨o, e, hd⟩
    · refine ⟨⟨o, I.kIn p o hk, hc⟩, fun a e => ?_⟩
      cases e
      exact ⟨o, I.kIn _ o hk, hd⟩
    · have z : ∃ o, s.heap.get? p = some o ∧ o.ExactDict := by
        rcases hk with ⟨kvs, hk⟩ | ⟨kvs, hk⟩
        · obtain ⟨_, _, _, _, o, _, _, e, ex, _⟩ := I.hok p _ hk
          exact ⟨o, e, ex⟩
        · obtain ⟨_, _, _, _, o, _, _, e, ex, _⟩ := I.hok p _ hk
          exact ⟨o, e, ex⟩
      obtain ⟨o, e, ex⟩ := z
      refine ⟨⟨o, e, ex.1⟩, fun a e2 => ?_⟩
      cases e2
      exact ⟨o, e, ex.2.1⟩
    · obtain ⟨o, _, _, _, e, ex, _⟩ := I.hok p _ hk
      refine ⟨⟨o, e, ex.1⟩, fun a e2 => ?_⟩
      cases e2
      exact ⟨o, e, ex.2.1⟩
  | _ => exact False.elim ty
def tBM (K : PySem.W.Frag) (T : String) (r : V → List V → Hp → VK → Prop) (to : TE) (t : TA) : TE := fun σ H Q => to σ H fun x H1 => tyV K T x H1 ∧ t σ H1 fun xs H2 => r x xs H2 Q
variable {o e : Expr} {es : List Expr} {to : TE} {t : TA} {name : Str} {apos cpos : Pos} {T id : String} {r : V → List V → Hp → VK → Prop}
theorem pe_bm (pa : PlainAttrs T) (slot : Slot T name id) (hty : typeOf (.builtin id) = pure (.type "method_descriptor")) (hm : MtR X id r) (ho : PE X o to) (ha : PA X (e :: es) t)
    (hbase : attributeBase o name X.env (eval o X.env) = eval o X.env := by rfl)
    (hfew : ((backTo cpos (starEach (e :: es) X.env)).all (fun x => !x.1) && (backToKw cpos (keywordEach [] X.env)).all (fun x => x.1.isSome)
      && decide ((e :: es).length + ([] : List Keyword).length + (if ([] : List Keyword).isEmpty then 0 else 1) < 30)) = true := by rfl)
    (hline : (apos.endLine == cpos.line) = true := by rfl) (hs : starEach (e :: es) X.env = (false, eval e X.env) :: starEach es X.env := by rfl) (hplain : (backTo cpos (starEach es X.env)).any (·.1) = false := by rfl) :
    PE X (.Call (.Attribute o name apos) (e :: es) [] cpos) (tBM X.K T r to t) := by
  intro pins s σ H Q I h
  refine wpAny_Call_method_late hbase hfew hline rfl (thn (ho pins s σ H _ I h) fun v s1 ⟨x, H1, I1, r1, ty, q1⟩ => ?_)
  obtain ⟨h1, h2⟩ := tyV_is I1 r1 ty
  refine ⟨T, id, pa, slot, hty, h1, h2, ?_⟩
  have hA := ha cpos pins s1 σ H1 _ I1 q1
  rw [hs] at hA ⊢
  refine Calls.callWith_builtin (by show (false || (backTo cpos (starEach es X.env)).any (·.1)) = false; rw [hplain] <;> rfl) (Calls.evalArgs_plain ?_)
  exact thn hA fun us s2 ⟨vs, H2, I2, r2, q2⟩ => hm pins s2 σ H2 x vs v us Q I2 r1 r2 q2
end
end L2
namespace L2
open PySem PySem.Spec PyProof.Rows
def MtM (X : Cx) (id : String) (r : V → List V → Hp → VK → Prop) : Prop :=
  ∀ (pins : List (Addr × Obj)) (s : Shared) (σ : St) (H : Hp) (x : V) (xs : List V) (v : Value) (us : List Value) (Q : VK), Inv X pins σ H s → RelV x v → Vals xs us → r x xs H Q →
    wpAny (model X.prog X.w) X.A (call (.builtin id) (v :: us)) (EP X pins σ Q) X.xe s
theorem Vals.one : ∀ {x : V} {us : List Value}, Vals [x] us → ∃ u, us = [u] ∧ RelV x u
  | _, _, .cons r .nil => ⟨_, rfl, r⟩
theorem Vals.zero : ∀ {us : List Value}, Vals [] us → us = []
  | _, .nil => rfl
theorem Vals.dropLast {xs : List V} {us : List Value} (h : Vals xs us) : Vals xs.dropLast us.dropLast := by
  induction h with
  | nil => exact .nil
  | cons r t ih =>
    cases t with
    | nil => exact .nil
    | cons q t' => exact .cons r ih
theorem Vals.reverse {xs : List V} {us : List Value} (h : Vals xs us) : Vals xs.reverse us.reverse := by
  induction h with
  | nil => exact .nil
  | cons r t ih => rw [List.reverse_cons, List.reverse_cons]; exact Vals.append ih (.cons r .nil)
theorem Vals.rep {xs : List V} {us : List Value} (h : Vals xs us) : ∀ k : Nat, Vals (List.replicate k xs).flatten (List.replicate k us).flatten
  | 0 => .nil
  | k + 1 => by
    rw [List.replicate_succ, List.replicate_succ, List.flatten_cons, List.flatten_cons]
    exact Vals.append h (Vals.rep h k)
theorem foldl_rep (its : List Value) : ∀ (k : Nat) (acc : List Value),
    List.foldl (fun x1 x2 => x1 ++ x2) acc.toArray (List.replicate k its.toArray) = (acc ++ (List.replicate k its).flatten).toArray
  | 0, acc => by simp
  | k + 1, acc => by
    have e : acc.toArray ++ its.toArray = (acc ++ its).toArray := by simp
    have e2 : (acc ++ its) ++ (List.replicate k its).flatten = acc ++ (List.replicate (k + 1) its).flatten := by
      rw [List.replicate_succ, List.flatten_cons, List.append_assoc]
    rw [← e2, ← foldl_rep its k (acc ++ its), ← e, List.replicate_succ, List.foldl_cons]
section
variable {X : Cx} {pins : List (Addr × Obj)} {σ : St} {H : Hp} {s : Shared} {l b : Addr} {xs ys zs : List V}
theorem Inv.lset {its its' : List Value} {n : Nat} {f : Array Value → Array Value} {t' : Nat} (I : Inv X pins σ H s) (hH : H l = some (.lst xs))
    (e : s.heap.get? l = some { cls := .type "list", data := .seq its.toArray n }) (hf : f its.toArray = its'.toArray) (hv : Vals ys its') (hz : ys.length ≤ sizeLine) :
    Inv X pins σ (upd H l (.lst ys)) { s with heap := s.heap.update l (Obj.mapSeq f), toks := t' } := by
  have q := PySem.IsL.update e f
  rw [hf] at q
  refine I.write (x := l) (e := l) (by rw [hH]; exact trivial) (.inl rfl) (fun b' u hb hu => (Heap.get?_update_other s.heap (Obj.mapSeq f) (Ne.symm hb)).trans hu) ⟨_, q⟩ ?_
  exact ⟨hz, its', _, hv, q⟩
theorem Inv.lnew {its : List Value} {t' : Nat} (I : Inv X pins σ H s) (hv : Vals ys its) (hz : ys.length ≤ sizeLine) :
    Inv X pins σ (upd H s.heap.objs.size (.lst ys)) { s with heap := s.heap.push { cls := .type "list", data := .seq its.toArray }, toks := t' } :=
  I.laid (fun _ _ q => Heap.get?_push_of_some _ q) (Nat.le_refl _) ⟨hz, its, 0, hv, Heap.get?_push_size _ rfl⟩
theorem Inv.fresh (I : Inv X pins σ H s) : H s.heap.objs.size = none := I.hok.fresh (Nat.le_refl _)
theorem Inv.lstM (I : Inv X pins σ H s) (hH : H l = some (.lst xs)) : xs.length ≤ sizeLine ∧ ∃ (its : List Value) (n : Nat), Vals xs its ∧ xs.length = its.length ∧ s.heap.get? l = some { cls := .type "list", data := .seq its.toArray n } := by
  obtain ⟨z, its, n, r, e⟩ := I.hok l _ hH
  exact ⟨z, its, n, r, r.length, e⟩
theorem notLongL {n : Nat} (h : n ≤ sizeLine) : Builtin.List.listTooLong n = false := by
  unfold Builtin.List.listTooLong
  exact decide_eq_false (by omega)
end
section
variable {X : Cx}
def rAppend : V → List V → Hp → VK → Prop := fun x vs H Q => ∃ l xs y, x = .ref l ∧ vs = [y] ∧ H l = some (.lst xs) ∧ xs.length < sizeLine ∧ Q .non (upd H l (.lst (xs ++ [y])))
theorem mt_append : MtM X "list.append" rAppend := by
  intro pins s σ H x vs v us Q I rx rv h
  obtain ⟨l, xs, y, rfl, rfl, hH, hz, q⟩ := h
  cases rx
  obtain ⟨u, rfl, ru⟩ := rv.one
  obtain ⟨z, its, n, r, hl, e⟩ := I.lstM hH
  refine call_meets F.slot_list_append ⟨_, e, rfl⟩ F.entry_list_append (F.args_list_append_2 _ _) (PySem.list_append l its.toArray n u (by rw [List.size_toArray]; omega)) ⟨e, ?_⟩
  refine ⟨.non, _, I.lset (its' := its ++ [u]) hH e (by simp) (r.append (.cons ru .nil)) ?_, rfl, q⟩
  rw [List.length_append, List.length_singleton]
  omega
def rExtend : V → List V → Hp → VK → Prop := fun x vs H Q => ∃ l b xs zs, x = .ref l ∧ vs = [.ref b] ∧ H l = some (.lst xs) ∧ H b = some (.lst zs) ∧ xs.length + zs.length ≤ sizeLine ∧ Q .non (upd H l (.lst (xs ++ zs)))
theorem mt_extend : MtM X "list.extend" rExtend := by
  intro pins s σ H x vs v us Q I rx rv h
  obtain ⟨l, b, xs, zs, rfl, rfl, hH, hB, hz, q⟩ := h
  cases rx
  obtain ⟨u, rfl, ru⟩ := rv.one
  cases ru
  obtain ⟨z, its, n, r, hl, e⟩ := I.lstM hH
  obtain ⟨z2, its2, n2, r2, hl2, e2⟩ := I.lstM hB
  have hsz : its.toArray.size + its2.toArray.size ≤ sizeLine := by rw [List.size_toArray, List.size_toArray]; omega
  have hlong : ¬ (!its.toArray.isEmpty && Builtin.List.listTooLong (its.toArray.size + its2.toArray.size)) = true := by
    rw [notLongL hsz, Bool.and_false]
    exact Bool.false_ne_true
  refine call_meets F.slot_list_extend ⟨_, e, rfl⟩ F.entry_list_extend (F.args_list_extend_2 _ _)
    (AutoSeq1.list_extend_list_list_0 l its.toArray n b its2.toArray n2 hlong (by rw [List.size_toArray]; omega) (by omega)) ⟨e, e2, ?_⟩
  refine ⟨.non, _, I.lset (its' := its ++ its2) hH e (by simp) (r.append r2) ?_, rfl, q⟩
  rw [List.length_append]
  omega
def rCat : R2 := fun x y H Q => ∃ l b xs zs, x = .ref l ∧ y = .ref b ∧ H l = some (.lst xs) ∧ H b = some (.lst zs) ∧ xs.length + zs.length ≤ sizeLine ∧ ∀ p, H p = none → Q (.ref p) (upd H p (.lst (xs ++ zs)))
theorem op_cat : OpR X (binaryOp .Add) rCat := by
  intro pins s σ H x y v u Q I rx ry h
  obtain ⟨l, b, xs, zs, rfl, rfl, hH, hB, hz, q⟩ := h
  cases rx
  cases ry
  obtain ⟨z, its, n, r, hl, e⟩ := I.lstM hH
  obtain ⟨z2, its2, n2, r2, hl2, e2⟩ := I.lstM hB
  refine PySem.P.add_list e e2 ?_ (by rw [List.size_toArray, List.size_toArray]; omega)
  have ea : its.toArray ++ its2.toArray = (its ++ its2).toArray := by simp
  rw [ea]
  exact ⟨.ref _, _, I.lnew (t' := s.toks) (r.append r2) (by rw [List.length_append]; omega), rfl, q _ I.fresh⟩
def rRep : R2 := fun x y H Q => ∃ l k xs, x = .ref l ∧ y = .int k ∧ H l = some (.lst xs) ∧ -(2 ^ 63) ≤ k ∧ k < 2 ^ 63 ∧ xs.length * k.toNat ≤ sizeLine ∧
  ∀ p, H p = none → Q (.ref p) (upd H p (.lst (List.replicate k.toNat xs).flatten))
theorem len_rep {α : Type} (xs : List α) (k : Nat) : (List.replicate k xs).flatten.length = k * xs.length := by
  induction k with
  | zero => simp
  | succ k ih => rw [List.replicate_succ, List.flatten_cons, List.length_append, ih, Nat.succ_mul, Nat.add_comm]
theorem op_rep : OpR X (binaryOp .Mult) rRep := by
  intro pins s σ H x y v u Q I rx ry h
  obtain ⟨l, k, xs, rfl, rfl, hH, h1, h2, hz, q⟩ := h
  cases rx
  obtain ⟨t, rfl⟩ := ry
  obtain ⟨z, its, n, r, hl, e⟩ := I.lstM hH
  have hlen : its.toArray.size * k.toNat ≤ sizeLine := by rw [List.size_toArray, ← hl]; exact hz
  have hcap : ¬ its.toArray.size * k.toNat > (2 ^ 63 - 1) / 8 := by
    have : (sizeLine : Nat) ≤ (2 ^ 63 - 1) / 8 := by decide
    omega
  have hfit : ¬ (!Builtin.List.listFitsIndex k) = true := by
    rw [fitsIndex_both h1 h2]
    exact Bool.false_ne_true
  have hlong : ¬ Builtin.List.listTooLong (its.toArray.size * k.toNat) = true := by
    rw [notLongL hlen]
    exact Bool.false_ne_true
  have hnew : List.foldl (fun x1 x2 => x1 ++ x2) #[] (List.replicate (if its.toArray.isEmpty = true then 0 else k.toNat) its.toArray) = (List.replicate k.toNat its).flatten.toArray := by
    have f0 : ∀ m : Nat, List.foldl (fun x1 x2 => x1 ++ x2) #[] (List.replicate m its.toArray) = (List.replicate m its).flatten.toArray := fun m => by
      have := foldl_rep its m []
      rw [List.nil_append] at this
      exact this
    rw [f0]
    cases its with
    | nil => simp
    | cons a r' => rw [if_neg (by simp)]
  refine wpAny_binaryOp_repeat_ref (T := "list") (U := "int") (by decide) ⟨_, e, rfl⟩ (fun s' => typeIs_int s' k t) noFill_list_mul F.fills_int_mul F.slot_int_rmul repeat_list F.slot_int_index.lookup
    (call_meets F.slot_int_rmul (typeIs_int s k t) F.entry_int_rmul (F.args_int_rmul_2 _ _) (int___rmul___int_list k t l its.toArray n)
      ⟨e, rfl, ⟨_, e, rfl⟩, call_meets F.slot_list_mul ⟨_, e, rfl⟩ F.entry_list_mul (F.args_list_mul_2 _ _) (AutoListH.list___mul___list_int_3 l its.toArray n k t hfit hcap hlong) ⟨e, ?_⟩⟩)
  rw [hnew]
  exact ⟨.ref _, _, I.lnew (t' := s.toks) (r.rep k.toNat) (by rw [len_rep, Nat.mul_comm]; exact hz), rfl, q _ I.fresh⟩
end
section
variable {prog : Program} {w : World} {A : Around} {E : Value → Shared → Prop} {s : Shared}
end
section
variable {X : Cx}
end
end L2
namespace Att
open PySem PySem.W PySem.Calls PyProof.Rows
theorem ints_of_wellAll {P : Params} {h : Heap} : ∀ (ns : List Int) (vs : List Value), WellAll P h vs (ns.map WData.int) → IntsAre vs ns := by
  intro ns
  induction ns with
  | nil =>
    intro vs w
    rw [List.map_nil] at w
    cases w
    exact .nil
  | cons n ns ih =>
    intro vs w
    rw [List.map_cons] at w
    cases w with
    | cons a b =>
      cases a
      exact .cons _ _ (ih _ b)
theorem script_of {l : OpenLaw} {n : Nat} (hn : l.most = some n) {P : Params} {h : Heap} {args : List WData} {vals : List Value}
    (hpre : l.row.toRowW.claim.pre args = true) (hwl : WellAll P h vals args) :
    ∃ a vs ns, vals = [Value.ref a] ∧ args = [WData.list (ns.map WData.int)] ∧ h.get? a = some { cls := .type "list", data := .seq vs.toArray } ∧ IntsAre vs ns ∧ ns.length ≤ n := by
  have hsh : WShape.hasAll [] args [.list .int] = true := (pre_splitW hpre).1
  have hc : l.pre.holds [] { args := args } = true := (pre_splitW hpre).2
  obtain ⟨d, r, rfl, h1, h2⟩ := hasAllW_cons hsh
  obtain rfl := hasAllW_nil h2
  obtain ⟨xs, rfl, h3⟩ := hasW_list h1
  obtain ⟨ns, rfl⟩ := items_int h3
  have hlen : ns.length ≤ n := by
    unfold OpenLaw.pre at hc
    have h4 : (WTm.not (.lt (.lit (.int (n : Int))) (.len (.arg 0)))).holds [] { args := [.list (ns.map .int)] } = true := by
      have h4 := (holds_andW hc).1
      rw [hn] at h4
      exact h4
    have h5 := condW_of h4 (w_not (w_lt w_lit (w_len_list (w_arg rfl))))
    rw [List.length_map] at h5
    refine Nat.le_of_not_lt fun q => ?_
    have q' : (n : Int) < ((ns.length : Nat) : Int) := by omega
    first
      | (rw [decide_eq_true q'] at h5; exact absurd h5 (by decide))
      | (simp at h5; omega)
  cases hwl with
  | cons w1 w2 =>
    cases w2
    cases w1 with
    | list ho hall => exact ⟨_, _, ns, rfl, rfl, ho, ints_of_wellAll ns _ hall, hlen⟩
theorem post_true (l : OpenLaw) (args : List WData) : l.row.toRowW.claim.post args (.bool true) args = true :=
  postW_of (r := l.row.toRowW) (X := (true == true))
    (show WShape.has [] (.bool true) .bool = true by first | rfl | decide | simp [WShape.has, WShape.arms, WShape.armsAll])
    (show (WTm.eq .res (.lit (.bool true))).value [] { args := args, res := some (.bool true), after := args } = some (.bool (true == true)) from w_eq_bool (w_res rfl) w_lit) rfl
section
variable {prog : Program} {w : World} {A : Around} {E : Value → Shared → Prop} {s : Shared} {K : Frag}
end
end Att
namespace L2
open PySem PySem.Spec PyProof.Rows
theorem vals_ints : ∀ {vs : List Value} {ns : List Int}, IntsAre vs ns → Vals (ns.map V.int) vs
  | _, _, .nil => .nil
  | _, _, .cons n t h => .cons ⟨t, rfl⟩ (vals_ints h)
def Only (H : Hp) : Prop := ∀ b, H b = none ∨ ∃ o xs, H b = some (.frz o (.lst xs))
theorem law_call {P : Program} {w : World} {K : PySem.W.Frag} {mg mb : Str → Option Value} {CX : CXT} {k : Nat} {fa a : Addr} {fd : FuncData} {x : Str} {sp : Sp} {s₁ : Shared} {vs : List Value} {ns : List Int}
    (KX : K.In s₁.heap) (hns : s₁.heap.Ns mainGlobals mg) (hb : s₁.heap.Ns builtinsNs mb) (hbb : ∀ x : Str, x ≠ "__name__" → mb x = bootBuiltins x) (hlim : s₁.heap.NoLimit) (hg : s₁.gens = #[])
    (ha : s₁.heap.get? a = some { cls := .type "list", data := .seq vs.toArray }) (hi : IntsAre vs ns) (hl : ns.length ≤ sizeLine) (hr : Room k callerA)
    (F : ∀ base : Heap, K.In base → base.Ns mainGlobals mg → FnOk P w K mg base CX k fa fd [x] sp) (hbind : ∀ (s : Shared) (u : Value), BindsTo s fd ⟨[u], []⟩ [(x, u)])
    (hsp : ∀ H : Hp, Only H → SqL K H a (ns.map V.int) → sp [.ref a] H (fun v _ => v = .bl true) fun _ _ _ => False)
    (hCX : ∀ H e s', CX [] H s₁ (fun _ _ _ => False) e s' → False) :
    codeAny (model P w) callerA (.call (.ref fa) ⟨[.ref a], []⟩) (fun r s' => r = .ok (.ret (.bool true)) ∧ OldK s₁.heap s'.heap ∧ s'.os = s₁.os ∧ AllBare s'.gens) s₁ := by
  have rv := vals_ints hi
  have lenV := hi.length
  have core : ∀ H : Hp, Only H → SqL K H a (ns.map V.int) → HOk P w H s₁.heap → (∀ b, H b ≠ none → b = a) → (H a ≠ none → K.lookup a = none) →
      codeAny (model P w) callerA (.call (.ref fa) ⟨[.ref a], []⟩) (fun r s' => r = .ok (.ret (.bool true)) ∧ OldK s₁.heap s'.heap ∧ s'.os = s₁.os ∧ AllBare s'.gens) s₁ := by
    intro H hO hS hok hA hK
    have base_of : ∀ {b : Addr} {o : Obj}, s₁.heap.get? b = some o → H b = none → (hidT s₁.heap H).get? b = some o := fun e n => hidT_get e n
    have noA : ∀ {b : Addr} {o : Obj} {es : Array DictEntry} {ep : Nat}, s₁.heap.get? b = some o → o.data = .dict es ep → H b = none := fun {b o es ep} e d => by
      cases q : H b with
      | none => rfl
      | some u =>
        have e' : b = a := hA b (by rw [q]; simp)
        subst e'
        rw [ha] at e; cases e
        have d' : Data.seq vs.toArray _ = Data.dict es ep := d
        cases d'
    have nsK : ∀ {b : Addr} {m : Str → Option Value}, s₁.heap.Ns b m → (hidT s₁.heap H).Ns b m := fun {b m} ⟨o, es, ep, e, d, r⟩ => ⟨o, es, ep, base_of e (noA e d), d, r⟩
    have hKb : K.In (hidT s₁.heap H) := fun b o e => base_of (KX b o e) (by
      cases q : H b with
      | none => rfl
      | some u =>
        have e' : b = a := hA b (by rw [q]; simp)
        subst e'
        rw [hK (by rw [q]; simp)] at e; cases e)
    have hM : Mod K mg (hidT s₁.heap H) := ⟨hKb, nsK hns, ⟨mb, nsK hb, hbb⟩, let ⟨mc, h1, h2⟩ := hlim; ⟨mc, nsK h1, h2⟩⟩
    have e0 : Env0 P w K mg (hidT s₁.heap H) callerA [] s₁ H := ⟨rfl, hM, fun b o e => of_hidT e, Nat.le_of_eq (hidT_size _ _), trivial, fun b hb => absurd (show b ∈ ([] : List Addr) from hb) (by simp), hok, .of_eq hg⟩
    refine codeAny_mono ((F _ hKb (nsK hns)).run callerA [] s₁ H ⟨[.ref a], []⟩ [.ref a] [.ref a] _ _ hr e0 (hbind s₁ (.ref a)) (.cons rfl .nil) (hsp H hO hS)) fun r s' h => ?_
    cases r with
    | error e => exact (hCX H e s' h).elim
    | ok fl =>
      cases fl with
      | next => exact False.elim h
      | brk => exact False.elim h
      | cont => exact False.elim h
      | ret u =>
        obtain ⟨v, H', os, bare, un, hok', r', q⟩ := h
        have q' : v = .bl true := q
        subst q'
        obtain rfl : u = Value.bool true := r'
        refine ⟨rfl, OldK.of_keep fun b o e => ?_, os, bare⟩
        cases q : H b with
        | none => exact un.keep b o e q (by intro z; exact absurd (show b ∈ ([] : List Addr) from z) (by simp)) (by simp)
        | some u =>
          rcases hO b with z | ⟨ob, xs, z⟩
          · rw [q] at z; cases z
          · have z2 := un.frzs b ob _ z
            obtain ⟨e1, _⟩ := hok b _ z
            obtain ⟨e2, _⟩ := hok' b _ z2
            rw [e] at e1; cases e1
            exact e2
  cases hk : K.lookup a with
  | some o =>
    have e := KX a o hk
    rw [ha] at e
    cases e
    refine core (fun _ => none) (fun _ => .inl rfl) (.inr ⟨_, vs.toArray, _, hk, rfl, rfl, rfl, by rw [List.size_toArray, lenV]; exact hl, by simpa using rv⟩) (fun b u z => by have z' : (none : Option HO) = some u := z; cases z') (fun b z => absurd rfl z) fun z => absurd rfl z
  | none =>
    refine core (fun b => if b = a then some (.frz { cls := .type "list", data := .seq vs.toArray } (.lst (ns.map V.int))) else none) (fun b => ?_) (.inl (.inr ⟨{ cls := .type "list", data := .seq vs.toArray }, if_pos rfl⟩)) (fun b u z => ?_) (fun b z => ?_) fun _ => hk
    · by_cases hb : b = a
      · exact .inr ⟨_, _, if_pos hb⟩
      · exact .inl (if_neg hb)
    · by_cases hb : b = a
      · have z' := (if_pos hb).symm.trans z
        cases z'
        subst hb
        exact ⟨ha, by rw [List.length_map]; exact hl, vs, _, rv, ha⟩
      · have z' := (if_neg hb).symm.trans z
        cases z'
    · by_cases hb : b = a
      · exact hb
      · exact absurd (if_neg hb) z
end L2
namespace L2
open PySem PySem.Spec PyProof.Rows
end L2
namespace L2
open PySem PySem.Spec PyProof.Rows
def defArgs (s : Stmt) : Arguments := match s with
  | .FunctionDef _ a _ _ _ _ _ _ _ _ => a
  | _ => { posonlyargs := [], args := [], vararg := none, kwonlyargs := [], kw_defaults := [], kwarg := none, defaults := [] }
def defBody (s : Stmt) : List Stmt := match s with
  | .FunctionDef _ _ b _ _ _ _ _ _ _ => b
  | _ => []
def defScope (s : Stmt) : Scope := match s with
  | .FunctionDef _ _ _ _ _ _ sc _ _ _ => sc
  | _ => { kind := .function, names := [], isGenerator := false, isCoroutine := false }
abbrev CX0 : CXT := fun _ _ _ _ _ _ => False
abbrev E0 : XK := fun _ _ _ => False
theorem pass0 {X : Cx} : Passes CX0 X E0 := fun _ _ _ _ _ _ _ h => h.elim
structure Fun (K : PySem.W.Frag) (x qual : Str) (st : Stmt) (f : Addr) (fd : FuncData) : Prop where
  ex : ∃ (oc : Value) (od : Option Addr) (kV doc pm : Value) (an : Option Addr) (cdv ct : Value) (osl : Array (Option Value)),
    fd = PySem.W.fnOf x qual (defArgs st) (defBody st) (defScope st) .none kV doc pm an cdv ct ∧ K.lookup f = some ⟨oc, od, .func fd, osl⟩ ∧ PySem.W.codeIn K cdv qual = true
  kp : PySem.W.keepIn K (.ref f) = true
section
variable {P : Program} {w : World} {K : PySem.W.Frag} {mg : Str → Option Value} {base : Heap}
theorem Fun.ok {x qual : Str} {st : Stmt} {f : Addr} {fd : FuncData} {N ps : List Str} {k : Nat} {sp : Sp} (F : Fun K x qual st f fd) (S : FnScope N ps (defScope st)) (len : ∀ vs H Q E, sp vs H Q E → vs.length = ps.length)
    (hbody : ∀ (cdv : Value) (A : Around) (outer : List Env) (s : Shared) (H : Hp) (vs : List V) (Q : VK) (E : XK), Room k (A.deeper (envOfC qual (defScope st) s.heap.objs.size f cdv)) → sp vs H Q E →
      ∃ t, PSs (cxOf CX0 P w K mg base N qual (defScope st) f cdv A outer s H E).nox (defBody st) t ∧ t { nx := fun _ H' => Q .non H', rt := Q } (start N vs) H) : FnOk P w K mg base CX0 (k + 1) f fd ps sp := by
  obtain ⟨oc, od, kV, doc, pm, an, cdv, ct, osl, rfl, lk, hcd⟩ := F.ex
  refine fn_of lk hcd S len fun A outer s H vs Q E hr hsp => ?_
  obtain ⟨t, h, q⟩ := hbody cdv A outer s H vs Q E hr hsp
  exact ⟨t, h.nox, q⟩
theorem Fun.binds {x qual : Str} {st : Stmt} {f : Addr} {fd : FuncData} {ps : List Str} (F : Fun K x qual st f fd)
    (h : ∀ (kV doc pm : Value) (an : Option Addr) (cdv ct : Value) (us : List Value), us.length = ps.length → bindArgs (PySem.W.fnOf x qual (defArgs st) (defBody st) (defScope st) .none kV doc pm an cdv ct) ⟨us, []⟩ = pure (ps.zip us)) : Binds K fd ps [] := by
  obtain ⟨oc, od, kV, doc, pm, an, cdv, ct, osl, rfl, lk, hcd⟩ := F.ex
  exact .all (h kV doc pm an cdv ct)
theorem fun_mk {x qual : Str} {st : Stmt} {f : Addr} {oc : Value} {od an : Option Addr} {osl : Array (Option Value)} {kV doc pm cdv ct : Value} (l : K.lookup f = some ⟨oc, od, .func (PySem.W.fnOf x qual (defArgs st) (defBody st) (defScope st) .none kV doc pm an cdv ct), osl⟩)
    (c : PySem.W.codeIn K cdv qual = true) (k : PySem.W.keepIn K (.ref f) = true) : Fun K x qual st f (PySem.W.fnOf x qual (defArgs st) (defBody st) (defScope st) .none kV doc pm an cdv ct) := ⟨⟨oc, od, kV, doc, pm, an, cdv, ct, osl, rfl, l, c⟩, k⟩
end
section
variable {X : Cx}
theorem pv (i : Nat) {x : Str} {pos : Pos} (hN : X.N[i]? = some x := by rfl) (hv : Vis X.env.scope x := by first | exact Or.inl rfl | exact Or.inr (Or.inl rfl) | exact Or.inr (Or.inr rfl)) (hd : (x == ("__debug__" : Str)) = false := by decide)
    (hcd : (x == ("__classdict__" : Str)) = false := by decide) : PE X (.Name x pos) (tVar i) := pe_var hN hv hd hcd
end
def Same (H H' : Hp) : Prop := ∀ b o, H b = some o → H' b = some o
theorem Same.refl (H : Hp) : Same H H := fun _ _ h => h
theorem Same.trans {H H1 H2 : Hp} (a : Same H H1) (b : Same H1 H2) : Same H H2 := fun c o h => b c o (a c o h)
theorem Same.free {H H' : Hp} (e : Same H H') {l : Addr} (h : H' l = Option.none) : H l = Option.none := by
  cases q : H l with
  | none => rfl
  | some o =>
    rw [e l o q] at h
    cases h
theorem Same.seq {K : PySem.W.Frag} {H H' : Hp} {a : Addr} {xs : List V} (e : Same H H') (h : SqL K H a xs) : SqL K H' a xs := by
  rcases h with (h | ⟨o, h⟩) | h
  · exact .inl (.inl (e _ _ h))
  · exact .inl (.inr ⟨o, e _ _ h⟩)
  · exact .inr h
end L2
namespace L2
open PySem PySem.Spec PyProof.Rows
def Itp (n : Nat) (f : Nat → V) : It := ⟨fun i _ => i < n, fun i H x H' => H' = H ∧ x = f i, fun i _ => n ≤ i⟩
def ownTups : List String := ["enumerate", "zip", "dict_itemiterator", "dict_reverseitemiterator", "odict_iterator", "itertools.zip_longest", "itertools.pairwise"]
theorem turn_pure {P : Program} {w : World} {K : PySem.W.Frag} {tg : Expr} {it : Addr} {n : Nat} {f : Nat → V} {Pw : Nat → Value → Prop} {St : Nat → Heap → Prop}
    (W : ∀ A : Around, A.handled = none → Walks P w A it [it] [it] n Pw St) (hv : ∀ i v, i < n → Pw i v → RelV (f i) v)
    (ho : ∀ i h, St i h → ∃ o nm vs, h.get? it = some o ∧ o.cls = .type nm ∧ o.data = .fields vs ∧ ownTups.contains nm = false)
    (hself : ∀ (A : Around) (i : Nat) (s : Shared) (Q : Value → Shared → Prop) (E : Value → Shared → Prop), St i s.heap → Q (.ref it) s → wpAny (model P w) A (pyIter (.ref it)) Q E s)
    (hkeep : ∀ i h h', St i h → (∀ b ∈ [it], ∀ o, h.get? b = some o → h'.get? b = some o) → St i h') :
    Turn P w K tg (Itp n f) [it] it (fun i h => i ≤ n ∧ St i h) where
  mem := by simp
  obj := fun i h st b hb => by
    have e : b = it := by simpa using hb
    subst e
    obtain ⟨o, nm, vs, e, c, d, _⟩ := ho i h st.2
    exact ⟨o, e, fun v z => by rw [d] at z; cases z⟩
  keep := fun i h h' st k => ⟨st.1, hkeep i h h' st.2 k⟩
  item := by
    intro X hP hw hK hc i pins s σ H E I hf st hg
    subst hP hw hK
    obtain ⟨f0, f1, f2, f3, f4, f5⟩ := hf it (by simp)
    have hi : i < n := hg
    refine (W X.A (I.ok.hd hc)).item i s _ _ hi st.2 fun v h' tk hv' st' kk => ?_
    have I1 : Inv X pins σ H { s with heap := h', toks := tk } := I.turned (fun b o hb e => kk b o (by simpa using hb) e) f0 f1 f3 f4 f5
    obtain ⟨o, nm, vs, e, c, d, hn⟩ := ho _ _ st'
    exact ⟨_, rfl, go_of (s := { s with heap := h', toks := tk }) (n := nm) e c d hn ⟨f i, H, I1, hv i v hi hv', ⟨rfl, rfl⟩, ⟨hi, st'⟩, fun b hb => (hf b hb).1⟩⟩
  done := by
    intro X hP hw hK hc i pins s σ H E I hf st hg
    subst hP hw hK
    obtain ⟨f0, f1, f2, f3, f4, f5⟩ := hf it (by simp)
    have hi : n ≤ i := hg
    have e : i = n := Nat.le_antisymm st.1 hi
    subst e
    exact (W X.A (I.ok.hd hc)).done s _ _ st.2 fun h' tk kk => ⟨rfl, I.turned (fun b o hb e => kk b o (by simpa using hb) e) f0 f1 f3 f4 f5⟩
  self := fun A i s Q E st h => hself A i s Q E st.2 h
def sgn (x : Str) (i : Nat) : V := .str ⟨#[x.cps.getD i 0]⟩
theorem walks_str {P : Program} {w : World} {it : Addr} {x : Str} {t : Tok} (A : Around) (hA : A.handled = none) : Walks P w A it [it] [it] x.cps.size (SignAt x) (fun i h => h.IsStrIter it (strIterType x) x t i) := by
  cases ha : x.cps.all (· < 128)
  · have e : strIterType x = "str_iterator" := by simp [strIterType, ha]
    rw [e]; exact Walks.strWide hA it x t
  · have e : strIterType x = "str_ascii_iterator" := by simp [strIterType, ha]
    rw [e]; exact Walks.strAscii hA it x t
theorem signAt_rel {x : Str} {i : Nat} {v : Value} (h : SignAt x i v) : RelV (sgn x i) v := by
  obtain ⟨c, u, e, rfl⟩ := h
  refine ⟨u, ?_⟩
  have : x.cps.getD i 0 = c := by simp [Array.getD_eq_getD_getElem?, e]
  rw [this]
theorem strIterType_no (x : Str) : ownTups.contains (strIterType x) = false := by
  unfold strIterType; split <;> decide
theorem turn_str {P : Program} {w : World} {K : PySem.W.Frag} {tg : Expr} (it : Addr) (x : Str) (t : Tok) : Turn P w K tg (Itp x.cps.size (sgn x)) [it] it (fun i h => i ≤ x.cps.size ∧ h.IsStrIter it (strIterType x) x t i) := by
  refine turn_pure (Pw := SignAt x) (fun A hA => walks_str A hA) (fun i v _ h => signAt_rel h) (fun i h st => ?_) (fun A i s Q E st h => ?_) (fun i h h' st k => ?_)
  · obtain ⟨o, e, c, d⟩ := st
    exact ⟨o, _, _, e, c, d, strIterType_no x⟩
  · cases ha : x.cps.all (· < 128)
    · have e : strIterType x = "str_iterator" := by simp [strIterType, ha]
      rw [e] at st; exact wpAny_pyIter_striter_wide st h
    · have e : strIterType x = "str_ascii_iterator" := by simp [strIterType, ha]
      rw [e] at st; exact wpAny_pyIter_striter_ascii st h
  · obtain ⟨o, e, r⟩ := st
    exact ⟨o, k it (by simp) o e, r⟩
section
variable {X : Cx} {tg : Expr}
end
end L2
namespace L2
open PySem PySem.Spec PyProof.Rows
section
variable {X : Cx} {elts : List Expr} {kk : Nat} {tpos : Pos}
end
end L2
namespace L2
open PySem PySem.Spec PyProof.Rows
section
variable {prog : Program} {w : World} {A : Around} {R : Result → Shared → Prop} {s : Shared}
theorem compLoop_go {elt target iter : Expr} {ifs : List Expr} {scope : Scope} {pos : Pos} {it acc : Value} {env : Env} (I : Nat → Shared → Prop)
    (turn : ∀ n s, I n s → wpAny (model prog w) A (pyNext it) (fun r s₁ => match r with
      | none => R (.ok .next) s₁
      | some v => wpAny (model prog w) A (letOwnedTupleGo target it v) (fun _ s₂ => wpAny (model prog w) A (assign target env v) (fun _ s₃ =>
          wpAny (model prog w) A (forIn ifs true fun c r => if r = true then do let ok ← isTrue c env (eval c env); pure (ForInStep.yield ok) else pure (ForInStep.yield r)) (fun ok s₄ =>
            if ok = true then wpAny (model prog w) A (eval elt env) (fun x s₅ =>
              wpAny (model prog w) A (call (.builtin "list.append") [acc, x]) (fun _ s₆ => ∃ m, m < n ∧ I m s₆) (fun _ _ => False) s₅) (fun _ _ => False) s₄
            else ∃ m, m < n ∧ I m s₄) (fun _ _ => False) s₃) (fun _ _ => False) s₂) (fun _ _ => False) s₁) (fun _ _ => False) s)
    (n : Nat) (h : I n s) :
    codeAny (model prog w) A (.compLoop (.ListComp elt [⟨target, iter, ifs, 0⟩] scope pos) 0 it acc env) R s := by
  refine codeAny_loop rfl I (fun n s hI => ?_) n h
  show wpAny _ A ((compTurn (.ListComp elt [⟨target, iter, ifs, 0⟩] scope pos) 0 it acc env).onRaise (fun x => do noteFrame x env; theTreesLotGoes x)) _ _ s
  refine wpAny_noted ?_
  rw [compTurn_list]
  refine wpAny_bind (wpAny_standAt (wpAny_bind (wpAny_mono (turn n s hI) (fun r s₁ h₁ => ?_) fun _ _ h' => h'.elim)))
  cases r with
  | none => exact wpAny_pure h₁
  | some v =>
    refine wpAny_bind (wpAny_mono h₁ (fun _ s₂ h₂ => ?_) fun _ _ h' => h'.elim)
    refine wpAny_bind (wpAny_mono h₂ (fun _ s₃ h₃ => wpAny_bind (wpAny_mono h₃ (fun ok s₄ h₄ => ?_) fun _ _ h' => h'.elim)) fun _ _ h' => h'.elim)
    cases ok with
    | false => exact wpAny_pure ⟨rfl, h₄⟩
    | true =>
      exact wpAny_bind (wpAny_bind (wpAny_mono h₄ (fun x s₅ h₅ => wpAny_bind (wpAny_mono h₅ (fun _ s₆ h₆ => wpAny_pure (wpAny_pure ⟨rfl, h₆⟩)) fun _ _ h' => h'.elim)) fun _ _ h' => h'.elim))
end
def closeL (cells : List (Str × Addr)) : List (Str × NameKind) → List (Str × Addr) → Option (List (Str × Addr))
  | [], acc => some acc
  | (n, k) :: r, acc => if (k == .free) = true then (match cells.lookup n with | some c => closeL cells r ((n, c) :: acc) | none => none) else closeL cells r acc
theorem closeL_run {env : Env} {f : Str × NameKind → List (Str × Addr) → Sem (ForInStep (List (Str × Addr)))}
    (hf : ∀ n k cs, f (n, k) cs = if (k == NameKind.free) = true then (do let c ← cellOf env n; pure (ForInStep.yield ((n, c) :: cs))) else pure (ForInStep.yield cs)) :
    ∀ (names : List (Str × NameKind)) (acc cl : List (Str × Addr)), closeL env.cells names acc = some cl → (forIn names acc f : Sem (List (Str × Addr))) = pure cl
  | [], acc, cl, h => by cases h; rfl
  | (n, k) :: r, acc, cl, h => by
    rw [List.forIn_cons, hf]
    unfold closeL at h
    by_cases hk : (k == NameKind.free) = true
    · rw [if_pos hk] at h
      rw [if_pos hk]
      cases hc : env.cells.lookup n with
      | none => rw [hc] at h; cases h
      | some c =>
        rw [hc] at h
        have e : cellOf env n = pure c := by unfold cellOf; rw [hc]
        rw [e]
        simp only [pure_bind]
        exact closeL_run hf r _ cl h
    · rw [if_neg hk] at h
      rw [if_neg hk]
      simp only [pure_bind]
      exact closeL_run hf r _ cl h
theorem closeL_ok {env : Env} {scope : Scope} {cl : List (Str × Addr)} (h : closeL env.cells scope.names [] = some cl) : closureFor scope env = pure cl := by
  unfold closureFor
  dsimp only
  rw [closeL_run (env := env) (fun n k cs => rfl) scope.names [] cl h]
  rfl
theorem closeL_get {cells : List (Str × Addr)} : ∀ (names : List (Str × NameKind)) (acc cl : List (Str × Addr)), closeL cells names acc = some cl → (∀ x c, acc.lookup x = some c → cells.lookup x = some c) →
    (∀ x c, cl.lookup x = some c → cells.lookup x = some c)
  | [], acc, cl, h, ha => by cases h; exact ha
  | (n, k) :: r, acc, cl, h, ha => by
    unfold closeL at h
    by_cases hk : (k == NameKind.free) = true
    · rw [if_pos hk] at h
      cases hc : cells.lookup n with
      | none => rw [hc] at h; cases h
      | some c =>
        rw [hc] at h
        refine closeL_get r _ cl h fun x c' e => ?_
        rw [List.lookup_cons] at e
        cases hx : x == n with
        | true => rw [hx] at e; cases e; rw [eq_of_beq hx]; exact hc
        | false => rw [hx] at e; exact ha x c' e
    · rw [if_neg hk] at h
      exact closeL_get r _ cl h ha
theorem closeL_has {cells : List (Str × Addr)} : ∀ (names : List (Str × NameKind)) (acc cl : List (Str × Addr)), closeL cells names acc = some cl → ∀ x, ((x, NameKind.free) ∈ names ∨ ∃ c, acc.lookup x = some c) → ∃ c, cl.lookup x = some c
  | [], acc, cl, h, x, hx => by
    cases h
    rcases hx with hx | hx
    · cases hx
    · exact hx
  | (n, k) :: r, acc, cl, h, x, hx => by
    unfold closeL at h
    by_cases hk : (k == NameKind.free) = true
    · rw [if_pos hk] at h
      cases hc : cells.lookup n with
      | none => rw [hc] at h; cases h
      | some c =>
        rw [hc] at h
        refine closeL_has r _ cl h x ?_
        rcases hx with hx | ⟨c', e⟩
        · rcases List.mem_cons.mp hx with e | hx
          · cases e; exact .inr ⟨c, by rw [List.lookup_cons, beq_self_eq_true]⟩
          · exact .inl hx
        · refine .inr ?_
          rw [List.lookup_cons]
          cases hxn : x == n with
          | true => exact ⟨c, rfl⟩
          | false => exact ⟨c', e⟩
    · rw [if_neg hk] at h
      refine closeL_has r _ cl h x ?_
      rcases hx with hx | hx
      · rcases List.mem_cons.mp hx with e | hx
        · cases e; exact absurd rfl hk
        · exact .inl hx
      · exact .inr hx
theorem mem_relabel {scope : Scope} {env : Env} {x : Str} {k : NameKind} (h : (relabel scope env).names.lookup x = some k) (hk : k = .cell ∨ k = .free) (hcell : ∀ y ∈ scope.names, y.2 ≠ .cell) : (x, NameKind.free) ∈ scope.names := by
  have m := PySem.mem_of_lookup h
  obtain ⟨⟨n, k0⟩, hm, e⟩ := List.mem_map.mp m
  dsimp only at e
  split at e
  · rename_i hc
    cases e
    have : k0 = .free := by
      simp only [Bool.and_eq_true, beq_iff_eq] at hc
      exact hc.1.1
    subst this; exact hm
  · cases e
    rcases hk with rfl | rfl
    · exact absurd rfl (hcell _ hm)
    · exact hm
def cxComp (X : Cx) (scope : Scope) (cl : List (Str × Addr)) (C : Addr) (N : List Str) (fp : List Addr) (s2 : Shared) (H2 : Hp) : Cx where
  prog := X.prog
  w := X.w
  K := X.K
  mg := X.mg
  base := X.base
  A := X.A
  N := N
  s₀ := s2
  H₀ := H2
  env := compEnvC scope cl C X.env
  outer := X.stack
  stack := X.stack
  ex := fp
  fn := fun _ => false
  calm := X.calm
  pn := []
  xe := fun _ _ => False
structure CScope (X : Cx) (scope : Scope) (cl : List (Str × Addr)) (lv : List Str) (fr : List (Str × Nat)) : Prop where
  clos : closeL X.env.cells scope.names [] = some cl
  cell : ∀ y ∈ scope.names, y.2 ≠ .cell
  kind : scope.kind = .function
  names : ∀ z ∈ scope.names, z.2 = .local → scope.names.lookup z.1 = some .local
  fr : ∀ q ∈ fr, X.N[q.2]? = some q.1 ∧ (q.1, NameKind.free) ∈ scope.names ∧ (X.env.kindOf q.1 = some .cell ∨ X.env.kindOf q.1 = some .free) ∧
    ((relabel scope X.env).names.lookup q.1 = some .cell ∨ (relabel scope X.env).names.lookup q.1 = some .free)
def cN (lv : List Str) (fr : List (Str × Nat)) : List Str := lv ++ fr.map (·.1)
def cS (lv : List Str) (fr : List (Str × Nat)) (σ : St) : St := lv.map (fun _ => none) ++ fr.map fun q => (σ[q.2]?).join
theorem inv_comp {X : Cx} {pins : List (Addr × Obj)} {σ : St} {H2 : Hp} {s2 : Shared} {scope : Scope} {cl : List (Str × Addr)} {lv : List Str} {fr : List (Str × Nat)} {fp : List Addr} {h4 : Heap} {tk : Nat} {m : Str → Option Value} {n : Nat}
    (I : Inv X pins σ H2 s2) (S : CScope X scope cl lv fr) (hf : ∀ b ∈ fp, FpOk X pins H2 b) (hlt : ∀ b ∈ fp, b < s2.heap.objs.size) (hC : h4.Ns (s2.heap.objs.size + 1) m) (hD : h4.get? s2.heap.objs.size = some { cls := .type "list", data := .seq #[] n })
    (hk : ∀ b o, s2.heap.get? b = some o → h4.get? b = some o) :
    Inv (cxComp X scope cl (s2.heap.objs.size + 1) (cN lv fr) fp s2 H2) [] (cS lv fr σ) (upd H2 s2.heap.objs.size (.lst [])) { s2 with heap := h4, toks := tk } := by
  have hcl := closeL_get scope.names [] cl S.clos (fun x c e => by cases e)
  have hhas := closeL_has scope.names [] cl S.clos
  have hDn : H2 s2.heap.objs.size = none := I.hok.fresh (Nat.le_refl _)
  have hCn : H2 (s2.heap.objs.size + 1) = none := I.hok.fresh (Nat.le_succ _)
  have hCD : s2.heap.objs.size + 1 ≠ s2.heap.objs.size := Nat.ne_of_gt (Nat.lt_succ_self _)
  have fpC : ∀ b ∈ fp, (b ∈ X.ex ∨ X.s₀.heap.objs.size ≤ b) := fun b hb => (hf b hb).2.2.2.1
  have cellLt : ∀ x c, cl.lookup x = some c → c < s2.heap.objs.size := fun x c e => by
    obtain ⟨v, o, ho, _⟩ := I.cell x c (hcl x c e)
    exact Heap.lt_size ho
  refine ⟨⟨I.ok.mod, S.kind, I.ok.glob, I.ok.blt, Nat.le_succ _, fun x y c h1 h2 => I.ok.inj x y c (hcl x c h1) (hcl y c h2), fun x hx => ?_, fun x c hfn => (by cases hfn), I.ok.hd, I.ok.frames, .inl rfl, fun b hb => ?_, I.bs, Nat.le_trans I.ok.bsz I.sz, fun b o e hb => ?_, fun b hb z => ?_, I.stack, I.stkFree⟩,
    rfl, I.bare, ?_, ⟨m, hC, fun i x v h1 h2 h3 => ?_⟩, fun x c e => ?_, ?_, fun x c e => ?_, fun p hp => absurd (show p ∈ ([] : List (Addr × Obj)) from hp) (by simp), ?_, ?_⟩
  · -- has
    have hx' : (relabel scope X.env).names.lookup x = some .cell ∨ (relabel scope X.env).names.lookup x = some .free := hx
    have hm : (x, NameKind.free) ∈ scope.names := hx'.elim (fun z => mem_relabel z (.inl rfl) S.cell) fun z => mem_relabel z (.inr rfl) S.cell
    exact hhas x (.inl hm)
  · -- exf
    obtain ⟨f0, f1, f2, f3, f4, f5⟩ := hf b hb
    refine ⟨fun z => ?_, fun x c e => f4 x c (hcl x c e)⟩
    have z' : b = s2.heap.objs.size + 1 := z
    have := hlt b hb
    rw [z'] at this
    exact absurd this (Nat.not_lt.mpr (Nat.le_succ _))
  · rcases fpC b hb with z | z
    · exact I.ok.noex b o e z
    · exact absurd (Nat.lt_of_lt_of_le (Nat.lt_of_lt_of_le (Heap.lt_size e) I.ok.bsz) z) (Nat.lt_irrefl _)
  · obtain ⟨f0, f1, f2, _⟩ := hf b hb
    rcases List.mem_cons.mp (I.stkSub b z) with q | q
    · exact f1 q
    · exact f2 q
  · exact Un.laid hk (Nat.le_refl _) hDn
  · -- loc
    have h1' : (lv ++ fr.map (·.1))[i]? = some x := h1
    have h2' : (lv.map (fun _ => none) ++ fr.map fun q => (σ[q.2]?).join : St)[i]? = some (some v) := h2
    by_cases hi : i < lv.length
    · rw [List.getElem?_append_left (by simpa using hi), List.getElem?_map] at h2'
      cases hq : lv[i]? with
      | none => rw [hq] at h2'; cases h2'
      | some z => rw [hq] at h2'; cases h2'
    · rw [List.getElem?_append_right (by simpa using hi), List.getElem?_map] at h2'
      rw [List.getElem?_append_right (by omega), List.getElem?_map] at h1'
      simp only [List.length_map] at h2'
      cases hq : fr[i - lv.length]? with
      | none => rw [hq] at h1'; cases h1'
      | some q =>
        rw [hq] at h1' h2'
        have e1 : q.1 = x := Option.some.inj h1'
        have e2 : (σ[q.2]?).join = some v := Option.some.inj h2'
        have e3 : σ[q.2]? = some (some v) := by
          cases hz : σ[q.2]? with
          | none => rw [hz] at e2; cases e2
          | some z => rw [hz] at e2; exact congrArg some e2
        obtain ⟨g1, g2, g3, g4⟩ := S.fr q (List.mem_of_getElem? hq)
        obtain ⟨m0, hn0, hl0⟩ := I.loc
        have vis : Vis X.env.scope q.1 := by
          rcases g3 with g3 | g3
          · exact .inr (.inl g3)
          · exact .inr (.inr g3)
        obtain ⟨u, r, l⟩ := hl0 q.2 q.1 v g1 e3 vis
        refine ⟨u, r, .inr ⟨?_, ?_⟩⟩
        · rw [← e1]; exact g4
        · rcases l with ⟨lk, _⟩ | ⟨_, c, ec, ic⟩
          · rcases g3 with g3 | g3 <;> (rw [lk] at g3; cases g3)
          · obtain ⟨c', ec'⟩ := hhas q.1 (.inl g2)
            have : c' = c := by
              have := hcl q.1 c' ec'
              rw [ec] at this; exact (Option.some.inj this).symm
            subst this
            obtain ⟨o, ho, hd⟩ := ic
            exact ⟨c', by rw [← e1]; exact ec', o, hk _ _ ho, hd⟩
  · obtain ⟨v, o, ho, hd⟩ := I.cell x c (hcl x c e)
    exact ⟨v, o, hk _ _ ho, hd⟩
  · show upd H2 _ _ (s2.heap.objs.size + 1) = none
    rw [upd_ne hCD]; exact hCn
  · have := cellLt x c e
    rw [upd_ne (Nat.ne_of_lt this)]
    exact I.freeC x c (hcl x c e)
  · exact I.hok.laid hk (Nat.le_refl _) ⟨Nat.zero_le _, [], n, .nil, hD⟩
  · show (cS lv fr σ).length = (cN lv fr).length
    simp [cS, cN]
end L2
namespace L2
open PySem PySem.Spec PyProof.Rows
def PIf (X : Cx) (ifs : List Expr) (t : TT) : Prop :=
  ∀ (pins : List (Addr × Obj)) (s : Shared) (σ : St) (H : Hp) (Q : Bool → Hp → Prop), Inv X pins σ H s → t σ H Q →
    wpAny (model X.prog X.w) X.A (forIn ifs true fun c r => if r = true then do let ok ← isTrue c X.env (eval c X.env); pure (ForInStep.yield ok) else pure (ForInStep.yield r)) (TP X pins σ Q) X.xe s
def tTrue : TT := fun _ H Q => Q true H
theorem pif_nil {X : Cx} : PIf X [] tTrue := fun pins s σ H Q I h => wpAny_tests_nil ⟨H, I, h⟩
def tCompR (J : It) (g : TG) (tt : TT) (te : TE) (σ0 : St) (H1 : Hp) (Q : VK) : Prop :=
  ∀ D, H1 D = none → ∃ W : Nat → Nat → List V → St → Hp → Prop, (∃ m, W 0 m [] σ0 (upd H1 D (.lst []))) ∧ ∀ i m ys σ H, W i m ys σ H →
    (J.stop i H ∧ Q (.ref D) H) ∨ (J.go i H ∧ ∃ N : List V → St → Hp → Prop, (∀ ys' σ' H', N ys' σ' H' → ∃ m', m' < m ∧ W (i + 1) m' ys' σ' H') ∧
      ∀ x H', J.yld i H x H' → g x σ H' fun σ2 H2 => tt σ2 H2 fun b H3 => if b = true then te σ2 H3 fun v H4 => H4 D = some (.lst ys) ∧ ys.length < sizeLine ∧ N (ys ++ [v]) σ2 (upd H4 D (.lst (ys ++ [v]))) else N ys σ2 H3)
section
variable {X : Cx} {scope : Scope} {cl : List (Str × Addr)} {lv : List Str} {fr : List (Str × Nat)} {elt tg iter : Expr} {ifs : List Expr} {pos : Pos} {g : TG} {tt : TT} {te : TE}
theorem comp_block {pins : List (Addr × Obj)} {σ : St} {H2 : Hp} {s2 : Shared} {it : Addr} {fp : List Addr} {tn : Nat → Heap → Prop} {J : It} {Q : VK} {E : Value → Shared → Prop} {use : Option (Value → Sem Unit)} {Q' : Value → Shared → Prop}
    (I : Inv X pins σ H2 s2) (S : CScope X scope cl lv fr) (T : Turn X.prog X.w X.K tg J fp it tn) (st : tn 0 s2.heap) (hf : ∀ b ∈ fp, FpOk X pins H2 b) (hc : X.calm = true)
    (hg : ∀ C fp s2 H2, PG (cxComp X scope cl C (cN lv fr) fp s2 H2) tg g) (ht : ∀ C fp s2 H2, PIf (cxComp X scope cl C (cN lv fr) fp s2 H2) ifs tt) (he : ∀ C fp s2 H2, PE (cxComp X scope cl C (cN lv fr) fp s2 H2) elt te)
    (hq : tCompR J g tt te (cS lv fr σ) H2 Q)
    (fin : ∀ D C oC H' s', Inv X (pins ++ [(C, oC)]) σ H' s' → (∀ h : Heap, h.get? C = some oC → ∃ m, h.Ns C m) → FpOk X pins H' C → Q (.ref D) H' → compPost (model X.prog X.w) X.A E use Q' (.ref D) C (.ok .next) s') :
    wpAny (model X.prog X.w) X.A (newList []) (fun acc s₃ => wpAny (model X.prog X.w) X.A (newFunctionEnv scope X.env.globals cl [] X.env.qual none .none (some X.env)) (fun cenv s₄ =>
      codeAny (model X.prog X.w) X.A (.compStart (.ListComp elt [⟨tg, iter, ifs, 0⟩] scope pos) 0 (.ref it) acc { cenv with scope := relabel scope X.env }) (compPost (model X.prog X.w) X.A E use Q' acc cenv.locals) s₄) E s₃) E s2 := by
  have hlt : ∀ b ∈ fp, b < s2.heap.objs.size := fun b hb => by
    obtain ⟨o, ho, _⟩ := T.obj 0 _ st b hb
    exact Heap.lt_size ho
  refine wpAny_newList (wpAny_newFunctionEnv S.cell (by intro y hy; simp at hy) (fun h₁ hns₁ hsb₁ => ?_) S.kind)
  dsimp only at hns₁ hsb₁ ⊢
  have hsz : (s2.heap.push { cls := .type "list", data := .seq ([] : List Value).toArray }).objs.size = s2.heap.objs.size + 1 := Heap.size_push ..
  rw [hsz] at hns₁ hsb₁ ⊢
  have old : ∀ b o, s2.heap.get? b = some o → h₁.get? b = some o := fun b o e => hsb₁.extBut b o (Nat.ne_of_lt (Nat.lt_succ_of_lt (Heap.lt_size e))) (Heap.get?_push_of_some _ (Heap.get?_push_of_some _ e))
  have hacc : h₁.get? s2.heap.objs.size = some { cls := .type "list", data := .seq #[] } := hsb₁.extBut _ _ (Nat.ne_of_lt (Nat.lt_succ_self _)) (Heap.get?_push_of_some _ (Heap.get?_push_size _ rfl))
  have I4 : Inv (cxComp X scope cl (s2.heap.objs.size + 1) (cN lv fr) fp s2 H2) [] (cS lv fr σ) (upd H2 s2.heap.objs.size (.lst [])) { s2 with heap := h₁, toks := s2.toks + ([] : List (Str × Value)).length } :=
    inv_comp I S hf hlt hns₁ hacc old
  generalize hX' : cxComp X scope cl (s2.heap.objs.size + 1) (cN lv fr) fp s2 H2 = X' at I4
  have eP : X'.prog = X.prog := by rw [← hX']; rfl
  have ew : X'.w = X.w := by rw [← hX']; rfl
  have eK : X'.K = X.K := by rw [← hX']; rfl
  have eA : X'.A = X.A := by rw [← hX']; rfl
  have ec : X'.calm = true := by rw [← hX']; exact hc
  have ex : X'.xe = fun _ _ => False := by rw [← hX']; rfl
  have een : X'.env = compEnvC scope cl (s2.heap.objs.size + 1) X.env := by rw [← hX']; rfl
  have hg' : PG X' tg g := hX' ▸ hg _ _ _ _
  have ht' : PIf X' ifs tt := hX' ▸ ht _ _ _ _
  have he' : PE X' elt te := hX' ▸ he _ _ _ _
  obtain ⟨W, ⟨m0, w0⟩, turn⟩ := hq s2.heap.objs.size (I.hok.fresh (Nat.le_refl _))
  have st1 : tn 0 h₁ := T.keep _ _ _ st fun b _ o e => old b o e
  have f4 : ∀ b ∈ fp, FpOk X' [] (upd H2 s2.heap.objs.size (.lst [])) b := fun b hb => by
    obtain ⟨f0, f1, f2, f3, f4, f5⟩ := hf b hb
    have := hlt b hb
    refine ⟨?_, ?_, ?_, .inl ?_, ?_, ?_⟩
    · rw [upd_ne (Nat.ne_of_lt this)]; exact f0
    · rw [een]; exact Nat.ne_of_lt (Nat.lt_succ_of_lt this)
    · intro z
      have z' : b ∈ frs X.stack := by rw [← hX'] at z; exact z
      rcases List.mem_cons.mp (I.stkSub b z') with q | q
      · exact f1 q
      · exact f2 q
    · rw [← hX']; exact hb
    · intro x c e
      rw [een] at e
      exact f4 x c (closeL_get scope.names [] cl S.clos (fun x c e => by cases e) x c e)
    · intro p hp
      rw [← hX'] at hp
      exact absurd (show p ∈ ([] : List (Addr × Obj)) from hp) (by simp)
  have stat : ∀ {H' : Hp}, (∀ b ∈ fp, H' b = none) → ∀ b ∈ fp, FpOk X' [] H' b := fun hn b hb => ⟨hn b hb, (f4 b hb).2⟩
  have loop : ∀ s₃ : Shared, s₃ = { s2 with heap := h₁, toks := s2.toks + ([] : List (Str × Value)).length } →
      codeAny (model X.prog X.w) X.A (.compLoop (.ListComp elt [⟨tg, iter, ifs, 0⟩] scope pos) 0 (.ref it) (.ref s2.heap.objs.size) (compEnvC scope cl (s2.heap.objs.size + 1) X.env))
        (compPost (model X.prog X.w) X.A E use Q' (.ref s2.heap.objs.size) (s2.heap.objs.size + 1)) s₃ := by
    rintro s₃ rfl
    refine compLoop_go (fun n s' => ∃ i ys σ' H', Inv X' [] σ' H' s' ∧ tn i s'.heap ∧ (∀ b ∈ fp, H' b = none) ∧ W i n ys σ' H') ?_ m0 ⟨0, [], _, _, I4, st1, fun b hb => (f4 b hb).1, w0⟩
    rintro n s3 ⟨i, ys, σ3, H3, I3, st3, fr3, w3⟩
    rcases turn i n ys σ3 H3 w3 with ⟨stop, qn⟩ | ⟨go, N, hN, step⟩
    · have a0 := T.done X' eP ew eK ec i [] s3 σ3 H3 (fun _ _ => False) I3 (stat fr3) st3 stop
      rw [eA] at a0
      refine thn a0 fun r s4 ⟨hr, I4'⟩ => ?_
      subst hr
      have un : Un (frs X.stack) fp H2 H3 s2.heap s4.heap := by
        have := I4'.base
        rw [← hX'] at this
        exact this
      have os : s4.os = s2.os := by
        have := I4'.os
        rw [← hX'] at this
        exact this
      have hok : HOk X.prog X.w H3 s4.heap := by
        have := I4'.hok
        rw [← hX'] at this
        exact this
      have J1 : Inv X pins σ H3 s4 := I.call' os un hok I4'.bare fun b hb => by
        obtain ⟨f0, f1, f2, f3, f4, f5⟩ := hf b hb
        exact ⟨f3, f1, f4, f5⟩
      obtain ⟨m, hn, _⟩ := I4'.loc
      have hn' : s4.heap.Ns (s2.heap.objs.size + 1) m := by rw [een] at hn; exact hn
      have hCn : H3 (s2.heap.objs.size + 1) = none := by
        have := I4'.free
        rw [een] at this; exact this
      have fC : FpOk X pins H3 (s2.heap.objs.size + 1) := I.fpOk (Nat.le_succ _) hCn
      obtain ⟨oC, es, ep, hoC, hdC, rC⟩ := id hn'
      have J2 : Inv X (pins ++ [(s2.heap.objs.size + 1, oC)]) σ H3 s4 := J1.pins_of fun p hp => by
        rcases List.mem_append.mp hp with hp | hp
        · exact J1.pin p (List.mem_append_right _ hp)
        · have e : p = (s2.heap.objs.size + 1, oC) := by simpa using hp
          subst e
          exact ⟨hoC, hCn, fC.2.1, fC.2.2.1, fun v z => by rw [hdC] at z; cases z⟩
      exact fin _ _ oC H3 s4 J2 (fun h e => ⟨m, oC, es, ep, e, hdC, rC⟩) fC qn
    · have a0 := T.item X' eP ew eK ec i [] s3 σ3 H3 (fun _ _ => False) I3 (stat fr3) st3 go
      rw [eA] at a0
      refine thn a0 fun r s4 ⟨u, hr, h4⟩ => ?_
      subst hr
      refine thn h4 fun _ s5 ⟨x, H5, I5, r5, y5, st5, fr5⟩ => ?_
      have I5' := I5.pinned (stat fr5) (T.obj _ _ st5)
      have a1 := hg' _ s5 σ3 H5 x u _ I5' r5 (step x H5 y5)
      rw [eP, ew, eA, een, ex] at a1
      refine thn a1 fun _ s6 ⟨σ6, H6, I6, q6⟩ => ?_
      have a2 := ht' _ s6 σ6 H6 _ I6 q6
      rw [eP, ew, eA, een, ex] at a2
      refine thn a2 fun ok s7 ⟨H7, I7, q7⟩ => ?_
      have again : ∀ {ys7 : List V} {H7 : Hp} {s7 : Shared}, Inv X' ([] ++ pinsAt fp s5.heap) σ6 H7 s7 → N ys7 σ6 H7 → ∃ m, m < n ∧ ∃ i ys σ' H', Inv X' [] σ' H' s7 ∧ tn i s7.heap ∧ (∀ b ∈ fp, H' b = none) ∧ W i m ys σ' H' := fun {ys7 H7 s7} I7 n7 => by
        obtain ⟨m', hm, w7⟩ := hN ys7 σ6 H7 n7
        refine ⟨m', hm, i + 1, ys7, σ6, H7, I7.unpinned, T.keep _ _ _ st5 fun b hb o e => (I7.pin (b, o) (List.mem_append_right _ (List.mem_append_right _ (mem_pinsAt hb e)))).1, fun b hb => ?_, w7⟩
        obtain ⟨o, e, d⟩ := T.obj _ _ st5 b hb
        exact (I7.pin (b, o) (List.mem_append_right _ (List.mem_append_right _ (mem_pinsAt hb e)))).2.1
      cases ok with
      | false => exact again I7 q7
      | true =>
        have a3 := he' _ s7 σ6 H7 _ I7 q7
        rw [eP, ew, eA, een, ex] at a3
        refine thn a3 fun y s8 ⟨v, H8, I8, r8, hD8, hl8, n8⟩ => ?_
        have a4 := mt_append (X := X') _ s8 σ6 H8 (.ref s2.heap.objs.size) [v] (.ref s2.heap.objs.size) [y] (fun _ H9 => N (ys ++ [v]) σ6 H9) I8 rfl (.cons r8 .nil) ⟨_, _, _, rfl, rfl, hD8, hl8, n8⟩
        rw [eP, ew, eA, ex] at a4
        refine thn a4 fun _ s9 ⟨v9, H9, I9, _, n9⟩ => ?_
        exact again I9 n9
  exact codeAny_compStart_list (loop _ rfl) (T.self _ 0 _ _ _ st1 (loop _ rfl))
def tComp (lv : List Str) (fr : List (Str × Nat)) (wi : TI) (g : TG) (tt : TT) (te : TE) : TE := fun σ H Q => wi σ H fun J H1 => tCompR J g tt te (cS lv fr σ) H1 Q
theorem pe_comp {wi : TI} (hc : X.calm = true) (S : CScope X scope cl lv fr) (hi : PI X tg iter wi)
    (hg : ∀ C fp s2 H2, PG (cxComp X scope cl C (cN lv fr) fp s2 H2) tg g) (ht : ∀ C fp s2 H2, PIf (cxComp X scope cl C (cN lv fr) fp s2 H2) ifs tt) (he : ∀ C fp s2 H2, PE (cxComp X scope cl C (cN lv fr) fp s2 H2) elt te)
    (hs : ∀ x, foldedSetIterable iter X.env x = pure x := by intro _; rfl) : PE X (.ListComp elt [⟨tg, iter, ifs, 0⟩] scope pos) (tComp lv fr wi g tt te) := by
  intro pins s σ H Q I h
  rw [eval_ListComp]
  refine wpAny_comprehension_free (use := none) rfl hs (closeL_ok S.clos) S.kind S.names ?_
  refine thn (hi pins s σ H _ I h) fun v s1 h1 => thn h1 fun itv s2 h2 => ?_
  obtain ⟨it, fp, tn, J, H2, e, I2, T, st2, f2, q⟩ := h2
  subst e
  refine comp_block I2 S T st2 f2 hc hg ht he q fun D C oC H' s' J1 hNs fC qD => ?_
  have hp := J1.pin (C, oC) (List.mem_append_right _ (List.mem_append_right _ (List.mem_singleton.mpr rfl)))
  obtain ⟨m, hm⟩ := hNs s'.heap hp.1
  refine ⟨m, hm, fun h' hs' => ?_⟩
  exact ⟨.ref D, H', J1.unpinned.turned (t' := s'.toks) (fun b o hb e => (hs'.2 b hb).trans e) fC.1 fC.2.1 fC.2.2.2.1 fC.2.2.2.2.1 fC.2.2.2.2.2, rfl, qD⟩
theorem ps_setcomp {wi : TI} {j : Nat} {y : Str} {py spos : Pos} (hc : X.calm = true) (S : CScope X scope cl lv fr) (hi : PI X tg iter wi)
    (hg : ∀ C fp s2 H2, PG (cxComp X scope cl C (cN lv fr) fp s2 H2) tg g) (ht : ∀ C fp s2 H2, PIf (cxComp X scope cl C (cN lv fr) fp s2 H2) ifs tt) (he : ∀ C fp s2 H2, PE (cxComp X scope cl C (cN lv fr) fp s2 H2) elt te)
    (hy : PG X (.Name y py) (gName j))
    (hsw : swapsWith (.ListComp elt [⟨tg, iter, ifs, 0⟩] scope pos) (some (.Name y py)) spos.line X.env = pure true := by rfl)
    (hs : ∀ x, foldedSetIterable iter X.env x = pure x := by intro _; rfl) : PS X (.Assign [.Name y py] (.ListComp elt [⟨tg, iter, ifs, 0⟩] scope pos) spos) (tAsg (tComp lv fr wi g tt te) (gName j)) := by
  intro pins s σ H D I h
  rw [exec_Assign_Name_used _ _ _ _ hsw]
  refine wpAny_bind (wpAny_standAt (wpAny_bind ?_))
  show wpAny _ X.A (do let _ ← comprehension (.ListComp elt [⟨tg, iter, ifs, 0⟩] scope pos) scope X.env _ (newList []) false (eval iter X.env) (some (assign (.Name y py) X.env))) _ _ s
  refine wpAny_bind (wpAny_mono (wpAny_comprehension_free (use := some (assign (.Name y py) X.env)) (Q := fun _ s' => SP X pins D .next s') rfl hs (closeL_ok S.clos) S.kind S.names ?_) (fun _ s' hq => wpAny_pure (wpAny_pure hq)) fun _ _ e => e)
  refine thn (hi pins s σ H _ I h) fun v s1 h1 => thn h1 fun itv s2 h2 => ?_
  obtain ⟨it, fp, tn, J, H2, e, I2, T, st2, f2, q⟩ := h2
  subst e
  refine comp_block I2 S T st2 f2 hc hg ht he q fun D' C oC H' s' J1 hNs fC qD => ?_
  show wpAny _ X.A (assign (.Name y py) X.env (.ref D')) _ _ _
  refine thn (hy _ s' σ H' (.ref D') (.ref D') _ J1 rfl qD) fun _ s3 ⟨σ3, H3, I3, q3⟩ => ?_
  have hp := I3.pin (C, oC) (List.mem_append_right _ (List.mem_append_right _ (List.mem_singleton.mpr rfl)))
  obtain ⟨m, hm⟩ := hNs s3.heap hp.1
  refine ⟨m, hm, fun h' hs' => ?_⟩
  have fC' : FpOk X pins H3 C := ⟨hp.2.1, fC.2⟩
  exact ⟨σ3, H3, I3.unpinned.turned (t' := s3.toks) (fun b o hb e => (hs'.2 b hb).trans e) fC'.1 fC'.2.1 fC'.2.2.2.1 fC'.2.2.2.2.1 fC'.2.2.2.2.2, q3⟩
end
end L2
namespace L2
open PySem PySem.Spec PyProof.Rows
abbrev tx (l : List Nat) : V := .str ⟨l.toArray⟩
def br (b : Bool) (A B : Prop) : Prop := (b = true → A) ∧ (b = false → B)
theorem str_app (a b : Str) : a ++ b = ⟨(a.cps.toList ++ b.cps.toList).toArray⟩ := by
  cases a; cases b
  show Str.mk (_ ++ _) = _
  simp
theorem str_eta (a : Str) : a = ⟨a.cps.toList.toArray⟩ := by cases a; simp
def cutL (l : List Nat) (lo hi : Option Int) : List Nat := (l.drop (HT.sIx l.length 0 lo)).take (HT.sIx l.length l.length hi - HT.sIx l.length 0 lo)
theorem strSl_bounds (lo hi : Option Int) (n : Nat) : Builtin.Str.strSliceIndices lo hi 1 n = sliceRange ((HT.sIx n 0 lo : Nat) : Int) ((HT.sIx n n hi : Nat) : Int) 1 := by
  unfold Builtin.Str.strSliceIndices
  simp only [show (1 : Int) > 0 by decide, if_true]
  congr 1
  · cases lo with
    | none => simp [HT.sIx]
    | some i =>
      simp only [HT.sIx]
      by_cases h : i < 0
      · simp only [h, if_true] <;> omega
      · simp only [h, if_false] <;> omega
  · cases hi with
    | none => simp [HT.sIx]
    | some i =>
      simp only [HT.sIx]
      by_cases h : i < 0
      · simp only [h, if_true] <;> omega
      · simp only [h, if_false] <;> omega
theorem picked_cut (x : Str) (lo hi : Option Int) : (Builtin.Str.strSliceIndices lo hi 1 x.length).filterMap (x.cps[·]?) = cutL x.cps.toList lo hi := by
  rw [strSl_bounds, sliceRange_one, pick_run]
  unfold cutL Str.length
  simp only [Array.length_toList]
theorem cutL_length_le (l : List Nat) (lo hi : Option Int) : (cutL l lo hi).length ≤ l.length := by
  unfold cutL
  rw [List.length_take, List.length_drop]
  omega
theorem cutL_full {l : List Nat} {lo hi : Option Int} (h : (cutL l lo hi).length = l.length) : cutL l lo hi = l := by
  unfold cutL at h ⊢
  rw [List.length_take, List.length_drop] at h
  have h1 : HT.sIx l.length l.length hi ≤ l.length := HT.sIx_le _ _ (Nat.le_refl _) _
  by_cases hl : l.length = 0
  · have : l = [] := List.length_eq_zero_iff.mp hl
    subst this
    simp
  · have h2 : HT.sIx l.length 0 lo = 0 := by omega
    rw [h2, List.drop_zero, List.take_of_length_le]
    omega
section
variable {X : Cx}
def rSlS : V → Option Int → Option Int → Hp → VK → Prop := fun x lo hi H Q => match x with | .str z => z.length ≤ sizeLine ∧ Q (tx (cutL z.cps.toList lo hi)) H | _ => False
theorem isPart_value {v : Value} {o : Option Int} (p : IsPart v o) : ∃ l : Option (Int × Tok), v = partValue l ∧ l.map (·.1) = o := by
  cases p with
  | none => exact ⟨none, rfl, rfl⟩
  | int i t => exact ⟨some (i, t), rfl, rfl⟩
theorem sl_str : SlR X rSlS := by
  intro pins s σ H x v vl vu lo hi sl Q I rx hs pl pu h
  cases x with
  | str z =>
    obtain ⟨hz, q⟩ := h
    obtain ⟨t, rfl⟩ := rx
    obtain ⟨l, rfl, rfl⟩ := isPart_value pl
    obtain ⟨u, rfl, rfl⟩ := isPart_value pu
    refine ⟨"str", _, F.slot_str_getitem.lookup, typeIs_str _ _ _, ?_⟩
    refine wpAny_getItem_str_slice (l := l) (u := u) (st := none) hs rfl ?_
    unfold sliceMade
    have e : slicePicked z l u none = Builtin.Str.strSliceIndices (l.map (·.1)) (u.map (·.1)) 1 z.length := rfl
    rw [e]
    have hlen : (Builtin.Str.strSliceIndices (l.map (·.1)) (u.map (·.1)) 1 z.length).length = (cutL z.cps.toList (l.map (·.1)) (u.map (·.1))).length := by
      rw [strSl_bounds, sliceRange_one, List.length_map, List.length_range]
      unfold cutL
      rw [List.length_take, List.length_drop]
      have h1 : HT.sIx z.length z.length (u.map (·.1)) ≤ z.length := HT.sIx_le _ _ (Nat.le_refl _) _
      have h2 : z.cps.toList.length = z.length := by simp [Str.length]
      rw [h2]
      omega
    split
    · rename_i hc
      have hc' : (cutL z.cps.toList (l.map (·.1)) (u.map (·.1))).length = z.cps.toList.length := by
        rw [← hlen]
        simpa [Str.length] using hc
      rw [cutL_full hc'] at q
      have q' : Q (.str z) H := by rw [str_eta z]; exact q
      exact ⟨.str z, H, I, ⟨_, rfl⟩, q'⟩
    · rw [picked_cut]
      have h3 := cutL_length_le z.cps.toList (l.map (·.1)) (u.map (·.1))
      have h2 : z.cps.toList.length = z.length := by simp [Str.length]
      refine ⟨?_, tx (cutL z.cps.toList (l.map (·.1)) (u.map (·.1))), H, I.tok _, ⟨_, rfl⟩, q⟩
      show (cutL z.cps.toList (l.map (·.1)) (u.map (·.1))).toArray.size ≤ sizeLine
      rw [List.size_toArray]
      exact Nat.le_trans h3 (by rw [h2]; exact hz)
  | _ => exact h.elim
end
end L2
namespace L2
open PySem PySem.Spec PyProof.Rows
def mVar (i : Nat) : TE := fun σ H Q => match σ[i]? with | some (some v) => Q v H | _ => False
section
variable {X : Cx} {a b c : Expr} {ta tb tc : TE} {pos : Pos}
theorem pe_mvar (i : Nat) {x : Str} {pos : Pos} (hN : X.N[i]? = some x := by rfl) (hv : Vis X.env.scope x := by first | exact Or.inl rfl | exact Or.inr (Or.inl rfl) | exact Or.inr (Or.inr rfl)) (hd : (x == ("__debug__" : Str)) = false := by decide)
    (hcd : (x == ("__classdict__" : Str)) = false := by decide) : PE X (.Name x pos) (mVar i) := by
  intro pins s σ H Q I h
  unfold mVar at h
  cases e : σ[i]? with
  | none => rw [e] at h; exact h.elim
  | some o =>
    rw [e] at h
    cases o with
    | none => exact h.elim
    | some v => exact pe_var hN hv hd hcd pins s σ H Q I ⟨v, e, h⟩
theorem pe_txt {x : Str} {l : List Nat} {j pos} (h : x = ⟨l.toArray⟩ := by rfl) : PE X (.Constant (.str x) j pos) (tC (tx l)) := h ▸ pe_str
def mAdd : R2 := fun x y H Q => match x, y with
  | .int i, .int j => Q (.int (i + j)) H
  | .str a, .str b => a.cps.toList.length + b.cps.toList.length ≤ sizeLine ∧ Q (tx (a.cps.toList ++ b.cps.toList)) H
  | .ref a, .ref b => ∃ xs zs, H a = some (.lst xs) ∧ H b = some (.lst zs) ∧ xs.length + zs.length ≤ sizeLine ∧ ∀ p, H p = none → Q (.ref p) (upd H p (.lst (xs ++ zs)))
  | _, _ => False
theorem op_addM : OpR X (binaryOp .Add) mAdd := by
  intro pins s σ H x y v u Q I rx ry h
  cases x <;> cases y <;> first
    | exact h.elim
    | exact op_add pins s σ H _ _ v u Q I rx ry ⟨_, _, rfl, rfl, h⟩
    | exact op_add_str pins s σ H _ _ v u Q I rx ry ⟨_, _, rfl, rfl, by simpa [Str.length] using h.1, by rw [str_app]; exact h.2⟩
    | (obtain ⟨xs, zs, h1, h2, h3, h4⟩ := h; exact op_cat pins s σ H _ _ v u Q I rx ry ⟨_, _, xs, zs, rfl, rfl, h1, h2, h3, h4⟩)
def mI (C : Int → Int → Prop) (g : Int → Int → V) : R2 := fun x y H Q => match x, y with | .int i, .int j => C i j ∧ Q (g i j) H | _, _ => False
def mI0 (g : Int → Int → V) : R2 := fun x y H Q => match x, y with | .int i, .int j => Q (g i j) H | _, _ => False
theorem opM {f : Value → Value → Sem Value} {C : Int → Int → Prop} {g : Int → Int → V} (h : OpR X f (rI C g)) : OpR X f (mI C g) := by
  intro pins s σ H x y v u Q I rx ry q
  cases x <;> cases y <;> first | exact q.elim | exact h pins s σ H _ _ v u Q I rx ry ⟨_, _, rfl, rfl, q.1, q.2⟩
theorem opM0 {f : Value → Value → Sem Value} {g : Int → Int → V} (h : OpR X f (rI0 g)) : OpR X f (mI0 g) := by
  intro pins s σ H x y v u Q I rx ry q
  cases x <;> cases y <;> first | exact q.elim | exact h pins s σ H _ _ v u Q I rx ry ⟨_, _, rfl, rfl, q⟩
abbrev mSub : R2 := mI0 fun i j => .int (i - j)
abbrev mMod : R2 := mI (fun _ j => 0 < j) fun i j => .int (i % j)
abbrev mPow : R2 := mI CPow fun i j => .int (i ^ j.toNat)
theorem op_subM : OpR X (binaryOp .Sub) mSub := opM0 op_sub
theorem op_modM : OpR X (binaryOp .Mod) mMod := opM op_mod
theorem op_powM : OpR X (binaryOp .Pow) mPow := opM op_pow
def mEqB (x y : V) : Option Bool := match x, y with
  | .int i, .int j => some (decide (i = j))
  | .str a, .str b => some (decide (a.cps.toList = b.cps.toList))
  | .bl a, .bl b => some (decide (a = b))
  | .non, .non => some true
  | .non, .int _ => some false | .int _, .non => some false | .non, .bl _ => some false | .bl _, .non => some false | .non, .str _ => some false | .str _, .non => some false
  | .int _, .str _ => some false | .str _, .int _ => some false | .bl _, .str _ => some false | .str _, .bl _ => some false
  | _, _ => none
theorem mEqB_dec {x y : V} {b : Bool} (h : mEqB x y = some b) : scal x y = true ∧ decide (x = y) = b := by
  cases x <;> cases y <;> first
    | (simp [mEqB] at h; done)
    | (refine ⟨rfl, ?_⟩; have h' := Option.some.inj h; rw [← h']; first | rfl | (simp; done))
    | (rename_i a b'
       refine ⟨rfl, ?_⟩
       have h' := Option.some.inj h
       rw [← h', decide_eq_decide]
       constructor
       · intro e; cases e; rfl
       · intro e; rw [str_eta a, str_eta b', e])
def mEq : R2 := fun x y H Q => match mEqB x y with | some b => Q (.bl b) H | none => False
def mNe : R2 := fun x y H Q => match mEqB x y with | some b => Q (.bl (!b)) H | none => False
theorem op_eqM : OpR X (compareOp .Eq) mEq := by
  intro pins s σ H x y v u Q I rx ry h
  unfold mEq at h
  cases e : mEqB x y with
  | none => rw [e] at h; exact h.elim
  | some b =>
    rw [e] at h
    obtain ⟨h1, h2⟩ := mEqB_dec e
    exact op_eq pins s σ H x y v u Q I rx ry ⟨h1, by rw [h2]; exact h⟩
theorem op_neM : OpR X (compareOp .NotEq) mNe := by
  intro pins s σ H x y v u Q I rx ry h
  unfold mNe at h
  cases e : mEqB x y with
  | none => rw [e] at h; exact h.elim
  | some b =>
    rw [e] at h
    obtain ⟨h1, h2⟩ := mEqB_dec e
    exact op_ne pins s σ H x y v u Q I rx ry ⟨h1, by rw [h2]; exact h⟩
abbrev mLe : R2 := mI0 fun i j => .bl (decide (i ≤ j))
abbrev mGt : R2 := mI0 fun i j => .bl (decide (j < i))
abbrev mGe : R2 := mI0 fun i j => .bl (decide (j ≤ i))
theorem op_leM : OpR X (compareOp .LtE) mLe := opM0 op_le
theorem op_gtM : OpR X (compareOp .Gt) mGt := opM0 op_gt
theorem op_geM : OpR X (compareOp .GtE) mGe := opM0 op_ge
def inS (l : List Nat) (t : List Nat) : Bool := match l with | [c] => decide (c ∈ t) | _ => !(Builtin.Str.occurrences ⟨t.toArray⟩ ⟨l.toArray⟩ 0 t.length 1).isEmpty
theorem inS_occ (a b : Str) : (!(Builtin.Str.occurrences b a 0 b.length 1).isEmpty) = inS a.cps.toList b.cps.toList := by
  have e : b.length = b.cps.toList.length := by simp [Str.length]
  unfold inS
  split
  · rename_i c hc
    have ea : a = ⟨#[c]⟩ := by rw [str_eta a, hc]
    rw [ea]
    exact StrLaws.found_one b c
  · rw [← str_eta, ← str_eta, e]
def mIn (K : PySem.W.Frag) (neg : Bool) : R2 := fun x y H Q => match y with
  | .str b => (match x with | .str a => Q (.bl (if neg then !inS a.cps.toList b.cps.toList else inS a.cps.toList b.cps.toList)) H | _ => False)
  | .ref p => ∃ xs, (SqL K H p xs ∨ SqT K H p xs) ∧ flatV x = true ∧ xs.all flatV = true ∧ Q (.bl (if neg then !inV x xs else inV x xs)) H
  | _ => False
theorem op_inM : OpR X (compareOp .In) (mIn X.K false) := by
  intro pins s σ H x y v u Q I rx ry h
  unfold mIn at h
  cases y with
  | str b =>
    cases x with
    | str a => exact op_in_str pins s σ H _ _ v u Q I rx ry ⟨_, _, rfl, rfl, by rw [inS_occ]; exact h⟩
    | _ => exact h.elim
  | ref p =>
    obtain ⟨xs, h1, h2, h3, h4⟩ := h
    exact op_in_seq pins s σ H _ _ v u Q I rx ry ⟨_, xs, rfl, h1, h2, h3, h4⟩
  | _ => exact h.elim
theorem op_notInM : OpR X (compareOp .NotIn) (mIn X.K true) := by
  intro pins s σ H x y v u Q I rx ry h
  unfold mIn at h
  cases y with
  | str b =>
    cases x with
    | str a => exact op_notin_str pins s σ H _ _ v u Q I rx ry ⟨_, _, rfl, rfl, by rw [inS_occ]; exact h⟩
    | _ => exact h.elim
  | ref p =>
    obtain ⟨xs, h1, h2, h3, h4⟩ := h
    exact op_notIn_seq pins s σ H _ _ v u Q I rx ry ⟨_, xs, rfl, h1, h2, h3, h4⟩
  | _ => exact h.elim
def mTest (t : TE) : TT := fun σ H Q => t σ H fun x H' => match x with | .bl k => Q k H' | _ => False
theorem PE.imp {e : Expr} {t t' : TE} (h : PE X e t) (hi : ∀ σ H Q, t' σ H Q → t σ H Q) : PE X e t' := fun pins s σ H Q I q => h pins s σ H Q I (hi σ H Q q)
theorem PT.imp {e : Expr} {t t' : TT} (h : PT X e t) (hi : ∀ σ H Q, t' σ H Q → t σ H Q) : PT X e t' := fun pins s σ H Q I q => h pins s σ H Q I (hi σ H Q q)
def mAndV (ta tb : TE) : TE := fun σ H Q => ta σ H fun x H1 => match x with | .bl c => br c (tb σ H1 Q) (Q (.bl false) H1) | _ => False
def mNotV (ta : TE) : TE := fun σ H Q => ta σ H fun x H1 => match x with | .bl c => Q (.bl (!c)) H1 | _ => False
def mAnd (t u : TT) : TT := fun σ H Q => t σ H fun c H1 => br c (u σ H1 Q) (Q false H1)
def mOr (t u : TT) : TT := fun σ H Q => t σ H fun c H1 => br c (Q true H1) (u σ H1 Q)
variable {rest : List Expr} {tA tB' : TT}
theorem pe_andM (ha : PE X a ta) (hb : PE X (.BoolOp .And (b :: rest) pos) tb) : PE X (.BoolOp .And (a :: b :: rest) pos) (mAndV ta tb) := by
  intro pins s σ H Q I h
  refine BoolOp_and (thn (ha pins s σ H _ I h) fun v s1 ⟨x, H1, I1, r1, q1⟩ => ?_)
  cases x with
  | bl c =>
    cases r1
    refine wpAny_truthy_bool ?_
    cases c with
    | true => exact hb pins s1 σ H1 Q I1 (q1.1 rfl)
    | false => exact ⟨.bl false, H1, I1, rfl, q1.2 rfl⟩
  | _ => exact q1.elim
theorem pe_notM (ha : PE X a ta) : PE X (.UnaryOp .Not a pos) (mNotV ta) := by
  intro pins s σ H Q I h
  refine UnaryOp_ (thn (ha pins s σ H _ I h) fun v s1 ⟨x, H1, I1, r1, q1⟩ => ?_)
  cases x with
  | bl c => cases r1; exact not_of (wpAny_truthy_bool ⟨.bl (!c), H1, I1, rfl, q1⟩)
  | _ => exact q1.elim
theorem pw_andM (ha : PT X a tA) (hb : PW X (.BoolOp .And (b :: rest) pos) tB') : PW X (.BoolOp .And (a :: b :: rest) pos) (mAnd tA tB') := by
  intro wh pins s σ H Q I h
  refine isTrue_and (thn (ha pins s σ H _ I h) fun c s1 ⟨H1, I1, q1⟩ => ?_)
  cases c with
  | true => exact hb wh pins s1 σ H1 Q I1 (q1.1 rfl)
  | false => exact ⟨H1, I1, q1.2 rfl⟩
theorem pw_orM (ha : PT X a tA) (hb : PW X (.BoolOp .Or (b :: rest) pos) tB') : PW X (.BoolOp .Or (a :: b :: rest) pos) (mOr tA tB') := by
  intro wh pins s σ H Q I h
  refine isTrue_or (thn (ha pins s σ H _ I h) fun c s1 ⟨H1, I1, q1⟩ => ?_)
  cases c with
  | true => exact ⟨H1, I1, q1.1 rfl⟩
  | false => exact hb wh pins s1 σ H1 Q I1 (q1.2 rfl)
theorem pt_valM {e : Expr} {t : TE} (h : PE X e t) (he : ∀ whole, isTrue e X.env whole = (do let v ← whole; standAt e.pos; holding [v] (truthy v)) := by intro _; rfl) : PT X e (mTest t) := by
  intro pins s σ H Q I hw
  refine isTrue_plain (thn (h pins s σ H _ I hw) fun v s1 ⟨x, H1, I1, r1, q1⟩ => ?_) (he _)
  cases x with
  | bl c => cases r1; exact wpAny_truthy_bool ⟨H1, I1, q1⟩
  | _ => exact q1.elim
theorem pt_cmpM {op : CmpOp} {r : R2} (ho : OpR X (compareOp op) r) (ha : PE X a ta) (hb : PE X b tb) (hm : behindInMarks op b = false := by first | exact nobehind _ (by decide) (by decide) | rfl) : PT X (.Compare a [op] [b] pos) (mTest (tOp r ta tb)) := by
  intro pins s σ H Q I hw
  refine wpAny_isTrue_Compare1 (binT ha hb I hw fun v u s2 x y H2 I2 rx ry q => ?_) hm
  refine thn (ho pins s2 σ H2 x y v u _ I2 rx ry q) fun c s3 ⟨z, H3, I3, r3, q3⟩ => ?_
  cases z with
  | bl k => cases r3; exact wpAny_truthy_bool ⟨H3, I3, q3⟩
  | _ => exact q3.elim
theorem pe_cmpM {op : CmpOp} {r : R2} (ho : OpR X (compareOp op) r) (ha : PE X a ta) (hb : PE X b tb) (hm : behindInMarks op b = false := by first | exact nobehind _ (by decide) (by decide) | rfl) : PE X (.Compare a [op] [b] pos) (tOp r ta tb) := pe_cmpR ho ha hb hm
def mIfS (c : TT) (t u : TS) : TS := fun D σ H => c σ H fun b H1 => br b (t D σ H1) (u D σ H1)
theorem ps_ifM {c : Expr} {a b : List Stmt} {tc : TT} {t u : TS} (hc : PT X c tc) (ha : PSs X a t) (hb : PSs X b u) : PS X (.If c a b pos) (mIfS tc t u) := by
  intro pins s σ H D I h
  refine wpAny_If (thn (hc pins s σ H _ I h) fun d s1 ⟨H1, I1, q1⟩ => ?_)
  cases d with
  | true => exact ha pins s1 σ H1 D I1 (q1.1 rfl)
  | false => exact hb pins s1 σ H1 D I1 (q1.2 rfl)
def mChain (r r' : R2) (ta tb tc : TE) : TE := fun σ H Q => ta σ H fun x H1 => tb σ H1 fun y H2 => r x y H2 fun z H3 => match z with | .bl k => br k (tc σ H3 fun w H4 => r' y w H4 Q) (Q (.bl false) H3) | _ => False
theorem pe_chainM {op op' : CmpOp} {r r' : R2} (ho : OpR X (compareOp op) r) (ho' : OpR X (compareOp op') r') (ha : PE X a ta) (hb : PE X b tb) (hc : PE X c tc)
    (hm : lastMarks [op, op'] [b, c] = false := by with_unfolding_all rfl) : PE X (.Compare a [op, op'] [b, c] pos) (mChain r r' ta tb tc) := by
  intro pins s σ H Q I h
  refine Compare_chain (thn (ha pins s σ H _ I h) fun v s1 ⟨x, H1, I1, r1, q1⟩ => chain_link (thn (hb pins s1 σ H1 _ I1 q1) fun u s2 ⟨y, H2, I2, r2, q2⟩ =>
    thn (ho pins s2 σ H2 x y v u _ I2 r1 r2 q2) fun d s3 ⟨z, H3, I3, r3, q3⟩ => ?_)) hm
  cases z with
  | bl k =>
    cases r3
    refine wpAny_truthy_bool ?_
    cases k with
    | false => exact ite_ff ⟨.bl false, H3, I3, rfl, q3.2 rfl⟩
    | true => exact ite_tt (chain_last (thn (hc pins s3 σ H3 _ I3 (q3.1 rfl)) fun w' s4 ⟨z', H4, I4, r4, q4⟩ => ho' pins s4 σ H4 y z' u w' Q I4 r2 r4 q4))
  | _ => exact q3.elim
end
end L2
namespace L2
open PySem PySem.Spec PyProof.Rows
section
variable {X : Cx} {a b c e o : Expr} {es : List Expr} {ta tb tc : TE} {t : TA} {pos : Pos}
def mIx (K : PySem.W.Frag) : R2 := fun x y H Q => match y with
  | .int i => (match x with
    | .ref p => ∃ xs, (SqL K H p xs ∨ SqT K H p xs) ∧ (match atI xs i with | some v => Q v H | none => False)
    | .str z => z.cps.toList.length ≤ sizeLine ∧ (match atI z.cps.toList i with | some c => Q (tx [c]) H | none => False)
    | _ => False)
  | _ => False
theorem ix_M : IxR X (mIx X.K) := by
  intro value slice pins s σ H x y v u Q I rx ry h hs0
  unfold mIx at h
  cases y with
  | int i =>
    cases x with
    | ref p =>
      obtain ⟨xs, hs, h⟩ := h
      cases ev : atI xs i with
      | none => rw [ev] at h; exact h.elim
      | some w' =>
        rw [ev] at h
        rcases hs with hs | hs
        · exact ix_list value slice pins s σ H _ _ v u Q I rx ry ⟨p, xs, i, w', rfl, rfl, hs, ev, h⟩ hs0
        · exact ix_tup value slice pins s σ H _ _ v u Q I rx ry ⟨p, xs, i, w', rfl, rfl, hs, ev, h⟩ hs0
    | str z =>
      obtain ⟨hz, h⟩ := h
      cases ev : atI z.cps.toList i with
      | none => rw [ev] at h; exact h.elim
      | some w' =>
        rw [ev] at h
        exact ix_str value slice pins s σ H _ _ v u Q I rx ry ⟨z, i, w', rfl, rfl, by simpa [Str.length] using hz, ev, h⟩ hs0
    | _ => exact h.elim
  | _ => exact h.elim
def mSl (K : PySem.W.Frag) : V → Option Int → Option Int → Hp → VK → Prop := fun x lo hi H Q => match x with
  | .str z => z.cps.toList.length ≤ sizeLine ∧ Q (tx (cutL z.cps.toList lo hi)) H
  | .ref a => ∃ xs, SqL K H a xs ∧ ∀ p, H p = none → Q (.ref p) (upd H p (.lst (cutV xs lo hi)))
  | _ => False
theorem sl_M : SlR X (mSl X.K) := by
  intro pins s σ H x v vl vu lo hi sl Q I rx hs pl pu h
  unfold mSl at h
  cases x with
  | str z => exact sl_str pins s σ H _ v vl vu lo hi sl Q I rx hs pl pu ⟨by simpa [Str.length] using h.1, h.2⟩
  | ref p =>
    obtain ⟨xs, h1, h2⟩ := h
    exact sl_list pins s σ H _ v vl vu lo hi sl Q I rx hs pl pu ⟨p, xs, rfl, h1, h2⟩
  | _ => exact h.elim
def mPart (t : TE) : TO := fun σ H Q => t σ H fun x H1 => match x with | .int i => Q (some i) H1 | _ => False
theorem po_M (h : PE X e ta) : PO X (some e) (mPart ta) := by
  intro pins s σ H Q I hw
  rw [evalPart_some]
  refine thn (h pins s σ H _ I hw) fun u s1 ⟨x, H1, I1, r1, q1⟩ => ?_
  cases x with
  | int i => obtain ⟨t, rfl⟩ := r1; exact ⟨some i, H1, I1, .int i t, q1⟩
  | _ => exact q1.elim
def mLen (K : PySem.W.Frag) : List V → Hp → VK → Prop := fun xs H Q => match xs with
  | [.str z] => z.cps.toList.length ≤ sizeLine ∧ Q (.int z.cps.toList.length) H
  | [.ref p] => ∃ ys, (SqL K H p ys ∨ SqT K H p ys) ∧ Q (.int ys.length) H
  | _ => False
theorem call_lenM : CallR X (.builtin "len") (mLen X.K) := by
  intro pins s σ H xs us Q I r h
  unfold mLen at h
  split at h
  · exact call_len_str pins s σ H _ us Q I r ⟨_, rfl, by simpa [Str.length] using h.1, by simpa [Str.length] using h.2⟩
  · obtain ⟨ys, h1, h2⟩ := h
    exact call_len_seq pins s σ H _ us Q I r ⟨_, ys, rfl, h1, h2⟩
  · exact h.elim
def mTwo (g : Int → Int → Int) : List V → Hp → VK → Prop := fun xs H Q => match xs with | [.int i, .int j] => Q (.int (g i j)) H | _ => False
theorem call_minM (hc : X.calm = true) : CallR X (.builtin "min") (mTwo min) := by
  intro pins s σ H xs us Q I r h
  unfold mTwo at h
  split at h
  · rename_i i j
    refine call_min2 hc pins s σ H _ us Q I r ⟨i, j, rfl, ?_⟩
    have e : (if j < i then j else i) = min i j := by split <;> omega
    rw [e]; exact h
  · exact h.elim
def tyS (K : PySem.W.Frag) (H : Hp) : V → String → Prop := fun x T => match x with
  | .non => T = "NoneType" | .bl _ => T = "bool" | .int _ => T = "int" | .str _ => T = "str"
  | .ref p => (T = "list" ∧ ∃ xs, H p = some (.lst xs)) ∨ (T = "tuple" ∧ ∃ xs, H p = some (.tup xs))
  | _ => False
theorem tyS_of {K : PySem.W.Frag} {H : Hp} {x : V} {T : String} (h : tyS K H x T) : TyOf K H x (.type T) := by
  unfold tyS at h
  cases x with
  | non => subst h; exact .non
  | bl b => subst h; exact .bl b
  | int i => subst h; exact .int i
  | str z => subst h; exact .str z
  | ref p =>
    rcases h with ⟨rfl, xs, h⟩ | ⟨rfl, xs, h⟩
    · exact .lst h
    · exact .tup h
  | _ => exact h.elim
def isaB (T c : String) : Option Bool :=
  if T = c then some true else if T = "bool" ∧ c = "int" then some true
  else if (T = "bool" ∨ T = "int" ∨ T = "str" ∨ T = "list" ∨ T = "tuple" ∨ T = "NoneType") ∧ (c = "bool" ∨ c = "int" ∨ c = "str" ∨ c = "list" ∨ c = "tuple" ∨ c = "dict") then some false else none
theorem kit_isa {K : PySem.W.Frag} {T c : String} {b : Bool} (h : isaB T c = some b) : PySem.W.kitOne K (.type T) (.type c) = some b := by
  unfold isaB at h
  split at h
  · rename_i e; subst e; cases h
    unfold PySem.W.kitOne
    rw [if_pos (by simp)]
  · split at h
    · rename_i e; obtain ⟨rfl, rfl⟩ := e; cases h; rfl
    · split at h
      · rename_i h1 h2 e
        cases h
        obtain ⟨e1, e2⟩ := e
        rcases e1 with rfl | rfl | rfl | rfl | rfl | rfl <;> rcases e2 with rfl | rfl | rfl | rfl | rfl | rfl <;> first | rfl | exact absurd rfl h1 | exact absurd ⟨rfl, rfl⟩ h2
      · cases h
def mIsa (K : PySem.W.Frag) : List V → Hp → VK → Prop := fun xs H Q => match xs with
  | [.int _, .ty c] => (match isaB "int" c with | some b => Q (.bl b) H | none => False)
  | [.bl _, .ty c] => (match isaB "bool" c with | some b => Q (.bl b) H | none => False)
  | [.str _, .ty c] => (match isaB "str" c with | some b => Q (.bl b) H | none => False)
  | [.non, .ty c] => (match isaB "NoneType" c with | some b => Q (.bl b) H | none => False)
  | [.ref p, .ty c] => ∃ T, tyS K H (.ref p) T ∧ (match isaB T c with | some b => Q (.bl b) H | none => False)
  | _ => False
theorem call_isa : CallR X (.builtin "isinstance") (mIsa X.K) := by
  intro pins s σ H xs us Q I r h
  have key : ∀ (x : V) (T c : String), xs = [x, .ty c] → tyS X.K H x T → (match isaB T c with | some b => Q (.bl b) H | none => False) → wpAny (model X.prog X.w) X.A (call (.builtin "isinstance") us) (EP X pins σ Q) X.xe s := by
    intro x T c e ht hq
    subst e
    obtain ⟨u, w', rfl, r1, r2⟩ := vals2 r
    cases r2
    cases eb : isaB T c with
    | none => rw [eb] at hq; exact hq.elim
    | some b =>
      rw [eb] at hq
      exact isinst_ok I r1 (tyS_of ht) (kit_isa eb) fun tk => ⟨.bl b, H, I.tok tk, rfl, hq⟩
  unfold mIsa at h
  split at h
  · exact key _ "int" _ rfl rfl h
  · exact key _ "bool" _ rfl rfl h
  · exact key _ "str" _ rfl rfl h
  · exact key _ "NoneType" _ rfl rfl h
  · obtain ⟨T, h1, h2⟩ := h
    exact key _ T _ rfl h1 h2
  · exact h.elim
def findS (l : List Nat) (t : List Nat) : Int := Txt.find ⟨l.toArray⟩ ⟨t.toArray⟩
def mIndex : V → List V → Hp → VK → Prop := fun x xs H Q => match x, xs with | .str l, [.str t] => findS l.cps.toList t.cps.toList ≠ -1 ∧ Q (.int (findS l.cps.toList t.cps.toList)) H | _, _ => False
theorem mt_index : MtR X "str.index" mIndex := by
  intro pins s σ H x xs v us Q I rx rv h
  unfold mIndex at h
  split at h
  · rename_i l t
    obtain ⟨k, rfl⟩ := rx
    obtain ⟨u, rfl, ru⟩ := rv.one
    obtain ⟨k', rfl⟩ := ru
    have e : Txt.find l t = findS l.cps.toList t.cps.toList := by unfold findS; rw [← str_eta, ← str_eta]
    rw [← e] at h
    unfold Txt.find at h
    cases ho : Builtin.Str.occurrences l t 0 l.length 1 with
    | nil => rw [ho] at h; exact absurd rfl h.1
    | cons i rest =>
      rw [ho] at h
      exact SC.index ho ⟨.int _, H, I.tok _, ⟨_, rfl⟩, h.2⟩
  · exact h.elim
def strsOf : List V → Option (List Str)
  | [] => some []
  | .str z :: r => (strsOf r).map (z :: ·)
  | _ :: _ => none
theorem strsOf_map {vs : List V} {zs : List Str} : strsOf vs = some zs → vs = zs.map V.str := by
  induction vs generalizing zs with
  | nil => intro h; cases h; rfl
  | cons v r ih =>
    intro h
    cases v with
    | str z =>
      unfold strsOf at h
      cases e : strsOf r with
      | none => rw [e] at h; cases h
      | some y => rw [e] at h; cases h; rw [ih e]; rfl
    | _ => cases h
def joinS (sep : List Nat) (zs : List Str) : List Nat := (Txt.join ⟨sep.toArray⟩ zs).cps.toList
def mJoin (K : PySem.W.Frag) : V → List V → Hp → VK → Prop := fun x xs H Q => match x, xs with
  | .str l, [.ref D] => ∃ vs, (SqL K H D vs) ∧ (match strsOf vs with | some zs => JoinOk l zs = true ∧ Q (tx (joinS l.cps.toList zs)) H | none => False)
  | _, _ => False
theorem vals_strs : ∀ {zs : List Str} {us : List Value}, Vals (zs.map V.str) us → ∃ l : List (Str × Tok), us = strValues l ∧ l.map (·.1) = zs
  | [], us, r => by cases r; exact ⟨[], rfl, rfl⟩
  | z :: zs, us, r => by
    cases r with
    | cons r rr =>
      obtain ⟨t, rfl⟩ := r
      obtain ⟨l, rfl, hl⟩ := vals_strs rr
      exact ⟨(z, t) :: l, rfl, by rw [List.map_cons, hl]⟩
theorem mt_join : MtR X "str.join" (mJoin X.K) := by
  intro pins s σ H x xs v us Q I rx rv h
  unfold mJoin at h
  split at h
  · rename_i l D
    obtain ⟨k, rfl⟩ := rx
    obtain ⟨u, rfl, ru⟩ := rv.one
    cases ru
    obtain ⟨vs, hs, h⟩ := h
    cases ez : strsOf vs with
    | none => rw [ez] at h; exact h.elim
    | some zs =>
      rw [ez] at h
      have ev := strsOf_map ez
      subst ev
      obtain ⟨its, r, p, hz⟩ := I.list hs
      obtain ⟨lz, e1, e2⟩ := vals_strs r
      subst e1
      refine SC.join p.isList e2 h.1 fun t' k' => ⟨tx (joinS l.cps.toList zs), H, I.tok _, ⟨t', ?_⟩, h.2⟩
      unfold joinS
      rw [← str_eta, ← str_eta]
  · exact h.elim
end
end L2
namespace L2
open PySem PySem.Spec PyProof.Rows
def Gd (P : Program) (w : World) (K : PySem.W.Frag) (mg : Str → Option Value) (base : Heap) (CX : CXT) (k : Nat) (x : Str) (ps : List Str) (sp : Sp) : Prop :=
  ∃ f fd, FnOk P w K mg base CX k f fd ps sp ∧ mg x = some (.ref f) ∧ PySem.W.keepIn K (.ref f) = true ∧ Binds K fd ps []
def Gc (mg : Str → Option Value) (x : Str) (v : V) : Prop := ∃ u, mg x = some u ∧ RelV v u
abbrev Gb (mg : Str → Option Value) (x : Str) : Prop := mg x = none
section
variable {X : Cx} {CX : CXT} {k : Nat} {x : Str} {ps : List Str} {sp : Sp} {p pos : Pos} {e : Expr} {es : List Expr} {t : TA} {tg : Expr}
theorem pe_callG (G : Gd X.prog X.w X.K X.mg X.base CX0 k x ps sp) (hr : Room k X.A) (ha : PA X (e :: es) t) (hg : Gl X x := by rfl) (hdb : (x == ("__debug__" : Str)) = false := by decide)
    (he : starEach (e :: es) X.env = (false, eval e X.env) :: starEach es X.env := by rfl) (hpl : (backTo pos (starEach es X.env)).any (·.1) = false := by rfl) :
    PE X (.Call (.Name x p) (e :: es) [] pos) (tCall sp [] E0 t) := by
  obtain ⟨f, fd, F, hm, hk, hb⟩ := G
  exact pe_call F hr hg hm hk hb .nil pass0 ha hdb he hpl
theorem pe_gc {v : V} (h : Gc X.mg x v) (hg : Gl X x := by rfl) (hd : (x == ("__debug__" : Str)) = false := by decide) : PE X (.Name x pos) (tC v) := by
  obtain ⟨u, hm, r⟩ := h
  exact pe_glob hg hm r hd
theorem pe_ty (T : String) (hm : Gb X.mg x) (hg : Gl X x := by rfl) (hv : bootBuiltins x = some (.type T) := by rfl) (hn : x ≠ "__name__" := by decide) (hd : (x == ("__debug__" : Str)) = false := by decide) : PE X (.Name x pos) (tC (.ty T)) :=
  pe_bltn hg hm hv rfl hn hd
theorem pe_bf {id : String} {r : List V → Hp → VK → Prop} (hc : CallR X (.builtin id) r) (hm : Gb X.mg x) (ha : PA X (e :: es) t) (hg : Gl X x := by rfl) (hv : bootBuiltins x = some (.builtin id) := by rfl) (hn : x ≠ "__name__" := by decide) (hdb : (x == ("__debug__" : Str)) = false := by decide)
    (hs : starEach (e :: es) X.env = (false, eval e X.env) :: starEach es X.env := by rfl) (hpl : (backTo pos (starEach es X.env)).any (·.1) = false := by rfl) : PE X (.Call (.Name x p) (e :: es) [] pos) (tCB r t) :=
  pe_callB hc hg hm hv ha hn hdb hs hpl
theorem pe_sm {o : Expr} {to : TE} {name : Str} {id : String} {r : V → List V → Hp → VK → Prop} {apos cpos : Pos} (slot : Slot "str" name id) (hty : typeOf (.builtin id) = pure (.type "method_descriptor")) (hm : MtR X id r) (ho : PE X o to) (ha : PA X (e :: es) t)
    (h1 : attributeBase o name X.env (eval o X.env) = eval o X.env := by rfl) (h2 : ((((backTo cpos (starEach (e :: es) X.env)).all fun x => !x.fst) && (backToKw cpos (keywordEach [] X.env)).all fun x => x.fst.isSome) && decide (((e :: es).length + ([] : List Keyword).length + if ([] : List Keyword).isEmpty = true then 0 else 1) < 30)) = true := by rfl)
    (h3 : (apos.endLine == cpos.line) = true := by rfl) (h4 : starEach (e :: es) X.env = (false, eval e X.env) :: starEach es X.env := by rfl) (h5 : ((backTo cpos (starEach es X.env)).any fun x => x.fst) = false := by rfl) :
    PE X (.Call (.Attribute o name apos) (e :: es) [] cpos) (tBM X.K "str" r to t) := pe_bm PySem.F.plainAttrs_str slot hty hm ho ha h1 h2 h3 h4 h5
def iAny (K : PySem.W.Frag) (tl : TE) : TI := fun σ H R => tl σ H fun x H1 => match x with
  | .str z => R (Itp z.cps.toList.length (fun i => tx [z.cps.toList.getD i 0])) H1
  | .ref a => ((∃ xs, SqL K H1 a xs) ∧ R (Itl K a) H1) ∨ ((∃ xs, SqT K H1 a xs) ∧ R (Itt K a) H1)
  | _ => False
theorem sgn_tx (z : Str) : sgn z = fun i => tx [z.cps.toList.getD i 0] := by
  funext i
  unfold sgn
  simp [Array.getD_eq_getD_getElem?, List.getD_eq_getElem?_getD]
theorem pi_any {l : Expr} {tl : TE} (hl : PE X l tl) : PI X tg l (iAny X.K tl) := by
  intro pins s σ H R I h
  refine thn (hl pins s σ H _ I h) fun v s1 ⟨x, H1, I1, r1, q1⟩ => ?_
  have pt : ∀ (v : V), PE X l (tC v) → PE X l (tC v) := fun _ h => h
  cases x with
  | str z =>
    obtain ⟨t, rfl⟩ := r1
    refine wpAny_pyIter_strU ?_
    have q : R (Itp z.cps.size (sgn z)) H1 := by
      have e : z.cps.toList.length = z.cps.size := by simp
      rw [sgn_tx, ← e]
      exact q1
    refine ⟨s1.heap.objs.size, [s1.heap.objs.size], _, _, H1, rfl, I1.kept (t' := s1.toks) fun b o e => Heap.get?_push_of_some _ e, turn_str _ z t, ⟨Nat.zero_le _, ⟨_, Heap.get?_push_size _ rfl, rfl, rfl⟩⟩, fun b hb => ?_, q⟩
    have e : b = s1.heap.objs.size := by simpa using hb
    subst e
    exact I1.fpOk (Nat.le_refl _) (I1.hok.fresh (Nat.le_refl _))
  | ref a =>
    cases r1
    rcases q1 with ⟨⟨xs, hq⟩, q⟩ | ⟨⟨xs, hq⟩, q⟩
    · obtain ⟨its, rv, p, hz⟩ := I1.list hq
      refine wpAny_pyIter_list p.isList ?_
      refine ⟨s1.heap.objs.size, [s1.heap.objs.size], _, _, H1, rfl, I1.kept (t' := s1.toks) fun b o e => Heap.get?_push_of_some _ e, turn_list a _, ⟨_, Heap.get?_push_size _ rfl, rfl, rfl⟩, fun b hb => ?_, q⟩
      have e : b = s1.heap.objs.size := by simpa using hb
      subst e
      exact I1.fpOk (Nat.le_refl _) (I1.hok.fresh (Nat.le_refl _))
    · obtain ⟨its, rv, p, hz⟩ := I1.tuple hq
      refine wpAny_pyIter_tuple (show s1.heap.IsTuple a its.toArray from p) ?_
      refine ⟨s1.heap.objs.size, [s1.heap.objs.size], _, _, H1, rfl, I1.kept (t' := s1.toks) fun b o e => Heap.get?_push_of_some _ e, turn_tuple a _, ⟨_, Heap.get?_push_size _ rfl, rfl, rfl⟩, fun b hb => ?_, q⟩
      have e : b = s1.heap.objs.size := by simpa using hb
      subst e
      exact I1.fpOk (Nat.le_refl _) (I1.hok.fresh (Nat.le_refl _))
  | _ => exact q1.elim
def mRng1 (ta : TA) : TI := fun σ H R => ta σ H fun vs H1 => match vs with | [.int j] => -(2 ^ 62) ≤ j ∧ j < 2 ^ 62 ∧ R (Itr 0 j.toNat) H1 | _ => False
theorem PI.imp {iter : Expr} {wi wi' : TI} (h : PI X tg iter wi) (hi : ∀ σ H R, wi' σ H R → wi σ H R) : PI X tg iter wi' := fun pins s σ H R I q => h pins s σ H R I (hi σ H R q)
end
section
variable {X : Cx} {tg : Expr}
theorem pi_rngM1 {a : Expr} {ta : TA} {p pos : Pos} (hm : Gb X.mg "range") (ha : PA X [a] ta) (hg : Gl X "range" := by rfl) (hs : starEach [a] X.env = [(false, eval a X.env)] := by rfl) : PI X tg (.Call (.Name "range" p) [a] [] pos) (mRng1 ta) := by
  intro pins s σ H R I h
  refine Call_ (ld_blt I hg hm boot_range (PyProof.Rows.callWith_type1 (thn (ha pos pins s σ H _ I h) fun us s1 ⟨vs, H1, I1, r1, q1⟩ => ?_) hs rfl))
  dsimp only at q1
  split at q1
  · obtain ⟨q2, q3, q⟩ := q1
    cases r1 with
    | cons r rr =>
      cases rr
      obtain ⟨t, rfl⟩ := r
      exact call_range_1 (range_it I1 (by omega) (by omega) q2 q3 (by simpa using q))
  · exact q1.elim
variable {elts : List Expr} {kk : Nat} {tpos : Pos}
def gNilM : TGs := fun vs σ H Q => match vs with | [] => Q σ H | _ => False
def gConsM (t : TG) (u : TGs) : TGs := fun vs σ H Q => match vs with | v :: r => t v σ H fun σ' H' => u r σ' H' Q | [] => False
theorem pgs_nilM : PGs X [] gNilM := by
  intro pins s σ H vs us Q I r h
  cases vs with
  | nil => exact pgs_nil pins s σ H [] us Q I r ⟨rfl, h⟩
  | cons _ _ => exact h.elim
theorem pgs_consM {e : Expr} {es : List Expr} {t : TG} {u : TGs} (h1 : PG X e t) (h2 : PGs X es u)
    (hs : (assignEach (e :: es) X.env).map (·.2) = assign e X.env :: (assignEach es X.env).map (·.2) := by rfl) : PGs X (e :: es) (gConsM t u) := by
  intro pins s σ H vs us Q I r h
  cases vs with
  | nil => exact h.elim
  | cons v vr => exact pgs_cons h1 h2 hs pins s σ H _ us Q I r ⟨v, vr, rfl, h⟩
def gTupM (K : PySem.W.Frag) (n : Nat) (t : TGs) : TG := fun v σ H Q => match v with | .ref a => ∃ xs, SqT K H a xs ∧ xs.length = n ∧ t xs σ H Q | _ => False
theorem pg_tupM {es : List Expr} {k : Nat} {t : TGs} {n : Nat} {pos : Pos} (hc : X.calm = true) (h : PGs X es t)
    (hn : (assignEach es X.env).length = n := by rfl) (hst : (assignEach es X.env).findIdx? (·.1) = none := by rfl) : PG X (.Tuple es k pos) (gTupM X.K n t) := by
  intro pins s σ H v u Q I r hw
  cases v with
  | ref a =>
    obtain ⟨xs, h1, h2, h3⟩ := hw
    exact pg_tup hc h hn hst pins s σ H _ u Q I r ⟨a, xs, rfl, h1, h2, h3⟩
  | _ => exact hw.elim
def mNeg (ta : TE) : TE := fun σ H Q => ta σ H fun x H1 => match x with | .int i => Q (.int (-i)) H1 | _ => False
theorem pe_neg {a : Expr} {ta : TE} {pos : Pos} (ha : PE X a ta) : PE X (.UnaryOp .USub a pos) (mNeg ta) := by
  intro pins s σ H Q I h
  refine UnaryOp_ (thn (ha pins s σ H _ I h) fun v s1 ⟨x, H1, I1, r1, q1⟩ => ?_)
  cases x with
  | int i => exact un_neg pins s1 σ H1 _ v Q I1 r1 ⟨i, rfl, q1⟩
  | _ => exact q1.elim
end
theorem same_new {H : Hp} {p : Addr} (h : H p = none) (o : HO) : Same H (upd H p o) := fun b u q => by rw [upd_ne (ne_of_none q h)]; exact q
theorem Same.tup {K : PySem.W.Frag} {H H' : Hp} {a : Addr} {xs : List V} (e : Same H H') (h : SqT K H a xs) : SqT K H' a xs := by
  rcases h with (h | ⟨o, h⟩) | h
  · exact .inl (.inl (e _ _ h))
  · exact .inl (.inr ⟨o, e _ _ h⟩)
  · exact .inr h
end L2
namespace L2
open PySem PySem.Spec PyProof.Rows
theorem small_n {n : Nat} (h : n ≤ 100000) : n ≤ sizeLine := by rw [sizeLine_eq]; omega
end L2
namespace L2
open PySem PySem.Spec PyProof.Rows
section
variable {X : Cx} {tg : Expr}
def mSet : TSet := fun o i v H Q => match i with
  | .int k => (match o with
    | .ref p => ∃ xs, H p = some (.lst xs) ∧ (match ixN xs.length k with | some j => Q (upd H p (.lst (xs.set j v))) | none => False)
    | _ => False)
  | _ => False
theorem set_M : PSet X mSet := by
  intro pins s σ H o i v ov iv u Q I ro ri rv h
  unfold mSet at h
  cases i with
  | int k =>
    cases o with
    | ref p =>
      obtain ⟨xs, h1, h⟩ := h
      cases e : ixN xs.length k with
      | none => rw [e] at h; exact h.elim
      | some j =>
        rw [e] at h
        exact set_list pins s σ H _ _ v ov iv u Q I ro ri rv ⟨p, xs, k, j, rfl, rfl, h1, e, h⟩
    | _ => exact h.elim
  | _ => exact h.elim
theorem ixN_lt {n : Nat} {k : Int} (h0 : 0 ≤ k) (h1 : k < n) : ixN n k = some k.toNat := by unfold ixN; rw [if_pos h0, if_pos h1]
def strI (i : Int) : List Nat := (Str.ofString (toString i)).cps.toList
def mStr : List V → Hp → VK → Prop := fun xs H Q => match xs with | [.int i] => i.natAbs.log2 < 1920 ∧ Q (tx (strI i)) H | _ => False
theorem call_strM : CallR X (.type "str") mStr := by
  intro pins s σ H xs us Q I r h
  unfold mStr at h
  split at h
  · rename_i i
    refine call_str_int pins s σ H _ us Q I r ⟨i, rfl, h.1, ?_⟩
    have e : tx (strI i) = V.str (Str.ofString (toString i)) := by unfold strI tx; rw [← str_eta]
    rw [← e]
    exact h.2
  · exact h.elim
end
section
variable {X : Cx} {x : Str} {p pos : Pos} {e : Expr} {es : List Expr} {t : TA}
theorem pe_tf (T : String) {r : List V → Hp → VK → Prop} (hc : CallR X (.type T) r) (hm : Gb X.mg x) (ha : PA X (e :: es) t) (hg : Gl X x := by rfl) (hv : bootBuiltins x = some (.type T) := by rfl) (hn : x ≠ "__name__" := by decide) (hdb : (x == ("__debug__" : Str)) = false := by decide)
    (hs : starEach (e :: es) X.env = (false, eval e X.env) :: starEach es X.env := by rfl) (hpl : (backTo pos (starEach es X.env)).any (·.1) = false := by rfl) : PE X (.Call (.Name x p) (e :: es) [] pos) (tCB r t) :=
  pe_callTy hc hg hm hv ha hn hdb hs hpl
end
end L2
namespace L2
open PySem PySem.Spec PyProof.Rows
end L2
namespace L2
open PySem PySem.Spec PyProof.Rows
end L2
namespace L2
open PySem PySem.Spec PyProof.Rows
structure FlyX (x T C : Addr) (H : Hp) (hb h : Heap) : Prop where
  obj : ∃ oe vs a0 oT ts, h.get? x = some oe ∧ (oe.cls = .ref C ∧ vs[0]? = some a0) ∧ oe.data = .fields vs ∧ vs[1]? = some (.ref T) ∧ T ≠ x ∧ h.get? T = some oT ∧ oT.data = .fields ts ∧ ts[3]? = some .none
  hx : H x = none
  hT : H T = none
  nx : hb.get? x = none
  nT : hb.get? T = none
def CXx (P : Program) (w : World) : CXT := fun outer H s E e s' => ∃ x T C H', e = .ref x ∧ s'.os = s.os ∧ AllBare s'.gens ∧ Un (frs outer) [] H H' s.heap s'.heap ∧ HOk P w H' s'.heap ∧
  FlyX x T C H' s.heap s'.heap ∧ E (.ref C) none H'
theorem passX0 {P : Program} {w : World} {X : Cx} : Passes (CXx P w) X E0 := fun _ _ _ _ _ _ _ h => by
  obtain ⟨_, _, _, _, _, _, _, _, _, _, h⟩ := h
  exact h.elim
theorem HOk.at_ {P : Program} {w : World} {H : Hp} {h : Heap} {a : Addr} {o : HO} (x : HOk P w H h) (e : H a = some o) : ∃ u, h.get? a = some u := by
  have q := x a o e
  clear e x
  induction o with
  | lst xs => obtain ⟨_, _, _, _, e⟩ := q; exact ⟨_, e⟩
  | tup xs => obtain ⟨_, _, _, o, e, _⟩ := q; exact ⟨_, e⟩
  | dK kvs => obtain ⟨_, _, _, _, o, _, _, e, _⟩ := q; exact ⟨_, e⟩
  | dT kvs => obtain ⟨_, _, _, _, o, _, _, e, _⟩ := q; exact ⟨_, e⟩
  | set S n => obtain ⟨o, _, _, _, e, _⟩ := q; exact ⟨_, e⟩
  | ins C dx fs => obtain ⟨_, _, _, e, _⟩ := q; exact ⟨_, e⟩
  | own y => obtain ⟨_, e⟩ := q; exact ⟨_, e⟩
  | xd fs => obtain ⟨_, ⟨_, _, _, e, _⟩, _⟩ := q; exact ⟨_, e⟩
  | rng lo hi => obtain ⟨_, _, _, e⟩ := q; exact ⟨_, e⟩
  | frz ob u _ => obtain ⟨e, _⟩ := q; exact ⟨_, e⟩
  | tbl ps => exact ⟨_, (show h.get? a = some _ from q)⟩
  | met f y => exact ⟨_, (show h.get? a = some _ from q)⟩
  | ext φ => obtain ⟨_, ⟨_, e⟩, _⟩ := q; exact ⟨_, e⟩
theorem HOk.none_at {P : Program} {w : World} {H : Hp} {h : Heap} {a : Addr} (x : HOk P w H h) (e : h.get? a = none) : H a = none := by
  cases q : H a with
  | none => rfl
  | some o =>
    obtain ⟨u, z⟩ := x.at_ q
    rw [e] at z; cases z
section
variable {X : Cx} {pins : List (Addr × Obj)} {σ : St} {H : Hp} {s : Shared}
theorem frs_of (hst : X.stack = X.env :: X.outer) {b : Addr} (h : b ∈ X.fs) : b ∈ frs X.stack := by
  rw [hst]
  unfold Cx.fs frs at *
  rw [List.filterMap_cons]
  split
  · exact h
  · exact List.mem_cons_of_mem _ h
theorem left_done (I : Inv X pins σ H s) (hst : X.stack = X.env :: X.outer) (hex : X.ex = []) {x C : Addr} {a0 : Value} {ex : List Addr} {h2 : Heap} (hxs : ∀ b ∈ ex, H b = none ∧ X.s₀.heap.get? b = none) (hx : x ∈ ex)
    (L : Heap.LeftW (PySem.W.hideAll s.heap (frs X.stack ++ ex)) X.stack x (.ref C) a0 s.heap h2) :
    ∃ T, Un (frs X.outer) [] X.H₀ H X.s₀.heap h2 ∧ HOk X.prog X.w H h2 ∧ FlyX x T C H X.s₀.heap h2 := by
  obtain ⟨st, ff, ⟨oe, vs, T, oT, ts, he, hc, hd, h1, hnT, hTe, hT, hdT, h3⟩, up⟩ := L
  have nex : ∀ b : Addr, b ∉ X.ex := fun b z => by rw [hex] at z; cases z
  have keepS : ∀ b o, s.heap.get? b = some o → b ∉ frs X.stack → b ∉ ex → h2.get? b = some o := fun b o q n1 n2 => st b o (PySem.W.hideAll_get _ q fun z => (List.mem_append.mp z).elim n1 n2)
  have slotS : ∀ b o, s.heap.get? b = some o → b ∈ frs X.stack → ∃ sl, h2.get? b = some { o with slots := sl } := fun b o q hb => up b o q (by
    obtain ⟨_, o', q', d⟩ := I.stack.mem hb
    cases q.symm.trans q'
    exact d)
  have notL : ∀ b o, X.s₀.heap.get? b = some o → b ≠ X.env.locals := fun b o q => Nat.ne_of_lt (Nat.lt_of_lt_of_le (Heap.lt_size q) I.ok.above)
  have notX : ∀ b o, X.s₀.heap.get? b = some o → b ∉ ex := fun b o q z => by
    have := (hxs b z).2
    rw [q] at this; cases this
  have notF : ∀ b o, X.s₀.heap.get? b = some o → b ∉ X.fs → b ∉ frs X.stack := fun b o q n z => by
    rcases List.mem_cons.mp (I.stkSub b z) with e | e
    · exact notL b o q e
    · exact n e
  have young : ∀ b, s.heap.get? b = none → X.s₀.heap.get? b = none := fun b q => by
    cases e : X.s₀.heap.get? b with
    | none => rfl
    | some o =>
      obtain ⟨o', z⟩ := I.base.there b o e (nex b)
      rw [q] at z; cases z
  refine ⟨T, ⟨fun b o q n hb _ => ?_, fun b o q n hb _ => ?_, fun b o q n _ => I.base.free b o q n (nex b), fun b o q _ => ?_, I.base.tups, I.base.frzs, I.base.tbls⟩, fun a o e => ?_, ⟨oe, vs, a0, oT, ts, he, hc, hd, h1, hTe, hT, hdT, h3⟩, (hxs x hx).1, ?_, (hxs x hx).2, ?_⟩
  · exact keepS b o (I.base.keep b o q n hb (nex b)) (notF b o q hb) (notX b o q)
  · obtain ⟨sl, e⟩ := I.base.slot b o q n hb (nex b)
    obtain ⟨sl', e'⟩ := slotS b _ e (frs_of hst hb)
    exact ⟨sl', e'⟩
  · obtain ⟨o', e⟩ := I.base.there b o q (nex b)
    by_cases hb : b ∈ frs X.stack
    · obtain ⟨sl', e'⟩ := slotS b _ e hb
      exact ⟨_, e'⟩
    · exact ⟨o', keepS b o' e hb (notX b o q)⟩
  · refine (I.hok a o e).stay (fun b u hb q => ?_) (fun _ q => q) fun _ _ q => q
    have tr : ∃ o, H b = some o := by
      rcases hb with rfl | hb
      · exact ⟨_, e⟩
      · exact ⟨_, hb⟩
    obtain ⟨ob, tr⟩ := tr
    refine keepS b u q (fun z => ?_) fun z => ?_
    · rw [I.stkFree b z] at tr; cases tr
    · rw [(hxs b z).1] at tr; cases tr
  all_goals
    by_cases hTx : T ∈ ex
    · first | exact (hxs T hTx).1 | exact (hxs T hTx).2
    by_cases hTf : T ∈ frs X.stack
    · obtain ⟨_, o', q', d⟩ := I.stack.mem hTf
      obtain ⟨sl, e'⟩ := slotS T o' q' hTf
      rw [hT] at e'
      cases e'
      exact absurd hdT (d ts)
    have q : s.heap.get? T = none := by
      cases e : s.heap.get? T with
      | none => rfl
      | some o =>
        rw [PySem.W.hideAll_get _ e fun z => (List.mem_append.mp z).elim hTf hTx] at hnT
        cases hnT
    first | exact I.hok.none_at q | exact young T q
end
section
variable {P : Program} {w : World} {K : PySem.W.Frag} {mg : Str → Option Value} {base : Heap} {N : List Str} {qual : Str} {scope : Scope} {f : Addr} {cd : Value} {A : Around} {outer : List Env} {s0 : Shared} {H0 : Hp} {E : XK}
theorem in_frs {l : List Env} {more : List Addr} : ∀ env ∈ l, ∀ a, env.frame = some a → a ∈ frs l ++ more := fun env he a hf => List.mem_append_left _ (List.mem_filterMap.mpr ⟨env, he, hf⟩)
def Takes (X : Cx) (E : XK) : Prop := ∀ (pins : List (Addr × Obj)) (σ : St) (H : Hp) (s : Shared) (h : Heap) (x C : Addr) (args : List Value), Inv X pins σ H s → Heap.MadeExcOf s.heap h x (.ref C) args → E (.ref C) none H → X.xe (.ref x) { s with heap := h }
theorem takes_cx : Takes (cxOf (CXx P w) P w K mg base N qual scope f cd A outer s0 H0 E) E := by
  intro pins σ H s h x C args I hx hE
  have I1 : Inv (cxOf (CXx P w) P w K mg base N qual scope f cd A outer s0 H0 E) pins σ H { s with heap := h } := I.kept (t' := s.toks) hx.keeps
  obtain ⟨t, he, htn, ht⟩ := hx.there
  show wpAny _ _ (leaving _ _) _ _ _
  refine wpAny_leaving_firstW (base := PySem.W.hideAll h (frs (envOfC qual scope s0.heap.objs.size f cd :: outer) ++ [x])) (a0 := .ref t) I.ok.frames (PySem.W.funFrames_hide I1.stack in_frs) rfl he (fun b o q => PySem.W.of_hideAll _ q)
    (PySem.W.hideAll_none _ (List.mem_append_right _ List.mem_cons_self)) rfl rfl rfl fun h2 L => ?_
  obtain ⟨T, u, ok, fly⟩ := left_done (ex := [x]) I1 rfl rfl (fun b hb => by
    rw [List.mem_singleton.mp hb]
    refine ⟨I.hok.none_at hx.new, ?_⟩
    cases e : s0.heap.get? x with
    | none => exact e
    | some o =>
      obtain ⟨o', z⟩ := I.base.there x o e (fun z => nomatch z)
      rw [hx.new] at z; cases z) List.mem_cons_self L
  exact ⟨x, T, C, H, rfl, I.os, I.bare, u, ok, fly, hE⟩
theorem passes_cx : Passes (CXx P w) (cxOf (CXx P w) P w K mg base N qual scope f cd A outer s0 H0 E) E := by
  intro pins σ H s e s' I h
  obtain ⟨x, T, C, H', rfl, os, bare, un, ok, fly, hE⟩ := h
  have I1 : Inv (cxOf (CXx P w) P w K mg base N qual scope f cd A outer s0 H0 E) pins σ H' s' := I.call' (ch := []) os un ok bare (fun b z => absurd z (by simp))
  obtain ⟨oe, vs, a0, oT, ts, he, hc, hd, h1, hTe, hT, hdT, h3⟩ := fly.obj
  show wpAny _ _ (leaving _ _) _ _ _
  refine wpAny_leaving_nextW (base := PySem.W.hideAll s'.heap (frs (envOfC qual scope s0.heap.objs.size f cd :: outer) ++ [x, T])) (cls := .ref C) (a0 := a0) I.ok.frames (PySem.W.funFrames_hide I1.stack in_frs) rfl
    ⟨oe, vs, T, oT, ts, he, hc, hd, h1, PySem.W.hideAll_none _ (List.mem_append_right _ (List.mem_cons_of_mem _ List.mem_cons_self)), hTe, hT, hdT, h3⟩ (fun b o q => PySem.W.of_hideAll _ q)
    (PySem.W.hideAll_none _ (List.mem_append_right _ List.mem_cons_self)) fun h2 L => ?_
  have old : ∀ b, s.heap.get? b = none → s0.heap.get? b = none := fun b q => by
    cases e : s0.heap.get? b with
    | none => rfl
    | some o =>
      obtain ⟨o', z⟩ := I.base.there b o e (fun z => nomatch z)
      rw [q] at z; cases z
  obtain ⟨T2, u, ok2, fly2⟩ := left_done (ex := [x, T]) I1 rfl rfl (fun b hb => by
    rcases List.mem_cons.mp hb with rfl | hb
    · exact ⟨fly.hx, old _ fly.nx⟩
    · rw [List.mem_singleton.mp hb]
      exact ⟨fly.hT, old _ fly.nT⟩) List.mem_cons_self L
  exact ⟨x, T2, C, H', rfl, I1.os, I1.bare, u, ok2, fly2, hE⟩
end
end L2
namespace L2
open PySem PySem.Spec PyProof.Rows
abbrev bmV : List Value := [.type "ValueError", .type "Exception", .type "BaseException", .type "object"]
def excK (K : PySem.W.Frag) (C : Addr) : Bool := PySem.W.excIn K C bmV "ValueError.__new__"
def gA (K : PySem.W.Frag) (x : Str) : Addr := match PySem.W.nsIn K mainGlobals x with | some (some (.ref c)) => c | _ => 0
theorem gA_of {K : PySem.W.Frag} {x : Str} {c : Addr} (h : PySem.W.nsIn K mainGlobals x = some (some (.ref c))) : gA K x = c := by unfold gA; rw [h]
theorem exc_obj {K : PySem.W.Frag} {h : Heap} {C : Addr} (kin : K.In h) (q : excK K C = true) :
    ∃ nm qn N bs bm hd sn sub ab col dd k0 k1 k2 k3 k5 mN, h.get? C = some (excClassObj nm qn C N bs bm hd sn sub ab col dd k0 k1 k2 k3 k5 "ValueError.__new__") ∧ h.Ns N mN ∧ mN "__init__" = none ∧ OwnTail h bmV bm := by
  unfold excK PySem.W.excIn at q
  split at q
  case h_2 => cases q
  case h_1 dx cx slx at1 =>
    split at q
    case h_2 => cases q
    case h_1 Cx tl y0 y1 y2 y3 yn y5 m1 m2 =>
      rw [Bool.and_eq_true, Bool.and_eq_true, Bool.and_eq_true, Bool.and_eq_true, Bool.and_eq_true] at q
      obtain ⟨⟨⟨⟨⟨q1, q2⟩, q3⟩, q4⟩, q5⟩, q6⟩ := q
      replace q1 := beq_iff_eq.mp q1
      replace q2 := beq_iff_eq.mp q2
      replace q6 := beq_iff_eq.mp q6
      replace q3 : cx.hasDel = false := by simpa using q3
      subst q1 q2
      cases cx
      dsimp only at m1 q3 q5 q6
      subst m1 q3
      cases slx
      dsimp only at m2
      subst m2
      exact ⟨_, _, _, _, tl, _, _, _, _, _, dx, y0, y1, y2, y3, y5, _, kin _ _ at1, .of_isNs (PySem.W.isNs_of_in kin q5), PySem.W.nsMap_none_of_in kin q5 q6, PySem.W.tail_of_in kin q4⟩
section
variable {X : Cx} {E : XK} {C : Addr} {x : Str} {e : Expr} {es : List Expr} {t : TA} {np cpos pos : Pos}
def tRaise (C : Addr) (E : XK) (t : TA) : TS := fun _ σ H => t σ H fun vs H1 => vs.length ≤ 100 ∧ E (.ref C) none H1
theorem ps_raise (hT : Takes X E) (hcm : X.calm = true) (hq : excK X.K C = true) (hm : X.mg x = some (.ref C)) (ha : PA X (e :: es) t) (hg : Gl X x := by rfl) (hdb : (x == ("__debug__" : Str)) = false := by decide)
    (he : starEach (e :: es) X.env = (false, eval e X.env) :: starEach es X.env := by rfl) (hpl : (backTo cpos (starEach es X.env)).any (·.1) = false := by rfl) :
    PS X (.Raise (some (.Call (.Name x np) (e :: es) [] cpos)) none pos) (tRaise C E t) := by
  intro pins s σ H D I h
  obtain ⟨nm, qn, N, bs, bm, hd, sn, sub, ab, col, dd, k0, k1, k2, k3, k5, mN, hC, hN, hni, TL⟩ := exc_obj I.ok.mod.kin hq
  refine wpAny_Raise_call_subU (C := C) (nm := nm) (q := qn) (N := N) (bs := bs) (bm := bm) (hdct := hd) (sn := sn) (sub := sub) (ab := ab) (col := col) (dd := dd) (k0 := k0) (k1 := k1) (k2 := k2) (k3 := k3) (k5 := k5)
    PySem.F.excBase_ValueError (by decide) PySem.F.excBase_ValueError (mN := mN) (TL.hasType rfl) (I.ok.hd hcm) (by rw [he]; show (false || (backTo cpos (starEach es X.env)).any (·.1)) = false; rw [hpl]; rfl) hni (ld_glob I hg hm ⟨rfl, ?_⟩ hdb)
  have h2 := ha cpos pins s σ H _ I h
  rw [he] at h2 ⊢
  refine Calls.evalArgs_plain (wpAny_mono h2 (fun us s1 q => ?_) fun _ _ y => y)
  obtain ⟨vs, H1, I1, r, hl, q⟩ := q
  refine ⟨rfl, ?_, I1.bk _ _ hC, hN.keeps I1.bk, TL.keeps I1.bk, fun h' a hmade => hT pins σ H1 s1 h' a C _ I1 hmade q⟩
  show us.length ≤ sizeLine
  rw [← r.length]
  exact Nat.le_trans hl (by rw [sizeLine_eq]; decide)
end
section
variable {X : Cx} {a : Expr} {ta : TE} {pos : Pos}
def mRepr : V → Hp → VK → Prop := fun x H Q => match x with | .str z => (reprText z).length ≤ sizeLine ∧ Q (.str (reprText z)) H | _ => False
def mFmt : V → Hp → VK → Prop := fun x H Q => match x with | .str z => z.length ≤ sizeLine ∧ Q (.str z) H | .int i => i.natAbs.log2 < 1920 ∧ Q (tx (strI i)) H | _ => False
theorem pe_fvr (ha : PE X a ta) : PE X (.FormattedValue a 114 none pos) (tUn mRepr ta) := by
  intro pins s σ H Q I h
  refine wpAny_FormattedValue_repr (thn (ha pins s σ H _ I h) fun v s1 ⟨x, H1, I1, r1, q1⟩ => ?_)
  cases x with
  | str z =>
    obtain ⟨k, rfl⟩ := r1
    refine wpAny_pyReprObj_gives (T := "str") (typeIs_str _ _ _) PySem.F.slot_str_repr PySem.F.entry_str_repr (PySem.F.args_str_repr_1 _) (gives_str_repr z k) ?_ rfl q1.1
    exact wpAny_formatField_str ⟨.str (reprText z), H1, I1.tok _, ⟨_, rfl⟩, q1.2⟩ ⟨.str (reprText z), H1, (I1.tok _).tok _, ⟨_, rfl⟩, q1.2⟩ q1.1
  | _ => exact q1.elim
theorem pe_fvp (ha : PE X a ta) : PE X (.FormattedValue a (-1) none pos) (tUn mFmt ta) := by
  intro pins s σ H Q I h
  refine wpAny_FormattedValue_plain (thn (ha pins s σ H _ I h) fun v s1 ⟨x, H1, I1, r1, q1⟩ => ?_)
  cases x with
  | str z =>
    obtain ⟨k, rfl⟩ := r1
    exact wpAny_formatField_str ⟨.str z, H1, I1, ⟨_, rfl⟩, q1.2⟩ ⟨.str z, H1, I1.tok _, ⟨_, rfl⟩, q1.2⟩ q1.1
  | int i =>
    obtain ⟨k, rfl⟩ := r1
    refine wpAny_formatField_int q1.1 ⟨tx (strI i), H1, I1.tok _, ⟨s1.toks + 1, ?_⟩, q1.2⟩
    unfold strI
    rw [← str_eta]
  | _ => exact q1.elim
abbrev TJ := Str → St → Hp → (Str → Hp → Prop) → Prop
def PJ (X : Cx) (vs : List Expr) (t : TJ) : Prop := ∀ (acc : Str) (pins : List (Addr × Obj)) (s : Shared) (σ : St) (H : Hp) (Q : Str → Shared → Prop) (R : Str → Hp → Prop), Inv X pins σ H s → t acc σ H R → (∀ out s1 H1, Inv X pins σ H1 s1 → R out H1 → Q out s1) →
  Joins (model X.prog X.w) X.A X.xe (evalEach vs X.env) acc Q s
def tJ0 : TJ := fun acc _ H R => R acc H
def tJ1 (ta : TE) (tr : TJ) : TJ := fun acc σ H R => ta σ H fun x H1 => match x with | .str z => (acc ++ z).length ≤ sizeLine ∧ tr (acc ++ z) σ H1 R | _ => False
theorem pj_nil : PJ X [] tJ0 := fun acc pins s σ H Q R I h hq => hq acc s H I h
theorem pj_cons {vs : List Expr} {tr : TJ} (ha : PE X a ta) (hr : PJ X vs tr) (he : evalEach (a :: vs) X.env = eval a X.env :: evalEach vs X.env := by rfl) : PJ X (a :: vs) (tJ1 ta tr) := by
  intro acc pins s σ H Q R I h hq
  rw [he]
  refine wpAny_mono (ha pins s σ H _ I h) (fun v s1 q => ?_) fun _ _ y => y
  obtain ⟨x, H1, I1, r1, q1⟩ := q
  cases x with
  | str z =>
    obtain ⟨k, rfl⟩ := r1
    exact ⟨z, k, rfl, q1.1, hr (acc ++ z) pins s1 σ H1 Q R I1 q1.2 hq⟩
  | _ => exact q1.elim
def tJoin (tj : TJ) : TE := fun σ H Q => tj Str.empty σ H fun out H1 => out.length ≤ sizeLine ∧ Q (.str out) H1
theorem pe_joined {b : Expr} {vs : List Expr} {tj : TJ} (h : PJ X (a :: b :: vs) tj) : PE X (.JoinedStr (a :: b :: vs) pos) (tJoin tj) := by
  intro pins s σ H Q I q
  refine wpAny_JoinedStr (h Str.empty pins s σ H _ _ I q fun out s1 H1 I1 q1 => ⟨q1.1, .str out, H1, I1.tok _, ⟨_, rfl⟩, q1.2⟩)
end
end L2
namespace LX
open PySem PySem.W PySem.Calls PyProof.Rows Builtin Builtin.ObjectAttr Builtin.Getset_descriptor
section
variable {prog : Program} {w : World} {A : Around} {K : Frag} {x D : Addr}
end
end LX
namespace L2
open PySem PySem.Spec PyProof.Rows
end L2
namespace L2
open PySem PySem.Spec PyProof.Rows
section
variable {X : Cx} {k : Nat} {x : Str} {ps : List Str} {sp : Sp} {E : XK} {p pos : Pos} {e : Expr} {es : List Expr} {t : TA}
theorem pe_callX (G : Gd X.prog X.w X.K X.mg X.base (CXx X.prog X.w) k x ps sp) (hr : Room k X.A) (hx : Passes (CXx X.prog X.w) X E) (ha : PA X (e :: es) t) (hg : Gl X x := by rfl) (hdb : (x == ("__debug__" : Str)) = false := by decide)
    (he : starEach (e :: es) X.env = (false, eval e X.env) :: starEach es X.env := by rfl) (hpl : (backTo pos (starEach es X.env)).any (·.1) = false := by rfl) :
    PE X (.Call (.Name x p) (e :: es) [] pos) (tCall sp [] E t) := by
  obtain ⟨f, fd, F, hm, hk, hb⟩ := G
  exact pe_call F hr hg hm hk hb .nil hx ha hdb he hpl
end
def XP (X : Cx) (pins : List (Addr × Obj)) (W : St → XK) (e : Value) (s' : Shared) : Prop := ∃ σ' Hb sb, Inv X pins σ' Hb sb ∧ CXx X.prog X.w X.stack Hb sb (W σ') e s'
abbrev TX := Ends → (St → XK) → St → Hp → Prop
theorem PA.nox {X : Cx} {es : List Expr} {t : TA} (h : PA X.nox es t) : PA X es t := fun pos pins s σ H Q I hw =>
  wpAny_mono (h pos pins s σ H Q (I.wish _) hw) (fun _ _ ⟨v, H', I', r, q⟩ => ⟨v, H', I'.unwish, r, q⟩) fun _ _ z => False.elim z
section
variable {X : Cx} {st : Stmt} {rest : List Stmt} {t u : TX} {k : Nat} {x : Str} {ps : List Str} {sp : Sp} {p pos pos' : Pos} {e : Expr} {es : List Expr} {ta : TA}
end
section
variable {X : Cx} {pins : List (Addr × Obj)} {σ : St} {Hb H' : Hp} {sb s1 : Shared} {x T C : Addr}
end
end L2
namespace L2
open PySem PySem.Spec PyProof.Rows
section
variable {X : Cx} {body : List Stmt} {tb : TX} {ts : TS} {S : Addr} {sx n : Str} {i : Nat} {b₀ : Stmt} {suite : List Stmt} {np hpos pos : Pos}
end
end L2
namespace L2
open PySem PySem.Spec PyProof.Rows
structure RoomN (k : Nat) (A : Around) : Prop where
  dp : A.depth + 3 * k + 5 < recursionLimit
  un : A.units + 16 * k + 200 < cLine
theorem Room.n {k : Nat} {A : Around} (r : Room k A) : RoomN k A := ⟨r.dp, r.un⟩
theorem RoomN.mono {j k : Nat} {A : Around} (r : RoomN k A) (h : j ≤ k) : RoomN j A := ⟨by have := r.dp; omega, by have := r.un; omega⟩
theorem RoomN.deeper {k : Nat} {A : Around} (r : RoomN (k + 1) A) (env : Env) : RoomN k (A.deeper env) := ⟨by have := r.dp; show A.depth + 1 + 3 * k + 5 < _; omega, by have := r.un; show A.units + 3 + 16 * k + 200 < _; omega⟩
structure FnOkN (P : Program) (w : World) (K : PySem.W.Frag) (mg : Str → Option Value) (base : Heap) (k : Nat) (f : Addr) (fd : FuncData) (ps : List Str) (sp : Sp) : Prop where
  len : ∀ vs H Q E, sp vs H Q E → vs.length = ps.length
  run : ∀ (A : Around) (outer : List Env) (s : Shared) (H : Hp) (args : Args) (us : List Value) (vs : List V) (Q : VK) (E : XK), RoomN k A → Env0 P w K mg base A outer s H → BindsTo s fd args (ps.zip us) → Vals vs us → sp vs H Q E →
    codeAny (model P w) A (.call (.ref f) args) (CR CX0 outer P w H s Q E) s
theorem FnOkN.ok {P : Program} {w : World} {K : PySem.W.Frag} {mg : Str → Option Value} {base : Heap} {k : Nat} {f : Addr} {fd : FuncData} {ps : List Str} {sp : Sp} (F : FnOkN P w K mg base k f fd ps sp) : FnOk P w K mg base CX0 k f fd ps sp :=
  ⟨F.len, fun A outer s H args us vs Q E hr => F.run A outer s H args us vs Q E hr.n⟩
section
variable {P : Program} {w : World} {K : PySem.W.Frag} {mg : Str → Option Value} {base : Heap}
theorem Fun.okX {x qual : Str} {st : Stmt} {f : Addr} {fd : FuncData} {N ps : List Str} {k : Nat} {sp : Sp} (F : Fun K x qual st f fd) (S : FnScope N ps (defScope st)) (len : ∀ vs H Q E, sp vs H Q E → vs.length = ps.length)
    (hbody : ∀ (cdv : Value) (A : Around) (outer : List Env) (s : Shared) (H : Hp) (vs : List V) (Q : VK) (E : XK), Room k (A.deeper (envOfC qual (defScope st) s.heap.objs.size f cdv)) → sp vs H Q E →
      ∃ t, PSs (cxOf (CXx P w) P w K mg base N qual (defScope st) f cdv A outer s H E) (defBody st) t ∧ t { nx := fun _ H' => Q .non H', rt := Q } (start N vs) H) : FnOk P w K mg base (CXx P w) (k + 1) f fd ps sp := by
  obtain ⟨oc, od, kV, doc, pm, an, cdv, ct, osl, rfl, lk, hcd⟩ := F.ex
  exact fn_of lk hcd S len fun A outer s H vs Q E hr hsp => hbody cdv A outer s H vs Q E hr hsp
end
def GdN (P : Program) (w : World) (K : PySem.W.Frag) (mg : Str → Option Value) (base : Heap) (k : Nat) (x : Str) (ps : List Str) (sp : Sp) : Prop :=
  ∃ f fd, FnOkN P w K mg base k f fd ps sp ∧ mg x = some (.ref f) ∧ PySem.W.keepIn K (.ref f) = true ∧ Binds K fd ps []
theorem GdN.g {P : Program} {w : World} {K : PySem.W.Frag} {mg : Str → Option Value} {base : Heap} {k : Nat} {x : Str} {ps : List Str} {sp : Sp} (G : GdN P w K mg base k x ps sp) : Gd P w K mg base CX0 k x ps sp := by
  obtain ⟨f, fd, F, r⟩ := G
  exact ⟨f, fd, F.ok, r⟩
section
variable {X : Cx} {k : Nat} {x : Str} {ps : List Str} {sp : Sp} {p pos : Pos} {e : Expr} {es : List Expr} {t : TA}
end
end L2
namespace L2
open PySem PySem.Spec PyProof.Rows
section
variable {X : Cx} {k : Nat} {x : Str} {ps : List Str} {sp : Sp} {p pos pos' : Pos} {e : Expr} {es : List Expr} {ta : TA} {i : Nat} {y : Str} {py : Pos}
end
def SG : List Nat := [32, 48, 49, 50, 51, 52, 53, 54, 55, 56, 57, 65, 66, 67, 68, 69, 70, 71, 72, 73, 74, 75, 76, 77, 78, 79, 80, 81, 82, 83, 84, 85, 86, 87, 88, 89, 90]
def rk (l : List Nat) : Option Nat := match l with | [c] => SG.findIdx? (· == c) | _ => none
end L2
namespace L2
open PySem PySem.Spec PyProof.Rows
section
variable {X : Cx}
def mAll (K : PySem.W.Frag) : List V → Hp → VK → Prop := fun xs H Q => match xs with | [.ref p] => ∃ bs : List Bool, SqL K H p (bs.map V.bl) ∧ Q (.bl (bs.all id)) H | _ => False
theorem vals_bools : ∀ {bs : List Bool} {us : List Value}, Vals (bs.map V.bl) us → us = bs.map Value.bool
  | [], _, .nil => rfl
  | b :: bs, _, .cons r t => by rw [vals_bools t]; cases r; rfl
theorem truth_bools {P : Program} {w : World} {A : Around} {bs : List Bool} : TruthOf P w A (fun i v => (bs.map Value.bool).toArray[i]? = some v) (fun i => bs.getD i false) := by
  intro i v s Q E h q
  have h' : (bs.map Value.bool)[i]? = some v := by simpa using h
  rw [List.getElem?_map] at h'
  cases e : bs[i]? with
  | none => rw [e] at h'; cases h'
  | some b =>
    rw [e] at h'
    cases h'
    have : bs.getD i false = b := by rw [List.getD_eq_getElem?_getD, e]; rfl
    have q : Q (bs.getD i false) s := q
    rw [this] at q
    exact wpAny_truthy_bool q
theorem range_all_getD (bs : List Bool) : (List.range bs.length).all (fun i => bs.getD i false) = bs.all id := by
  rw [Bool.eq_iff_iff, List.all_eq_true, List.all_eq_true]
  constructor
  · intro h b hb
    obtain ⟨i, hi, e⟩ := List.getElem_of_mem hb
    have := h i (List.mem_range.mpr hi)
    rw [List.getD_eq_getElem?_getD, List.getElem?_eq_getElem hi] at this
    rw [← e]; exact this
  · intro h i hi
    have hi := List.mem_range.mp hi
    rw [List.getD_eq_getElem?_getD, List.getElem?_eq_getElem hi]
    exact h _ (List.getElem_mem hi)
theorem call_allM (hc : X.calm = true) : CallR X (.builtin "all") (mAll X.K) := by
  intro pins s σ H xs us Q I r h
  unfold mAll at h
  split at h
  · rename_i p
    obtain ⟨bs, hS, q⟩ := h
    obtain ⟨u, rfl, rx⟩ := vals1 r
    cases rx
    obtain ⟨its, rv, pl, hz⟩ := I.list hS
    rw [vals_bools rv] at pl
    have hp := Heap.lt_size pl.isList.choose_spec.1
    have hne : p ≠ s.heap.objs.size := Nat.ne_of_lt hp
    refine call_all_walk (wpAny_pyIter_list pl.isList ⟨_, _, _, _, _, _, _, rfl, Walks.list (A := X.A.in1) (I.ok.hd hc) _ p hne (bs.map Value.bool).toArray, ⟨⟨_, Heap.get?_push_size _ rfl, rfl, rfl⟩, pl.isList.at fun o e => Heap.get?_push_of_some _ e⟩, truth_bools, fun h' tk kk => ?_⟩)
    refine ⟨.bl (bs.all id), H, I.kept (t' := tk) fun b o e => kk b o (by simpa using Nat.ne_of_lt (Heap.lt_size e)) (Heap.get?_push_of_some _ e), ?_, q⟩
    show Value.bool _ = _
    rw [List.size_toArray, List.length_map, range_all_getD]
  · exact h.elim
end
section
variable {X : Cx}
end
inductive EqD (K : PySem.W.Frag) (H : Hp) : Nat → V → V → Bool → Prop
  | flat {x y : V} (hx : flatV x = true) (hy : flatV y = true) : EqD K H 0 x y (eqV x y)
  | lst {n : Nat} {p q : Addr} {xs ys : List V} (e : Nat → Bool) (hp : SqL K H p xs) (hq : SqL K H q ys) (hl : xs.length = ys.length) (h : ∀ (i : Nat) x y, xs[i]? = some x → ys[i]? = some y → EqD K H n x y (e i)) : EqD K H (n + 1) (.ref p) (.ref q) ((List.range xs.length).all e)
  | lstN {n : Nat} {p q : Addr} {xs ys : List V} (hp : SqL K H p xs) (hq : SqL K H q ys) (hl : xs.length ≠ ys.length) : EqD K H n (.ref p) (.ref q) false
  | tup {n : Nat} {p q : Addr} {xs ys : List V} (e : Nat → Bool) (hp : SqT K H p xs) (hq : SqT K H q ys) (h : ∀ (i : Nat) x y, xs[i]? = some x → ys[i]? = some y → EqD K H n x y (e i)) : EqD K H (n + 1) (.ref p) (.ref q) ((List.range (min xs.length ys.length)).all e && xs.length == ys.length)
  | lt {n : Nat} {p q : Addr} {xs ys : List V} (hp : SqL K H p xs) (hq : SqT K H q ys) : EqD K H n (.ref p) (.ref q) false
  | tl {n : Nat} {p q : Addr} {xs ys : List V} (hp : SqT K H p xs) (hq : SqL K H q ys) : EqD K H n (.ref p) (.ref q) false
  | lf {n : Nat} {p : Addr} {xs : List V} {y : V} (hp : SqL K H p xs) (hy : flatV y = true) : EqD K H n (.ref p) y false
  | fl {n : Nat} {p : Addr} {xs : List V} {y : V} (hp : SqL K H p xs) (hy : flatV y = true) : EqD K H n y (.ref p) false
  | tf {n : Nat} {p : Addr} {xs : List V} {y : V} (hp : SqT K H p xs) (hy : flatV y = true) : EqD K H n (.ref p) y false
  | ft {n : Nat} {p : Addr} {xs : List V} {y : V} (hp : SqT K H p xs) (hy : flatV y = true) : EqD K H n y (.ref p) false
  | up {n : Nat} {x y : V} {b : Bool} (h : EqD K H n x y b) : EqD K H (n + 1) x y b
section
variable {X : Cx} {pins : List (Addr × Obj)} {σ : St} {H : Hp} {s : Shared}
theorem vals_at {xs : List V} {us : List Value} (r : Vals xs us) {i : Nat} (h : i < us.toArray.size) : ∃ x, xs[i]? = some x ∧ RelV x us.toArray[i] := by
  have hi : i < us.length := by simpa using h
  have hl := r.length
  obtain ⟨u, hu, ru⟩ := r.get (List.getElem?_eq_getElem (show i < xs.length by omega))
  refine ⟨_, List.getElem?_eq_getElem (by omega), ?_⟩
  rw [List.getElem?_eq_getElem hi] at hu
  cases hu
  simpa using ru
theorem eqd_same (I : Inv X pins σ H s) {n : Nat} {x y : V} {b : Bool} (h : EqD X.K H n x y b) : x = y → b = true := by
  induction h with
  | flat hx hy =>
    rename_i x y
    rintro rfl
    cases x <;> first | (cases hx; done) | (simp [eqV]; done) | rfl
  | lst e hp hq hl h ih =>
    rename_i n p q xs ys
    intro e0
    cases e0
    have exy := I.list_inj hp hq
    subst exy
    rw [List.all_eq_true]
    intro i hi
    have hi := List.mem_range.mp hi
    exact ih i _ _ (List.getElem?_eq_getElem hi) (List.getElem?_eq_getElem hi) rfl
  | lstN hp hq hl =>
    intro e0
    cases e0
    exact absurd (by rw [I.list_inj hp hq]) hl
  | tup e hp hq h ih =>
    rename_i n p q xs ys
    intro e0
    cases e0
    have exy := I.tuple_inj hp hq
    subst exy
    rw [Bool.and_eq_true, List.all_eq_true]
    refine ⟨?_, by simp⟩
    intro i hi
    have hi := List.mem_range.mp hi
    have hi : i < xs.length := by omega
    exact ih i _ _ (List.getElem?_eq_getElem hi) (List.getElem?_eq_getElem hi) rfl
  | lt hp hq =>
    intro e0
    cases e0
    obtain ⟨its, r1, p1, z1⟩ := I.list hp
    obtain ⟨its2, r2, p2, z2⟩ := I.tuple hq
    exact absurd rfl (SeqAt.ne_of_list_tuple p1.isList p2)
  | tl hp hq =>
    intro e0
    cases e0
    obtain ⟨its, r1, p1, z1⟩ := I.tuple hp
    obtain ⟨its2, r2, p2, z2⟩ := I.list hq
    exact absurd rfl (SeqAt.ne_of_list_tuple p2.isList p1)
  | lf hp hy => rintro rfl; cases hy
  | fl hp hy => rintro rfl; cases hy
  | tf hp hy => rintro rfl; cases hy
  | ft hp hy => rintro rfl; cases hy
  | up h ih => exact ih
theorem eqd_rc (I : Inv X pins σ H s) {n : Nat} {x y : V} {b : Bool} (h : EqD X.K H n x y b) : ∀ (A : Around) (v u : Value), A.units + n < cLine → RelV x v → RelV y u →
    SeqAt.EqAt A s v u b ∧ (∀ p q, x = .ref p → y = .ref q → SeqAt.RcAt A s v u b) := by
  induction h with
  | flat hx hy =>
    intro A v u _ rx ry
    refine ⟨eqAt_V rx ry hx hy, fun p q e _ => ?_⟩
    subst e; cases hx
  | lst e hp hq hl h ih =>
    rename_i n p q xs ys
    intro A v u hu rx ry
    cases rx; cases ry
    obtain ⟨its, r1, p1, z1⟩ := I.list hp
    obtain ⟨its2, r2, p2, z2⟩ := I.list hq
    have l1 := r1.length
    have l2 := r2.length
    have rc : SeqAt.RcAt A s (.ref p) (.ref q) ((List.range xs.length).all e) := by
      have := SeqAt.RcAt.lists (A := A) (e := e) p1.isList p2.isList (by simp only [List.size_toArray]; omega) (by omega) (fun j h1 h2 => by
        obtain ⟨x, ex, rx⟩ := vals_at r1 h1
        obtain ⟨y, ey, ry⟩ := vals_at r2 h2
        exact (ih j x y ex ey A.in1 _ _ (by show A.units + 1 + n < _; omega) rx ry).1)
      rw [List.size_toArray, ← l1] at this
      exact this
    refine ⟨?_, fun _ _ _ _ => rc⟩
    by_cases hpq : p = q
    · subst hpq
      have exy := I.list_inj hp hq
      subst exy
      have : (List.range xs.length).all e = true := by
        rw [List.all_eq_true]
        intro i hi
        have hi := List.mem_range.mp hi
        exact eqd_same I (h i _ _ (List.getElem?_eq_getElem hi) (List.getElem?_eq_getElem hi)) rfl
      rw [this]
      exact SeqAt.EqAt.same _
    · exact .of_refs hpq rc
  | lstN hp hq hl =>
    rename_i n p q xs ys
    intro A v u hu rx ry
    cases rx; cases ry
    obtain ⟨its, r1, p1, z1⟩ := I.list hp
    obtain ⟨its2, r2, p2, z2⟩ := I.list hq
    have l1 := r1.length
    have l2 := r2.length
    have rc : SeqAt.RcAt A s (.ref p) (.ref q) false := SeqAt.RcAt.lists_lengths p1.isList p2.isList (by simp only [List.size_toArray, bne_iff_ne, ne_eq]; omega) (by omega)
    refine ⟨.of_refs (fun e => ?_) rc, fun _ _ _ _ => rc⟩
    subst e
    exact hl (by rw [I.list_inj hp hq])
  | tup e hp hq h ih =>
    rename_i n p q xs ys
    intro A v u hu rx ry
    cases rx; cases ry
    obtain ⟨its, r1, p1, z1⟩ := I.tuple hp
    obtain ⟨its2, r2, p2, z2⟩ := I.tuple hq
    have l1 := r1.length
    have l2 := r2.length
    have rc : SeqAt.RcAt A s (.ref p) (.ref q) ((List.range (min xs.length ys.length)).all e && xs.length == ys.length) := by
      have := SeqAt.RcAt.tuples (A := A) (e := e) (show s.heap.IsTuple p its.toArray from p1) (show s.heap.IsTuple q its2.toArray from p2) (by omega) (fun j h1 h2 => by
        obtain ⟨x, ex, rx⟩ := vals_at r1 h1
        obtain ⟨y, ey, ry⟩ := vals_at r2 h2
        exact (ih j x y ex ey A.in1 _ _ (by show A.units + 1 + n < _; omega) rx ry).1)
      rw [List.size_toArray, List.size_toArray, ← l1, ← l2] at this
      exact this
    refine ⟨?_, fun _ _ _ _ => rc⟩
    by_cases hpq : p = q
    · subst hpq
      have exy := I.tuple_inj hp hq
      subst exy
      have : ((List.range (min xs.length xs.length)).all e && xs.length == xs.length) = true := by
        rw [Bool.and_eq_true, List.all_eq_true]
        refine ⟨?_, by simp⟩
        intro i hi
        have hi := List.mem_range.mp hi
        have hi : i < xs.length := by omega
        exact eqd_same I (h i _ _ (List.getElem?_eq_getElem hi) (List.getElem?_eq_getElem hi)) rfl
      rw [this]
      exact SeqAt.EqAt.same _
    · exact .of_refs hpq rc
  | lt hp hq =>
    intro A v u hu rx ry
    cases rx; cases ry
    obtain ⟨its, r1, p1, z1⟩ := I.list hp
    obtain ⟨its2, r2, p2, z2⟩ := I.tuple hq
    exact ⟨.list_tuple p1.isList p2 (by omega), fun _ _ _ _ => .list_tuple p1.isList p2 (by omega)⟩
  | tl hp hq =>
    intro A v u hu rx ry
    cases rx; cases ry
    obtain ⟨its, r1, p1, z1⟩ := I.tuple hp
    obtain ⟨its2, r2, p2, z2⟩ := I.list hq
    exact ⟨.tuple_list p1 p2.isList (by omega), fun _ _ _ _ => .tuple_list p1 p2.isList (by omega)⟩
  | lf hp hy =>
    rename_i n p xs y
    intro A v u hu rx ry
    cases rx
    obtain ⟨its, r1, p1, z1⟩ := I.list hp
    refine ⟨?_, fun _ _ _ e => by subst e; cases hy⟩
    cases y with
    | non => cases ry; exact .list_none p1.isList (by omega)
    | bl b => cases ry; exact .list_bool b p1.isList (by omega)
    | int b => obtain ⟨t, rfl⟩ := ry; exact .list_int b t p1.isList (by omega)
    | str b => obtain ⟨t, rfl⟩ := ry; exact .list_str b t p1.isList (by omega)
    | _ => cases hy
  | fl hp hy =>
    rename_i n p xs y
    intro A v u hu rx ry
    cases ry
    obtain ⟨its, r1, p1, z1⟩ := I.list hp
    refine ⟨?_, fun _ _ e _ => by subst e; cases hy⟩
    cases y with
    | non => cases rx; exact .none_list p1.isList (by omega)
    | bl b => cases rx; exact .bool_list b p1.isList (by omega)
    | int b => obtain ⟨t, rfl⟩ := rx; exact .int_list b t p1.isList (by omega)
    | str b => obtain ⟨t, rfl⟩ := rx; exact .str_list b t p1.isList (by omega)
    | _ => cases hy
  | tf hp hy =>
    rename_i n p xs y
    intro A v u hu rx ry
    cases rx
    obtain ⟨its, r1, p1, z1⟩ := I.tuple hp
    refine ⟨?_, fun _ _ _ e => by subst e; cases hy⟩
    cases y with
    | non => cases ry; exact .tuple_none p1 (by omega)
    | bl b => cases ry; exact .tuple_bool b p1 (by omega)
    | int b => obtain ⟨t, rfl⟩ := ry; exact .tuple_int b t p1 (by omega)
    | str b => obtain ⟨t, rfl⟩ := ry; exact .tuple_str b t p1 (by omega)
    | _ => cases hy
  | ft hp hy =>
    rename_i n p xs y
    intro A v u hu rx ry
    cases ry
    obtain ⟨its, r1, p1, z1⟩ := I.tuple hp
    refine ⟨?_, fun _ _ e _ => by subst e; cases hy⟩
    cases y with
    | non => cases rx; exact .none_tuple p1 (by omega)
    | bl b => cases rx; exact .bool_tuple b p1 (by omega)
    | int b => obtain ⟨t, rfl⟩ := rx; exact .int_tuple b t p1 (by omega)
    | str b => obtain ⟨t, rfl⟩ := rx; exact .str_tuple b t p1 (by omega)
    | _ => cases hy
  | up h ih =>
    intro A v u hu rx ry
    exact ih A v u (by omega) rx ry
end
section
variable {X : Cx}
def mEqK (K : PySem.W.Frag) : R2 := fun x y H Q => match x, y with
  | .ref p, .ref q => ∃ n b, n ≤ 50 ∧ EqD K H n (.ref p) (.ref q) b ∧ Q (.bl b) H
  | _, _ => mEq x y H Q
def mNeK (K : PySem.W.Frag) : R2 := fun x y H Q => match x, y with
  | .ref p, .ref q => ∃ n b, n ≤ 50 ∧ EqD K H n (.ref p) (.ref q) b ∧ Q (.bl (!b)) H
  | _, _ => mNe x y H Q
theorem op_eqK (hu : X.A.units + 60 < cLine) : OpR X (compareOp .Eq) (mEqK X.K) := by
  intro pins s σ H x y v u Q I rx ry h
  unfold mEqK at h
  split at h
  · rename_i p q
    obtain ⟨n, b, hn, h, q⟩ := h
    have := (eqd_rc I h X.A v u (by omega) rx ry).2 _ _ rfl rfl
    exact this X.prog X.w X.xe _ ⟨.bl b, H, I, rfl, q⟩
  · exact op_eqM pins s σ H x y v u Q I rx ry h
end
section
variable {X : Cx} {pins : List (Addr × Obj)} {σ : St} {H : Hp} {s : Shared}
theorem eqd_ne (I : Inv X pins σ H s) {n : Nat} {x y : V} {b : Bool} (h : EqD X.K H n x y b) : ∀ (A : Around) (v u : Value), A.units + n < cLine → RelV x v → RelV y u → ∀ p q, x = .ref p → y = .ref q → SeqAt.RcNeAt A s v u (!b) := by
  induction h with
  | flat hx hy => intro A v u _ rx ry p q e _; subst e; cases hx
  | lst e hp hq hl h ih =>
    rename_i n p q xs ys
    intro A v u hu rx ry _ _ _ _
    cases rx; cases ry
    obtain ⟨its, r1, p1, z1⟩ := I.list hp
    obtain ⟨its2, r2, p2, z2⟩ := I.list hq
    have l1 := r1.length
    have l2 := r2.length
    have := SeqAt.RcNeAt.lists (A := A) (e := e) p1.isList p2.isList (by simp only [List.size_toArray]; omega) (by omega) (fun j h1 h2 => by
      obtain ⟨x, ex, rx⟩ := vals_at r1 h1
      obtain ⟨y, ey, ry⟩ := vals_at r2 h2
      exact (eqd_rc I (h j x y ex ey) A.in1 _ _ (by show A.units + 1 + n < _; omega) rx ry).1)
    rw [List.size_toArray, ← l1] at this
    exact this
  | lstN hp hq hl =>
    intro A v u hu rx ry _ _ _ _
    cases rx; cases ry
    obtain ⟨its, r1, p1, z1⟩ := I.list hp
    obtain ⟨its2, r2, p2, z2⟩ := I.list hq
    have l1 := r1.length
    have l2 := r2.length
    exact SeqAt.RcNeAt.lists_lengths p1.isList p2.isList (by simp only [List.size_toArray, bne_iff_ne, ne_eq]; omega) (by omega)
  | tup e hp hq h ih =>
    rename_i n p q xs ys
    intro A v u hu rx ry _ _ _ _
    cases rx; cases ry
    obtain ⟨its, r1, p1, z1⟩ := I.tuple hp
    obtain ⟨its2, r2, p2, z2⟩ := I.tuple hq
    have l1 := r1.length
    have l2 := r2.length
    have := SeqAt.RcNeAt.tuples (A := A) (e := e) (show s.heap.IsTuple p its.toArray from p1) (show s.heap.IsTuple q its2.toArray from p2) (by omega) (fun j h1 h2 => by
      obtain ⟨x, ex, rx⟩ := vals_at r1 h1
      obtain ⟨y, ey, ry⟩ := vals_at r2 h2
      exact (eqd_rc I (h j x y ex ey) A.in1 _ _ (by show A.units + 1 + n < _; omega) rx ry).1)
    rw [List.size_toArray, List.size_toArray, ← l1, ← l2] at this
    exact this
  | lt hp hq =>
    intro A v u hu rx ry _ _ _ _
    cases rx; cases ry
    obtain ⟨its, r1, p1, z1⟩ := I.list hp
    obtain ⟨its2, r2, p2, z2⟩ := I.tuple hq
    exact .list_tuple p1.isList p2 (by omega)
  | tl hp hq =>
    intro A v u hu rx ry _ _ _ _
    cases rx; cases ry
    obtain ⟨its, r1, p1, z1⟩ := I.tuple hp
    obtain ⟨its2, r2, p2, z2⟩ := I.list hq
    exact .tuple_list p1 p2.isList (by omega)
  | lf hp hy => intro A v u hu rx ry _ _ _ e; subst e; cases hy
  | fl hp hy => intro A v u hu rx ry _ _ e _; subst e; cases hy
  | tf hp hy => intro A v u hu rx ry _ _ _ e; subst e; cases hy
  | ft hp hy => intro A v u hu rx ry _ _ e _; subst e; cases hy
  | up h ih => intro A v u hu rx ry; exact ih A v u (by omega) rx ry
theorem op_neK (hu : X.A.units + 60 < cLine) : OpR X (compareOp .NotEq) (mNeK X.K) := by
  intro pins s σ H x y v u Q I rx ry h
  unfold mNeK at h
  split at h
  · rename_i p q
    obtain ⟨n, b, hn, h, q⟩ := h
    have := eqd_ne I h X.A v u (by omega) rx ry _ _ rfl rfl
    exact this X.prog X.w X.xe _ ⟨.bl (!b), H, I, rfl, q⟩
  · exact op_neM pins s σ H x y v u Q I rx ry h
end
theorem Room.u60 {k : Nat} {A : Around} (r : Room k A) : A.units + 60 < cLine := by have := r.units; omega
theorem RoomN.u60 {k : Nat} {A : Around} (r : RoomN k A) : A.units + 60 < cLine := by have := r.un; omega
def splitC (c : Nat) : List Nat → List (List Nat)
  | [] => [[]]
  | d :: r => if d = c then [] :: splitC c r else match splitC c r with | p :: ps => (d :: p) :: ps | [] => [[d]]
def joinC (c : Nat) : List (List Nat) → List Nat
  | [] => []
  | [p] => p
  | p :: q :: r => p ++ c :: joinC c (q :: r)
theorem splitC_free (c : Nat) : ∀ (l : List Nat), c ∉ l → splitC c l = [l]
  | [], _ => rfl
  | d :: r, h => by
    have h1 : d ≠ c := fun e => h (by rw [e]; exact List.mem_cons_self)
    have h2 : c ∉ r := fun e => h (List.mem_cons_of_mem _ e)
    unfold splitC
    rw [if_neg h1, splitC_free c r h2]
theorem splitC_app (c : Nat) : ∀ (p : List Nat) (l : List Nat), c ∉ p → splitC c (p ++ c :: l) = p :: splitC c l
  | [], l, _ => by show splitC c (c :: l) = _; rw [splitC, if_pos rfl]
  | d :: r, l, h => by
    have h1 : d ≠ c := fun e => h (by rw [e]; exact List.mem_cons_self)
    have h2 : c ∉ r := fun e => h (List.mem_cons_of_mem _ e)
    show splitC c (d :: (r ++ c :: l)) = _
    rw [splitC, if_neg h1, splitC_app c r l h2]
theorem splitC_join (c : Nat) : ∀ (ps : List (List Nat)), ps ≠ [] → (∀ p ∈ ps, c ∉ p) → splitC c (joinC c ps) = ps
  | [], h, _ => absurd rfl h
  | [p], _, hf => splitC_free c p (hf p List.mem_cons_self)
  | p :: q :: r, _, hf => by
    show splitC c (p ++ c :: joinC c (q :: r)) = _
    rw [splitC_app c p _ (hf p List.mem_cons_self), splitC_join c (q :: r) (by simp) (fun p hp => hf p (List.mem_cons_of_mem _ hp))]
theorem join_codes (c : Nat) : ∀ (ps : List Str), (Str.join ⟨#[c]⟩ ps).cps.toList = joinC c (ps.map fun p => p.cps.toList)
  | [] => rfl
  | [p] => rfl
  | p :: q :: r => by
    show (p ++ ⟨#[c]⟩ ++ Str.join ⟨#[c]⟩ (q :: r)).cps.toList = _
    have ih := join_codes c (q :: r)
    show _ = p.cps.toList ++ c :: joinC c ((q :: r).map fun p => p.cps.toList)
    rw [← ih, str_app, str_app]
    simp
theorem split_codes (x : Str) (c : Nat) : (Txt.split x ⟨#[c]⟩).map (fun p => p.cps.toList) = splitC c x.cps.toList := by
  have h := StrLaws.join_split x ⟨#[c]⟩
  have h1 := join_codes c (Txt.split x ⟨#[c]⟩)
  rw [h] at h1
  rw [h1, splitC_join]
  · have := PyProof.Rows.split_pos x ⟨#[c]⟩
    intro e
    rw [List.map_eq_nil_iff] at e
    rw [e] at this
    cases this
  · intro p hp
    obtain ⟨z, hz, rfl⟩ := List.mem_map.mp hp
    exact StrLaws.split_free x c z hz
end L2
namespace LX
open PySem Builtin Builtin.Str
section
variable {prog : Program} {w : World} {A : Around} {E : Value → Shared → Prop} {s : Shared} {x : Str} {t : Tok} {Q : Value → Shared → Prop}
theorem split_push {y : Str} {u : Tok} (hy : (y.length == 0) = false)
    (hq : ∀ (l : List (Str × Tok)) (k : Nat), l.map (·.1) = Txt.split x y → Q (.ref s.heap.objs.size) { s with toks := k, heap := s.heap.push { cls := .type "list", data := .seq (strValues l).toArray } })
    (hsz : x.length ≤ sizeLine) (hsz2 : (partsBetween x (occurrences x y 0 x.length (x.length + 1)) y.length).length ≤ sizeLine) :
    wpAny (model prog w) A (call (.builtin "str.split") [.str x t, .str y u]) Q E s := by
  cases h1 : (decide (x.length < y.length) || decide (strKind x < strKind y))
  · cases hf : (occurrences x y 0 x.length (x.length + 1)).isEmpty
    · refine call_meets F.slot_str_split (typeIs_str _ _ _) F.entry_str_split (F.args_str_split_2 _ _) (meets_str_split_sep x y t u h1 hy hf hsz hsz2) ?_
      show wants Q E _ { s with toks := _, heap := s.heap.push { cls := .type "list", data := .seq (strsFrom s.toks (partsBetween x (occurrences x y 0 x.length (x.length + 1)) y.length)).toArray } }
      rw [strsFrom_eq]
      exact hq (numbered s.toks _) _ ((numbered_texts _ _).trans ((if_neg (ne_true_of_eq_false h1)).trans (if_neg (ne_true_of_eq_false hf))).symm)
    · exact call_meets F.slot_str_split (typeIs_str _ _ _) F.entry_str_split (F.args_str_split_2 _ _) (meets_str_split_not_found x y t u h1 hy hf)
        (hq [(x, t)] _ ((if_neg (ne_true_of_eq_false h1)).trans (if_pos hf)).symm)
  · exact call_meets F.slot_str_split (typeIs_str _ _ _) F.entry_str_split (F.args_str_split_2 _ _) (meets_str_split_cannot_occur x y t u h1)
      (hq [(x, t)] _ (if_pos h1).symm)
end
end LX
namespace L2
open PySem PySem.Spec PyProof.Rows
section
variable {X : Cx}
theorem vals_parts : ∀ (l : List (Str × Tok)), Vals (l.map fun p => tx p.1.cps.toList) (strValues l)
  | [] => .nil
  | (z, t) :: r => .cons ⟨t, by rw [← str_eta]⟩ (vals_parts r)
end
section
variable {X : Cx} {a b c d : Expr} {ta tb tc td : TE} {pos : Pos}
end
end L2
namespace L2
open PySem PySem.Spec PyProof.Rows
section
variable {κ : Type} [DecidableEq κ]
def valV (kvs : List (κ × V)) (k : κ) : Option V := (kvs.find? fun kv => decide (kv.1 = k)).map (·.2)
def putK (kvs : List (κ × V)) (k : κ) (v : V) : List (κ × V) :=
  if (kvs.any fun kv => decide (kv.1 = k)) = true then kvs.map (fun kv => if kv.1 = k then (kv.1, v) else kv) else kvs ++ [(k, v)]
def dropK (kvs : List (κ × V)) (k : κ) : List (κ × V) := kvs.filter fun kv => decide (kv.1 ≠ k)
theorem valV_pos {p : κ × V} {r : List (κ × V)} {k : κ} (e : p.1 = k) : valV (p :: r) k = some p.2 := by simp [valV, List.find?_cons, e]
theorem valV_neg {p : κ × V} {r : List (κ × V)} {k : κ} (e : ¬ p.1 = k) : valV (p :: r) k = valV r k := by simp [valV, List.find?_cons, e]
theorem valV_any (k : κ) : ∀ kvs : List (κ × V), (kvs.any fun kv => decide (kv.1 = k)) = (valV kvs k).isSome
  | [] => rfl
  | p :: r => by
    rw [List.any_cons]
    by_cases e : p.1 = k
    · simp only [valV_pos e, decide_eq_true e, Bool.true_or, Option.isSome_some]
    · rw [valV_neg e, decide_eq_false e, Bool.false_or]; exact valV_any k r
theorem length_putK (kvs : List (κ × V)) (k : κ) (v : V) : (putK kvs k v).length ≤ kvs.length + 1 := by
  unfold putK
  split
  · rw [List.length_map]; omega
  · rw [List.length_append, List.length_cons, List.length_nil]; omega
theorem RelO.isSome_eq {o : Option V} {u : Option Value} (r : RelO o u) : o.isSome = u.isSome := by
  cases o with
  | none => cases u with
    | none => rfl
    | some _ => exact (show False from r).elim
  | some _ => cases u with
    | none => exact (show False from r).elim
    | some _ => rfl
theorem RelO.getD {o : Option V} {u : Option Value} {d : V} {d' : Value} (r : RelO o u) (rd : RelV d d') : RelV (o.getD d) (u.getD d') := by
  cases o with
  | none => cases u with
    | none => exact rd
    | some _ => exact (show False from r).elim
  | some _ => cases u with
    | none => exact (show False from r).elim
    | some _ => exact r
theorem KV.val {kvs : List (κ × V)} {vs : List (κ × Value)} (r : KV kvs vs) (k : κ) : RelO (valV kvs k) (valueAt vs k) := by
  unfold KV at r
  induction r with
  | nil => exact True.intro
  | @cons p q ps qs h t ih =>
    obtain ⟨h1, h2⟩ := h
    by_cases e : p.1 = k
    · have e' : q.1 = k := h1.symm.trans e
      have b : valueAt (q :: qs) k = some q.2 := by simp [valueAt, List.find?_cons, e']
      rw [valV_pos e, b]; exact h2
    · have e' : ¬ q.1 = k := fun z => e (h1.trans z)
      have b : valueAt (q :: qs) k = valueAt qs k := by simp [valueAt, List.find?_cons, e']
      rw [valV_neg e, b]; exact ih
theorem KV.any {kvs : List (κ × V)} {vs : List (κ × Value)} (r : KV kvs vs) (k : κ) : (kvs.any fun kv => decide (kv.1 = k)) = vs.any fun kv => decide (kv.1 = k) := by
  unfold KV at r
  induction r with
  | nil => rfl
  | cons h t ih => rw [List.any_cons, List.any_cons, ih, h.1]
theorem KV.repl {kvs : List (κ × V)} {vs : List (κ × Value)} (r : KV kvs vs) (k : κ) {y : V} {u : Value} (ry : RelV y u) :
    KV (kvs.map fun kv => if kv.1 = k then (kv.1, y) else kv) (vs.map fun kv => if kv.1 = k then (kv.1, u) else kv) := by
  unfold KV at r ⊢
  induction r with
  | nil => exact .nil
  | @cons p q ps qs h t ih =>
    rw [List.map_cons, List.map_cons]
    refine .cons ?_ ih
    obtain ⟨h1, h2⟩ := h
    by_cases e : p.1 = k
    · rw [if_pos e, if_pos (h1.symm.trans e)]; exact ⟨h1, ry⟩
    · rw [if_neg e, if_neg (fun z => e (h1.trans z))]; exact ⟨h1, h2⟩
theorem KV.put {kvs : List (κ × V)} {vs : List (κ × Value)} (r : KV kvs vs) (k : κ) {y : V} {u : Value} (ry : RelV y u) : KV (putK kvs k y) (stored vs k u) := by
  unfold putK stored
  rw [r.any k]
  by_cases e : (vs.any fun kv => decide (kv.1 = k)) = true
  · rw [if_pos e, if_pos e]; exact r.repl k ry
  · rw [if_neg e, if_neg e]; exact Paired.snoc r ⟨rfl, ry⟩
theorem KV.drop {kvs : List (κ × V)} {vs : List (κ × Value)} (r : KV kvs vs) (k : κ) : KV (dropK kvs k) (without vs k) := by
  unfold KV at r ⊢
  unfold dropK without
  induction r with
  | nil => exact .nil
  | @cons p q ps qs h t ih =>
    obtain ⟨h1, h2⟩ := h
    rw [List.filter_cons, List.filter_cons]
    by_cases e : p.1 = k
    · have a : ¬ decide (p.1 ≠ k) = true := by simp [e]
      have b : ¬ decide (q.1 ≠ k) = true := by simp [h1.symm.trans e]
      rw [if_neg a, if_neg b]; exact ih
    · have e' : ¬ q.1 = k := fun z => e (h1.trans z)
      have a : decide (p.1 ≠ k) = true := by simp [e]
      have b : decide (q.1 ≠ k) = true := by simp [e']
      rw [if_pos a, if_pos b]; exact .cons ⟨h1, h2⟩ ih
theorem KV.length {kvs : List (κ × V)} {vs : List (κ × Value)} (r : KV kvs vs) : kvs.length = vs.length := Paired.length r
end
theorem kV_is {P : Program} {w : World} {k : Key} {u : Value} (r : RelV (kV k) u) : (mixKind P w).is k u = true := by
  cases k with
  | inl i => obtain ⟨t, e⟩ := (show ∃ t, u = Value.int i t from r); subst e; exact mixKind_int P w i t
  | inr x => obtain ⟨t, e⟩ := (show ∃ t, u = Value.str x t from r); subst e; exact mixKind_str P w x t
theorem items_are {P : Program} {w : World} : ∀ {ks : List Key} {us : List Value}, Vals (ks.map kV) us → ItemsAre (mixKind P w) ks us
  | [], _, r => by rw [List.map_nil] at r; cases r; exact .nil
  | k :: ks, _, r => by
    rw [List.map_cons] at r
    cases r with
    | cons h t => exact .cons (kV_is h) (items_are t)
abbrev KT (H : Hp) : List (List Key × V) → List (List Key × Addr × Value) → Prop := Paired fun p q => p.1 = q.1 ∧ H q.2.1 = some (.tup (p.1.map kV)) ∧ RelV p.2 q.2.2
theorem KT.val {H : Hp} {kvs : List (List Key × V)} {xs : List (List Key × Addr × Value)} (r : KT H kvs xs) (k : List Key) : RelO (valV kvs k) ((atKey xs k).map (·.2)) := by
  induction r with
  | nil => exact True.intro
  | @cons p q ps qs h t ih =>
    obtain ⟨h1, _, h2⟩ := h
    by_cases e : p.1 = k
    · have e' : q.1 = k := h1.symm.trans e
      have b : atKey (q :: qs) k = some q.2 := by simp [atKey, List.find?_cons, e']
      rw [valV_pos e, b]; exact h2
    · have e' : ¬ q.1 = k := fun z => e (h1.trans z)
      have b : atKey (q :: qs) k = atKey qs k := by simp [atKey, List.find?_cons, e']
      rw [valV_neg e, b]; exact ih
theorem KT.repl {H : Hp} {kvs : List (List Key × V)} {xs : List (List Key × Addr × Value)} (r : KT H kvs xs) (k : List Key) {y : V} {u : Value} (ry : RelV y u) :
    KT H (kvs.map fun kv => if kv.1 = k then (kv.1, y) else kv) (xs.map (putAt k u)) := by
  induction r with
  | nil => exact .nil
  | @cons p q ps qs h t ih =>
    rw [List.map_cons, List.map_cons]
    refine .cons ?_ ih
    obtain ⟨h1, h2, h3⟩ := h
    unfold putAt
    by_cases e : p.1 = k
    · rw [if_pos e, if_pos (h1.symm.trans e)]; exact ⟨h1, h2, ry⟩
    · rw [if_neg e, if_neg (fun z => e (h1.trans z))]; exact ⟨h1, h2, h3⟩
theorem KT.put {H : Hp} {kvs : List (List Key × V)} {xs : List (List Key × Addr × Value)} (r : KT H kvs xs) (k : List Key) {b : Addr} {y : V} {u : Value} (hb : H b = some (.tup (k.map kV))) (ry : RelV y u) :
    KT H (putK kvs k y) (storedH xs k b u) := by
  have e : (kvs.any fun kv => decide (kv.1 = k)) = (atKey xs k).isSome := by
    rw [valV_any, (r.val k).isSome_eq, Option.isSome_map]
  unfold putK storedH
  rw [e]
  by_cases q : (atKey xs k).isSome = true
  · rw [if_pos q, if_pos q]; exact r.repl k ry
  · rw [if_neg q, if_neg q]; exact Paired.snoc r ⟨rfl, hb, ry⟩
theorem KT.keeps {H H' : Hp} {kvs : List (List Key × V)} {xs : List (List Key × Addr × Value)} (r : KT H kvs xs) (ht : ∀ b ys, H b = some (.tup ys) → H' b = some (.tup ys)) : KT H' kvs xs :=
  Paired.mapP r fun _ _ z => ⟨z.1, ht _ _ z.2.1, z.2.2⟩
section
variable {P : Program} {w : World} {H : Hp} {h : Heap} {a : Addr}
theorem rd_of {u : HO} (ok : HOk P w H h) (e : Rd H a u) : ObjOk P w H h a u := e.ok ok
theorem dk_rd {kvs : List (Key × V)} (ok : HOk P w H h) (e : Rd H a (.dK kvs)) : kvs.length ≤ sizeLine ∧ (a == sysModules) = false ∧ ∃ vs, KV kvs vs ∧ h.DictOf (mixKind P w) a vs :=
  show ObjOk P w H h a (.dK kvs) from rd_of ok e
theorem dk_of {kvs : List (Key × V)} (ok : HOk P w H h) (e : H a = some (.dK kvs)) : kvs.length ≤ sizeLine ∧ (a == sysModules) = false ∧ ∃ vs, KV kvs vs ∧ h.DictOf (mixKind P w) a vs := dk_rd ok (.inl e)
theorem key_of {ks : List Key} (ok : HOk P w H h) (e : H a = some (.tup (ks.map kV))) : (tupleKind (mixKind P w)).is h ks a := by
  obtain ⟨_, its, r, o, h1, h2, n, h3⟩ := (show ObjOk P w H h a (.tup (ks.map kV)) from ok a _ e)
  exact ⟨o, its.toArray, n, h1, h2, h3, by simpa using items_are r⟩
theorem dt_rd {kvs : List (List Key × V)} (ok : HOk P w H h) (e : Rd H a (.dT kvs)) : kvs.length ≤ sizeLine ∧ (a == sysModules) = false ∧
    ∃ xs, KT H kvs xs ∧ h.DictOfH (tupleKind (mixKind P w)) a xs := by
  obtain ⟨z, y, xs, r, o, es, ep, h1, h2, h3, h4, h5⟩ := (show ObjOk P w H h a (.dT kvs) from rd_of ok e)
  refine ⟨z, y, xs, r, o, es, ep, h1, h2, h3, h4, fun x hx => ?_, h5⟩
  have all : ∀ {l : List (List Key × V)} {m : List (List Key × Addr × Value)}, KT H l m → ∀ x ∈ m, (tupleKind (mixKind P w)).is h x.1 x.2.1 := by
    intro l m q
    induction q with
    | nil => intro x hx; exact nomatch hx
    | @cons p q ps qs hq t ih =>
      intro x hx
      rcases List.mem_cons.mp hx with e | hx
      · subst e
        exact key_of ok (by rw [← hq.1]; exact hq.2.1)
      · exact ih x hx
  exact all r x hx
theorem dt_of {kvs : List (List Key × V)} (ok : HOk P w H h) (e : H a = some (.dT kvs)) : kvs.length ≤ sizeLine ∧ (a == sysModules) = false ∧
    ∃ xs, KT H kvs xs ∧ h.DictOfH (tupleKind (mixKind P w)) a xs := dt_rd ok (.inl e)
end
def DGet (H : Hp) (a : Addr) (y : V) (r : Option V) : Prop :=
  (∃ kvs k, Rd H a (.dK kvs) ∧ y = kV k ∧ r = valV kvs k) ∨ ∃ kvs k b, Rd H a (.dT kvs) ∧ y = .ref b ∧ H b = some (.tup (k.map kV)) ∧ r = valV kvs k
def DPut (H : Hp) (a : Addr) (y v : V) (H' : Hp) : Prop :=
  (∃ kvs k, H a = some (.dK kvs) ∧ y = kV k ∧ kvs.length < sizeLine ∧ H' = upd H a (.dK (putK kvs k v))) ∨
  ∃ kvs k b, H a = some (.dT kvs) ∧ y = .ref b ∧ H b = some (.tup (k.map kV)) ∧ kvs.length < sizeLine ∧ H' = upd H a (.dT (putK kvs k v))
theorem DGet.k {H : Hp} {a : Addr} {kvs : List (Key × V)} {k : Key} (e : H a = some (.dK kvs)) : DGet H a (kV k) (valV kvs k) := .inl ⟨kvs, k, .inl e, rfl, rfl⟩
theorem DGet.t {H : Hp} {a b : Addr} {kvs : List (List Key × V)} {k : List Key} (e : H a = some (.dT kvs)) (eb : H b = some (.tup (k.map kV))) : DGet H a (.ref b) (valV kvs k) := .inr ⟨kvs, k, b, .inl e, rfl, eb, rfl⟩
theorem DPut.k {H : Hp} {a : Addr} {kvs : List (Key × V)} {k : Key} {v : V} (e : H a = some (.dK kvs)) (hl : kvs.length < sizeLine) : DPut H a (kV k) v (upd H a (.dK (putK kvs k v))) := .inl ⟨kvs, k, e, rfl, hl, rfl⟩
theorem DPut.t {H : Hp} {a b : Addr} {kvs : List (List Key × V)} {k : List Key} {v : V} (e : H a = some (.dT kvs)) (eb : H b = some (.tup (k.map kV))) (hl : kvs.length < sizeLine) :
    DPut H a (.ref b) v (upd H a (.dT (putK kvs k v))) := .inr ⟨kvs, k, b, e, rfl, eb, hl, rfl⟩
section
variable {X : Cx} {pins : List (Addr × Obj)} {σ : St} {H : Hp} {s : Shared} {a : Addr} {y v : V} {u r : Value} {o : Option V} {A : Around} {E : Value → Shared → Prop}
theorem Inv.big (I : Inv X pins σ H s) : sysModules < s.heap.objs.size := by
  have h : mainGlobals < s.heap.objs.size := (I.mod.glob.keeps I.bk).lt
  exact Nat.lt_trans (by decide) h
theorem d_getItem {Q : Value → Shared → Prop} (hu : A.units + 1 < cLine) (I : Inv X pins σ H s) (g : DGet H a y (some v)) (ry : RelV y u) (h : ∀ w' s', Inv X pins σ H s' → RelV v w' → Q w' s') :
    wpAny (model X.prog X.w) A (getItem (.ref a) u) Q E s := by
  rcases g with ⟨kvs, k, e, ey, l⟩ | ⟨kvs, k, b, e, ey, eb, l⟩
  · subst ey
    obtain ⟨z, hd, vs, rel, dd⟩ := dk_rd I.hok e
    obtain ⟨w', hw, rw'⟩ := RelO.some_of (v := v) (o := valueAt vs k) (by rw [l]; exact rel.val k)
    exact wpAny_getItem_of (kV_is ry) dd.mapOf hw (h w' _ (I.tok _) rw')
  · subst ey
    cases (show u = Value.ref b from ry)
    obtain ⟨z, hd, xs, rel, dd⟩ := dt_rd I.hok e
    obtain ⟨w', hw, rw'⟩ := RelO.some_of (v := v) (o := (atKey xs k).map (·.2)) (by rw [l]; exact rel.val k)
    obtain ⟨p, hp, hp2⟩ := Option.map_eq_some_iff.mp hw
    refine wpAny_getItem_heap (tupleKind_room_in1 hu) (key_of I.hok eb) dd hp ?_
    rw [hp2]
    exact h w' _ (I.tok _) rw'
theorem d_in {Q : Value → Shared → Prop} (hu : A.units + 1 < cLine) (I : Inv X pins σ H s) (g : DGet H a y o) (ry : RelV y u) (h : ∀ s', Inv X pins σ H s' → Q (.bool o.isSome) s') :
    wpAny (model X.prog X.w) A (compareOp .In u (.ref a)) Q E s := by
  rcases g with ⟨kvs, k, e, ey, l⟩ | ⟨kvs, k, b, e, ey, eb, l⟩
  · subst ey
    obtain ⟨z, hd, vs, rel, dd⟩ := dk_rd I.hok e
    refine wpAny_in_of (kV_is ry) hd dd.mapOf ?_
    rw [← (rel.val k).isSome_eq, ← l]
    exact h _ (I.tok _)
  · subst ey
    cases (show u = Value.ref b from ry)
    obtain ⟨z, hd, xs, rel, dd⟩ := dt_rd I.hok e
    refine wpAny_in_heap (tupleKind_room_in1 hu) (key_of I.hok eb) hd dd ?_
    have q := (rel.val k).isSome_eq
    rw [Option.isSome_map] at q
    rw [← q, ← l]
    exact h _ (I.tok _)
theorem d_write {h' : Heap} {t' : Nat} {ob : HO} (I : Inv X pins σ H s) (mu : Mut (H a)) (hs : Heap.SameBut a s.heap h') (he : ∃ q, h'.get? a = some q) (new : ObjOk X.prog X.w (upd H a ob) h' a ob) :
    Inv X pins σ (upd H a ob) { s with heap := h', toks := t' } :=
  I.write (x := a) (e := a) mu (.inl rfl) (fun b q hb z => (hs.2 b hb).trans z) he new
theorem dk_new {P : Program} {w : World} {H' : Hp} {h' : Heap} {kvs : List (Key × V)} {vs : List (Key × Value)} (z : kvs.length ≤ sizeLine) (hd : (a == sysModules) = false) (rel : KV kvs vs) (dd : h'.DictOf (mixKind P w) a vs) :
    ObjOk P w H' h' a (.dK kvs) := ⟨z, hd, vs, rel, dd⟩
theorem d_setItem {H' : Hp} {Q : Unit → Shared → Prop} (hu : A.units + 1 < cLine) (I : Inv X pins σ H s) (g : DPut H a y v H') (ry : RelV y u) (rv : RelV v r) (h : ∀ s', Inv X pins σ H' s' → Q () s') :
    wpAny (model X.prog X.w) A (setItem (.ref a) u r) Q E s := by
  rcases g with ⟨kvs, k, e, ey, l, eH⟩ | ⟨kvs, k, b, e, ey, eb, l, eH⟩
  · subst ey eH
    obtain ⟨z, hd, vs, rel, dd⟩ := dk_of I.hok e
    have hz : vs.length ≤ sizeLine := by rw [← rel.length]; exact z
    have hl : (putK kvs k v).length ≤ sizeLine := by have := length_putK kvs k v; omega
    refine wpAny_setItem_pairs (hsz := hz) (kV_is ry) dd fun h' dd' hs => h _ ?_
    have he : ∃ q, h'.get? a = some q := let ⟨q, _, _, hq, _⟩ := dd'; ⟨q, hq⟩
    exact d_write I (by rw [e]; exact True.intro) hs he (dk_new hl hd (rel.put k rv) dd')
  · subst ey eH
    cases (show u = Value.ref b from ry)
    obtain ⟨z, hd, xs, rel, dd⟩ := dt_of I.hok e
    have hz : xs.length ≤ sizeLine := by rw [← Paired.length rel]; exact z
    have hl : (putK kvs k v).length ≤ sizeLine := by have := length_putK kvs k v; omega
    refine wpAny_setItem_heap (hsz := hz) (tupleKind_room_in1 hu) (key_of I.hok eb) dd fun h' dd' hs => h _ ?_
    obtain ⟨q, es, ep, hq, h2, h3, h4, _, h5⟩ := dd'
    refine d_write I (by rw [e]; exact True.intro) hs ⟨q, hq⟩ ⟨hl, hd, _, (rel.put k eb rv).keeps fun c ys ec => ?_, q, es, ep, hq, h2, h3, h4, h5⟩
    rw [upd_ne (ne_of ec e (fun z => nomatch z))]
    exact ec
end
section
variable {X : Cx} {pins : List (Addr × Obj)} {σ : St} {H : Hp} {s : Shared} {a : Addr} {kvs : List (Key × V)} {k : Key} {u : Value} {A : Around} {E : Value → Shared → Prop}
end
def NoSl (i : Expr) : Prop := ∀ ov iv, subscripted i false ov iv = operate [ov, iv] (getItem ov iv)
theorem subD_of {prog : Program} {w : World} {A : Around} {E : Value → Shared → Prop} {s : Shared} {env : Env} {value slice : Expr} {pos : Pos} {T id : String} {Q : Value → Shared → Prop}
    (hl : typeLookup (.type T) "__getitem__" = pure (some (.builtin id))) (hs : NoSl slice)
    (h : wpAny (model prog w) A (eval value env) (fun o s₁ => wpAny (model prog w) A (eval slice env) (fun i s₂ => s₂.TypeIs o T ∧ wpAny (model prog w) A (getItem o i) Q E s₂) E s₁) E s) :
    wpAny (model prog w) A (eval (.Subscript value slice pos) env) Q E s := by
  refine Subscript_ (wpAny_mono h (fun o s₁ h₁ => wpAny_mono h₁ (fun i s₂ h₂ => ?_) fun _ _ x => x) fun _ _ x => x)
  obtain ⟨hT, h₂⟩ := h₂
  unfold subscriptTail
  refine wpAny_bind ?_
  rw [getitemInPython_of_ne hT.not_modules]
  refine wpAny_bind (wpAny_specialOf hT hl ?_)
  have fin : wpAny (model prog w) A (subscripted slice false o i) (fun r s₃ => wpAny (model prog w) A (letTemporaryGo value o r >>= fun _ => pure r) Q E s₃) E s₂ := by
    rw [hs o i]
    exact wpAny_operating (wpAny_mono h₂ (fun r s₃ h₃ => wpAny_bind (wpAny_letTemporaryGo (wpAny_pure h₃))) fun _ _ x => x)
  first
    | exact wpAny_pure (wpAny_bind fin)
    | exact wpAny_bind (wpAny_pure (wpAny_bind fin))
    | exact wpAny_bind fin
theorem dict_typeIs {X : Cx} {pins : List (Addr × Obj)} {σ : St} {H : Hp} {s : Shared} {a : Addr} {y : V} {o : Option V} (I : Inv X pins σ H s) (g : DGet H a y o) : s.TypeIs (.ref a) "dict" := by
  rcases g with ⟨kvs, k, e, _, _⟩ | ⟨kvs, k, b, e, _, _, _⟩
  · obtain ⟨_, _, vs, _, dd⟩ := dk_rd I.hok e
    exact dd.typeIs
  · obtain ⟨_, _, xs, _, dd⟩ := dt_rd I.hok e
    exact dd.typeIs
section
variable {X : Cx} {o i e value : Expr} {pos pos' tpos : Pos} {td ty tv : TE}
end
theorem dk_empty {P : Program} {w : World} {H : Hp} (h : Heap) (hb : sysModules < h.objs.size) : ObjOk P w H (h.push { cls := .type "dict", data := .dict #[] }) h.objs.size (.dK []) :=
  ⟨Nat.zero_le _, beq_eq_false_iff_ne.mpr (Ne.symm (Nat.ne_of_lt hb)), [], .nil, Heap.DictOf.new h⟩
def tDNewK : TE := fun _ H Q => ∀ p, H p = none → Q (.ref p) (upd H p (.dK []))
section
variable {X : Cx} {pos : Pos}
theorem pe_dnewK : PE X (.Dict [] [] pos) tDNewK := fun pins s σ H Q I h =>
  wpAny_Dict_empty ⟨.ref s.heap.objs.size, _, I.laid (a := s.heap.objs.size) (o := .dK []) (t' := s.toks) (fun _ _ q => Heap.get?_push_of_some _ q) (Nat.le_refl _) (dk_empty s.heap I.big), rfl, h _ (I.hok.fresh (Nat.le_refl _))⟩
end
section
variable {X : Cx} {pins : List (Addr × Obj)} {σ : St} {H : Hp} {s : Shared} {a : Addr} {y d : V} {u r : Value} {o : Option V} {A : Around} {E : Value → Shared → Prop}
end
section
variable {X : Cx} {o e f : Expr} {apos cpos : Pos} {td ty tx : TE}
end
section
variable {X : Cx} {pins : List (Addr × Obj)} {σ : St} {H : Hp} {s : Shared} {a : Addr} {kvs : List (Key × V)} {A : Around} {E : Value → Shared → Prop}
end
section
variable {X : Cx} {pins : List (Addr × Obj)} {σ : St} {H : Hp} {s : Shared} {a : Addr} {y : V} {u : Value} {A : Around} {E : Value → Shared → Prop}
namespace L2
open PySem PySem.Spec PyProof.Rows
section
variable {X : Cx}
end
section
variable {κ : Type} [DecidableEq κ]
end
end L2
end
end L2
namespace L2
open PySem PySem.Spec PyProof.Rows
section
variable {X : Cx}
end
section
variable {X : Cx} {elts : List Expr} {kk : Nat} {tpos : Pos}
end
theorem pick_rev (its : List Value) : (List.range its.length).filterMap (fun k => its[its.length - 1 - k]?) = its.reverse := by
  have h : (List.range its.length).map (fun k => its[its.length - 1 - k]?) = its.reverse.map some := by
    refine List.ext_getElem (by simp) fun i h1 h2 => ?_
    rw [List.length_map, List.length_range] at h1
    rw [List.getElem_map, List.getElem_range, List.getElem_map, List.getElem_reverse, List.getElem?_eq_getElem (by omega)]
  have e : (List.range its.length).filterMap (fun k => its[its.length - 1 - k]?) = ((List.range its.length).map (fun k => its[its.length - 1 - k]?)).filterMap id := by
    rw [List.filterMap_map]; rfl
  rw [e, h, List.filterMap_map]
  exact List.filterMap_some
theorem filterMap_same {α β : Type} {f g : α → Option β} : ∀ {l : List α}, (∀ a ∈ l, f a = g a) → l.filterMap f = l.filterMap g
  | [], _ => rfl
  | a :: l, h => by rw [List.filterMap_cons, List.filterMap_cons, h a List.mem_cons_self, filterMap_same fun b hb => h b (List.mem_cons_of_mem _ hb)]
theorem vals_rev : ∀ {xs : List V} {us : List Value}, Vals xs us → Vals xs.reverse us.reverse
  | _, _, .nil => .nil
  | x :: xs, u :: us, .cons r t => by rw [List.reverse_cons, List.reverse_cons]; exact (vals_rev t).append (.cons r .nil)
theorem slicePick_rev (its : List Value) : slicePick its.toArray none none (some (-1)) = its.reverse.toArray := by
  unfold slicePick
  have hb : sliceBounds none none (some (-1)) its.toArray.size = ((its.length : Int) - 1, -1, -1) := by
    simp [sliceBounds]
  rw [hb]
  congr 1
  unfold sliceRange
  simp only
  rw [List.filterMap_map, ← pick_rev its]
  have hc : (if (-1 : Int) > 0 then (if (its.length : Int) - 1 < -1 then (-1 - ((its.length : Int) - 1) + -1 - 1) / -1 else 0) else if (its.length : Int) - 1 > -1 then ((its.length : Int) - 1 - -1 - -1 - 1) / - -1 else 0) = (its.length : Int) := by
    rw [if_neg (by decide)]
    split
    · rw [show (- -1 : Int) = 1 by decide, Int.ediv_one]; omega
    · omega
  rw [hc, Int.toNat_natCast]
  refine filterMap_same fun k hk => ?_
  have hk := List.mem_range.mp hk
  show its.toArray[((its.length : Int) - 1 + -1 * (k : Int)).toNat]? = its[its.length - 1 - k]?
  rw [show ((its.length : Int) - 1 + -1 * (k : Int)).toNat = its.length - 1 - k by omega]
  simp
section
variable {X : Cx} {e st : Expr} {te : TE} {ts : TO} {pos p2 : Pos}
def tRev (K : PySem.W.Frag) (te : TE) (ts : TO) : TE := fun σ H Q => te σ H fun x H1 => ts σ H1 fun o H2 => o = some (-1) ∧ match x with
  | .ref a => ∃ xs, SqL K H2 a xs ∧ ∀ p, H2 p = none → Q (.ref p) (upd H2 p (.lst xs.reverse))
  | _ => False
theorem pe_rev (he : PE X e te) (hs : PO X (some st) ts) : PE X (.Subscript e (.Slice none none (some st) p2) pos) (tRev X.K te ts) := by
  intro pins s σ H Q I h
  refine Subscript_ (thn (he pins s σ H _ I h) fun v s1 ⟨x, H1, I1, r1, q1⟩ => ?_)
  have pn : ∀ (s : Shared) (Q' : Value → Shared → Prop), Q' .none s → wpAny (model X.prog X.w) X.A (evalPart none X.env) Q' X.xe s := fun s Q' q => by rw [evalPart_none]; exact wpAny_pure q
  refine wpAny_Slice (pn _ _ (pn _ _ ?_))
  refine thn (hs pins s1 σ H1 _ I1 q1) fun vst s3 ⟨o, H3, I3, po, eo, q3⟩ => ?_
  subst eo
  cases x with
  | ref a =>
    obtain ⟨xs, hx, q⟩ := q3
    cases r1
    have I4 : Inv X pins σ H3 { s3 with heap := s3.heap.push { cls := .type "slice", data := .fields #[.none, .none, vst] } } := I3.kept (t' := s3.toks) fun b ob q => Heap.get?_push_of_some _ q
    obtain ⟨its, r, ht, hz⟩ := I4.list hx
    have hlen := r.length
    show wpAny (model X.prog X.w) X.A (subscriptTail e (.Slice none none (some st) p2) (.ref a) (.ref s3.heap.objs.size)) (EP X pins σ Q) X.xe { s3 with heap := s3.heap.push { cls := .type "slice", data := .fields #[.none, .none, vst] } }
    refine tail_any (ops := [.ref a, .ref s3.heap.objs.size]) ht.isList.typeIs slot_list_getitem.lookup ?_ (by with_unfolding_all rfl)
    refine wpAny_getItem_list_slice ht.isList (Heap.IsSliceOf.new ..) .none .none po (by simp) ?_ (by rw [List.size_toArray] <;> omega)
    rw [slicePick_rev]
    refine ⟨.ref _, _, I4.laid (t' := s3.toks) (o := .lst xs.reverse) (fun b ob q => Heap.get?_push_of_some _ q) (Nat.le_refl _) ?_, rfl, q _ (I4.hok.fresh (Nat.le_refl _))⟩
    refine ⟨by rw [List.length_reverse]; exact hz, its.reverse, 0, ?_, Heap.get?_push_size _ rfl⟩
    exact vals_rev r
  | _ => exact q3.elim
end
end L2
namespace L2
open PySem PySem.Spec PyProof.Rows
def keyV : V → Option Key
  | .int i => some (.inl i)
  | .str z => some (.inr z)
  | _ => none
theorem keyV_eq {y : V} {k : Key} (h : keyV y = some k) : y = kV k := by
  cases y <;> first | (cases h; rfl) | cases h
def atD (x y : V) (H : Hp) (R : Addr → List (Key × V) → Key → Prop) : Prop := match x with
  | .ref a => (match keyV y with | some k => ∃ kvs, H a = some (.dK kvs) ∧ R a kvs k | none => False)
  | _ => False
theorem atD_of {x y : V} {H : Hp} {R : Addr → List (Key × V) → Key → Prop} (h : atD x y H R) : ∃ a kvs k, x = .ref a ∧ y = kV k ∧ H a = some (.dK kvs) ∧ R a kvs k := by
  unfold atD at h
  cases x with
  | ref a =>
    cases e : keyV y with
    | none => rw [e] at h; exact h.elim
    | some k =>
      rw [e] at h
      obtain ⟨kvs, h1, h2⟩ := h
      exact ⟨a, kvs, k, rfl, keyV_eq e, h1, h2⟩
  | _ => exact h.elim
def mDGet (td ty : TE) : TE := fun σ H Q => td σ H fun x H1 => ty σ H1 fun y H2 => atD x y H2 fun _ kvs k => ∃ v, valV kvs k = some v ∧ Q v H2
def mDIn (neg : Bool) (ty td : TE) : TE := fun σ H Q => ty σ H fun y H1 => td σ H1 fun x H2 => atD x y H2 fun _ kvs k => Q (.bl (if neg then !(valV kvs k).isSome else (valV kvs k).isSome)) H2
def mDPut (td ty tv : TE) : TS := fun D σ H => tv σ H fun v H1 => td σ H1 fun x H2 => ty σ H2 fun y H3 => atD x y H3 fun a kvs k => kvs.length < sizeLine ∧ D.nx σ (upd H3 a (.dK (putK kvs k v)))
section
variable {X : Cx} {o i e value : Expr} {pos pos' tpos : Pos} {td ty tv : TE}
theorem pe_dgetM (hu : X.A.units + 60 < cLine) (ho : PE X o td) (hi : PE X i ty) (hs : NoSl i := by exact fun _ _ => rfl) : PE X (.Subscript o i pos) (mDGet td ty) := by
  intro pins s σ H Q I h
  refine subD_of PySem.F.slot_dict_getitem.lookup hs (thn (ho pins s σ H _ I h) fun u s1 ⟨x, H1, I1, rx, q1⟩ => thn (hi pins s1 σ H1 _ I1 q1) fun iv s2 ⟨y, H2, I2, ry, q2⟩ => ?_)
  obtain ⟨a, kvs, k, rfl, rfl, hd, v, hv, q⟩ := atD_of q2
  obtain rfl : u = Value.ref a := rx
  have g : DGet H2 a (kV k) (some v) := by rw [← hv]; exact DGet.k hd
  exact ⟨dict_typeIs I2 g, d_getItem (by omega) I2 g ry fun w' s3 I3 rw' => ⟨v, H2, I3, rw', q⟩⟩
theorem pc_dinM (hu : X.A.units + 60 < cLine) (hi : PE X i ty) (ho : PE X o td) : PC X .In i o (mDIn false ty td) := by
  intro pins s σ H Q I h
  refine thn (hi pins s σ H _ I h) fun iv s1 ⟨y, H1, I1, ry, q1⟩ => thn (ho pins s1 σ H1 _ I1 q1) fun u s2 ⟨x, H2, I2, rx, q2⟩ => ?_
  obtain ⟨a, kvs, k, rfl, rfl, hd, q⟩ := atD_of q2
  obtain rfl : u = Value.ref a := rx
  exact d_in (by omega) I2 (DGet.k (k := k) hd) ry fun s3 I3 => ⟨.bl (valV kvs k).isSome, H2, I3, rfl, q⟩
theorem ps_dputM (hu : X.A.units + 60 < cLine) (ho : PE X o td) (hi : PE X i ty) (hv : PE X value tv) (hs : swapsWith value (some (.Subscript o i pos')) pos.line X.env = pure false := by rfl) :
    PS X (.Assign [.Subscript o i pos'] value pos) (mDPut td ty tv) := by
  intro pins s σ H D I h
  refine wpAny_Assign_Subscript (thn (hv pins s σ H _ I h) fun r s1 ⟨v, H1, I1, rv, q1⟩ => thn (ho pins s1 σ H1 _ I1 q1) fun u s2 ⟨x, H2, I2, rx, q2⟩ => thn (hi pins s2 σ H2 _ I2 q2) fun iv s3 ⟨y, H3, I3, ry, q3⟩ => ?_) hs
  obtain ⟨a, kvs, k, rfl, rfl, hd, hl, q⟩ := atD_of q3
  obtain rfl : u = Value.ref a := rx
  exact d_setItem (by omega) I3 (DPut.k hd hl) ry rv fun s4 I4 => ⟨σ, _, I4, q⟩
end
section
variable {X : Cx} {o e f : Expr} {apos cpos : Pos} {td ty tx' : TE}
end
section
variable {X : Cx} {o i : Expr} {pos : Pos} {td ty : TE}
theorem pt_cmpMt {op : CmpOp} {a b : Expr} {t : TE} (h : PC X op a b t) (h1 : behindInMarks op b = false) : PT X (.Compare a [op] [b] pos) (mTest t) := by
  intro pins s σ H Q I hw
  refine wpAny_isTrue_Compare1 (thn (h pins s σ H _ I hw) fun v s1 q => thn q fun u s2 q => thn q fun c s3 ⟨x, H1, I1, r, q⟩ => ?_) h1
  cases x with
  | bl k => cases r; exact wpAny_truthy_bool ⟨H1, I1, q⟩
  | _ => exact q.elim
theorem pt_dinM (hu : X.A.units + 60 < cLine) (hi : PE X i ty) (ho : PE X o td) (h1 : behindInMarks .In o = false := by rfl) : PT X (.Compare i [.In] [o] pos) (mTest (mDIn false ty td)) := pt_cmpMt (pc_dinM hu hi ho) h1
end
end L2
namespace L2
open PySem PySem.Spec PyProof.Rows
inductive Mo (α : Type) where
  | ok (a : α) | ex (c : String) | no
namespace Mo
variable {α β γ : Type}
def bind (x : Mo α) (f : α → Mo β) : Mo β := match x with | .ok a => f a | .ex c => .ex c | .no => .no
theorem ok_bind (a : α) (f : α → Mo β) : (Mo.ok a).bind f = f a := rfl
def noex (x : Mo α) : Mo α := match x with | .ok a => .ok a | _ => .no
def lim (n : Nat) (k : Mo α) : Mo α := if n ≤ sizeLine then k else .no
theorem lim_ok {n : Nat} {k : Mo α} (h : n ≤ 100000) : lim n k = k := if_pos (small_n h)
def grd (p : Prop) [Decidable p] (k : Mo α) : Mo α := if p then k else .no
theorem grd_ok {p : Prop} [Decidable p] {k : Mo α} (h : p) : grd p k = k := if_pos h
def opt (x : Option α) : Mo α := match x with | some a => .ok a | none => .no
end Mo
def un (F h : Hp) : Hp := fun p => match F p with | some o => some o | none => h p
def Dj (F h : Hp) : Prop := ∀ p, F p = none ∨ h p = none
def Jn (h1 h2 h : Hp) : Prop := ∀ p, (h1 p = none ∧ h p = h2 p) ∨ (h2 p = none ∧ h p = h1 p)
def Ext (F H F' H' : Hp) : Prop := Same F F' ∧ Same F' H' ∧ Same H H' ∧ ∀ p, F p = none → F' p ≠ none → H p = none
theorem Ext.refl {F H : Hp} (h : Same F H) : Ext F H F H := ⟨Same.refl _, h, Same.refl _, fun p a b => absurd a b⟩
theorem Ext.trans {F H F1 H1 F2 H2 : Hp} (a : Ext F H F1 H1) (b : Ext F1 H1 F2 H2) : Ext F H F2 H2 := by
  obtain ⟨a1, a2, a3, a4⟩ := a
  obtain ⟨b1, b2, b3, b4⟩ := b
  refine ⟨a1.trans b1, b2, a3.trans b3, fun p hp hq => ?_⟩
  cases e : F1 p with
  | none => exact a3.free (b4 p e hq)
  | some o => exact a4 p hp (by rw [e]; exact Option.some_ne_none _)
theorem Ext.heap {F H H' : Hp} (h : Same F H) (g : Same H H') : Ext F H F H' := ⟨Same.refl _, h.trans g, g, fun p a b => absurd a b⟩
theorem Ext.new {F H : Hp} (h : Same F H) {p : Addr} {o : HO} (hp : H p = none) : Ext F H (upd F p o) (upd H p o) := by
  refine ⟨same_new (h.free hp) _, fun b u e => ?_, same_new hp _, fun q a b => ?_⟩
  · unfold upd at e ⊢
    split
    · rename_i z; rw [if_pos z] at e; exact e
    · rename_i z; rw [if_neg z] at e; exact h _ _ e
  · unfold upd at b
    split at b
    · rename_i z; rw [z]; exact hp
    · exact absurd a b
structure Ty (α : Type) where
  R : α → V → Hp → Prop
  mono : ∀ {a v H H'}, Same H H' → R a v H → R a v H'
def Tups (H H' : Hp) : Prop := ∀ p xs, H p = some (.tup xs) → H' p = some (.tup xs)
theorem Same.tups {H H' : Hp} (h : Same H H') : Tups H H' := fun p xs e => h _ _ e
def Imm {α : Type} (T : Ty α) : Prop := ∀ {a v H H'}, Tups H H' → T.R a v H → T.R a v H'
abbrev tyInt : Ty Int := ⟨fun a v _ => v = .int a, fun _ h => h⟩
abbrev tyStr : Ty (List Nat) := ⟨fun a v _ => v = tx a, fun _ h => h⟩
abbrev tyBl : Ty Bool := ⟨fun a v _ => v = .bl a, fun _ h => h⟩
theorem imm_int : Imm tyInt := fun _ h => h
theorem imm_str : Imm tyStr := fun _ h => h
theorem imm_bl : Imm tyBl := fun _ h => h
abbrev tyOpt {α : Type} (T : Ty α) : Ty (Option α) := ⟨fun a v H => match a with | none => v = .non | some x => T.R x v H ∧ v ≠ .non, fun {a v H H'} g h => by cases a with | none => exact h | some x => exact ⟨T.mono g h.1, h.2⟩⟩
theorem imm_opt {α : Type} {T : Ty α} (i : Imm T) : Imm (tyOpt T) := fun {a v H H'} g h => by cases a with | none => exact h | some x => exact ⟨i g h.1, h.2⟩
structure Cs (γ : Type) where
  R : γ → List V → Hp → Prop
  mono : ∀ {c vs H H'}, Same H H' → R c vs H → R c vs H'
def ImmC {γ : Type} (C : Cs γ) : Prop := ∀ {c vs H H'}, Tups H H' → C.R c vs H → C.R c vs H'
abbrev csLast {α : Type} (T : Ty α) : Cs α := ⟨fun a vs H => ∃ v, vs = [v] ∧ T.R a v H, fun g ⟨v, e, h⟩ => ⟨v, e, T.mono g h⟩⟩
abbrev csCons {α γ : Type} (T : Ty α) (C : Cs γ) : Cs (α × γ) := ⟨fun a vs H => ∃ v us, vs = v :: us ∧ T.R a.1 v H ∧ C.R a.2 us H, fun g ⟨v, us, e, h, q⟩ => ⟨v, us, e, T.mono g h, C.mono g q⟩⟩
theorem immc_last {α : Type} {T : Ty α} (i : Imm T) : ImmC (csLast T) := fun g ⟨v, e, h⟩ => ⟨v, e, i g h⟩
theorem immc_cons {α γ : Type} {T : Ty α} {C : Cs γ} (i : Imm T) (j : ImmC C) : ImmC (csCons T C) := fun g ⟨v, us, e, h, q⟩ => ⟨v, us, e, i g h, j g q⟩
abbrev tyTup {γ : Type} (C : Cs γ) : Ty γ := ⟨fun c v H => ∃ p us, v = .ref p ∧ H p = some (.tup us) ∧ C.R c us H, fun g ⟨p, us, e, h, q⟩ => ⟨p, us, e, g _ _ h, C.mono g q⟩⟩
theorem imm_tup {γ : Type} {C : Cs γ} (i : ImmC C) : Imm (tyTup C) := fun g ⟨p, us, e, h, q⟩ => ⟨p, us, e, g _ _ h, i g q⟩
abbrev Prs {α : Type} (T : Ty α) (H : Hp) (xs : List α) (vs : List V) : Prop := Paired (fun x v => T.R x v H) xs vs
theorem paired_imp {α β : Type} {R R' : α → β → Prop} (h : ∀ a b, R a b → R' a b) : ∀ {xs : List α} {ys : List β}, Paired R xs ys → Paired R' xs ys
  | _, _, .nil => .nil
  | _, _, .cons a t => .cons (h _ _ a) (paired_imp h t)
theorem Prs.mono {α : Type} {T : Ty α} {H H' : Hp} {xs : List α} {vs : List V} (g : Same H H') (h : Prs T H xs vs) : Prs T H' xs vs := paired_imp (fun _ _ r => T.mono g r) h
theorem Prs.imm {α : Type} {T : Ty α} (i : Imm T) {H H' : Hp} {xs : List α} {vs : List V} (g : Tups H H') (h : Prs T H xs vs) : Prs T H' xs vs := paired_imp (fun _ _ r => i g r) h
abbrev tyL {α : Type} (T : Ty α) : Ty (List α) := ⟨fun xs v H => ∃ p vs, v = .ref p ∧ H p = some (.lst vs) ∧ Prs T H xs vs, fun g ⟨p, vs, e, h, q⟩ => ⟨p, vs, e, g _ _ h, q.mono g⟩⟩
abbrev tySc (K : PySem.W.Frag) : Ty (List Int) := ⟨fun xs v H => ∃ p, v = .ref p ∧ SqL K H p (xs.map V.int), fun g ⟨p, e, h⟩ => ⟨p, e, g.seq h⟩⟩
structure Own (α : Type) where
  O : α → V → Hp → Hp → Prop
  fr : Ty α
  mono : ∀ {a v F F' h}, Same F F' → O a v F h → O a v F' h
  frz : ∀ {a v F h}, Dj F h → O a v F h → fr.R a v (un F h)
  notup : ∀ {a v F h}, O a v F h → ∀ p xs, h p ≠ some (.tup xs)
def ImmO {α : Type} (O : Own α) : Prop := ∀ {a v F F' h}, Tups F F' → O.O a v F h → O.O a v F' h
theorem un_same {F h : Hp} : Same F (un F h) := fun p o e => by unfold un; rw [e]
theorem un_own {F h : Hp} (d : Dj F h) : Same h (un F h) := fun p o e => by
  unfold un
  rcases d p with z | z
  · rw [z]; exact e
  · rw [z] at e; cases e
abbrev owF {α : Type} (T : Ty α) : Own α := ⟨fun a v F h => (∀ p, h p = none) ∧ T.R a v F, T, fun g ⟨e, h⟩ => ⟨e, T.mono g h⟩, fun _ ⟨_, h⟩ => T.mono un_same h, fun ⟨e, _⟩ p xs z => by rw [e] at z; cases z⟩
theorem immo_f {α : Type} {T : Ty α} (i : Imm T) : ImmO (owF T) := fun g ⟨e, h⟩ => ⟨e, i g h⟩
def one (p : Addr) (o : HO) : Hp := fun q => if q = p then some o else none
theorem one_same {p : Addr} {o : HO} : one p o p = some o := if_pos rfl
abbrev owL {α : Type} (T : Ty α) : Own (List α) := ⟨fun xs v F h => ∃ p vs, v = .ref p ∧ h = one p (.lst vs) ∧ Prs T F xs vs, tyL T, fun g ⟨p, vs, e, z, q⟩ => ⟨p, vs, e, z, q.mono g⟩,
  fun d ⟨p, vs, e, z, q⟩ => ⟨p, vs, e, un_own d _ _ (by rw [z]; exact one_same), q.mono un_same⟩,
  fun ⟨p, vs, e, z, q⟩ b xs y => by rw [z] at y; unfold one at y; split at y <;> cases y⟩
theorem immo_l {α : Type} {T : Ty α} (i : Imm T) : ImmO (owL T) := fun g ⟨p, vs, e, z, q⟩ => ⟨p, vs, e, z, q.imm i g⟩
inductive Sl : Type 1 where
  | dead
  | fz {α : Type} (T : Ty α) (a : α)
  | ow {α : Type} (O : Own α) (a : α)
def Sl.P : Sl → Option V → Hp → Hp → Prop
  | .dead, _, _, _ => True
  | .fz T a, o, F, _ => ∃ v, o = some v ∧ T.R a v F
  | .ow O a, o, F, h => ∃ v, o = some v ∧ O.O a v F h
def Sl.Z : Sl → Option V → Hp → Prop
  | .dead, _, _ => True
  | .fz T a, o, F => ∃ v, o = some v ∧ T.R a v F
  | .ow O a, o, F => ∃ v, o = some v ∧ O.fr.R a v F
def Sl.cold : Sl → Sl
  | .ow _ _ => .dead
  | s => s
def Hold : List Sl → St → Hp → Hp → Prop
  | [], [], _, _ => True
  | s :: L, o :: σ, F, h => ∃ h1 h2, Jn h1 h2 h ∧ s.P o F h1 ∧ Hold L σ F h2
  | _, _, _, _ => False
def HoldF (L : List Sl) (σ : St) (F : Hp) : Prop := ∀ (i : Nat) (s : Sl), L[i]? = some s → s.Z (σ[i]?.join) F
theorem Sl.P.mono {s : Sl} {o : Option V} {F F' h : Hp} (g : Same F F') (q : s.P o F h) : s.P o F' h := by
  cases s with
  | dead => exact q
  | fz T a => obtain ⟨v, e, r⟩ := q; exact ⟨v, e, T.mono g r⟩
  | ow O a => obtain ⟨v, e, r⟩ := q; exact ⟨v, e, O.mono g r⟩
theorem Sl.Z.mono {s : Sl} {o : Option V} {F F' : Hp} (g : Same F F') (q : s.Z o F) : s.Z o F' := by
  cases s with
  | dead => exact q
  | fz T a => obtain ⟨v, e, r⟩ := q; exact ⟨v, e, T.mono g r⟩
  | ow O a => obtain ⟨v, e, r⟩ := q; exact ⟨v, e, O.fr.mono g r⟩
theorem HoldF.mono {L : List Sl} {σ : St} {F F' : Hp} (g : Same F F') (q : HoldF L σ F) : HoldF L σ F' := fun i s e => (q i s e).mono g
theorem Hold.mono : ∀ {L : List Sl} {σ : St} {F F' h : Hp}, Same F F' → Hold L σ F h → Hold L σ F' h
  | [], [], _, _, _, _, q => q
  | s :: L, o :: σ, F, F', h, g, ⟨h1, h2, j, p, r⟩ => ⟨h1, h2, j, p.mono g, r.mono g⟩
  | [], _ :: _, _, _, _, _, q => q.elim
  | _ :: _, [], _, _, _, _, q => q.elim
theorem Hold.len : ∀ {L : List Sl} {σ : St} {F h : Hp}, Hold L σ F h → L.length = σ.length
  | [], [], _, _, _ => rfl
  | s :: L, o :: σ, F, h, ⟨h1, h2, j, p, r⟩ => by rw [List.length_cons, List.length_cons, r.len]
  | [], _ :: _, _, _, q => q.elim
  | _ :: _, [], _, _, q => q.elim
theorem Jn.l {h1 h2 h : Hp} (j : Jn h1 h2 h) : Same h1 h := fun p o e => by
  rcases j p with ⟨a, b⟩ | ⟨a, b⟩
  · rw [a] at e; cases e
  · rw [b]; exact e
theorem Jn.r {h1 h2 h : Hp} (j : Jn h1 h2 h) : Same h2 h := fun p o e => by
  rcases j p with ⟨a, b⟩ | ⟨a, b⟩
  · rw [b]; exact e
  · rw [a] at e; cases e
theorem Jn.dj {h1 h2 h : Hp} (j : Jn h1 h2 h) : Dj h1 h2 := fun p => by
  rcases j p with ⟨a, b⟩ | ⟨a, b⟩
  · exact .inl a
  · exact .inr a
theorem jn_of {h1 h2 : Hp} (d : Dj h1 h2) : Jn h1 h2 (un h1 h2) := fun p => by
  unfold un
  rcases d p with a | a
  · rw [a]; exact .inl ⟨rfl, rfl⟩
  · refine .inr ⟨a, ?_⟩
    cases h1 p with
    | none => exact a
    | some o => rfl
theorem Hold.at : ∀ {L : List Sl} {σ : St} {F h : Hp} (i : Nat) {s : Sl}, Hold L σ F h → L[i]? = some s →
    ∃ o h1 h2, σ[i]? = some o ∧ Jn h1 h2 h ∧ s.P o F h1 ∧ ∀ s' o' h1' h', Jn h1' h2 h' → s'.P o' F h1' → Hold (L.set i s') (σ.set i o') F h'
  | [], _, _, _, _, _, _, e => by cases e
  | s :: L, [], _, _, _, _, q, _ => q.elim
  | s :: L, o :: σ, F, h, 0, t, ⟨h1, h2, j, p, r⟩, e => by
    cases e
    exact ⟨o, h1, h2, rfl, j, p, fun s' o' h1' h' j' p' => ⟨h1', h2, j', p', r⟩⟩
  | s :: L, o :: σ, F, h, i + 1, t, ⟨h1, h2, j, p, r⟩, e => by
    obtain ⟨o1, k1, k2, e1, j1, p1, f⟩ := Hold.at i r (by simpa using e)
    have d1 : Dj h1 k1 := fun p => by
      rcases j.dj p with a | a
      · exact .inl a
      · exact .inr (j1.l.free a)
    have d2 : Dj h1 k2 := fun p => by
      rcases j.dj p with a | a
      · exact .inl a
      · exact .inr (j1.r.free a)
    refine ⟨o1, k1, un h1 k2, by simpa using e1, fun p => ?_, p1, fun s' o' k1' h' j' p' => ?_⟩
    · rcases j p with ⟨a, b⟩ | ⟨a, b⟩
      · rcases j1 p with ⟨c, d⟩ | ⟨c, d⟩
        · refine .inl ⟨c, ?_⟩; unfold un; rw [a, b, d]
        · refine .inr ⟨?_, by rw [b, d]⟩; unfold un; rw [a, c]
      · refine .inl ⟨j1.l.free a, ?_⟩
        have : k2 p = none := j1.r.free a
        unfold un; rw [b]
        cases h1 p with
        | none => rw [this]
        | some u => rfl
    · have dd : Dj k1' k2 := fun p => by
        rcases j' p with ⟨a, b⟩ | ⟨a, b⟩
        · exact .inl a
        · right; unfold un at a
          cases z : h1 p with
          | none => rw [z] at a; exact a
          | some u => rw [z] at a; cases a
      refine ⟨h1, un k1' k2, fun p => ?_, p, f s' o' k1' _ (jn_of dd) p'⟩
      rcases j' p with ⟨a, b⟩ | ⟨a, b⟩
      · unfold un at b ⊢
        cases z : h1 p with
        | none => rw [z] at b; exact .inl ⟨rfl, by rw [b, a]⟩
        | some u =>
          rw [z] at b
          refine .inr ⟨?_, b⟩
          rw [a]
          rcases d2 p with y | y
          · rw [y] at z; cases z
          · exact y
      · unfold un at a
        cases z : h1 p with
        | some u => rw [z] at a; cases a
        | none =>
          rw [z] at a
          refine .inl ⟨rfl, ?_⟩
          unfold un; rw [b]
          cases k1' p with
          | none => exact a.symm
          | some u => rfl
theorem Hold.froz {L : List Sl} {σ : St} {F h : Hp} (d : Dj F h) (q : Hold L σ F h) : HoldF L σ (un F h) := by
  intro i s e
  obtain ⟨o, h1, h2, e1, j, p, _⟩ := q.at i e
  rw [e1]
  have d1 : Dj F h1 := fun p => by
    rcases d p with a | a
    · exact .inl a
    · exact .inr (j.l.free a)
  cases s with
  | dead => trivial
  | fz T a => obtain ⟨v, e2, r⟩ := p; exact ⟨v, e2, T.mono un_same r⟩
  | ow O a =>
    obtain ⟨v, e2, r⟩ := p
    refine ⟨v, e2, O.fr.mono (fun p u z => ?_) (O.frz d1 r)⟩
    unfold un at z ⊢
    cases y : F p with
    | some w => rw [y] at z; exact z
    | none => rw [y] at z; exact j.l _ _ z
theorem Hold.coldF {L : List Sl} {σ : St} {F h : Hp} (q : Hold L σ F h) : HoldF (L.map Sl.cold) σ F := by
  intro i s e
  rw [List.getElem?_map] at e
  cases e1 : L[i]? with
  | none => rw [e1] at e; cases e
  | some t =>
    rw [e1] at e
    cases e
    obtain ⟨o, h1, h2, e2, j, p, _⟩ := q.at i e1
    rw [e2]
    cases t with
    | dead => trivial
    | fz T a => obtain ⟨v, e2, r⟩ := p; exact ⟨v, e2, r⟩
    | ow O a => trivial
end L2
namespace L2
open PySem PySem.Spec PyProof.Rows
def After {α : Type} (K : PySem.W.Frag) (r : Mo α) (E : XK) (F H : Hp) (k : α → Hp → Hp → Prop) : Prop := match r with
  | .ok a => ∀ F' H', Ext F H F' H' → k a F' H'
  | .ex c => ∀ F' H', Ext F H F' H' → E (.ref (gA K c)) none H'
  | .no => False
section
variable {K : PySem.W.Frag} {E : XK} {α β γ ρ : Type} {F H : Hp}
theorem After.bind {r : Mo α} {f : α → Mo β} {k : β → Hp → Hp → Prop} (h : After K (r.bind f) E F H k) : After K r E F H fun a F1 H1 => After K (f a) E F1 H1 k := by
  cases r with
  | ok a =>
    intro F1 H1 x
    have h' : After K (f a) E F H k := h
    cases e : f a with
    | ok b => rw [e] at h'; exact fun F2 H2 y => h' F2 H2 (x.trans y)
    | ex c => rw [e] at h'; exact fun F2 H2 y => h' F2 H2 (x.trans y)
    | no => rw [e] at h'; exact h'
  | ex c => exact h
  | no => exact h
theorem After.imp {r : Mo α} {k k' : α → Hp → Hp → Prop} (h : After K r E F H k) (g : ∀ a F' H', Ext F H F' H' → k a F' H' → k' a F' H') : After K r E F H k' := by
  cases r with
  | ok a => exact fun F' H' x => g a F' H' x (h F' H' x)
  | ex c => exact h
  | no => exact h
theorem After.ok {a : α} {k : α → Hp → Hp → Prop} (hs : Same F H) (h : After K (.ok a) E F H k) : k a F H := h F H (.refl hs)
theorem After.noex {r : Mo α} {k : α → Hp → Hp → Prop} (h : After K r.noex E F H k) : After K r E0 F H k := by
  cases r with
  | ok a => exact h
  | ex c => exact h.elim
  | no => exact h
theorem After.lim {n : Nat} {r : Mo α} {k : α → Hp → Hp → Prop} (h : After K (Mo.lim n r) E F H k) : n ≤ sizeLine ∧ After K r E F H k := by
  unfold Mo.lim at h
  split at h
  · exact ⟨by assumption, h⟩
  · exact h.elim
theorem After.grd {p : Prop} [Decidable p] {r : Mo α} {k : α → Hp → Hp → Prop} (h : After K (Mo.grd p r) E F H k) : p ∧ After K r E F H k := by
  unfold Mo.grd at h
  split at h
  · exact ⟨by assumption, h⟩
  · exact h.elim
theorem After.opt {x : Option α} {k : α → Hp → Hp → Prop} (h : After K (Mo.opt x) E F H k) : ∃ a, x = some a ∧ After K (.ok a) E F H k := by
  cases x with
  | none => exact h.elim
  | some a => exact ⟨a, rfl, h⟩
def EvF (K : PySem.W.Frag) (e : TE) (E : XK) (L : List Sl) (r : Mo α) (T : Ty α) : Prop :=
  ∀ σ F H (Q : VK), HoldF L σ F → Same F H → After K r E F H (fun a F' H' => ∀ v, T.R a v F' → Q v H') → e σ H Q
def OwnK (O : Own α) (H : Hp) (Q : VK) (a : α) (F' H' : Hp) : Prop := ∀ v h, (∀ p, h p ≠ none → H p = none) → Dj F' h → Same h H' → O.O a v F' h → Q v H'
def EvO (K : PySem.W.Frag) (e : TE) (E : XK) (L : List Sl) (r : Mo α) (O : Own α) : Prop :=
  ∀ σ F H (Q : VK), HoldF L σ F → Same F H → After K r E F H (OwnK O H Q) → e σ H Q
def EvT (K : PySem.W.Frag) (t : TT) (E : XK) (L : List Sl) (r : Mo Bool) : Prop :=
  ∀ σ F H (Q : Bool → Hp → Prop), HoldF L σ F → Same F H → After K r E F H (fun b _ H' => Q b H') → t σ H Q
def EvA (K : PySem.W.Frag) (t : TA) (E : XK) (L : List Sl) (r : Mo γ) (C : Cs γ) : Prop :=
  ∀ σ F H (Q : List V → Hp → Prop), HoldF L σ F → Same F H → After K r E F H (fun c F' H' => ∀ vs, C.R c vs F' → Q vs H') → t σ H Q
variable {L : List Sl} {e e1 e2 : TE} {T : Ty α} {r : Mo α}
theorem EvO.fr {O : Own α} (h : EvO K e E L r O) : EvF K e E L r O.fr := by
  intro σ F H Q hL hs q
  refine h σ F H Q hL hs ?_
  cases r with
  | ok a =>
    intro F' H' x v h' fresh d s o
    refine q (un F' h') H' ⟨x.1.trans un_same, fun p o e => ?_, x.2.2.1, fun p a b => ?_⟩ v (O.frz d o)
    · unfold un at e
      cases z : F' p with
      | some w => rw [z] at e; cases e; exact x.2.1 _ _ z
      | none => rw [z] at e; exact s _ _ e
    · unfold un at b
      cases z : F' p with
      | some w => exact x.2.2.2 p a (by rw [z]; exact Option.some_ne_none _)
      | none => rw [z] at b; exact fresh p b
  | ex c => exact q
  | no => exact q
theorem EvF.ow (h : EvF K e E L r T) : EvO K e E L r (owF T) := by
  intro σ F H Q hL hs q
  refine h σ F H Q hL hs (q.imp fun a F' H' x k v hv => ?_)
  exact k v (fun _ => none) (fun p z => absurd rfl z) (fun p => .inr rfl) (fun p o z => by cases z) ⟨fun _ => rfl, hv⟩
theorem ev_c {v : V} {a : α} (h : ∀ F, T.R a v F) : EvF K (tC v) E L (.ok a) T := fun σ F H Q hL hs q => q.ok hs v (h F)
theorem ev_int (i : Int) : EvF K (tC (.int i)) E L (.ok i) tyInt := ev_c fun _ => rfl
theorem ev_str (l : List Nat) : EvF K (tC (tx l)) E L (.ok l) tyStr := ev_c fun _ => rfl
theorem ev_bl (b : Bool) : EvF K (tC (.bl b)) E L (.ok b) tyBl := ev_c fun _ => rfl
theorem ev_none {β : Type} {T : Ty β} : EvF K (tC .non) E L (.ok (none : Option β)) (tyOpt T) := ev_c fun _ => rfl
theorem ev_some (hn : ∀ a v F, T.R a v F → v ≠ .non) (h : EvF K e E L r T) : EvF K e E L (r.bind fun a => .ok (some a)) (tyOpt T) := by
  intro σ F H Q hL hs q
  exact h σ F H Q hL hs (q.bind.imp fun a F1 H1 x k v hv => k.ok x.2.1 v ⟨hv, hn _ _ _ hv⟩)
theorem ev_var (i : Nat) {a : α} (h : L[i]? = some (.fz T a)) : EvF K (mVar i) E L (.ok a) T := by
  intro σ F H Q hL hs q
  obtain ⟨v, e, r⟩ := hL i _ h
  unfold mVar
  cases z : σ[i]? with
  | none => rw [z] at e; cases e
  | some o =>
    rw [z] at e
    cases (show o = some v from e)
    exact q.ok hs v r
theorem ev_varO (i : Nat) {O : Own α} {a : α} (h : L[i]? = some (.ow O a)) : EvF K (mVar i) E L (.ok a) O.fr := by
  intro σ F H Q hL hs q
  obtain ⟨v, e, r⟩ := hL i _ h
  unfold mVar
  cases z : σ[i]? with
  | none => rw [z] at e; cases e
  | some o =>
    rw [z] at e
    cases (show o = some v from e)
    exact q.ok hs v r
def Op2 (K : PySem.W.Frag) (m : R2) (E : XK) (T1 : Ty α) (T2 : Ty β) (g : α → β → Mo γ) (T : Ty γ) : Prop :=
  ∀ a b x y F H (Q : VK), Same F H → T1.R a x F → T2.R b y F → After K (g a b) E F H (fun c F' H' => ∀ v, T.R c v F' → Q v H') → m x y H Q
def Op2O (K : PySem.W.Frag) (m : R2) (E : XK) (T1 : Ty α) (T2 : Ty β) (g : α → β → Mo γ) (O : Own γ) : Prop :=
  ∀ a b x y F H (Q : VK), Same F H → T1.R a x F → T2.R b y F → After K (g a b) E F H (OwnK O H Q) → m x y H Q
theorem OwnK.back {O : Own α} {H H1 : Hp} {Q : VK} {a : α} {F' H' : Hp} (g : Same H H1) (h : OwnK O H Q a F' H') : OwnK O H1 Q a F' H' :=
  fun v k fresh d s o => h v k (fun p z => g.free (fresh p z)) d s o
theorem ev_op {m : R2} {T1 : Ty α} {T2 : Ty β} {T : Ty γ} {g : α → β → Mo γ} {r1 : Mo α} {r2 : Mo β} (hop : Op2 K m E T1 T2 g T) (h1 : EvF K e1 E L r1 T1) (h2 : EvF K e2 E L r2 T2) :
    EvF K (tOp m e1 e2) E L (r1.bind fun a => r2.bind fun b => g a b) T := by
  intro σ F H Q hL hs q
  refine h1 σ F H _ hL hs (q.bind.imp fun a F1 H1 x1 k1 v1 hv1 => ?_)
  refine h2 σ F1 H1 _ (hL.mono x1.1) x1.2.1 (k1.bind.imp fun b F2 H2 x2 k2 v2 hv2 => ?_)
  exact hop a b v1 v2 F2 H2 Q x2.2.1 (T1.mono x2.1 hv1) hv2 k2
theorem ev_opO {m : R2} {T1 : Ty α} {T2 : Ty β} {O : Own γ} {g : α → β → Mo γ} {r1 : Mo α} {r2 : Mo β} (hop : Op2O K m E T1 T2 g O) (h1 : EvF K e1 E L r1 T1) (h2 : EvF K e2 E L r2 T2) :
    EvO K (tOp m e1 e2) E L (r1.bind fun a => r2.bind fun b => g a b) O := by
  intro σ F H Q hL hs q
  refine h1 σ F H _ hL hs (q.bind.imp fun a F1 H1 x1 k1 v1 hv1 => ?_)
  refine h2 σ F1 H1 _ (hL.mono x1.1) x1.2.1 (k1.bind.imp fun b F2 H2 x2 k2 v2 hv2 => ?_)
  exact hop a b v1 v2 F2 H2 Q x2.2.1 (T1.mono x2.1 hv1) hv2 (k2.imp fun c F3 H3 x3 k3 => k3.back (x1.2.2.1.trans x2.2.2.1))
theorem op_i0 {g : Int → Int → V} {f : Int → Int → α} (h : ∀ i j F, T.R (f i j) (g i j) F) : Op2 K (mI0 g) E tyInt tyInt (fun i j => .ok (f i j)) T := by
  intro a b x y F H Q hs hx hy q
  cases hx; cases hy
  exact q.ok hs _ (h a b F)
theorem op_i {C : Int → Int → Prop} [∀ i j, Decidable (C i j)] {g : Int → Int → V} {f : Int → Int → α} (h : ∀ i j F, T.R (f i j) (g i j) F) : Op2 K (mI C g) E tyInt tyInt (fun i j => .grd (C i j) (.ok (f i j))) T := by
  intro a b x y F H Q hs hx hy q
  cases hx; cases hy
  obtain ⟨c, q⟩ := q.grd
  exact ⟨c, q.ok hs _ (h a b F)⟩
instance (i j : Int) : Decidable (CMul i j) := inferInstanceAs (Decidable (_ ∨ _))
instance (i j : Int) : Decidable (CDiv i j) := inferInstanceAs (Decidable (_ ∧ _))
instance (i j : Int) : Decidable (CPow i j) := inferInstanceAs (Decidable (_ ∧ _ ∧ _))
theorem op_addI : Op2 K mAdd E tyInt tyInt (fun i j => .ok (i + j)) tyInt := by
  intro a b x y F H Q hs hx hy q
  cases hx; cases hy
  exact q.ok hs _ rfl
theorem op_subI : Op2 K mSub E tyInt tyInt (fun i j => .ok (i - j)) tyInt := op_i0 fun _ _ _ => rfl
theorem op_modI : Op2 K mMod E tyInt tyInt (fun i j => .grd (0 < j) (.ok (i % j))) tyInt := op_i (C := fun _ j => 0 < j) fun _ _ _ => rfl
theorem op_powI : Op2 K mPow E tyInt tyInt (fun i j => .grd (CPow i j) (.ok (i ^ j.toNat))) tyInt := op_i fun _ _ _ => rfl
theorem op_leI : Op2 K mLe E tyInt tyInt (fun i j => .ok (decide (i ≤ j))) tyBl := op_i0 fun _ _ _ => rfl
theorem op_gtI : Op2 K mGt E tyInt tyInt (fun i j => .ok (decide (j < i))) tyBl := op_i0 fun _ _ _ => rfl
theorem op_geI : Op2 K mGe E tyInt tyInt (fun i j => .ok (decide (j ≤ i))) tyBl := op_i0 fun _ _ _ => rfl
theorem op_addS : Op2 K mAdd E tyStr tyStr (fun i j => .lim (i.length + j.length) (.ok (i ++ j))) tyStr := by
  intro a b x y F H Q hs hx hy q
  cases hx; cases hy
  obtain ⟨c, q⟩ := q.lim
  exact ⟨c, q.ok hs _ rfl⟩
theorem Prs.append {xs ys : List α} {vs us : List V} (a : Prs T H xs vs) (b : Prs T H ys us) : Prs T H (xs ++ ys) (vs ++ us) := by
  induction a with
  | nil => exact b
  | cons r t ih => exact .cons r ih
theorem Prs.len {xs : List α} {vs : List V} (a : Prs T H xs vs) : xs.length = vs.length := Paired.length a
theorem Prs.get {xs : List α} {vs : List V} (a : Prs T H xs vs) (i : Nat) : (xs[i]? = none ∧ vs[i]? = none) ∨ ∃ x v, xs[i]? = some x ∧ vs[i]? = some v ∧ T.R x v H := by
  induction a generalizing i with
  | nil => exact .inl ⟨rfl, rfl⟩
  | cons r t ih =>
    cases i with
    | zero => exact .inr ⟨_, _, rfl, rfl, r⟩
    | succ i => simpa using ih i
theorem Prs.take {xs : List α} {vs : List V} (a : Prs T H xs vs) (n : Nat) : Prs T H (xs.take n) (vs.take n) := by
  induction a generalizing n with
  | nil => rw [List.take_nil, List.take_nil]; exact .nil
  | cons r t ih =>
    cases n with
    | zero => exact .nil
    | succ n => exact .cons r (ih n)
theorem Prs.drop {xs : List α} {vs : List V} (a : Prs T H xs vs) (n : Nat) : Prs T H (xs.drop n) (vs.drop n) := by
  induction a generalizing n with
  | nil => rw [List.drop_nil, List.drop_nil]; exact .nil
  | cons r t ih =>
    cases n with
    | zero => exact .cons r t
    | succ n => exact ih n
theorem Prs.rev {xs : List α} {vs : List V} (a : Prs T H xs vs) : Prs T H xs.reverse vs.reverse := by
  induction a with
  | nil => exact .nil
  | cons r t ih => rw [List.reverse_cons, List.reverse_cons]; exact Prs.append ih (.cons r .nil)
theorem Prs.set {xs : List α} {vs : List V} (a : Prs T H xs vs) (i : Nat) {x : α} {v : V} (q : T.R x v H) : Prs T H (xs.set i x) (vs.set i v) := by
  induction a generalizing i with
  | nil => exact .nil
  | cons r t ih =>
    cases i with
    | zero => exact .cons q t
    | succ i => exact .cons r (ih i)
theorem own_new {vs : List V} {xs : List α} {p : Addr} {F' H' : Hp} {Q : VK} (hp : H p = none) (h2 : H' p = some (.lst vs)) (hf : F' p = none) (hr : Prs T F' xs vs) (q : OwnK (owL T) H Q xs F' H') : Q (.ref p) H' := by
  refine q (.ref p) (one p (.lst vs)) (fun b z => ?_) (fun b => ?_) (fun b o z => ?_) ⟨p, vs, rfl, rfl, hr⟩
  · unfold one at z; split at z
    · rename_i e; rw [e]; exact hp
    · exact absurd rfl z
  · unfold one; split
    · rename_i e; rw [e]; exact .inl hf
    · exact .inr rfl
  · unfold one at z; split at z
    · rename_i e; rw [e]; cases z; exact h2
    · cases z
theorem own_upd {vs : List V} {xs : List α} {p : Addr} {Q : VK} (hs : Same F H) (hp : H p = none) (hr : Prs T F xs vs) (q : After K (.ok xs) E F H (OwnK (owL T) H Q)) : Q (.ref p) (upd H p (.lst vs)) :=
  own_new hp upd_same (hs.free hp) hr (q F _ (.heap hs (same_new hp _)))
theorem op_addL : Op2O K mAdd E (tyL T) (tyL T) (fun i j => .lim (i.length + j.length) (.ok (i ++ j))) (owL T) := by
  rintro a b x y F H Q hs ⟨p, vs, rfl, h1, r1⟩ ⟨p2, us, rfl, h2, r2⟩ q
  obtain ⟨c, q⟩ := q.lim
  exact ⟨vs, us, hs _ _ h1, hs _ _ h2, by rw [← r1.len, ← r2.len]; exact c, fun p hp => own_upd hs hp (r1.append r2) q⟩
theorem ea_last (h : EvF K e E L r T) : EvA K (tCons e tNil) E L r (csLast T) := by
  intro σ F H Q hL hs q
  exact h σ F H _ hL hs (q.imp fun a F1 H1 x k v hv => k [v] ⟨v, rfl, hv⟩)
theorem ea_cons {ta : TA} {r2 : Mo γ} {C : Cs γ} (h : EvF K e E L r T) (h2 : EvA K ta E L r2 C) : EvA K (tCons e ta) E L (r.bind fun a => r2.bind fun c => .ok (a, c)) (csCons T C) := by
  intro σ F H Q hL hs q
  refine h σ F H _ hL hs (q.bind.imp fun a F1 H1 x1 k1 v1 hv1 => ?_)
  refine h2 σ F1 H1 _ (hL.mono x1.1) x1.2.1 (k1.bind.imp fun c F2 H2 x2 k2 vs hvs => ?_)
  exact k2.ok x2.2.1 (v1 :: vs) ⟨v1, vs, rfl, T.mono x2.1 hv1, hvs⟩
def Ct (K : PySem.W.Frag) (C : Cs γ) (f : γ → Mo ρ) (O : Own ρ) : Sp := fun vs H Q E => ∃ F c, Same F H ∧ C.R c vs F ∧ After K (f c) E F H (OwnK O H Q)
theorem ev_call {C : Cs γ} {f : γ → Mo ρ} {O : Own ρ} {ta : TA} {r : Mo γ} (h : EvA K ta E L r C) : EvO K (tCall (Ct K C f O) [] E ta) E L (r.bind f) O := by
  intro σ F H Q hL hs q
  refine h σ F H _ hL hs (q.bind.imp fun c F1 H1 x1 k1 vs hvs => ?_)
  rw [List.append_nil]
  exact ⟨F1, c, x1.2.1, hvs, k1.imp fun r F2 H2 x2 k2 => k2.back x1.2.2.1⟩
theorem ev_call0 {C : Cs γ} {f : γ → Mo ρ} {O : Own ρ} {ta : TA} {r : Mo γ} (h : EvA K ta E L r C) : EvO K (tCall (Ct K C f O) [] E0 ta) E L (r.bind fun c => (f c).noex) O := by
  intro σ F H Q hL hs q
  refine h σ F H _ hL hs (q.bind.imp fun c F1 H1 x1 k1 vs hvs => ?_)
  rw [List.append_nil]
  exact ⟨F1, c, x1.2.1, hvs, k1.noex.imp fun r F2 H2 x2 k2 => k2.back x1.2.2.1⟩
def Bl (K : PySem.W.Frag) (m : List V → Hp → VK → Prop) (E : XK) (C : Cs γ) (g : γ → Mo α) (T : Ty α) : Prop :=
  ∀ c vs F H (Q : VK), Same F H → C.R c vs F → After K (g c) E F H (fun c F' H' => ∀ v, T.R c v F' → Q v H') → m vs H Q
def BlO (K : PySem.W.Frag) (m : List V → Hp → VK → Prop) (E : XK) (C : Cs γ) (g : γ → Mo α) (O : Own α) : Prop :=
  ∀ c vs F H (Q : VK), Same F H → C.R c vs F → After K (g c) E F H (OwnK O H Q) → m vs H Q
theorem ev_cb {m : List V → Hp → VK → Prop} {C : Cs γ} {g : γ → Mo α} {ta : TA} {r : Mo γ} (hb : Bl K m E C g T) (h : EvA K ta E L r C) : EvF K (tCB m ta) E L (r.bind g) T := by
  intro σ F H Q hL hs q
  exact h σ F H _ hL hs (q.bind.imp fun c F1 H1 x1 k1 vs hvs => hb c vs F1 H1 Q x1.2.1 hvs k1)
theorem ev_cbO {m : List V → Hp → VK → Prop} {C : Cs γ} {g : γ → Mo α} {O : Own α} {ta : TA} {r : Mo γ} (hb : BlO K m E C g O) (h : EvA K ta E L r C) : EvO K (tCB m ta) E L (r.bind g) O := by
  intro σ F H Q hL hs q
  exact h σ F H _ hL hs (q.bind.imp fun c F1 H1 x1 k1 vs hvs => hb c vs F1 H1 Q x1.2.1 hvs (k1.imp fun a F2 H2 x2 k2 => k2.back x1.2.2.1))
theorem bl_lenL : Bl K (mLen K) E (csLast (tyL T)) (fun l => .ok (l.length : Int)) tyInt := by
  rintro c vs F H Q hs ⟨v, rfl, p, us, rfl, h, r⟩ q
  exact ⟨us, .inl (.of (hs _ _ h)), q.ok hs _ (by rw [r.len])⟩
theorem bl_lenSc : Bl K (mLen K) E (csLast (tySc K)) (fun l => .ok (l.length : Int)) tyInt := by
  rintro c vs F H Q hs ⟨v, rfl, p, rfl, h⟩ q
  exact ⟨_, .inl (hs.seq h), q.ok hs _ (by rw [List.length_map])⟩
theorem bl_min : Bl K (mTwo min) E (csCons tyInt (csLast tyInt)) (fun c => .ok (min c.1 c.2)) tyInt := by
  rintro c vs F H Q hs ⟨v, us, rfl, rfl, w, rfl, rfl⟩ q
  exact q.ok hs _ rfl
theorem bl_str : Bl K mStr E (csLast tyInt) (fun i => .grd (i.natAbs.log2 < 1920) (.ok (strI i))) tyStr := by
  rintro c vs F H Q hs ⟨v, rfl, rfl⟩ q
  obtain ⟨z, q⟩ := q.grd
  exact ⟨z, q.ok hs _ rfl⟩
theorem prs_int {xs : List Int} : Prs tyInt H xs (xs.map V.int) := by
  induction xs with
  | nil => exact .nil
  | cons x xs ih => exact .cons rfl ih
theorem op_ixS : Op2 K (mIx K) E tyStr tyInt (fun l i => .lim l.length (.opt ((atI l i).map fun c => [c]))) tyStr := by
  rintro a b x y F H Q hs rfl rfl q
  obtain ⟨z, q⟩ := q.lim
  obtain ⟨l, e, q⟩ := q.opt
  refine ⟨z, ?_⟩
  show (match atI a b with | some c => Q (tx [c]) H | none => False)
  cases e1 : atI a b with
  | none => rw [e1] at e; cases e
  | some c => rw [e1] at e; cases e; exact q.ok hs _ rfl
theorem atI_prs {xs : List α} {vs : List V} (r : Prs T H xs vs) {i : Int} {x : α} (e : atI xs i = some x) : ∃ v, atI vs i = some v ∧ T.R x v H := by
  unfold atI at e ⊢
  rw [← r.len]
  cases e1 : ixN xs.length i with
  | none => rw [e1] at e; cases e
  | some j =>
    rw [e1] at e
    rcases r.get j with ⟨a, b⟩ | ⟨y, v, a, b, c⟩
    · have : xs[j]? = some x := e
      rw [a] at this; cases this
    · have : xs[j]? = some x := e
      rw [a] at this; cases this
      exact ⟨v, b, c⟩
theorem op_ixL : Op2 K (mIx K) E (tyL T) tyInt (fun l i => .opt (atI l i)) T := by
  rintro a b x y F H Q hs ⟨p, vs, rfl, h, r⟩ rfl q
  obtain ⟨l, e, q⟩ := q.opt
  refine ⟨vs, .inl (.of (hs _ _ h)), ?_⟩
  obtain ⟨v, e2, rv⟩ := atI_prs r e
  rw [e2]
  exact q.ok hs v rv
theorem op_ixSc : Op2 K (mIx K) E (tySc K) tyInt (fun l i => .opt (atI l i)) tyInt := by
  rintro a b x y F H Q hs ⟨p, rfl, h⟩ rfl q
  obtain ⟨l, e, q⟩ := q.opt
  refine ⟨_, .inl (hs.seq h), ?_⟩
  obtain ⟨v, e2, rv⟩ := atI_prs (H := F) prs_int e
  rw [e2]
  exact q.ok hs v rv
def CsAt (C : Cs γ) (i : Nat) (T : Ty α) (pr : γ → α) : Prop := ∀ {c vs H}, C.R c vs H → ∃ v, vs[i]? = some v ∧ T.R (pr c) v H
theorem at_last : CsAt (csLast T) 0 T id := fun ⟨v, e, h⟩ => ⟨v, by rw [e]; rfl, h⟩
theorem at_0 {C : Cs γ} : CsAt (csCons T C) 0 T Prod.fst := fun ⟨v, us, e, h, q⟩ => ⟨v, by rw [e]; rfl, h⟩
theorem at_s {C : Cs γ} {i : Nat} {pr : γ → α} {T' : Ty β} (h : CsAt C i T pr) : CsAt (csCons T' C) (i + 1) T (fun c => pr c.2) := fun ⟨v, us, e, _, q⟩ => by
  obtain ⟨w, e2, r⟩ := h q
  exact ⟨w, by rw [e]; exact e2, r⟩
theorem ev_ixT {C : Cs γ} {i : Nat} {pr : γ → α} {r : Mo γ} (ha : CsAt C i T pr) (h : EvF K e E L r (tyTup C)) : EvF K (tOp (mIx K) e (tC (.int i))) E L (r.bind fun c => .ok (pr c)) T := by
  intro σ F H Q hL hs q
  refine h σ F H _ hL hs (q.bind.imp fun c F1 H1 x1 k1 v1 ⟨p, us, ev, hp, hc⟩ => ?_)
  subst ev
  obtain ⟨w, e2, rw'⟩ := ha hc
  refine ⟨us, .inr (.of (x1.2.1 _ _ hp)), ?_⟩
  have e3 : atI us (i : Int) = some w := by
    unfold atI
    rw [ixN_lt (by omega) (by have := (List.getElem?_eq_some_iff.mp e2).1; omega)]
    simpa using e2
  rw [e3]
  exact k1.ok x1.2.1 w rw'
end
end L2
namespace L2
open PySem PySem.Spec PyProof.Rows
section
variable {K : PySem.W.Frag} {E : XK} {α β γ ρ : Type} {F H : Hp} {L : List Sl} {e e1 e2 : TE} {T : Ty α} {r : Mo α}
variable {t t1 t2 : TT} {b b1 b2 : Mo Bool}
theorem et_val (h : EvF K e E L b tyBl) : EvT K (mTest e) E L b := by
  intro σ F H Q hL hs q
  refine h σ F H _ hL hs (q.imp fun a F1 H1 x k v hv => ?_)
  cases hv
  exact k
theorem et_not (h : EvT K t E L b) : EvT K (tNot t) E L (b.bind fun c => .ok (!c)) := by
  intro σ F H Q hL hs q
  exact h σ F H _ hL hs (q.bind.imp fun a F1 H1 x k => k.ok x.2.1)
theorem et_and (h1 : EvT K t1 E L b1) (h2 : EvT K t2 E L b2) : EvT K (mAnd t1 t2) E L (b1.bind fun c => if c then b2 else .ok false) := by
  intro σ F H Q hL hs q
  refine h1 σ F H _ hL hs (q.bind.imp fun a F1 H1 x k => ⟨fun c => ?_, fun c => ?_⟩)
  · rw [if_pos c] at k; exact h2 σ F1 H1 _ (hL.mono x.1) x.2.1 k
  · rw [if_neg (by rw [c]; decide)] at k; exact k.ok x.2.1
theorem et_or (h1 : EvT K t1 E L b1) (h2 : EvT K t2 E L b2) : EvT K (mOr t1 t2) E L (b1.bind fun c => if c then .ok true else b2) := by
  intro σ F H Q hL hs q
  refine h1 σ F H _ hL hs (q.bind.imp fun a F1 H1 x k => ⟨fun c => ?_, fun c => ?_⟩)
  · rw [if_pos c] at k; exact k.ok x.2.1
  · rw [if_neg (by rw [c]; decide)] at k; exact h2 σ F1 H1 _ (hL.mono x.1) x.2.1 k
theorem ev_and (h1 : EvF K e1 E L b1 tyBl) (h2 : EvF K e2 E L b2 tyBl) : EvF K (mAndV e1 e2) E L (b1.bind fun c => if c then b2 else .ok false) tyBl := by
  intro σ F H Q hL hs q
  refine h1 σ F H _ hL hs (q.bind.imp fun a F1 H1 x k v hv => ?_)
  cases hv
  refine ⟨fun c => ?_, fun c => ?_⟩
  · rw [if_pos c] at k; exact h2 σ F1 H1 _ (hL.mono x.1) x.2.1 k
  · rw [if_neg (by rw [c]; decide)] at k; exact k.ok x.2.1 _ rfl
theorem ev_not (h1 : EvF K e1 E L b1 tyBl) : EvF K (mNotV e1) E L (b1.bind fun c => .ok (!c)) tyBl := by
  intro σ F H Q hL hs q
  refine h1 σ F H _ hL hs (q.bind.imp fun a F1 H1 x k v hv => ?_)
  cases hv
  exact k.ok x.2.1 _ rfl
theorem ev_neg {r : Mo Int} (h1 : EvF K e1 E L r tyInt) : EvF K (mNeg e1) E L (r.bind fun c => .ok (-c)) tyInt := by
  intro σ F H Q hL hs q
  refine h1 σ F H _ hL hs (q.bind.imp fun a F1 H1 x k v hv => ?_)
  cases hv
  exact k.ok x.2.1 _ rfl
theorem ev_chain {m m' : R2} {e3 : TE} {T1 : Ty α} {T2 : Ty β} {T3 : Ty γ} {g : α → β → Mo Bool} {g' : β → γ → Mo Bool} {r1 : Mo α} {r2 : Mo β} {r3 : Mo γ} (hop : Op2 K m E T1 T2 g tyBl) (hop' : Op2 K m' E T2 T3 g' tyBl)
    (h1 : EvF K e1 E L r1 T1) (h2 : EvF K e2 E L r2 T2) (h3 : EvF K e3 E L r3 T3) :
    EvF K (mChain m m' e1 e2 e3) E L (r1.bind fun a => r2.bind fun b => (g a b).bind fun c => if c then r3.bind fun d => g' b d else .ok false) tyBl := by
  intro σ F H Q hL hs q
  refine h1 σ F H _ hL hs (q.bind.imp fun a F1 H1 x1 k1 v1 hv1 => ?_)
  refine h2 σ F1 H1 _ (hL.mono x1.1) x1.2.1 (k1.bind.imp fun b F2 H2 x2 k2 v2 hv2 => ?_)
  refine hop a b v1 v2 F2 H2 _ x2.2.1 (T1.mono x2.1 hv1) hv2 (k2.bind.imp fun c F3 H3 x3 k3 v3 hv3 => ?_)
  cases hv3
  refine ⟨fun z => ?_, fun z => ?_⟩
  · rw [if_pos z] at k3
    refine h3 σ F3 H3 _ (hL.mono ((x1.1.trans x2.1).trans x3.1)) x3.2.1 (k3.bind.imp fun d F4 H4 x4 k4 v4 hv4 => ?_)
    exact hop' b d v2 v4 F4 H4 Q x4.2.1 (T2.mono (x3.1.trans x4.1) hv2) hv4 k4
  · rw [if_neg (by rw [z]; decide)] at k3; exact k3.ok x3.2.1 _ rfl
theorem After.more {k : α → Hp → Hp → Prop} (h : After K r E F H k) : After K r E F H fun a F1 H1 => ∀ F2 H2, Ext F1 H1 F2 H2 → k a F2 H2 := by
  cases r with
  | ok a => exact fun F1 H1 x F2 H2 y => h F2 H2 (x.trans y)
  | ex c => exact h
  | no => exact h
def CsN (C : Cs γ) (n : Nat) : Prop := ∀ {c vs H}, C.R c vs H → vs.length = n
theorem csn_last : CsN (csLast T) 1 := fun ⟨v, e, _⟩ => by rw [e]; rfl
theorem csn_cons {C : Cs γ} {n : Nat} (h : CsN C n) : CsN (csCons T C) (n + 1) := fun ⟨v, us, e, _, q⟩ => by rw [e, List.length_cons, h q]
theorem ev_tup {ta : TA} {C : Cs γ} {r : Mo γ} {n : Nat} (hl : CsN C n) (h : EvA K ta E L r C) (hn : n ≤ 100 := by decide) : EvF K (tTup ta) E L r (tyTup C) := by
  intro σ F H Q hL hs q
  refine h σ F H _ hL hs (q.more.imp fun c F1 H1 x1 k1 vs hvs => ⟨small_n (by rw [hl hvs]; omega), fun p hp => ?_⟩)
  have x := Ext.new (o := .tup vs) x1.2.1 hp
  exact k1 _ _ x _ ⟨p, vs, rfl, upd_same, C.mono x.1 hvs⟩
def CsL (C : Cs γ) (T : Ty α) (f : γ → List α) : Prop := ∀ {c vs H}, C.R c vs H → Prs T H (f c) vs
theorem csl_last : CsL (csLast T) T fun a => [a] := fun ⟨v, e, h⟩ => by rw [e]; exact .cons h .nil
theorem csl_cons {C : Cs γ} {f : γ → List α} (h : CsL C T f) : CsL (csCons T C) T fun c => c.1 :: f c.2 := fun ⟨v, us, e, q, z⟩ => by rw [e]; exact .cons q (h z)
theorem ev_lst {ta : TA} {C : Cs γ} {r : Mo γ} {n : Nat} {f : γ → List α} (hl : CsN C n) (hf : CsL C T f) (h : EvA K ta E L r C) (hn : n ≤ 100 := by decide) : EvO K (tLst ta) E L (r.bind fun c => .ok (f c)) (owL T) := by
  intro σ F H Q hL hs q
  refine h σ F H _ hL hs (q.bind.imp fun c F1 H1 x1 k1 vs hvs => ⟨small_n (by rw [hl hvs]; omega), fun p hp => ?_⟩)
  exact own_upd x1.2.1 hp (hf hvs) (k1.imp fun a F2 H2 x2 k2 => k2.back x1.2.2.1)
theorem ev_lst0 (T : Ty α) : EvO K (tLst tNil) E L (.ok []) (owL T) := by
  intro σ F H Q hL hs q
  exact ⟨Nat.zero_le _, fun p hp => own_upd hs hp (T := T) .nil q⟩
def EvP (K : PySem.W.Frag) (t : TO) (E : XK) (L : List Sl) (r : Mo (Option Int)) : Prop :=
  ∀ σ F H (Q : Option Int → Hp → Prop), HoldF L σ F → Same F H → After K r E F H (fun b _ H' => Q b H') → t σ H Q
theorem ep_no : EvP K tNoPart E L (.ok none) := fun σ F H Q hL hs q => q.ok hs
theorem ep_of {r : Mo Int} (h : EvF K e E L r tyInt) : EvP K (mPart e) E L (r.bind fun i => .ok (some i)) := by
  intro σ F H Q hL hs q
  refine h σ F H _ hL hs (q.bind.imp fun a F1 H1 x k v hv => ?_)
  cases hv
  exact k.ok x.2.1
def cutG (xs : List α) (lo hi : Option Int) : List α := (xs.drop (HT.sIx xs.length 0 lo)).take (HT.sIx xs.length xs.length hi - HT.sIx xs.length 0 lo)
theorem prs_cut {xs : List α} {vs : List V} (q : Prs T H xs vs) (lo hi : Option Int) : Prs T H (cutG xs lo hi) (cutV vs lo hi) := by
  unfold cutG cutV
  rw [← q.len]
  exact (q.drop _).take _
variable {tl th : TO} {rl rh : Mo (Option Int)}
theorem ev_slL {r : Mo (List α)} (h : EvF K e E L r (tyL T)) (hl : EvP K tl E L rl) (hh : EvP K th E L rh) : EvO K (tSl (mSl K) e tl th) E L (r.bind fun l => rl.bind fun a => rh.bind fun b => .ok (cutG l a b)) (owL T) := by
  intro σ F H Q hL hs q
  refine h σ F H _ hL hs (q.bind.imp fun l F1 H1 x1 k1 v hv => ?_)
  refine hl σ F1 H1 _ (hL.mono x1.1) x1.2.1 (k1.bind.imp fun a F2 H2 x2 k2 => ?_)
  refine hh σ F2 H2 _ (hL.mono (x1.1.trans x2.1)) x2.2.1 (k2.bind.imp fun b F3 H3 x3 k3 => ?_)
  obtain ⟨p, vs, rfl, hp, hr⟩ := hv
  have x := x2.1.trans x3.1
  exact ⟨vs, .of (x3.2.1 _ _ (x _ _ hp)), fun q hq => own_upd x3.2.1 hq (prs_cut (hr.mono x) a b) (k3.imp fun _ _ _ _ z => z.back ((x1.2.2.1.trans x2.2.2.1).trans x3.2.2.1))⟩
theorem ev_slSc {r : Mo (List Int)} (h : EvF K e E L r (tySc K)) (hl : EvP K tl E L rl) (hh : EvP K th E L rh) : EvO K (tSl (mSl K) e tl th) E L (r.bind fun l => rl.bind fun a => rh.bind fun b => .ok (cutG l a b)) (owL tyInt) := by
  intro σ F H Q hL hs q
  refine h σ F H _ hL hs (q.bind.imp fun l F1 H1 x1 k1 v hv => ?_)
  refine hl σ F1 H1 _ (hL.mono x1.1) x1.2.1 (k1.bind.imp fun a F2 H2 x2 k2 => ?_)
  refine hh σ F2 H2 _ (hL.mono (x1.1.trans x2.1)) x2.2.1 (k2.bind.imp fun b F3 H3 x3 k3 => ?_)
  obtain ⟨p, rfl, hp⟩ := hv
  have x := x2.1.trans x3.1
  exact ⟨_, x3.2.1.seq (x.seq hp), fun q hq => own_upd x3.2.1 hq (prs_cut prs_int a b) (k3.imp fun _ _ _ _ z => z.back ((x1.2.2.1.trans x2.2.2.1).trans x3.2.2.1))⟩
theorem ev_rev {r : Mo (List α)} (h : EvF K e E L r (tyL T)) (hl : EvP K tl E L (.ok (some (-1)))) : EvO K (tRev K e tl) E L (r.bind fun l => .ok l.reverse) (owL T) := by
  intro σ F H Q hL hs q
  refine h σ F H _ hL hs (q.bind.imp fun l F1 H1 x1 k1 v hv => ?_)
  refine hl σ F1 H1 _ (hL.mono x1.1) x1.2.1 (fun F2 H2 x2 => ?_)
  obtain ⟨p, vs, rfl, hp, hr⟩ := hv
  refine ⟨rfl, vs, .of (x2.2.1 _ _ (x2.1 _ _ hp)), fun q hq => ?_⟩
  refine own_new hq upd_same (x2.2.1.free hq) (hr.mono x2.1).rev (((k1 F2 _ ?_)).back (x1.2.2.1.trans x2.2.2.1))
  exact x2.trans (.heap x2.2.1 (same_new hq _))
structure EqT (K : PySem.W.Frag) (T : Ty α) (n : Nat) (q : α → α → Bool) : Prop where
  eq : ∀ {a b x y H}, T.R a x H → T.R b y H → EqD K H n x y (q a b)
theorem eqt_int : EqT K tyInt 0 (fun a b => decide (a = b)) := ⟨by
  rintro a b x y H rfl rfl
  have : eqV (.int a) (.int b) = decide (a = b) := by unfold eqV; exact rfl
  rw [← this]; exact .flat rfl rfl⟩
def eqL (q : α → α → Bool) : List α → List α → Bool
  | [], [] => true
  | x :: xs, y :: ys => q x y && eqL q xs ys
  | _, _ => false
theorem eqL_len {q : α → α → Bool} : ∀ {xs ys : List α}, xs.length ≠ ys.length → eqL q xs ys = false
  | [], [], h => absurd rfl h
  | [], _ :: _, _ => rfl
  | _ :: _, [], _ => rfl
  | x :: xs, y :: ys, h => by unfold eqL; rw [eqL_len (by simpa using h), Bool.and_false]
theorem eqL_all {q : α → α → Bool} : ∀ {xs ys : List α}, xs.length = ys.length → eqL q xs ys = (List.range xs.length).all fun i => match xs[i]?, ys[i]? with | some x, some y => q x y | _, _ => true
  | [], [], _ => rfl
  | x :: xs, y :: ys, h => by
    unfold eqL
    rw [List.length_cons, List.range_succ_eq_map, List.all_cons, List.all_map, eqL_all (by simpa using h)]
    rfl
theorem eqt_l {n : Nat} {q : α → α → Bool} (h : EqT K T n q) : EqT K (tyL T) (n + 1) (eqL q) := ⟨by
  rintro a b x y H ⟨p, vs, rfl, hp, hr⟩ ⟨p2, us, rfl, hp2, hr2⟩
  by_cases hl : a.length = b.length
  · rw [eqL_all hl, hr.len]
    refine .lst _ (.of hp) (.of hp2) (by rw [← hr.len, ← hr2.len, hl]) fun i x y hx hy => ?_
    rcases hr.get i with ⟨_, z⟩ | ⟨x1, v1, e1, e2, r1⟩
    · rw [z] at hx; cases hx
    rcases hr2.get i with ⟨_, z⟩ | ⟨x2, v2, e3, e4, r2⟩
    · rw [z] at hy; cases hy
    rw [e2] at hx; cases hx
    rw [e4] at hy; cases hy
    simp only [e1, e3]
    exact h.eq r1 r2
  · rw [eqL_len hl]
    exact .lstN (.of hp) (.of hp2) (by rw [← hr.len, ← hr2.len]; exact hl)⟩
structure EqC (K : PySem.W.Frag) (C : Cs γ) (n m : Nat) (q : γ → γ → Bool) : Prop where
  eq : ∀ {a b xs ys H}, C.R a xs H → C.R b ys H → xs.length = m ∧ ys.length = m ∧ ∃ e : Nat → Bool, (∀ i x y, xs[i]? = some x → ys[i]? = some y → EqD K H n x y (e i)) ∧ (List.range m).all e = q a b
theorem EqD.le {H : Hp} {n m : Nat} {x y : V} {b : Bool} (h : EqD K H n x y b) (g : n ≤ m) : EqD K H m x y b := by
  induction g with
  | refl => exact h
  | step _ ih => exact .up ih
theorem eqc_last {n : Nat} {q : α → α → Bool} (h : EqT K T n q) : EqC K (csLast T) n 1 q := ⟨by
  rintro a b xs ys H ⟨v, rfl, hv⟩ ⟨u, rfl, hu⟩
  refine ⟨rfl, rfl, fun _ => q a b, fun i x y hx hy => ?_, by simp [List.range_succ]⟩
  cases i with
  | zero => cases hx; cases hy; exact h.eq hv hu
  | succ i => cases hx⟩
theorem eqc_cons {C : Cs γ} {n m k : Nat} {q : α → α → Bool} {q' : γ → γ → Bool} (h : EqT K T n q) (h' : EqC K C k m q') : EqC K (csCons T C) (max n k) (m + 1) (fun a b => q a.1 b.1 && q' a.2 b.2) := ⟨by
  rintro a b xs ys H ⟨v, us, rfl, hv, hc⟩ ⟨u, ws, rfl, hu, hc'⟩
  obtain ⟨l1, l2, e, he, ea⟩ := h'.eq hc hc'
  refine ⟨by rw [List.length_cons, l1], by rw [List.length_cons, l2], fun i => match i with | 0 => q a.1 b.1 | j + 1 => e j, fun i x y hx hy => ?_, ?_⟩
  · cases i with
    | zero => cases hx; cases hy; exact (h.eq hv hu).le (Nat.le_max_left _ _)
    | succ i => exact (he i x y (by simpa using hx) (by simpa using hy)).le (Nat.le_max_right _ _)
  · rw [List.range_succ_eq_map, List.all_cons, List.all_map, ← ea]; rfl⟩
theorem eqt_tup {C : Cs γ} {n m : Nat} {q : γ → γ → Bool} (h : EqC K C n m q) : EqT K (tyTup C) (n + 1) q := ⟨by
  rintro a b x y H ⟨p, us, rfl, hp, hc⟩ ⟨p2, ws, rfl, hp2, hc2⟩
  obtain ⟨l1, l2, e, he, ea⟩ := h.eq hc hc2
  have := EqD.tup e (.of hp) (.of hp2) he (K := K)
  rw [l1, l2, Nat.min_self, ea, beq_self_eq_true, Bool.and_true] at this
  exact this⟩
theorem op_eqR {n : Nat} {q : α → α → Bool} (h : EqT K T n q) (hn : n ≤ 50 := by decide) (hr : ∀ {a x H}, T.R a x H → ∃ p, x = .ref p) : Op2 K (mEqK K) E T T (fun a b => .ok (q a b)) tyBl := by
  intro a b x y F H Q hs hx hy k
  have hd := h.eq (T.mono hs hx) (T.mono hs hy)
  obtain ⟨p, rfl⟩ := hr hx
  obtain ⟨p2, rfl⟩ := hr hy
  exact ⟨n, _, hn, hd, k.ok hs _ rfl⟩
theorem op_neR {n : Nat} {q : α → α → Bool} (h : EqT K T n q) (hn : n ≤ 50 := by decide) (hr : ∀ {a x H}, T.R a x H → ∃ p, x = .ref p) : Op2 K (mNeK K) E T T (fun a b => .ok (!(q a b))) tyBl := by
  intro a b x y F H Q hs hx hy k
  have hd := h.eq (T.mono hs hx) (T.mono hs hy)
  obtain ⟨p, rfl⟩ := hr hx
  obtain ⟨p2, rfl⟩ := hr hy
  exact ⟨n, _, hn, hd, k.ok hs _ rfl⟩
theorem ref_l {a : List α} {x : V} {H : Hp} (h : (tyL T).R a x H) : ∃ p, x = .ref p := by obtain ⟨p, _, e, _⟩ := h; exact ⟨p, e⟩
theorem ref_tup {C : Cs γ} {a : γ} {x : V} {H : Hp} (h : (tyTup C).R a x H) : ∃ p, x = .ref p := by obtain ⟨p, _, e, _⟩ := h; exact ⟨p, e⟩
theorem op_neL {n : Nat} {q : α → α → Bool} (h : EqT K (tyL T) n (eqL q)) (hn : n ≤ 50 := by decide) : Op2 K (mNeK K) E (tyL T) (tyL T) (fun a b => .ok (!(eqL q a b))) tyBl := op_neR h hn ref_l
theorem op_eqT {C : Cs γ} {n : Nat} {q : γ → γ → Bool} (h : EqT K (tyTup C) n q) (hn : n ≤ 50 := by decide) : Op2 K (mEqK K) E (tyTup C) (tyTup C) (fun a b => .ok (q a b)) tyBl := op_eqR h hn ref_tup
theorem op_eqI : Op2 K (mEqK K) E tyInt tyInt (fun a b => .ok (decide (a = b))) tyBl := by
  rintro a b x y F H Q hs rfl rfl k
  exact k.ok hs _ rfl
theorem op_neI : Op2 K (mNeK K) E tyInt tyInt (fun a b => .ok (!decide (a = b))) tyBl := by
  rintro a b x y F H Q hs rfl rfl k
  exact k.ok hs _ rfl
theorem op_eqS : Op2 K (mEqK K) E tyStr tyStr (fun a b => .ok (decide (a = b))) tyBl := by
  rintro a b x y F H Q hs rfl rfl k
  exact k.ok hs _ rfl
theorem op_neS : Op2 K (mNeK K) E tyStr tyStr (fun a b => .ok (!decide (a = b))) tyBl := by
  rintro a b x y F H Q hs rfl rfl k
  exact k.ok hs _ rfl
theorem op_inS : Op2 K (mIn K false) E tyStr tyStr (fun a b => .ok (inS a b)) tyBl := by
  rintro a b x y F H Q hs rfl rfl k
  exact k.ok hs _ rfl
structure Flt (T : Ty α) (q : α → α → Bool) : Prop where
  flat : ∀ {a x H}, T.R a x H → flatV x = true
  eq : ∀ {a b x y H}, T.R a x H → T.R b y H → eqV x y = q a b
theorem flt_int : Flt tyInt (fun a b => decide (a = b)) := ⟨fun h => by cases h; rfl, fun h h' => by cases h; cases h'; unfold eqV; exact rfl⟩
theorem inV_prs {q : α → α → Bool} (f : Flt T q) {H : Hp} {a : α} {x : V} (ha : T.R a x H) {xs : List α} {vs : List V} (r : Prs T H xs vs) : vs.all flatV = true ∧ inV x vs = xs.any fun y => q y a := by
  induction r with
  | nil => exact ⟨rfl, rfl⟩
  | cons r t ih =>
    refine ⟨by rw [List.all_cons, f.flat r, ih.1]; rfl, ?_⟩
    unfold inV at ih ⊢
    rw [List.any_cons, List.any_cons, f.eq r ha, ih.2]
theorem op_inL {q : α → α → Bool} (f : Flt T q) : Op2 K (mIn K false) E T (tyL T) (fun a b => .ok (b.any fun y => q y a)) tyBl := by
  rintro a b x y F H Q hs hx ⟨p, vs, rfl, hp, hr⟩ k
  obtain ⟨h1, h2⟩ := inV_prs f hx hr
  refine ⟨vs, .inl (.of (hs _ _ hp)), f.flat hx, h1, ?_⟩
  rw [h2]
  exact k.ok hs _ rfl
theorem op_ninL {q : α → α → Bool} (f : Flt T q) : Op2 K (mIn K true) E T (tyL T) (fun a b => .ok (!(b.any fun y => q y a))) tyBl := by
  rintro a b x y F H Q hs hx ⟨p, vs, rfl, hp, hr⟩ k
  obtain ⟨h1, h2⟩ := inV_prs f hx hr
  refine ⟨vs, .inl (.of (hs _ _ hp)), f.flat hx, h1, ?_⟩
  rw [h2]
  exact k.ok hs _ rfl
def TyN (K : PySem.W.Frag) (T : Ty α) (n : String) : Prop := ∀ {a x H}, T.R a x H → tyS K H x n
theorem tn_int : TyN K tyInt "int" := fun h => by cases h; rfl
theorem tn_l : TyN K (tyL T) "list" := fun ⟨p, vs, e, h, _⟩ => by subst e; exact .inl ⟨rfl, vs, h⟩
theorem tn_tup {C : Cs γ} : TyN K (tyTup C) "tuple" := fun ⟨p, vs, e, h, _⟩ => by subst e; exact .inr ⟨rfl, vs, h⟩
theorem isa_any {x : V} {n c : String} {bb : Bool} {Q : VK} (h : tyS K H x n) (hb : isaB n c = some bb) (q : Q (.bl bb) H) : mIsa K [x, .ty c] H Q := by
  cases x with
  | non => cases (show n = _ from h); show (match isaB "NoneType" c with | some b => Q (.bl b) H | none => False); rw [hb]; exact q
  | bl _ => cases (show n = _ from h); show (match isaB "bool" c with | some b => Q (.bl b) H | none => False); rw [hb]; exact q
  | int _ => cases (show n = _ from h); show (match isaB "int" c with | some b => Q (.bl b) H | none => False); rw [hb]; exact q
  | str _ => cases (show n = _ from h); show (match isaB "str" c with | some b => Q (.bl b) H | none => False); rw [hb]; exact q
  | ref p => exact ⟨n, h, by rw [hb]; exact q⟩
  | _ => exact h.elim
theorem ev_isa {n c : String} {bb : Bool} (hn : TyN K T n) (h : EvF K e E L r T) (hb : isaB n c = some bb := by decide) : EvF K (tCB (mIsa K) (tCons e (tCons (tC (.ty c)) tNil))) E L (r.bind fun _ => .ok bb) tyBl := by
  intro σ F H Q hL hs q
  refine h σ F H _ hL hs (q.bind.imp fun l F1 H1 x1 k1 v hv => ?_)
  exact isa_any (hn (T.mono x1.2.1 hv)) hb (k1.ok x1.2.1 _ rfl)
def Me (K : PySem.W.Frag) (m : V → List V → Hp → VK → Prop) (E : XK) (C : Cs γ) (g : List Nat → γ → Mo α) (T : Ty α) : Prop :=
  ∀ l c vs F H (Q : VK), Same F H → C.R c vs F → After K (g l c) E F H (fun c F' H' => ∀ v, T.R c v F' → Q v H') → m (tx l) vs H Q
def MeO (K : PySem.W.Frag) (m : V → List V → Hp → VK → Prop) (E : XK) (C : Cs γ) (g : List Nat → γ → Mo α) (O : Own α) : Prop :=
  ∀ l c vs F H (Q : VK), Same F H → C.R c vs F → After K (g l c) E F H (OwnK O H Q) → m (tx l) vs H Q
theorem ev_me {m : V → List V → Hp → VK → Prop} {C : Cs γ} {g : List Nat → γ → Mo α} {ta : TA} {r0 : Mo (List Nat)} {r : Mo γ} (hb : Me K m E C g T) (h0 : EvF K e E L r0 tyStr) (h : EvA K ta E L r C) : EvF K (tBM K "str" m e ta) E L (r0.bind fun l => r.bind fun c => g l c) T := by
  intro σ F H Q hL hs q
  refine h0 σ F H _ hL hs (q.bind.imp fun l F1 H1 x1 k1 v hv => ?_)
  cases hv
  refine ⟨rfl, h σ F1 H1 _ (hL.mono x1.1) x1.2.1 (k1.bind.imp fun c F2 H2 x2 k2 vs hvs => hb l c vs F2 H2 Q x2.2.1 hvs k2)⟩
theorem ev_meO {m : V → List V → Hp → VK → Prop} {C : Cs γ} {g : List Nat → γ → Mo α} {O : Own α} {ta : TA} {r0 : Mo (List Nat)} {r : Mo γ} (hb : MeO K m E C g O) (h0 : EvF K e E L r0 tyStr) (h : EvA K ta E L r C) : EvO K (tBM K "str" m e ta) E L (r0.bind fun l => r.bind fun c => g l c) O := by
  intro σ F H Q hL hs q
  refine h0 σ F H _ hL hs (q.bind.imp fun l F1 H1 x1 k1 v hv => ?_)
  cases hv
  refine ⟨rfl, h σ F1 H1 _ (hL.mono x1.1) x1.2.1 (k1.bind.imp fun c F2 H2 x2 k2 vs hvs => hb l c vs F2 H2 Q x2.2.1 hvs (k2.imp fun _ _ _ _ z => z.back (x1.2.2.1.trans x2.2.2.1)))⟩
theorem me_index : Me K mIndex E (csLast tyStr) (fun l c => .grd (findS l c ≠ -1) (.ok (findS l c))) tyInt := by
  rintro l c vs F H Q hs ⟨v, rfl, rfl⟩ k
  obtain ⟨z, k⟩ := k.grd
  exact ⟨z, k.ok hs _ rfl⟩
end
end L2
namespace L2
open PySem PySem.Spec PyProof.Rows
section
variable {K : PySem.W.Frag} {E : XK} {α β γ ρ S S' B : Type} {F H : Hp} {L : List Sl} {e e1 e2 : TE} {T : Ty α} {r : Mo α}
def setL (L : List Sl) (ss : List (Nat × Sl)) : List Sl := ss.foldl (fun L q => L.set q.1 q.2) L
def setS (σ : St) (ss : List (Nat × Option V)) : St := ss.foldl (fun L q => L.set q.1 q.2) σ
inductive Plain (F : Hp) : List (Nat × Sl) → List (Nat × Option V) → Prop
  | nil : Plain F [] []
  | cons {α : Type} {T : Ty α} {a : α} {i : Nat} {v : V} {ss vs} (h : T.R a v F) (t : Plain F ss vs) : Plain F ((i, .fz T a) :: ss) ((i, some v) :: vs)
def TgR (K : PySem.W.Frag) (g : TG) (T : Ty α) (ss : α → List (Nat × Sl)) : Prop :=
  ∀ a v σ F H (Q : St → Hp → Prop), Same F H → T.R a v F → (∀ vs, Plain F (ss a) vs → Q (setS σ vs) H) → g v σ H Q
theorem tg_name (i : Nat) : TgR K (gName i) T fun a => [(i, .fz T a)] := by
  intro a v σ F H Q hs hv q
  exact q [(i, some v)] (.cons hv .nil)
def TgC (K : PySem.W.Frag) (g : TGs) (C : Cs γ) (ss : γ → List (Nat × Sl)) : Prop :=
  ∀ a vs σ F H (Q : St → Hp → Prop), Same F H → C.R a vs F → (∀ us, Plain F (ss a) us → Q (setS σ us) H) → g vs σ H Q
theorem tc_last {g : TG} {ss : α → List (Nat × Sl)} (h : TgR K g T ss) : TgC K (gConsM g gNilM) (csLast T) ss := by
  rintro a vs σ F H Q hs ⟨v, rfl, hv⟩ q
  exact h a v σ F H _ hs hv fun us hu => q us hu
theorem tc_cons (i : Nat) {g : TGs} {C : Cs γ} {ss : γ → List (Nat × Sl)} (h : TgC K g C ss) : TgC K (gConsM (gName i) g) (csCons T C) fun c => (i, .fz T c.1) :: ss c.2 := by
  rintro a vs σ F H Q hs ⟨v, us, rfl, hv, hc⟩ q
  exact h a.2 us _ F H _ hs hc fun ws hw => q ((i, some v) :: ws) (.cons hv hw)
theorem tg_tup {n : Nat} {g : TGs} {C : Cs γ} {ss : γ → List (Nat × Sl)} (hn : CsN C n) (h : TgC K g C ss) : TgR K (gTupM K n g) (tyTup C) ss := by
  rintro a v σ F H Q hs ⟨p, us, rfl, hp, hc⟩ q
  exact ⟨us, .of (hs _ _ hp), hn hc, h a us σ F H Q hs hc q⟩
theorem getj_set {σ : St} {i j : Nat} {o : Option V} (h : i < σ.length) : ((σ.set i o)[j]?).join = if i = j then o else (σ[j]?).join := by
  rw [List.getElem?_set]
  split
  · rename_i e; subst e; first | rfl | (rw [if_pos h]; rfl)
  · rfl
theorem holdF_set {σ : St} {i : Nat} {s : Sl} {o : Option V} (hl : L.length = σ.length) (h : HoldF L σ F) (hs : s.Z o F) : HoldF (L.set i s) (σ.set i o) F := by
  intro j t e
  rw [List.getElem?_set] at e
  split at e
  · rename_i z; subst z
    split at e
    · rename_i y; cases e
      rw [getj_set (by rw [← hl]; exact y), if_pos rfl]; exact hs
    · cases e
  · rename_i z
    by_cases y : i < σ.length
    · rw [getj_set y, if_neg z]; exact h j t e
    · rw [List.set_eq_of_length_le (by omega)]; exact h j t e
theorem holdF_plain {ss : List (Nat × Sl)} {vs : List (Nat × Option V)} (p : Plain F ss vs) : ∀ {L : List Sl} {σ : St}, L.length = σ.length → HoldF L σ F → HoldF (setL L ss) (setS σ vs) F ∧ (setS σ vs).length = σ.length ∧ (setL L ss).length = L.length := by
  induction p with
  | nil => exact fun hl h => ⟨h, rfl, rfl⟩
  | cons hv t ih =>
    rename_i T a i v ss vs
    intro L σ hl h
    obtain ⟨a1, b, c⟩ := ih (L := L.set i (.fz T a)) (σ := σ.set i (some v)) (by rw [List.length_set, List.length_set]; exact hl) (holdF_set (s := .fz T a) hl h ⟨v, rfl, hv⟩)
    exact ⟨a1, b.trans (by rw [List.length_set]), c.trans (by rw [List.length_set])⟩
def DeadAt (L : List Sl) (is : List Nat) : Prop := ∀ i ∈ is, ∀ s, L[i]? = some s → s = .dead
theorem holdF_dead {ss : List (Nat × Sl)} {vs : List (Nat × Option V)} (p : Plain F ss vs) : ∀ {L : List Sl} {σ : St}, L.length = σ.length → DeadAt L (ss.map (·.1)) → HoldF L σ F → HoldF L (setS σ vs) F := by
  induction p with
  | nil => exact fun hl d h => h
  | cons hv t ih =>
    rename_i i v ss vs
    intro L σ hl d h
    refine ih (σ := σ.set i (some v)) (by rw [List.length_set]; exact hl) (fun j hj => d j (List.mem_cons_of_mem _ hj)) fun j s e => ?_
    by_cases y : i < σ.length
    · rw [getj_set y]
      split
      · rename_i z; subst z
        rw [d i List.mem_cons_self s e]; trivial
      · exact h j s e
    · rw [List.set_eq_of_length_le (by omega)]; exact h j s e
theorem setS_get {ss : List (Nat × Sl)} {vs : List (Nat × Option V)} (p : Plain F ss vs) {j : Nat} : ∀ {σ : St}, j ∉ ss.map (·.1) → (setS σ vs)[j]? = σ[j]? := by
  induction p with
  | nil => exact fun _ => rfl
  | cons hv t ih =>
    rename_i i v ss vs
    intro σ hj
    have h1 : i ≠ j := fun z => hj (by rw [← z]; exact List.mem_cons_self)
    have h2 := ih (σ := σ.set i (some v)) fun z => hj (List.mem_cons_of_mem _ z)
    exact h2.trans (List.getElem?_set_ne h1)
structure Yl (K : PySem.W.Frag) (J : It) (xs : List α) (T : Ty α) (F1 : Hp) : Prop where
  go : ∀ i H x, Same F1 H → xs[i]? = some x → J.go i H ∧ ∀ v H', J.yld i H v H' → ∀ F, Same F1 F → Same F H → ∃ F', Ext F H F' H' ∧ T.R x v F'
  stop : ∀ H, Same F1 H → J.stop xs.length H
def EvI (K : PySem.W.Frag) (wi : TI) (E : XK) (L : List Sl) (r : Mo (List α)) (T : Ty α) : Prop :=
  ∀ σ F H (R : It → Hp → Prop), HoldF L σ F → Same F H → After K r E F H (fun xs F' H' => ∀ J, Yl K J xs T F' → R J H') → wi σ H R
theorem ei_str {r : Mo (List Nat)} (h : EvF K e E L r tyStr) : EvI K (iAny K e) E L (r.bind fun l => .ok (l.map fun c => [c])) tyStr := by
  intro σ F H R hL hs q
  refine h σ F H _ hL hs (q.bind.imp fun l F1 H1 x1 k1 v hv => ?_)
  cases hv
  refine k1.ok x1.2.1 _ ⟨fun i H x hH hx => ?_, fun H hH => ?_⟩
  · rw [List.getElem?_map] at hx
    cases e : l[i]? with
    | none => rw [e] at hx; cases hx
    | some c =>
      rw [e] at hx; cases hx
      have hi := (List.getElem?_eq_some_iff.mp e).1
      refine ⟨hi, ?_⟩
      rintro v H' ⟨rfl, rfl⟩ F _ hF
      refine ⟨F, .refl hF, ?_⟩
      show tx [l.getD i 0] = tx [c]
      rw [List.getD_eq_getElem?_getD, e]; rfl
  · show l.length ≤ (l.map fun c => [c]).length
    rw [List.length_map]; exact Nat.le_refl _
theorem ei_l {r : Mo (List α)} (h : EvF K e E L r (tyL T)) : EvI K (iAny K e) E L r T := by
  intro σ F H R hL hs q
  refine h σ F H _ hL hs (q.imp fun l F1 H1 x1 k1 v hv => ?_)
  obtain ⟨p, vs, rfl, hp, hr⟩ := hv
  refine .inl ⟨⟨vs, .of (x1.2.1 _ _ hp)⟩, k1 _ ⟨fun i H x hH hx => ?_, fun H hH => ⟨vs, .of (hH _ _ hp), by rw [hr.len]; exact Nat.le_refl _⟩⟩⟩
  rcases hr.get i with ⟨a, _⟩ | ⟨y, u, a, b, c⟩
  · rw [a] at hx; cases hx
  · rw [a] at hx; cases hx
    refine ⟨⟨vs, u, .of (hH _ _ hp), b⟩, ?_⟩
    rintro v H' ⟨rfl, z⟩ F hF hF'
    have e := z vs (.of (hH _ _ hp))
    rw [b] at e; cases e
    exact ⟨F, .refl hF', T.mono hF c⟩
def rngI (lo : Int) (n : Nat) : List Int := (List.range n).map fun (i : Nat) => lo + i
theorem yl_rng {lo : Int} {n : Nat} {F1 : Hp} : Yl K (Itr lo n) (rngI lo n) tyInt F1 := by
  refine ⟨fun i H x hH hx => ?_, fun H hH => ?_⟩
  · unfold rngI at hx
    rw [List.getElem?_map] at hx
    cases e : (List.range n)[i]? with
    | none => rw [e] at hx; cases hx
    | some c =>
      rw [e] at hx; cases hx
      obtain ⟨hi, e⟩ := List.getElem?_eq_some_iff.mp e
      rw [List.getElem_range] at e; subst e
      rw [List.length_range] at hi
      refine ⟨hi, ?_⟩
      rintro v H' ⟨rfl, rfl⟩ F _ hF
      exact ⟨F, .refl hF, rfl⟩
  · show n ≤ _
    unfold rngI; rw [List.length_map, List.length_range]; exact Nat.le_refl _
theorem ei_rng1 {r : Mo Int} {ta : TA} (h : EvA K ta E L r (csLast tyInt)) : EvI K (mRng1 ta) E L (r.bind fun j => .grd (-(2 ^ 62) ≤ j ∧ j < 2 ^ 62) (.ok (rngI 0 j.toNat))) tyInt := by
  intro σ F H R hL hs q
  refine h σ F H _ hL hs (q.bind.imp fun l F1 H1 x1 k1 v hv => ?_)
  obtain ⟨u, rfl, rfl⟩ := hv
  obtain ⟨z, k1⟩ := k1.grd
  exact ⟨z.1, z.2, k1.ok x1.2.1 _ yl_rng⟩
def compM (f : α → Mo (Option β)) : List α → List β → Mo (List β)
  | [], acc => .ok acc
  | x :: xs, acc => (f x).bind fun o => match o with | none => compM f xs acc | some y => .lim (acc.length + 1) (compM f xs (acc ++ [y]))
theorem compM_map {f : α → Mo (Option β)} {g : α → β} : ∀ {xs : List α} {acc : List β}, (∀ x ∈ xs, f x = .ok (some (g x))) → acc.length + xs.length ≤ 100000 → compM f xs acc = .ok (acc ++ xs.map g)
  | [], acc, _, _ => by unfold compM; rw [List.map_nil, List.append_nil]
  | x :: xs, acc, h, hl => by
    rw [List.length_cons] at hl
    unfold compM
    rw [h x List.mem_cons_self, Mo.ok_bind]
    show Mo.lim _ _ = _
    rw [Mo.lim_ok (by omega), compM_map (fun y hy => h y (List.mem_cons_of_mem _ hy)) (by rw [List.length_append, List.length_singleton]; omega)]
    simp
def cL (lv : List Str) (fr : List (Str × Nat)) (L : List Sl) : List Sl := lv.map (fun _ => Sl.dead) ++ fr.map fun q => (L[q.2]?).getD .dead
theorem holdF_comp {lv : List Str} {fr : List (Str × Nat)} {σ : St} (h : HoldF L σ F) : HoldF (cL lv fr L) (cS lv fr σ) F := by
  intro i s e
  unfold cL at e
  unfold cS
  by_cases hi : i < lv.length
  · rw [List.getElem?_append_left (by rw [List.length_map]; exact hi), List.getElem?_map, List.getElem?_eq_getElem hi] at e
    cases e; trivial
  · rw [List.getElem?_append_right (by rw [List.length_map]; omega), List.length_map, List.getElem?_map] at e
    rw [List.getElem?_append_right (by rw [List.length_map]; omega), List.length_map, List.getElem?_map]
    cases z : fr[i - lv.length]? with
    | none => rw [z] at e; cases e
    | some q =>
      rw [z] at e
      have e : (L[q.2]?).getD .dead = s := by simpa using e
      show Sl.Z s (σ[q.2]?).join F
      cases y : L[q.2]? with
      | none => rw [y] at e; rw [← e]; trivial
      | some t => rw [y] at e; cases e; exact h _ _ y
theorem len_comp {lv : List Str} {fr : List (Str × Nat)} {σ : St} : (cL lv fr L).length = (cS lv fr σ).length := by unfold cL cS; simp
def cond1 (c : Mo Bool) (f : Mo β) : Mo (Option β) := (c.bind fun b => if b then f.bind fun y => .ok (some y) else .ok none).noex
theorem ev_comp {lv : List Str} {fr : List (Str × Nat)} {wi : TI} {g : TG} {tt : TT} {te : TE} {r : Mo (List α)} {ss : α → List (Nat × Sl)} {c : α → Mo Bool} {f : α → Mo β} {T' : Ty β}
    (hi : EvI K wi E L r T) (hg : TgR K g T ss) (hd : ∀ a, DeadAt (cL lv fr L) ((ss a).map (·.1))) (ht : ∀ a, EvT K tt E0 (setL (cL lv fr L) (ss a)) (c a)) (he : ∀ a, EvF K te E0 (setL (cL lv fr L) (ss a)) (f a) T') :
    EvO K (tComp lv fr wi g tt te) E L (r.bind fun xs => compM (fun x => cond1 (c x) (f x)) xs []) (owL T') := by
  intro σ F0 H0 Q hL hs q
  refine hi σ F0 H0 _ hL hs (q.bind.imp fun xs F1 H1 x1 k1 J Y D hD => ?_)
  have hL1 := hL.mono x1.1
  refine ⟨fun i m ys σ' H' => m = xs.length - i ∧ i ≤ xs.length ∧ ∃ acc Fi, Ext F1 H1 Fi H' ∧ Fi D = none ∧ H' D = some (.lst ys) ∧ Prs T' Fi acc ys ∧ HoldF (cL lv fr L) σ' F1 ∧ σ'.length = (cL lv fr L).length ∧ After K (compM (fun x => cond1 (c x) (f x)) (xs.drop i) acc) E F1 H1 (OwnK (owL T') H0 Q),
    ⟨_, rfl, Nat.zero_le _, [], F1, .heap x1.2.1 (same_new hD _), x1.2.1.free hD, upd_same, .nil, holdF_comp hL1, len_comp.symm, k1⟩, ?_⟩
  rintro i m ys σ' H' ⟨rfl, hi, acc, Fi, xi, hDi, hy, hp, hσ, hln, A⟩
  by_cases hlt : i < xs.length
  · right
    have ex : xs[i]? = some xs[i] := List.getElem?_eq_getElem hlt
    obtain ⟨g1, g2⟩ := Y.go i H' xs[i] (xi.1.trans xi.2.1) ex
    refine ⟨g1, fun ys' σ'' H'' => i + 1 ≤ xs.length ∧ ∃ acc Fi, Ext F1 H1 Fi H'' ∧ Fi D = none ∧ H'' D = some (.lst ys') ∧ Prs T' Fi acc ys' ∧ HoldF (cL lv fr L) σ'' F1 ∧ σ''.length = (cL lv fr L).length ∧ After K (compM (fun x => cond1 (c x) (f x)) (xs.drop (i + 1)) acc) E F1 H1 (OwnK (owL T') H0 Q), fun ys' σ'' H'' z => ⟨xs.length - (i + 1), by omega, rfl, z⟩, fun v H2 hyl => ?_⟩
    obtain ⟨F2, x2, hv⟩ := g2 v H2 hyl Fi xi.1 xi.2.1
    have keep : ∀ {Fa Ha Fb Hb : Hp}, Ext Fa Ha Fb Hb → Fa D = none → Ha D = some (.lst ys) → Fb D = none ∧ Hb D = some (.lst ys) := by
      intro Fa Ha Fb Hb x h1 h2
      refine ⟨?_, x.2.2.1 _ _ h2⟩
      cases z : Fb D with
      | none => rfl
      | some o => have := x.2.2.2 D h1 (by rw [z]; exact Option.some_ne_none _); rw [h2] at this; cases this
    obtain ⟨hD2, hy2⟩ := keep x2 hDi hy
    refine hg xs[i] v σ' F2 H2 _ x2.2.1 hv fun vs hpl => ?_
    have hσ2 : HoldF (cL lv fr L) σ' F2 := hσ.mono (xi.1.trans x2.1)
    obtain ⟨a1, a2, a3⟩ := holdF_plain hpl hln.symm hσ2
    have hσd : HoldF (cL lv fr L) (setS σ' vs) F1 := by
      have hdead := hd xs[i]
      refine fun j s e => ?_
      have h1 := holdF_dead hpl hln.symm hdead hσ2
      by_cases hj : ∃ q ∈ (ss xs[i]).map (·.1), q = j
      · obtain ⟨q, hq, rfl⟩ := hj
        rw [hdead q hq s e]; trivial
      · have : ((setS σ' vs)[j]?) = σ'[j]? := by
          exact setS_get hpl (fun hq => hj ⟨j, hq, rfl⟩)
        rw [this]; exact hσ j s e
    have hdrop : xs.drop i = xs[i] :: xs.drop (i + 1) := List.drop_eq_getElem_cons hlt
    rw [hdrop] at A
    unfold compM at A
    cases ec : c xs[i] with
    | no => unfold cond1 at A; rw [ec] at A; exact A.elim
    | ex cc => unfold cond1 at A; rw [ec] at A; exact A.elim
    | ok bb =>
      refine ht xs[i] _ F2 H2 _ a1 x2.2.1 ?_
      rw [ec]
      intro F3 H3 x3
      obtain ⟨hD3, hy3⟩ := keep x3 hD2 hy2
      have x13 := (xi.trans x2).trans x3
      cases bb with
      | false =>
        rw [if_neg (by decide)]
        refine ⟨hlt, acc, F3, x13, hD3, hy3, hp.mono (x2.1.trans x3.1), hσd, by rw [a2]; exact hln, ?_⟩
        unfold cond1 at A; rw [ec] at A
        exact A
      | true =>
        rw [if_pos rfl]
        cases ef : f xs[i] with
        | no => unfold cond1 at A; rw [ec, ef] at A; exact A.elim
        | ex cc => unfold cond1 at A; rw [ec, ef] at A; exact A.elim
        | ok y =>
          unfold cond1 at A; rw [ec, ef] at A
          have A' : After K (Mo.lim (acc.length + 1) (compM (fun x => cond1 (c x) (f x)) (xs.drop (i + 1)) (acc ++ [y]))) E F1 H1 (OwnK (owL T') H0 Q) := A
          obtain ⟨hz, A'⟩ := A'.lim
          refine he xs[i] _ F3 H3 _ (a1.mono x3.1) x3.2.1 ?_
          rw [ef]
          intro F4 H4 x4 v4 hv4
          obtain ⟨hD4, hy4⟩ := keep x4 hD3 hy3
          have hlen := hp.len
          refine ⟨hy4, by omega, hlt, acc ++ [y], F4, ?_, hD4, upd_same, (hp.mono ((x2.1.trans x3.1).trans x4.1)).append (.cons hv4 .nil), hσd, by rw [a2]; exact hln, A'⟩
          have x14 := x13.trans x4
          refine ⟨x14.1, fun b o z => ?_, fun b o z => ?_, x14.2.2.2⟩
          · unfold upd; split
            · rename_i w; rw [w, hD4] at z; cases z
            · exact x14.2.1 _ _ z
          · unfold upd; split
            · rename_i w; rw [w, hD] at z; cases z
            · exact x14.2.2.1 _ _ z
  · left
    have e : i = xs.length := by omega
    subst e
    refine ⟨Y.stop H' (xi.1.trans xi.2.1), ?_⟩
    rw [List.drop_length] at A
    have A' : OwnK (owL T') H0 Q acc Fi H' := A Fi H' xi
    exact own_new (x1.2.2.1.free hD) hy hDi hp A'
end
end L2
namespace L2
open PySem PySem.Spec PyProof.Rows
inductive Out (ρ B S : Type) where
  | nx (s : S) | rt (r : ρ) | bk (b : B) | ct (b : B)
def Okk (F0 H0 F h H : Hp) : Prop := Ext F0 H0 F H ∧ Dj F h ∧ Same h H ∧ (∀ p, h p ≠ none → H0 p = none) ∧ ∀ p xs, h p ≠ some (.tup xs)
section
variable {K : PySem.W.Frag} {E : XK} {α β γ ρ S S' B B' : Type} {F0 H0 F h H : Hp} {L : List Sl} {e e1 e2 : TE} {T : Ty α} {r : Mo α} {O : Own ρ}
def Fin (K : PySem.W.Frag) (r : Mo (Out ρ B S)) (E : XK) (LS : S → List Sl) (LB : B → List Sl) (O : Own ρ) (F0 H0 : Hp) (D : Ends) : Prop := match r with
  | .ok (.nx s) => ∀ σ F h H, Hold (LS s) σ F h → Okk F0 H0 F h H → D.nx σ H
  | .ok (.bk b) => ∀ σ F h H, Hold (LB b) σ F h → Okk F0 H0 F h H → D.bk σ H
  | .ok (.ct b) => ∀ σ F h H, Hold (LB b) σ F h → Okk F0 H0 F h H → D.ct σ H
  | .ok (.rt a) => ∀ v F h H, Okk F0 H0 F h H → O.O a v F h → D.rt v H
  | .ex c => ∀ F h H, Okk F0 H0 F h H → E (.ref (gA K c)) none H
  | .no => False
def EvS (K : PySem.W.Frag) (t : TS) (E : XK) (L : List Sl) (r : Mo (Out ρ B S)) (LS : S → List Sl) (LB : B → List Sl) (O : Own ρ) : Prop :=
  ∀ F0 H0 σ F h H (D : Ends), Hold L σ F h → Okk F0 H0 F h H → Fin K r E LS LB O F0 H0 D → t D σ H
variable {t u : TS} {LS : S → List Sl} {LS' : S' → List Sl} {LB : B → List Sl}
def thenO (r : Mo (Out ρ B S)) (k : S → Mo (Out ρ B S')) : Mo (Out ρ B S') := r.bind fun o => match o with | .nx s => k s | .rt a => .ok (.rt a) | .bk b => .ok (.bk b) | .ct b => .ok (.ct b)
theorem s_seq {r : Mo (Out ρ B S)} {k : S → Mo (Out ρ B S')} (h1 : EvS K t E L r LS LB O) (h2 : ∀ s, EvS K u E (LS s) (k s) LS' LB O) : EvS K (tSeq t u) E L (thenO r k) LS' LB O := by
  intro F0 H0 σ F h H D hL ok fin
  refine h1 F0 H0 σ F h H { D with nx := u D } hL ok ?_
  cases r with
  | no => exact fin
  | ex c => exact fin
  | ok o =>
    cases o with
    | nx s => exact fun σ F h H hL ok => h2 s F0 H0 σ F h H D hL ok fin
    | rt a => exact fin
    | bk b => exact fin
    | ct b => exact fin
theorem Okk.thaw (ok : Okk F0 H0 F h H) : Same (un F h) H := fun p o e => by
  unfold un at e
  cases z : F p with
  | some w => rw [z] at e; cases e; exact ok.1.2.1 _ _ z
  | none => rw [z] at e; exact ok.2.2.1 _ _ e
def less (G h : Hp) : Hp := fun p => match h p with | none => G p | some _ => none
theorem less_none {G h : Hp} {p : Addr} (e : h p = none) : less G h p = G p := by unfold less; rw [e]
theorem Okk.back (ok : Okk F0 H0 F h H) {G' H' : Hp} (x : Ext (un F h) H G' H') : Okk F0 H0 (less G' h) h H' ∧ Same F (less G' h) ∧ Tups G' (less G' h) := by
  obtain ⟨o1, o2, o3, o4, o5⟩ := ok
  have hs : Same F (less G' h) := fun p o e => by
    have hp : h p = none := by
      rcases o2 p with z | z
      · rw [z] at e; cases e
      · exact z
    rw [less_none hp]; exact x.1 _ _ (un_same _ _ e)
  refine ⟨⟨⟨o1.1.trans hs, fun p o e => ?_, o1.2.2.1.trans x.2.2.1, fun p a b => ?_⟩, fun p => ?_, fun p o e => ?_, o4, o5⟩, hs, fun p xs e => ?_⟩
  · unfold less at e
    split at e
    · exact x.2.1 _ _ e
    · cases e
  · unfold less at b
    split at b
    · rename_i z
      cases y : un F h p with
      | none => exact o1.2.2.1.free (x.2.2.2 p y b)
      | some o =>
        unfold un at y
        cases w : F p with
        | some _ => exact o1.2.2.2 p a (by rw [w]; exact Option.some_ne_none _)
        | none => rw [w, z] at y; cases y
    · exact absurd rfl b
  · unfold less
    cases z : h p with
    | none => exact .inr rfl
    | some o => exact .inl rfl
  · exact x.2.1 _ _ (x.1 _ _ (un_own o2 _ _ e))
  · unfold less
    cases z : h p with
    | none => exact e
    | some o =>
      have := x.1 _ _ (un_own o2 _ _ z)
      rw [e] at this; cases this
      exact absurd z (o5 p xs)
theorem fin_ok {r : Mo α} {k : α → Mo (Out ρ B S)} {G : Hp} {D : Ends} {kk : α → Hp → Hp → Prop} (ok : Okk F0 H0 F h H) (G1 : Hp) (hG : G1 = un F h ∨ G1 = F) (fin : Fin K (r.bind k) E LS LB O F0 H0 D)
    (hk : ∀ a F' H', r = .ok a → Ext G1 H F' H' → kk a F' H') : After K r E G1 H kk := by
  cases r with
  | ok a => exact fun F' H' x => hk a F' H' rfl x
  | no => exact fin
  | ex c =>
    intro F' H' x
    rcases hG with rfl | rfl
    · exact fin _ _ _ (ok.back x).1
    · refine fin F' h H' ⟨ok.1.trans x, fun p => ?_, ok.2.2.1.trans x.2.2.1, ok.2.2.2.1, ok.2.2.2.2⟩
      cases z : h p with
      | none => exact .inr rfl
      | some o =>
        left
        rcases ok.2.1 p with y | y
        · cases w : F' p with
          | none => rfl
          | some o' => have := x.2.2.2 p y (by rw [w]; exact Option.some_ne_none _); rw [ok.2.2.1 _ _ z] at this; cases this
        · rw [y] at z; cases z
theorem Okk.cold (ok : Okk F0 H0 F h H) {F' H' : Hp} (x : Ext F H F' H') : Okk F0 H0 F' h H' := by
  refine ⟨ok.1.trans x, fun p => ?_, ok.2.2.1.trans x.2.2.1, ok.2.2.2.1, ok.2.2.2.2⟩
  cases z : h p with
  | none => exact .inr rfl
  | some o =>
    left
    rcases ok.2.1 p with y | y
    · cases w : F' p with
      | none => rfl
      | some o' => have := x.2.2.2 p y (by rw [w]; exact Option.some_ne_none _); rw [ok.2.2.1 _ _ z] at this; cases this
    · rw [y] at z; cases z
theorem hold_setF {i : Nat} {s : Sl} {σ : St} {a : α} {v : V} (hi : L[i]? = some s) (hL : Hold L σ F h) (hv : T.R a v F) : Hold (L.set i (.fz T a)) (σ.set i (some v)) F h := by
  obtain ⟨o, h1, h2, _, j, _, f⟩ := hL.at i hi
  exact f (.fz T a) (some v) h1 h j ⟨v, rfl, hv⟩
theorem hold_setO {i : Nat} {s : Sl} {σ : St} {a : α} {v : V} {O1 : Own α} {hn : Hp} (ok : Okk F0 H0 F h H) (hi : L[i]? = some s) (hL : Hold L σ F h) (fresh : ∀ p, hn p ≠ none → H0 p = none) (dj : Dj F hn) (dh : Dj hn h) (hs : Same hn H) (hv : O1.O a v F hn) :
    ∃ h', Hold (L.set i (.ow O1 a)) (σ.set i (some v)) F h' ∧ Okk F0 H0 F h' H := by
  obtain ⟨o, h1, h2, _, j, _, f⟩ := hL.at i hi
  have d2 : Dj hn h2 := fun p => by
    rcases dh p with z | z
    · exact .inl z
    · exact .inr (j.r.free z)
  refine ⟨un hn h2, f (.ow O1 a) (some v) hn _ (jn_of d2) ⟨v, rfl, hv⟩, ok.1, fun p => ?_, fun p o e => ?_, fun p e => ?_, fun p xs e => ?_⟩
  · unfold un
    cases z : hn p with
    | some w =>
      rcases dj p with y | y
      · exact .inl y
      · rw [y] at z; cases z
    | none =>
      rcases ok.2.1 p with y | y
      · exact .inl y
      · exact .inr (j.r.free y)
  · unfold un at e
    cases z : hn p with
    | some w => rw [z] at e; cases e; exact hs _ _ z
    | none => rw [z] at e; exact ok.2.2.1 _ _ (j.r _ _ e)
  · unfold un at e
    cases z : hn p with
    | some w => exact fresh p (by rw [z]; exact Option.some_ne_none _)
    | none =>
      rw [z] at e
      cases y : h2 p with
      | none => exact absurd y e
      | some w => exact ok.2.2.2.1 p (by rw [j.r _ _ y]; exact Option.some_ne_none _)
  · unfold un at e
    cases z : hn p with
    | some w => rw [z] at e; cases e; exact O1.notup hv p xs z
    | none => rw [z] at e; exact ok.2.2.2.2 p xs (j.r _ _ e)
theorem s_asg {i : Nat} {s : Sl} {k : α → Mo (Out ρ B S)} (hi : L[i]? = some s) (hT : Imm T) (he : EvF K e E L r T) (hk : ∀ a, EvS K u E (L.set i (.fz T a)) (k a) LS LB O) : EvS K (tSeq (tAsg e (gName i)) u) E L (r.bind k) LS LB O := by
  intro F0 H0 σ F h H D hL ok fin
  refine he σ (un F h) H _ (hL.froz ok.2.1) ok.thaw (fin_ok (G := F) ok _ (.inl rfl) fin fun a F' H' hr x v hv => ?_)
  obtain ⟨o, hs, ht⟩ := ok.back x
  rw [hr] at fin
  exact hk a F0 H0 _ _ h H' D (hold_setF hi (hL.mono hs) (hT ht hv)) o fin
theorem dj_own {hn h : Hp} (hh : Same h H) (fresh : ∀ p, hn p ≠ none → H p = none) : Dj hn h := fun p => by
  cases z : hn p with
  | none => exact .inl rfl
  | some w =>
    have := fresh p (by rw [z]; exact Option.some_ne_none _)
    exact .inr (hh.free this)
theorem s_asgO {i : Nat} {s : Sl} {O1 : Own α} {k : α → Mo (Out ρ B S)} (hi : L[i]? = some s) (hO : ImmO O1) (he : EvO K e E L r O1) (hk : ∀ a, EvS K u E (L.set i (.ow O1 a)) (k a) LS LB O) : EvS K (tSeq (tAsg e (gName i)) u) E L (r.bind k) LS LB O := by
  intro F0 H0 σ F h H D hL ok fin
  refine he σ (un F h) H _ (hL.froz ok.2.1) ok.thaw (fin_ok (G := F) ok _ (.inl rfl) fin fun a F' H' hr x v hn fresh dj hsn hv => ?_)
  obtain ⟨o, hs, ht⟩ := ok.back x
  rw [hr] at fin
  have dj' : Dj (less F' h) hn := fun p => by
    unfold less
    cases z : h p with
    | none => exact dj p
    | some w => exact .inl rfl
  obtain ⟨h', a1, a2⟩ := hold_setO o hi (hL.mono hs) (fun p z => ok.1.2.2.1.free (fresh p z)) dj' (dj_own ok.2.2.1 fresh) hsn (hO ht hv)
  exact hk a F0 H0 _ _ h' H' D a1 a2 fin
theorem s_asgOC {i : Nat} {s : Sl} {O1 : Own α} {k : α → Mo (Out ρ B S)} (hi : L[i]? = some s) (he : EvO K e E (L.map Sl.cold) r O1) (hk : ∀ a, EvS K u E (L.set i (.ow O1 a)) (k a) LS LB O) : EvS K (tSeq (tAsg e (gName i)) u) E L (r.bind k) LS LB O := by
  intro F0 H0 σ F h H D hL ok fin
  refine he σ F H _ hL.coldF ok.1.2.1 (fin_ok (G := F) ok _ (.inr rfl) fin fun a F' H' hr x v hn fresh dj hsn hv => ?_)
  rw [hr] at fin
  obtain ⟨h', a1, a2⟩ := hold_setO (ok.cold x) hi (hL.mono x.1) (fun p z => ok.1.2.2.1.free (fresh p z)) dj (dj_own ok.2.2.1 fresh) hsn hv
  exact hk a F0 H0 _ _ h' H' D a1 a2 fin
theorem set_self {α : Type} {l : List α} {i : Nat} {o : α} (h : l[i]? = some o) : l.set i o = l := by
  obtain ⟨hi, e⟩ := List.getElem?_eq_some_iff.mp h
  rw [← e]; exact List.set_getElem_self hi
theorem s_frz {i : Nat} {O1 : Own α} {a : α} {r : Mo (Out ρ B S)} (hi : L[i]? = some (.ow O1 a)) (hk : EvS K u E (L.set i (.fz O1.fr a)) r LS LB O) : EvS K u E L r LS LB O := by
  intro F0 H0 σ F h H D hL ok fin
  obtain ⟨o, h1, h2, e1, j, ⟨v, e2, hv⟩, f⟩ := hL.at i hi
  obtain ⟨o1, o2, o3, o4, o5⟩ := ok
  have dj1 : Dj F h1 := fun p => by
    rcases o2 p with z | z
    · exact .inl z
    · exact .inr (j.l.free z)
  have dj2 : Dj F h2 := fun p => by
    rcases o2 p with z | z
    · exact .inl z
    · exact .inr (j.r.free z)
  have g1 : Hold (L.set i (.dead)) σ F h2 := by
    have := f .dead o (fun _ => none) h2 (fun p => .inl ⟨rfl, rfl⟩) trivial
    rwa [set_self e1] at this
  have g2 : Hold (L.set i (.fz O1.fr a)) σ (un F h1) h2 := by
    have g3 := g1.mono (un_same (h := h1))
    have hi' : (L.set i Sl.dead)[i]? = some .dead := by
      rw [List.getElem?_set_self]
      exact (List.getElem?_eq_some_iff.mp hi).1
    have := hold_setF (T := O1.fr) hi' g3 (O1.frz dj1 hv)
    rw [List.set_set] at this
    subst e2
    rwa [set_self e1] at this
  refine hk F0 H0 σ _ h2 H D g2 ⟨⟨o1.1.trans un_same, fun p o e => ?_, o1.2.2.1, fun p a b => ?_⟩, fun p => ?_, j.r.trans o3, fun p z => ?_, fun p xs e => o5 p xs (j.r _ _ e)⟩ fin
  · unfold un at e
    cases z : F p with
    | some w => rw [z] at e; cases e; exact o1.2.1 _ _ z
    | none => rw [z] at e; exact o3 _ _ (j.l _ _ e)
  · unfold un at b
    cases z : F p with
    | some w => exact o1.2.2.2 p a (by rw [z]; exact Option.some_ne_none _)
    | none =>
      rw [z] at b
      cases y : h1 p with
      | none => exact absurd y b
      | some w => exact o4 p (by rw [j.l _ _ y]; exact Option.some_ne_none _)
  · unfold un
    cases z : F p with
    | some w =>
      rcases dj2 p with y | y
      · rw [y] at z; cases z
      · exact .inr y
    | none => exact j.dj p
  · cases y : h2 p with
    | none => exact absurd y z
    | some w => exact o4 p (by rw [j.r _ _ y]; exact Option.some_ne_none _)
theorem s_ret {r : Mo ρ} (hO : ImmO O) (he : EvO K e E L r O) : EvS K (tRet e) E L (r.bind fun a => .ok (.rt a)) LS LB O := by
  intro F0 H0 σ F h H D hL ok fin
  refine he σ (un F h) H _ (hL.froz ok.2.1) ok.thaw (fin_ok (G := F) ok _ (.inl rfl) fin fun a F' H' hr x v hn fresh dj hsn hv => ?_)
  obtain ⟨o, hs, ht⟩ := ok.back x
  rw [hr] at fin
  refine fin v _ hn H' ⟨o.1, fun p => ?_, hsn, fun p z => ok.1.2.2.1.free (fresh p z), O.notup hv⟩ (hO ht hv)
  unfold less
  cases z : h p with
  | none => exact dj p
  | some w => exact .inl rfl
theorem s_retV {i : Nat} {a : ρ} (hi : L[i]? = some (.ow O a)) : EvS K (tRet (mVar i)) E L (.ok (.rt a)) LS LB O := by
  intro F0 H0 σ F h H D hL ok fin
  obtain ⟨o, h1, h2, e1, j, ⟨v, e2, hv⟩, f⟩ := hL.at i hi
  subst e2
  show mVar i σ H D.rt
  unfold mVar
  rw [e1]
  obtain ⟨o1, o2, o3, o4, o5⟩ := ok
  refine fin v F h1 H ⟨o1, fun p => ?_, j.l.trans o3, fun p z => ?_, O.notup hv⟩ hv
  · rcases o2 p with z | z
    · exact .inl z
    · exact .inr (j.l.free z)
  · cases y : h1 p with
    | none => exact absurd y z
    | some w => exact o4 p (by rw [j.l _ _ y]; exact Option.some_ne_none _)
theorem s_if {c : TT} {b : Mo Bool} {r1 r2 : Mo (Out ρ B S)} (hc : EvT K c E L b) (h1 : EvS K t E L r1 LS LB O) (h2 : EvS K u E L r2 LS LB O) : EvS K (mIfS c t u) E L (b.bind fun c => if c then r1 else r2) LS LB O := by
  intro F0 H0 σ F h H D hL ok fin
  refine hc σ (un F h) H _ (hL.froz ok.2.1) ok.thaw (fin_ok (G := F) ok _ (.inl rfl) fin fun a F' H' hr x => ?_)
  obtain ⟨o, hs, ht⟩ := ok.back x
  rw [hr] at fin
  have fin' : Fin K (if a then r1 else r2) E LS LB O F0 H0 D := fin
  refine ⟨fun z => ?_, fun z => ?_⟩
  · rw [if_pos z] at fin'; exact h1 F0 H0 σ _ h H' D (hL.mono hs) o fin'
  · rw [if_neg (by rw [z]; decide)] at fin'; exact h2 F0 H0 σ _ h H' D (hL.mono hs) o fin'
inductive Sub : List Sl → List Sl → Prop
  | nil : Sub [] []
  | same {s : Sl} {L L' : List Sl} (h : Sub L L') : Sub (s :: L) (s :: L')
  | dead {s : Sl} {L L' : List Sl} (h : Sub L L') : Sub (s :: L) (.dead :: L')
theorem Sub.hold {L L' : List Sl} (w : Sub L L') : ∀ {σ : St} {F h : Hp}, Hold L σ F h → Hold L' σ F h := by
  induction w with
  | nil => exact fun h => h
  | same _ ih =>
    intro σ F h q
    cases σ with
    | nil => exact q.elim
    | cons o σ => obtain ⟨h1, h2, j, p, r⟩ := q; exact ⟨h1, h2, j, p, ih r⟩
  | dead _ ih =>
    intro σ F h q
    cases σ with
    | nil => exact q.elim
    | cons o σ => obtain ⟨h1, h2, j, p, r⟩ := q; exact ⟨h1, h2, j, trivial, ih r⟩
theorem s_nextW {s : S} (w : Sub L (LS s)) : EvS K tNext E L (.ok (.nx s)) LS LB O := fun F0 H0 σ F h H D hL ok fin => fin σ F h H (w.hold hL) ok
theorem s_end {r : Mo (Out ρ B S)} (h : EvS K (tSeq t tNext) E L r LS LB O) : EvS K t E L r LS LB O := h
def forO (step : S → α → Mo (Out ρ S S)) : List α → S → Mo (Out ρ B S)
  | [], s => .ok (.nx s)
  | x :: xs, s => (step s x).bind fun o => match o with | .nx s' => forO step xs s' | .ct s' => forO step xs s' | .bk s' => .ok (.nx s') | .rt a => .ok (.rt a)
theorem hold_plain {ss : List (Nat × Sl)} {vs : List (Nat × Option V)} (p : Plain F ss vs) : ∀ {L : List Sl} {σ : St}, Hold L σ F h → Hold (setL L ss) (setS σ vs) F h := by
  induction p with
  | nil => exact fun h => h
  | cons hv t ih =>
    rename_i T a i v ss vs
    intro L σ q
    refine ih (L := L.set i (.fz T a)) (σ := σ.set i (some v)) ?_
    by_cases hi : i < L.length
    · exact hold_setF (List.getElem?_eq_getElem hi) q hv
    · rw [List.set_eq_of_length_le (by omega), List.set_eq_of_length_le (by have := q.len; omega)]; exact q
theorem Okk.rebase {F1 H1 : Hp} (x : Ext F0 H0 F1 H1) (ok : Okk F0 H0 F h H) (s : Same F1 F) : Okk F1 H0 F h H := by
  obtain ⟨o1, o2, o3, o4, o5⟩ := ok
  refine ⟨⟨s, o1.2.1, o1.2.2.1, fun p a b => o1.2.2.2 p (x.1.free a) b⟩, o2, o3, o4, o5⟩
theorem Okk.unbase {F1 H1 : Hp} (x : Ext F0 H0 F1 H1) (ok : Okk F1 H0 F h H) : Okk F0 H0 F h H := by
  obtain ⟨o1, o2, o3, o4, o5⟩ := ok
  refine ⟨⟨x.1.trans o1.1, o1.2.1, o1.2.2.1, fun p a b => ?_⟩, o2, o3, o4, o5⟩
  cases z : F1 p with
  | none => exact o1.2.2.2 p z b
  | some w => exact x.2.2.2 p a (by rw [z]; exact Option.some_ne_none _)
theorem s_for {wi : TI} {g : TG} {tb : TS} {s0 : S} {r : Mo (List α)} {ss : α → List (Nat × Sl)} {step : S → α → Mo (Out ρ S S)} (hi : EvI K wi E ((LS s0).map Sl.cold) r T) (hg : TgR K g T ss)
    (hb : ∀ s a, EvS K tb E (setL (LS s) (ss a)) (step s a) LS LS O) : EvS K (tFor wi g tb) E (LS s0) (r.bind fun xs => forO step xs s0) LS LB O := by
  intro F0 H0 σ F h H D hL ok fin
  refine hi σ F H _ hL.coldF ok.1.2.1 (fin_ok (G := F) ok _ (.inr rfl) fin fun xs F1 H1 hr x1 J Y => ?_)
  rw [hr] at fin
  have xx := ok.1.trans x1
  refine ⟨fun i m σ H => m = xs.length - i ∧ i ≤ xs.length ∧ ∃ s F h, Hold (LS s) σ F h ∧ Okk F1 H0 F h H ∧ Fin K (forO (B := B) step (xs.drop i) s) E LS LB O F0 H0 D,
    ⟨_, rfl, Nat.zero_le _, s0, F1, h, hL.mono x1.1, (ok.cold x1).rebase xx (Same.refl _), fin⟩, ?_⟩
  rintro i m σ H ⟨rfl, hi, s, F, h, hL, ok, fin⟩
  have s1 : Same F1 H := ok.1.1.trans ok.1.2.1
  by_cases hlt : i < xs.length
  · right
    obtain ⟨g1, g2⟩ := Y.go i H xs[i] s1 (List.getElem?_eq_getElem hlt)
    refine ⟨g1, fun σ' H' => i + 1 ≤ xs.length ∧ ∃ s F h, Hold (LS s) σ' F h ∧ Okk F1 H0 F h H' ∧ Fin K (forO (B := B) step (xs.drop (i + 1)) s) E LS LB O F0 H0 D, fun σ' H' z => ⟨xs.length - (i + 1), by omega, rfl, z⟩, fun v H2 hy => ?_⟩
    obtain ⟨F2, x2, hv⟩ := g2 v H2 hy F ok.1.1 ok.1.2.1
    refine hg xs[i] v σ F2 H2 _ x2.2.1 hv fun vs hp => ?_
    refine hb s xs[i] F1 H0 _ F2 h H2 _ (hold_plain hp (hL.mono x2.1)) (ok.cold x2) ?_
    rw [List.drop_eq_getElem_cons hlt] at fin
    unfold forO at fin
    cases e : step s xs[i] with
    | no => rw [e] at fin; exact fin
    | ex c => rw [e] at fin; exact fun F h H ok => fin F h H (ok.unbase xx)
    | ok o =>
      rw [e] at fin
      cases o with
      | nx s' => exact fun σ' F' h' H' hL' ok' => ⟨hlt, s', F', h', hL', ok', fin⟩
      | ct s' => exact fun σ' F' h' H' hL' ok' => ⟨hlt, s', F', h', hL', ok', fin⟩
      | bk s' => exact fun σ' F' h' H' hL' ok' => fin σ' F' h' H' hL' (ok'.unbase xx)
      | rt a => exact fun v F h H ok => fin v F h H (ok.unbase xx)
  · left
    have e : i = xs.length := by omega
    subst e
    rw [List.drop_length] at fin
    exact ⟨Y.stop H s1, fin σ F h H hL (ok.unbase xx)⟩
theorem hold_mut {i : Nat} {σ : St} {xs : List α} (hL : Hold L σ F h) (hi : L[i]? = some (.ow (owL T) xs)) (ok : Okk F0 H0 F h H) :
    ∃ p vs, σ[i]? = some (some (.ref p)) ∧ H p = some (.lst vs) ∧ Prs T F xs vs ∧ ∀ xs' vs', Prs T F xs' vs' → ∃ h', Hold (L.set i (.ow (owL T) xs')) σ F h' ∧ Okk F0 H0 F h' (upd H p (.lst vs')) := by
  obtain ⟨o, h1, h2, e1, j, ⟨v, e2, p, vs, rfl, rfl, hr⟩, f⟩ := hL.at i hi
  subst e2
  obtain ⟨o1, o2, o3, o4, o5⟩ := ok
  have hp : h p = some (.lst vs) := j.l _ _ one_same
  have h2p : h2 p = none := by
    rcases j.dj p with z | z
    · rw [one_same] at z; cases z
    · exact z
  have Fp : F p = none := by
    rcases o2 p with z | z
    · exact z
    · rw [hp] at z; cases z
  have H0p : H0 p = none := o4 p (by rw [hp]; exact Option.some_ne_none _)
  refine ⟨p, vs, e1, o3 _ _ hp, hr, fun xs' vs' hr' => ?_⟩
  have d2 : Dj (one p (.lst vs')) h2 := fun q => by
    unfold one; split
    · rename_i z; rw [z]; exact .inr h2p
    · exact .inl rfl
  have g := f (.ow (owL T) xs') (some (.ref p)) (one p (.lst vs')) _ (jn_of d2) ⟨_, rfl, p, vs', rfl, rfl, hr'⟩
  rw [set_self e1] at g
  refine ⟨_, g, ⟨o1.1, fun q o z => ?_, fun q o z => ?_, o1.2.2.2⟩, fun q => ?_, fun q o z => ?_, fun q z => ?_, fun q ys z => ?_⟩
  · unfold upd; split
    · rename_i w; rw [w, Fp] at z; cases z
    · exact o1.2.1 _ _ z
  · unfold upd; split
    · rename_i w; rw [w, H0p] at z; cases z
    · exact o1.2.2.1 _ _ z
  · by_cases w : q = p
    · rw [w]; exact .inl Fp
    · unfold un one; simp only [if_neg w]
      rcases o2 q with z | z
      · exact .inl z
      · exact .inr (j.r.free z)
  · unfold un one at z
    unfold upd
    by_cases w : q = p
    · rw [if_pos w]; simp only [if_pos w] at z; exact z
    · rw [if_neg w]; simp only [if_neg w] at z; exact o3 _ _ (j.r _ _ z)
  · unfold un one at z
    by_cases w : q = p
    · rw [w]; exact H0p
    · simp only [if_neg w] at z
      cases y : h2 q with
      | none => exact absurd y z
      | some u => exact o4 q (by rw [j.r _ _ y]; exact Option.some_ne_none _)
  · unfold un one at z
    by_cases w : q = p
    · simp only [if_pos w] at z; cases z
    · simp only [if_neg w] at z; exact o5 q ys (j.r _ _ z)
theorem mvar_at {i : Nat} {σ : St} {v : V} {Q : VK} (e : σ[i]? = some (some v)) (q : Q v H) : mVar i σ H Q := by unfold mVar; rw [e]; exact q
theorem fin_lim {n : Nat} {r : Mo (Out ρ B S)} {D : Ends} (h : Fin K (Mo.lim n r) E LS LB O F0 H0 D) : n ≤ sizeLine ∧ Fin K r E LS LB O F0 H0 D := by
  unfold Mo.lim at h
  split at h
  · exact ⟨by assumption, h⟩
  · exact h.elim
theorem fin_opt {x : Option α} {k : α → Mo (Out ρ B S)} {D : Ends} (h : Fin K ((Mo.opt x).bind k) E LS LB O F0 H0 D) : ∃ a, x = some a ∧ Fin K (k a) E LS LB O F0 H0 D := by
  cases x with
  | none => exact h.elim
  | some a => exact ⟨a, rfl, h⟩
theorem s_append {i : Nat} {xs : List α} {k : α → Mo (Out ρ B S)} (hi : L[i]? = some (.ow (owL T) xs)) (hT : Imm T) (he : EvF K e E L r T) (hk : ∀ a, EvS K u E (L.set i (.ow (owL T) (xs ++ [a]))) (k a) LS LB O) :
    EvS K (tSeq (tDrop (tBM K "list" rAppend (mVar i) (tCons e tNil))) u) E L (r.bind fun a => .lim (xs.length + 1) (k a)) LS LB O := by
  intro F0 H0 σ F h H D hL ok fin
  obtain ⟨p, vs, e1, hp, hr, _⟩ := hold_mut hL hi ok
  show mVar i σ H fun x H1 => tyV K "list" x H1 ∧ tCons e tNil σ H1 fun xs H2 => rAppend x xs H2 (fun _ H3 => u D σ H3)
  refine mvar_at e1 ⟨.inl ⟨rfl, vs, .of hp⟩, ?_⟩
  refine he σ (un F h) H _ (hL.froz ok.2.1) ok.thaw (fin_ok (G := F) ok _ (.inl rfl) fin fun a F' H' hra x v hv => ?_)
  obtain ⟨o, hs, ht⟩ := ok.back x
  rw [hra] at fin
  obtain ⟨hz, fin⟩ := fin_lim (show Fin K (Mo.lim (xs.length + 1) (k a)) E LS LB O F0 H0 D from fin)
  obtain ⟨p', vs', e1', hp', hr', mm⟩ := hold_mut (hL.mono hs) hi o
  rw [e1] at e1'; cases e1'
  obtain ⟨h', a1, a2⟩ := mm (xs ++ [a]) (vs' ++ [v]) (hr'.append (.cons (hT ht hv) .nil))
  exact ⟨p, vs', v, rfl, rfl, hp', by rw [← hr'.len]; omega, hk a F0 H0 σ _ h' _ D a1 a2 fin⟩
theorem s_extend {i : Nat} {xs : List α} {r : Mo (List α)} {k : List α → Mo (Out ρ B S)} (hi : L[i]? = some (.ow (owL T) xs)) (hT : Imm T) (he : EvF K e E L r (tyL T)) (hk : ∀ a, EvS K u E (L.set i (.ow (owL T) (xs ++ a))) (k a) LS LB O) :
    EvS K (tSeq (tDrop (tBM K "list" rExtend (mVar i) (tCons e tNil))) u) E L (r.bind fun a => .lim (xs.length + a.length) (k a)) LS LB O := by
  intro F0 H0 σ F h H D hL ok fin
  obtain ⟨p, vs, e1, hp, hr, _⟩ := hold_mut hL hi ok
  show mVar i σ H fun x H1 => tyV K "list" x H1 ∧ tCons e tNil σ H1 fun xs H2 => rExtend x xs H2 (fun _ H3 => u D σ H3)
  refine mvar_at e1 ⟨.inl ⟨rfl, vs, .of hp⟩, ?_⟩
  refine he σ (un F h) H _ (hL.froz ok.2.1) ok.thaw (fin_ok (G := F) ok _ (.inl rfl) fin fun a F' H' hra x v ⟨p2, us, ev, hp2, hr2⟩ => ?_)
  obtain ⟨o, hs, ht⟩ := ok.back x
  rw [hra] at fin
  subst ev
  obtain ⟨hz, fin⟩ := fin_lim (show Fin K (Mo.lim (xs.length + a.length) (k a)) E LS LB O F0 H0 D from fin)
  obtain ⟨p', vs', e1', hp', hr', mm⟩ := hold_mut (hL.mono hs) hi o
  rw [e1] at e1'; cases e1'
  obtain ⟨h', a1, a2⟩ := mm (xs ++ a) (vs' ++ us) (hr'.append (hr2.imm hT ht))
  exact ⟨p, p2, vs', us, rfl, rfl, hp', x.2.1 _ _ hp2, by rw [← hr'.len, ← hr2.len]; exact hz, hk a F0 H0 σ _ h' _ D a1 a2 fin⟩
def fnO (r : Mo (Out ρ Unit Unit)) : Mo ρ := r.bind fun o => match o with | .rt a => .ok a | _ => .no
inductive Args (F : Hp) : List V → List Sl → Prop
  | nil : Args F [] []
  | cons {α : Type} {T : Ty α} {a : α} {v : V} {vs ss} (h : T.R a v F) (t : Args F vs ss) : Args F (v :: vs) (.fz T a :: ss)
theorem Args.hold {vs : List V} {ss : List Sl} (a : Args F vs ss) (n : Nat) : Hold (ss ++ List.replicate n .dead) (vs.map some ++ List.replicate n none) F (fun _ => none) := by
  induction a with
  | nil =>
    induction n with
    | zero => trivial
    | succ n ih => exact ⟨fun _ => none, fun _ => none, fun p => .inl ⟨rfl, rfl⟩, trivial, ih⟩
  | cons hv t ih => exact ⟨fun _ => none, fun _ => none, fun p => .inl ⟨rfl, rfl⟩, ⟨_, rfl, hv⟩, ih⟩
def CsS (C : Cs γ) (ss : γ → List Sl) : Prop := ∀ {c vs F}, C.R c vs F → Args F vs (ss c)
theorem css_last : CsS (csLast T) fun a => [.fz T a] := fun ⟨v, e, h⟩ => by rw [e]; exact .cons h .nil
theorem css_cons {C : Cs γ} {ss : γ → List Sl} (h : CsS C ss) : CsS (csCons T C) fun c => .fz T c.1 :: ss c.2 := fun ⟨v, us, e, q, z⟩ => by rw [e]; exact .cons q (h z)
theorem okk_start (hs : Same F H) : Okk F H F (fun _ => none) H := by
  refine ⟨.refl hs, fun p => .inr rfl, fun p o e => ?_, fun p e => absurd rfl e, fun p xs e => ?_⟩
  · cases e
  · cases e
theorem fn_rd {t : XK → TS} {C : Cs γ} {ss : γ → List Sl} {f : γ → Mo (Out ρ Unit Unit)} {N : List Str} (n m : Nat) (hn : CsN C n) (hm : N.length - n = m) (hC : CsS C ss) (h : ∀ c E, EvS K (t E) E (ss c ++ List.replicate m .dead) (f c) (fun _ : Unit => []) (fun _ : Unit => []) O) :
    ∀ vs H Q E, Ct K C (fun c => fnO (f c)) O vs H Q E → t E { nx := fun _ H' => Q .non H', rt := Q } (start N vs) H := by
  rintro vs H Q E ⟨F, c, hs, hc, q⟩
  have hstart : start N vs = vs.map some ++ List.replicate m none := by unfold start; rw [hn hc, hm]
  rw [hstart]
  refine h c E F H _ F (fun _ => none) H _ ((hC hc).hold m) (okk_start hs) ?_
  have q : After K (fnO (f c)) E F H (OwnK O H Q) := q
  cases e : f c with
  | no => rw [e] at q; exact q
  | ex cc => rw [e] at q; exact fun F h H ok => q F H ok.1
  | ok o =>
    rw [e] at q
    cases o with
    | nx s => exact q.elim
    | bk s => exact q.elim
    | ct s => exact q.elim
    | rt a => exact fun v F' h' H' ok hv => q F' H' ok.1 v h' (fun p z => ok.2.2.2.1 p z) ok.2.1 ok.2.2.1 hv
end
end L2
namespace L2
open PySem PySem.Spec PyProof.Rows
section
variable {K : PySem.W.Frag} {E : XK} {α β γ ρ S S' B B' : Type} {F0 H0 F h H : Hp} {L L' : List Sl} {e e1 e2 : TE} {T : Ty α} {r : Mo α} {O : Own ρ} {t u : TS} {LS : S → List Sl} {LS' : S' → List Sl} {LB : B → List Sl}
def CDivG (i j : Int) : Prop := 0 < j ∧ Builtin.divisionGoesByPylong i j = false
instance (i j : Int) : Decidable (CDivG i j) := inferInstanceAs (Decidable (_ ∧ _))
instance (i j : Int) : Decidable (IntMulOk i j) := inferInstanceAs (Decidable (¬ _))
abbrev mMulG : R2 := mI IntMulOk fun i j => .int (i * j)
abbrev mDivG : R2 := mI CDivG fun i j => .int (i / j)
theorem op_mulG {X : Cx} : OpR X (binaryOp .Mult) mMulG := opM (opI fun _ _ _ _ _ _ _ hc q => mul_int q hc)
theorem op_divG {X : Cx} : OpR X (binaryOp .FloorDiv) mDivG := opM (opI fun i j _ _ _ _ _ hc q => by
  have h1 : (0 : Int) < j := hc.1
  exact floordiv_int (by omega) (by rw [Int.fdiv_eq_ediv_of_nonneg i (by omega)]; exact q) (.inl hc.2))
theorem op_divGI : Op2 K mDivG E tyInt tyInt (fun i j => .grd (CDivG i j) (.ok (i / j))) tyInt := op_i fun _ _ _ => rfl
theorem fr_nil {Pq : α → Prop} : ∀ q ∈ ([] : List α), Pq q := fun q h => by cases h
theorem fr_cons {Pq : α → Prop} {a : α} {l : List α} (h : Pq a) (t : ∀ q ∈ l, Pq q) : ∀ q ∈ a :: l, Pq q := List.forall_mem_cons.mpr ⟨h, t⟩
theorem s_never : EvS K t E L (.no : Mo (Out ρ B S)) LS LB O := fun _ _ _ _ _ _ _ _ _ fin => fin.elim
theorem s_weak {r : Mo (Out ρ B S)} (w : Sub L L') (hk : EvS K t E L' r LS LB O) : EvS K t E L r LS LB O := fun F0 H0 σ F h H D hL ok fin => hk F0 H0 σ F h H D (w.hold hL) ok fin
theorem at_ {r : Mo (Out ρ B S)} (L : List Sl) (hk : EvS K t E L r LS LB O) : EvS K t E L r LS LB O := hk
theorem ev_varL (i : Nat) {xs : List α} (h : L[i]? = some (.ow (owL T) xs)) : EvF K (mVar i) E L (.ok xs) (tyL T) := ev_varO i h
theorem et_true : EvT K tTrue E L (.ok true) := fun σ F H Q hL hs q => q.ok hs
theorem dead1 {L : List Sl} : DeadAt (.dead :: L) [0] := fun i hi s e => by
  cases (List.mem_singleton.mp hi); cases e; rfl
theorem dead2 {L : List Sl} : DeadAt (.dead :: .dead :: L) [0, 1] := fun i hi s e => by
  rcases List.mem_cons.mp hi with rfl | hi
  · cases e; rfl
  · cases (List.mem_singleton.mp hi); cases e; rfl
theorem nn_int {a : Int} {v : V} {F : Hp} (h : tyInt.R a v F) : v ≠ .non := by cases h; exact fun z => V.noConfusion z
end
end L2
namespace L2
open PySem PySem.Spec PyProof.Rows
section
variable {α β γ ρ S S' B : Type}
@[simp] theorem Mo.okB (a : α) (f : α → Mo β) : (Mo.ok a).bind f = f a := of_eq_true (eq_self _)
@[simp] theorem Mo.exB (c : String) (f : α → Mo β) : (Mo.ex c : Mo α).bind f = .ex c := of_eq_true (eq_self _)
@[simp] theorem Mo.noB (f : α → Mo β) : (Mo.no : Mo α).bind f = .no := of_eq_true (eq_self _)
@[simp] theorem Mo.noexO (a : α) : (Mo.ok a).noex = .ok a := of_eq_true (eq_self _)
@[simp] theorem Mo.optS (a : α) : Mo.opt (some a) = .ok a := of_eq_true (eq_self _)
@[simp] theorem thenO_nx (s : S) (k : S → Mo (Out ρ B S')) : thenO (.ok (.nx s)) k = k s := of_eq_true (eq_self _)
@[simp] theorem thenO_rt (a : ρ) (k : S → Mo (Out ρ B S')) : thenO (.ok (.rt a)) k = .ok (.rt a) := of_eq_true (eq_self _)
@[simp] theorem thenO_bk (b : B) (k : S → Mo (Out ρ B S')) : thenO (.ok (.bk b)) k = .ok (.bk b) := of_eq_true (eq_self _)
@[simp] theorem thenO_ct (b : B) (k : S → Mo (Out ρ B S')) : thenO (.ok (.ct b)) k = .ok (.ct b) := of_eq_true (eq_self _)
@[simp] theorem fnO_rt (a : ρ) : fnO (.ok (.rt a)) = .ok a := of_eq_true (eq_self _)
@[simp] theorem forO_nil (step : S → α → Mo (Out ρ S S)) (s : S) : forO (B := B) step [] s = .ok (.nx s) := of_eq_true (eq_self _)
theorem forO_cons (step : S → α → Mo (Out ρ S S)) (x : α) (xs : List α) (s : S) : forO (B := B) step (x :: xs) s = (step s x).bind fun o => match o with | .nx s' => forO step xs s' | .ct s' => forO step xs s' | .bk s' => .ok (.nx s') | .rt a => .ok (.rt a) := rfl
theorem forO_nx {step : S → α → Mo (Out ρ S S)} {x : α} {xs : List α} {s s' : S} (h : step s x = .ok (.nx s')) : forO (B := B) step (x :: xs) s = forO step xs s' := by rw [forO_cons, h]; rfl
theorem forO_inv {step : S → α → Mo (Out ρ S S)} (P : List α → S → Prop) : ∀ {xs : List α} (done : List α) {s : S}, P done s → (∀ d x s, (∃ r, done ++ xs = d ++ x :: r) → P d s → ∃ s', step s x = .ok (.nx s') ∧ P (d ++ [x]) s') → ∃ s', forO (B := B) step xs s = .ok (.nx s') ∧ P (done ++ xs) s'
  | [], done, s, h0, _ => ⟨s, rfl, by rw [List.append_nil]; exact h0⟩
  | x :: xs, done, s, h0, h => by
    obtain ⟨s1, e1, p1⟩ := h done x s ⟨xs, rfl⟩ h0
    obtain ⟨s2, e2, p2⟩ := forO_inv P (xs := xs) (done ++ [x]) p1 fun d y s ⟨r, hr⟩ hp => h d y s ⟨r, by rw [← hr]; simp⟩ hp
    exact ⟨s2, by rw [forO_nx e1, e2], by simpa using p2⟩
theorem forO_all {step : Unit → α → Mo (Out ρ Unit Unit)} : ∀ {xs : List α}, (∀ x ∈ xs, step () x = .ok (.nx ())) → forO (B := B) step xs () = .ok (.nx ())
  | [], _ => rfl
  | x :: xs, h => by rw [forO_nx (h x List.mem_cons_self), forO_all fun y hy => h y (List.mem_cons_of_mem _ hy)]
open PySem PySem.Spec PyProof.Rows in
theorem divG_ok {a j : Int} (h0 : 0 < j) (h : j.natAbs.log2 < 9000) : CDivG a j := by
  refine ⟨h0, ?_⟩
  unfold Builtin.divisionGoesByPylong
  simp only
  rw [Bool.and_eq_false_iff]
  left
  rw [decide_eq_false_iff_not]
  split <;> omega
theorem log2_lt {n k : Nat} (h : n < 2 ^ k) : n.log2 < k ∨ n = 0 := by
  by_cases hz : n = 0
  · exact .inr hz
  · exact .inl ((Nat.log2_lt hz).mpr h)
theorem divG_lt {a j : Int} (h0 : 0 < j) (h : j < 2 ^ 1000) : CDivG a j := by
  refine divG_ok h0 ?_
  have h1 : j.natAbs < 2 ^ 1000 := by
    have : ((2 : Int) ^ 1000) = ((2 ^ 1000 : Nat) : Int) := by rw [Int.natCast_pow]; rfl
    rw [this] at h
    omega
  rcases log2_lt h1 with h | h
  · omega
  · rw [h]; decide
open PySem PySem.Spec PyProof.Rows in
theorem mulG_small {i j : Int} (h : -(2 ^ 64) < i ∧ i < 2 ^ 64 ∨ -(2 ^ 64) < j ∧ j < 2 ^ 64) : IntMulOk i j := CMul.ok h
@[simp] theorem grd_div {a j : Int} {k : Mo α} (h0 : 0 < j) (h1 : j < 1073741824) : Mo.grd (CDivG a j) k = k := Mo.grd_ok (divG_lt h0 (by omega))
@[simp] theorem grd_T {k : Mo α} [Decidable True] : Mo.grd True k = k := Mo.grd_ok trivial
@[simp] theorem grd_mod {j : Int} {k : Mo α} (h0 : 0 < j) : Mo.grd (0 < j) k = k := Mo.grd_ok h0
open PySem PySem.Spec PyProof.Rows in
@[simp] theorem grd_mulL {i j : Int} {k : Mo α} (h0 : -18446744073709551616 < i) (h1 : i < 18446744073709551616) : Mo.grd (IntMulOk i j) k = k := Mo.grd_ok (mulG_small (.inl ⟨by omega, by omega⟩))
theorem rngI_len (lo : Int) (n : Nat) : (rngI lo n).length = n := by unfold rngI; rw [List.length_map, List.length_range]
theorem rngI_mem {lo x : Int} {n : Nat} : x ∈ rngI lo n ↔ lo ≤ x ∧ x < lo + n := by
  unfold rngI
  simp only [List.mem_map, List.mem_range]
  constructor
  · rintro ⟨a, h, rfl⟩; omega
  · rintro ⟨h1, h2⟩; exact ⟨(x - lo).toNat, by omega, by omega⟩
theorem atI_nn {xs : List α} {k : Int} (h0 : 0 ≤ k) : atI xs k = xs[k.toNat]? := by
  unfold atI ixN
  rw [if_pos h0]
  split
  · rfl
  · rename_i h
    rw [List.getElem?_eq_none (by omega)]; rfl
theorem atI_some {xs : List α} {k : Int} (h0 : 0 ≤ k) (h1 : k < xs.length) : ∃ x, atI xs k = some x ∧ x ∈ xs := by
  rw [atI_nn h0, List.getElem?_eq_getElem (show k.toNat < xs.length by omega)]
  exact ⟨_, rfl, List.getElem_mem _⟩
theorem eqL_refl {q : α → α → Bool} (hq : ∀ a, q a a = true) : ∀ xs : List α, eqL q xs xs = true
  | [] => rfl
  | x :: xs => by unfold eqL; rw [hq, eqL_refl hq xs]; rfl
end
end L2
namespace L2
open PySem PySem.Spec PyProof.Rows
section
variable {K : PySem.W.Frag} {E : XK} {α β γ ρ S S' B B' : Type} {F0 H0 F h H : Hp} {L L' : List Sl} {e e1 e2 : TE} {T : Ty α} {r : Mo α} {O : Own ρ} {t u : TS} {LS : S → List Sl} {LS' : S' → List Sl} {LB : B → List Sl}
def OwIn (T : Ty α) (F : Hp) : List (List α) → List V → Hp → Prop
  | [], [], h => ∀ p, h p = none
  | xs :: xss, v :: vs, h => ∃ h1 h2, Jn h1 h2 h ∧ (owL T).O xs v F h1 ∧ OwIn T F xss vs h2
  | _, _, _ => False
theorem OwIn.mono : ∀ {xss : List (List α)} {vs : List V} {F F' h : Hp}, Same F F' → OwIn T F xss vs h → OwIn T F' xss vs h
  | [], [], _, _, _, _, q => q
  | xs :: xss, v :: vs, F, F', h, g, ⟨h1, h2, j, o, r⟩ => ⟨h1, h2, j, (owL T).mono g o, r.mono g⟩
  | [], _ :: _, _, _, _, _, q => q.elim
  | _ :: _, [], _, _, _, _, q => q.elim
theorem OwIn.imm (i : Imm T) : ∀ {xss : List (List α)} {vs : List V} {F F' h : Hp}, Tups F F' → OwIn T F xss vs h → OwIn T F' xss vs h
  | [], [], _, _, _, _, q => q
  | xs :: xss, v :: vs, F, F', h, g, ⟨h1, h2, j, o, r⟩ => ⟨h1, h2, j, immo_l i g o, r.imm i g⟩
  | [], _ :: _, _, _, _, _, q => q.elim
  | _ :: _, [], _, _, _, _, q => q.elim
theorem OwIn.notup : ∀ {xss : List (List α)} {vs : List V} {F h : Hp}, OwIn T F xss vs h → ∀ p xs, h p ≠ some (.tup xs)
  | [], [], _, _, q, p, xs => by rw [q p]; exact fun z => by cases z
  | xs :: xss, v :: vs, F, h, ⟨h1, h2, j, o, r⟩, p, ys => by
    rcases j p with ⟨_, b⟩ | ⟨_, b⟩
    · rw [b]; exact r.notup p ys
    · rw [b]; exact (owL T).notup o p ys
  | [], _ :: _, _, _, q, _, _ => q.elim
  | _ :: _, [], _, _, q, _, _ => q.elim
theorem OwIn.len : ∀ {xss : List (List α)} {vs : List V} {F h : Hp}, OwIn T F xss vs h → xss.length = vs.length
  | [], [], _, _, _ => rfl
  | xs :: xss, v :: vs, F, h, ⟨h1, h2, j, o, r⟩ => by rw [List.length_cons, List.length_cons, r.len]
  | [], _ :: _, _, _, q => q.elim
  | _ :: _, [], _, _, q => q.elim
theorem OwIn.prs : ∀ {xss : List (List α)} {vs : List V} {F h G : Hp}, Same F G → Same h G → OwIn T F xss vs h → Prs (tyL T) G xss vs
  | [], [], _, _, _, _, _, _ => .nil
  | xs :: xss, v :: vs, F, h, G, gF, gh, ⟨h1, h2, j, ⟨p, us, e, z, q⟩, r⟩ => by
    refine .cons ⟨p, us, e, gh _ _ (j.l _ _ (by rw [z]; exact one_same)), q.mono gF⟩ (r.prs gF (j.r.trans gh))
  | [], _ :: _, _, _, _, _, _, q => q.elim
  | _ :: _, [], _, _, _, _, _, q => q.elim
abbrev owLL (T : Ty α) : Own (List (List α)) := ⟨fun xss v F h => ∃ p vs h2, v = .ref p ∧ Jn (one p (.lst vs)) h2 h ∧ OwIn T F xss vs h2, tyL (tyL T), fun g ⟨p, vs, h2, e, j, q⟩ => ⟨p, vs, h2, e, j, q.mono g⟩,
  fun d ⟨p, vs, h2, e, j, q⟩ => ⟨p, vs, e, un_own d _ _ (j.l _ _ one_same), q.prs un_same (j.r.trans (un_own d))⟩,
  fun ⟨p, vs, h2, e, j, q⟩ b xs y => by
    rcases j b with ⟨_, z⟩ | ⟨_, z⟩
    · rw [z] at y; exact q.notup b xs y
    · rw [z] at y; unfold one at y; split at y <;> cases y⟩
theorem immo_ll (i : Imm T) : ImmO (owLL T) := fun g ⟨p, vs, h2, e, j, q⟩ => ⟨p, vs, h2, e, j, q.imm i g⟩
theorem ev_varN (i : Nat) {xs : List (List α)} (h : L[i]? = some (.ow (owLL T) xs)) : EvF K (mVar i) E L (.ok xs) (tyL (tyL T)) := ev_varO i h
theorem OwIn.at : ∀ {xss : List (List α)} {vs : List V} {F h : Hp} (i : Nat) {xs : List α}, OwIn T F xss vs h → xss[i]? = some xs →
    ∃ p us h2, vs[i]? = some (.ref p) ∧ Jn (one p (.lst us)) h2 h ∧ Prs T F xs us ∧ ∀ xs' us' h', Prs T F xs' us' → Jn (one p (.lst us')) h2 h' → OwIn T F (xss.set i xs') vs h'
  | [], _, _, _, _, _, _, e => by cases e
  | xs :: xss, [], _, _, _, _, q, _ => q.elim
  | xs :: xss, v :: vs, F, h, 0, ys, ⟨h1, h2, j, ⟨p, us, ev, z, q⟩, r⟩, e => by
    cases e
    subst ev z
    exact ⟨p, us, h2, rfl, j, q, fun xs' us' h' q' j' => ⟨_, h2, j', ⟨p, us', rfl, rfl, q'⟩, r⟩⟩
  | xs :: xss, v :: vs, F, h, i + 1, ys, ⟨h1, h2, j, o, r⟩, e => by
    obtain ⟨p, us, k2, e1, j1, q1, f⟩ := OwIn.at i r (by simpa using e)
    have d2 : Dj h1 k2 := fun q => by
      rcases j.dj q with a | a
      · exact .inl a
      · exact .inr (j1.r.free a)
    have h1p : h1 p = none := by
      rcases j.dj p with a | a
      · exact a
      · have := j1.l p _ one_same; rw [a] at this; cases this
    refine ⟨p, us, un h1 k2, by simpa using e1, fun q => ?_, q1, fun xs' us' h' q' j' => ?_⟩
    · rcases j q with ⟨a, b⟩ | ⟨a, b⟩
      · rcases j1 q with ⟨c, d⟩ | ⟨c, d⟩
        · refine .inl ⟨c, ?_⟩; unfold un; rw [a, b, d]
        · refine .inr ⟨?_, by rw [b, d]⟩; unfold un; rw [a, c]
      · refine .inl ⟨j1.l.free a, ?_⟩
        have : k2 q = none := j1.r.free a
        unfold un; rw [b]
        cases h1 q with
        | none => rw [this]
        | some u => rfl
    · have dd : Dj (one p (.lst us')) k2 := fun q => by
        unfold one; split
        · rename_i z; rw [z]
          rcases j1.dj p with a | a
          · rw [one_same] at a; cases a
          · exact .inr a
        · exact .inl rfl
      refine ⟨h1, un (one p (.lst us')) k2, fun q => ?_, o, f xs' us' _ q' (jn_of dd)⟩
      rcases j' q with ⟨a, b⟩ | ⟨a, b⟩
      · unfold un at b ⊢
        rw [a]
        cases z : h1 q with
        | none => rw [z] at b; exact .inl ⟨rfl, b⟩
        | some w =>
          rw [z] at b
          refine .inr ⟨?_, b⟩
          rcases d2 q with y | y
          · rw [y] at z; cases z
          · exact y
      · unfold un at a
        cases z : h1 q with
        | some w => rw [z] at a; cases a
        | none =>
          rw [z] at a
          refine .inl ⟨rfl, ?_⟩
          unfold un; rw [b]
          cases one p (.lst us') q with
          | none => exact a.symm
          | some w => rfl
theorem ixN_some {n : Nat} {j : Int} {k : Nat} (h : ixN n j = some k) : k < n := by
  unfold ixN at h
  split at h
  · split at h
    · cases h; omega
    · cases h
  · split at h
    · cases h; omega
    · cases h
theorem mut_okk {p : Addr} {o' : HO} {h1' hr h' : Hp} (ok : Okk F0 H0 F h H) (hp : h p ≠ none) (nt : ∀ xs, o' ≠ .tup xs) (h' : Hp) (hh : ∀ q, h' q = if q = p then some o' else h q) : Okk F0 H0 F h' (upd H p o') := by
  obtain ⟨o1, o2, o3, o4, o5⟩ := ok
  have Fp : F p = none := by
    rcases o2 p with z | z
    · exact z
    · exact absurd z hp
  have H0p : H0 p = none := o4 p hp
  refine ⟨⟨o1.1, fun q o z => ?_, fun q o z => ?_, o1.2.2.2⟩, fun q => ?_, fun q o z => ?_, fun q z => ?_, fun q ys z => ?_⟩
  · unfold upd; split
    · rename_i w; rw [w, Fp] at z; cases z
    · exact o1.2.1 _ _ z
  · unfold upd; split
    · rename_i w; rw [w, H0p] at z; cases z
    · exact o1.2.2.1 _ _ z
  · rw [hh]; split
    · rename_i w; rw [w]; exact .inl Fp
    · exact o2 q
  · rw [hh] at z; unfold upd
    split at z
    · rename_i w; rw [if_pos w]; exact z
    · rename_i w; rw [if_neg w]; exact o3 _ _ z
  · rw [hh] at z; split at z
    · rename_i w; rw [w]; exact H0p
    · exact o4 q z
  · rw [hh] at z; split at z
    · exact nt ys (by injection z)
    · exact o5 q ys z
theorem hold_mutN {i : Nat} {σ : St} {xss : List (List α)} {j : Nat} {xs : List α} (hL : Hold L σ F h) (hi : L[i]? = some (.ow (owLL T) xss)) (hj : xss[j]? = some xs) (ok : Okk F0 H0 F h H) :
    ∃ p vs q us, σ[i]? = some (some (.ref p)) ∧ H p = some (.lst vs) ∧ xss.length = vs.length ∧ vs[j]? = some (.ref q) ∧ H q = some (.lst us) ∧ Prs T F xs us ∧
      ∀ xs' us', Prs T F xs' us' → ∃ h', Hold (L.set i (.ow (owLL T) (xss.set j xs'))) σ F h' ∧ Okk F0 H0 F h' (upd H q (.lst us')) := by
  obtain ⟨o, h1, h2, e1, jj, ⟨v, e2, p, vs, k2, rfl, jk, inn⟩, f⟩ := hL.at i hi
  subst e2
  obtain ⟨q, us, m2, e3, jm, hr, g⟩ := inn.at j hj
  have hq1 : k2 q = some (.lst us) := jm.l _ _ one_same
  have hq2 : h1 q = some (.lst us) := jk.r _ _ hq1
  have hq : h q = some (.lst us) := jj.l _ _ hq2
  have hp : h p = some (.lst vs) := jj.l _ _ (jk.l _ _ one_same)
  refine ⟨p, vs, q, us, e1, ok.2.2.1 _ _ hp, inn.len, e3, ok.2.2.1 _ _ hq, hr, fun xs' us' hr' => ?_⟩
  have pq : p ≠ q := fun z => by
    rcases jk.dj p with a | a
    · rw [one_same] at a; cases a
    · rw [z, hq1] at a; cases a
  let k2' : Hp := fun b => if b = q then some (.lst us') else k2 b
  let h1' : Hp := fun b => if b = q then some (.lst us') else h1 b
  let h' : Hp := fun b => if b = q then some (.lst us') else h b
  have j1 : Jn (one q (.lst us')) m2 k2' := fun b => by
    show _ ∨ _
    by_cases z : b = q
    · right
      have : m2 b = none := by
        rcases jm.dj b with a | a
        · rw [z, one_same] at a; cases a
        · exact a
      refine ⟨this, ?_⟩
      show (if b = q then _ else _) = one q _ b
      rw [if_pos z]; unfold one; rw [if_pos z]
    · left
      refine ⟨by unfold one; rw [if_neg z], ?_⟩
      show (if b = q then _ else _) = _
      rw [if_neg z]
      rcases jm b with ⟨_, c⟩ | ⟨a, c⟩
      · exact c
      · rw [c, a]; unfold one; rw [if_neg z]
  have j2 : Jn (one p (.lst vs)) k2' h1' := fun b => by
    by_cases z : b = q
    · left
      refine ⟨by unfold one; rw [if_neg (fun y => pq (by rw [← y, z]))], ?_⟩
      show (if b = q then _ else _) = (if b = q then _ else _)
      rw [if_pos z, if_pos z]
    · rcases jk b with ⟨a, c⟩ | ⟨a, c⟩
      · refine .inl ⟨a, ?_⟩
        show (if b = q then _ else _) = (if b = q then _ else _)
        rw [if_neg z, if_neg z]; exact c
      · refine .inr ⟨?_, ?_⟩
        · show (if b = q then _ else _) = _
          rw [if_neg z]; exact a
        · show (if b = q then _ else _) = _
          rw [if_neg z]; exact c
  have j3 : Jn h1' h2 h' := fun b => by
    by_cases z : b = q
    · right
      have : h2 b = none := by
        rcases jj.dj b with a | a
        · rw [z, hq2] at a; cases a
        · exact a
      refine ⟨this, ?_⟩
      show (if b = q then _ else _) = (if b = q then _ else _)
      rw [if_pos z, if_pos z]
    · rcases jj b with ⟨a, c⟩ | ⟨a, c⟩
      · refine .inl ⟨?_, ?_⟩
        · show (if b = q then _ else _) = _
          rw [if_neg z]; exact a
        · show (if b = q then _ else _) = _
          rw [if_neg z]; exact c
      · refine .inr ⟨a, ?_⟩
        show (if b = q then _ else _) = (if b = q then _ else _)
        rw [if_neg z, if_neg z]; exact c
  have gg := f (.ow (owLL T) (xss.set j xs')) (some (.ref p)) h1' h' j3 ⟨_, rfl, p, vs, k2', rfl, j2, g xs' us' k2' hr' j1⟩
  rw [set_self e1] at gg
  exact ⟨h', gg, mut_okk (h1' := h) (hr := h) (h' := h) ok (by rw [hq]; exact Option.some_ne_none _) (fun xs z => by cases z) h' fun b => rfl⟩
def appN (xss : List (List α)) (j : Nat) (a : α) : List (List α) := match xss[j]? with | some xs => xss.set j (xs ++ [a]) | none => xss
theorem s_appendN {i : Nat} {xss : List (List α)} {ei : TE} {ri : Mo Int} {k : Nat → α → Mo (Out ρ B S)} (hi : L[i]? = some (.ow (owLL T) xss)) (hT : Imm T) (hei : EvF K ei E L ri tyInt) (he : EvF K e E L r T) (hk : ∀ j a, EvS K u E (L.set i (.ow (owLL T) (appN xss j a))) (k j a) LS LB O) :
    EvS K (tSeq (tDrop (tBM K "list" rAppend (tOp (mIx K) (mVar i) ei) (tCons e tNil))) u) E L (ri.bind fun j => (Mo.opt (ixN xss.length j)).bind fun n => r.bind fun a => .lim ((xss[n]?.getD []).length + 1) (k n a)) LS LB O := by
  intro F0 H0 σ F h H D hL ok fin
  show mVar i σ H fun o H0' => ei σ H0' fun y H1 => mIx K o y H1 fun x H1 => tyV K "list" x H1 ∧ tCons e tNil σ H1 fun xs H2 => rAppend x xs H2 (fun _ H3 => u D σ H3)
  obtain ⟨o0, g1, g2, e0, _, ⟨v0, e00, p0, vs0, _, rfl, _, _⟩, _⟩ := hL.at i hi
  subst e00
  refine mvar_at e0 ?_
  refine hei σ (un F h) H _ (hL.froz ok.2.1) ok.thaw (fin_ok (G := F) ok _ (.inl rfl) fin fun j F1 H1 hrj x1 v1 hv1 => ?_)
  cases hv1
  obtain ⟨o, hs, ht⟩ := ok.back x1
  rw [hrj] at fin
  have hL' := hL.mono hs
  obtain ⟨n, en, fin⟩ := fin_opt fin
  have hn := ixN_some en
  obtain ⟨p, vs, q, us, e1, hp, hlen, e3, hq, hr, _⟩ := hold_mutN hL' hi (List.getElem?_eq_getElem hn) o
  rw [e0] at e1; cases e1
  refine ⟨vs, .inl (.of hp), ?_⟩
  have ea : atI vs j = some (.ref q) := by unfold atI; rw [← hlen, en]; exact e3
  rw [ea]
  refine ⟨.inl ⟨rfl, us, .of hq⟩, ?_⟩
  refine he σ (un _ h) H1 _ (hL'.froz o.2.1) o.thaw (fin_ok (G := F) o _ (.inl rfl) fin fun a F2 H2 hra x2 v hv => ?_)
  obtain ⟨o', hs', ht'⟩ := o.back x2
  rw [hra] at fin
  obtain ⟨hz, fin⟩ := fin_lim (show Fin K (Mo.lim ((xss[n]?.getD []).length + 1) (k n a)) E LS LB O F0 H0 D from fin)
  obtain ⟨p', vs', q', us', e1', hp', hlen', e3', hq', hr', mm⟩ := hold_mutN (hL'.mono hs') hi (List.getElem?_eq_getElem hn) o'
  rw [e0] at e1'; cases e1'
  have : vs' = vs := by
    have h1 := x2.2.2.1 _ _ hp
    rw [hp'] at h1; injection h1 with h1; injection h1
  subst this
  rw [e3] at e3'; cases e3'
  have : us' = us := by
    have h1 := x2.2.2.1 _ _ hq
    rw [hq'] at h1; injection h1 with h1; injection h1
  subst this
  obtain ⟨h', a1, a2⟩ := mm (xss[n] ++ [a]) (us' ++ [v]) (hr'.append (.cons (hT ht' hv) .nil))
  have ex : appN xss n a = xss.set n (xss[n] ++ [a]) := by unfold appN; rw [List.getElem?_eq_getElem hn]
  have hk' := hk n a
  rw [ex] at hk'
  rw [List.getElem?_eq_getElem hn] at hz
  have hl := hr'.len
  exact ⟨q, us', v, rfl, rfl, hq', by simp only [Option.getD_some] at hz; omega, hk' F0 H0 σ _ h' _ D a1 a2 fin⟩
end
end L2
namespace L2
open PySem PySem.Spec PyProof.Rows
section
variable {K : PySem.W.Frag} {E : XK} {α β γ ρ S S' B B' : Type} {F0 H0 F h H : Hp} {L L' : List Sl} {e e1 e2 : TE} {T : Ty α} {r : Mo α} {O : Own ρ} {t u : TS} {LS : S → List Sl} {LS' : S' → List Sl} {LB : B → List Sl}
theorem OwIn.snoc : ∀ {xss : List (List α)} {vs : List V} {h h1 h' : Hp} {xs : List α} {v : V}, OwIn T F xss vs h → (owL T).O xs v F h1 → Jn h h1 h' → OwIn T F (xss ++ [xs]) (vs ++ [v]) h'
  | [], [], h, h1, h', xs, v, q, o, j => by
    refine ⟨h', fun _ => none, fun p => .inr ⟨rfl, rfl⟩, ?_, fun _ => rfl⟩
    have : h' = h1 := by
      funext p
      rcases j p with ⟨a, b⟩ | ⟨a, b⟩
      · exact b
      · rw [b, q p, a]
    rw [this]; exact o
  | ys :: xss, w :: vs, h, h1, h', xs, v, ⟨k1, k2, jk, o1, r1⟩, o, j => by
    have d : Dj k2 h1 := fun p => by
      rcases j.dj p with a | a
      · exact .inl (jk.r.free a)
      · exact .inr a
    refine ⟨k1, un k2 h1, fun p => ?_, o1, r1.snoc o (jn_of d)⟩
    rcases j p with ⟨a, b⟩ | ⟨a, b⟩
    · have z1 : k1 p = none := jk.l.free a
      have z2 : k2 p = none := jk.r.free a
      refine .inl ⟨z1, ?_⟩
      unfold un; rw [z2]; exact b
    · rcases jk p with ⟨c, dd⟩ | ⟨c, dd⟩
      · refine .inl ⟨c, ?_⟩
        unfold un; rw [b, dd]
        cases z : k2 p with
        | none => exact a.symm
        | some w => rfl
      · refine .inr ⟨?_, by rw [b, dd]⟩
        unfold un; rw [c]; exact a
  | [], _ :: _, _, _, _, _, _, q, _, _ => q.elim
  | _ :: _, [], _, _, _, _, _, q, _, _ => q.elim
@[irreducible] def fuelW : Nat := 100000
def mLtS : R2 := fun x y H Q => match x, y with
  | .int i, .int j => Q (.bl (decide (i < j))) H
  | .str i, .str j => Q (.bl (decide (i.cps.toList < j.cps.toList))) H
  | _, _ => False
theorem op_ltM2 {X : Cx} : OpR X (compareOp .Lt) mLtS := by
  intro pins s σ H x y v u Q I rx ry h
  cases x <;> cases y <;> first
    | exact h.elim
    | exact op_lt pins s σ H _ _ v u Q I rx ry ⟨_, _, rfl, rfl, h⟩
    | exact op_lt_str pins s σ H _ _ v u Q I rx ry ⟨_, _, rfl, rfl, h⟩
end
end L2
namespace L2
open PySem PySem.Spec PyProof.Rows
section
variable {α : Type}
theorem forO_elim {S B ρ : Type} {step : S → α → Mo (Out ρ S S)} {xs : List α} {s : S} {G : Mo (Out ρ B S) → Prop} (P : List α → S → Prop) (h0 : P [] s) (hs : ∀ d x s, (∃ r, xs = d ++ x :: r) → P d s → ∃ s', step s x = .ok (.nx s') ∧ P (d ++ [x]) s') (hk : ∀ s', P xs s' → G (.ok (.nx s'))) : G (forO step xs s) := by
  obtain ⟨s', e, p⟩ := forO_inv (B := B) P (xs := xs) [] h0 (fun d x s hr hp => hs d x s hr hp)
  rw [e]
  exact hk s' p
end
abbrev Crd := List Nat
def sg (c : Crd) (col : Int) : Nat := c.getD (col - 1).toNat 0
def rk1 (x : Nat) : Nat := (SG.findIdx? (· == x)).getD 0 % 37
def rnk (c : Crd) (col : Int) : Nat := rk1 (sg c col)
def kv : List Int → Crd → Nat
  | [], _ => 0
  | c :: L, a => rnk a c * 37 ^ L.length + kv L a
end L2
namespace L2
open PySem PySem.Spec PyProof.Rows
end L2
namespace L2
open PySem PySem.Spec PyProof.Rows
open PySem.SeqAt
open PySem.AutoSeq1 (wpAny_loadPart')
open PySem.MeetsSeq PySem.MeetsSeq2 PySem.MeetsSeq3
theorem ent_loop : entryFor table "list.__eq__.loop" = some Builtin.«list.__eq__.loop» := by kernel_rfl!
theorem under_loop (A : Around) (args : PySem.Args) : A.under (Code.builtin "list.__eq__.loop" args) = A.in1 := by rfl
theorem quiet_loop (args : PySem.Args) : (Code.builtin "list.__eq__.loop" args).quiet = true := by first | kernel_rfl! | simp [Code.quiet] | (unfold Code.quiet; decide +kernel)
theorem ints_get : ∀ {vs : List Value} {ns : List Int}, IntsAre vs ns → ∀ i : Nat, (vs[i]? = none ∧ ns[i]? = none) ∨ ∃ a t, vs[i]? = some (.int a t) ∧ ns[i]? = some a
  | _, _, .nil, i => .inl ⟨rfl, rfl⟩
  | _, _, .cons a t h, 0 => .inr ⟨a, t, rfl, rfl⟩
  | _, _, .cons a t h, i + 1 => by simpa using ints_get h i
theorem drop_of_get {α : Type} {xs : List α} {i : Nat} {a : α} (h : xs[i]? = some a) : xs.drop i = a :: xs.drop (i + 1) := by
  obtain ⟨hi, e⟩ := List.getElem?_eq_some_iff.mp h
  rw [← e]; exact List.drop_eq_getElem_cons hi
theorem drop_none {α : Type} {xs : List α} {i : Nat} (h : xs[i]? = none) : xs.drop i = [] := List.drop_eq_nil_of_le (List.getElem?_eq_none_iff.mp h)
theorem list_lt_loop (l b : Addr) (items items2 : Array Value) (n n2 : Nat) (dd dd2 : Option Addr) (sl sl2 : Array (Option Value)) (ns ms : List Int) (hi : IntsAre items.toList ns) (hj : IntsAre items2.toList ms) : ∀ (k i : Nat), items.size - i = k → i ≤ items.size → i ≤ items2.size →
    Meets (Builtin.«list.__eq__.loop» ⟨[.ref l, .ref b, rawInt (i : Nat), rawInt 0], []⟩)
      (fun _ R s => s.heap.get? l = some { cls := .type "list", dict := dd, data := .seq items n, slots := sl } ∧ s.heap.get? b = some { cls := .type "list", dict := dd2, data := .seq items2 n2, slots := sl2 } ∧
        R (.ok (.ret (.bool (HT.lexLt (ns.drop i) (ms.drop i))))) s) := by
  intro k
  induction k with
  | zero =>
    intro i hk b1 b2 prog w A R s h
    obtain ⟨hl, hb, h⟩ := h
    wp_walk using wpAny_listItems hl rfl, wpAny_listItems hb rfl
    have e1 : items[i]? = none := Array.getElem?_eq_none (by omega)
    have e1' : ns[i]? = none := by
      rcases ints_get hi i with ⟨_, z⟩ | ⟨a, t, z, _⟩
      · exact z
      · rw [Array.getElem?_toList, e1] at z; cases z
    rw [Int.toNat_natCast, e1]
    rw [drop_none e1'] at h
    rcases ints_get hj i with ⟨z1, z2⟩ | ⟨c, u, z1, z2⟩
    · rw [Array.getElem?_toList] at z1
      rw [z1]
      rw [drop_none z2] at h
      wp_walk using wpAny_listItems hl rfl, wpAny_listItems hb rfl
      show R (.ok (.ret (.bool (decide (items.size < items2.size))))) s
      have z1 := Array.getElem?_eq_none_iff.mp z1
      rw [decide_eq_false (by omega)]; exact h
    · rw [Array.getElem?_toList] at z1
      rw [z1]
      rw [drop_of_get z2] at h
      wp_walk using wpAny_listItems hl rfl, wpAny_listItems hb rfl
      show R (.ok (.ret (.bool (decide (items.size < items2.size))))) s
      have z3 := (Array.getElem?_eq_some_iff.mp z1).1
      rw [decide_eq_true (by omega)]; exact h
  | succ k ih =>
    intro i hk b1 b2 prog w A R s h
    obtain ⟨hl, hb, h⟩ := h
    wp_walk using wpAny_listItems hl rfl, wpAny_listItems hb rfl
    rw [Int.toNat_natCast]
    rcases ints_get hi i with ⟨z1, z2⟩ | ⟨a, t, z1, z2⟩
    · rw [Array.getElem?_toList] at z1
      rw [Array.getElem?_eq_none_iff] at z1; omega
    rw [Array.getElem?_toList] at z1
    rw [z1]
    rw [drop_of_get z2] at h
    rcases ints_get hj i with ⟨y1, y2⟩ | ⟨c, u, y1, y2⟩
    · rw [Array.getElem?_toList] at y1
      rw [y1]
      rw [drop_none y2] at h
      wp_walk using wpAny_listItems hl rfl, wpAny_listItems hb rfl
      show R (.ok (.ret (.bool (decide (items.size < items2.size))))) s
      have z3 := (Array.getElem?_eq_some_iff.mp z1).1
      have y3 := Array.getElem?_eq_none_iff.mp y1
      rw [decide_eq_false (by omega)]; exact h
    rw [Array.getElem?_toList] at y1
    rw [y1]
    rw [drop_of_get y2, HT.lexLt_cons] at h
    obtain ⟨e, he, hiff⟩ := HT.eqAt_int A.in1 s a t c u
    refine wpAny_bind (he prog w _ _ ?_)
    cases e with
    | true =>
      rw [if_pos (hiff.mp rfl)] at h
      wp_walk
      refine ⟨quiet_loop _, codeAny_builtin ent_loop ?_⟩
      rw [under_loop]
      have q1 := (Array.getElem?_eq_some_iff.mp z1).1
      have q2 := (Array.getElem?_eq_some_iff.mp y1).1
      exact ih (i + 1) (by omega) (by omega) (by omega) prog w A R s ⟨hl, hb, h⟩
    | false =>
      rw [if_neg (fun q => absurd (hiff.mpr q) Bool.false_ne_true)] at h
      have hri := HT.rcLt_int A.in1 s a t c u prog w
      wp_walk using wpAny_listItems hl rfl, wpAny_listItems hb rfl
      rw [z1, y1]
      wp_walk using hri
      exact h
theorem list_lt_ints (l b : Addr) (items items2 : Array Value) (n n2 : Nat) (dd dd2 : Option Addr) (sl sl2 : Array (Option Value)) (ns ms : List Int) (hi : IntsAre items.toList ns) (hj : IntsAre items2.toList ms) :
    Meets (Builtin.«list.__lt__» ⟨[.ref l, .ref b], []⟩)
      (fun _ R s => s.heap.get? l = some { cls := .type "list", dict := dd, data := .seq items n, slots := sl } ∧ s.heap.get? b = some { cls := .type "list", dict := dd2, data := .seq items2 n2, slots := sl2 } ∧
        R (.ok (.ret (.bool (HT.lexLt ns ms)))) s) := by
  intro prog w A R s h
  obtain ⟨hl, hb, h⟩ := h
  have f2 := AutoSeq1.sub_list_list
  wp_walk using wpAny_loadPart' hl, wpAny_loadPart' hb
  refine ⟨quiet_loop _, codeAny_builtin ent_loop ?_⟩
  rw [under_loop]
  exact list_lt_loop l b items items2 n n2 dd dd2 sl sl2 ns ms hi hj _ 0 rfl (Nat.zero_le _) (Nat.zero_le _) prog w A R s ⟨hl, hb, h⟩
theorem lt_listInts {prog : Program} {w : World} {A : Around} {E : Value → Shared → Prop} {s : Shared} {l b : Addr} {items items2 : Array Value} {ns ms : List Int} {Q : Value → Shared → Prop} (hl : s.heap.IsList l items) (hb : s.heap.IsList b items2) (hi : IntsAre items.toList ns) (hj : IntsAre items2.toList ms)
    (hu : A.units < cLine) (h : Q (.bool (HT.lexLt ns ms)) s) : wpAny (model prog w) A (compareOp .Lt (.ref l) (.ref b)) Q E s := by
  obtain ⟨⟨cls, dd, data, sl⟩, ho, hc, n, hd⟩ := id hl
  obtain ⟨⟨cls2, dd2, data2, sl2⟩, ho2, hc2, n2, hd2⟩ := id hb
  simp only at hc hd hc2 hd2
  subst hc hd hc2 hd2
  exact richCompare_meets_room (op := .Lt) ⟨_, ho, rfl⟩ ⟨_, ho2, rfl⟩ PySem.F.slot_list_lt PySem.F.entry_list_lt (PySem.F.args_list_lt_2 _ _) (list_lt_ints l b items items2 n n2 dd dd2 sl sl2 ns ms hi hj)
    ⟨ho, ho2, show Value.bool (HT.lexLt ns ms) ≠ Value.notImplemented ∧ Q (.bool (HT.lexLt ns ms)) s from ⟨(fun x => nomatch x), h⟩⟩ hu
end L2
namespace L2
open PySem PySem.Spec PyProof.Rows
def mLtK (K : PySem.W.Frag) : R2 := fun x y H Q => match x, y with
  | .ref a, .ref b => ∃ ns ms, SqL K H a (ns.map V.int) ∧ SqL K H b (ms.map V.int) ∧ Q (.bl (HT.lexLt ns ms)) H
  | _, _ => mLtS x y H Q
theorem op_ltK {X : Cx} (hu : X.A.units + 60 < cLine) : OpR X (compareOp .Lt) (mLtK X.K) := by
  intro pins s σ H x y v u Q I rx ry h
  cases x <;> cases y <;> first
    | exact op_ltM2 pins s σ H _ _ v u Q I rx ry h
    | (obtain ⟨ns, ms, ha, hb, q⟩ := h
       cases rx
       cases ry
       obtain ⟨its, r1, p1, _⟩ := I.list ha
       obtain ⟨its2, r2, p2, _⟩ := I.list hb
       have i1 : IntsAre its.toArray.toList ns := intsAre_of r1
       have i2 : IntsAre its2.toArray.toList ms := intsAre_of r2
       exact lt_listInts p1.isList p2.isList i1 i2 (by omega) ⟨.bl (HT.lexLt ns ms), H, I, rfl, q⟩)
section
variable {K : PySem.W.Frag} {E : XK} {H : Hp}
theorem op_ltKI : Op2 K (mLtK K) E tyInt tyInt (fun i j => .ok (decide (i < j))) tyBl := by
  rintro a b x y F H Q hs rfl rfl k
  exact k.ok hs _ rfl
end
end L2
namespace L2
open PySem PySem.Spec PyProof.Rows
section
variable {α : Type}
theorem sIx_nn {n d : Nat} {i : Int} (h : 0 ≤ i) : HT.sIx n d (some i) = min i.toNat n := by
  unfold HT.sIx
  simp only
  split <;> omega
theorem cutG_to {xs : List α} {i : Int} (h : 0 ≤ i) : cutG xs none (some i) = xs.take i.toNat := by
  unfold cutG
  rw [sIx_nn h, show HT.sIx xs.length 0 none = 0 from rfl, List.drop_zero, Nat.sub_zero, ← List.take_take, List.take_length]
theorem cutG_from {xs : List α} {i : Int} (h : 0 ≤ i) : cutG xs (some i) none = xs.drop i.toNat := by
  unfold cutG
  rw [sIx_nn h, show HT.sIx xs.length xs.length none = xs.length from rfl]
  by_cases hl : i.toNat ≤ xs.length
  · rw [Nat.min_eq_left hl, List.take_of_length_le (by rw [List.length_drop]; exact Nat.le_refl _)]
  · rw [Nat.min_eq_right (by omega), List.drop_length, List.drop_eq_nil_of_le (by omega), List.take_nil]
end
end L2
namespace L2
open PySem PySem.Spec PyProof.Rows
section
variable {K : PySem.W.Frag} {E : XK} {α β γ ρ S S' B B' : Type} {F0 H0 F h H : Hp} {L L' : List Sl} {e e1 e2 : TE} {T : Ty α} {r : Mo α} {O : Own ρ} {t u : TS} {LS : S → List Sl} {LS' : S' → List Sl} {LB : B → List Sl}
theorem ev_callF {C : Cs γ} {f : γ → Mo α} {ta : TA} {r : Mo γ} (h : EvA K ta E L r C) : EvF K (tCall (Ct K C f (owF T)) [] E ta) E L (r.bind f) T := (ev_call h).fr
theorem ev_callF0 {C : Cs γ} {f : γ → Mo α} {ta : TA} {r : Mo γ} (h : EvA K ta E L r C) : EvF K (tCall (Ct K C f (owF T)) [] E0 ta) E L (r.bind fun c => (f c).noex) T := (ev_call0 h).fr
end
end L2
namespace L2
open PySem PySem.Spec PyProof.Rows
def repL {α : Type} (xs : List α) (n : Int) : List α := (List.replicate n.toNat xs).flatten
def CRep (m : Nat) (n : Int) : Prop := 0 ≤ n ∧ n ≤ 100000 ∧ m ≤ 100000 ∧ m * n.toNat ≤ 100000
instance (m : Nat) (n : Int) : Decidable (CRep m n) := inferInstanceAs (Decidable (_ ∧ _))
def mMulX : R2 := fun x y H Q => match x, y with
  | .int i, .int j => IntMulOk i j ∧ Q (.int (i * j)) H
  | .str z, .int n => CRep z.cps.toList.length n ∧ Q (tx (repL z.cps.toList n)) H
  | .ref l, .int k => ∃ xs, H l = some (.lst xs) ∧ CRep xs.length k ∧ ∀ p, H p = none → Q (.ref p) (upd H p (.lst (repL xs k)))
  | _, _ => False
theorem rep_arr (z : Array Nat) (n : Nat) : (List.foldl (fun x1 x2 => x1 ++ x2) #[] (List.replicate n z)).toList = (List.replicate n z.toList).flatten := by
  have : ∀ (l : List (Array Nat)) (acc : Array Nat), (l.foldl (fun x1 x2 => x1 ++ x2) acc).toList = acc.toList ++ (l.map Array.toList).flatten := by
    intro l
    induction l with
    | nil => intro acc; simp
    | cons a l ih => intro acc; rw [List.foldl_cons, ih]; simp
  rw [this]
  simp
theorem op_mulX {X : Cx} : OpR X (binaryOp .Mult) mMulX := by
  intro pins s σ H x y v u Q I rx ry h
  cases x <;> cases y <;> first
    | exact h.elim
    | exact op_mulG pins s σ H _ _ v u Q I rx ry h
    | (obtain ⟨xs, hl, ⟨c1, c2, c3, c4⟩, q⟩ := h
       exact op_rep pins s σ H _ _ v u Q I rx ry ⟨_, _, xs, rfl, rfl, hl, by omega, by omega, small_n c4, q⟩)
    | (rename_i z n
       obtain ⟨⟨c1, c2, c3, c4⟩, q⟩ := h
       obtain ⟨t, rfl⟩ := rx
       obtain ⟨t', rfl⟩ := ry
       have hz : z.length = z.cps.toList.length := by simp [Str.length]
       refine PySem.P.mul_str (by simp; omega) (fun h1 h2 => ?_) (fun h1 h2 => ?_) ?_
       · rw [hz]
         have hn : 0 < n := by omega
         have : (z.cps.toList.length : Int) * n ≤ 2 ^ 63 - 1 := by
           have e : n = (n.toNat : Int) := by omega
           rw [e, ← Int.natCast_mul]; omega
         have := Int.le_ediv_of_mul_le hn this
         omega
       · unfold Builtin.Str.tooLong
         rw [hz]
         have := small_n c4
         exact decide_eq_false (by omega)
       · by_cases h1 : n < 1
         · rw [if_pos h1]
           have : n = 0 := by omega
           subst this
           exact ⟨Nat.zero_le _, tx [], H, I.tok _, ⟨_, rfl⟩, q⟩
         · rw [if_neg h1]
           by_cases h2 : (n == 1 || z.length == 0) = true
           · rw [if_pos h2]
             have e : repL z.cps.toList n = z.cps.toList := by
               unfold repL
               rw [Bool.or_eq_true] at h2
               rcases h2 with h2 | h2
               · have : n = 1 := by simpa using h2
                 subst this; simp
               · have : z.cps.toList = [] := List.length_eq_zero_iff.mp (by rw [← hz]; simpa using h2)
                 rw [this]; simp
             rw [e] at q
             refine ⟨tx z.cps.toList, H, I, ⟨t, ?_⟩, q⟩
             show Value.str z t = Value.str ⟨z.cps.toList.toArray⟩ t
             rw [← str_eta]
           · rw [if_neg h2]
             refine ⟨?_, tx (repL z.cps.toList n), H, I.tok _, ⟨s.toks, ?_⟩, q⟩
             · have e : (⟨List.foldl (fun x1 x2 => x1 ++ x2) #[] (List.replicate n.toNat z.cps)⟩ : Str).length = (List.replicate n.toNat z.cps.toList).flatten.length := by
                 rw [← rep_arr]; simp [Str.length]
               rw [e, len_rep]
               exact small_n (by rw [Nat.mul_comm]; exact c4)
             show Value.str _ _ = Value.str _ _
             congr 1
             unfold repL
             rw [← rep_arr])
section
variable {K : PySem.W.Frag} {E : XK} {α β γ ρ S S' B B' : Type} {F0 H0 F h H : Hp} {L L' : List Sl} {e e1 e2 : TE} {T : Ty α} {r : Mo α} {O : Own ρ} {t u : TS} {LS : S → List Sl} {LB : B → List Sl}
theorem op_mulXI : Op2 K mMulX E tyInt tyInt (fun i j => .grd (IntMulOk i j) (.ok (i * j))) tyInt := by
  rintro a b x y F H Q hs rfl rfl k
  obtain ⟨c, k⟩ := k.grd
  exact ⟨c, k.ok hs _ rfl⟩
def strsL (l : List (List Nat)) : List Str := l.map fun z => ⟨z.toArray⟩
theorem prs_strs {l : List (List Nat)} {vs : List V} (h : Prs tyStr H l vs) : strsOf vs = some (strsL l) := by
  induction h with
  | nil => rfl
  | cons r t ih => cases r; show (strsOf _).map _ = _; rw [ih]; rfl
theorem me_join : Me K (mJoin K) E (csLast (tyL tyStr)) (fun l c => .grd (JoinOk ⟨l.toArray⟩ (strsL c) = true) (.ok (joinS l (strsL c)))) tyStr := by
  rintro l c vs F H Q hs ⟨v, rfl, p, us, rfl, hp, hr⟩ k
  obtain ⟨z, k⟩ := k.grd
  refine ⟨us, .of (hs _ _ hp), ?_⟩
  rw [prs_strs hr]
  exact ⟨z, k.ok hs _ rfl⟩
theorem s_appendC {i : Nat} {xs : List α} {k : α → Mo (Out ρ B S)} (hi : L[i]? = some (.ow (owL T) xs)) (he : EvF K e E (L.map Sl.cold) r T) (hk : ∀ a, EvS K u E (L.set i (.ow (owL T) (xs ++ [a]))) (k a) LS LB O) :
    EvS K (tSeq (tDrop (tBM K "list" rAppend (mVar i) (tCons e tNil))) u) E L (r.bind fun a => .lim (xs.length + 1) (k a)) LS LB O := by
  intro F0 H0 σ F h H D hL ok fin
  obtain ⟨p, vs, e1, hp, hr, _⟩ := hold_mut hL hi ok
  show mVar i σ H fun x H1 => tyV K "list" x H1 ∧ tCons e tNil σ H1 fun xs H2 => rAppend x xs H2 (fun _ H3 => u D σ H3)
  refine mvar_at e1 ⟨.inl ⟨rfl, vs, .of hp⟩, ?_⟩
  refine he σ F H _ hL.coldF ok.1.2.1 (fin_ok (G := F) ok _ (.inr rfl) fin fun a F' H' hra x v hv => ?_)
  rw [hra] at fin
  obtain ⟨hz, fin⟩ := fin_lim (show Fin K (Mo.lim (xs.length + 1) (k a)) E LS LB O F0 H0 D from fin)
  obtain ⟨p', vs', e1', hp', hr', mm⟩ := hold_mut (hL.mono x.1) hi (ok.cold x)
  rw [e1] at e1'; cases e1'
  obtain ⟨h', a1, a2⟩ := mm (xs ++ [a]) (vs' ++ [v]) (hr'.append (.cons hv .nil))
  exact ⟨p, vs', v, rfl, rfl, hp', by rw [← hr'.len]; omega, hk a F0 H0 σ _ h' _ D a1 a2 fin⟩
end
end L2
namespace L2
open PySem PySem.Spec PyProof.Rows
structure KyT (κ : Type) where
  T : Ty κ
  key : κ → Key
  inj : ∀ {a b}, key a = key b → a = b
  of : ∀ {a v H}, T.R a v H → keyV v = some (key a)
abbrev kInt : KyT Int := ⟨tyInt, Sum.inl, fun h => by injection h, fun h => by cases h; rfl⟩
section
variable {K : PySem.W.Frag} {E : XK} {α β γ ρ κ S S' B B' : Type} {F0 H0 F h H : Hp} {L L' : List Sl} {e e1 e2 : TE} {T : Ty α} {r : Mo α} {O : Own ρ} {t u : TS} {LS : S → List Sl} {LB : B → List Sl} {KY : KyT κ}
abbrev DPr (KY : KyT κ) (T : Ty α) (H : Hp) (m : List (κ × α)) (kvs : List (Key × V)) : Prop := Paired (fun (q : κ × α) (w : Key × V) => w.1 = KY.key q.1 ∧ T.R q.2 w.2 H) m kvs
theorem DPr.mono {m : List (κ × α)} {kvs : List (Key × V)} {H H' : Hp} (g : Same H H') (h : DPr KY T H m kvs) : DPr KY T H' m kvs := paired_imp (fun _ _ r => ⟨r.1, T.mono g r.2⟩) h
theorem DPr.imm (i : Imm T) {m : List (κ × α)} {kvs : List (Key × V)} {H H' : Hp} (g : Tups H H') (h : DPr KY T H m kvs) : DPr KY T H' m kvs := paired_imp (fun _ _ r => ⟨r.1, i g r.2⟩) h
abbrev tyD (KY : KyT κ) (T : Ty α) : Ty (List (κ × α)) := ⟨fun m v H => ∃ p kvs, v = .ref p ∧ H p = some (.dK kvs) ∧ DPr KY T H m kvs, fun g ⟨p, kvs, e, h, q⟩ => ⟨p, kvs, e, g _ _ h, q.mono g⟩⟩
abbrev owD (KY : KyT κ) (T : Ty α) : Own (List (κ × α)) := ⟨fun m v F h => ∃ p kvs, v = .ref p ∧ h = one p (.dK kvs) ∧ DPr KY T F m kvs, tyD KY T, fun g ⟨p, vs, e, z, q⟩ => ⟨p, vs, e, z, q.mono g⟩,
  fun d ⟨p, vs, e, z, q⟩ => ⟨p, vs, e, un_own d _ _ (by rw [z]; exact one_same), q.mono un_same⟩,
  fun ⟨p, vs, e, z, q⟩ b xs y => by rw [z] at y; unfold one at y; split at y <;> cases y⟩
theorem immo_d (i : Imm T) : ImmO (owD KY T) := fun g ⟨p, vs, e, z, q⟩ => ⟨p, vs, e, z, q.imm i g⟩
variable [DecidableEq κ]
def getA (m : List (κ × α)) (k : κ) : Option α := (m.find? fun q => decide (q.1 = k)).map (·.2)
def putA (m : List (κ × α)) (k : κ) (v : α) : List (κ × α) := if (m.any fun q => decide (q.1 = k)) = true then m.map (fun q => if q.1 = k then (q.1, v) else q) else m ++ [(k, v)]
theorem key_dec (a b : κ) : decide (KY.key a = KY.key b) = decide (a = b) := by rw [decide_eq_decide]; exact ⟨KY.inj, fun h => by rw [h]⟩
theorem dpr_get {m : List (κ × α)} {kvs : List (Key × V)} (h : DPr KY T H m kvs) (k : κ) : (getA m k = none ∧ valV kvs (KY.key k) = none) ∨ ∃ a v, getA m k = some a ∧ valV kvs (KY.key k) = some v ∧ T.R a v H := by
  induction h with
  | nil => exact .inl ⟨rfl, rfl⟩
  | cons r t ih =>
    rename_i q w m kvs
    unfold getA valV at ih ⊢
    rw [List.find?_cons, List.find?_cons, r.1, key_dec]
    by_cases e : q.1 = k
    · rw [decide_eq_true e]; exact .inr ⟨_, _, rfl, rfl, r.2⟩
    · rw [decide_eq_false e]; exact ih
theorem dpr_any {m : List (κ × α)} {kvs : List (Key × V)} (h : DPr KY T H m kvs) (k : κ) : (kvs.any fun w => decide (w.1 = KY.key k)) = m.any fun q => decide (q.1 = k) := by
  induction h with
  | nil => rfl
  | cons r t ih => rw [List.any_cons, List.any_cons, ih, r.1, key_dec]
theorem dpr_app {m m' : List (κ × α)} {kvs kvs' : List (Key × V)} (h : DPr KY T H m kvs) (h' : DPr KY T H m' kvs') : DPr KY T H (m ++ m') (kvs ++ kvs') := by
  induction h with
  | nil => exact h'
  | cons r t ih => exact .cons r ih
theorem dpr_set {m : List (κ × α)} {kvs : List (Key × V)} (h : DPr KY T H m kvs) (k : κ) {a : α} {v : V} (hv : T.R a v H) : DPr KY T H (m.map fun q => if q.1 = k then (q.1, a) else q) (kvs.map fun w => if w.1 = KY.key k then (w.1, v) else w) := by
  induction h with
  | nil => exact .nil
  | cons r t ih =>
    rename_i q w m kvs
    rw [List.map_cons, List.map_cons]
    refine .cons ?_ ih
    by_cases e : q.1 = k
    · rw [if_pos e, if_pos (by rw [r.1, e])]; exact ⟨r.1, hv⟩
    · rw [if_neg e, if_neg (fun z => e (KY.inj (by rw [← r.1, z])))]; exact r
theorem dpr_put {m : List (κ × α)} {kvs : List (Key × V)} (h : DPr KY T H m kvs) (k : κ) {a : α} {v : V} (hv : T.R a v H) : DPr KY T H (putA m k a) (putK kvs (KY.key k) v) := by
  unfold putA putK
  rw [dpr_any h]
  split
  · exact dpr_set h k hv
  · exact dpr_app h (.cons ⟨rfl, hv⟩ .nil)
theorem ev_dnew (KY : KyT κ) (T : Ty α) : EvO K tDNewK E L (.ok []) (owD KY T) := by
  intro σ F H Q hL hs q p hp
  have q' : OwnK (owD KY T) H Q [] F (upd H p (.dK [])) := q F _ (.heap hs (same_new hp _))
  refine q' (.ref p) (one p (.dK [])) (fun b z => ?_) (fun b => ?_) (fun b o z => ?_) ⟨p, [], rfl, rfl, .nil⟩
  · unfold one at z; split at z
    · rename_i e; rw [e]; exact hp
    · exact absurd rfl z
  · unfold one; split
    · rename_i e; rw [e]; exact .inl (hs.free hp)
    · exact .inr rfl
  · unfold one at z; split at z
    · rename_i e; rw [e]; cases z; exact upd_same
    · cases z
theorem ev_varD (i : Nat) {m : List (κ × α)} (h : L[i]? = some (.ow (owD KY T) m)) : EvF K (mVar i) E L (.ok m) (tyD KY T) := ev_varO i h
theorem at_d {x y : V} {R : Addr → List (Key × V) → Key → Prop} {m : List (κ × α)} {k : κ} (hx : (tyD KY T).R m x F) (hy : KY.T.R k y F) (hs : Same F H) (hr : ∀ p kvs, H p = some (.dK kvs) → DPr KY T F m kvs → R p kvs (KY.key k)) : atD x y H R := by
  obtain ⟨p, kvs, rfl, hp, hd⟩ := hx
  unfold atD
  simp only
  rw [KY.of hy]
  exact ⟨kvs, hs _ _ hp, hr p kvs (hs _ _ hp) hd⟩
theorem ev_dget {r1 : Mo (List (κ × α))} {r2 : Mo κ} (h1 : EvF K e1 E L r1 (tyD KY T)) (h2 : EvF K e2 E L r2 KY.T) : EvF K (mDGet e1 e2) E L (r1.bind fun m => r2.bind fun k => .opt (getA m k)) T := by
  intro σ F H Q hL hs q
  refine h1 σ F H _ hL hs (q.bind.imp fun m F1 H1 x1 k1 v1 hv1 => ?_)
  refine h2 σ F1 H1 _ (hL.mono x1.1) x1.2.1 (k1.bind.imp fun k F2 H2 x2 k2 v2 hv2 => ?_)
  refine at_d ((tyD KY T).mono x2.1 hv1) hv2 x2.2.1 fun p kvs hp hd => ?_
  obtain ⟨a, ea, k3⟩ := k2.opt
  rcases dpr_get hd k with ⟨z, _⟩ | ⟨a', v, z1, z2, z3⟩
  · rw [z] at ea; cases ea
  · rw [z1] at ea; cases ea
    exact ⟨v, z2, k3.ok x2.2.1 v z3⟩
theorem ev_din (neg : Bool) {r1 : Mo (List (κ × α))} {r2 : Mo κ} (h2 : EvF K e2 E L r2 KY.T) (h1 : EvF K e1 E L r1 (tyD KY T)) : EvF K (mDIn neg e2 e1) E L (r2.bind fun k => r1.bind fun m => .ok (if neg then !(getA m k).isSome else (getA m k).isSome)) tyBl := by
  intro σ F H Q hL hs q
  refine h2 σ F H _ hL hs (q.bind.imp fun k F1 H1 x1 k1 v1 hv1 => ?_)
  refine h1 σ F1 H1 _ (hL.mono x1.1) x1.2.1 (k1.bind.imp fun m F2 H2 x2 k2 v2 hv2 => ?_)
  refine at_d hv2 (KY.T.mono x2.1 hv1) x2.2.1 fun p kvs hp hd => ?_
  have e : (valV kvs (KY.key k)).isSome = (getA m k).isSome := by
    rcases dpr_get hd k with ⟨z1, z2⟩ | ⟨a', v, z1, z2, z3⟩
    · rw [z1, z2]; rfl
    · rw [z1, z2]; rfl
  rw [e]
  exact k2.ok x2.2.1 _ rfl
theorem hold_mutD {i : Nat} {σ : St} {m : List (κ × α)} (hL : Hold L σ F h) (hi : L[i]? = some (.ow (owD KY T) m)) (ok : Okk F0 H0 F h H) :
    ∃ p kvs, σ[i]? = some (some (.ref p)) ∧ H p = some (.dK kvs) ∧ DPr KY T F m kvs ∧ ∀ m' kvs', DPr KY T F m' kvs' → ∃ h', Hold (L.set i (.ow (owD KY T) m')) σ F h' ∧ Okk F0 H0 F h' (upd H p (.dK kvs')) := by
  obtain ⟨o, h1, h2, e1, j, ⟨v, e2, p, kvs, rfl, rfl, hr⟩, f⟩ := hL.at i hi
  subst e2
  have hp : h p = some (.dK kvs) := j.l _ _ one_same
  have h2p : h2 p = none := by
    rcases j.dj p with z | z
    · rw [one_same] at z; cases z
    · exact z
  refine ⟨p, kvs, e1, ok.2.2.1 _ _ hp, hr, fun m' kvs' hr' => ?_⟩
  have d2 : Dj (one p (.dK kvs')) h2 := fun q => by
    unfold one; split
    · rename_i z; rw [z]; exact .inr h2p
    · exact .inl rfl
  have g := f (.ow (owD KY T) m') (some (.ref p)) (one p (.dK kvs')) _ (jn_of d2) ⟨_, rfl, p, kvs', rfl, rfl, hr'⟩
  rw [set_self e1] at g
  refine ⟨_, g, mut_okk (h1' := h) (hr := h) (h' := h) ok (by rw [hp]; exact Option.some_ne_none _) (fun xs z => by cases z) _ fun b => ?_⟩
  unfold un one
  by_cases z : b = p
  · simp only [if_pos z]
  · simp only [if_neg z]
    rcases j b with ⟨_, c⟩ | ⟨a, c⟩
    · exact c.symm
    · rw [c, a]; unfold one; rw [if_neg z]
theorem s_dput {i : Nat} {m : List (κ × α)} {r2 : Mo κ} {k : α → κ → Mo (Out ρ B S)} (hi : L[i]? = some (.ow (owD KY T) m)) (hT : Imm T) (hKT : Imm KY.T) (he : EvF K e E L r T) (he2 : EvF K e2 E L r2 KY.T) (hk : ∀ a y, EvS K u E (L.set i (.ow (owD KY T) (putA m y a))) (k a y) LS LB O) :
    EvS K (tSeq (mDPut (mVar i) e2 e) u) E L (r.bind fun a => r2.bind fun y => .lim (m.length + 1) (k a y)) LS LB O := by
  intro F0 H0 σ F h H D hL ok fin
  show e σ H fun v H1 => mVar i σ H1 fun x H2 => e2 σ H2 fun y H3 => atD x y H3 fun a kvs k => kvs.length < sizeLine ∧ u D σ (upd H3 a (.dK (putK kvs k v)))
  refine he σ (un F h) H _ (hL.froz ok.2.1) ok.thaw (fin_ok (G := F) ok _ (.inl rfl) fin fun a F1 H1 hra x1 v hv => ?_)
  obtain ⟨o, hs, ht⟩ := ok.back x1
  rw [hra] at fin
  have hL' := hL.mono hs
  have hv' := hT ht hv
  obtain ⟨p, kvs, e1, hp, hr, _⟩ := hold_mutD hL' hi o
  refine mvar_at e1 ?_
  refine he2 σ (un _ h) H1 _ (hL'.froz o.2.1) o.thaw (fin_ok (G := F) o _ (.inl rfl) fin fun y F2 H2 hry x2 v2 hv2 => ?_)
  obtain ⟨o', hs', ht'⟩ := o.back x2
  rw [hry] at fin
  obtain ⟨hz, fin⟩ := fin_lim (show Fin K (Mo.lim (m.length + 1) (k a y)) E LS LB O F0 H0 D from fin)
  obtain ⟨p', kvs', e1', hp', hr', mm⟩ := hold_mutD (hL'.mono hs') hi o'
  rw [e1] at e1'; cases e1'
  obtain ⟨h', a1, a2⟩ := mm (putA m y a) (putK kvs' (KY.key y) v) (dpr_put hr' y (T.mono hs' hv'))
  unfold atD
  simp only
  rw [KY.of hv2]
  refine ⟨kvs', hp', ?_, hk a y F0 H0 σ _ h' _ D a1 a2 fin⟩
  have := Paired.length hr'
  omega
end
end L2
namespace L2
open PySem PySem.Spec PyProof.Rows
section
variable {α κ : Type} [DecidableEq κ]
end
section
variable {α : Type}
end
end L2
namespace L2
open PySem PySem.Spec PyProof.Rows
section
variable {K : PySem.W.Frag} {E : XK}
end
end L2
namespace Att
open PySem PySem.W PySem.Calls PyProof.Rows
theorem bits_all {ns : List Int} (h : WData.layableAll [WData.list (ns.map WData.int)] = true) : ∀ x ∈ ns, Builtin.Int.intBits x ≤ 1048576 := by
  intro x hx
  have h1 := layableW_arg h _ (List.mem_singleton.mpr rfl)
  have h2 := layableW_item h1 (.int x) (List.mem_map.mpr ⟨x, hx, rfl⟩)
  exact PyData.bits_of_layable (layable_int h2)
theorem attach_callB {l : OpenLaw} {n : Nat} {q : Program} {loose : List Str} {XP : (Str → Option Value) → Heap → Prop} {YP : World → Heap → Prop} {d : DefRec}
    (hn : l.most = some n) (hdf : d.params.defaults = [])
    (call : ∀ (w : World) (s₀ s₁ : Shared) (mg mb : Str → Option Value) (fa : Addr) (o : Obj) (pm cd doc : Value) (a : Addr) (vs : List Value) (ns : List Int),
      (∀ x ∈ ns, Builtin.Int.intBits x ≤ 1048576) →
      Ground q loose [] XP w s₀ mg mb s₁.heap → YP w s₁.heap →
      s₁.heap.get? fa = some o → o.data = .func (docDef d.name d.params d.body d.scope pm cd doc) → s₁.heap.CodeRec cd d.name → mg d.name = some (.ref fa) →
      s₁.heap.get? a = some { cls := .type "list", data := .seq vs.toArray } → IntsAre vs ns → ns.length ≤ n → s₁.gens = #[] →
      codeAny (model l.prog w) callerA (.call (.ref fa) ⟨[.ref a], []⟩) (fun r s' => r = .ok (.ret (.bool true)) ∧ OldK s₁.heap s'.heap ∧ s'.os = s₁.os ∧ AllBare s'.gens) s₁) :
    WalkO q loose XP YP l.row.toRowW d [] (fun f vs => PySem.call f vs) := by
  intro w s₀ s₁ mg mb G Y fa o pm cd doc dV kV ho hd hcd hD hmg hg args vals as hpre hlay hrd hwl hlo
  obtain rfl : dV = .none := Dflts.none hD hdf
  obtain rfl : kV = .none := Dflts.noKw hD
  obtain ⟨a, vs, ns, rfl, rfl, hobj, hints, hlen⟩ := script_of hn hpre hwl
  refine enter_call (codeAny_mono (call w s₀ s₁ mg mb fa o pm cd doc a vs ns (bits_all hlay) G Y ho (fd_plain hd) hcd hmg hobj hints hlen hg) fun r s' hq => ?_)
  obtain ⟨rfl, h2, h3, h4⟩ := hq
  exact ⟨.inl ⟨.bool true, .bool true, [], rfl, fun _ => rfl, .bool true, post_true l _, fun _ => ⟨List.Pairwise.nil, fun _ hm => (nomatch hm)⟩⟩, h2, h3, h4⟩
end Att
namespace L2
open PySem PySem.Spec PyProof.Rows
theorem walk_ofB {l : PySem.W.OpenLaw} {n k : Nat} {q : Program} {loose : List Str} {XP : (Str → Option Value) → Heap → Prop} {YP : World → Heap → Prop} {d : DefRec} {K : Params → PySem.W.Frag} {CX : World → CXT} {sp : World → Sp} {x : Str}
    (hn : l.most = some n) (hn2 : n ≤ sizeLine) (hdf : d.params.defaults = []) (hr : Room k callerA)
    (hY : ∀ (w : World) (h : Heap), YP w h → (K w.params).In h)
    (F : ∀ (w : World) (mg : Str → Option Value) (fa : Addr) (h : Heap), (K w.params).In h → h.Ns mainGlobals mg → mg d.name = some (.ref fa) →
      ∃ fd : FuncData, (∀ (s : Shared) (u : Value), BindsTo s fd ⟨[u], []⟩ [(x, u)]) ∧
        ∀ base : Heap, (K w.params).In base → base.Ns mainGlobals mg → FnOk l.prog w (K w.params) mg base (CX w) k fa fd [x] (sp w))
    (hsp : ∀ (w : World) (H : Hp) (a : Addr) (ns : List Int), ns.length ≤ n → (∀ x ∈ ns, Builtin.Int.intBits x ≤ 1048576) → Only H → SqL (K w.params) H a (ns.map V.int) → sp w [.ref a] H (fun v _ => v = .bl true) fun _ _ _ => False)
    (hCX : ∀ (w : World) (H : Hp) (s : Shared) (e : Value) (s' : Shared), CX w [] H s (fun _ _ _ => False) e s' → False) :
    PySem.W.WalkO q loose XP YP l.row.toRowW d [] (fun f vs => PySem.call f vs) := by
  refine Att.attach_callB hn hdf fun w s₀ s₁ mg mb fa o pm cd doc a vs ns hbits G Y ho hd hcd hmg hobj hints hlen hg => ?_
  have KX := hY w _ Y
  obtain ⟨fd, hb, hF⟩ := F w mg fa _ KX G.T.g hmg
  exact law_call KX G.T.g G.T.b G.T.builtins G.T.nolimit hg hobj hints (Nat.le_trans hlen hn2) hr hF hb (fun H hO hS => hsp w H a ns hlen hbits hO hS) fun H e s' => hCX w H s₁ e s'
abbrev BitsOk (ns : List Int) : Prop := ∀ x ∈ ns, Builtin.Int.intBits x ≤ 1048576
end L2
namespace L2
open PySem PySem.Spec PyProof.Rows PySem.W
section
variable {α β : Type}
def okT (lt : Nat → Nat → Bool) (n : Nat) : KasT α → (α → Prop) → Prop
  | .ret a, P => P a
  | .ask i j k, P => i < n ∧ j < n ∧ okT lt n (k (lt i j)) P
variable {lt : Nat → Nat → Bool} {n : Nat}
theorem okT_bind {f : α → KasT β} {P : β → Prop} : ∀ (t : KasT α), okT lt n t (fun a => okT lt n (f a) P) → okT lt n (t.bind f) P
  | .ret _, h => h
  | .ask i j k, h => ⟨h.1, h.2.1, okT_bind (k (lt i j)) h.2.2⟩
theorem okT_mono {P Q : α → Prop} (hq : ∀ a, P a → Q a) : ∀ (t : KasT α), okT lt n t P → okT lt n t Q
  | .ret _, h => hq _ h
  | .ask i j k, h => ⟨h.1, h.2.1, okT_mono hq (k (lt i j)) h.2.2⟩
theorem okT_wp {prog : Program} {w : World} {A : Around} {κ : SortKind} {vs : List Value} {s : Shared} {P : α → Prop} {Q : α → Shared → Prop}
    (cm : ∀ i j (C : Bool → Shared → Prop), i < n → j < n → C (lt i j) s → kas_ask prog w A κ vs i j C s) (hq : ∀ a, P a → Q a s) : ∀ t : KasT α, okT lt n t P → t.kasWp (kas_ask prog w A κ vs) Q s
  | .ret a, h => hq a h
  | .ask i j k, h => cm i j (fun b s' => (k b).kasWp (kas_ask prog w A κ vs) Q s') h.1 h.2.1 (okT_wp cm hq (k (lt i j)) h.2.2)
structure WOr (lt : Nat → Nat → Bool) : Prop where
  asym : ∀ {a b}, lt a b = true → lt b a = false
  tr : ∀ {a b c}, lt b a = false → lt c b = false → lt c a = false
abbrev le (lt : Nat → Nat → Bool) (a b : Nat) : Prop := lt b a = false
theorem WOr.refl (w : WOr lt) (a : Nat) : le lt a a := by
  cases h : lt a a with
  | false => exact h
  | true => exact w.asym h
abbrev Pm (p : Array Nat) (n : Nat) : Prop := p.toList.Perm (List.range n)
theorem pm_size {p : Array Nat} (h : Pm p n) : p.size = n := by have := h.length_eq; rwa [List.length_range, Array.length_toList] at this
theorem pm_lt {p : Array Nat} (h : Pm p n) {i : Nat} (hi : i < n) : p.getD i 0 < n := by
  have hs := pm_size h
  have : p.getD i 0 = p[i]'(by omega) := by simp [Array.getD, hs, hi]
  rw [this]
  exact List.mem_range.mp (h.mem_iff.mp (by simp))
theorem getD_congr {p q : Array Nat} {i j : Nat} (h : p[i]? = q[j]?) : p.getD i 0 = q.getD j 0 := by
  rw [Array.getD_eq_getD_getElem?, Array.getD_eq_getD_getElem?, h]
theorem pm_rev {p : Array Nat} (h : Pm p n) (i j : Nat) : Pm (kas_rev p i j) n := (Array.perm_iff_toList_perm.mp (mirror_perm p i j _)).trans h
theorem rev_at {p : Array Nat} {i j : Nat} (hj : j ≤ p.size) (k : Nat) : (kas_rev p i j).getD k 0 = if i ≤ k ∧ k < j then p.getD (i + j - 1 - k) 0 else p.getD k 0 := by
  have := getElem?_mirror_all (xs := p) (i := i) hj k
  split
  · rename_i q; rw [if_pos q] at this; exact getD_congr this
  · rename_i q; rw [if_neg q] at this; exact getD_congr this
def Asc (lt : Nat → Nat → Bool) (p : Array Nat) (k : Nat) : Prop := ∀ i j, i ≤ j → j < k → le lt (p.getD i 0) (p.getD j 0)
def Dsc (lt : Nat → Nat → Bool) (p : Array Nat) (k : Nat) : Prop := ∀ i j, i ≤ j → j < k → le lt (p.getD j 0) (p.getD i 0)
theorem Asc.one (w : WOr lt) (p : Array Nat) : Asc lt p 1 := fun i j a b => by
  obtain rfl : i = j := by omega
  exact w.refl _
theorem asc_ok (w : WOr lt) {p : Array Nat} (hp : Pm p n) : ∀ (f m : Nat), 1 ≤ m → m + f ≤ n → Asc lt p m → okT lt n (kas_asc p f m) (fun r => m ≤ r ∧ r ≤ m + f ∧ Asc lt p r ∧ (r < m + f → lt (p.getD r 0) (p.getD (r - 1) 0) = true))
  | 0, m, h1, hm, ha => ⟨Nat.le_refl _, Nat.le_refl _, ha, fun h => absurd h (Nat.lt_irrefl _)⟩
  | f + 1, m, h1, hm, ha => by
    refine ⟨pm_lt hp (by omega), pm_lt hp (by omega), ?_⟩
    show okT lt n (if lt (p.getD m 0) (p.getD (m - 1) 0) = true then KasT.ret m else kas_asc p f (m + 1)) _
    cases h : lt (p.getD m 0) (p.getD (m - 1) 0) with
    | true => rw [if_pos rfl]; exact ⟨Nat.le_refl _, by omega, ha, fun _ => h⟩
    | false =>
      rw [if_neg (by decide)]
      refine okT_mono (fun r q => ⟨by omega, by omega, q.2.2.1, fun z => q.2.2.2 (by omega)⟩) _ (asc_ok w hp f (m + 1) (by omega) (by omega) fun i j hij hj => ?_)
      by_cases e : j < m
      · exact ha i j hij e
      · obtain rfl : j = m := by omega
        by_cases e2 : i = j
        · subst e2; exact w.refl _
        · exact w.tr (ha i (j - 1) (by omega) (by omega)) h
theorem rev_eq (w : WOr lt) {p : Array Nat} {m q : Nat} (hm : m ≤ p.size) (hq : q + 1 ≤ m) (hd : Dsc lt p m) (he : ∀ i, m - (q + 1) ≤ i → i < m → le lt (p.getD i 0) (p.getD (m - 1) 0)) : Dsc lt (kas_rev p (m - (q + 1)) m) m := by
  intro i j hij hj
  have r1 := rev_at (p := p) (i := m - (q + 1)) hm i
  have r2 := rev_at (p := p) (i := m - (q + 1)) hm j
  show lt _ _ = false
  rw [r1, r2]
  by_cases a : m - (q + 1) ≤ i
  · rw [if_pos ⟨a, by omega⟩, if_pos ⟨by omega, hj⟩]
    exact w.tr (he _ (by omega) (by omega)) (hd _ (m - 1) (by omega) (by omega))
  · rw [if_neg (fun z => a z.1)]
    by_cases b : m - (q + 1) ≤ j
    · rw [if_pos ⟨b, hj⟩]; exact hd _ _ (by omega) (by omega)
    · rw [if_neg (fun z => b z.1)]; exact hd _ _ hij hj
theorem desc_ok (w : WOr lt) : ∀ (f : Nat) (p : Array Nat) (m q : Nat), Pm p n → q + 1 ≤ m → m + f ≤ n → Dsc lt p m → (∀ i, m - (q + 1) ≤ i → i < m → le lt (p.getD i 0) (p.getD (m - 1) 0)) →
    okT lt n (kas_desc f p m q) (fun r => Pm r.1 n ∧ r.2.2 + 1 ≤ r.2.1 ∧ r.2.1 ≤ m + f ∧ Dsc lt r.1 r.2.1 ∧ ∀ i, r.2.1 - (r.2.2 + 1) ≤ i → i < r.2.1 → le lt (r.1.getD i 0) (r.1.getD (r.2.1 - 1) 0))
  | 0, p, m, q, hp, h1, hm, hd, he => ⟨hp, h1, Nat.le_refl _, hd, he⟩
  | f + 1, p, m, q, hp, h1, hm, hd, he => by
    have hsz := pm_size hp
    refine ⟨pm_lt hp (by omega), pm_lt hp (by omega), ?_⟩
    cases h : lt (p.getD m 0) (p.getD (m - 1) 0) with
    | true =>
      dsimp only
      rw [if_pos rfl]
      have fin : ∀ p1 : Array Nat, Pm p1 n → Dsc lt p1 m → p1.getD m 0 = p.getD m 0 → (∀ i, i < m → le lt (p.getD (m - 1) 0) (p1.getD i 0)) → okT lt n (kas_desc f p1 (m + 1) 0) (fun r => Pm r.1 n ∧ r.2.2 + 1 ≤ r.2.1 ∧ r.2.1 ≤ m + (f + 1) ∧ Dsc lt r.1 r.2.1 ∧ ∀ i, r.2.1 - (r.2.2 + 1) ≤ i → i < r.2.1 → le lt (r.1.getD i 0) (r.1.getD (r.2.1 - 1) 0)) := by
        intro p1 hp1 hd1 e1 hb
        refine okT_mono (fun r q => ⟨q.1, q.2.1, by omega, q.2.2.2⟩) _ (desc_ok w f p1 (m + 1) 0 hp1 (by omega) (by omega) (fun i j hij hj => ?_) fun i a b => ?_)
        · by_cases e : j < m
          · exact hd1 i j hij e
          · obtain rfl : j = m := by omega
            by_cases e2 : i = j
            · subst e2; exact w.refl _
            · rw [e1]; exact w.tr (w.asym h) (hb i (by omega))
        · obtain rfl : i = m := by omega
          exact w.refl _
      by_cases hq : q > 0
      · rw [if_pos hq]
        refine fin _ (pm_rev hp _ _) (rev_eq w (by omega) h1 hd he) ?_ fun i hi => ?_
        · rw [rev_at (by omega), if_neg (by omega)]
        · rw [rev_at (by omega)]
          split
          · exact hd _ _ (by omega) (by omega)
          · exact hd _ _ (by omega) (by omega)
      · rw [if_neg hq]
        exact fin p hp hd rfl fun i hi => hd _ _ (by omega) (by omega)
    | false =>
      dsimp only
      rw [if_neg (by decide)]
      refine ⟨pm_lt hp (by omega), pm_lt hp (by omega), ?_⟩
      cases h2 : lt (p.getD (m - 1) 0) (p.getD m 0) with
      | true => dsimp only; rw [if_pos rfl]; exact ⟨hp, h1, by show m ≤ m + (f + 1); omega, hd, he⟩
      | false =>
        dsimp only
        rw [if_neg (by decide)]
        refine okT_mono (fun r q => ⟨q.1, q.2.1, by omega, q.2.2.2⟩) _ (desc_ok w f p (m + 1) (q + 1) hp (by omega) (by omega) (fun i j hij hj => ?_) fun i a b => ?_)
        · by_cases e : j < m
          · exact hd i j hij e
          · obtain rfl : j = m := by omega
            by_cases e2 : i = j
            · subst e2; exact w.refl _
            · exact w.tr h2 (hd i (j - 1) (by omega) (by omega))
        · show le lt (p.getD i 0) (p.getD m 0)
          by_cases e : i = m
          · subst e; exact w.refl _
          · exact w.tr (he i (by omega) (by omega)) h
abbrev Got (lt : Nat → Nat → Bool) (n : Nat) (r : Nat × Array Nat) : Prop := Pm r.2 n ∧ r.1 ≤ n ∧ Asc lt r.2 r.1
theorem tail3_ok (w : WOr lt) {p : Array Nat} {m : Nat} (hp : Pm p n) (h1 : 1 ≤ m) (hm : m ≤ n) (hd : Dsc lt p m) : okT lt n (kas_tail3 m n p) (Got lt n) := by
  have hsz := pm_size hp
  refine okT_bind _ (okT_mono (fun r q => ?_) _ (asc_ok w (pm_rev hp 0 m) (n - m) m h1 (by omega) fun i j hij hj => ?_))
  · exact ⟨pm_rev hp 0 m, by show r ≤ n; omega, q.2.2.1⟩
  · rw [rev_at (by omega), rev_at (by omega), if_pos (by omega), if_pos (by omega)]
    exact hd _ _ (by omega) (by omega)
theorem descPart_ok (w : WOr lt) {p : Array Nat} {m : Nat} (hp : Pm p n) (hm : m + 1 ≤ n) (hd : Dsc lt p (m + 1)) : okT lt n (kas_descPart m n p) (Got lt n) := by
  refine okT_bind _ (okT_mono (fun r q => ?_) _ (desc_ok w (n - (m + 1)) p (m + 1) 0 hp (by omega) (by omega) hd fun i a b => ?_))
  · obtain ⟨q1, q2, q3, q4, q5⟩ := q
    have hsz := pm_size q1
    by_cases z : r.2.2 > 0
    · rw [if_pos z]
      exact tail3_ok w (pm_rev q1 _ _) (by omega) (by omega) (rev_eq w (by omega) q2 q4 q5)
    · rw [if_neg z]
      exact tail3_ok w q1 (by omega) (by omega) q4
  · obtain rfl : i = m := by omega
    exact w.refl _
theorem count_ok (w : WOr lt) {p : Array Nat} (hp : Pm p n) (hn : 1 ≤ n) : okT lt n (kas_count n p) (Got lt n) := by
  have hsz := pm_size hp
  refine okT_bind _ (okT_mono (fun m q => ?_) _ (asc_ok w hp (n - 1) 1 (Nat.le_refl _) (by omega) (Asc.one w p)))
  obtain ⟨q1, q2, q3, q4⟩ := q
  by_cases e : m = n
  · rw [if_pos (by simp [e])]; exact ⟨hp, by show m ≤ n; omega, q3⟩
  · rw [if_neg (by simp [e])]
    have hl := q4 (by omega)
    by_cases z : m > 1
    · rw [if_pos z]
      refine ⟨pm_lt hp (by omega), pm_lt hp (by omega), ?_⟩
      cases c : lt (p.getD 0 0) (p.getD (m - 1) 0) with
      | true => dsimp only; rw [if_pos rfl]; exact ⟨hp, by show m ≤ n; omega, q3⟩
      | false =>
        dsimp only
        rw [if_neg (by decide)]
        have hall : ∀ a b, a < m → b < m → le lt (p.getD a 0) (p.getD b 0) := fun a b ha hb => w.tr (w.tr (q3 a (m - 1) (by omega) (by omega)) c) (q3 0 b (by omega) hb)
        refine descPart_ok w (pm_rev hp 0 m) (by omega) fun i j hij hj => ?_
        rw [rev_at (by omega), rev_at (by omega)]
        by_cases a : j < m
        · rw [if_pos (by omega), if_pos (by omega)]; exact hall _ _ (by omega) (by omega)
        · obtain rfl : j = m := by omega
          rw [if_neg (by omega)]
          by_cases b : i < j
          · rw [if_pos (by omega)]; exact w.tr (w.asym hl) (hall _ _ (by omega) (by omega))
          · obtain rfl : i = j := by omega
            rw [if_neg (by omega)]; exact w.refl _
    · rw [if_neg z]
      obtain rfl : m = 1 := by omega
      refine descPart_ok w hp (by omega) fun i j hij hj => ?_
      by_cases a : i = j
      · subst a; exact w.refl _
      · obtain rfl : i = 0 := by omega
        obtain rfl : j = 1 := by omega
        exact w.asym hl
theorem place_ok (w : WOr lt) {p : Array Nat} {k : Nat} (hp : Pm p n) (hk : k < n) (ha : Asc lt p k) : ∀ (f l r : Nat), l ≤ r → r ≤ k → r - l ≤ f → (∀ i, i < l → le lt (p.getD i 0) (p.getD k 0)) → (∀ i, r ≤ i → i < k → le lt (p.getD k 0) (p.getD i 0)) →
    okT lt n (kas_place p k f l r) (fun m => m ≤ k ∧ (∀ i, i < m → le lt (p.getD i 0) (p.getD k 0)) ∧ ∀ i, m ≤ i → i < k → le lt (p.getD k 0) (p.getD i 0))
  | 0, l, r, h1, h2, h3, h4, h5 => ⟨by show l ≤ k; omega, h4, fun i a b => h5 i (by omega) b⟩
  | f + 1, l, r, h1, h2, h3, h4, h5 => by
    unfold kas_place
    by_cases e : l ≥ r
    · rw [if_pos e]; exact ⟨by show l ≤ k; omega, h4, fun i a b => h5 i (by omega) b⟩
    · rw [if_neg e]
      refine ⟨pm_lt hp hk, pm_lt hp (by omega), ?_⟩
      cases c : lt (p.getD k 0) (p.getD ((l + r) / 2) 0) with
      | true =>
        dsimp only
        rw [if_pos rfl]
        refine place_ok w hp hk ha f l ((l + r) / 2) (by omega) (by omega) (by omega) h4 fun i a b => ?_
        exact w.tr (w.asym c) (ha _ _ a b)
      | false =>
        dsimp only
        rw [if_neg (by decide)]
        refine place_ok w hp hk ha f ((l + r) / 2 + 1) r (by omega) h2 (by omega) (fun i hi => ?_) h5
        exact w.tr (ha i ((l + r) / 2) (by omega) (by omega)) c
theorem bin_ok (w : WOr lt) : ∀ (f : Nat) (p : Array Nat) (k : Nat), Pm p n → k + f = n → Asc lt p k → okT lt n (kas_bin f p k) (fun r => Pm r n ∧ Asc lt r n)
  | 0, p, k, hp, hk, ha => ⟨hp, (show k = n by omega) ▸ ha⟩
  | f + 1, p, k, hp, hk, ha => by
    have hsz := pm_size hp
    refine okT_bind _ (okT_mono (fun l q => ?_) _ (place_ok w hp (by omega) ha k 0 k (by omega) (Nat.le_refl _) (by omega) (fun i hi => absurd hi (by omega)) fun i a b => absurd b (by omega)))
    obtain ⟨q1, q2, q3⟩ := q
    have hb : ∀ i, (bubble p k (k - l)).getD i 0 = if i = l then p.getD k 0 else if l < i ∧ i ≤ k then p.getD (i - 1) 0 else p.getD i 0 := fun i => by
      have := getElem?_bubble (xs := p) (src := k) (by omega) (k - l) (by omega) i
      rw [show k - (k - l) = l by omega] at this
      split
      · rename_i z; rw [if_pos z] at this; exact getD_congr this
      · rename_i z
        rw [if_neg z] at this
        split
        · rename_i y; rw [if_pos y] at this; exact getD_congr this
        · rename_i y; rw [if_neg y] at this; exact getD_congr this
    refine bin_ok w f _ (k + 1) ((Array.perm_iff_toList_perm.mp (bubble_perm p k _)).trans hp) (by omega) fun i j hij hj => ?_
    rw [hb, hb]
    by_cases e1 : i = l
    · rw [if_pos e1]
      by_cases e2 : j = l
      · rw [if_pos e2]; exact w.refl _
      · rw [if_neg e2, if_pos (by omega)]; exact q3 _ (by omega) (by omega)
    · rw [if_neg e1]
      by_cases e2 : j = l
      · rw [if_pos e2, if_neg (by omega)]; exact q2 _ (by omega)
      · rw [if_neg e2]
        by_cases e3 : l < i
        · rw [if_pos (by omega), if_pos (by omega)]; exact ha _ _ (by omega) (by omega)
        · rw [if_neg (by omega)]
          by_cases e4 : l < j
          · rw [if_pos (by omega)]; exact ha _ _ (by omega) (by omega)
          · rw [if_neg (by omega)]; exact ha _ _ hij (by omega)
theorem sort_ok (w : WOr lt) (hn : 1 ≤ n) : okT lt n (kas_sort n) (fun r => Pm r n ∧ Asc lt r n) := by
  have h0 : Pm (List.toArray (List.range n)) n := by simp [Pm]
  refine okT_bind _ (okT_mono (fun r q => ?_) _ (count_ok w h0 hn))
  obtain ⟨q1, q2, q3⟩ := q
  by_cases e : r.1 < n
  · rw [if_pos e]
    refine bin_ok w _ _ _ q1 (by omega) ?_
    by_cases e1 : r.1 = 0
    · rw [e1]; exact Asc.one w _
    · rw [Nat.max_eq_left (by omega)]; exact q3
  · rw [if_neg e]
    obtain e : r.1 = n := by omega
    rw [e] at q3
    exact ⟨q1, q3⟩
end
section
variable {prog : Program} {w : World} {A : Around} {E : Value → Shared → Prop} {s : Shared} {vs : List Value} {lt : Nat → Nat → Bool}
def CmpAt (prog : Program) (w : World) (vs : List Value) (lt : Nat → Nat → Bool) (s : Shared) : Prop :=
  ∃ κ, (∀ (A : Around) (C : SortKind → Shared → Prop), C κ s → wpAny (model prog w) A (keyKind' vs.toArray) C (fun _ _ => False) s) ∧
    ∀ (A : Around) i j (C : Bool → Shared → Prop), i < vs.length → j < vs.length → C (lt i j) s → kas_ask prog w A κ vs i j C s
def Srtd (lt : Nat → Nat → Bool) (n : Nat) (p : List Nat) : Prop := p.Perm (List.range n) ∧ p.Pairwise (le lt)
theorem srtd_of {n : Nat} {p : Array Nat} (h : Pm p n ∧ Asc lt p n) : Srtd lt n p.toList := by
  refine ⟨h.1, List.pairwise_iff_getElem.mpr fun i j hi hj hij => ?_⟩
  have hs := pm_size h.1
  rw [Array.length_toList] at hi hj
  have := h.2 i j (by omega) (by omega)
  have e : ∀ k (hk : k < p.size), p.getD k 0 = p.toList[k]'(by simpa using hk) := fun k hk => by simp [Array.getD, hk]
  rwa [e i hi, e j hj] at this
theorem srt_list {a : Addr} {n : Nat} {P : PySem.Fin → Shared → Prop} (ho : s.heap.get? a = some (seqObj "list" vs.toArray n)) (h64 : vs.length < 64) (wo : WOr lt)
    (kk : 2 ≤ vs.length → ∀ h' : Heap, (∀ b o, b ≠ a → s.heap.get? b = some o → h'.get? b = some o) → CmpAt prog w vs lt { s with heap := h' })
    (q : ∀ (h' : Heap) c (p : List Nat), (∀ b o, b ≠ a → s.heap.get? b = some o → h'.get? b = some o) → Srtd lt vs.length p → h'.get? a = some (seqObj "list" (p.map fun i => vs.getD i Value.none).toArray c) → P (.done (.ret .none)) { s with heap := h' }) :
    wpAny (model prog w) A (Builtin.«list.sort» ⟨[.ref a], []⟩) P E s := by
  have ha : a < s.heap.objs.size := Heap.lt_size ho
  have s1 := Heap.SameBut.update s.heap a (Obj.mapSeq fun _ => (#[] : Array Value))
  obtain ⟨e1, ho1⟩ : ∃ e1, (s.heap.update a (Obj.mapSeq fun _ => (#[] : Array Value))).get? a = some (seqObj "list" #[] e1) := ⟨_, get?_update_seq ho fun _ => #[]⟩
  have kp : ∀ b o, b ≠ a → s.heap.get? b = some o → (((s.heap.update a (Obj.mapSeq fun _ => (#[] : Array Value))).push (seqObj "tuple" vs.toArray 0)).push (seqObj "list" #[] 0)).get? b = some o := fun b o hb e =>
    Heap.get?_push_of_some _ (Heap.get?_push_of_some _ ((s1.2 b hb).trans e))
  have na : (((s.heap.update a (Obj.mapSeq fun _ => (#[] : Array Value))).push (seqObj "tuple" vs.toArray 0)).push (seqObj "list" #[] 0)).get? a = some (seqObj "list" #[] e1) := Heap.get?_push_of_some _ (Heap.get?_push_of_some _ ho1)
  rw [list_sort_plain]
  refine wpAny_bind (listItems_at ho rfl ?_)
  refine wpAny_bind (listUpdate_at ho rfl ?_ (by rw [List.size_toArray, sizeLine_eq]; omega) (Nat.zero_le _))
  refine wpAny_bind (seqEpoch_at ho1 rfl ?_)
  refine wpAny_bind (wpAny_newTuple ?_ (by show vs.length ≤ _; rw [sizeLine_eq]; omega))
  refine wpAny_bind (wpAny_newList ?_ (Nat.zero_le _))
  refine wpAny_holding ?_
  show wpAny (model prog w) A _ P E { s with heap := ((s.heap.update a (Obj.mapSeq fun _ => (#[] : Array Value))).push (seqObj "tuple" vs.toArray 0)).push (seqObj "list" #[] 0) }
  generalize hh : ((s.heap.update a (Obj.mapSeq fun _ => (#[] : Array Value))).push (seqObj "tuple" vs.toArray 0)).push (seqObj "list" #[] 0) = h2 at kp na
  dsimp only
  have fin : ∀ (st' : SortSt) (p : List Nat), (arrOf st').map (·.2) = (p.map fun i => vs.getD i Value.none).toArray → failedOf st' = none → Srtd lt vs.length p → wpAny (model prog w) A (do
      let touched := (← seqEpoch a) != e1
      Builtin.List.listUpdate (.ref a) fun _ => (arrOf st').map (·.2)
      if let some e := failedOf st' then rule "list.sort.comparison-raised"; throw e
      if touched then rule "list.sort.modified"; raiseError "ValueError" "list modified during sort"
      ret .none) P E { s with heap := h2 } := by
    intro st' p hout hf hp
    rw [hout, hf]
    have hsz : (List.toArray (p.map fun i => vs.getD i Value.none)).size = vs.length := by rw [List.size_toArray, List.length_map, hp.1.length_eq, List.length_range]
    have s2 := Heap.SameBut.update h2 a (Obj.mapSeq fun _ => List.toArray (p.map fun i => vs.getD i Value.none))
    obtain ⟨c2, hc2⟩ : ∃ c2, (h2.update a (Obj.mapSeq fun _ => List.toArray (p.map fun i => vs.getD i Value.none))).get? a = some (seqObj "list" (List.toArray (p.map fun i => vs.getD i Value.none)) c2) := ⟨_, get?_update_seq na fun _ => List.toArray (p.map fun i => vs.getD i Value.none)⟩
    refine wpAny_bind (seqEpoch_at (s := { s with heap := h2 }) na rfl ?_)
    refine wpAny_bind (listUpdate_at (s := { s with heap := h2 }) na rfl ?_ (Nat.zero_le _) (Nat.le_trans (Nat.le_of_eq hsz) (by rw [sizeLine_eq]; omega)))
    simp only [bne_self_eq_false, Bool.false_eq_true, if_false]
    exact wpAny_pure (q _ c2 p (fun b o hb e => (s2.2 b hb).trans (kp b o hb e)) hp hc2)
  by_cases hn2 : 2 ≤ vs.length
  · have hn2' : ¬ vs.toArray.size < 2 := by rw [List.size_toArray]; omega
    rw [if_neg hn2', if_neg hn2']
    obtain ⟨κ, k1, k2⟩ := kk hn2 h2 kp
    refine wpAny_bind (wpAny_mono (k1 A (fun κ' s' => κ' = κ ∧ s' = { s with heap := h2 }) ⟨rfl, rfl⟩) (fun κ' s0 hk => ?_) fun _ _ x => x.elim)
    obtain ⟨rfl, rfl⟩ := hk
    refine wpAny_bind (wpAny_mono (kat_run (Q := fun st' s' => s' = { s with heap := h2 } ∧ ∃ p : Array Nat, p.size = vs.length ∧ arrOf st' = p.map (kas_item (vs.toArray.zip vs.toArray)) ∧ failedOf st' = none ∧ (Pm p vs.length ∧ Asc lt p vs.length)) (G := fun p s' => s' = { s with heap := h2 } ∧ (Pm p vs.length ∧ Asc lt p vs.length))
      rfl hn2 h64 (fun p' st' s' a1 a2 a3 a4 => ⟨a4.1, p', a1, a2, a3, a4.2⟩) (okT_wp (P := fun r => Pm r vs.length ∧ Asc lt r vs.length) (fun i j C hi hj hc => k2 A i j C hi hj hc) (fun p hp => ⟨rfl, hp⟩) _ (sort_ok wo (by omega)))) ?_ fun _ _ e => e)
    rintro ⟨⟨⟩, st'⟩ s' ⟨rfl, p, hp, har, hf, hpp⟩
    exact fin st' p.toList (kat_snds rfl har) hf (srtd_of hpp)
  · have hn2' : vs.toArray.size < 2 := by rw [List.size_toArray]; omega
    rw [if_pos hn2', if_pos hn2']
    refine wpAny_bind (wpAny_pure ?_)
    refine wpAny_bind (wpAny_pure ?_)
    refine fin _ (List.range vs.length) ?_ rfl ⟨List.Perm.refl _, ?_⟩
    · show ((vs.toArray.zip vs.toArray).map (·.2)) = _
      apply Array.toList_inj.mp
      rw [Array.toList_map, Array.toList_zip]
      have e : ∀ l : List Value, (l.zip l).map (·.2) = l := fun l => by
        induction l with
        | nil => rfl
        | cons x l ih => rw [List.zip_cons_cons, List.map_cons, ih]
      show (vs.zip vs).map (·.2) = (List.range vs.length).map fun i => vs.getD i Value.none
      rw [e]
      apply List.ext_getElem?
      intro i
      by_cases hi : i < vs.length
      · simp [hi]
      · simp [List.getElem?_eq_none, hi, Nat.le_of_not_lt hi]
    · rcases (show vs.length = 0 ∨ vs.length = 1 by omega) with e | e
      · rw [e]; exact .nil
      · rw [e]; exact List.pairwise_singleton _ _
theorem srt_call {l : Addr} {Q : Value → Shared → Prop} (hl : s.heap.IsList l vs.toArray) (h64 : vs.length < 64) (wo : WOr lt)
    (kk : 2 ≤ vs.length → ∀ h' : Heap, (∀ b o, s.heap.get? b = some o → h'.get? b = some o) → CmpAt prog w vs lt { s with heap := h' })
    (q : ∀ (h' : Heap) c (p : List Nat), (∀ b o, s.heap.get? b = some o → h'.get? b = some o) → Srtd lt vs.length p → h'.get? (s.heap.objs.size + 1) = some (seqObj "list" (p.map fun i => vs.getD i Value.none).toArray c) → Q (.ref (s.heap.objs.size + 1)) { s with heap := h' }) :
    wpAny (model prog w) A (call (.builtin "sorted") [.ref l]) Q E s := by
  refine Calls.call_function_entry kind_sorted plain_sorted entry_sorted (args_sorted1 _) ?_
  unfold Builtin.«sorted»
  refine wpAny_bind (m := checkCount "sorted" 1 1 _) (wpAny_pure ?_)
  refine wpAny_bind (collect_list hl ?_ (by rw [sizeLine_eq]; omega))
  refine wpAny_bind (wpAny_newList ?_ (by rw [sizeLine_eq]; omega))
  have hsz : ((s.heap.push (seqObj "list" #[] 0)).update s.heap.objs.size (Obj.mapSeq (· ++ vs.toArray))).objs.size = s.heap.objs.size + 1 := by
    rw [Heap.size_update, size_push']
  have hoL : (((s.heap.push (seqObj "list" #[] 0)).update s.heap.objs.size (Obj.mapSeq (· ++ vs.toArray))).push (seqObj "list" vs.toArray 0)).get? (s.heap.objs.size + 1) = some (seqObj "list" vs.toArray 0) := by
    rw [← hsz]; exact Heap.get?_push_size _ rfl
  have keep : ∀ b o, s.heap.get? b = some o → (((s.heap.push (seqObj "list" #[] 0)).update s.heap.objs.size (Obj.mapSeq (· ++ vs.toArray))).push (seqObj "list" vs.toArray 0)).get? b = some o := fun b o q => by
    have hlt : b < s.heap.objs.size := Heap.lt_size q
    rw [Heap.get?_push_ne _ _ _ (by rw [hsz]; exact Nat.ne_of_lt (Nat.lt_succ_of_lt hlt)), Heap.get?_update_ne _ _ _ _ (Nat.ne_of_lt hlt), Heap.get?_push_ne _ _ _ (Nat.ne_of_lt hlt)]
    exact q
  show wpAny _ _ _ _ _ { s with heap := ((s.heap.push (seqObj "list" #[] 0)).update s.heap.objs.size (Obj.mapSeq (· ++ vs.toArray))).push (seqObj "list" vs.toArray 0) }
  rw [hsz]
  have keep2 : ∀ (h' : Heap), (∀ b o, b ≠ s.heap.objs.size + 1 → (((s.heap.push (seqObj "list" #[] 0)).update s.heap.objs.size (Obj.mapSeq (· ++ vs.toArray))).push (seqObj "list" vs.toArray 0)).get? b = some o → h'.get? b = some o) → ∀ b o, s.heap.get? b = some o → h'.get? b = some o := fun h' hk b o e =>
    hk b o (Nat.ne_of_lt (Nat.lt_succ_of_lt (Heap.lt_size e))) (keep b o e)
  refine wpAny_bind (wpAny_holding (wpAny_call_entry slot_list_sort ⟨_, hoL, rfl⟩ entry_list_sort ?body (args_list_sort _)))
  case body =>
    refine srt_list (s := { s with heap := ((s.heap.push (seqObj "list" #[] 0)).update s.heap.objs.size (Obj.mapSeq (· ++ vs.toArray))).push (seqObj "list" vs.toArray 0) }) hoL h64 wo (fun h2 h' hk => kk h2 h' (keep2 h' hk)) fun h' c p hk hp ho' => ?_
    exact ⟨_, rfl, wpAny_pure ⟨_, rfl, q h' c p (keep2 h' hk) hp ho'⟩⟩
end
end L2
namespace L2
open PySem PySem.Spec PyProof.Rows PySem.W
def knd : V → Nat | .int _ => 1 | .str _ => 2 | _ => 0
def ltF : V → V → Bool | .int a, .int b => decide (a < b) | .str a, .str b => decide (a.cps.toList < b.cps.toList) | _, _ => false
def eqF : V → V → Bool | .int a, .int b => a == b | .str a, .str b => decide (a = b) | _, _ => false
def lexV : List V → List V → Bool
  | x :: xs, y :: ys => if eqF x y then lexV xs ys else ltF x y
  | _, _ => false
section
variable {prog : Program} {w : World} {A : Around} {E : Value → Shared → Prop} {s : Shared} {Q : Bool → Shared → Prop}
theorem knd_cases {x : V} (h : knd x ≠ 0) : (∃ i, x = .int i) ∨ ∃ z, x = .str z := by
  cases x <;> first | exact .inl ⟨_, rfl⟩ | exact .inr ⟨_, rfl⟩ | exact absurd rfl h
theorem one_ltF {x y : V} {u v : Value} {b : Bool} (hx : RelV x u) (hy : RelV y v) (hk : knd x = knd y) (h0 : knd x ≠ 0) (q : Q (ltF x y) s) : wpAny (model prog w) A (oneLt' b u v) Q E s := by
  rcases knd_cases h0 with ⟨i, rfl⟩ | ⟨z, rfl⟩
  · rcases knd_cases (x := y) (fun e => h0 (hk.trans e)) with ⟨j, rfl⟩ | ⟨z, rfl⟩
    · obtain ⟨t, rfl⟩ := hx
      obtain ⟨t', rfl⟩ := hy
      cases b with
      | true => exact oneLt_int q
      | false => exact kat_one _ _ (PyProof.Rows.lt_int q)
    · cases hk
  · rcases knd_cases (x := y) (fun e => h0 (hk.trans e)) with ⟨j, rfl⟩ | ⟨z', rfl⟩
    · cases hk
    · obtain ⟨t, rfl⟩ := hx
      obtain ⟨t', rfl⟩ := hy
      cases b with
      | true => exact oneLt_str q
      | false => exact kat_one _ _ (PyProof.Rows.lt_str q)
theorem eq_F {x y : V} {u v : Value} (hx : RelV x u) (hy : RelV y v) (hk : knd x = knd y) (h0 : knd x ≠ 0) (q : Q (eqF x y) s) : wpAny (model prog w) A (eqBool u v) Q E s := by
  rcases knd_cases h0 with ⟨i, rfl⟩ | ⟨z, rfl⟩
  · rcases knd_cases (x := y) (fun e => h0 (hk.trans e)) with ⟨j, rfl⟩ | ⟨z, rfl⟩
    · obtain ⟨t, rfl⟩ := hx
      obtain ⟨t', rfl⟩ := hy
      exact wpAny_eqBool_int q
    · cases hk
  · rcases knd_cases (x := y) (fun e => h0 (hk.trans e)) with ⟨j, rfl⟩ | ⟨z', rfl⟩
    · cases hk
    · obtain ⟨t, rfl⟩ := hx
      obtain ⟨t', rfl⟩ := hy
      exact wpAny_eqBool_str q
theorem kat_lexV {b : Bool} : ∀ {xs ys : List V} {us vs : List Value} (i : Nat), Vals xs us → Vals ys vs → xs.map knd = ys.map knd → (0 : Nat) ∉ xs.map knd → Q (lexV xs ys) s → KatLex prog w A b false Q (us.zip vs) i s
  | [], [], _, _, i, .nil, .nil, _, _, q => q
  | x :: xs, [], _, _, i, _, _, hk, _, _ => by simp at hk
  | [], x :: xs, _, _, i, _, _, hk, _, _ => by simp at hk
  | x :: xs, y :: ys, _, _, i, .cons hx r, .cons hy r', hk, h0, q => by
    rw [List.map_cons, List.map_cons] at hk
    injection hk with k1 k2
    rw [List.map_cons] at h0
    have z1 : knd x ≠ 0 := fun e => h0 (by rw [e]; exact List.mem_cons_self ..)
    have z2 : (0 : Nat) ∉ xs.map knd := fun e => h0 (List.mem_cons_of_mem _ e)
    rw [List.zip_cons_cons]
    refine kat_cons (eq_F hx hy k1 z1 (kat_go (fun e => kat_yes ?_) fun e => kat_no ?_))
    · refine kat_lexV (i + 1) r r' k2 z2 ?_
      unfold lexV at q
      rw [e, if_pos rfl] at q
      exact q
    · refine one_ltF hx hy k1 z1 ?_
      unfold lexV at q
      rw [e, if_neg (by decide)] at q
      exact q
end
def SrtV (K : PySem.W.Frag) (H : Hp) (ys : List V) (lt : Nat → Nat → Bool) : Prop :=
  (∃ k, k ≠ 0 ∧ (∀ y ∈ ys, knd y = k) ∧ ∀ i j x y, ys[i]? = some x → ys[j]? = some y → lt i j = ltF x y) ∨
  (∃ (rows : Nat → List V) (ks : List Nat), ks ≠ [] ∧ 0 ∉ ks ∧ (∀ i y, ys[i]? = some y → ∃ a, y = .ref a ∧ SqT K H a (rows i) ∧ (rows i).map knd = ks) ∧ ∀ i j, i < ys.length → j < ys.length → lt i j = lexV (rows i) (rows j))
def mSorted (K : PySem.W.Frag) : List V → Hp → VK → Prop := fun xs H Q => match xs with
  | [.ref p] => ∃ ys lt, SqL K H p ys ∧ ys.length < 64 ∧ WOr lt ∧ SrtV K H ys lt ∧ ∀ idx, Srtd lt ys.length idx → ∀ l, H l = none → Q (.ref l) (upd H l (.lst (idx.map fun i => ys.getD i .non)))
  | _ => False
def tyK (k : Nat) : Value := if k = 1 then .type "int" else .type "str"
theorem looks_k {M : Model} {h : Heap} {x : V} {u : Value} {k : Nat} (r : RelV x u) (hk : knd x = k) (h0 : k ≠ 0) : Looks M h (typeOf u) (tyK k) := by
  subst hk
  rcases knd_cases h0 with ⟨i, rfl⟩ | ⟨z, rfl⟩
  · obtain ⟨t, rfl⟩ := r
    exact .now
  · obtain ⟨t, rfl⟩ := r
    exact .now
theorem tyK_ne (k : Nat) : (tyK k != Value.type "tuple") = true := by unfold tyK; split <;> decide +kernel
theorem tyK_eq (k : Nat) : (tyK k == tyK k) = true := by unfold tyK; split <;> decide +kernel
theorem vals_getD {ys : List V} {us : List Value} (r : Vals ys us) {i : Nat} (h : i < us.length) : ∃ y, ys[i]? = some y ∧ RelV y (us.getD i Value.none) ∧ y ∈ ys := by
  have hl := Vals.length r
  have e : ys[i]? = some ys[i] := List.getElem?_eq_getElem (by omega)
  obtain ⟨u, eu, ru⟩ := Vals.get r e
  refine ⟨_, e, ?_, List.getElem_mem _⟩
  rw [List.getD_eq_getElem?_getD, eu]
  exact ru
theorem vals_idx {ys : List V} {us : List Value} (r : Vals ys us) : ∀ (idx : List Nat), (∀ i ∈ idx, i < us.length) → Vals (idx.map fun i => ys.getD i .non) (idx.map fun i => us.getD i Value.none)
  | [], _ => .nil
  | i :: idx, h => by
    obtain ⟨y, e, ry, _⟩ := vals_getD r (h i (List.mem_cons_self ..))
    refine .cons ?_ (vals_idx r idx fun j hj => h j (List.mem_cons_of_mem _ hj))
    show RelV (ys.getD i V.non) _
    rw [List.getD_eq_getElem?_getD, e]
    exact ry
section
variable {X : Cx}
theorem call_sortedM : CallR X (.builtin "sorted") (mSorted X.K) := by
  intro pins s σ H xs us Q I r h
  unfold mSorted at h
  split at h
  · rename_i p
    obtain ⟨ys, lt, hp, h64, wo, sv, q⟩ := h
    obtain ⟨u, rfl, rx⟩ := vals1 r
    cases rx
    obtain ⟨its, r', pl, hz⟩ := I.list hp
    have hlen := Vals.length r'
    refine srt_call pl.isList (by omega) wo (fun h2 h' kp => ?_) fun h' c idx kp hi ho => ?_
    · rcases sv with ⟨k, hk, hall, hlt⟩ | ⟨rows, ks, hne, h0, hrow, hlt⟩
      · refine ⟨oneType', fun A C hC => ?_, fun A i j C hi hj hC => ?_⟩
        · refine kas_kind h2 (T := tyK k) (fun v hv => ?_) (tyK_ne k) (tyK_eq k) hC
          obtain ⟨i, hi⟩ := List.mem_iff_getElem?.mp hv
          obtain ⟨hi', _⟩ := List.getElem?_eq_some_iff.mp hi
          obtain ⟨y, _, ry, hy⟩ := vals_getD r' hi'
          rw [List.getD_eq_getElem?_getD, hi] at ry
          exact looks_k ry (hall y hy) hk
        · obtain ⟨x, ex, rx, hx⟩ := vals_getD r' hi
          obtain ⟨y, ey, ry, hy⟩ := vals_getD r' hj
          rw [hlt i j x y ex ey] at hC
          unfold kas_ask
          rw [keyLt'_oneType]
          exact one_ltF rx ry (by rw [hall x hx, hall y hy]) (by rw [hall x hx]; exact hk) hC
      · have tup : ∀ i, i < its.length → ∃ (a : Addr) (o : Obj) (ts : List Value) (n : Nat), its[i]? = some (.ref a) ∧ h'.get? a = some o ∧ o.cls = .type "tuple" ∧ o.data = .seq ts.toArray n ∧ Vals (rows i) ts ∧ (rows i).map knd = ks := fun i hi => by
          obtain ⟨y, e, ry, _⟩ := vals_getD r' hi
          obtain ⟨a, rfl, ht, hk⟩ := hrow i y e
          obtain ⟨ts, rt, ⟨o, ho, hc, n, hd⟩, _⟩ := I.tuple ht
          refine ⟨a, o, ts, n, ?_, kp _ _ ho, hc, hd, rt, hk⟩
          have : its.getD i Value.none = .ref a := ry
          rw [List.getD_eq_getElem?_getD, List.getElem?_eq_getElem hi] at this
          rw [List.getElem?_eq_getElem hi]
          exact congrArg some this
        obtain ⟨k, ks', rfl⟩ : ∃ k ks', ks = k :: ks' := by
          cases ks with
          | nil => exact absurd rfl hne
          | cons k ks' => exact ⟨k, ks', rfl⟩
        have hk0 : k ≠ 0 := fun e => h0 (by rw [e]; exact List.mem_cons_self ..)
        refine ⟨tuples' true, fun A C hC => ?_, fun A i j C hi hj hC => ?_⟩
        · have kt : ∀ (l : List Value) (d : Nat), its.drop d = l → ∃ fs, KatTups h' l fs ∧ fs.length = l.length ∧ ∀ v ∈ fs, Looks (model X.prog X.w) h' (typeOf v) (tyK k) := by
            intro l
            induction l with
            | nil => intro d _; exact ⟨[], .nil, rfl, fun v hv => by cases hv⟩
            | cons v l ih =>
              intro d hd
              have hdl : d < its.length := by
                have := congrArg List.length hd
                rw [List.length_drop, List.length_cons] at this
                omega
              obtain ⟨a, o, ts, n, e, ho, hc, hdd, rt, hk⟩ := tup d hdl
              have e2 : its.drop d = its[d] :: its.drop (d + 1) := List.drop_eq_getElem_cons hdl
              rw [hd] at e2
              injection e2 with e3 e4
              obtain ⟨fs, k1, k2, k3⟩ := ih (d + 1) e4.symm
              rw [List.getElem?_eq_getElem hdl] at e
              injection e with e
              rw [e3, e]
              cases hr : rows d with
              | nil => rw [hr] at hk; simp at hk
              | cons x xr =>
                rw [hr] at rt hk
                cases rt with
                | @cons _ f _ tr rf rr =>
                  rw [List.map_cons] at hk
                  injection hk with hk1 hk2
                  refine ⟨f :: fs, .cons ho hc hdd (by simp) k1, by simp [k2], fun v hv => ?_⟩
                  rcases List.mem_cons.mp hv with rfl | hv
                  · exact looks_k rf hk1 hk0
                  · exact k3 v hv
          obtain ⟨fs, k1, k2, k3⟩ := kt its 0 rfl
          have := kat_kind (M := model X.prog X.w) (A := A) (E := fun _ _ => False) (s := { s with heap := h' }) (Q := C) k1 (by omega) k3 (tyK_eq k) (by rw [tyK_ne]; exact hC)
          exact this
        · obtain ⟨a, o, ts, n, e, ho, hc, hd, rt, hk⟩ := tup i hi
          obtain ⟨a2, o2, ts2, n2, e2, ho2, hc2, hd2, rt2, hk2⟩ := tup j hj
          unfold kas_ask
          rw [List.getD_eq_getElem?_getD, List.getD_eq_getElem?_getD, e, e2]
          have hl : ts.length = ts2.length := by
            have a1 := Vals.length rt
            have a2 := Vals.length rt2
            have := congrArg List.length (hk.trans hk2.symm)
            rw [List.length_map, List.length_map] at this
            omega
          refine kat_lt (s := { s with heap := h' }) ho hd ho2 hd2 ?_
          rw [show decide (ts.toArray.size < ts2.toArray.size) = false from decide_eq_false (by simp [hl])]
          refine kat_lexV 0 rt rt2 (hk.trans hk2.symm) (by rw [hk]; exact h0) ?_
          rw [← hlt i j (by omega) (by omega)]
          exact hC
    · refine ⟨.ref (s.heap.objs.size + 1), _, I.laid (o := .lst (idx.map fun i => ys.getD i .non)) (t' := s.toks) kp (Nat.le_succ _) ?_, rfl, q idx (by rwa [hlen]) _ (I.hok.fresh (Nat.le_succ _))⟩
      have hi1 : ∀ i ∈ idx, i < its.length := fun i hi' => List.mem_range.mp (hi.1.mem_iff.mp hi')
      refine ⟨?_, _, c, vals_idx r' idx hi1, ho⟩
      rw [List.length_map, hi.1.length_eq, List.length_range, sizeLine_eq]
      omega
  · exact h.elim
end
end L2
namespace L2
open PySem PySem.Spec PyProof.Rows PySem.W
section
variable {α β : Type}
structure LOr (lt : α → α → Bool) : Prop where
  asym : ∀ {a b}, lt a b = true → lt b a = false
  tr : ∀ {a b c}, lt b a = false → lt c b = false → lt c a = false
  anti : ∀ {a b}, lt a b = false → lt b a = false → a = b
def srtL (lt : α → α → Bool) (xs : List α) : List α := xs.mergeSort (fun a b => !lt b a)
theorem srtL_perm (lt : α → α → Bool) (xs : List α) : (srtL lt xs).Perm xs := List.mergeSort_perm _ _
theorem LOr.irr {lt : α → α → Bool} (o : LOr lt) (a : α) : lt a a = false := by
  cases h : lt a a with
  | false => rfl
  | true => rw [← h]; exact o.asym h
theorem srtL_sorted {lt : α → α → Bool} (o : LOr lt) (xs : List α) : (srtL lt xs).Pairwise fun a b => lt b a = false := by
  have := List.pairwise_mergeSort (le := fun a b => !lt b a) (fun a b c h1 h2 => by simp only [Bool.not_eq_true'] at *; exact o.tr h1 h2) (fun a b => by
    cases h : lt b a with
    | false => simp
    | true => simp [o.asym h]) xs
  exact this.imp (fun h => by simpa using h)
theorem srt_uniq {lt : α → α → Bool} (o : LOr lt) : ∀ {ws ys : List α}, ws.Perm ys → ws.Pairwise (fun a b => lt b a = false) → ys.Pairwise (fun a b => lt b a = false) → ws = ys
  | [], ys, hp, _, _ => by rw [List.Perm.nil_eq hp]
  | w :: ws, [], hp, _, _ => by have := hp.length_eq; simp at this
  | w :: ws, y :: ys, hp, h1, h2 => by
    obtain ⟨a1, a2⟩ := List.pairwise_cons.mp h1
    obtain ⟨b1, b2⟩ := List.pairwise_cons.mp h2
    have e : w = y := by
      have m1 : w ∈ y :: ys := hp.mem_iff.mp (List.mem_cons_self ..)
      have m2 : y ∈ w :: ws := hp.mem_iff.mpr (List.mem_cons_self ..)
      rcases List.mem_cons.mp m1 with e | m1
      · exact e
      · rcases List.mem_cons.mp m2 with e | m2
        · exact e.symm
        · exact o.anti (b1 w m1) (a1 y m2)
    subst e
    rw [srt_uniq o (List.Perm.cons_inv hp) a2 b2]
theorem srtL_uniq {lt : α → α → Bool} (o : LOr lt) {ws xs : List α} (hp : ws.Perm xs) (hs : ws.Pairwise fun a b => lt b a = false) : ws = srtL lt xs :=
  srt_uniq o (hp.trans (srtL_perm lt xs).symm) hs (srtL_sorted o xs)
def ltI (a b : Int) : Bool := decide (a < b)
def lxP [DecidableEq α] (l : α → α → Bool) (m : β → β → Bool) (x y : α × β) : Bool := if x.1 = y.1 then m x.2 y.2 else l x.1 y.1
theorem lo_int : LOr ltI := by
  unfold ltI
  refine ⟨fun h => ?_, fun h h' => ?_, fun h h' => ?_⟩ <;> simp only [decide_eq_true_eq, decide_eq_false_iff_not] at * <;> omega
theorem lo_pair [DecidableEq α] {l : α → α → Bool} {m : β → β → Bool} (ol : LOr l) (om : LOr m) : LOr (lxP l m) := by
  unfold lxP
  refine ⟨fun {a b} h => ?_, fun {a b c} h h' => ?_, fun {a b} h h' => ?_⟩
  · by_cases e : a.1 = b.1
    · rw [if_pos e] at h; rw [if_pos e.symm]; exact om.asym h
    · rw [if_neg e] at h; rw [if_neg (fun z => e z.symm)]; exact ol.asym h
  · by_cases e : b.1 = a.1
    · rw [if_pos e] at h
      by_cases e2 : c.1 = b.1
      · rw [if_pos e2] at h'; rw [if_pos (e2.trans e)]; exact om.tr h h'
      · rw [if_neg e2] at h'; rw [if_neg (fun z => e2 (z.trans e.symm)), ← e]; exact h'
    · rw [if_neg e] at h
      by_cases e2 : c.1 = b.1
      · rw [if_neg (fun z => e (e2.symm.trans z)), e2]; exact h
      · rw [if_neg e2] at h'
        by_cases e3 : c.1 = a.1
        · exfalso
          rw [e3] at h'
          exact e (ol.anti h h')
        · rw [if_neg e3]; exact ol.tr h h'
  · by_cases e : a.1 = b.1
    · rw [if_pos e] at h; rw [if_pos e.symm] at h'
      exact Prod.ext e (om.anti h h')
    · rw [if_neg e] at h; rw [if_neg (fun z => e z.symm)] at h'
      exact absurd (ol.anti h h') e
end
end L2
namespace L2
open PySem PySem.Spec PyProof.Rows PySem.W
section
variable {α β γ : Type} {K : PySem.W.Frag} {E : XK}
def FlT (T : Ty α) (k : Nat) (lt : α → α → Bool) : Prop := k ≠ 0 ∧ ∀ a v F, T.R a v F → knd v = k ∧ ∀ b u F', T.R b u F' → ltF v u = lt a b ∧ (eqF v u = true ↔ a = b)
theorem fl_int : FlT tyInt 1 ltI := by
  refine ⟨by decide, fun a v F h => ?_⟩
  subst h
  refine ⟨rfl, fun b u F' h' => ?_⟩
  subst h'
  exact ⟨rfl, by simp [eqF]⟩
def LxC (C : Cs γ) (ks : List Nat) (lt : γ → γ → Bool) : Prop := ks ≠ [] ∧ 0 ∉ ks ∧ ∀ c vs F, C.R c vs F → vs.map knd = ks ∧ ∀ d us F', C.R d us F' → lexV vs us = lt c d
theorem lx_last {T : Ty α} {k : Nat} {lt : α → α → Bool} (f : FlT T k lt) (o : LOr lt) : LxC (csLast T) [k] lt := by
  refine ⟨by simp, fun h => f.1 (List.mem_singleton.mp h).symm, ?_⟩
  rintro c vs F ⟨v, rfl, hv⟩
  obtain ⟨e, g⟩ := f.2 c v F hv
  refine ⟨by rw [List.map_singleton, e], ?_⟩
  rintro d us F' ⟨u, rfl, hu⟩
  obtain ⟨g1, g2⟩ := g d u F' hu
  show (if eqF v u = true then false else ltF v u) = _
  by_cases z : eqF v u = true
  · rw [if_pos z, g2.mp z]; exact (o.irr d).symm
  · rw [if_neg z, g1]
theorem lx_cons [DecidableEq α] {T : Ty α} {C : Cs γ} {k : Nat} {ks : List Nat} {lt : α → α → Bool} {lt2 : γ → γ → Bool} (f : FlT T k lt) (l : LxC C ks lt2) : LxC (csCons T C) (k :: ks) (lxP lt lt2) := by
  refine ⟨by simp, fun h => ?_, ?_⟩
  · rcases List.mem_cons.mp h with h | h
    · exact f.1 h.symm
    · exact l.2.1 h
  · rintro c vs F ⟨v, us, rfl, hv, hus⟩
    obtain ⟨e, g⟩ := f.2 c.1 v F hv
    obtain ⟨e2, g'⟩ := l.2.2 c.2 us F hus
    refine ⟨by rw [List.map_cons, e, e2], ?_⟩
    rintro d ws F' ⟨u, us', rfl, hu, hus'⟩
    obtain ⟨g1, g2⟩ := g d.1 u F' hu
    show (if eqF v u = true then lexV us us' else ltF v u) = lxP lt lt2 c d
    unfold lxP
    by_cases z : eqF v u = true
    · rw [if_pos z, if_pos (g2.mp z)]; exact g' d.2 us' F' hus'
    · rw [if_neg z, if_neg (fun q => z (g2.mpr q)), g1]
theorem prs_at {T : Ty α} {H : Hp} : ∀ {xs : List α} {vs : List V}, Prs T H xs vs → ∀ (i : Nat) (v : V), vs[i]? = some v → ∃ x, xs[i]? = some x ∧ T.R x v H
  | _, _, .nil, i, v, e => by simp at e
  | _, _, .cons a t, 0, v, e => by simp at e; subst e; exact ⟨_, rfl, a⟩
  | _, _, .cons a t, i + 1, v, e => prs_at t i v (by simpa using e)
theorem prs_idx {T : Ty α} {H : Hp} {xs : List α} {vs : List V} (r : Prs T H xs vs) (d : α) : ∀ (idx : List Nat), (∀ i ∈ idx, i < vs.length) → Prs T H (idx.map fun i => xs.getD i d) (idx.map fun i => vs.getD i .non)
  | [], _ => .nil
  | i :: idx, h => by
    have hi := h i (List.mem_cons_self ..)
    obtain ⟨x, e, rx⟩ := prs_at r i vs[i] (List.getElem?_eq_getElem hi)
    refine .cons ?_ (prs_idx r d idx fun j hj => h j (List.mem_cons_of_mem _ hj))
    show T.R (xs.getD i d) (vs.getD i .non) H
    rw [List.getD_eq_getElem?_getD, List.getD_eq_getElem?_getD, e, List.getElem?_eq_getElem hi]
    exact rx
theorem idx_sorted {lt : α → α → Bool} (o : LOr lt) {xs : List α} {d : α} {idx : List Nat} (h : Srtd (fun i j => lt (xs.getD i d) (xs.getD j d)) xs.length idx) : (idx.map fun i => xs.getD i d) = srtL lt xs := by
  refine srtL_uniq o ?_ ?_
  · have e : (List.range xs.length).map (fun i => xs.getD i d) = xs := by
      apply List.ext_getElem?
      intro i
      by_cases hi : i < xs.length
      · simp [hi]
      · simp [List.getElem?_eq_none, hi, Nat.le_of_not_lt hi]
    have := h.1.map (fun i => xs.getD i d)
    rwa [e] at this
  · exact List.pairwise_map.mpr (h.2.imp fun q => q)
theorem wor_of {lt : α → α → Bool} (o : LOr lt) (f : Nat → α) : WOr fun i j => lt (f i) (f j) := ⟨fun h => o.asym h, fun h h' => o.tr h h'⟩
theorem bl_sorted_of {T : Ty α} {lt : α → α → Bool} (o : LOr lt) (sv : ∀ (d : α) (xs : List α) (vs : List V) (F : Hp), Prs T F xs vs → SrtV K F vs fun i j => lt (xs.getD i d) (xs.getD j d)) (mono : ∀ {F H : Hp} {vs l}, Same F H → SrtV K F vs l → SrtV K H vs l) :
    BlO K (mSorted K) E (csLast (tyL T)) (fun l => .grd (l.length < 64) (.ok (srtL lt l))) (owL T) := by
  rintro c vs F H Q hs ⟨v, rfl, p, us, rfl, h, r⟩ q
  obtain ⟨h64, q⟩ := q.grd
  have hl := Paired.length r
  cases c with
  | nil =>
    cases r
    refine ⟨[], fun _ _ => false, .of (hs _ _ h), by decide, ⟨(fun h => by cases h), (fun _ _ => rfl)⟩, .inl ⟨1, by decide, (fun y hy => by cases hy), (fun i j x y e => by simp at e)⟩, fun idx hi l hl => ?_⟩
    have : idx = [] := by have := hi.1.length_eq; simpa using this
    subst this
    rw [show srtL lt ([] : List α) = [] by simp [srtL]] at q
    exact own_upd hs hl (xs := []) .nil q
  | cons x xs =>
    refine ⟨us, fun i j => lt ((x :: xs).getD i x) ((x :: xs).getD j x), .of (hs _ _ h), by omega, wor_of o _, mono hs (sv x _ us F r), fun idx hi l hl2 => ?_⟩
    rw [← hl] at hi
    have e := idx_sorted o hi
    rw [← e] at q
    refine own_upd hs hl2 (prs_idx r x idx fun i hi' => ?_) q
    have := List.mem_range.mp (hi.1.mem_iff.mp hi')
    omega
theorem srtv_mono {F H : Hp} {vs : List V} {l : Nat → Nat → Bool} (hs : Same F H) (h : SrtV K F vs l) : SrtV K H vs l := by
  rcases h with h | ⟨rows, ks, a, b, c, d⟩
  · exact .inl h
  · refine .inr ⟨rows, ks, a, b, fun i y e => ?_, d⟩
    obtain ⟨p, e1, e2, e3⟩ := c i y e
    exact ⟨p, e1, hs.tup e2, e3⟩
theorem bl_sortedT {C : Cs γ} {ks : List Nat} {lt : γ → γ → Bool} (l : LxC C ks lt) (o : LOr lt) : BlO K (mSorted K) E (csLast (tyL (tyTup C))) (fun l => .grd (l.length < 64) (.ok (srtL lt l))) (owL (tyTup C)) := by
  refine bl_sorted_of o (fun d xs vs F r => ?_) srtv_mono
  have hl := Paired.length r
  have row : ∀ i : Nat, ∃ row : List V, ∀ y : V, vs[i]? = some y → ∃ (a : Addr) (c : γ), xs[i]? = some c ∧ y = V.ref a ∧ SqT K F a row ∧ C.R c row F := fun i => by
    cases e : vs[i]? with
    | none => exact ⟨[], fun y h => by cases h⟩
    | some y =>
      obtain ⟨x, ex, p, us, rfl, hp, hc⟩ := prs_at r i y e
      refine ⟨us, fun y' h => ?_⟩
      injection h with h
      subst h
      exact ⟨p, x, ex, rfl, .of hp, hc⟩
  refine .inr ⟨fun i => Classical.choose (row i), ks, l.1, l.2.1, fun i y e => ?_, fun i j hi hj => ?_⟩
  · obtain ⟨a, c, ec, rfl, ht, hc⟩ := Classical.choose_spec (row i) y e
    exact ⟨a, rfl, ht, (l.2.2 c _ F hc).1⟩
  · obtain ⟨a, c, ec, _, ht, hc⟩ := Classical.choose_spec (row i) _ (List.getElem?_eq_getElem hi)
    obtain ⟨a', c', ec', _, ht', hc'⟩ := Classical.choose_spec (row j) _ (List.getElem?_eq_getElem hj)
    show lt (xs.getD i d) (xs.getD j d) = _
    rw [List.getD_eq_getElem?_getD, List.getD_eq_getElem?_getD, ec, ec']
    exact ((l.2.2 c _ F hc).2 c' _ F hc').symm
end
end L2
universe u
namespace L2
open PySem PySem.Spec PyProof.Rows
section
variable {α γ : Type} {K : PySem.W.Frag} {E : XK} {L : List Sl} {T : Ty α} {e : TE}
end
section
variable {α : Type} {K : PySem.W.Frag} {E : XK} {L : List Sl} {T : Ty α} {F h H F0 H0 : Hp} {ρ B S : Type} {LS : S → List Sl} {LB : B → List Sl} {O : Own ρ}
end
end L2
namespace L2
open PySem PySem.Spec PyProof.Rows PySem.W
section
variable {prog : Program} {w : World} {A : Around} {E : Value → Shared → Prop} {s : Shared} {T : String} {rr dd : Addr} {n : Nat} {PP : Nat → Value → Prop} {OK : Heap → Prop}
theorem col_walk {R : List Value → Shared → Prop} (Kd : KdlSrc prog w T rr dd n PP OK) (hh : A.handled = none) (hok : OK s.heap) (hn : n ≤ sizeLine)
    (hR : ∀ (h' : Heap) (tk : Nat) (acc : Array Value), s.heap.objs.size < h'.objs.size → (∀ b o, s.heap.get? b = some o → h'.get? b = some o) → ItemsOf PP acc n → R acc.toList { s with heap := h', toks := tk }) :
    wpAny (model prog w) A (collect (.ref rr)) R E s := by
  obtain ⟨lr, ld⟩ := Kd.there _ hok
  unfold collect; refine wpAny_bind (wpAny_runValue (codeAny_builtin entry_proto_collect' ?_)); rw [Around.under_plainId PySem.F.plain_proto_collect _]
  show wpAny _ A.in1 (newList [] >>= fun l => again (.builtin "list.__iadd__" ⟨[l, .ref rr], []⟩)) _ _ s; refine wpAny_bind (wpAny_newObj_type ?_)
  refine wpAny_pure ⟨plainId_quiet PySem.F.plain_list_iadd _, codeAny_builtin entry_list_iadd' ?_⟩; rw [Around.under_plainId PySem.F.plain_list_iadd _]
  have h0 : (s.heap.push { cls := .type "list", data := .seq ([] : List Value).toArray }).get? s.heap.objs.size = some { cls := .type "list", data := .seq #[] } := Heap.get?_push_size _ rfl
  show wpAny _ A.in1 (Builtin.List.listExtendWith (.ref s.heap.objs.size) (.ref rr) (.ref s.heap.objs.size)) _ _ _
  have key := kdl_extend (A := A) (s := { s with heap := s.heap.push { cls := .type "list", data := .seq ([] : List Value).toArray } })
    (R := fun (q : Result) (s' : Shared) => ∃ (h' : Heap) (tk : Nat) (acc : Array Value) (c : Nat), q = .ok (.ret (.ref s.heap.objs.size)) ∧ s' = { s with heap := h', toks := tk } ∧ (∀ b o, s.heap.get? b = some o → h'.get? b = some o) ∧ h'.get? s.heap.objs.size = some { cls := .type "list", dict := none, data := .seq acc c, slots := #[] } ∧ ItemsOf PP acc n)
    Kd hh (Kd.keep _ _ hok fun b _ o e => Heap.get?_push_of_some _ e) s.heap.objs.size (Nat.ne_of_gt lr) (Nat.ne_of_gt ld) (.ref s.heap.objs.size) 0 h0
    (fun h' tk acc c hk hS hacc => ⟨h', tk, acc, c, rfl, rfl, fun b o e => hk b o (Nat.ne_of_lt (Heap.lt_size e)) (Heap.get?_push_of_some _ e), hS, hacc⟩) hn
  refine wpAny_mono key (fun fin s' x => ?_) fun e s' x => ?_
  · cases fin with
    | done f =>
      obtain ⟨h', tk, acc, c, e, rfl, hk, hS, hacc⟩ := x
      cases e; show wpAny _ A (load s.heap.objs.size >>= _) _ _ _
      exact wpAny_bind (wpAny_load hS (wpAny_pure (hR h' tk acc (Heap.lt_size hS) hk hacc)))
    | again c1 =>
      refine ⟨x.1, codeAny_mono x.2 fun q s2 y => ?_⟩; obtain ⟨h', tk, acc, c, rfl, rfl, hk, hS, hacc⟩ := y
      show wpAny _ A (load s.heap.objs.size >>= _) _ _ _; exact wpAny_bind (wpAny_load hS (wpAny_pure (hR h' tk acc (Heap.lt_size hS) hk hacc)))
  · obtain ⟨_, _, _, _, e', _⟩ := x; cases e'
end
section
variable {prog : Program} {w : World} {A : Around} {E : Value → Shared → Prop} {s : Shared} {lt : Nat → Nat → Bool}
theorem srt_callC {v : Value} {n : Nat} {PV : List Value → Prop} {Q : Value → Shared → Prop} (h64 : n < 64) (wo : WOr lt) (hlen : ∀ vs, PV vs → vs.length = n)
    (col : ∀ R : List Value → Shared → Prop, (∀ (vs : List Value) (h' : Heap) (tk : Nat), PV vs → s.heap.objs.size ≤ h'.objs.size → (∀ b o, s.heap.get? b = some o → h'.get? b = some o) → R vs { s with heap := h', toks := tk }) → wpAny (model prog w) A.in1 (collect v) R E s)
    (kk : ∀ (vs : List Value), PV vs → 2 ≤ vs.length → ∀ (h' : Heap) (tk : Nat), (∀ b o, s.heap.get? b = some o → h'.get? b = some o) → CmpAt prog w vs lt { s with heap := h', toks := tk })
    (q : ∀ (vs : List Value) (l : Addr) (h' : Heap) (tk : Nat) c (p : List Nat), PV vs → s.heap.objs.size ≤ l → (∀ b o, s.heap.get? b = some o → h'.get? b = some o) → Srtd lt vs.length p → h'.get? l = some (seqObj "list" (p.map fun i => vs.getD i Value.none).toArray c) → Q (.ref l) { s with heap := h', toks := tk }) :
    wpAny (model prog w) A (call (.builtin "sorted") [v]) Q E s := by
  refine Calls.call_function_entry kind_sorted plain_sorted entry_sorted (args_sorted1 _) ?_
  unfold Builtin.«sorted»
  refine wpAny_bind (m := checkCount "sorted" 1 1 _) (wpAny_pure ?_)
  refine wpAny_bind (col _ fun vs h1 tk pv hle k1 => ?_)
  have hn := hlen vs pv
  refine wpAny_bind (wpAny_newList ?_ (by rw [sizeLine_eq]; omega))
  have hoL : (h1.push (seqObj "list" vs.toArray 0)).get? h1.objs.size = some (seqObj "list" vs.toArray 0) := Heap.get?_push_size _ rfl
  have keep : ∀ b o, s.heap.get? b = some o → (h1.push (seqObj "list" vs.toArray 0)).get? b = some o := fun b o e => Heap.get?_push_of_some _ (k1 b o e)
  show wpAny _ _ _ _ _ { s with heap := h1.push (seqObj "list" vs.toArray 0), toks := tk }
  have keep2 : ∀ (h' : Heap), (∀ b o, b ≠ h1.objs.size → (h1.push (seqObj "list" vs.toArray 0)).get? b = some o → h'.get? b = some o) → ∀ b o, s.heap.get? b = some o → h'.get? b = some o := fun h' hk b o e =>
    hk b o (Nat.ne_of_lt (Heap.lt_size (k1 b o e))) (keep b o e)
  refine wpAny_bind (wpAny_holding (wpAny_call_entry slot_list_sort ⟨_, hoL, rfl⟩ entry_list_sort ?body (args_list_sort _)))
  case body =>
    refine srt_list (s := { s with heap := h1.push (seqObj "list" vs.toArray 0), toks := tk }) hoL (by omega) wo (fun h2 h' hk => kk vs pv h2 h' tk (keep2 h' hk)) fun h' c p hk hp ho' => ?_
    exact ⟨_, rfl, wpAny_pure ⟨_, rfl, q vs _ h' tk c p pv hle (keep2 h' hk) hp ho'⟩⟩
end
section
variable {X : Cx}
theorem cmp_flat {ys : List V} {its : List Value} {lt : Nat → Nat → Bool} {k : Nat} {s : Shared} (r' : Vals ys its) (hk : k ≠ 0) (hall : ∀ y ∈ ys, knd y = k) (hlt : ∀ i j x y, ys[i]? = some x → ys[j]? = some y → lt i j = ltF x y) (h2 : 2 ≤ its.length) :
    CmpAt X.prog X.w its lt s := by
  refine ⟨oneType', fun A C hC => ?_, fun A i j C hi hj hC => ?_⟩
  · refine kas_kind h2 (T := tyK k) (fun v hv => ?_) (tyK_ne k) (tyK_eq k) hC
    obtain ⟨i, hi⟩ := List.mem_iff_getElem?.mp hv
    obtain ⟨hi', _⟩ := List.getElem?_eq_some_iff.mp hi
    obtain ⟨y, _, ry, hy⟩ := vals_getD r' hi'
    rw [List.getD_eq_getElem?_getD, hi] at ry
    exact looks_k ry (hall y hy) hk
  · obtain ⟨x, ex, rx, hx⟩ := vals_getD r' hi
    obtain ⟨y, ey, ry, hy⟩ := vals_getD r' hj
    rw [hlt i j x y ex ey] at hC
    unfold kas_ask
    rw [keyLt'_oneType]
    exact one_ltF rx ry (by rw [hall x hx, hall y hy]) (by rw [hall x hx]; exact hk) hC
def mSortD (K : PySem.W.Frag) : List V → Hp → VK → Prop := fun xs H Q => mSorted K xs H Q ∨ match xs with
  | [.ref p] => ∃ (kvs : List (Key × V)) (k : Nat) (lt : Nat → Nat → Bool), H p = some (.dK kvs) ∧ kvs.length < 64 ∧ WOr lt ∧ k ≠ 0 ∧ (∀ q ∈ kvs, knd (kV q.1) = k) ∧ (∀ i j x y, (kvs.map fun q : Key × V => kV q.1)[i]? = some x → (kvs.map fun q => kV q.1)[j]? = some y → lt i j = ltF x y) ∧
      ∀ idx, Srtd lt kvs.length idx → ∀ l, H l = none → Q (.ref l) (upd H l (.lst (idx.map fun i => (kvs.map fun q => kV q.1).getD i .non)))
  | _ => False
theorem is_kV {P : Program} {w : World} {k : Key} {u : Value} (h : (mixKind P w).is k u = true) : RelV (kV k) u := by
  rw [mixKind_is] at h
  rcases keyIs_shape h with ⟨i, t, rfl, rfl⟩ | ⟨x, t, rfl, rfl⟩ <;> exact ⟨_, rfl⟩
theorem call_sortedD (hc : X.calm = true) : CallR X (.builtin "sorted") (mSortD X.K) := by
  intro pins s σ H xs us Q I r h
  unfold mSortD at h
  rcases h with h | h
  · exact call_sortedM pins s σ H xs us Q I r h
  · split at h
    · rename_i p
      obtain ⟨kvs, k, lt, hp, h64, wo, hk, hall, hlt, q⟩ := h
      obtain ⟨u, rfl, rx⟩ := vals1 r
      cases rx
      obtain ⟨z, hd, vs, rel, dd⟩ := dk_rd I.hok (.inl hp)
      obtain ⟨ep, hat⟩ := dd.dictAt
      have hln : kvs.length = vs.length := rel.length
      have hpv : ∀ us : List Value, Vals (kvs.map fun q => kV q.1) us → us.length = kvs.length := fun us hv => by rw [← Vals.length hv, List.length_map]
      refine srt_callC (n := kvs.length) (PV := fun us => Vals (kvs.map fun q => kV q.1) us) h64 wo hpv (fun R hR => ?_) (fun us hv h2 h' tk _ => ?_) fun us l h' tk c idx hv hl kp hi ho => ?_
      · refine col_walk (kdl_dict (knd := mixKind X.prog X.w) (kvs := vs) (ep := ep) hd) ?_ hat (by rw [← hln, sizeLine_eq]; omega) fun h' tk acc hsz hkp hacc => hR _ h' tk ?_ (Nat.le_of_lt hsz) hkp
        · exact I.ok.hd hc
        · have hl : acc.toList.length = kvs.length := by rw [Array.length_toList, hln]; exact hacc.1
          have e : ∀ (ks : List (Key × V)) (us : List Value), ks.length = us.length → (∀ (i : Nat) (q : Key × V) (u : Value), ks[i]? = some q → us[i]? = some u → RelV (kV q.1) u) → Vals (ks.map fun q => kV q.1) us := by
            intro ks
            induction ks with
            | nil => intro us hl _; cases us with | nil => exact .nil | cons _ _ => simp at hl
            | cons q ks ih =>
              intro us hl hh
              cases us with
              | nil => simp at hl
              | cons u us => exact .cons (hh 0 q u rfl rfl) (ih us (by simpa using hl) fun i q' u' e1 e2 => hh (i + 1) q' u' (by simpa using e1) (by simpa using e2))
          refine e kvs acc.toList hl.symm fun i q u e1 e2 => ?_
          obtain ⟨k', x, ek, hk'⟩ := hacc.2 i u (by rw [← Array.getElem?_toList]; exact e2)
          have : ∀ (a : List (Key × V)) (b : List (Key × Value)) (i : Nat) q k' x, KV a b → a[i]? = some q → b[i]? = some (k', x) → q.1 = k' := by
            intro a b i q k' x hab
            unfold KV at hab
            induction hab generalizing i with
            | nil => intro e; simp at e
            | cons r t ih =>
              intro e1 e2
              cases i with
              | zero => simp at e1 e2; subst e1; have := r.1; rw [e2] at this; exact this
              | succ i => exact ih i (by simpa using e1) (by simpa using e2)
          rw [this kvs vs i q k' x rel e1 ek]
          exact is_kV hk'
      · refine cmp_flat hv hk (fun y hy => ?_) hlt h2
        obtain ⟨q, hq, rfl⟩ := List.mem_map.mp hy
        exact hall q hq
      · have hlu := hpv us hv
        refine ⟨.ref l, _, I.laid (o := .lst (idx.map fun i => (kvs.map fun q => kV q.1).getD i .non)) (t' := tk) kp hl ?_, rfl, q idx (by rwa [← hlu]) _ (I.hok.fresh hl)⟩
        have hi1 : ∀ i ∈ idx, i < us.length := fun i hi' => List.mem_range.mp (hi.1.mem_iff.mp hi')
        refine ⟨?_, _, c, vals_idx hv idx hi1, ho⟩
        rw [List.length_map, hi.1.length_eq, List.length_range, sizeLine_eq]
        omega
    · exact h.elim
end
section
variable {α β γ κ : Type} {K : PySem.W.Frag} {E : XK}
theorem bl_srtD {C : Cs γ} {f : γ → Mo α} {O : Own α} (h : BlO K (mSorted K) E C f O) : BlO K (mSortD K) E C f O := by
  intro c vs F H Q hs hc q
  exact .inl (h c vs F H Q hs hc q)
theorem bl_sortedK [DecidableEq κ] {KY : KyT κ} {T : Ty α} {k : Nat} {lt : κ → κ → Bool} (f : FlT KY.T k lt) (o : LOr lt) (hk : ∀ x F, KY.T.R x (kV (KY.key x)) F) :
    BlO K (mSortD K) E (csLast (tyD KY T)) (fun m => .grd (m.length < 64) (.ok (srtL lt (m.map (·.1))))) (owL KY.T) := by
  rintro m vs F H Q hs ⟨v, rfl, p, kvs, rfl, h, r⟩ q
  have hl : m.length = kvs.length := Paired.length r
  have pr : Prs KY.T F (m.map (·.1)) (kvs.map fun q => kV q.1) := by
    clear h hl q
    induction r with
    | nil => exact .nil
    | cons a t ih => rename_i q w m kvs; rw [List.map_cons, List.map_cons, a.1]; exact .cons (hk _ _) ih
  obtain ⟨h64, q⟩ := q.grd
  have all : ∀ q ∈ kvs, knd (kV q.1) = k := fun q hq => by
    obtain ⟨i, e⟩ := List.mem_iff_getElem?.mp (List.mem_map_of_mem (f := fun q : Key × V => kV q.1) hq)
    obtain ⟨x, _, rx⟩ := prs_at pr i _ e
    exact (f.2 x _ F rx).1
  cases m with
  | nil =>
    cases r
    refine .inr ⟨[], 1, fun _ _ => false, hs _ _ h, by decide, ⟨(fun h => by cases h), (fun _ _ => rfl)⟩, by decide, (fun y hy => by cases hy), (fun i j x y e => by simp at e), fun idx hi l hl => ?_⟩
    have : idx = [] := by have := hi.1.length_eq; simpa using this
    subst this
    rw [show srtL lt (([] : List (κ × α)).map (·.1)) = [] by simp [srtL]] at q
    exact own_upd hs hl (xs := []) .nil q
  | cons x xs =>
    refine .inr ⟨kvs, k, fun i j => lt (((x :: xs).map (·.1)).getD i x.1) (((x :: xs).map (·.1)).getD j x.1), hs _ _ h, by omega, wor_of o _, f.1, all, fun i j a b ea eb => ?_, fun idx hi l hl2 => ?_⟩
    · obtain ⟨a', ea', ra⟩ := prs_at pr i a ea
      obtain ⟨b', eb', rb⟩ := prs_at pr j b eb
      show lt (((x :: xs).map (·.1)).getD i x.1) (((x :: xs).map (·.1)).getD j x.1) = _
      rw [List.getD_eq_getElem?_getD, List.getD_eq_getElem?_getD, ea', eb']
      exact ((f.2 a' a F ra).2 b' b F rb).1.symm
    · rw [← hl, ← List.length_map (f := (·.1))] at hi
      have e := idx_sorted o hi
      rw [← e] at q
      refine own_upd hs hl2 (prs_idx pr x.1 idx fun i hi' => ?_) q
      have := List.mem_range.mp (hi.1.mem_iff.mp hi')
      rw [List.length_map] at this ⊢
      omega
theorem hk_int (x : Int) (F : Hp) : (kInt).T.R x (kV (kInt.key x)) F := rfl
end
end L2
namespace L2
open PySem PySem.Spec PyProof.Rows PySem.W
section
variable {prog : Program} {w : World} {A : Around} {E : Value → Shared → Prop} {s : Shared} {z ti to i j : Addr} {f g : List Addr} {n1 n2 k : Nat} {P1 P2 : Nat → Value → Prop} {S1 S2 : Nat → Heap → Prop} {a b : Value}
end
end L2
namespace L2
open PySem PySem.Spec PyProof.Rows PySem.W
section
variable {prog : Program} {w : World} {A : Around} {E : Value → Shared → Prop} {s : Shared}
end
section
variable {X : Cx} {elts : List Expr} {kk : Nat} {tpos : Pos}
end
section
variable {K : PySem.W.Frag} {E : XK} {α β : Type} {L : List Sl} {T : Ty α}
end
end L2
namespace L2
open PySem PySem.Spec PyProof.Rows
section
variable {K : PySem.W.Frag} {E : XK} {α β γ ρ S B : Type} {F0 H0 F h H : Hp} {L : List Sl} {e : TE} {T : Ty α} {r : Mo α} {O : Own ρ} {u : TS} {LS : S → List Sl} {LB : B → List Sl}
theorem Hold.atM : ∀ {L : List Sl} {σ : St} {F h : Hp} (i : Nat) {s : Sl}, Hold L σ F h → L[i]? = some s →
    ∃ o h1 h2, σ[i]? = some o ∧ Jn h1 h2 h ∧ s.P o F h1 ∧ ∀ F' s' o' h1' h', Same F F' → Jn h1' h2 h' → s'.P o' F' h1' → Hold (L.set i s') (σ.set i o') F' h'
  | [], _, _, _, _, _, _, e => by cases e
  | s :: L, [], _, _, _, _, q, _ => q.elim
  | s :: L, o :: σ, F, h, 0, t, ⟨h1, h2, j, p, r⟩, e => by
    cases e
    exact ⟨o, h1, h2, rfl, j, p, fun F' s' o' h1' h' g j' p' => ⟨h1', h2, j', p', r.mono g⟩⟩
  | s :: L, o :: σ, F, h, i + 1, t, ⟨h1, h2, j, p, r⟩, e => by
    obtain ⟨o1, k1, k2, e1, j1, p1, f⟩ := Hold.atM i r (by simpa using e)
    have d1 : Dj h1 k1 := fun p => by
      rcases j.dj p with a | a
      · exact .inl a
      · exact .inr (j1.l.free a)
    have d2 : Dj h1 k2 := fun p => by
      rcases j.dj p with a | a
      · exact .inl a
      · exact .inr (j1.r.free a)
    refine ⟨o1, k1, un h1 k2, by simpa using e1, fun p => ?_, p1, fun F' s' o' k1' h' g j' p' => ?_⟩
    · rcases j p with ⟨a, b⟩ | ⟨a, b⟩
      · rcases j1 p with ⟨c, d⟩ | ⟨c, d⟩
        · refine .inl ⟨c, ?_⟩; unfold un; rw [a, b, d]
        · refine .inr ⟨?_, by rw [b, d]⟩; unfold un; rw [a, c]
      · refine .inl ⟨j1.l.free a, ?_⟩
        have : k2 p = none := j1.r.free a
        unfold un; rw [b]
        cases h1 p with
        | none => rw [this]
        | some u => rfl
    · have dd : Dj k1' k2 := fun p => by
        rcases j' p with ⟨a, b⟩ | ⟨a, b⟩
        · exact .inl a
        · right; unfold un at a
          cases z : h1 p with
          | none => rw [z] at a; exact a
          | some u => rw [z] at a; cases a
      refine ⟨h1, un k1' k2, fun p => ?_, p.mono g, f F' s' o' k1' _ g (jn_of dd) p'⟩
      rcases j' p with ⟨a, b⟩ | ⟨a, b⟩
      · unfold un at b ⊢
        cases z : h1 p with
        | none => rw [z] at b; exact .inl ⟨rfl, by rw [b, a]⟩
        | some u =>
          rw [z] at b
          refine .inr ⟨?_, b⟩
          rw [a]
          rcases d2 p with y | y
          · rw [y] at z; cases z
          · exact y
      · unfold un at a
        cases z : h1 p with
        | some u => rw [z] at a; cases a
        | none =>
          rw [z] at a
          refine .inl ⟨rfl, ?_⟩
          unfold un; rw [b]
          cases k1' p with
          | none => exact a.symm
          | some u => rfl
structure PutC (F2 H2 h H0 k k' F3 H3 : Hp) : Prop where
  ff : Same F2 F3
  fh : Same F3 H3
  ol : Same (less H2 k) H3
  nw : ∀ q, F2 q = none → F3 q ≠ none → H2 q = none ∨ k q ≠ none
  kh : Same k' H3
  dj : Dj F3 k'
  fr : ∀ q, k q = none → k' q ≠ none → h q = none ∧ H0 q = none
theorem hold_put {O1 : Own α} {i : Nat} {σ : St} {x : α} (hL : Hold L σ F h) (hi : L[i]? = some (.ow O1 x)) (ok : Okk F0 H0 F h H) :
    ∃ v k, σ[i]? = some (some v) ∧ O1.O x v F k ∧ Same k H ∧ Same k h ∧ Dj F k ∧ ∀ {β : Type} (O2 : Own β) (x' : β) (v' : V) (k' F3 H3 : Hp), PutC F H h H0 k k' F3 H3 → O2.O x' v' F3 k' →
      ∃ h', Hold (L.set i (.ow O2 x')) (σ.set i (some v')) F3 h' ∧ Okk F0 H0 F3 h' H3 := by
  obtain ⟨o, k, hr, e1, j, ⟨v, e2, ho⟩, f⟩ := hL.atM i hi
  subst e2
  obtain ⟨o1, o2, o3, o4, o5⟩ := ok
  have kh : Same k h := j.l
  have rh : Same hr h := j.r
  have kne : ∀ q, k q ≠ none → h q ≠ none := fun q z w => z (kh.free w)
  refine ⟨v, k, e1, ho, kh.trans o3, kh, fun q => ?_, ?_⟩
  · rcases o2 q with z | z
    · exact .inl z
    · exact .inr (kh.free z)
  intro β O2 x' v' k' F3 H3 P hv'
  have rk : ∀ {q o}, hr q = some o → k q = none := fun {q o} z => by
    rcases j.dj q with y | y
    · exact y
    · rw [y] at z; cases z
  have dj : Dj k' hr := fun q => by
    by_cases w : k' q = none
    · exact .inl w
    · right
      by_cases w2 : k q = none
      · exact rh.free (P.fr q w2 w).1
      · rcases j.dj q with y | y
        · exact absurd y w2
        · exact y
  have rH : ∀ {q o}, hr q = some o → H3 q = some o := fun {q o} z => P.ol q o (by rw [less_none (rk z)]; exact o3 _ _ (rh _ _ z))
  refine ⟨un k' hr, f F3 (.ow O2 x') (some v') k' _ P.ff (jn_of dj) ⟨_, rfl, hv'⟩, ⟨o1.1.trans P.ff, P.fh, fun q o z => ?_, fun q a b => ?_⟩, fun q => ?_, fun q o z => ?_, fun q z => ?_, fun q xs z => ?_⟩
  · have hq : h q = none := by
      cases w : h q with
      | none => rfl
      | some s => have := o4 q (by rw [w]; exact Option.some_ne_none _); rw [this] at z; cases z
    exact P.ol q o (by rw [less_none (kh.free hq)]; exact o1.2.2.1 _ _ z)
  · by_cases w : F q = none
    · rcases P.nw q w b with y | y
      · exact o1.2.2.1.free y
      · exact o4 q (kne q y)
    · exact o1.2.2.2 q a w
  · unfold un
    cases w : k' q with
    | some s =>
      left
      rcases P.dj q with y | y
      · exact y
      · rw [y] at w; cases w
    | none =>
      cases y : hr q with
      | none => exact .inr rfl
      | some s =>
        left
        have hq : h q = some s := rh _ _ y
        have Fq : F q = none := by
          rcases o2 q with d | d
          · exact d
          · rw [d] at hq; cases hq
        by_cases w3 : F3 q = none
        · exact w3
        · rcases P.nw q Fq w3 with d | d
          · rw [o3 _ _ hq] at d; cases d
          · exact absurd (rk y) d
  · unfold un at z
    cases w : k' q with
    | some s => rw [w] at z; rw [P.kh q s w]; exact z
    | none => rw [w] at z; exact rH z
  · unfold un at z
    cases w : k' q with
    | some s =>
      by_cases y : k q = none
      · exact (P.fr q y (by rw [w]; exact Option.some_ne_none _)).2
      · exact o4 q (kne q y)
    | none =>
      rw [w] at z
      exact o4 q fun y => z (rh.free y)
  · unfold un at z
    cases w : k' q with
    | some s => rw [w] at z; refine O2.notup hv' q xs ?_; rw [w]; exact z
    | none => rw [w] at z; exact o5 q xs (rh _ _ z)
theorem PutC.same {k k' : Hp} {H3 : Hp} (ok : Okk F0 H0 F h H) (kh : Same k h) (a : Same k' H3) (b : ∀ q, k q = none → k' q = none → H3 q = H q) (c : ∀ q, k q = none → k' q ≠ none → F q = none ∧ h q = none ∧ H0 q = none ∧ H q = k' q) : PutC F H h H0 k k' F H3 := by
  have dj : Dj F k' := fun q => by
    by_cases w : k' q = none
    · exact .inr w
    · left
      by_cases y : k q = none
      · exact (c q y w).1
      · rcases ok.2.1 q with d | d
        · exact d
        · exact absurd (kh.free d) y
  have ol : ∀ q o, k q = none → H q = some o → H3 q = some o := fun q o y z => by
    by_cases w : k' q = none
    · rw [b q y w]; exact z
    · obtain ⟨_, _, _, e⟩ := c q y w
      rw [z] at e
      exact a _ _ e.symm
  refine ⟨Same.refl _, fun q o z => ?_, fun q o z => ?_, fun q y z => absurd y z, a, dj, fun q y z => ⟨(c q y z).2.1, (c q y z).2.2.1⟩⟩
  · have y : k q = none := by
      rcases ok.2.1 q with d | d
      · rw [d] at z; cases z
      · exact kh.free d
    exact ol q o y (ok.1.2.1 _ _ z)
  · unfold less at z
    split at z
    · rename_i y; exact ol q o y z
    · cases z
theorem PutC.one {p : Addr} {o o' : HO} (ok : Okk F0 H0 F h H) (kh : Same (one p o) h) : PutC F H h H0 (one p o) (one p o') F (upd H p o') := by
  have ne : ∀ q, L2.one p o q = none → q ≠ p := fun q z w => by rw [w, one_same] at z; cases z
  refine PutC.same ok kh (fun q s z => ?_) (fun q z1 z2 => upd_ne (ne q z1)) fun q z1 z2 => ?_
  · unfold L2.one at z
    split at z
    · rename_i w; unfold upd; rw [if_pos w]; exact z
    · cases z
  · unfold L2.one at z2
    rw [if_neg (ne q z1)] at z2
    exact absurd rfl z2
theorem s_appNN {i : Nat} {xss : List (List α)} {r : Mo (List α)} {k : List α → Mo (Out ρ B S)} (hi : L[i]? = some (.ow (owLL T) xss)) (hT : Imm T) (he : EvO K e E L r (owL T)) (hk : ∀ a, EvS K u E (L.set i (.ow (owLL T) (xss ++ [a]))) (k a) LS LB O) :
    EvS K (tSeq (tDrop (tBM K "list" rAppend (mVar i) (tCons e tNil))) u) E L (r.bind fun a => .lim (xss.length + 1) (k a)) LS LB O := by
  intro F0 H0 σ F h H D hL ok fin
  obtain ⟨v0, k0, e1, ⟨p, vs, m0, rfl, j0, i0⟩, hk0, _, _, _⟩ := hold_put hL hi ok
  have hp : H p = some (.lst vs) := hk0 _ _ (j0.l _ _ one_same)
  show mVar i σ H fun x H1 => tyV K "list" x H1 ∧ tCons e tNil σ H1 fun xs H2 => rAppend x xs H2 (fun _ H3 => u D σ H3)
  refine mvar_at e1 ⟨.inl ⟨rfl, vs, .of hp⟩, ?_⟩
  refine he σ (un F h) H _ (hL.froz ok.2.1) ok.thaw (fin_ok (G := F) ok _ (.inl rfl) fin fun a F' H' hra x v hn fresh dj hsn hv => ?_)
  obtain ⟨o, hs, ht⟩ := ok.back x
  rw [hra] at fin
  obtain ⟨hz, fin⟩ := fin_lim (show Fin K (Mo.lim (xss.length + 1) (k a)) E LS LB O F0 H0 D from fin)
  obtain ⟨v1, k1, e1', ⟨p1, vs1, m1, rfl, j1, i1⟩, hk1, kh1, _, mm⟩ := hold_put (hL.mono hs) hi o
  rw [e1] at e1'; cases e1'
  have hp1 : H' p = some (.lst vs1) := hk1 _ _ (j1.l _ _ one_same)
  have fk : ∀ q, hn q ≠ none → k1 q = none := fun q z => kh1.free (ok.2.2.1.free (fresh q z))
  have pn : hn p = none := by
    cases w : hn p with
    | none => rfl
    | some s => have := fk p (by rw [w]; exact Option.some_ne_none _); rw [j1.l _ _ one_same] at this; cases this
  have mk : ∀ q, m1 q ≠ none → k1 q ≠ none := fun q z w => z (j1.r.free w)
  have dj1 : Dj m1 hn := fun q => by
    by_cases z : hn q = none
    · exact .inr z
    · left
      by_cases w : m1 q = none
      · exact w
      · exact absurd (fk q z) (mk q w)
  have pm : m1 p = none := by
    rcases j1.dj p with z | z
    · rw [one_same] at z; cases z
    · exact z
  have djp : Dj (one p (.lst (vs1 ++ [v]))) (un m1 hn) := fun q => by
    by_cases z : q = p
    · right; unfold un; rw [z, pm, pn]
    · left; unfold one; rw [if_neg z]
  have hin : (owLL T).O (xss ++ [a]) (.ref p) (less F' h) (un (one p (.lst (vs1 ++ [v]))) (un m1 hn)) := ⟨p, vs1 ++ [v], un m1 hn, rfl, jn_of djp, i1.snoc (immo_l hT ht hv) (jn_of dj1)⟩
  have kp : ∀ q, k1 q = none → q ≠ p := fun q z w => by rw [w, j1.l _ _ one_same] at z; cases z
  have PC : PutC (less F' h) H' h H0 k1 (un (one p (.lst (vs1 ++ [v]))) (un m1 hn)) (less F' h) (upd H' p (.lst (vs1 ++ [v]))) := by
    refine PutC.same o kh1 (fun q o z => ?_) (fun q z1 z2 => upd_ne (kp q z1)) fun q z1 z2 => ?_
    · unfold un one at z
      by_cases w : q = p
      · rw [if_pos w] at z; unfold upd; rw [if_pos w]; exact z
      · rw [if_neg w] at z
        unfold upd; rw [if_neg w]
        cases y : m1 q with
        | some s => rw [y] at z; rw [← z]; exact hk1 _ _ (j1.r _ _ y)
        | none => rw [y] at z; exact hsn _ _ z
    · have m0' : m1 q = none := j1.r.free z1
      have eu : un (one p (.lst (vs1 ++ [v]))) (un m1 hn) q = hn q := by unfold un one; rw [if_neg (kp q z1), m0']
      rw [eu] at z2 ⊢
      have fr := fresh q z2
      refine ⟨?_, ok.2.2.1.free fr, ok.1.2.2.1.free fr, ?_⟩
      · unfold less
        cases y : h q with
        | some s => rfl
        | none =>
          rcases dj q with d | d
          · exact d
          · exact absurd d z2
      · cases y : hn q with
        | none => exact absurd y z2
        | some s => exact hsn _ _ y
  obtain ⟨h', a1, a2⟩ := mm (owLL T) (xss ++ [a]) (.ref p) _ _ _ PC hin
  rw [set_self e1] at a1
  refine ⟨p, vs1, v, rfl, rfl, hp1, ?_, hk a F0 H0 σ _ h' _ D a1 a2 fin⟩
  rw [← i1.len]; omega
theorem s_setN {i : Nat} {xss : List (List α)} {ei ej : TE} {ri rj : Mo Int} {k : List (List α) → Mo (Out ρ B S)} (hi : L[i]? = some (.ow (owLL T) xss)) (hT : Imm T) (he : EvF K e E L r T) (hei : EvF K ei E L ri tyInt) (hej : EvF K ej E L rj tyInt) (hk : ∀ a, EvS K u E (L.set i (.ow (owLL T) a)) (k a) LS LB O) :
    EvS K (tSeq (tAsg e (gSub (tOp (mIx K) (mVar i) ei) ej mSet)) u) E L (r.bind fun a => ri.bind fun j => (Mo.opt (ixN xss.length j)).bind fun n => rj.bind fun m => (Mo.opt ((ixN (xss[n]?.getD []).length m).map fun b => xss.set n ((xss[n]?.getD []).set b a))).bind k) LS LB O := by
  intro F0 H0 σ F h H D hL ok fin
  refine he σ (un F h) H _ (hL.froz ok.2.1) ok.thaw (fin_ok (G := F) ok _ (.inl rfl) fin fun a F' H' hra x v hv => ?_)
  obtain ⟨o, hs, ht⟩ := ok.back x
  rw [hra] at fin
  have hL' := hL.mono hs
  have hv' := hT ht hv
  obtain ⟨o0, g1, g2, e0, _, ⟨v0, e00, p0, vs0, _, rfl, _, _⟩, _⟩ := hL'.at i hi
  subst e00
  show mVar i σ H' fun o1 H1 => ei σ H1 fun y H2 => mIx K o1 y H2 fun x H3 => ej σ H3 fun y2 H4 => mSet x y2 v H4 fun H5 => u D σ H5
  refine mvar_at e0 ?_
  refine hei σ (un _ h) H' _ (hL'.froz o.2.1) o.thaw (fin_ok (G := F) o _ (.inl rfl) fin fun j F2 H2 hrj x2 v2 hv2 => ?_)
  cases hv2
  obtain ⟨o', hs', ht'⟩ := o.back x2
  rw [hrj] at fin
  obtain ⟨n, en, fin⟩ := fin_opt fin
  have hn := ixN_some en
  obtain ⟨p, vs, q, us, e1, hp, hlen, e3, hq, hr, _⟩ := hold_mutN (hL'.mono hs') hi (List.getElem?_eq_getElem hn) o'
  rw [e0] at e1; cases e1
  refine ⟨vs, .inl (.of hp), ?_⟩
  have ea : atI vs j = some (.ref q) := by unfold atI; rw [← hlen, en]; exact e3
  rw [ea]
  refine hej σ (un _ h) H2 _ ((hL'.mono hs').froz o'.2.1) o'.thaw (fin_ok (G := F) o' _ (.inl rfl) fin fun m F3 H3 hrm x3 v3 hv3 => ?_)
  cases hv3
  obtain ⟨o'', hs'', ht''⟩ := o'.back x3
  rw [hrm] at fin
  obtain ⟨ys, ey, fin⟩ := fin_opt fin
  obtain ⟨p', vs', q', us', e1', hp', hlen', e3', hq', hr', mm⟩ := hold_mutN ((hL'.mono hs').mono hs'') hi (List.getElem?_eq_getElem hn) o''
  rw [e0] at e1'; cases e1'
  have : vs' = vs := by
    have h1 := x3.2.2.1 _ _ hp
    rw [hp'] at h1; injection h1 with h1; injection h1
  subst this
  rw [e3] at e3'; cases e3'
  have eg : xss[n]?.getD [] = xss[n] := by rw [List.getElem?_eq_getElem hn]; rfl
  rw [eg] at ey
  cases eb : ixN xss[n].length m with
  | none => rw [eb] at ey; cases ey
  | some b =>
    rw [eb] at ey
    injection ey with ey
    subst ey
    obtain ⟨h', a1, a2⟩ := mm (xss[n].set b a) (us'.set b v) (hr'.set b (T.mono hs'' (T.mono hs' hv')))
    refine ⟨us', hq', ?_⟩
    rw [← hr'.len, eb]
    exact hk _ F0 H0 σ _ h' _ D a1 a2 fin
end
section
variable {K : PySem.W.Frag} {E : XK} {α β γ ρ S B : Type} {F0 H0 F h H : Hp} {L : List Sl} {e : TE} {T : Ty α} {r : Mo α} {O : Own ρ} {u : TS} {LS : S → List Sl} {LB : B → List Sl} {p : Addr} {vs : List V}
end
end L2
namespace L2
open PySem PySem.Spec PyProof.Rows
section
variable {α β γ : Type}
def OwAll (O : Own α) (F : Hp) : List α → List V → Hp → Prop
  | [], [], h => ∀ p, h p = none
  | x :: xs, v :: vs, h => ∃ h1 h2, Jn h1 h2 h ∧ O.O x v F h1 ∧ OwAll O F xs vs h2
  | _, _, _ => False
variable {O : Own α}
theorem OwAll.mono : ∀ {xs : List α} {vs : List V} {F F' h : Hp}, Same F F' → OwAll O F xs vs h → OwAll O F' xs vs h
  | [], [], _, _, _, _, q => q
  | x :: xs, v :: vs, F, F', h, g, ⟨h1, h2, j, o, r⟩ => ⟨h1, h2, j, O.mono g o, r.mono g⟩
  | [], _ :: _, _, _, _, _, q => q.elim
  | _ :: _, [], _, _, _, _, q => q.elim
theorem OwAll.imm (i : ImmO O) : ∀ {xs : List α} {vs : List V} {F F' h : Hp}, Tups F F' → OwAll O F xs vs h → OwAll O F' xs vs h
  | [], [], _, _, _, _, q => q
  | x :: xs, v :: vs, F, F', h, g, ⟨h1, h2, j, o, r⟩ => ⟨h1, h2, j, i g o, r.imm i g⟩
  | [], _ :: _, _, _, _, _, q => q.elim
  | _ :: _, [], _, _, _, _, q => q.elim
theorem OwAll.notup : ∀ {xs : List α} {vs : List V} {F h : Hp}, OwAll O F xs vs h → ∀ p ys, h p ≠ some (.tup ys)
  | [], [], _, _, q, p, ys => by rw [q p]; exact fun z => by cases z
  | x :: xs, v :: vs, F, h, ⟨h1, h2, j, o, r⟩, p, ys => by
    rcases j p with ⟨_, b⟩ | ⟨_, b⟩
    · rw [b]; exact r.notup p ys
    · rw [b]; exact O.notup o p ys
  | [], _ :: _, _, _, q, _, _ => q.elim
  | _ :: _, [], _, _, q, _, _ => q.elim
theorem OwAll.len : ∀ {xs : List α} {vs : List V} {F h : Hp}, OwAll O F xs vs h → xs.length = vs.length
  | [], [], _, _, _ => rfl
  | x :: xs, v :: vs, F, h, ⟨h1, h2, j, o, r⟩ => by rw [List.length_cons, List.length_cons, r.len]
  | [], _ :: _, _, _, q => q.elim
  | _ :: _, [], _, _, q => q.elim
theorem un_mono {F h1 h : Hp} (d : Dj F h) (s : Same h1 h) : Same (un F h1) (un F h) := fun p o e => by
  unfold un at e ⊢
  cases z : F p with
  | some w => rw [z] at e; exact e
  | none => rw [z] at e; exact s _ _ e
theorem OwAll.prs : ∀ {xs : List α} {vs : List V} {F h G : Hp}, Dj F h → Same (un F h) G → OwAll O F xs vs h → Prs O.fr G xs vs
  | [], [], _, _, _, _, _, _ => .nil
  | x :: xs, v :: vs, F, h, G, d, g, ⟨h1, h2, j, o, r⟩ => by
    have d1 : Dj F h1 := fun p => by
      rcases d p with z | z
      · exact .inl z
      · exact .inr (j.l.free z)
    have d2 : Dj F h2 := fun p => by
      rcases d p with z | z
      · exact .inl z
      · exact .inr (j.r.free z)
    exact .cons (O.fr.mono ((un_mono d j.l).trans g) (O.frz d1 o)) (r.prs d2 ((un_mono d j.r).trans g))
  | [], _ :: _, _, _, _, _, _, q => q.elim
  | _ :: _, [], _, _, _, _, _, q => q.elim
theorem jn_sym {h1 h2 h : Hp} (j : Jn h1 h2 h) : Jn h2 h1 h := fun p => by
  rcases j p with ⟨a, b⟩ | ⟨a, b⟩
  · exact .inr ⟨a, b⟩
  · exact .inl ⟨a, b⟩
theorem jn_assoc {h1 h2 h12 h3 h : Hp} (j : Jn h1 h2 h12) (k : Jn h12 h3 h) : ∃ h23, Jn h2 h3 h23 ∧ Jn h1 h23 h := by
  have d : Dj h2 h3 := fun p => by
    rcases k.dj p with z | z
    · exact .inl (j.r.free z)
    · exact .inr z
  refine ⟨un h2 h3, jn_of d, fun p => ?_⟩
  unfold un
  rcases k p with ⟨a, b⟩ | ⟨a, b⟩
  · refine .inl ⟨j.l.free a, ?_⟩
    rw [j.r.free a]; exact b
  · rcases j p with ⟨c, e⟩ | ⟨c, e⟩
    · refine .inl ⟨c, ?_⟩
      rw [b, e]
      cases z : h2 p with
      | none => exact a.symm ▸ rfl
      | some w => rfl
    · refine .inr ⟨?_, by rw [b, e]⟩
      rw [c]; exact a
theorem OwAll.at : ∀ {xs : List α} {vs : List V} {F h : Hp} (i : Nat) {x : α}, OwAll O F xs vs h → xs[i]? = some x →
    ∃ v h1 h2, vs[i]? = some v ∧ Jn h1 h2 h ∧ O.O x v F h1 ∧ ∀ x' h1' h' F3, Same F F3 → O.O x' v F3 h1' → Jn h1' h2 h' → OwAll O F3 (xs.set i x') vs h'
  | [], _, _, _, _, _, _, e => by cases e
  | x :: xs, [], _, _, _, _, q, _ => q.elim
  | x :: xs, v :: vs, F, h, 0, y, ⟨h1, h2, j, o, r⟩, e => by
    cases e
    exact ⟨v, h1, h2, rfl, j, o, fun x' h1' h' F3 g o' j' => ⟨h1', h2, j', o', r.mono g⟩⟩
  | x :: xs, v :: vs, F, h, i + 1, y, ⟨h1, h2, j, o, r⟩, e => by
    obtain ⟨w, k1, k2, e1, j1, o1, f⟩ := OwAll.at i r (by simpa using e)
    obtain ⟨m, jm, jh⟩ := jn_assoc j1 (jn_sym j)
    refine ⟨w, k1, m, by simpa using e1, jh, o1, fun x' k1' h' F3 g o' j' => ?_⟩
    have d : Dj k1' k2 := fun p => by
      rcases j'.dj p with z | z
      · exact .inl z
      · exact .inr (jm.l.free z)
    refine ⟨h1, un k1' k2, ?_, O.mono g o, f x' k1' _ F3 g o' (jn_of d)⟩
    intro p
    rcases j' p with ⟨a, b⟩ | ⟨a, b⟩
    · rcases jm p with ⟨c, e⟩ | ⟨c, e⟩
      · right
        refine ⟨by unfold un; rw [a, c], by rw [b, e]⟩
      · left
        refine ⟨c, by unfold un; rw [a, b, e]⟩
    · left
      refine ⟨jm.r.free a, ?_⟩
      unfold un
      rw [b]
      cases z : k1' p with
      | none => exact (jm.l.free a).symm ▸ rfl
      | some w => rfl
theorem OwAll.snoc : ∀ {xs : List α} {vs : List V} {F h : Hp} {x : α} {v : V} {hn : Hp}, OwAll O F xs vs h → O.O x v F hn → Dj h hn → OwAll O F (xs ++ [x]) (vs ++ [v]) (un h hn)
  | [], [], F, h, x, v, hn, q, o, d => by
    refine ⟨hn, fun _ => none, fun p => .inr ⟨rfl, ?_⟩, o, fun _ => rfl⟩
    unfold un; rw [q p]
  | y :: xs, w :: vs, F, h, x, v, hn, ⟨h1, h2, j, o1, r⟩, o, d => by
    obtain ⟨m, jm, jh⟩ := jn_assoc j (jn_of d)
    have d2 : Dj h2 hn := jm.dj
    have e : m = un h2 hn := by
      funext p
      unfold un
      rcases jm p with ⟨a, b⟩ | ⟨a, b⟩
      · rw [a]; exact b
      · rw [b]
        cases z : h2 p with
        | none => exact a.symm ▸ rfl
        | some w => rfl
    rw [e] at jh
    exact ⟨h1, _, jh, o1, r.snoc o d2⟩
  | [], _ :: _, _, _, _, _, _, q, _, _ => q.elim
  | _ :: _, [], _, _, _, _, _, q, _, _ => q.elim
end
section
variable {K : PySem.W.Frag} {E : XK} {α β γ ρ S B : Type} {F0 H0 F h H : Hp} {L : List Sl} {e te ei : TE} {T : Ty α} {r : Mo α} {Or : Own ρ} {u : TS} {LS : S → List Sl} {LB : B → List Sl} {σ : St}
end
end L2
namespace L2
open PySem PySem.Spec PyProof.Rows
section
variable {X : Cx} {e value o : Expr} {es : List Expr} {f m x : Str} {p pos pos' apos : Pos} {ta tv : TE} {t : TA} {C : Addr} {k : Nat} {ps : List Str} {sp : Sp}
end
section
variable {α β γ : Type}
end
section
variable {K : PySem.W.Frag} {E : XK} {α β γ δ ρ S B : Type} {F0 H0 F h H : Hp} {L : List Sl} {e te ei : TE} {T : Ty α} {r : Mo α} {Or : Own ρ} {u : TS} {LS : S → List Sl} {LB : B → List Sl} {σ : St} {C : Addr} {ns : List Str} {f : Str} {i n : Nat}
end
end L2
namespace L2
open PySem PySem.Spec PyProof.Rows
section
variable {K : PySem.W.Frag} {E : XK} {α β γ δ ρ ρ' S B : Type} {F0 H0 F h H : Hp} {L : List Sl} {e te ei : TE} {T : Ty α} {r : Mo α} {Or : Own ρ} {t u : TS} {LS : S → List Sl} {LB : B → List Sl} {σ : St} {C : Addr} {ns : List Str} {f m : Str} {i n : Nat}
end
end L2
namespace L2
open PySem PySem.Spec PyProof.Rows
section
variable {K : PySem.W.Frag} {E : XK} {α β γ δ ρ ρ' S B : Type} {F0 H0 F h H : Hp} {L : List Sl} {e te ei : TE} {T : Ty α} {r : Mo α} {Or : Own ρ} {t u : TS} {LS : S → List Sl} {LB : B → List Sl} {σ : St} {C : Addr} {ns : List Str} {f m : Str} {i n : Nat}
end
end L2
namespace L2
open PySem PySem.Spec PyProof.Rows
section
variable {K : PySem.W.Frag} {E : XK} {γ : Type} {L : List Sl} {C : Addr} {ns : List Str}
end
end L2
namespace L2
open PySem PySem.Spec PyProof.Rows
def splitG (sep l : List Nat) : List (List Nat) := (Txt.split ⟨l.toArray⟩ ⟨sep.toArray⟩).map fun p => p.cps.toList
def joinL (sep : List Nat) : List (List Nat) → List Nat
  | [] => []
  | [p] => p
  | p :: q :: r => p ++ sep ++ joinL sep (q :: r)
theorem join_codesL (y : Str) : ∀ ps : List Str, (Str.join y ps).cps.toList = joinL y.cps.toList (ps.map fun p => p.cps.toList)
  | [] => rfl
  | [p] => rfl
  | p :: q :: r => by
    show (p ++ y ++ Str.join y (q :: r)).cps.toList = _
    rw [str_app, str_app, join_codesL y (q :: r)]
    rfl
theorem split2_part {x : Str} {c e a b : Nat} (hc : ∀ k, x.cps.toList[k]? = some c → x.cps.toList[k + 1]? = some e) (hb : b ≤ x.length) (hn : ∀ k, a ≤ k → k < b → ¬ StrLaws.At x ⟨#[c, e]⟩ x.length k) : c ∉ (Builtin.Str.strSub x a b).cps.toList := by
  intro hm
  rw [StrLaws.strSub_toList] at hm
  obtain ⟨j, hj⟩ := List.getElem?_of_mem hm
  have hlt : j < b - a := by
    have h1 := (List.getElem?_eq_some_iff.mp hj).1
    rw [List.length_take] at h1
    omega
  rw [List.getElem?_take_of_lt hlt, List.getElem?_drop] at hj
  have h2 := hc _ hj
  refine hn (a + j) (by omega) (by omega) ⟨?_, ?_⟩
  · have := (List.getElem?_eq_some_iff.mp h2).1
    show a + j + 2 ≤ x.length
    simp [Str.length] at this ⊢
    omega
  · show (x.cps.extract (a + j) (a + j + 2) == #[c, e]) = true
    rw [beq_iff_eq]
    apply Array.toList_inj.mp
    rw [Array.toList_extract]
    show List.extract _ _ _ = [c, e]
    rw [List.extract_eq_drop_take, show a + j + 2 - (a + j) = 2 by omega]
    obtain ⟨l1, e1⟩ := List.getElem?_eq_some_iff.mp hj
    obtain ⟨l2, e2⟩ := List.getElem?_eq_some_iff.mp h2
    rw [List.drop_eq_getElem_cons l1, List.drop_eq_getElem_cons l2, e1, e2]
    rfl
theorem split2_parts {x : Str} {c e : Nat} (hc : ∀ k, x.cps.toList[k]? = some c → x.cps.toList[k + 1]? = some e) : ∀ (cuts : List Nat) (a f : Nat), StrLaws.ChainG x ⟨#[c, e]⟩ x.length a cuts f → (∀ k, f ≤ k → ¬ StrLaws.At x ⟨#[c, e]⟩ x.length k) → ∀ p ∈ StrLaws.partsFrom x 2 a cuts, c ∉ p.cps.toList
  | [], a, f, h, hn, p, hp => by
    obtain rfl : f = a := h
    rw [List.mem_singleton.mp hp]
    exact split2_part hc (Nat.le_refl _) fun k h1 _ => hn k h1
  | d :: r, a, f, h, hn, p, hp => by
    rcases List.mem_cons.mp hp with rfl | hp'
    · exact split2_part hc (by have := h.2.1.1; omega) h.2.2.1
    · exact split2_parts hc r _ f h.2.2.2 hn p hp'
theorem kind_pos (x : Str) : ¬ Builtin.Str.strKind x < Builtin.Str.strKind (⟨#[44, 32]⟩ : Str) := by
  have e : Builtin.Str.strKind (⟨#[44, 32]⟩ : Str) = 1 := by decide +kernel
  rw [e]
  unfold Builtin.Str.strKind
  split
  · omega
  · split <;> omega
theorem split2_free {x : Str} (hc : ∀ k, x.cps.toList[k]? = some 44 → x.cps.toList[k + 1]? = some 32) : ∀ p ∈ Txt.split x ⟨#[44, 32]⟩, (44 : Nat) ∉ p.cps.toList := by
  obtain ⟨f, hG, hn⟩ := StrLaws.occ_tight x ⟨#[44, 32]⟩ (by decide)
  have all := split2_parts hc _ 0 f hG hn
  unfold Txt.split
  split
  · rename_i h
    intro p hp
    rw [List.mem_singleton.mp hp]
    intro hm
    obtain ⟨j, hj⟩ := List.getElem?_of_mem hm
    have := (List.getElem?_eq_some_iff.mp (hc j hj)).1
    rw [Bool.or_eq_true, decide_eq_true_eq, decide_eq_true_eq] at h
    rcases h with h | h
    · simp [Str.length] at h this
      omega
    · exact kind_pos x h
  · split
    · rename_i h
      rw [List.isEmpty_iff] at h
      rw [h] at all
      intro p hp
      rw [List.mem_singleton.mp hp]
      have := all (Builtin.Str.strSub x 0 x.length) (List.mem_singleton.mpr rfl)
      rwa [StrLaws.sub_whole] at this
    · rw [StrLaws.partsBetween_eq]
      exact all
theorem joinL_split {c e : Nat} (hce : e ≠ c) : ∀ {p : List Nat} {ps : List (List Nat)}, (∀ q ∈ p :: ps, c ∉ q) → splitC c (joinL [c, e] (p :: ps)) = p :: ps.map (fun q => e :: q)
  | p, [], h => splitC_free c p (h p (List.mem_cons_self ..))
  | p, q :: r, h => by
    show splitC c (p ++ [c, e] ++ joinL [c, e] (q :: r)) = _
    rw [List.append_assoc]
    show splitC c (p ++ c :: (e :: joinL [c, e] (q :: r))) = _
    rw [splitC_app c p _ (h p (List.mem_cons_self ..)), splitC, if_neg hce, joinL_split hce (p := q) (ps := r) fun z hz => h z (List.mem_cons_of_mem _ hz)]
    rfl
theorem joinL_inj {c e : Nat} (hce : e ≠ c) {ps qs : List (List Nat)} (h1 : ps ≠ []) (h2 : qs ≠ []) (f1 : ∀ q ∈ ps, c ∉ q) (f2 : ∀ q ∈ qs, c ∉ q) (h : joinL [c, e] ps = joinL [c, e] qs) : ps = qs := by
  cases ps with
  | nil => exact absurd rfl h1
  | cons p ps =>
    cases qs with
    | nil => exact absurd rfl h2
    | cons q qs =>
      have a := joinL_split hce f1
      rw [h, joinL_split hce f2] at a
      injection a with a1 a2
      have inj : ∀ {xs ys : List (List Nat)}, xs.map (fun q => e :: q) = ys.map (fun q => e :: q) → xs = ys := by
        intro xs
        induction xs with
        | nil => intro ys h; cases ys with | nil => rfl | cons _ _ => cases h
        | cons x xs ih =>
          intro ys h
          cases ys with
          | nil => cases h
          | cons y ys =>
            rw [List.map_cons, List.map_cons] at h
            injection h with h1 h2
            injection h1 with _ h1
            rw [h1, ih h2]
      rw [a1, inj a2]
theorem joinL_next {c e : Nat} (hce : e ≠ c) : ∀ {ps : List (List Nat)}, (∀ q ∈ ps, c ∉ q) → ∀ k, (joinL [c, e] ps)[k]? = some c → (joinL [c, e] ps)[k + 1]? = some e
  | [], _, k, h => by simp [joinL] at h
  | [p], f, k, h => absurd (List.mem_of_getElem? h) (f p (List.mem_cons_self ..))
  | p :: q :: r, f, k, h => by
    have ih := joinL_next hce (ps := q :: r) fun z hz => f z (List.mem_cons_of_mem _ hz)
    have e0 : joinL [c, e] (p :: q :: r) = p ++ c :: e :: joinL [c, e] (q :: r) := by show p ++ [c, e] ++ _ = _; simp
    rw [e0] at h ⊢
    by_cases h1 : k < p.length
    · rw [List.getElem?_append_left h1] at h
      exact absurd (List.mem_of_getElem? h) (f p (List.mem_cons_self ..))
    · rw [List.getElem?_append_right (by omega)] at h ⊢
      rcases (show k - p.length = 0 ∨ k - p.length = 1 ∨ ∃ m, k - p.length = m + 2 from by
        rcases Nat.lt_or_ge (k - p.length) 2 with z | z
        · omega
        · exact .inr (.inr ⟨k - p.length - 2, by omega⟩)) with z | z | ⟨m, z⟩
      · rw [show k + 1 - p.length = 1 by omega]; rfl
      · rw [z] at h
        simp at h
        exact absurd h hce
      · rw [z] at h
        rw [show k + 1 - p.length = m + 1 + 2 by omega]
        simp at h ⊢
        exact ih m h
theorem splitG_join {ps : List (List Nat)} (h : ps ≠ []) (f : ∀ p ∈ ps, (44 : Nat) ∉ p) : splitG [44, 32] (joinL [44, 32] ps) = ps := by
  have hj := StrLaws.join_split ⟨(joinL [44, 32] ps).toArray⟩ ⟨#[44, 32]⟩
  have h1 := join_codesL ⟨#[44, 32]⟩ (Txt.split ⟨(joinL [44, 32] ps).toArray⟩ ⟨#[44, 32]⟩)
  rw [hj] at h1
  have h2 := PyProof.Rows.split_pos ⟨(joinL [44, 32] ps).toArray⟩ ⟨#[44, 32]⟩
  refine joinL_inj (c := 44) (e := 32) (by decide) (fun z => ?_) h (fun q hq => ?_) f h1.symm
  · have := congrArg List.length z
    unfold splitG at this
    rw [List.length_map] at this
    have e : (⟨[44, 32].toArray⟩ : Str) = ⟨#[44, 32]⟩ := rfl
    rw [e] at this
    simp at this
    rw [this] at h2
    simp at h2
  · unfold splitG at hq
    obtain ⟨z, hz, rfl⟩ := List.mem_map.mp hq
    exact split2_free (x := ⟨(joinL [44, 32] ps).toArray⟩) (joinL_next (by decide) f) z hz
theorem joinS_joinL (sep : List Nat) (ps : List (List Nat)) : joinS sep (strsL ps) = joinL sep ps := by
  have := join_codesL ⟨sep.toArray⟩ (strsL ps)
  unfold joinS
  refine Eq.trans ?_ (this.trans ?_)
  · rw [eq_of_beq (PyProof.Rows.join_closes (sep := ⟨sep.toArray⟩) (ys := strsL ps) rfl)]
  · unfold strsL
    rw [List.map_map]
    congr 1
    exact (List.map_congr_left fun p _ => rfl).trans (List.map_id _)
end L2
namespace L2
open PySem PySem.Spec PyProof.Rows
section
variable {X : Cx}
def mSplitG : V → List V → Hp → VK → Prop := fun x xs H Q => match x, xs with
  | .str l, [.str y] => l.cps.toList.length ≤ 100000 ∧ y.cps.toList ≠ [] ∧ ∀ p, H p = none → Q (.ref p) (upd H p (.lst ((splitG y.cps.toList l.cps.toList).map tx)))
  | _, _ => False
theorem mt_splitG : MtR X "str.split" mSplitG := by
  intro pins s σ H x xs v us Q I rx rv h
  unfold mSplitG at h
  split at h
  · rename_i l y
    obtain ⟨k, rfl⟩ := rx
    obtain ⟨u, rfl, ru⟩ := rv.one
    obtain ⟨k', rfl⟩ := ru
    obtain ⟨hl, hy, q⟩ := h
    have hll : l.length = l.cps.toList.length := by simp [Str.length]
    have hyl : (y.length == 0) = false := by
      have : y.length ≠ 0 := fun e => hy (by
        have e2 : y.cps.toList.length = 0 := by simpa [Str.length] using e
        exact List.length_eq_zero_iff.mp e2)
      simpa using this
    have hsl := split_le l y
    refine LX.split_push hyl (fun lz k2 e => ?_) (by rw [hll]; exact small_n hl) (by
      rw [len_partsBetween]
      have := StrLaws.occ_length_le l y 0 l.length (l.length + 1)
      rw [sizeLine_eq]; omega)
    have e1 : splitG y.cps.toList l.cps.toList = (Txt.split l y).map fun p => p.cps.toList := by
      unfold splitG; rw [← str_eta l, ← str_eta y]
    have e2 : (splitG y.cps.toList l.cps.toList).map tx = lz.map fun p => tx p.1.cps.toList := by
      rw [e1, ← e, List.map_map, List.map_map]
      rfl
    have e3 : (splitG y.cps.toList l.cps.toList).length ≤ 100002 := by
      rw [e1, List.length_map]; omega
    refine ⟨.ref s.heap.objs.size, _, I.laid (o := .lst ((splitG y.cps.toList l.cps.toList).map tx)) (t' := k2) (fun b ob q => Heap.get?_push_of_some _ q) (Nat.le_refl _) ?_, rfl, q _ (I.hok.fresh (Nat.le_refl _))⟩
    refine ⟨by rw [List.length_map, sizeLine_eq]; omega, strValues lz, 0, ?_, Heap.get?_push_size _ rfl⟩
    rw [e2]
    exact vals_parts lz
  · exact h.elim
def mTrL (K : PySem.W.Frag) (t : TE) : TT := fun σ H Q => t σ H fun x H' => match x with
  | .bl k => Q k H'
  | .ref a => ∃ xs, SqL K H' a xs ∧ Q (!xs.isEmpty) H'
  | _ => False
theorem pt_trL {e : Expr} {t : TE} (h : PE X e t) (he : ∀ whole, isTrue e X.env whole = (do let v ← whole; standAt e.pos; holding [v] (truthy v)) := by intro _; rfl) : PT X e (mTrL X.K t) := by
  intro pins s σ H Q I hw
  refine isTrue_plain (thn (h pins s σ H _ I hw) fun v s1 ⟨x, H1, I1, r1, q1⟩ => ?_) (he _)
  cases x with
  | bl c => cases r1; exact wpAny_truthy_bool ⟨H1, I1, q1⟩
  | ref a =>
    cases r1
    obtain ⟨xs, hq, q⟩ := q1
    obtain ⟨its, rv, p, hz⟩ := I1.list hq
    have hl := rv.length
    refine wpAny_truthy_list p.isList (by rw [List.size_toArray, ← hl]; rw [sizeLine_eq] at hz; omega) ?_
    have e : its.isEmpty = xs.isEmpty := by cases rv <;> rfl
    refine ⟨H1, I1.tok _, ?_⟩
    simpa [e] using q
  | _ => exact q1.elim
end
section
variable {K : PySem.W.Frag} {E : XK} {α β : Type} {L : List Sl} {e : TE} {T : Ty α}
theorem me_splitG : MeO K mSplitG E (csLast tyStr) (fun l c => .grd (l.length ≤ 100000 ∧ c ≠ []) (.ok (splitG c l))) (owL tyStr) := by
  rintro l c vs F H Q hs ⟨v, rfl, rfl⟩ q
  obtain ⟨⟨z1, z2⟩, q⟩ := q.grd
  refine ⟨by simpa using z1, by simpa using z2, fun p hp => ?_⟩
  have pr : ∀ ls : List (List Nat), Prs tyStr F ls (ls.map tx) := fun ls => by
    induction ls with
    | nil => exact .nil
    | cons x xs ih => exact .cons rfl ih
  exact own_upd hs hp (pr _) q
theorem et_trB {b : Mo Bool} (h : EvF K e E L b tyBl) : EvT K (mTrL K e) E L b := by
  intro σ F H Q hL hs q
  refine h σ F H _ hL hs (q.imp fun a F1 H1 x k v hv => ?_)
  cases hv
  exact k
theorem et_trL {r : Mo (List α)} (h : EvF K e E L r (tyL T)) : EvT K (mTrL K e) E L (r.bind fun l => .ok (!l.isEmpty)) := by
  intro σ F H Q hL hs q
  refine h σ F H _ hL hs (q.bind.imp fun a F1 H1 x k v hv => ?_)
  obtain ⟨p, us, rfl, hp, hr⟩ := hv
  refine ⟨us, .of (x.2.1 _ _ hp), ?_⟩
  have e : a.isEmpty = us.isEmpty := by cases hr <;> rfl
  have := k.ok x.2.1
  rwa [e] at this
theorem bl_all : Bl K (mAll K) E (csLast (tyL tyBl)) (fun l => .ok (l.all id)) tyBl := by
  rintro c vs F H Q hs ⟨v, rfl, p, us, rfl, h, r⟩ q
  refine ⟨c, ?_, q.ok hs _ rfl⟩
  have e : us = c.map V.bl := by
    clear h q
    induction r with
    | nil => rfl
    | cons a t ih => rw [List.map_cons, ← ih]; exact congrArg (· :: _) a
  rw [← e]
  exact .of (hs _ _ h)
theorem ev_unopt {r : Mo (Option α)} (h : EvF K e E L r (tyOpt T)) : EvF K e E L (r.bind fun o => Mo.opt o) T := by
  intro σ F H Q hL hs q
  refine h σ F H _ hL hs (q.bind.imp fun o F1 H1 x k v hv => ?_)
  cases o with
  | none => exact k.elim
  | some a => exact k.ok x.2.1 v hv.1
theorem flt_optI : Flt (tyOpt tyInt) (fun a b => decide (a = b)) := ⟨fun {a x H} h => by
    cases a with
    | none => cases h; rfl
    | some i => cases h.1; rfl,
  fun {a b x y H} h h' => by
    cases a with
    | none =>
      cases h
      cases b with
      | none => cases h'; unfold eqV; simp
      | some j => cases h'.1; unfold eqV; simp
    | some i =>
      cases h.1
      cases b with
      | none => cases h'; unfold eqV; simp
      | some j => cases h'.1; unfold eqV; simp; rfl⟩
def EvJ (K : PySem.W.Frag) (k : Nat) (tj : TJ) (E : XK) (L : List Sl) (r : Mo (List Nat)) : Prop :=
  ∀ (n : Nat) (acc : List Nat) σ F H (R : Str → Hp → Prop), acc.length ≤ 1000 * n → n + k ≤ 90 → HoldF L σ F → Same F H → After K r E F H (fun l F' H' => l.length ≤ 1000 * k → R ⟨(acc ++ l).toArray⟩ H') → tj ⟨acc.toArray⟩ σ H R
theorem ej_nil : EvJ K 0 tJ0 E L (.ok []) := fun n acc σ F H R ha hn hL hs q => by
  have := q.ok hs (Nat.zero_le _)
  rwa [List.append_nil] at this
theorem ej_cons {ta : TE} {tr : TJ} {k : Nat} {r r' : Mo (List Nat)} (h : EvF K ta E L r tyStr) (hr : EvJ K k tr E L r') : EvJ K (k + 1) (tJ1 ta tr) E L (r.bind fun a => .grd (a.length ≤ 1000) (r'.bind fun l => .ok (a ++ l))) := by
  intro n acc σ F H R ha hn hL hs q
  refine h σ F H _ hL hs (q.bind.imp fun a F1 H1 x1 k1 v hv => ?_)
  cases hv
  obtain ⟨hz, k1⟩ := k1.grd
  have e : ((⟨acc.toArray⟩ : Str) ++ (⟨a.toArray⟩ : Str)) = ⟨(acc ++ a).toArray⟩ := by
    show (⟨acc.toArray ++ a.toArray⟩ : Str) = _
    simp
  show ((⟨acc.toArray⟩ : Str) ++ (⟨a.toArray⟩ : Str)).length ≤ sizeLine ∧ tr ((⟨acc.toArray⟩ : Str) ++ (⟨a.toArray⟩ : Str)) σ H1 R
  rw [e]
  refine ⟨by show (acc ++ a).toArray.size ≤ sizeLine; rw [List.size_toArray, List.length_append, sizeLine_eq]; omega, hr (n + 1) (acc ++ a) σ F1 H1 R (by rw [List.length_append]; omega) (by omega) (hL.mono x1.1) x1.2.1 (k1.bind.imp fun l F2 H2 x2 k2 hl => ?_)⟩
  have := k2.ok x2.2.1 (by rw [List.length_append]; omega)
  rwa [← List.append_assoc] at this
theorem ev_joined {tj : TJ} {k : Nat} {r : Mo (List Nat)} (h : EvJ K k tj E L r) (hk : k ≤ 80 := by decide) : EvF K (tJoin tj) E L r tyStr := by
  intro σ F H Q hL hs q
  refine h 0 [] σ F H _ (by simp) (by omega) hL hs (q.imp fun l F' H' x k1 hl => ?_)
  rw [List.nil_append]
  exact ⟨by show l.toArray.size ≤ sizeLine; rw [List.size_toArray, sizeLine_eq]; omega, k1 _ rfl⟩
theorem ev_fmtS {r : Mo (List Nat)} (h : EvF K e E L r tyStr) : EvF K (tUn mFmt e) E L (r.bind fun l => .lim l.length (.ok l)) tyStr := by
  intro σ F H Q hL hs q
  refine h σ F H _ hL hs (q.bind.imp fun l F1 H1 x1 k1 v hv => ?_)
  cases hv
  obtain ⟨hz, k1⟩ := k1.lim
  exact ⟨by show l.toArray.size ≤ sizeLine; rw [List.size_toArray]; exact hz, k1.ok x1.2.1 _ rfl⟩
theorem ev_fmtI {r : Mo Int} (h : EvF K e E L r tyInt) : EvF K (tUn mFmt e) E L (r.bind fun i => .grd (i.natAbs.log2 < 1920) (.ok (strI i))) tyStr := by
  intro σ F H Q hL hs q
  refine h σ F H _ hL hs (q.bind.imp fun l F1 H1 x1 k1 v hv => ?_)
  cases hv
  obtain ⟨hz, k1⟩ := k1.grd
  exact ⟨hz, k1.ok x1.2.1 _ rfl⟩
end
end L2
namespace L2
open PySem PySem.Spec PyProof.Rows
theorem ev_lst0N {K : PySem.W.Frag} {E : XK} {α : Type} {L : List Sl} (T : Ty α) : EvO K (tLst tNil) E L (.ok ([] : List (List α))) (owLL T) := by
  intro σ F H Q hL hs q
  refine ⟨Nat.zero_le _, fun p hp => ?_⟩
  have xx : Ext F H F (upd H p (.lst [])) := ⟨Same.refl _, fun b o z => by rw [upd_ne (fun e => by rw [e] at z; have := hs _ _ z; rw [hp] at this; cases this)]; exact hs _ _ z, fun b o z => by rw [upd_ne (fun e => by rw [e, hp] at z; cases z)]; exact z, fun b a c => absurd a c⟩
  refine q F _ xx (.ref p) (one p (.lst [])) (fun b z => ?_) (fun b => ?_) (fun b o z => ?_) ⟨p, [], fun _ => none, rfl, fun _ => .inr ⟨rfl, rfl⟩, fun _ => rfl⟩
  · unfold one at z
    split at z
    · rename_i e; rw [e]; exact hp
    · exact absurd rfl z
  · unfold one
    split
    · rename_i e; left; rw [e]; exact hs.free hp
    · exact .inr rfl
  · unfold one at z
    split at z
    · rename_i e; rw [e, upd_same]; exact z
    · cases z
end L2
namespace L2
open PySem PySem.Spec PyProof.Rows
section
variable {prog : Program} {w : World} {A : Around} {E : Value → Shared → Prop} {s : Shared}
theorem parts2 {l : Addr} {x y : Value} {Q : List Value → Shared → Prop} (hA : A.handled = none) (hl : s.heap.IsList l #[x, y]) (q : ∀ h1, Heap.ExtBut s.heap.objs.size s.heap h1 → Q [x, y] { s with heap := h1 }) :
    wpAny (model prog w) A (unpackItems (.ref l) 2 none) Q E s := by
  have ne : l ≠ s.heap.objs.size := by obtain ⟨o, ho, _⟩ := hl; exact Nat.ne_of_lt (Heap.lt_size ho)
  unfold unpackItems notIterableAtAll
  refine wpAny_bind (wpAny_bind (wpAny_specialOf hl.typeIs slot_list_iter.lookup (wpAny_pure ?_)))
  rw [if_neg (by decide)]
  refine wpAny_bind (wpAny_holding (wpAny_pyIter_list hl ?_))
  have i0 : Heap.IsListIter (s.heap.push { cls := .type "list_iterator", data := .fields #[.ref l, .int 0 0] }) s.heap.objs.size l 0 := ⟨_, Heap.get?_push_size _ rfl, rfl, rfl⟩
  refine wpAny_bind (wpAny_holding ?_)
  show wpAny _ _ (pyNext _ >>= _) _ _ _; refine wpAny_bind (wpAny_pyNext_list_item i0 (hl.push _) rfl fun h1 i1 e1 => ?_)
  have l1 : h1.IsList l #[x, y] := (hl.push _).extBut e1.extBut ne
  refine wpAny_bind (wpAny_holding ?_)
  show wpAny _ _ (pyNext _ >>= _) _ _ _; refine wpAny_bind (wpAny_pyNext_list_item (s := { s with heap := h1 }) i1 l1 rfl fun h2 i2 e2 => ?_)
  have l2 : h2.IsList l #[x, y] := l1.extBut e2.extBut ne
  refine wpAny_bind (wpAny_holding (wpAny_pure (wpAny_pure (wpAny_pure ?_))))
  rw [if_neg (by simp)]
  refine wpAny_bind (wpAny_holding (wpAny_pyNext_list_end (s := { s with heap := h2 }) hA i2 l2 rfl fun h3 e3 => ?_))
  exact wpAny_pure (q h3 fun b o hb e => e3 b o hb (e2.extBut b o hb (e1.extBut b o hb (Heap.get?_push_of_some _ e))))
end
section
variable {X : Cx}
def gLst2 (K : PySem.W.Frag) (t : TGs) : TG := fun v σ H Q => match v with | .ref a => ∃ x y, SqL K H a [x, y] ∧ t [x, y] σ H Q | _ => False
theorem pg_lst2 {es : List Expr} {k : Nat} {t : TGs} {pos : Pos} (hc : X.calm = true) (h : PGs X es t)
    (hn : (assignEach es X.env).length = 2 := by rfl) (hst : (assignEach es X.env).findIdx? (·.1) = none := by rfl) : PG X (.Tuple es k pos) (gLst2 X.K t) := by
  intro pins s σ H v u Q I r hw
  cases v with
  | ref a =>
    obtain ⟨x, y, hq, hw⟩ := hw
    cases r
    obtain ⟨its, rv, hp, _⟩ := I.list hq
    obtain ⟨x', y', rfl⟩ : ∃ x' y', its = [x', y'] := by
      have := rv.length
      match its, this with  
      | [x', y'], _ => exact ⟨x', y', rfl⟩
    rw [PyProof.Rows.assign_Tuple]
    refine wpAny_bind (wpAny_standAt ?_)
    unfold unpack
    rw [hn, hst]
    refine wpAny_bind (wpAny_holding (parts2 (I.ok.hd hc) hp.isList fun h1 hx => ?_))
    have I1 : Inv X pins σ H { s with heap := h1 } := I.kept (t' := s.toks) fun b o e => hx b o (Nat.ne_of_lt (Heap.lt_size e)) e
    exact h pins _ σ H _ _ Q I1 rv hw
  | _ => exact hw.elim
end
section
variable {K : PySem.W.Frag} {E : XK} {α β γ ρ S B : Type} {F H : Hp} {L : List Sl} {e : TE} {T : Ty α}
def two2 (xs : List α) : Option (α × α) := match xs with | [a, b] => some (a, b) | _ => none
def twos : List (List α) → Option (List (α × α))
  | [] => some []
  | x :: xs => match two2 x, twos xs with | some c, some r => some (c :: r) | _, _ => none
theorem twos_at : ∀ {l : List (List α)} {ps : List (α × α)}, twos l = some ps → ps.length = l.length ∧ ∀ (i : Nat) (c : α × α), ps[i]? = some c → l[i]? = some [c.1, c.2]
  | [], ps, h => by cases h; exact ⟨rfl, fun i c h => by simp at h⟩
  | x :: xs, ps, h => by
    unfold twos at h
    split at h
    · rename_i c r e1 e2
      cases h
      obtain ⟨a, b⟩ := twos_at e2
      have ex : x = [c.1, c.2] := by
        unfold two2 at e1
        split at e1
        · cases e1; rfl
        · cases e1
      refine ⟨by rw [List.length_cons, List.length_cons, a], fun i d h => ?_⟩
      cases i with
      | zero => rw [List.getElem?_cons_zero] at h ⊢; cases h; rw [ex]
      | succ i => rw [List.getElem?_cons_succ] at h ⊢; exact b i d h
    · cases h
abbrev tyP2 (T : Ty α) : Ty (α × α) := ⟨fun c v H => ∃ p x y, v = .ref p ∧ H p = some (.lst [x, y]) ∧ T.R c.1 x H ∧ T.R c.2 y H, fun g ⟨p, x, y, e, h, q, r⟩ => ⟨p, x, y, e, g _ _ h, T.mono g q, T.mono g r⟩⟩
theorem ei_twos {wi : TI} {r : Mo (List (List α))} (h : EvI K wi E L r (tyL T)) : EvI K wi E L (r.bind fun l => .opt (twos l)) (tyP2 T) := by
  intro σ F H R hL hs q
  refine h σ F H R hL hs (q.bind.imp fun l F1 H1 x1 k1 J Y => ?_)
  obtain ⟨ps, e, k1⟩ := k1.opt
  obtain ⟨e1, e2⟩ := twos_at e
  refine k1.ok x1.2.1 J ⟨fun i H c hH hx => ?_, fun H hH => by rw [e1]; exact Y.stop H hH⟩
  obtain ⟨g1, g2⟩ := Y.go i H _ hH (e2 i c hx)
  refine ⟨g1, fun v H' hy F hF hS => ?_⟩
  obtain ⟨F', x, p, vs, rfl, hp, hr⟩ := g2 v H' hy F hF hS
  cases hr with
  | cons a b =>
    cases b with
    | cons b d => cases d; exact ⟨F', x, p, _, _, rfl, hp, a, b⟩
theorem tg_two {i j : Nat} : TgR K (gLst2 K (gConsM (gName i) (gConsM (gName j) gNilM))) (tyP2 T) fun c => [(i, .fz T c.1), (j, .fz T c.2)] := by
  rintro a v σ F H Q hs ⟨p, x, y, rfl, hp, hx, hy⟩ q
  exact ⟨x, y, .of (hs _ _ hp), q [(i, some x), (j, some y)] (.cons hx (.cons hy .nil))⟩
end
end L2
namespace K29
open PySem PySem.Spec PyProof.Rows L2
def b_law_sorted (p_wires_here : (List (Int × Int))) : Mo (Out (List (Int × Int)) Unit Unit) :=
  (Mo.bind (Mo.bind (Mo.bind (Mo.bind (Mo.ok p_wires_here) fun xs_6 => compM (fun x_1 => cond1 (Mo.ok true) (Mo.bind (Mo.bind (Mo.ok x_1) fun a_2 => Mo.ok a_2.2) fun a_4 => Mo.bind (Mo.bind (Mo.ok x_1) fun a_3 => Mo.ok a_3.1) fun c_5 => Mo.ok (a_4, c_5))) xs_6 []) fun c_7 => Mo.grd (c_7.length < 64) (Mo.ok (srtL (lxP ltI ltI) c_7))) fun xs_11 => compM (fun x_8 => cond1 (Mo.ok true) (Mo.bind (Mo.ok x_8.2) fun a_9 => Mo.bind (Mo.ok x_8.1) fun c_10 => Mo.ok (a_9, c_10))) xs_11 []) fun r_12 => Mo.ok (.rt r_12))
def f_law_sorted (p_wires_here : (List (Int × Int))) : Mo (List (Int × Int)) := fnO (b_law_sorted p_wires_here)
def b_law_cell_at (p_script : (List Int)) (p_k : Int) : Mo (Out Int Unit Unit) :=
  (thenO (S := Unit) (Mo.bind (Mo.bind (Mo.ok p_k) fun a_2 => Mo.bind (Mo.bind (Mo.ok p_script) fun c_1 => Mo.ok (c_1.length : Int)) fun b_3 => Mo.ok (decide (a_2 < b_3))) fun c_4 => if c_4 then (Mo.bind (Mo.bind (Mo.ok p_script) fun a_6 => Mo.bind (Mo.ok p_k) fun b_7 => Mo.opt (atI a_6 b_7)) fun r_8 => Mo.ok (.rt r_8)) else (Mo.ok (.nx ()))) fun _ => (Mo.bind (Mo.ok (0 : Int)) fun r_9 => Mo.ok (.rt r_9)))
def f_law_cell_at (p_script : (List Int)) (p_k : Int) : Mo Int := fnO (b_law_cell_at p_script p_k)
def b_law_pieces (p_board : (List (Int × Int))) : Mo (Out (List (List (Int × Int))) Unit Unit) :=
  (Mo.bind (Mo.ok ([] : (List (List (Int × Int))))) fun pieces_here_1 => (thenO (S := (List (List (Int × Int)))) (Mo.bind (Mo.ok p_board) fun xs_40 => forO (fun (s_2 : (List (List (Int × Int)))) x_3 => (thenO (S := (List (List (Int × Int)))) (Mo.bind (Mo.bind (Mo.bind (Mo.ok s_2) fun a_4 => Mo.bind (Mo.ok ([] : List (List (Int × Int)))) fun b_5 => Mo.ok (!((eqL (eqL (fun a b => (fun a b => decide (a = b)) a.1 b.1 && (fun a b => decide (a = b)) a.2 b.2))) a_4 b_5))) fun c_26 => if c_26 then (Mo.bind (Mo.ok x_3) fun a_24 => Mo.bind (Mo.bind (Mo.bind (Mo.bind (Mo.bind (Mo.bind (Mo.ok s_2) fun a_7 => Mo.bind (Mo.bind (Mo.ok (1 : Int)) fun a_6 => Mo.ok (-a_6)) fun b_8 => Mo.opt (atI a_7 b_8)) fun a_9 => Mo.bind (Mo.ok (1 : Int)) fun b_10 => Mo.opt (atI a_9 b_10)) fun a_11 => Mo.ok a_11.1) fun a_12 => Mo.bind (Mo.ok (1 : Int)) fun b_13 => Mo.ok (a_12 + b_13)) fun a_22 => Mo.bind (Mo.bind (Mo.bind (Mo.bind (Mo.bind (Mo.ok s_2) fun a_15 => Mo.bind (Mo.bind (Mo.ok (1 : Int)) fun a_14 => Mo.ok (-a_14)) fun b_16 => Mo.opt (atI a_15 b_16)) fun a_17 => Mo.bind (Mo.ok (1 : Int)) fun b_18 => Mo.opt (atI a_17 b_18)) fun a_19 => Mo.ok a_19.2) fun a_20 => Mo.bind (Mo.ok (1 : Int)) fun b_21 => Mo.ok (a_20 + b_21)) fun c_23 => Mo.ok (a_22, c_23)) fun b_25 => Mo.ok (((fun a b => (fun a b => decide (a = b)) a.1 b.1 && (fun a b => decide (a = b)) a.2 b.2) a_24 b_25))) else Mo.ok false) fun c_27 => if c_27 then (Mo.bind (Mo.ok x_3) fun a_30 => Mo.bind (Mo.bind (Mo.ok (1 : Int)) fun a_29 => Mo.ok (-a_29)) fun j_31 => Mo.bind (Mo.opt (ixN (s_2).length j_31)) fun n_32 => Mo.bind (Mo.ok (1 : Int)) fun m_33 => Mo.bind (Mo.opt ((ixN ((s_2)[n_32]?.getD []).length m_33).map fun b_34 => (s_2).set n_32 (((s_2)[n_32]?.getD []).set b_34 a_30))) fun y_35 => (Mo.ok (.nx y_35))) else (Mo.bind (Mo.bind (Mo.bind (Mo.ok x_3) fun a_36 => Mo.bind (Mo.ok x_3) fun c_37 => Mo.ok (a_36, c_37)) fun c_38 => Mo.ok [c_38.1, c_38.2]) fun a_39 => Mo.lim (s_2.length + 1) (Mo.ok (.nx (s_2 ++ [a_39]))))) fun s_28 => (Mo.ok (.nx s_28)))) xs_40 pieces_here_1) fun s_2 => (Mo.ok (.rt s_2))))
def f_law_pieces (p_board : (List (Int × Int))) : Mo (List (List (Int × Int))) := fnO (b_law_pieces p_board)
def b_law_cut (p_pieces_here : (List (List (Int × Int)))) (p_bits : Int) : Mo (Out (List (List (Int × Int))) Unit Unit) :=
  (Mo.bind (Mo.ok ([] : List (List (Int × Int)))) fun found_1 => (thenO (S := ((List (List (Int × Int))) × Int)) (Mo.bind (Mo.bind (Mo.ok p_pieces_here) fun l_3 => Mo.opt (twos l_3)) fun xs_69 => forO (fun (s_2 : ((List (List (Int × Int))) × Int)) x_4 => (Mo.bind (Mo.bind (Mo.bind (Mo.bind (Mo.ok x_4.2) fun a_6 => Mo.ok a_6.1) fun a_8 => Mo.bind (Mo.bind (Mo.ok x_4.1) fun a_7 => Mo.ok a_7.1) fun b_9 => Mo.ok (a_8 - b_9)) fun a_10 => Mo.bind (Mo.ok (1 : Int)) fun b_11 => Mo.ok (a_10 + b_11)) fun many_5 => (Mo.bind (Mo.ok (0 : Int)) fun at_12 => (thenO (S := Int) (Mo.bind (Mo.bind (Mo.bind (Mo.ok s_2.2) fun a_13 => Mo.bind (Mo.ok (3 : Int)) fun b_14 => Mo.grd (0 < b_14) (Mo.ok (a_13 % b_14))) fun a_15 => Mo.bind (Mo.ok (1 : Int)) fun b_16 => Mo.ok (decide (a_15 = b_16))) fun c_17 => if c_17 then (Mo.bind (Mo.bind (Mo.ok many_5) fun a_20 => Mo.bind (Mo.ok (2 : Int)) fun b_21 => Mo.grd (CDivG a_20 b_21) (Mo.ok (a_20 / b_21))) fun at_19 => (Mo.ok (.nx at_19))) else (Mo.ok (.nx at_12))) fun s_18 => (thenO (S := Int) (Mo.bind (Mo.bind (Mo.bind (Mo.ok s_2.2) fun a_22 => Mo.bind (Mo.ok (3 : Int)) fun b_23 => Mo.grd (0 < b_23) (Mo.ok (a_22 % b_23))) fun a_24 => Mo.bind (Mo.ok (2 : Int)) fun b_25 => Mo.ok (decide (a_24 = b_25))) fun c_26 => if c_26 then (Mo.bind (Mo.bind (Mo.bind (Mo.ok (1 : Int)) fun a_31 => Mo.bind (Mo.bind (Mo.ok many_5) fun a_29 => Mo.bind (Mo.ok (1 : Int)) fun b_30 => Mo.ok (a_29 - b_30)) fun c_32 => Mo.ok (a_31, c_32)) fun c_33 => Mo.ok (min c_33.1 c_33.2)) fun at_28 => (Mo.ok (.nx at_28))) else (Mo.ok (.nx s_18))) fun s_27 => (thenO (S := (List (List (Int × Int)))) (Mo.bind (Mo.bind (Mo.ok s_27) fun a_34 => Mo.bind (Mo.ok (0 : Int)) fun b_35 => Mo.ok (decide (b_35 < a_34))) fun c_36 => if c_36 then (Mo.bind (Mo.bind (Mo.bind (Mo.ok x_4.1) fun a_50 => Mo.bind (Mo.bind (Mo.bind (Mo.bind (Mo.bind (Mo.ok x_4.1) fun a_38 => Mo.ok a_38.1) fun a_39 => Mo.bind (Mo.ok s_27) fun b_40 => Mo.ok (a_39 + b_40)) fun a_41 => Mo.bind (Mo.ok (1 : Int)) fun b_42 => Mo.ok (a_41 - b_42)) fun a_48 => Mo.bind (Mo.bind (Mo.bind (Mo.bind (Mo.ok x_4.1) fun a_43 => Mo.ok a_43.2) fun a_44 => Mo.bind (Mo.ok s_27) fun b_45 => Mo.ok (a_44 + b_45)) fun a_46 => Mo.bind (Mo.ok (1 : Int)) fun b_47 => Mo.ok (a_46 - b_47)) fun c_49 => Mo.ok (a_48, c_49)) fun c_51 => Mo.ok (a_50, c_51)) fun c_52 => Mo.ok [c_52.1, c_52.2]) fun a_53 => Mo.lim (s_2.1.length + 1) (Mo.ok (.nx (s_2.1 ++ [a_53])))) else (Mo.ok (.nx s_2.1))) fun s_37 => (Mo.bind (Mo.bind (Mo.bind (Mo.bind (Mo.bind (Mo.bind (Mo.ok x_4.1) fun a_54 => Mo.ok a_54.1) fun a_55 => Mo.bind (Mo.ok s_27) fun b_56 => Mo.ok (a_55 + b_56)) fun a_60 => Mo.bind (Mo.bind (Mo.bind (Mo.ok x_4.1) fun a_57 => Mo.ok a_57.2) fun a_58 => Mo.bind (Mo.ok s_27) fun b_59 => Mo.ok (a_58 + b_59)) fun c_61 => Mo.ok (a_60, c_61)) fun a_62 => Mo.bind (Mo.ok x_4.2) fun c_63 => Mo.ok (a_62, c_63)) fun c_64 => Mo.ok [c_64.1, c_64.2]) fun a_65 => Mo.lim (s_37.length + 1) (Mo.bind (Mo.bind (Mo.ok s_2.2) fun a_67 => Mo.bind (Mo.ok (3 : Int)) fun b_68 => Mo.grd (CDivG a_67 b_68) (Mo.ok (a_67 / b_68))) fun bits_66 => (Mo.ok (.nx ((s_37 ++ [a_65]), bits_66))))))))))) xs_69 (found_1, p_bits)) fun s_2 => (Mo.ok (.rt s_2.1))))
def f_law_cut (p_pieces_here : (List (List (Int × Int)))) (p_bits : Int) : Mo (List (List (Int × Int))) := fnO (b_law_cut p_pieces_here p_bits)
def b_is_whole (p_value : Int) : Mo (Out Bool Unit Unit) :=
  (Mo.bind (Mo.bind (Mo.bind (Mo.ok p_value) fun a_1 => Mo.ok true) fun c_4 => if c_4 then (Mo.bind (Mo.bind (Mo.ok p_value) fun a_2 => Mo.ok false) fun a_3 => Mo.ok (!a_3)) else Mo.ok false) fun r_5 => Mo.ok (.rt r_5))
def f_is_whole (p_value : Int) : Mo Bool := fnO (b_is_whole p_value)
def b_is_column (p_value : Int) (p_most : Int) : Mo (Out Bool Unit Unit) :=
  (Mo.bind (Mo.bind (Mo.bind (Mo.ok p_value) fun c_1 => Mo.noex (f_is_whole c_1)) fun c_7 => if c_7 then (Mo.bind (Mo.ok (1 : Int)) fun v_2 => Mo.bind (Mo.ok p_value) fun v_3 => Mo.bind (Mo.ok (decide (v_2 ≤ v_3))) fun c_5 => if c_5 then Mo.bind (Mo.ok p_most) fun v_4 => Mo.ok (decide (v_3 ≤ v_4)) else Mo.ok false) else Mo.ok false) fun r_8 => Mo.ok (.rt r_8))
def f_is_column (p_value : Int) (p_most : Int) : Mo Bool := fnO (b_is_column p_value p_most)
def b_make_board (p_wires : (List (Int × Int))) : Mo (Out (List (Int × Int)) Unit Unit) :=
  (thenO (S := Unit) (Mo.bind (Mo.ok p_wires) fun xs_15 => forO (fun (_ : Unit) x_2 => (Mo.bind (Mo.bind (Mo.bind (Mo.bind (Mo.bind (Mo.bind (Mo.ok x_2) fun a_3 => Mo.ok a_3.1) fun a_4 => Mo.bind (Mo.ok (40 : Int)) fun c_5 => Mo.ok (a_4, c_5)) fun c_6 => Mo.noex (f_is_column c_6.1 c_6.2)) fun a_7 => Mo.ok (!a_7)) fun c_13 => if c_13 then Mo.ok true else (Mo.bind (Mo.bind (Mo.bind (Mo.bind (Mo.ok x_2) fun a_8 => Mo.ok a_8.2) fun a_9 => Mo.bind (Mo.ok (36 : Int)) fun c_10 => Mo.ok (a_9, c_10)) fun c_11 => Mo.noex (f_is_column c_11.1 c_11.2)) fun a_12 => Mo.ok (!a_12))) fun c_14 => if c_14 then Mo.no else (Mo.ok (.nx ())))) xs_15 ()) fun _ => (Mo.bind (Mo.ok ([] : (List (Int × (Int × Int))))) fun leading_16 => (thenO (S := (List (Int × (Int × Int)))) (Mo.bind (Mo.ok p_wires) fun xs_27 => forO (fun (s_17 : (List (Int × (Int × Int)))) x_18 => (thenO (S := Unit) (Mo.bind (Mo.bind (Mo.bind (Mo.ok x_18) fun a_19 => Mo.ok a_19.2) fun a_20 => Mo.bind (Mo.ok s_17) fun b_21 => Mo.ok (if false then !(getA b_21 a_20).isSome else (getA b_21 a_20).isSome)) fun c_22 => if c_22 then Mo.no else (Mo.ok (.nx ()))) fun _ => (Mo.bind (Mo.ok x_18) fun a_25 => Mo.bind (Mo.bind (Mo.ok x_18) fun a_24 => Mo.ok a_24.2) fun y_26 => Mo.lim (s_17.length + 1) (Mo.ok (.nx (putA s_17 y_26 a_25)))))) xs_27 leading_16) fun s_17 => (Mo.bind (Mo.bind (Mo.bind (Mo.ok s_17) fun c_28 => Mo.grd (c_28.length < 64) (Mo.ok (srtL ltI (c_28.map (·.1))))) fun xs_32 => compM (fun x_29 => cond1 (Mo.ok true) (Mo.bind (Mo.ok s_17) fun a_30 => Mo.bind (Mo.ok x_29) fun b_31 => Mo.opt (getA a_30 b_31))) xs_32 []) fun r_33 => Mo.ok (.rt r_33)))))
def f_make_board (p_wires : (List (Int × Int))) : Mo (List (Int × Int)) := fnO (b_make_board p_wires)
def b_number_by (p_figures : (List Nat)) : Mo (Out Int Unit Unit) :=
  (Mo.bind (Mo.ok (0 : Int)) fun value_1 => (thenO (S := Int) (Mo.bind (Mo.bind (Mo.ok p_figures) fun a_3 => Mo.ok (a_3.map fun c => [c])) fun xs_12 => forO (fun (s_2 : Int) x_4 => (Mo.bind (Mo.bind (Mo.bind (Mo.ok s_2) fun a_6 => Mo.bind (Mo.ok (10 : Int)) fun b_7 => Mo.grd (IntMulOk a_6 b_7) (Mo.ok (a_6 * b_7))) fun a_10 => Mo.bind (Mo.bind (Mo.ok ([48, 49, 50, 51, 52, 53, 54, 55, 56, 57] : List Nat)) fun a_8 => Mo.bind (Mo.ok x_4) fun b_9 => Mo.grd (findS a_8 b_9 ≠ -1) (Mo.ok (findS a_8 b_9))) fun b_11 => Mo.ok (a_10 + b_11)) fun value_5 => (Mo.ok (.nx value_5)))) xs_12 value_1) fun s_2 => (Mo.bind (Mo.ok s_2) fun r_13 => Mo.ok (.rt r_13))))
def f_number_by (p_figures : (List Nat)) : Mo Int := fnO (b_number_by p_figures)
def b_read_whole (p_text : (List Nat)) : Mo (Out (Option Int) Unit Unit) :=
  (thenO (S := Unit) (Mo.bind (Mo.bind (Mo.bind (Mo.ok p_text) fun a_1 => Mo.bind (Mo.ok ([] : List Nat)) fun b_2 => Mo.ok (decide (a_1 = b_2))) fun c_10 => if c_10 then Mo.ok true else (Mo.bind (Mo.bind (Mo.bind (Mo.bind (Mo.ok p_text) fun a_3 => Mo.ok (a_3.map fun c => [c])) fun xs_7 => compM (fun x_4 => cond1 (Mo.ok true) (Mo.bind (Mo.ok x_4) fun a_5 => Mo.bind (Mo.ok ([48, 49, 50, 51, 52, 53, 54, 55, 56, 57] : List Nat)) fun b_6 => Mo.ok (inS a_5 b_6))) xs_7 []) fun c_8 => Mo.ok (c_8.all id)) fun a_9 => Mo.ok (!a_9))) fun c_11 => if c_11 then (Mo.bind (Mo.ok (none : (Option Int))) fun r_13 => Mo.ok (.rt r_13)) else (Mo.ok (.nx ()))) fun _ => (thenO (S := Unit) (Mo.bind (Mo.bind (Mo.bind (Mo.bind (Mo.ok p_text) fun a_14 => Mo.bind (Mo.ok (0 : Int)) fun b_15 => Mo.lim a_14.length (Mo.opt ((atI a_14 b_15).map fun c => [c]))) fun a_16 => Mo.bind (Mo.ok ([48] : List Nat)) fun b_17 => Mo.ok (decide (a_16 = b_17))) fun c_20 => if c_20 then (Mo.bind (Mo.ok p_text) fun a_18 => Mo.bind (Mo.ok ([48] : List Nat)) fun b_19 => Mo.ok (!decide (a_18 = b_19))) else Mo.ok false) fun c_21 => if c_21 then (Mo.bind (Mo.ok (none : (Option Int))) fun r_23 => Mo.ok (.rt r_23)) else (Mo.ok (.nx ()))) fun _ => (Mo.bind (Mo.bind (Mo.bind (Mo.ok p_text) fun c_24 => Mo.noex (f_number_by c_24)) fun a_25 => Mo.ok (some a_25)) fun r_26 => Mo.ok (.rt r_26))))
def f_read_whole (p_text : (List Nat)) : Mo (Option Int) := fnO (b_read_whole p_text)
def b_read_span (p_text : (List Nat)) (p_most : Int) : Mo (Out ((Option Int) × (Option Int)) Unit Unit) :=
  (Mo.bind (Mo.bind (Mo.bind (Mo.ok p_text) fun a_2 => Mo.bind (Mo.ok ([45] : List Nat)) fun b_3 => Mo.grd (a_2.length ≤ 100000 ∧ b_3 ≠ []) (Mo.ok (splitG b_3 a_2))) fun xs_6 => compM (fun x_4 => cond1 (Mo.ok true) (Mo.bind (Mo.ok x_4) fun c_5 => Mo.noex (f_read_whole c_5))) xs_6 []) fun columns_1 => (thenO (S := Unit) (Mo.bind (Mo.bind (Mo.bind (Mo.ok (none : Option Int)) fun a_7 => Mo.bind (Mo.ok columns_1) fun b_8 => Mo.ok ((b_8.any fun y => decide (y = a_7)))) fun c_12 => if c_12 then Mo.ok true else (Mo.bind (Mo.bind (Mo.ok columns_1) fun c_9 => Mo.ok (c_9.length : Int)) fun a_10 => Mo.bind (Mo.ok (2 : Int)) fun b_11 => Mo.ok (decide (b_11 < a_10)))) fun c_13 => if c_13 then Mo.no else (Mo.ok (.nx ()))) fun _ => (thenO (S := Unit) (Mo.bind (Mo.bind (Mo.bind (Mo.bind (Mo.ok columns_1) fun c_15 => Mo.ok (c_15.length : Int)) fun a_16 => Mo.bind (Mo.ok (2 : Int)) fun b_17 => Mo.ok (decide (a_16 = b_17))) fun c_26 => if c_26 then (Mo.bind (Mo.bind (Mo.bind (Mo.ok columns_1) fun a_18 => Mo.bind (Mo.ok (0 : Int)) fun b_19 => Mo.opt (atI a_18 b_19)) fun a_20 => Mo.opt a_20) fun a_24 => Mo.bind (Mo.bind (Mo.bind (Mo.ok columns_1) fun a_21 => Mo.bind (Mo.ok (1 : Int)) fun b_22 => Mo.opt (atI a_21 b_22)) fun a_23 => Mo.opt a_23) fun b_25 => Mo.ok (decide (b_25 ≤ a_24))) else Mo.ok false) fun c_27 => if c_27 then Mo.no else (Mo.ok (.nx ()))) fun _ => (thenO (S := Unit) (Mo.bind (Mo.bind (Mo.bind (Mo.bind (Mo.bind (Mo.ok columns_1) fun a_29 => Mo.bind (Mo.ok (0 : Int)) fun b_30 => Mo.opt (atI a_29 b_30)) fun a_31 => Mo.opt a_31) fun a_32 => Mo.bind (Mo.ok (1 : Int)) fun b_33 => Mo.ok (decide (a_32 < b_33))) fun c_40 => if c_40 then Mo.ok true else (Mo.bind (Mo.bind (Mo.bind (Mo.ok columns_1) fun a_35 => Mo.bind (Mo.bind (Mo.ok (1 : Int)) fun a_34 => Mo.ok (-a_34)) fun b_36 => Mo.opt (atI a_35 b_36)) fun a_37 => Mo.opt a_37) fun a_38 => Mo.bind (Mo.ok p_most) fun b_39 => Mo.ok (decide (b_39 < a_38)))) fun c_41 => if c_41 then Mo.no else (Mo.ok (.nx ()))) fun _ => (Mo.bind (Mo.bind (Mo.bind (Mo.ok columns_1) fun a_43 => Mo.bind (Mo.ok (0 : Int)) fun b_44 => Mo.opt (atI a_43 b_44)) fun a_48 => Mo.bind (Mo.bind (Mo.ok columns_1) fun a_46 => Mo.bind (Mo.bind (Mo.ok (1 : Int)) fun a_45 => Mo.ok (-a_45)) fun b_47 => Mo.opt (atI a_46 b_47)) fun c_49 => Mo.ok (a_48, c_49)) fun r_50 => Mo.ok (.rt r_50))))))
def f_read_span (p_text : (List Nat)) (p_most : Int) : Mo ((Option Int) × (Option Int)) := fnO (b_read_span p_text p_most)
def b_read_piece (p_text : (List Nat)) : Mo (Out (List (Int × Int)) Unit Unit) :=
  (Mo.bind (Mo.bind (Mo.ok p_text) fun a_2 => Mo.bind (Mo.ok ([62] : List Nat)) fun b_3 => Mo.grd (a_2.length ≤ 100000 ∧ b_3 ≠ []) (Mo.ok (splitG b_3 a_2))) fun ends_1 => (thenO (S := Unit) (Mo.bind (Mo.bind (Mo.bind (Mo.ok ends_1) fun c_4 => Mo.ok (c_4.length : Int)) fun a_5 => Mo.bind (Mo.ok (2 : Int)) fun b_6 => Mo.ok (!decide (a_5 = b_6))) fun c_7 => if c_7 then Mo.no else (Mo.ok (.nx ()))) fun _ => (Mo.bind (Mo.bind (Mo.bind (Mo.bind (Mo.ok ends_1) fun a_10 => Mo.bind (Mo.ok (0 : Int)) fun b_11 => Mo.opt (atI a_10 b_11)) fun a_12 => Mo.bind (Mo.ok (40 : Int)) fun c_13 => Mo.ok (a_12, c_13)) fun c_14 => f_read_span c_14.1 c_14.2) fun here_9 => (Mo.bind (Mo.bind (Mo.bind (Mo.bind (Mo.ok ends_1) fun a_16 => Mo.bind (Mo.ok (1 : Int)) fun b_17 => Mo.opt (atI a_16 b_17)) fun a_18 => Mo.bind (Mo.ok (36 : Int)) fun c_19 => Mo.ok (a_18, c_19)) fun c_20 => f_read_span c_20.1 c_20.2) fun there_15 => (thenO (S := Unit) (Mo.bind (Mo.bind (Mo.bind (Mo.bind (Mo.bind (Mo.ok here_9) fun a_21 => Mo.ok a_21.2) fun a_22 => Mo.opt a_22) fun a_25 => Mo.bind (Mo.bind (Mo.bind (Mo.ok here_9) fun a_23 => Mo.ok a_23.1) fun a_24 => Mo.opt a_24) fun b_26 => Mo.ok (a_25 - b_26)) fun a_33 => Mo.bind (Mo.bind (Mo.bind (Mo.bind (Mo.ok there_15) fun a_27 => Mo.ok a_27.2) fun a_28 => Mo.opt a_28) fun a_31 => Mo.bind (Mo.bind (Mo.bind (Mo.ok there_15) fun a_29 => Mo.ok a_29.1) fun a_30 => Mo.opt a_30) fun b_32 => Mo.ok (a_31 - b_32)) fun b_34 => Mo.ok (!decide (a_33 = b_34))) fun c_35 => if c_35 then Mo.no else (Mo.ok (.nx ()))) fun _ => (Mo.bind (Mo.bind (Mo.bind (Mo.bind (Mo.bind (Mo.bind (Mo.bind (Mo.ok here_9) fun a_37 => Mo.ok a_37.2) fun a_38 => Mo.opt a_38) fun a_41 => Mo.bind (Mo.bind (Mo.bind (Mo.ok here_9) fun a_39 => Mo.ok a_39.1) fun a_40 => Mo.opt a_40) fun b_42 => Mo.ok (a_41 - b_42)) fun a_43 => Mo.bind (Mo.ok (1 : Int)) fun b_44 => Mo.ok (a_43 + b_44)) fun c_45 => Mo.grd (-(2 ^ 62) ≤ c_45 ∧ c_45 < 2 ^ 62) (Mo.ok (rngI 0 c_45.toNat))) fun xs_57 => compM (fun x_46 => cond1 (Mo.ok true) (Mo.bind (Mo.bind (Mo.bind (Mo.bind (Mo.ok here_9) fun a_47 => Mo.ok a_47.1) fun a_48 => Mo.opt a_48) fun a_49 => Mo.bind (Mo.ok x_46) fun b_50 => Mo.ok (a_49 + b_50)) fun a_55 => Mo.bind (Mo.bind (Mo.bind (Mo.bind (Mo.ok there_15) fun a_51 => Mo.ok a_51.1) fun a_52 => Mo.opt a_52) fun a_53 => Mo.bind (Mo.ok x_46) fun b_54 => Mo.ok (a_53 + b_54)) fun c_56 => Mo.ok (a_55, c_56))) xs_57 []) fun r_58 => Mo.ok (.rt r_58)))))))
def f_read_piece (p_text : (List Nat)) : Mo (List (Int × Int)) := fnO (b_read_piece p_text)
def b_read_board (p_text : (List Nat)) : Mo (Out (List (Int × Int)) Unit Unit) :=
  (thenO (S := Unit) (Mo.bind (Mo.bind (Mo.ok p_text) fun a_1 => Mo.bind (Mo.ok ([] : List Nat)) fun b_2 => Mo.ok (decide (a_1 = b_2))) fun c_3 => if c_3 then (Mo.bind (Mo.ok ([] : List (Int × Int))) fun r_5 => Mo.ok (.rt r_5)) else (Mo.ok (.nx ()))) fun _ => (Mo.bind (Mo.ok ([] : List (Int × Int))) fun wires_6 => (thenO (S := (List (Int × Int))) (Mo.bind (Mo.bind (Mo.ok p_text) fun a_8 => Mo.bind (Mo.ok ([44, 32] : List Nat)) fun b_9 => Mo.grd (a_8.length ≤ 100000 ∧ b_9 ≠ []) (Mo.ok (splitG b_9 a_8))) fun xs_13 => forO (fun (s_7 : (List (Int × Int))) x_10 => (Mo.bind (Mo.bind (Mo.ok x_10) fun c_11 => f_read_piece c_11) fun a_12 => Mo.lim (s_7.length + a_12.length) (Mo.ok (.nx (s_7 ++ a_12))))) xs_13 wires_6) fun s_7 => (Mo.bind (Mo.bind (Mo.ok s_7) fun c_14 => f_make_board c_14) fun r_15 => Mo.ok (.rt r_15)))))
def f_read_board (p_text : (List Nat)) : Mo (List (Int × Int)) := fnO (b_read_board p_text)
def b_law_wires (p_cells : (List Int)) (p_meeting : Bool) : Mo (Out (List (Int × Int)) Unit Unit) :=
  (Mo.bind (Mo.ok ([] : List (Int × Int))) fun wires_here_1 => (Mo.bind (Mo.ok ([] : List Int)) fun known_2 => (thenO (S := ((List (Int × Int)) × (List Int))) (Mo.bind (Mo.ok p_cells) fun xs_61 => forO (fun (s_3 : ((List (Int × Int)) × (List Int))) x_4 => (Mo.bind (Mo.bind (Mo.bind (Mo.bind (Mo.ok x_4) fun a_6 => Mo.bind (Mo.ok (2147483647 : Int)) fun b_7 => Mo.grd (0 < b_7) (Mo.ok (a_6 % b_7))) fun a_8 => Mo.bind (Mo.ok (48271 : Int)) fun b_9 => Mo.grd (IntMulOk a_8 b_9) (Mo.ok (a_8 * b_9))) fun a_10 => Mo.bind (Mo.ok (2147483629 : Int)) fun b_11 => Mo.grd (0 < b_11) (Mo.ok (a_10 % b_11))) fun number_5 => (Mo.bind (Mo.bind (Mo.ok (1 : Int)) fun a_15 => Mo.bind (Mo.bind (Mo.ok number_5) fun a_13 => Mo.bind (Mo.ok (40 : Int)) fun b_14 => Mo.grd (0 < b_14) (Mo.ok (a_13 % b_14))) fun b_16 => Mo.ok (a_15 + b_16)) fun here_12 => (Mo.bind (Mo.bind (Mo.ok (1 : Int)) fun a_22 => Mo.bind (Mo.bind (Mo.bind (Mo.ok number_5) fun a_18 => Mo.bind (Mo.ok (40 : Int)) fun b_19 => Mo.grd (CDivG a_18 b_19) (Mo.ok (a_18 / b_19))) fun a_20 => Mo.bind (Mo.ok (36 : Int)) fun b_21 => Mo.grd (0 < b_21) (Mo.ok (a_20 % b_21))) fun b_23 => Mo.ok (a_22 + b_23)) fun there_17 => (thenO (S := ((List (Int × Int)) × (List Int))) (Mo.bind (Mo.bind (Mo.bind (Mo.ok (1 : Int)) fun a_29 => Mo.bind (Mo.bind (Mo.bind (Mo.ok number_5) fun a_25 => Mo.bind (Mo.ok (1440 : Int)) fun b_26 => Mo.grd (CDivG a_25 b_26) (Mo.ok (a_25 / b_26))) fun a_27 => Mo.bind (Mo.ok (4 : Int)) fun b_28 => Mo.grd (0 < b_28) (Mo.ok (a_27 % b_28))) fun b_30 => Mo.ok (a_29 + b_30)) fun c_31 => Mo.grd (-(2 ^ 62) ≤ c_31 ∧ c_31 < 2 ^ 62) (Mo.ok (rngI 0 c_31.toNat))) fun xs_60 => forO (fun (s_24 : ((List (Int × Int)) × (List Int))) x_32 => (thenO (S := ((List (Int × Int)) × (List Int))) (Mo.bind (Mo.bind (Mo.bind (Mo.bind (Mo.ok here_12) fun a_33 => Mo.bind (Mo.ok x_32) fun b_34 => Mo.ok (a_33 + b_34)) fun a_35 => Mo.bind (Mo.ok (40 : Int)) fun b_36 => Mo.ok (decide (a_35 ≤ b_36))) fun c_47 => if c_47 then (Mo.bind (Mo.bind (Mo.bind (Mo.ok there_17) fun a_37 => Mo.bind (Mo.ok x_32) fun b_38 => Mo.ok (a_37 + b_38)) fun a_39 => Mo.bind (Mo.ok (36 : Int)) fun b_40 => Mo.ok (decide (a_39 ≤ b_40))) fun c_46 => if c_46 then (Mo.bind (Mo.ok p_meeting) fun c_45 => if c_45 then Mo.ok true else (Mo.bind (Mo.bind (Mo.ok there_17) fun a_41 => Mo.bind (Mo.ok x_32) fun b_42 => Mo.ok (a_41 + b_42)) fun a_43 => Mo.bind (Mo.ok s_24.2) fun b_44 => Mo.ok (!(b_44.any fun y => decide (y = a_43))))) else Mo.ok false) else Mo.ok false) fun c_48 => if c_48 then (Mo.bind (Mo.bind (Mo.bind (Mo.ok here_12) fun a_50 => Mo.bind (Mo.ok x_32) fun b_51 => Mo.ok (a_50 + b_51)) fun a_54 => Mo.bind (Mo.bind (Mo.ok there_17) fun a_52 => Mo.bind (Mo.ok x_32) fun b_53 => Mo.ok (a_52 + b_53)) fun c_55 => Mo.ok (a_54, c_55)) fun a_56 => Mo.lim (s_24.1.length + 1) (Mo.bind (Mo.bind (Mo.ok there_17) fun a_57 => Mo.bind (Mo.ok x_32) fun b_58 => Mo.ok (a_57 + b_58)) fun a_59 => Mo.lim (s_24.2.length + 1) (Mo.ok (.nx ((s_24.1 ++ [a_56]), (s_24.2 ++ [a_59])))))) else (Mo.ok (.nx (s_24.1, s_24.2)))) fun s_49 => (Mo.ok (.nx (s_49.1, s_49.2))))) xs_60 (s_3.1, s_3.2)) fun s_24 => (Mo.ok (.nx (s_24.1, s_24.2)))))))) xs_61 (wires_here_1, known_2)) fun s_3 => (Mo.ok (.rt s_3.1)))))
def f_law_wires (p_cells : (List Int)) (p_meeting : Bool) : Mo (List (Int × Int)) := fnO (b_law_wires p_cells p_meeting)
def b_law_whole (p_found : Int) : Mo (Out Bool Unit Unit) :=
  (Mo.bind (Mo.bind (Mo.bind (Mo.ok p_found) fun a_1 => Mo.ok true) fun c_4 => if c_4 then (Mo.bind (Mo.bind (Mo.ok p_found) fun a_2 => Mo.ok false) fun a_3 => Mo.ok (!a_3)) else Mo.ok false) fun r_5 => Mo.ok (.rt r_5))
def f_law_whole (p_found : Int) : Mo Bool := fnO (b_law_whole p_found)
def b_law_is_board (p_found : (List (Int × Int))) (p_due : (List (Int × Int))) : Mo (Out Bool Unit Unit) :=
  (thenO (S := Unit) (Mo.bind (Mo.bind (Mo.bind (Mo.bind (Mo.ok p_found) fun a_1 => Mo.ok true) fun a_2 => Mo.ok (!a_2)) fun c_5 => if c_5 then Mo.ok true else (Mo.bind (Mo.ok p_found) fun a_3 => Mo.bind (Mo.ok p_due) fun b_4 => Mo.ok (!((eqL (fun a b => (fun a b => decide (a = b)) a.1 b.1 && (fun a b => decide (a = b)) a.2 b.2)) a_3 b_4)))) fun c_6 => if c_6 then (Mo.bind (Mo.ok false) fun r_8 => Mo.ok (.rt r_8)) else (Mo.ok (.nx ()))) fun _ => (thenO (S := Unit) (Mo.bind (Mo.ok p_found) fun xs_23 => forO (fun (_ : Unit) x_10 => (Mo.bind (Mo.bind (Mo.bind (Mo.bind (Mo.ok x_10) fun a_11 => Mo.ok true) fun a_12 => Mo.ok (!a_12)) fun c_20 => if c_20 then Mo.ok true else (Mo.bind (Mo.bind (Mo.bind (Mo.bind (Mo.ok x_10) fun a_13 => Mo.ok a_13.1) fun c_14 => Mo.noex (f_law_whole c_14)) fun a_15 => Mo.ok (!a_15)) fun c_19 => if c_19 then Mo.ok true else (Mo.bind (Mo.bind (Mo.bind (Mo.ok x_10) fun a_16 => Mo.ok a_16.2) fun c_17 => Mo.noex (f_law_whole c_17)) fun a_18 => Mo.ok (!a_18)))) fun c_21 => if c_21 then (Mo.bind (Mo.ok false) fun r_22 => Mo.ok (.rt r_22)) else (Mo.ok (.nx ())))) xs_23 ()) fun _ => (Mo.bind (Mo.ok true) fun r_24 => Mo.ok (.rt r_24))))
def f_law_is_board (p_found : (List (Int × Int))) (p_due : (List (Int × Int))) : Mo Bool := fnO (b_law_is_board p_found p_due)
def b_shown_field (p_field : (Int × Int)) : Mo (Out (List Nat) Unit Unit) :=
  (Mo.bind (Mo.bind (Mo.ok p_field) fun a_2 => Mo.ok a_2.1) fun first_1 => (Mo.bind (Mo.bind (Mo.ok p_field) fun a_4 => Mo.ok a_4.2) fun last_3 => (thenO (S := Unit) (Mo.bind (Mo.bind (Mo.ok first_1) fun a_5 => Mo.bind (Mo.ok last_3) fun b_6 => Mo.ok (decide (a_5 = b_6))) fun c_7 => if c_7 then (Mo.bind (Mo.bind (Mo.ok first_1) fun c_9 => Mo.grd (c_9.natAbs.log2 < 1920) (Mo.ok (strI c_9))) fun r_10 => Mo.ok (.rt r_10)) else (Mo.ok (.nx ()))) fun _ => (Mo.bind (Mo.bind (Mo.bind (Mo.ok first_1) fun a_16 => Mo.grd (a_16.natAbs.log2 < 1920) (Mo.ok (strI a_16))) fun a_17 => Mo.grd (a_17.length ≤ 1000) (Mo.bind (Mo.bind (Mo.ok ([45] : List Nat)) fun a_14 => Mo.grd (a_14.length ≤ 1000) (Mo.bind (Mo.bind (Mo.bind (Mo.ok last_3) fun a_11 => Mo.grd (a_11.natAbs.log2 < 1920) (Mo.ok (strI a_11))) fun a_12 => Mo.grd (a_12.length ≤ 1000) (Mo.bind (Mo.ok ([] : List Nat)) fun l_13 => Mo.ok (a_12 ++ l_13))) fun l_15 => Mo.ok (a_14 ++ l_15))) fun l_18 => Mo.ok (a_17 ++ l_18))) fun r_19 => Mo.ok (.rt r_19)))))
def f_shown_field (p_field : (Int × Int)) : Mo (List Nat) := fnO (b_shown_field p_field)
def b_shown_piece (p_wires : (List (Int × Int))) : Mo (Out (List Nat) Unit Unit) :=
  (Mo.bind (Mo.bind (Mo.bind (Mo.bind (Mo.bind (Mo.ok p_wires) fun a_2 => Mo.bind (Mo.ok (0 : Int)) fun b_3 => Mo.opt (atI a_2 b_3)) fun a_4 => Mo.ok a_4.1) fun a_9 => Mo.bind (Mo.bind (Mo.bind (Mo.ok p_wires) fun a_6 => Mo.bind (Mo.bind (Mo.ok (1 : Int)) fun a_5 => Mo.ok (-a_5)) fun b_7 => Mo.opt (atI a_6 b_7)) fun a_8 => Mo.ok a_8.1) fun c_10 => Mo.ok (a_9, c_10)) fun c_11 => Mo.noex (f_shown_field c_11)) fun here_1 => (Mo.bind (Mo.bind (Mo.bind (Mo.bind (Mo.bind (Mo.ok p_wires) fun a_13 => Mo.bind (Mo.ok (0 : Int)) fun b_14 => Mo.opt (atI a_13 b_14)) fun a_15 => Mo.ok a_15.2) fun a_20 => Mo.bind (Mo.bind (Mo.bind (Mo.ok p_wires) fun a_17 => Mo.bind (Mo.bind (Mo.ok (1 : Int)) fun a_16 => Mo.ok (-a_16)) fun b_18 => Mo.opt (atI a_17 b_18)) fun a_19 => Mo.ok a_19.2) fun c_21 => Mo.ok (a_20, c_21)) fun c_22 => Mo.noex (f_shown_field c_22)) fun there_12 => (Mo.bind (Mo.bind (Mo.bind (Mo.ok here_1) fun a_28 => Mo.lim a_28.length (Mo.ok a_28)) fun a_29 => Mo.grd (a_29.length ≤ 1000) (Mo.bind (Mo.bind (Mo.ok ([62] : List Nat)) fun a_26 => Mo.grd (a_26.length ≤ 1000) (Mo.bind (Mo.bind (Mo.bind (Mo.ok there_12) fun a_23 => Mo.lim a_23.length (Mo.ok a_23)) fun a_24 => Mo.grd (a_24.length ≤ 1000) (Mo.bind (Mo.ok ([] : List Nat)) fun l_25 => Mo.ok (a_24 ++ l_25))) fun l_27 => Mo.ok (a_26 ++ l_27))) fun l_30 => Mo.ok (a_29 ++ l_30))) fun r_31 => Mo.ok (.rt r_31))))
def f_shown_piece (p_wires : (List (Int × Int))) : Mo (List Nat) := fnO (b_shown_piece p_wires)
def b_pieces_of (p_board : (List (Int × Int))) : Mo (Out (List (List (Int × Int))) Unit Unit) :=
  (Mo.bind (Mo.ok ([] : (List (List (Int × Int))))) fun pieces_1 => (thenO (S := (List (List (Int × Int)))) (Mo.bind (Mo.ok p_board) fun xs_30 => forO (fun (s_2 : (List (List (Int × Int)))) x_3 => (thenO (S := (List (List (Int × Int)))) (Mo.bind (Mo.bind (Mo.bind (Mo.ok s_2) fun a_4 => Mo.ok (!a_4.isEmpty)) fun c_21 => if c_21 then (Mo.bind (Mo.bind (Mo.bind (Mo.ok s_2) fun a_6 => Mo.bind (Mo.bind (Mo.ok (1 : Int)) fun a_5 => Mo.ok (-a_5)) fun b_7 => Mo.opt (atI a_6 b_7)) fun a_9 => Mo.bind (Mo.bind (Mo.ok (1 : Int)) fun a_8 => Mo.ok (-a_8)) fun b_10 => Mo.opt (atI a_9 b_10)) fun a_19 => Mo.bind (Mo.bind (Mo.bind (Mo.bind (Mo.ok x_3) fun a_11 => Mo.ok a_11.1) fun a_12 => Mo.bind (Mo.ok (1 : Int)) fun b_13 => Mo.ok (a_12 - b_13)) fun a_17 => Mo.bind (Mo.bind (Mo.bind (Mo.ok x_3) fun a_14 => Mo.ok a_14.2) fun a_15 => Mo.bind (Mo.ok (1 : Int)) fun b_16 => Mo.ok (a_15 - b_16)) fun c_18 => Mo.ok (a_17, c_18)) fun b_20 => Mo.ok (((fun a b => (fun a b => decide (a = b)) a.1 b.1 && (fun a b => decide (a = b)) a.2 b.2) a_19 b_20))) else Mo.ok false) fun c_22 => if c_22 then (Mo.bind (Mo.bind (Mo.ok (1 : Int)) fun a_24 => Mo.ok (-a_24)) fun j_25 => Mo.bind (Mo.opt (ixN (s_2).length j_25)) fun n_26 => Mo.bind (Mo.ok x_3) fun a_27 => Mo.lim (((s_2)[n_26]?.getD []).length + 1) (Mo.ok (.nx (appN s_2 n_26 a_27)))) else (Mo.bind (Mo.bind (Mo.ok x_3) fun c_28 => Mo.ok [c_28]) fun a_29 => Mo.lim (s_2.length + 1) (Mo.ok (.nx (s_2 ++ [a_29]))))) fun s_23 => (Mo.ok (.nx s_23)))) xs_30 pieces_1) fun s_2 => (Mo.ok (.rt s_2))))
def f_pieces_of (p_board : (List (Int × Int))) : Mo (List (List (Int × Int))) := fnO (b_pieces_of p_board)
def b_shown_board (p_board : (List (Int × Int))) : Mo (Out (List Nat) Unit Unit) :=
  (Mo.bind (Mo.bind (Mo.ok ([44, 32] : List Nat)) fun a_5 => Mo.bind (Mo.bind (Mo.bind (Mo.ok p_board) fun c_1 => Mo.noex (f_pieces_of c_1)) fun xs_4 => compM (fun x_2 => cond1 (Mo.ok true) (Mo.bind (Mo.ok x_2) fun c_3 => Mo.noex (f_shown_piece c_3))) xs_4 []) fun b_6 => Mo.grd (JoinOk ⟨a_5.toArray⟩ (strsL b_6) = true) (Mo.ok (joinS a_5 (strsL b_6)))) fun r_7 => Mo.ok (.rt r_7))
def f_shown_board (p_board : (List (Int × Int))) : Mo (List Nat) := fnO (b_shown_board p_board)
def b_law_side (p_first : Int) (p_last : Int) : Mo (Out (List Nat) Unit Unit) :=
  (thenO (S := Unit) (Mo.bind (Mo.bind (Mo.ok p_first) fun a_1 => Mo.bind (Mo.ok p_last) fun b_2 => Mo.ok (decide (a_1 = b_2))) fun c_3 => if c_3 then (Mo.bind (Mo.bind (Mo.ok p_first) fun c_5 => Mo.grd (c_5.natAbs.log2 < 1920) (Mo.ok (strI c_5))) fun r_6 => Mo.ok (.rt r_6)) else (Mo.ok (.nx ()))) fun _ => (Mo.bind (Mo.bind (Mo.bind (Mo.bind (Mo.ok p_first) fun c_7 => Mo.grd (c_7.natAbs.log2 < 1920) (Mo.ok (strI c_7))) fun a_8 => Mo.bind (Mo.ok ([45] : List Nat)) fun b_9 => Mo.lim (a_8.length + b_9.length) (Mo.ok (a_8 ++ b_9))) fun a_11 => Mo.bind (Mo.bind (Mo.ok p_last) fun c_10 => Mo.grd (c_10.natAbs.log2 < 1920) (Mo.ok (strI c_10))) fun b_12 => Mo.lim (a_11.length + b_12.length) (Mo.ok (a_11 ++ b_12))) fun r_13 => Mo.ok (.rt r_13)))
def f_law_side (p_first : Int) (p_last : Int) : Mo (List Nat) := fnO (b_law_side p_first p_last)
def b_law_piece (p_piece_here : (List (Int × Int))) : Mo (Out (List Nat) Unit Unit) :=
  (Mo.bind (Mo.bind (Mo.ok p_piece_here) fun a_2 => Mo.bind (Mo.ok (0 : Int)) fun b_3 => Mo.opt (atI a_2 b_3)) fun one_1 => (Mo.bind (Mo.bind (Mo.ok p_piece_here) fun a_5 => Mo.bind (Mo.ok (1 : Int)) fun b_6 => Mo.opt (atI a_5 b_6)) fun other_4 => (Mo.bind (Mo.bind (Mo.bind (Mo.bind (Mo.bind (Mo.bind (Mo.ok one_1) fun a_7 => Mo.ok a_7.1) fun a_9 => Mo.bind (Mo.bind (Mo.ok other_4) fun a_8 => Mo.ok a_8.1) fun c_10 => Mo.ok (a_9, c_10)) fun c_11 => Mo.noex (f_law_side c_11.1 c_11.2)) fun a_12 => Mo.bind (Mo.ok ([62] : List Nat)) fun b_13 => Mo.lim (a_12.length + b_13.length) (Mo.ok (a_12 ++ b_13))) fun a_19 => Mo.bind (Mo.bind (Mo.bind (Mo.bind (Mo.ok one_1) fun a_14 => Mo.ok a_14.2) fun a_16 => Mo.bind (Mo.bind (Mo.ok other_4) fun a_15 => Mo.ok a_15.2) fun c_17 => Mo.ok (a_16, c_17)) fun c_18 => Mo.noex (f_law_side c_18.1 c_18.2)) fun b_20 => Mo.lim (a_19.length + b_20.length) (Mo.ok (a_19 ++ b_20))) fun r_21 => Mo.ok (.rt r_21))))
def f_law_piece (p_piece_here : (List (Int × Int))) : Mo (List Nat) := fnO (b_law_piece p_piece_here)
def b_law (p_script : (List Int)) : Mo (Out Bool Unit Unit) :=
  (Mo.bind (Mo.bind (Mo.bind (Mo.bind (Mo.bind (Mo.ok p_script) fun a_4 => Mo.bind (Mo.bind (Mo.ok (1 : Int)) fun i_2 => Mo.ok (some i_2)) fun b_5 => Mo.bind (Mo.bind (Mo.ok (85 : Int)) fun i_3 => Mo.ok (some i_3)) fun d_6 => Mo.ok (cutG a_4 b_5 d_6)) fun a_7 => Mo.bind (Mo.ok false) fun c_8 => Mo.ok (a_7, c_8)) fun c_9 => Mo.noex (f_law_wires c_9.1 c_9.2)) fun c_10 => Mo.noex (f_law_sorted c_10)) fun board_1 => (Mo.bind (Mo.bind (Mo.bind (Mo.ok p_script) fun a_12 => Mo.bind (Mo.ok (0 : Int)) fun c_13 => Mo.ok (a_12, c_13)) fun c_14 => Mo.noex (f_law_cell_at c_14.1 c_14.2)) fun first_11 => (Mo.bind (Mo.bind (Mo.ok board_1) fun c_16 => Mo.noex (f_law_pieces c_16)) fun pieces_here_15 => (Mo.bind (Mo.bind (Mo.bind (Mo.ok pieces_here_15) fun a_33 => Mo.bind (Mo.bind (Mo.bind (Mo.ok first_11) fun a_27 => Mo.bind (Mo.ok (2 : Int)) fun b_28 => Mo.grd (CDivG a_27 b_28) (Mo.ok (a_27 / b_28))) fun a_31 => Mo.bind (Mo.bind (Mo.ok (3 : Int)) fun a_29 => Mo.bind (Mo.ok (40 : Int)) fun b_30 => Mo.grd (CPow a_29 b_30) (Mo.ok (a_29 ^ b_30.toNat))) fun b_32 => Mo.grd (0 < b_32) (Mo.ok (a_31 % b_32))) fun c_34 => Mo.ok (a_33, c_34)) fun c_35 => Mo.noex (f_law_cut c_35.1 c_35.2)) fun some_17 => (Mo.bind (Mo.bind (Mo.ok first_11) fun a_40 => Mo.bind (Mo.bind (Mo.bind (Mo.ok some_17) fun c_37 => Mo.ok (c_37.length : Int)) fun a_38 => Mo.bind (Mo.ok (1 : Int)) fun b_39 => Mo.ok (a_38 + b_39)) fun b_41 => Mo.grd (0 < b_41) (Mo.ok (a_40 % b_41))) fun at_36 => (Mo.bind (Mo.bind (Mo.bind (Mo.ok some_17) fun a_54 => Mo.bind (Mo.bind (Mo.ok at_36) fun i_53 => Mo.ok (some i_53)) fun b_55 => Mo.bind (Mo.ok none) fun d_56 => Mo.ok (cutG a_54 b_55 d_56)) fun a_61 => Mo.bind (Mo.bind (Mo.ok some_17) fun a_58 => Mo.bind (Mo.ok none) fun b_59 => Mo.bind (Mo.bind (Mo.ok at_36) fun i_57 => Mo.ok (some i_57)) fun d_60 => Mo.ok (cutG a_58 b_59 d_60)) fun b_62 => Mo.lim (a_61.length + b_62.length) (Mo.ok (a_61 ++ b_62))) fun some_42 => (thenO (S := (List (List (Int × Int)))) (Mo.bind (Mo.bind (Mo.bind (Mo.ok first_11) fun a_63 => Mo.bind (Mo.ok (2 : Int)) fun b_64 => Mo.grd (0 < b_64) (Mo.ok (a_63 % b_64))) fun a_65 => Mo.bind (Mo.ok (1 : Int)) fun b_66 => Mo.ok (decide (a_65 = b_66))) fun c_67 => if c_67 then (Mo.bind (Mo.bind (Mo.ok some_42) fun a_71 => Mo.ok a_71.reverse) fun some_69 => (Mo.ok (.nx some_69))) else (Mo.ok (.nx some_42))) fun s_68 => (Mo.bind (Mo.bind (Mo.ok ([44, 32] : List Nat)) fun a_76 => Mo.bind (Mo.bind (Mo.ok s_68) fun xs_75 => compM (fun x_73 => cond1 (Mo.ok true) (Mo.bind (Mo.ok x_73) fun c_74 => Mo.noex (f_law_piece c_74))) xs_75 []) fun b_77 => Mo.grd (JoinOk ⟨a_76.toArray⟩ (strsL b_77) = true) (Mo.ok (joinS a_76 (strsL b_77)))) fun text_72 => (Mo.bind (Mo.bind (Mo.ok text_72) fun c_79 => Mo.noex (f_read_board c_79)) fun found_78 => (thenO (S := Unit) (Mo.bind (Mo.bind (Mo.bind (Mo.bind (Mo.ok found_78) fun a_80 => Mo.bind (Mo.ok board_1) fun c_81 => Mo.ok (a_80, c_81)) fun c_82 => Mo.noex (f_law_is_board c_82.1 c_82.2)) fun a_83 => Mo.ok (!a_83)) fun c_84 => if c_84 then (Mo.bind (Mo.ok false) fun r_86 => Mo.ok (.rt r_86)) else (Mo.ok (.nx ()))) fun _ => (Mo.bind (Mo.bind (Mo.ok (40 : Int)) fun a_87 => Mo.bind (Mo.ok (36 : Int)) fun c_88 => Mo.ok (a_87, c_88)) fun a_89 => Mo.lim (found_78.length + 1) (Mo.bind (Mo.bind (Mo.ok text_72) fun c_91 => Mo.noex (f_read_board c_91)) fun again_90 => (thenO (S := Unit) (Mo.bind (Mo.bind (Mo.bind (Mo.bind (Mo.ok again_90) fun a_92 => Mo.bind (Mo.ok board_1) fun c_93 => Mo.ok (a_92, c_93)) fun c_94 => Mo.noex (f_law_is_board c_94.1 c_94.2)) fun a_95 => Mo.ok (!a_95)) fun c_96 => if c_96 then (Mo.bind (Mo.ok false) fun r_98 => Mo.ok (.rt r_98)) else (Mo.ok (.nx ()))) fun _ => (Mo.bind (Mo.bind (Mo.bind (Mo.ok again_90) fun c_99 => Mo.noex (f_shown_board c_99)) fun a_105 => Mo.bind (Mo.bind (Mo.ok ([44, 32] : List Nat)) fun a_103 => Mo.bind (Mo.bind (Mo.ok pieces_here_15) fun xs_102 => compM (fun x_100 => cond1 (Mo.ok true) (Mo.bind (Mo.ok x_100) fun c_101 => Mo.noex (f_law_piece c_101))) xs_102 []) fun b_104 => Mo.grd (JoinOk ⟨a_103.toArray⟩ (strsL b_104) = true) (Mo.ok (joinS a_103 (strsL b_104)))) fun b_106 => Mo.ok (decide (a_105 = b_106))) fun r_107 => Mo.ok (.rt r_107)))))))))))))))
def f_law (p_script : (List Int)) : Mo Bool := fnO (b_law p_script)
end K29
namespace K29
open PySem PySem.Spec PyProof.Rows L2
def top (i : Nat) : Stmt := PySem.Challenge.pw_cardshop_k29_board_read.main.body.getD i (.Pass ⟨0, 0, 0, 0⟩)
abbrev s_law_sorted : Stmt := top 27
abbrev s_law_cell_at : Stmt := top 24
abbrev s_law_pieces : Stmt := top 28
abbrev s_law_cut : Stmt := top 31
abbrev s_is_whole : Stmt := top 8
abbrev s_is_column : Stmt := top 12
abbrev s_make_board : Stmt := top 13
abbrev s_number_by : Stmt := top 9
abbrev s_read_whole : Stmt := top 10
abbrev s_read_span : Stmt := top 17
abbrev s_read_piece : Stmt := top 18
abbrev s_read_board : Stmt := top 19
abbrev s_law_wires : Stmt := top 26
abbrev s_law_whole : Stmt := top 25
abbrev s_law_is_board : Stmt := top 32
abbrev s_shown_field : Stmt := top 15
abbrev s_shown_piece : Stmt := top 21
abbrev s_pieces_of : Stmt := top 20
abbrev s_shown_board : Stmt := top 22
abbrev s_law_side : Stmt := top 29
abbrev s_law_piece : Stmt := top 30
abbrev s_law : Stmt := top 33
structure Fx (K : PySem.W.Frag) : Prop where
  exc_NoBoard : excK K (gA K "NoBoard") = true
def sp_law_sorted (K : PySem.W.Frag) : Sp := Ct K (csLast (tyL (tyTup (csCons tyInt (csLast tyInt))))) (fun c => f_law_sorted c) (owL (tyTup (csCons tyInt (csLast tyInt))))
def sp_law_cell_at (K : PySem.W.Frag) : Sp := Ct K (csCons (tySc K) (csLast tyInt)) (fun c => f_law_cell_at c.1 c.2) (owF tyInt)
def sp_law_pieces (K : PySem.W.Frag) : Sp := Ct K (csLast (tyL (tyTup (csCons tyInt (csLast tyInt))))) (fun c => f_law_pieces c) (owLL (tyTup (csCons tyInt (csLast tyInt))))
def sp_law_cut (K : PySem.W.Frag) : Sp := Ct K (csCons (tyL (tyL (tyTup (csCons tyInt (csLast tyInt))))) (csLast tyInt)) (fun c => f_law_cut c.1 c.2) (owL (tyL (tyTup (csCons tyInt (csLast tyInt)))))
def sp_is_whole (K : PySem.W.Frag) : Sp := Ct K (csLast tyInt) (fun c => f_is_whole c) (owF tyBl)
def sp_is_column (K : PySem.W.Frag) : Sp := Ct K (csCons tyInt (csLast tyInt)) (fun c => f_is_column c.1 c.2) (owF tyBl)
def sp_make_board (K : PySem.W.Frag) : Sp := Ct K (csLast (tyL (tyTup (csCons tyInt (csLast tyInt))))) (fun c => f_make_board c) (owL (tyTup (csCons tyInt (csLast tyInt))))
def sp_number_by (K : PySem.W.Frag) : Sp := Ct K (csLast tyStr) (fun c => f_number_by c) (owF tyInt)
def sp_read_whole (K : PySem.W.Frag) : Sp := Ct K (csLast tyStr) (fun c => f_read_whole c) (owF (tyOpt tyInt))
def sp_read_span (K : PySem.W.Frag) : Sp := Ct K (csCons tyStr (csLast tyInt)) (fun c => f_read_span c.1 c.2) (owF (tyTup (csCons (tyOpt tyInt) (csLast (tyOpt tyInt)))))
def sp_read_piece (K : PySem.W.Frag) : Sp := Ct K (csLast tyStr) (fun c => f_read_piece c) (owL (tyTup (csCons tyInt (csLast tyInt))))
def sp_read_board (K : PySem.W.Frag) : Sp := Ct K (csLast tyStr) (fun c => f_read_board c) (owL (tyTup (csCons tyInt (csLast tyInt))))
def sp_law_wires (K : PySem.W.Frag) : Sp := Ct K (csCons (tyL tyInt) (csLast tyBl)) (fun c => f_law_wires c.1 c.2) (owL (tyTup (csCons tyInt (csLast tyInt))))
def sp_law_whole (K : PySem.W.Frag) : Sp := Ct K (csLast tyInt) (fun c => f_law_whole c) (owF tyBl)
def sp_law_is_board (K : PySem.W.Frag) : Sp := Ct K (csCons (tyL (tyTup (csCons tyInt (csLast tyInt)))) (csLast (tyL (tyTup (csCons tyInt (csLast tyInt)))))) (fun c => f_law_is_board c.1 c.2) (owF tyBl)
def sp_shown_field (K : PySem.W.Frag) : Sp := Ct K (csLast (tyTup (csCons tyInt (csLast tyInt)))) (fun c => f_shown_field c) (owF tyStr)
def sp_shown_piece (K : PySem.W.Frag) : Sp := Ct K (csLast (tyL (tyTup (csCons tyInt (csLast tyInt))))) (fun c => f_shown_piece c) (owF tyStr)
def sp_pieces_of (K : PySem.W.Frag) : Sp := Ct K (csLast (tyL (tyTup (csCons tyInt (csLast tyInt))))) (fun c => f_pieces_of c) (owLL (tyTup (csCons tyInt (csLast tyInt))))
def sp_shown_board (K : PySem.W.Frag) : Sp := Ct K (csLast (tyL (tyTup (csCons tyInt (csLast tyInt))))) (fun c => f_shown_board c) (owF tyStr)
def sp_law_side (K : PySem.W.Frag) : Sp := Ct K (csCons tyInt (csLast tyInt)) (fun c => f_law_side c.1 c.2) (owF tyStr)
def sp_law_piece (K : PySem.W.Frag) : Sp := Ct K (csLast (tyL (tyTup (csCons tyInt (csLast tyInt))))) (fun c => f_law_piece c) (owF tyStr)
def sp_law (K : PySem.W.Frag) : Sp := fun vs H Q _ => ∃ (a : Addr) (ns : List Int), vs = [.ref a] ∧ SqL K H a (ns.map V.int) ∧ ns.length ≤ 63 ∧ BitsOk ns ∧ ∀ H', Q (.bl true) H'
def t_law_sorted (K : PySem.W.Frag) : TS := (tRet (tComp ["_law_there", "_law_here"] [] (iAny K (tCB (mSortD K) (tCons (tComp ["_law_wire"] [] (iAny K (mVar 0)) (gName 0) tTrue (tTup (tCons (tOp (mIx K) (mVar 0) (tC (.int 1))) (tCons (tOp (mIx K) (mVar 0) (tC (.int 0))) tNil)))) tNil))) (gTupM K 2 (gConsM (gName 0) (gConsM (gName 1) gNilM))) tTrue (tTup (tCons (mVar 1) (tCons (mVar 0) tNil)))))
abbrev RD_law_sorted (K : PySem.W.Frag) : Prop := ∀ vs H Q E, sp_law_sorted K vs H Q E → t_law_sorted K { nx := fun _ H' => Q .non H', rt := Q } (start ["_law_wires_here"] vs) H
theorem len_law_sorted {K : PySem.W.Frag} : ∀ vs H Q E, sp_law_sorted K vs H Q E → vs.length = 1 := by
  rintro vs H Q E ⟨F, c, _, hc, _⟩; exact (csn_last : CsN (csLast (tyL (tyTup (csCons tyInt (csLast tyInt))))) 1) hc
def t_law_cell_at (K : PySem.W.Frag) : TS := (tSeq (mIfS (mTest (tOp (mLtK K) (mVar 1) (tCB (mLen K) (tCons (mVar 0) tNil)))) (tRet (tOp (mIx K) (mVar 0) (mVar 1))) tNext) (tRet (tC (.int 0))))
abbrev RD_law_cell_at (K : PySem.W.Frag) : Prop := ∀ vs H Q E, sp_law_cell_at K vs H Q E → t_law_cell_at K { nx := fun _ H' => Q .non H', rt := Q } (start ["_law_script", "_law_k"] vs) H
theorem len_law_cell_at {K : PySem.W.Frag} : ∀ vs H Q E, sp_law_cell_at K vs H Q E → vs.length = 2 := by
  rintro vs H Q E ⟨F, c, _, hc, _⟩; exact ((csn_cons csn_last) : CsN (csCons (tySc K) (csLast tyInt)) 2) hc
def t_law_pieces (K : PySem.W.Frag) : TS := (tSeq (tAsg (tLst tNil) (gName 1)) (tSeq (tFor (iAny K (mVar 0)) (gName 2) (mIfS (mAnd (mTest (tOp (mNeK K) (mVar 1) (tLst tNil))) (mTest (tOp (mEqK K) (mVar 2) (tTup (tCons (tOp mAdd (tOp (mIx K) (tOp (mIx K) (tOp (mIx K) (mVar 1) (mNeg (tC (.int 1)))) (tC (.int 1))) (tC (.int 0))) (tC (.int 1))) (tCons (tOp mAdd (tOp (mIx K) (tOp (mIx K) (tOp (mIx K) (mVar 1) (mNeg (tC (.int 1)))) (tC (.int 1))) (tC (.int 1))) (tC (.int 1))) tNil)))))) (tAsg (mVar 2) (gSub (tOp (mIx K) (mVar 1) (mNeg (tC (.int 1)))) (tC (.int 1)) mSet)) (tDrop (tBM K "list" rAppend (mVar 1) (tCons (tLst (tCons (mVar 2) (tCons (mVar 2) tNil))) tNil))))) (tRet (mVar 1))))
abbrev RD_law_pieces (K : PySem.W.Frag) : Prop := ∀ vs H Q E, sp_law_pieces K vs H Q E → t_law_pieces K { nx := fun _ H' => Q .non H', rt := Q } (start ["_law_board", "_law_pieces_here", "_law_wire"] vs) H
theorem len_law_pieces {K : PySem.W.Frag} : ∀ vs H Q E, sp_law_pieces K vs H Q E → vs.length = 1 := by
  rintro vs H Q E ⟨F, c, _, hc, _⟩; exact (csn_last : CsN (csLast (tyL (tyTup (csCons tyInt (csLast tyInt))))) 1) hc
def t_law_cut (K : PySem.W.Frag) : TS := (tSeq (tAsg (tLst tNil) (gName 2)) (tSeq (tFor (iAny K (mVar 0)) (gLst2 K (gConsM (gName 3) (gConsM (gName 4) gNilM))) (tSeq (tAsg (tOp mAdd (tOp mSub (tOp (mIx K) (mVar 4) (tC (.int 0))) (tOp (mIx K) (mVar 3) (tC (.int 0)))) (tC (.int 1))) (gName 5)) (tSeq (tAsg (tC (.int 0)) (gName 6)) (tSeq (mIfS (mTest (tOp (mEqK K) (tOp mMod (mVar 1) (tC (.int 3))) (tC (.int 1)))) (tAsg (tOp mDivG (mVar 5) (tC (.int 2))) (gName 6)) tNext) (tSeq (mIfS (mTest (tOp (mEqK K) (tOp mMod (mVar 1) (tC (.int 3))) (tC (.int 2)))) (tAsg (tCB (mTwo min) (tCons (tC (.int 1)) (tCons (tOp mSub (mVar 5) (tC (.int 1))) tNil))) (gName 6)) tNext) (tSeq (mIfS (mTest (tOp mGt (mVar 6) (tC (.int 0)))) (tDrop (tBM K "list" rAppend (mVar 2) (tCons (tLst (tCons (mVar 3) (tCons (tTup (tCons (tOp mSub (tOp mAdd (tOp (mIx K) (mVar 3) (tC (.int 0))) (mVar 6)) (tC (.int 1))) (tCons (tOp mSub (tOp mAdd (tOp (mIx K) (mVar 3) (tC (.int 1))) (mVar 6)) (tC (.int 1))) tNil))) tNil))) tNil))) tNext) (tSeq (tDrop (tBM K "list" rAppend (mVar 2) (tCons (tLst (tCons (tTup (tCons (tOp mAdd (tOp (mIx K) (mVar 3) (tC (.int 0))) (mVar 6)) (tCons (tOp mAdd (tOp (mIx K) (mVar 3) (tC (.int 1))) (mVar 6)) tNil))) (tCons (mVar 4) tNil))) tNil))) (tAsg (tOp mDivG (mVar 1) (tC (.int 3))) (gName 1))))))))) (tRet (mVar 2))))
abbrev RD_law_cut (K : PySem.W.Frag) : Prop := ∀ vs H Q E, sp_law_cut K vs H Q E → t_law_cut K { nx := fun _ H' => Q .non H', rt := Q } (start ["_law_pieces_here", "_law_bits", "_law_found", "_law_one", "_law_other", "_law_many", "_law_at"] vs) H
theorem len_law_cut {K : PySem.W.Frag} : ∀ vs H Q E, sp_law_cut K vs H Q E → vs.length = 2 := by
  rintro vs H Q E ⟨F, c, _, hc, _⟩; exact ((csn_cons csn_last) : CsN (csCons (tyL (tyL (tyTup (csCons tyInt (csLast tyInt))))) (csLast tyInt)) 2) hc
def t_is_whole (K : PySem.W.Frag) : TS := (tRet (mAndV (tCB (mIsa K) (tCons (mVar 0) (tCons (tC (.ty "int")) tNil))) (mNotV (tCB (mIsa K) (tCons (mVar 0) (tCons (tC (.ty "bool")) tNil))))))
abbrev RD_is_whole (K : PySem.W.Frag) : Prop := ∀ vs H Q E, sp_is_whole K vs H Q E → t_is_whole K { nx := fun _ H' => Q .non H', rt := Q } (start ["value"] vs) H
theorem len_is_whole {K : PySem.W.Frag} : ∀ vs H Q E, sp_is_whole K vs H Q E → vs.length = 1 := by
  rintro vs H Q E ⟨F, c, _, hc, _⟩; exact (csn_last : CsN (csLast tyInt) 1) hc
def t_is_column (K : PySem.W.Frag) : TS := (tRet (mAndV (tCall (sp_is_whole K) [] E0 (tCons (mVar 0) tNil)) (mChain mLe mLe (tC (.int 1)) (mVar 0) (mVar 1))))
abbrev RD_is_column (K : PySem.W.Frag) : Prop := ∀ vs H Q E, sp_is_column K vs H Q E → t_is_column K { nx := fun _ H' => Q .non H', rt := Q } (start ["value", "most"] vs) H
theorem len_is_column {K : PySem.W.Frag} : ∀ vs H Q E, sp_is_column K vs H Q E → vs.length = 2 := by
  rintro vs H Q E ⟨F, c, _, hc, _⟩; exact ((csn_cons csn_last) : CsN (csCons tyInt (csLast tyInt)) 2) hc
def t_make_board (K : PySem.W.Frag) (E : XK) : TS := (tSeq (tFor (iAny K (mVar 0)) (gName 1) (mIfS (mOr (tNot (mTest (tCall (sp_is_column K) [] E0 (tCons (tOp (mIx K) (mVar 1) (tC (.int 0))) (tCons (tC (.int 40)) tNil))))) (tNot (mTest (tCall (sp_is_column K) [] E0 (tCons (tOp (mIx K) (mVar 1) (tC (.int 1))) (tCons (tC (.int 36)) tNil)))))) (tRaise (gA K "NoBoard") E (tCons (tC (tx [97, 32, 119, 105, 114, 101, 32, 108, 101, 97, 100, 115, 32, 102, 114, 111, 109, 32, 97, 32, 99, 111, 108, 117, 109, 110, 32, 102, 114, 111, 109, 32, 49, 32, 116, 111, 32, 52, 48, 32, 116, 111, 32, 111, 110, 101, 32, 102, 114, 111, 109, 32, 49, 32, 116, 111, 32, 51, 54])) tNil)) tNext)) (tSeq (tAsg tDNewK (gName 2)) (tSeq (tFor (iAny K (mVar 0)) (gName 1) (tSeq (mIfS (mTest (mDIn false (tOp (mIx K) (mVar 1) (tC (.int 1))) (mVar 2))) tNever tNext) (mDPut (mVar 2) (tOp (mIx K) (mVar 1) (tC (.int 1))) (mVar 1)))) (tRet (tComp ["column"] [("leading", 2)] (iAny K (tCB (mSortD K) (tCons (mVar 2) tNil))) (gName 0) tTrue (mDGet (mVar 1) (mVar 0)))))))
abbrev RD_make_board (K : PySem.W.Frag) : Prop := ∀ vs H Q E, sp_make_board K vs H Q E → t_make_board K E { nx := fun _ H' => Q .non H', rt := Q } (start ["wires", "wire", "leading"] vs) H
theorem len_make_board {K : PySem.W.Frag} : ∀ vs H Q E, sp_make_board K vs H Q E → vs.length = 1 := by
  rintro vs H Q E ⟨F, c, _, hc, _⟩; exact (csn_last : CsN (csLast (tyL (tyTup (csCons tyInt (csLast tyInt))))) 1) hc
def t_number_by (K : PySem.W.Frag) : TS := (tSeq (tAsg (tC (.int 0)) (gName 1)) (tSeq (tFor (iAny K (mVar 0)) (gName 2) (tAsg (tOp mAdd (tOp mMulX (mVar 1) (tC (.int 10))) (tBM K "str" mIndex (tC (tx [48, 49, 50, 51, 52, 53, 54, 55, 56, 57])) (tCons (mVar 2) tNil))) (gName 1))) (tRet (mVar 1))))
abbrev RD_number_by (K : PySem.W.Frag) : Prop := ∀ vs H Q E, sp_number_by K vs H Q E → t_number_by K { nx := fun _ H' => Q .non H', rt := Q } (start ["figures", "value", "figure"] vs) H
theorem len_number_by {K : PySem.W.Frag} : ∀ vs H Q E, sp_number_by K vs H Q E → vs.length = 1 := by
  rintro vs H Q E ⟨F, c, _, hc, _⟩; exact (csn_last : CsN (csLast tyStr) 1) hc
def t_read_whole (K : PySem.W.Frag) : TS := (tSeq (mIfS (mOr (mTest (tOp (mEqK K) (mVar 0) (tC (tx [])))) (tNot (mTest (tCB (mAll K) (tCons (tComp ["sign"] [] (iAny K (mVar 0)) (gName 0) tTrue (tOp (mIn K false) (mVar 0) (tC (tx [48, 49, 50, 51, 52, 53, 54, 55, 56, 57])))) tNil))))) (tRet (tC .non)) tNext) (tSeq (mIfS (mAnd (mTest (tOp (mEqK K) (tOp (mIx K) (mVar 0) (tC (.int 0))) (tC (tx [48])))) (mTest (tOp (mNeK K) (mVar 0) (tC (tx [48]))))) (tRet (tC .non)) tNext) (tRet (tCall (sp_number_by K) [] E0 (tCons (mVar 0) tNil)))))
abbrev RD_read_whole (K : PySem.W.Frag) : Prop := ∀ vs H Q E, sp_read_whole K vs H Q E → t_read_whole K { nx := fun _ H' => Q .non H', rt := Q } (start ["text"] vs) H
theorem len_read_whole {K : PySem.W.Frag} : ∀ vs H Q E, sp_read_whole K vs H Q E → vs.length = 1 := by
  rintro vs H Q E ⟨F, c, _, hc, _⟩; exact (csn_last : CsN (csLast tyStr) 1) hc
def t_read_span (K : PySem.W.Frag) (E : XK) : TS := (tSeq (tAsg (tComp ["end"] [] (iAny K (tBM K "str" mSplitG (mVar 0) (tCons (tC (tx [45])) tNil))) (gName 0) tTrue (tCall (sp_read_whole K) [] E0 (tCons (mVar 0) tNil))) (gName 2)) (tSeq (mIfS (mOr (mTest (tOp (mIn K false) (tC .non) (mVar 2))) (mTest (tOp mGt (tCB (mLen K) (tCons (mVar 2) tNil)) (tC (.int 2))))) (tRaise (gA K "NoBoard") E (tCons (tJoin (tJ1 (tUn mRepr (mVar 0)) (tJ1 (tC (tx [32, 119, 114, 105, 116, 101, 115, 32, 110, 111, 32, 99, 111, 108, 117, 109, 110, 115])) tJ0))) tNil)) tNext) (tSeq (mIfS (mAnd (mTest (tOp (mEqK K) (tCB (mLen K) (tCons (mVar 2) tNil)) (tC (.int 2)))) (mTest (tOp mGe (tOp (mIx K) (mVar 2) (tC (.int 0))) (tOp (mIx K) (mVar 2) (tC (.int 1)))))) (tRaise (gA K "NoBoard") E (tCons (tJoin (tJ1 (tC (tx [116, 104, 101, 32, 99, 111, 108, 117, 109, 110, 115, 32, 111, 102, 32])) (tJ1 (tUn mRepr (mVar 0)) (tJ1 (tC (tx [32, 100, 111, 110, 39, 116, 32, 114, 105, 115, 101])) tJ0)))) tNil)) tNext) (tSeq (mIfS (mOr (mTest (tOp (mLtK K) (tOp (mIx K) (mVar 2) (tC (.int 0))) (tC (.int 1)))) (mTest (tOp mGt (tOp (mIx K) (mVar 2) (mNeg (tC (.int 1)))) (mVar 1)))) (tRaise (gA K "NoBoard") E (tCons (tJoin (tJ1 (tUn mRepr (mVar 0)) (tJ1 (tC (tx [32, 119, 114, 105, 116, 101, 115, 32, 99, 111, 108, 117, 109, 110, 115, 32, 98, 101, 121, 111, 110, 100, 32, 116, 104, 111, 115, 101, 32, 111, 102, 32, 97, 32, 98, 111, 97, 114, 100])) tJ0))) tNil)) tNext) (tRet (tTup (tCons (tOp (mIx K) (mVar 2) (tC (.int 0))) (tCons (tOp (mIx K) (mVar 2) (mNeg (tC (.int 1)))) tNil))))))))
abbrev RD_read_span (K : PySem.W.Frag) : Prop := ∀ vs H Q E, sp_read_span K vs H Q E → t_read_span K E { nx := fun _ H' => Q .non H', rt := Q } (start ["text", "most", "columns"] vs) H
theorem len_read_span {K : PySem.W.Frag} : ∀ vs H Q E, sp_read_span K vs H Q E → vs.length = 2 := by
  rintro vs H Q E ⟨F, c, _, hc, _⟩; exact ((csn_cons csn_last) : CsN (csCons tyStr (csLast tyInt)) 2) hc
def t_read_piece (K : PySem.W.Frag) (E : XK) : TS := (tSeq (tAsg (tBM K "str" mSplitG (mVar 0) (tCons (tC (tx [62])) tNil)) (gName 1)) (tSeq (mIfS (mTest (tOp (mNeK K) (tCB (mLen K) (tCons (mVar 1) tNil)) (tC (.int 2)))) (tRaise (gA K "NoBoard") E (tCons (tJoin (tJ1 (tUn mRepr (mVar 0)) (tJ1 (tC (tx [32, 119, 114, 105, 116, 101, 115, 32, 110, 111, 32, 119, 105, 114, 101, 115])) tJ0))) tNil)) tNext) (tSeq (tAsg (tCall (sp_read_span K) [] E (tCons (tOp (mIx K) (mVar 1) (tC (.int 0))) (tCons (tC (.int 40)) tNil))) (gName 2)) (tSeq (tAsg (tCall (sp_read_span K) [] E (tCons (tOp (mIx K) (mVar 1) (tC (.int 1))) (tCons (tC (.int 36)) tNil))) (gName 3)) (tSeq (mIfS (mTest (tOp (mNeK K) (tOp mSub (tOp (mIx K) (mVar 2) (tC (.int 1))) (tOp (mIx K) (mVar 2) (tC (.int 0)))) (tOp mSub (tOp (mIx K) (mVar 3) (tC (.int 1))) (tOp (mIx K) (mVar 3) (tC (.int 0)))))) (tRaise (gA K "NoBoard") E (tCons (tJoin (tJ1 (tUn mRepr (mVar 0)) (tJ1 (tC (tx [32, 104, 97, 115, 32, 101, 110, 100, 115, 32, 111, 102, 32, 117, 110, 108, 105, 107, 101, 32, 108, 101, 110, 103, 116, 104, 115])) tJ0))) tNil)) tNext) (tRet (tComp ["step"] [("here", 2), ("there", 3)] (mRng1 (tCons (tOp mAdd (tOp mSub (tOp (mIx K) (mVar 2) (tC (.int 1))) (tOp (mIx K) (mVar 2) (tC (.int 0)))) (tC (.int 1))) tNil)) (gName 0) tTrue (tTup (tCons (tOp mAdd (tOp (mIx K) (mVar 1) (tC (.int 0))) (mVar 0)) (tCons (tOp mAdd (tOp (mIx K) (mVar 2) (tC (.int 0))) (mVar 0)) tNil))))))))))
abbrev RD_read_piece (K : PySem.W.Frag) : Prop := ∀ vs H Q E, sp_read_piece K vs H Q E → t_read_piece K E { nx := fun _ H' => Q .non H', rt := Q } (start ["text", "ends", "here", "there"] vs) H
theorem len_read_piece {K : PySem.W.Frag} : ∀ vs H Q E, sp_read_piece K vs H Q E → vs.length = 1 := by
  rintro vs H Q E ⟨F, c, _, hc, _⟩; exact (csn_last : CsN (csLast tyStr) 1) hc
def t_read_board (K : PySem.W.Frag) (E : XK) : TS := (tSeq (mIfS (mTest (tOp (mEqK K) (mVar 0) (tC (tx [])))) (tRet (tLst tNil)) tNext) (tSeq (tAsg (tLst tNil) (gName 1)) (tSeq (tFor (iAny K (tBM K "str" mSplitG (mVar 0) (tCons (tC (tx [44, 32])) tNil))) (gName 2) (tDrop (tBM K "list" rExtend (mVar 1) (tCons (tCall (sp_read_piece K) [] E (tCons (mVar 2) tNil)) tNil)))) (tRet (tCall (sp_make_board K) [] E (tCons (mVar 1) tNil))))))
abbrev RD_read_board (K : PySem.W.Frag) : Prop := ∀ vs H Q E, sp_read_board K vs H Q E → t_read_board K E { nx := fun _ H' => Q .non H', rt := Q } (start ["text", "wires", "piece"] vs) H
theorem len_read_board {K : PySem.W.Frag} : ∀ vs H Q E, sp_read_board K vs H Q E → vs.length = 1 := by
  rintro vs H Q E ⟨F, c, _, hc, _⟩; exact (csn_last : CsN (csLast tyStr) 1) hc
def t_law_wires (K : PySem.W.Frag) : TS := (tSeq (tAsg (tLst tNil) (gName 2)) (tSeq (tAsg (tLst tNil) (gName 3)) (tSeq (tFor (iAny K (mVar 0)) (gName 4) (tSeq (tAsg (tOp mMod (tOp mMulX (tOp mMod (mVar 4) (tC (.int 2147483647))) (tC (.int 48271))) (tC (.int 2147483629))) (gName 5)) (tSeq (tAsg (tOp mAdd (tC (.int 1)) (tOp mMod (mVar 5) (tC (.int 40)))) (gName 6)) (tSeq (tAsg (tOp mAdd (tC (.int 1)) (tOp mMod (tOp mDivG (mVar 5) (tC (.int 40))) (tC (.int 36)))) (gName 7)) (tFor (mRng1 (tCons (tOp mAdd (tC (.int 1)) (tOp mMod (tOp mDivG (mVar 5) (tC (.int 1440))) (tC (.int 4)))) tNil)) (gName 8) (mIfS (mAnd (mTest (tOp mLe (tOp mAdd (mVar 6) (mVar 8)) (tC (.int 40)))) (mAnd (mTest (tOp mLe (tOp mAdd (mVar 7) (mVar 8)) (tC (.int 36)))) (mOr (mTrL K (mVar 1)) (mTest (tOp (mIn K true) (tOp mAdd (mVar 7) (mVar 8)) (mVar 3)))))) (tSeq (tDrop (tBM K "list" rAppend (mVar 2) (tCons (tTup (tCons (tOp mAdd (mVar 6) (mVar 8)) (tCons (tOp mAdd (mVar 7) (mVar 8)) tNil))) tNil))) (tDrop (tBM K "list" rAppend (mVar 3) (tCons (tOp mAdd (mVar 7) (mVar 8)) tNil)))) tNext)))))) (tRet (mVar 2)))))
abbrev RD_law_wires (K : PySem.W.Frag) : Prop := ∀ vs H Q E, sp_law_wires K vs H Q E → t_law_wires K { nx := fun _ H' => Q .non H', rt := Q } (start ["_law_cells", "_law_meeting", "_law_wires_here", "_law_known", "_law_cell", "_law_number", "_law_here", "_law_there", "_law_k"] vs) H
theorem len_law_wires {K : PySem.W.Frag} : ∀ vs H Q E, sp_law_wires K vs H Q E → vs.length = 2 := by
  rintro vs H Q E ⟨F, c, _, hc, _⟩; exact ((csn_cons csn_last) : CsN (csCons (tyL tyInt) (csLast tyBl)) 2) hc
def t_law_whole (K : PySem.W.Frag) : TS := (tRet (mAndV (tCB (mIsa K) (tCons (mVar 0) (tCons (tC (.ty "int")) tNil))) (mNotV (tCB (mIsa K) (tCons (mVar 0) (tCons (tC (.ty "bool")) tNil))))))
abbrev RD_law_whole (K : PySem.W.Frag) : Prop := ∀ vs H Q E, sp_law_whole K vs H Q E → t_law_whole K { nx := fun _ H' => Q .non H', rt := Q } (start ["_law_found"] vs) H
theorem len_law_whole {K : PySem.W.Frag} : ∀ vs H Q E, sp_law_whole K vs H Q E → vs.length = 1 := by
  rintro vs H Q E ⟨F, c, _, hc, _⟩; exact (csn_last : CsN (csLast tyInt) 1) hc
def t_law_is_board (K : PySem.W.Frag) : TS := (tSeq (mIfS (mOr (tNot (mTest (tCB (mIsa K) (tCons (mVar 0) (tCons (tC (.ty "list")) tNil))))) (mTest (tOp (mNeK K) (mVar 0) (mVar 1)))) (tRet (tC (.bl false))) tNext) (tSeq (tFor (iAny K (mVar 0)) (gName 2) (mIfS (mOr (tNot (mTest (tCB (mIsa K) (tCons (mVar 2) (tCons (tC (.ty "tuple")) tNil))))) (mOr (tNot (mTest (tCall (sp_law_whole K) [] E0 (tCons (tOp (mIx K) (mVar 2) (tC (.int 0))) tNil)))) (tNot (mTest (tCall (sp_law_whole K) [] E0 (tCons (tOp (mIx K) (mVar 2) (tC (.int 1))) tNil)))))) (tRet (tC (.bl false))) tNext)) (tRet (tC (.bl true)))))
abbrev RD_law_is_board (K : PySem.W.Frag) : Prop := ∀ vs H Q E, sp_law_is_board K vs H Q E → t_law_is_board K { nx := fun _ H' => Q .non H', rt := Q } (start ["_law_found", "_law_due", "_law_wire"] vs) H
theorem len_law_is_board {K : PySem.W.Frag} : ∀ vs H Q E, sp_law_is_board K vs H Q E → vs.length = 2 := by
  rintro vs H Q E ⟨F, c, _, hc, _⟩; exact ((csn_cons csn_last) : CsN (csCons (tyL (tyTup (csCons tyInt (csLast tyInt)))) (csLast (tyL (tyTup (csCons tyInt (csLast tyInt)))))) 2) hc
def t_shown_field (K : PySem.W.Frag) : TS := (tSeq (tAsg (tOp (mIx K) (mVar 0) (tC (.int 0))) (gName 1)) (tSeq (tAsg (tOp (mIx K) (mVar 0) (tC (.int 1))) (gName 2)) (tSeq (mIfS (mTest (tOp (mEqK K) (mVar 1) (mVar 2))) (tRet (tCB (mStr) (tCons (mVar 1) tNil))) tNext) (tRet (tJoin (tJ1 (tUn mFmt (mVar 1)) (tJ1 (tC (tx [45])) (tJ1 (tUn mFmt (mVar 2)) tJ0))))))))
abbrev RD_shown_field (K : PySem.W.Frag) : Prop := ∀ vs H Q E, sp_shown_field K vs H Q E → t_shown_field K { nx := fun _ H' => Q .non H', rt := Q } (start ["field", "first", "last"] vs) H
theorem len_shown_field {K : PySem.W.Frag} : ∀ vs H Q E, sp_shown_field K vs H Q E → vs.length = 1 := by
  rintro vs H Q E ⟨F, c, _, hc, _⟩; exact (csn_last : CsN (csLast (tyTup (csCons tyInt (csLast tyInt)))) 1) hc
def t_shown_piece (K : PySem.W.Frag) : TS := (tSeq (tAsg (tCall (sp_shown_field K) [] E0 (tCons (tTup (tCons (tOp (mIx K) (tOp (mIx K) (mVar 0) (tC (.int 0))) (tC (.int 0))) (tCons (tOp (mIx K) (tOp (mIx K) (mVar 0) (mNeg (tC (.int 1)))) (tC (.int 0))) tNil))) tNil)) (gName 1)) (tSeq (tAsg (tCall (sp_shown_field K) [] E0 (tCons (tTup (tCons (tOp (mIx K) (tOp (mIx K) (mVar 0) (tC (.int 0))) (tC (.int 1))) (tCons (tOp (mIx K) (tOp (mIx K) (mVar 0) (mNeg (tC (.int 1)))) (tC (.int 1))) tNil))) tNil)) (gName 2)) (tRet (tJoin (tJ1 (tUn mFmt (mVar 1)) (tJ1 (tC (tx [62])) (tJ1 (tUn mFmt (mVar 2)) tJ0)))))))
abbrev RD_shown_piece (K : PySem.W.Frag) : Prop := ∀ vs H Q E, sp_shown_piece K vs H Q E → t_shown_piece K { nx := fun _ H' => Q .non H', rt := Q } (start ["wires", "here", "there"] vs) H
theorem len_shown_piece {K : PySem.W.Frag} : ∀ vs H Q E, sp_shown_piece K vs H Q E → vs.length = 1 := by
  rintro vs H Q E ⟨F, c, _, hc, _⟩; exact (csn_last : CsN (csLast (tyL (tyTup (csCons tyInt (csLast tyInt))))) 1) hc
def t_pieces_of (K : PySem.W.Frag) : TS := (tSeq (tAsg (tLst tNil) (gName 1)) (tSeq (tFor (iAny K (mVar 0)) (gName 2) (mIfS (mAnd (mTrL K (mVar 1)) (mTest (tOp (mEqK K) (tOp (mIx K) (tOp (mIx K) (mVar 1) (mNeg (tC (.int 1)))) (mNeg (tC (.int 1)))) (tTup (tCons (tOp mSub (tOp (mIx K) (mVar 2) (tC (.int 0))) (tC (.int 1))) (tCons (tOp mSub (tOp (mIx K) (mVar 2) (tC (.int 1))) (tC (.int 1))) tNil)))))) (tDrop (tBM K "list" rAppend (tOp (mIx K) (mVar 1) (mNeg (tC (.int 1)))) (tCons (mVar 2) tNil))) (tDrop (tBM K "list" rAppend (mVar 1) (tCons (tLst (tCons (mVar 2) tNil)) tNil))))) (tRet (mVar 1))))
abbrev RD_pieces_of (K : PySem.W.Frag) : Prop := ∀ vs H Q E, sp_pieces_of K vs H Q E → t_pieces_of K { nx := fun _ H' => Q .non H', rt := Q } (start ["board", "pieces", "wire"] vs) H
theorem len_pieces_of {K : PySem.W.Frag} : ∀ vs H Q E, sp_pieces_of K vs H Q E → vs.length = 1 := by
  rintro vs H Q E ⟨F, c, _, hc, _⟩; exact (csn_last : CsN (csLast (tyL (tyTup (csCons tyInt (csLast tyInt))))) 1) hc
def t_shown_board (K : PySem.W.Frag) : TS := (tRet (tBM K "str" (mJoin K) (tC (tx [44, 32])) (tCons (tComp ["piece"] [] (iAny K (tCall (sp_pieces_of K) [] E0 (tCons (mVar 0) tNil))) (gName 0) tTrue (tCall (sp_shown_piece K) [] E0 (tCons (mVar 0) tNil))) tNil)))
abbrev RD_shown_board (K : PySem.W.Frag) : Prop := ∀ vs H Q E, sp_shown_board K vs H Q E → t_shown_board K { nx := fun _ H' => Q .non H', rt := Q } (start ["board"] vs) H
theorem len_shown_board {K : PySem.W.Frag} : ∀ vs H Q E, sp_shown_board K vs H Q E → vs.length = 1 := by
  rintro vs H Q E ⟨F, c, _, hc, _⟩; exact (csn_last : CsN (csLast (tyL (tyTup (csCons tyInt (csLast tyInt))))) 1) hc
def t_law_side (K : PySem.W.Frag) : TS := (tSeq (mIfS (mTest (tOp (mEqK K) (mVar 0) (mVar 1))) (tRet (tCB (mStr) (tCons (mVar 0) tNil))) tNext) (tRet (tOp mAdd (tOp mAdd (tCB (mStr) (tCons (mVar 0) tNil)) (tC (tx [45]))) (tCB (mStr) (tCons (mVar 1) tNil)))))
abbrev RD_law_side (K : PySem.W.Frag) : Prop := ∀ vs H Q E, sp_law_side K vs H Q E → t_law_side K { nx := fun _ H' => Q .non H', rt := Q } (start ["_law_first", "_law_last"] vs) H
theorem len_law_side {K : PySem.W.Frag} : ∀ vs H Q E, sp_law_side K vs H Q E → vs.length = 2 := by
  rintro vs H Q E ⟨F, c, _, hc, _⟩; exact ((csn_cons csn_last) : CsN (csCons tyInt (csLast tyInt)) 2) hc
def t_law_piece (K : PySem.W.Frag) : TS := (tSeq (tAsg (tOp (mIx K) (mVar 0) (tC (.int 0))) (gName 1)) (tSeq (tAsg (tOp (mIx K) (mVar 0) (tC (.int 1))) (gName 2)) (tRet (tOp mAdd (tOp mAdd (tCall (sp_law_side K) [] E0 (tCons (tOp (mIx K) (mVar 1) (tC (.int 0))) (tCons (tOp (mIx K) (mVar 2) (tC (.int 0))) tNil))) (tC (tx [62]))) (tCall (sp_law_side K) [] E0 (tCons (tOp (mIx K) (mVar 1) (tC (.int 1))) (tCons (tOp (mIx K) (mVar 2) (tC (.int 1))) tNil)))))))
abbrev RD_law_piece (K : PySem.W.Frag) : Prop := ∀ vs H Q E, sp_law_piece K vs H Q E → t_law_piece K { nx := fun _ H' => Q .non H', rt := Q } (start ["_law_piece_here", "_law_one", "_law_other"] vs) H
theorem len_law_piece {K : PySem.W.Frag} : ∀ vs H Q E, sp_law_piece K vs H Q E → vs.length = 1 := by
  rintro vs H Q E ⟨F, c, _, hc, _⟩; exact (csn_last : CsN (csLast (tyL (tyTup (csCons tyInt (csLast tyInt))))) 1) hc
def t_law (K : PySem.W.Frag) : TS := (tSeq (tAsg (tCall (sp_law_sorted K) [] E0 (tCons (tCall (sp_law_wires K) [] E0 (tCons (tSl (mSl K) (mVar 0) (mPart (tC (.int 1))) (mPart (tC (.int 85)))) (tCons (tC (.bl false)) tNil))) tNil)) (gName 1)) (tSeq (tAsg (tCall (sp_law_cell_at K) [] E0 (tCons (mVar 0) (tCons (tC (.int 0)) tNil))) (gName 2)) (tSeq (tAsg (tCall (sp_law_pieces K) [] E0 (tCons (mVar 1) tNil)) (gName 3)) (tSeq (tAsg (tCall (sp_law_cut K) [] E0 (tCons (mVar 3) (tCons (tOp mMod (tOp mDivG (mVar 2) (tC (.int 2))) (tOp mPow (tC (.int 3)) (tC (.int 40)))) tNil))) (gName 4)) (tSeq (tAsg (tOp mMod (mVar 2) (tOp mAdd (tCB (mLen K) (tCons (mVar 4) tNil)) (tC (.int 1)))) (gName 5)) (tSeq (tAsg (tOp mAdd (tSl (mSl K) (mVar 4) (mPart (mVar 5)) tNoPart) (tSl (mSl K) (mVar 4) tNoPart (mPart (mVar 5)))) (gName 4)) (tSeq (mIfS (mTest (tOp (mEqK K) (tOp mMod (mVar 2) (tC (.int 2))) (tC (.int 1)))) (tAsg (tRev K (mVar 4) (mPart (mNeg (tC (.int 1))))) (gName 4)) tNext) (tSeq (tAsg (tBM K "str" (mJoin K) (tC (tx [44, 32])) (tCons (tComp ["_law_piece_here"] [] (iAny K (mVar 4)) (gName 0) tTrue (tCall (sp_law_piece K) [] E0 (tCons (mVar 0) tNil))) tNil)) (gName 6)) (tSeq (tAsg (tCall (sp_read_board K) [] E0 (tCons (mVar 6) tNil)) (gName 7)) (tSeq (mIfS (tNot (mTest (tCall (sp_law_is_board K) [] E0 (tCons (mVar 7) (tCons (mVar 1) tNil))))) (tRet (tC (.bl false))) tNext) (tSeq (tDrop (tBM K "list" rAppend (mVar 7) (tCons (tTup (tCons (tC (.int 40)) (tCons (tC (.int 36)) tNil))) tNil))) (tSeq (tAsg (tCall (sp_read_board K) [] E0 (tCons (mVar 6) tNil)) (gName 8)) (tSeq (mIfS (tNot (mTest (tCall (sp_law_is_board K) [] E0 (tCons (mVar 8) (tCons (mVar 1) tNil))))) (tRet (tC (.bl false))) tNext) (tRet (tOp (mEqK K) (tCall (sp_shown_board K) [] E0 (tCons (mVar 8) tNil)) (tBM K "str" (mJoin K) (tC (tx [44, 32])) (tCons (tComp ["_law_piece_here"] [] (iAny K (mVar 3)) (gName 0) tTrue (tCall (sp_law_piece K) [] E0 (tCons (mVar 0) tNil))) tNil)))))))))))))))))
abbrev RD_law (K : PySem.W.Frag) : Prop := ∀ vs H Q E, sp_law K vs H Q E → t_law K { nx := fun _ H' => Q .non H', rt := Q } (start ["_law_script", "_law_board", "_law_first", "_law_pieces_here", "_law_some", "_law_at", "_law_text", "_law_found", "_law_again"] vs) H
theorem len_law {K : PySem.W.Frag} : ∀ vs H Q E, sp_law K vs H Q E → vs.length = 1 := by
  intro vs H Q E h; obtain ⟨a, ns, rfl, _⟩ := h; rfl
end K29
namespace K29
open PySem PySem.Spec PyProof.Rows L2
section
variable {P : Program} {w : World} {K : PySem.W.Frag} {mg : Str → Option Value} {base : Heap}
theorem sc_law_sorted : FnScope ["_law_wires_here"] ["_law_wires_here"] (defScope s_law_sorted) := ⟨rfl, rfl, rfl, by decide +kernel, rfl, by decide +kernel, by decide +kernel⟩
theorem tm_law_sorted (B_sorted : Gb mg "sorted") {cdv : Value} {A : Around} {outer : List Env} {s : Shared} {H : Hp} {E : XK} {f : Addr} (hr : Room 0 (A.deeper (envOfC "_law_sorted" (defScope s_law_sorted) s.heap.objs.size f cdv))) :
    (PSs (cxOf CX0 P w K mg base ["_law_wires_here"] "_law_sorted" (defScope s_law_sorted) f cdv A outer s H E).nox (defBody s_law_sorted) (t_law_sorted K)) := 
  (pss_one (ps_ret (pe_comp (cl := []) (lv := ["_law_there", "_law_here"]) (fr := []) rfl ⟨rfl, by decide +kernel, rfl, by decide +kernel, (by intro q hq; cases hq)⟩ (pi_any (pe_bf (call_sortedD rfl) B_sorted (pa_cons (pe_comp (cl := []) (lv := ["_law_wire"]) (fr := []) rfl ⟨rfl, by decide +kernel, rfl, by decide +kernel, (by intro q hq; cases hq)⟩ (pi_any (pe_mvar 0)) (fun _ _ _ _ => (pg_name (i := 0) (show List.Nodup (["_law_wire"] : List Str) from by decide +kernel) rfl (Or.inl rfl))) (fun _ _ _ _ => pif_nil) (fun _ _ _ _ => (pe_tup (pa_cons (pe_ix ix_M (pe_mvar 0) pe_int (fun _ _ => rfl)) (pa_cons (pe_ix ix_M (pe_mvar 0) pe_int (fun _ _ => rfl)) pa_nil))))) pa_nil))) (fun _ _ _ _ => (pg_tupM (n := 2) rfl (pgs_consM (pg_name (i := 0) (show List.Nodup (["_law_there", "_law_here"] : List Str) from by decide +kernel) rfl (Or.inl rfl)) (pgs_consM (pg_name (i := 1) (show List.Nodup (["_law_there", "_law_here"] : List Str) from by decide +kernel) rfl (Or.inl rfl)) pgs_nilM)))) (fun _ _ _ _ => pif_nil) (fun _ _ _ _ => (pe_tup (pa_cons (pe_mvar 1) (pa_cons (pe_mvar 0) pa_nil)))))))
theorem ok_law_sorted (B_sorted : Gb mg "sorted") {f : Addr} {fd : FuncData} (F : Fun K "_law_sorted" "_law_sorted" s_law_sorted f fd) (len : ∀ vs H Q E, sp_law_sorted K vs H Q E → vs.length = 1)
    (rd : ∀ vs H Q E, sp_law_sorted K vs H Q E → t_law_sorted K { nx := fun _ H' => Q .non H', rt := Q } (start ["_law_wires_here"] vs) H) : FnOk P w K mg base CX0 1 f fd ["_law_wires_here"] (sp_law_sorted K) := by
  refine F.ok sc_law_sorted len (fun cdv A outer s H vs Q E hr h => ⟨_, tm_law_sorted B_sorted hr, rd vs H Q E h⟩)
theorem sc_law_cell_at : FnScope ["_law_script", "_law_k"] ["_law_script", "_law_k"] (defScope s_law_cell_at) := ⟨rfl, rfl, rfl, by decide +kernel, rfl, by decide +kernel, by decide +kernel⟩
theorem tm_law_cell_at (B_len : Gb mg "len") {cdv : Value} {A : Around} {outer : List Env} {s : Shared} {H : Hp} {E : XK} {f : Addr} (hr : Room 0 (A.deeper (envOfC "_law_cell_at" (defScope s_law_cell_at) s.heap.objs.size f cdv))) :
    (PSs (cxOf CX0 P w K mg base ["_law_script", "_law_k"] "_law_cell_at" (defScope s_law_cell_at) f cdv A outer s H E).nox (defBody s_law_cell_at) (t_law_cell_at K)) := 
  (pss_cons (ps_ifM (pt_cmpM (op_ltK hr.u60) (pe_mvar 1) (pe_bf call_lenM B_len (pa_cons (pe_mvar 0) pa_nil))) (pss_one (ps_ret (pe_ix ix_M (pe_mvar 0) (pe_mvar 1) (fun _ _ => rfl)))) pss_nil) (pss_one (ps_ret pe_int)))
theorem ok_law_cell_at (B_len : Gb mg "len") {f : Addr} {fd : FuncData} (F : Fun K "_law_cell_at" "_law_cell_at" s_law_cell_at f fd) (len : ∀ vs H Q E, sp_law_cell_at K vs H Q E → vs.length = 2)
    (rd : ∀ vs H Q E, sp_law_cell_at K vs H Q E → t_law_cell_at K { nx := fun _ H' => Q .non H', rt := Q } (start ["_law_script", "_law_k"] vs) H) : FnOk P w K mg base CX0 1 f fd ["_law_script", "_law_k"] (sp_law_cell_at K) := by
  refine F.ok sc_law_cell_at len (fun cdv A outer s H vs Q E hr h => ⟨_, tm_law_cell_at B_len hr, rd vs H Q E h⟩)
theorem sc_law_pieces : FnScope ["_law_board", "_law_pieces_here", "_law_wire"] ["_law_board"] (defScope s_law_pieces) := ⟨rfl, rfl, rfl, by decide +kernel, rfl, by decide +kernel, by decide +kernel⟩
theorem tm_law_pieces  {cdv : Value} {A : Around} {outer : List Env} {s : Shared} {H : Hp} {E : XK} {f : Addr} (hr : Room 0 (A.deeper (envOfC "_law_pieces" (defScope s_law_pieces) s.heap.objs.size f cdv))) :
    (PSs (cxOf CX0 P w K mg base ["_law_board", "_law_pieces_here", "_law_wire"] "_law_pieces" (defScope s_law_pieces) f cdv A outer s H E).nox (defBody s_law_pieces) (t_law_pieces K)) := 
  (pss_cons (ps_set (i := 1) sc_law_pieces.nd rfl (by first | exact Or.inl rfl | exact Or.inr rfl) (pe_lst pa_nil)) (pss_cons (ps_for PassesOwn.never rfl (pi_any (pe_mvar 0)) (pg_name (i := 2) sc_law_pieces.nd rfl (by first | exact Or.inl rfl | exact Or.inr rfl)) (pss_one (ps_ifM (PW.pt (pw_andM (pt_cmpM (op_neK hr.u60) (pe_mvar 1) (pe_lst pa_nil)) (pw_and1 (pt_cmpM (op_eqK hr.u60) (pe_mvar 2) (pe_tup (pa_cons (pe_op op_addM (pe_ix ix_M (pe_ix ix_M (pe_ix ix_M (pe_mvar 1) (pe_neg pe_int) (fun _ _ => rfl)) pe_int (fun _ _ => rfl)) pe_int (fun _ _ => rfl)) pe_int) (pa_cons (pe_op op_addM (pe_ix ix_M (pe_ix ix_M (pe_ix ix_M (pe_mvar 1) (pe_neg pe_int) (fun _ _ => rfl)) pe_int (fun _ _ => rfl)) pe_int (fun _ _ => rfl)) pe_int) pa_nil))))))) (pss_one (ps_asg (pe_mvar 2) (pg_sub (pe_ix ix_M (pe_mvar 1) (pe_neg pe_int) (fun _ _ => rfl)) pe_int set_M))) (pss_one (ps_expr (pe_bm PySem.F.plainAttrs_list PySem.F.slot_list_append PySem.F.type_list_append mt_append (pe_mvar 1) (pa_cons (pe_lst (pa_cons (pe_mvar 2) (pa_cons (pe_mvar 2) pa_nil))) pa_nil))))))) (pss_one (ps_ret (pe_mvar 1)))))
theorem ok_law_pieces  {f : Addr} {fd : FuncData} (F : Fun K "_law_pieces" "_law_pieces" s_law_pieces f fd) (len : ∀ vs H Q E, sp_law_pieces K vs H Q E → vs.length = 1)
    (rd : ∀ vs H Q E, sp_law_pieces K vs H Q E → t_law_pieces K { nx := fun _ H' => Q .non H', rt := Q } (start ["_law_board", "_law_pieces_here", "_law_wire"] vs) H) : FnOk P w K mg base CX0 1 f fd ["_law_board"] (sp_law_pieces K) := by
  refine F.ok sc_law_pieces len (fun cdv A outer s H vs Q E hr h => ⟨_, tm_law_pieces  hr, rd vs H Q E h⟩)
theorem sc_law_cut : FnScope ["_law_pieces_here", "_law_bits", "_law_found", "_law_one", "_law_other", "_law_many", "_law_at"] ["_law_pieces_here", "_law_bits"] (defScope s_law_cut) := ⟨rfl, rfl, rfl, by decide +kernel, rfl, by decide +kernel, by decide +kernel⟩
theorem tm_law_cut (B_min : Gb mg "min") {cdv : Value} {A : Around} {outer : List Env} {s : Shared} {H : Hp} {E : XK} {f : Addr} (hr : Room 0 (A.deeper (envOfC "_law_cut" (defScope s_law_cut) s.heap.objs.size f cdv))) :
    (PSs (cxOf CX0 P w K mg base ["_law_pieces_here", "_law_bits", "_law_found", "_law_one", "_law_other", "_law_many", "_law_at"] "_law_cut" (defScope s_law_cut) f cdv A outer s H E).nox (defBody s_law_cut) (t_law_cut K)) := 
  (pss_cons (ps_set (i := 2) sc_law_cut.nd rfl (by first | exact Or.inl rfl | exact Or.inr rfl) (pe_lst pa_nil)) (pss_cons (ps_for PassesOwn.never rfl (pi_any (pe_mvar 0)) (pg_lst2 rfl (pgs_consM (pg_name (i := 3) sc_law_cut.nd rfl (by first | exact Or.inl rfl | exact Or.inr rfl)) (pgs_consM (pg_name (i := 4) sc_law_cut.nd rfl (by first | exact Or.inl rfl | exact Or.inr rfl)) pgs_nilM))) (pss_cons (ps_set (i := 5) sc_law_cut.nd rfl (by first | exact Or.inl rfl | exact Or.inr rfl) (pe_op op_addM (pe_op op_subM (pe_ix ix_M (pe_mvar 4) pe_int (fun _ _ => rfl)) (pe_ix ix_M (pe_mvar 3) pe_int (fun _ _ => rfl))) pe_int)) (pss_cons (ps_set (i := 6) sc_law_cut.nd rfl (by first | exact Or.inl rfl | exact Or.inr rfl) pe_int) (pss_cons (ps_ifM (pt_cmpM (op_eqK hr.u60) (pe_op op_modM (pe_mvar 1) pe_int) pe_int) (pss_one (ps_set (i := 6) sc_law_cut.nd rfl (by first | exact Or.inl rfl | exact Or.inr rfl) (pe_op op_divG (pe_mvar 5) pe_int))) pss_nil) (pss_cons (ps_ifM (pt_cmpM (op_eqK hr.u60) (pe_op op_modM (pe_mvar 1) pe_int) pe_int) (pss_one (ps_set (i := 6) sc_law_cut.nd rfl (by first | exact Or.inl rfl | exact Or.inr rfl) (pe_bf (call_minM rfl) B_min (pa_cons pe_int (pa_cons (pe_op op_subM (pe_mvar 5) pe_int) pa_nil))))) pss_nil) (pss_cons (ps_ifM (pt_cmpM op_gtM (pe_mvar 6) pe_int) (pss_one (ps_expr (pe_bm PySem.F.plainAttrs_list PySem.F.slot_list_append PySem.F.type_list_append mt_append (pe_mvar 2) (pa_cons (pe_lst (pa_cons (pe_mvar 3) (pa_cons (pe_tup (pa_cons (pe_op op_subM (pe_op op_addM (pe_ix ix_M (pe_mvar 3) pe_int (fun _ _ => rfl)) (pe_mvar 6)) pe_int) (pa_cons (pe_op op_subM (pe_op op_addM (pe_ix ix_M (pe_mvar 3) pe_int (fun _ _ => rfl)) (pe_mvar 6)) pe_int) pa_nil))) pa_nil))) pa_nil)))) pss_nil) (pss_cons (ps_expr (pe_bm PySem.F.plainAttrs_list PySem.F.slot_list_append PySem.F.type_list_append mt_append (pe_mvar 2) (pa_cons (pe_lst (pa_cons (pe_tup (pa_cons (pe_op op_addM (pe_ix ix_M (pe_mvar 3) pe_int (fun _ _ => rfl)) (pe_mvar 6)) (pa_cons (pe_op op_addM (pe_ix ix_M (pe_mvar 3) pe_int (fun _ _ => rfl)) (pe_mvar 6)) pa_nil))) (pa_cons (pe_mvar 4) pa_nil))) pa_nil))) (pss_one (ps_set (i := 1) sc_law_cut.nd rfl (by first | exact Or.inl rfl | exact Or.inr rfl) (pe_op op_divG (pe_mvar 1) pe_int)))))))))) (pss_one (ps_ret (pe_mvar 2)))))
theorem ok_law_cut (B_min : Gb mg "min") {f : Addr} {fd : FuncData} (F : Fun K "_law_cut" "_law_cut" s_law_cut f fd) (len : ∀ vs H Q E, sp_law_cut K vs H Q E → vs.length = 2)
    (rd : ∀ vs H Q E, sp_law_cut K vs H Q E → t_law_cut K { nx := fun _ H' => Q .non H', rt := Q } (start ["_law_pieces_here", "_law_bits", "_law_found", "_law_one", "_law_other", "_law_many", "_law_at"] vs) H) : FnOk P w K mg base CX0 1 f fd ["_law_pieces_here", "_law_bits"] (sp_law_cut K) := by
  refine F.ok sc_law_cut len (fun cdv A outer s H vs Q E hr h => ⟨_, tm_law_cut B_min hr, rd vs H Q E h⟩)
theorem sc_is_whole : FnScope ["value"] ["value"] (defScope s_is_whole) := ⟨rfl, rfl, rfl, by decide +kernel, rfl, by decide +kernel, by decide +kernel⟩
theorem tm_is_whole (B_isinstance : Gb mg "isinstance") (B_int : Gb mg "int") (B_bool : Gb mg "bool") {cdv : Value} {A : Around} {outer : List Env} {s : Shared} {H : Hp} {E : XK} {f : Addr} (hr : Room 0 (A.deeper (envOfC "is_whole" (defScope s_is_whole) s.heap.objs.size f cdv))) :
    (PSs (cxOf CX0 P w K mg base ["value"] "is_whole" (defScope s_is_whole) f cdv A outer s H E).nox (defBody s_is_whole) (t_is_whole K)) := 
  (pss_one (ps_ret (pe_andM (pe_bf call_isa B_isinstance (pa_cons (pe_mvar 0) (pa_cons (pe_ty "int" B_int) pa_nil))) (pe_one (pe_notM (pe_bf call_isa B_isinstance (pa_cons (pe_mvar 0) (pa_cons (pe_ty "bool" B_bool) pa_nil))))))))
theorem ok_is_whole (B_isinstance : Gb mg "isinstance") (B_int : Gb mg "int") (B_bool : Gb mg "bool") {f : Addr} {fd : FuncData} (F : Fun K "is_whole" "is_whole" s_is_whole f fd) (len : ∀ vs H Q E, sp_is_whole K vs H Q E → vs.length = 1)
    (rd : ∀ vs H Q E, sp_is_whole K vs H Q E → t_is_whole K { nx := fun _ H' => Q .non H', rt := Q } (start ["value"] vs) H) : FnOk P w K mg base CX0 1 f fd ["value"] (sp_is_whole K) := by
  refine F.ok sc_is_whole len (fun cdv A outer s H vs Q E hr h => ⟨_, tm_is_whole B_isinstance B_int B_bool hr, rd vs H Q E h⟩)
theorem sc_is_column : FnScope ["value", "most"] ["value", "most"] (defScope s_is_column) := ⟨rfl, rfl, rfl, by decide +kernel, rfl, by decide +kernel, by decide +kernel⟩
theorem tm_is_column (G_is_whole : Gd P w K mg base CX0 1 "is_whole" ["value"] (sp_is_whole K)) {cdv : Value} {A : Around} {outer : List Env} {s : Shared} {H : Hp} {E : XK} {f : Addr} (hr : Room 1 (A.deeper (envOfC "is_column" (defScope s_is_column) s.heap.objs.size f cdv))) :
    (PSs (cxOf CX0 P w K mg base ["value", "most"] "is_column" (defScope s_is_column) f cdv A outer s H E).nox (defBody s_is_column) (t_is_column K)) := 
  (pss_one (ps_ret (pe_andM (pe_callG G_is_whole (hr.mono (j := 1) (by decide)) (pa_cons (pe_mvar 0) pa_nil)) (pe_one (pe_chainM op_leM op_leM pe_int (pe_mvar 0) (pe_mvar 1))))))
theorem ok_is_column (G_is_whole : Gd P w K mg base CX0 1 "is_whole" ["value"] (sp_is_whole K)) {f : Addr} {fd : FuncData} (F : Fun K "is_column" "is_column" s_is_column f fd) (len : ∀ vs H Q E, sp_is_column K vs H Q E → vs.length = 2)
    (rd : ∀ vs H Q E, sp_is_column K vs H Q E → t_is_column K { nx := fun _ H' => Q .non H', rt := Q } (start ["value", "most"] vs) H) : FnOk P w K mg base CX0 2 f fd ["value", "most"] (sp_is_column K) := by
  refine F.ok sc_is_column len (fun cdv A outer s H vs Q E hr h => ⟨_, tm_is_column G_is_whole hr, rd vs H Q E h⟩)
theorem sc_make_board : FnScope ["wires", "wire", "leading"] ["wires"] (defScope s_make_board) := ⟨rfl, rfl, rfl, by decide +kernel, rfl, by decide +kernel, by decide +kernel⟩
theorem tm_make_board (G_is_column : Gd P w K mg base CX0 2 "is_column" ["value", "most"] (sp_is_column K)) (C_CARD_WIDTH : Gc mg "CARD_WIDTH" (.int 40)) (C_BODY_WIDTH : Gc mg "BODY_WIDTH" (.int 36)) (C_NoBoard : Gc mg "NoBoard" (.ref (gA K "NoBoard"))) (M_NoBoard : mg "NoBoard" = some (.ref (gA K "NoBoard"))) (Q_NoBoard : excK K (gA K "NoBoard") = true) (B_sorted : Gb mg "sorted") {cdv : Value} {A : Around} {outer : List Env} {s : Shared} {H : Hp} {E : XK} {f : Addr} (hr : Room 2 (A.deeper (envOfC "make_board" (defScope s_make_board) s.heap.objs.size f cdv))) :
    (PSs (cxOf (CXx P w) P w K mg base ["wires", "wire", "leading"] "make_board" (defScope s_make_board) f cdv A outer s H E) (defBody s_make_board) (t_make_board K E)) := 
  (pss_cons (ps_for PassesOwn.leaving rfl (pi_any (pe_mvar 0)) (pg_name (i := 1) sc_make_board.nd rfl (by first | exact Or.inl rfl | exact Or.inr rfl)) (pss_one (ps_ifM (PW.pt (pw_orM (pt_not (pt_valM (pe_callG G_is_column (hr.mono (j := 2) (by decide)) (pa_cons (pe_ix ix_M (pe_mvar 1) pe_int (fun _ _ => rfl)) (pa_cons (pe_gc C_CARD_WIDTH) pa_nil))))) (pw_or1 (pt_not (pt_valM (pe_callG G_is_column (hr.mono (j := 2) (by decide)) (pa_cons (pe_ix ix_M (pe_mvar 1) pe_int (fun _ _ => rfl)) (pa_cons (pe_gc C_BODY_WIDTH) pa_nil)))))))) (pss_one (ps_raise takes_cx rfl Q_NoBoard M_NoBoard (pa_cons (pe_txt (l := [97, 32, 119, 105, 114, 101, 32, 108, 101, 97, 100, 115, 32, 102, 114, 111, 109, 32, 97, 32, 99, 111, 108, 117, 109, 110, 32, 102, 114, 111, 109, 32, 49, 32, 116, 111, 32, 52, 48, 32, 116, 111, 32, 111, 110, 101, 32, 102, 114, 111, 109, 32, 49, 32, 116, 111, 32, 51, 54])) pa_nil))) pss_nil))) (pss_cons (ps_set (i := 2) sc_make_board.nd rfl (by first | exact Or.inl rfl | exact Or.inr rfl) pe_dnewK) (pss_cons (ps_for PassesOwn.leaving rfl (pi_any (pe_mvar 0)) (pg_name (i := 1) sc_make_board.nd rfl (by first | exact Or.inl rfl | exact Or.inr rfl)) (pss_cons (ps_ifM (pt_dinM hr.u60 (pe_ix ix_M (pe_mvar 1) pe_int (fun _ _ => rfl)) (pe_mvar 2)) (pss_one ps_never) pss_nil) (pss_one (ps_dputM hr.u60 (pe_mvar 2) (pe_ix ix_M (pe_mvar 1) pe_int (fun _ _ => rfl)) (pe_mvar 1))))) (pss_one (ps_ret (pe_comp (cl := _) (lv := ["column"]) (fr := [("leading", 2)]) rfl ⟨rfl, by decide +kernel, rfl, by decide +kernel, (fr_cons (by refine ⟨rfl, by decide +kernel, ?_, ?_⟩ <;> first | exact Or.inl rfl | exact Or.inr rfl) fr_nil)⟩ (pi_any (pe_bf (call_sortedD rfl) B_sorted (pa_cons (pe_mvar 2) pa_nil))) (fun _ _ _ _ => (pg_name (i := 0) (show List.Nodup (["column", "leading"] : List Str) from by decide +kernel) rfl (Or.inl rfl))) (fun _ _ _ _ => pif_nil) (fun _ _ _ _ => (pe_dgetM hr.u60 (pe_mvar 1) (pe_mvar 0)))))))))
theorem ok_make_board (G_is_column : Gd P w K mg base CX0 2 "is_column" ["value", "most"] (sp_is_column K)) (C_CARD_WIDTH : Gc mg "CARD_WIDTH" (.int 40)) (C_BODY_WIDTH : Gc mg "BODY_WIDTH" (.int 36)) (C_NoBoard : Gc mg "NoBoard" (.ref (gA K "NoBoard"))) (M_NoBoard : mg "NoBoard" = some (.ref (gA K "NoBoard"))) (Q_NoBoard : excK K (gA K "NoBoard") = true) (B_sorted : Gb mg "sorted") {f : Addr} {fd : FuncData} (F : Fun K "make_board" "make_board" s_make_board f fd) (len : ∀ vs H Q E, sp_make_board K vs H Q E → vs.length = 1)
    (rd : ∀ vs H Q E, sp_make_board K vs H Q E → t_make_board K E { nx := fun _ H' => Q .non H', rt := Q } (start ["wires", "wire", "leading"] vs) H) : FnOk P w K mg base (CXx P w) 3 f fd ["wires"] (sp_make_board K) := by
  refine F.okX sc_make_board len (fun cdv A outer s H vs Q E hr h => ⟨_, tm_make_board G_is_column C_CARD_WIDTH C_BODY_WIDTH C_NoBoard M_NoBoard Q_NoBoard B_sorted hr, rd vs H Q E h⟩)
theorem sc_number_by : FnScope ["figures", "value", "figure"] ["figures"] (defScope s_number_by) := ⟨rfl, rfl, rfl, by decide +kernel, rfl, by decide +kernel, by decide +kernel⟩
theorem tm_number_by (C_FIGURES : Gc mg "FIGURES" (tx [48, 49, 50, 51, 52, 53, 54, 55, 56, 57])) {cdv : Value} {A : Around} {outer : List Env} {s : Shared} {H : Hp} {E : XK} {f : Addr} (hr : Room 0 (A.deeper (envOfC "number_by" (defScope s_number_by) s.heap.objs.size f cdv))) :
    (PSs (cxOf CX0 P w K mg base ["figures", "value", "figure"] "number_by" (defScope s_number_by) f cdv A outer s H E).nox (defBody s_number_by) (t_number_by K)) := 
  (pss_cons (ps_set (i := 1) sc_number_by.nd rfl (by first | exact Or.inl rfl | exact Or.inr rfl) pe_int) (pss_cons (ps_for PassesOwn.never rfl (pi_any (pe_mvar 0)) (pg_name (i := 2) sc_number_by.nd rfl (by first | exact Or.inl rfl | exact Or.inr rfl)) (pss_one (ps_set (i := 1) sc_number_by.nd rfl (by first | exact Or.inl rfl | exact Or.inr rfl) (pe_op op_addM (pe_op op_mulX (pe_mvar 1) pe_int) (pe_sm PySem.F.slot_str_index PySem.F.type_str_index mt_index (pe_gc C_FIGURES) (pa_cons (pe_mvar 2) pa_nil)))))) (pss_one (ps_ret (pe_mvar 1)))))
theorem ok_number_by (C_FIGURES : Gc mg "FIGURES" (tx [48, 49, 50, 51, 52, 53, 54, 55, 56, 57])) {f : Addr} {fd : FuncData} (F : Fun K "number_by" "number_by" s_number_by f fd) (len : ∀ vs H Q E, sp_number_by K vs H Q E → vs.length = 1)
    (rd : ∀ vs H Q E, sp_number_by K vs H Q E → t_number_by K { nx := fun _ H' => Q .non H', rt := Q } (start ["figures", "value", "figure"] vs) H) : FnOk P w K mg base CX0 1 f fd ["figures"] (sp_number_by K) := by
  refine F.ok sc_number_by len (fun cdv A outer s H vs Q E hr h => ⟨_, tm_number_by C_FIGURES hr, rd vs H Q E h⟩)
theorem sc_read_whole : FnScope ["text"] ["text"] (defScope s_read_whole) := ⟨rfl, rfl, rfl, by decide +kernel, rfl, by decide +kernel, by decide +kernel⟩
theorem tm_read_whole (G_number_by : Gd P w K mg base CX0 1 "number_by" ["figures"] (sp_number_by K)) (C_FIGURES : Gc mg "FIGURES" (tx [48, 49, 50, 51, 52, 53, 54, 55, 56, 57])) (B_all : Gb mg "all") {cdv : Value} {A : Around} {outer : List Env} {s : Shared} {H : Hp} {E : XK} {f : Addr} (hr : Room 1 (A.deeper (envOfC "read_whole" (defScope s_read_whole) s.heap.objs.size f cdv))) :
    (PSs (cxOf CX0 P w K mg base ["text"] "read_whole" (defScope s_read_whole) f cdv A outer s H E).nox (defBody s_read_whole) (t_read_whole K)) := 
  (pss_cons (ps_ifM (PW.pt (pw_orM (pt_cmpM (op_eqK hr.u60) (pe_mvar 0) (pe_txt (l := []))) (pw_or1 (pt_not (pt_valM (pe_bf (call_allM rfl) B_all (pa_cons (pe_comp (cl := []) (lv := ["sign"]) (fr := []) rfl ⟨rfl, by decide +kernel, rfl, by decide +kernel, (by intro q hq; cases hq)⟩ (pi_any (pe_mvar 0)) (fun _ _ _ _ => (pg_name (i := 0) (show List.Nodup (["sign"] : List Str) from by decide +kernel) rfl (Or.inl rfl))) (fun _ _ _ _ => pif_nil) (fun _ _ _ _ => (pe_cmpM op_inM (pe_mvar 0) (pe_gc C_FIGURES)))) pa_nil))))))) (pss_one (ps_ret pe_non)) pss_nil) (pss_cons (ps_ifM (PW.pt (pw_andM (pt_cmpM (op_eqK hr.u60) (pe_ix ix_M (pe_mvar 0) pe_int (fun _ _ => rfl)) (pe_txt (l := [48]))) (pw_and1 (pt_cmpM (op_neK hr.u60) (pe_mvar 0) (pe_txt (l := [48])))))) (pss_one (ps_ret pe_non)) pss_nil) (pss_one (ps_ret (pe_callG G_number_by (hr.mono (j := 1) (by decide)) (pa_cons (pe_mvar 0) pa_nil))))))
theorem ok_read_whole (G_number_by : Gd P w K mg base CX0 1 "number_by" ["figures"] (sp_number_by K)) (C_FIGURES : Gc mg "FIGURES" (tx [48, 49, 50, 51, 52, 53, 54, 55, 56, 57])) (B_all : Gb mg "all") {f : Addr} {fd : FuncData} (F : Fun K "read_whole" "read_whole" s_read_whole f fd) (len : ∀ vs H Q E, sp_read_whole K vs H Q E → vs.length = 1)
    (rd : ∀ vs H Q E, sp_read_whole K vs H Q E → t_read_whole K { nx := fun _ H' => Q .non H', rt := Q } (start ["text"] vs) H) : FnOk P w K mg base CX0 2 f fd ["text"] (sp_read_whole K) := by
  refine F.ok sc_read_whole len (fun cdv A outer s H vs Q E hr h => ⟨_, tm_read_whole G_number_by C_FIGURES B_all hr, rd vs H Q E h⟩)
theorem sc_read_span : FnScope ["text", "most", "columns"] ["text", "most"] (defScope s_read_span) := ⟨rfl, rfl, rfl, by decide +kernel, rfl, by decide +kernel, by decide +kernel⟩
theorem tm_read_span (G_read_whole : Gd P w K mg base CX0 2 "read_whole" ["text"] (sp_read_whole K)) (C_NoBoard : Gc mg "NoBoard" (.ref (gA K "NoBoard"))) (M_NoBoard : mg "NoBoard" = some (.ref (gA K "NoBoard"))) (Q_NoBoard : excK K (gA K "NoBoard") = true) (B_len : Gb mg "len") {cdv : Value} {A : Around} {outer : List Env} {s : Shared} {H : Hp} {E : XK} {f : Addr} (hr : Room 2 (A.deeper (envOfC "read_span" (defScope s_read_span) s.heap.objs.size f cdv))) :
    (PSs (cxOf (CXx P w) P w K mg base ["text", "most", "columns"] "read_span" (defScope s_read_span) f cdv A outer s H E) (defBody s_read_span) (t_read_span K E)) := 
  (pss_cons (ps_setcomp (cl := []) (lv := ["end"]) (fr := []) rfl ⟨rfl, by decide +kernel, rfl, by decide +kernel, (by intro q hq; cases hq)⟩ (pi_any (pe_sm PySem.F.slot_str_split PySem.F.type_str_split mt_splitG (pe_mvar 0) (pa_cons (pe_txt (l := [45])) pa_nil))) (fun _ _ _ _ => (pg_name (i := 0) (show List.Nodup (["end"] : List Str) from by decide +kernel) rfl (Or.inl rfl))) (fun _ _ _ _ => pif_nil) (fun _ _ _ _ => (pe_callG G_read_whole (hr.mono (j := 2) (by decide)) (pa_cons (pe_mvar 0) pa_nil))) (pg_name (i := 2) sc_read_span.nd rfl (by first | exact Or.inl rfl | exact Or.inr rfl))) (pss_cons (ps_ifM (PW.pt (pw_orM (pt_cmpM op_inM pe_non (pe_mvar 2)) (pw_or1 (pt_cmpM op_gtM (pe_bf call_lenM B_len (pa_cons (pe_mvar 2) pa_nil)) pe_int)))) (pss_one (ps_raise takes_cx rfl Q_NoBoard M_NoBoard (pa_cons (pe_joined (pj_cons (pe_fvr (pe_mvar 0)) (pj_cons (pe_txt (l := [32, 119, 114, 105, 116, 101, 115, 32, 110, 111, 32, 99, 111, 108, 117, 109, 110, 115])) pj_nil))) pa_nil))) pss_nil) (pss_cons (ps_ifM (PW.pt (pw_andM (pt_cmpM (op_eqK hr.u60) (pe_bf call_lenM B_len (pa_cons (pe_mvar 2) pa_nil)) pe_int) (pw_and1 (pt_cmpM op_geM (pe_ix ix_M (pe_mvar 2) pe_int (fun _ _ => rfl)) (pe_ix ix_M (pe_mvar 2) pe_int (fun _ _ => rfl)))))) (pss_one (ps_raise takes_cx rfl Q_NoBoard M_NoBoard (pa_cons (pe_joined (pj_cons (pe_txt (l := [116, 104, 101, 32, 99, 111, 108, 117, 109, 110, 115, 32, 111, 102, 32])) (pj_cons (pe_fvr (pe_mvar 0)) (pj_cons (pe_txt (l := [32, 100, 111, 110, 39, 116, 32, 114, 105, 115, 101])) pj_nil)))) pa_nil))) pss_nil) (pss_cons (ps_ifM (PW.pt (pw_orM (pt_cmpM (op_ltK hr.u60) (pe_ix ix_M (pe_mvar 2) pe_int (fun _ _ => rfl)) pe_int) (pw_or1 (pt_cmpM op_gtM (pe_ix ix_M (pe_mvar 2) (pe_neg pe_int) (fun _ _ => rfl)) (pe_mvar 1))))) (pss_one (ps_raise takes_cx rfl Q_NoBoard M_NoBoard (pa_cons (pe_joined (pj_cons (pe_fvr (pe_mvar 0)) (pj_cons (pe_txt (l := [32, 119, 114, 105, 116, 101, 115, 32, 99, 111, 108, 117, 109, 110, 115, 32, 98, 101, 121, 111, 110, 100, 32, 116, 104, 111, 115, 101, 32, 111, 102, 32, 97, 32, 98, 111, 97, 114, 100])) pj_nil))) pa_nil))) pss_nil) (pss_one (ps_ret (pe_tup (pa_cons (pe_ix ix_M (pe_mvar 2) pe_int (fun _ _ => rfl)) (pa_cons (pe_ix ix_M (pe_mvar 2) (pe_neg pe_int) (fun _ _ => rfl)) pa_nil)))))))))
theorem ok_read_span (G_read_whole : Gd P w K mg base CX0 2 "read_whole" ["text"] (sp_read_whole K)) (C_NoBoard : Gc mg "NoBoard" (.ref (gA K "NoBoard"))) (M_NoBoard : mg "NoBoard" = some (.ref (gA K "NoBoard"))) (Q_NoBoard : excK K (gA K "NoBoard") = true) (B_len : Gb mg "len") {f : Addr} {fd : FuncData} (F : Fun K "read_span" "read_span" s_read_span f fd) (len : ∀ vs H Q E, sp_read_span K vs H Q E → vs.length = 2)
    (rd : ∀ vs H Q E, sp_read_span K vs H Q E → t_read_span K E { nx := fun _ H' => Q .non H', rt := Q } (start ["text", "most", "columns"] vs) H) : FnOk P w K mg base (CXx P w) 3 f fd ["text", "most"] (sp_read_span K) := by
  refine F.okX sc_read_span len (fun cdv A outer s H vs Q E hr h => ⟨_, tm_read_span G_read_whole C_NoBoard M_NoBoard Q_NoBoard B_len hr, rd vs H Q E h⟩)
theorem sc_read_piece : FnScope ["text", "ends", "here", "there"] ["text"] (defScope s_read_piece) := ⟨rfl, rfl, rfl, by decide +kernel, rfl, by decide +kernel, by decide +kernel⟩
theorem tm_read_piece (G_read_span : Gd P w K mg base (CXx P w) 3 "read_span" ["text", "most"] (sp_read_span K)) (C_CARD_WIDTH : Gc mg "CARD_WIDTH" (.int 40)) (C_BODY_WIDTH : Gc mg "BODY_WIDTH" (.int 36)) (C_NoBoard : Gc mg "NoBoard" (.ref (gA K "NoBoard"))) (M_NoBoard : mg "NoBoard" = some (.ref (gA K "NoBoard"))) (Q_NoBoard : excK K (gA K "NoBoard") = true) (B_len : Gb mg "len") (B_range : Gb mg "range") {cdv : Value} {A : Around} {outer : List Env} {s : Shared} {H : Hp} {E : XK} {f : Addr} (hr : Room 3 (A.deeper (envOfC "read_piece" (defScope s_read_piece) s.heap.objs.size f cdv))) :
    (PSs (cxOf (CXx P w) P w K mg base ["text", "ends", "here", "there"] "read_piece" (defScope s_read_piece) f cdv A outer s H E) (defBody s_read_piece) (t_read_piece K E)) := 
  (pss_cons (ps_set (i := 1) sc_read_piece.nd rfl (by first | exact Or.inl rfl | exact Or.inr rfl) (pe_sm PySem.F.slot_str_split PySem.F.type_str_split mt_splitG (pe_mvar 0) (pa_cons (pe_txt (l := [62])) pa_nil))) (pss_cons (ps_ifM (pt_cmpM (op_neK hr.u60) (pe_bf call_lenM B_len (pa_cons (pe_mvar 1) pa_nil)) pe_int) (pss_one (ps_raise takes_cx rfl Q_NoBoard M_NoBoard (pa_cons (pe_joined (pj_cons (pe_fvr (pe_mvar 0)) (pj_cons (pe_txt (l := [32, 119, 114, 105, 116, 101, 115, 32, 110, 111, 32, 119, 105, 114, 101, 115])) pj_nil))) pa_nil))) pss_nil) (pss_cons (ps_set (i := 2) sc_read_piece.nd rfl (by first | exact Or.inl rfl | exact Or.inr rfl) (pe_callX G_read_span (hr.mono (j := 3) (by decide)) passes_cx (pa_cons (pe_ix ix_M (pe_mvar 1) pe_int (fun _ _ => rfl)) (pa_cons (pe_gc C_CARD_WIDTH) pa_nil)))) (pss_cons (ps_set (i := 3) sc_read_piece.nd rfl (by first | exact Or.inl rfl | exact Or.inr rfl) (pe_callX G_read_span (hr.mono (j := 3) (by decide)) passes_cx (pa_cons (pe_ix ix_M (pe_mvar 1) pe_int (fun _ _ => rfl)) (pa_cons (pe_gc C_BODY_WIDTH) pa_nil)))) (pss_cons (ps_ifM (pt_cmpM (op_neK hr.u60) (pe_op op_subM (pe_ix ix_M (pe_mvar 2) pe_int (fun _ _ => rfl)) (pe_ix ix_M (pe_mvar 2) pe_int (fun _ _ => rfl))) (pe_op op_subM (pe_ix ix_M (pe_mvar 3) pe_int (fun _ _ => rfl)) (pe_ix ix_M (pe_mvar 3) pe_int (fun _ _ => rfl)))) (pss_one (ps_raise takes_cx rfl Q_NoBoard M_NoBoard (pa_cons (pe_joined (pj_cons (pe_fvr (pe_mvar 0)) (pj_cons (pe_txt (l := [32, 104, 97, 115, 32, 101, 110, 100, 115, 32, 111, 102, 32, 117, 110, 108, 105, 107, 101, 32, 108, 101, 110, 103, 116, 104, 115])) pj_nil))) pa_nil))) pss_nil) (pss_one (ps_ret (pe_comp (cl := _) (lv := ["step"]) (fr := [("here", 2), ("there", 3)]) rfl ⟨rfl, by decide +kernel, rfl, by decide +kernel, (fr_cons (by refine ⟨rfl, by decide +kernel, ?_, ?_⟩ <;> first | exact Or.inl rfl | exact Or.inr rfl) (fr_cons (by refine ⟨rfl, by decide +kernel, ?_, ?_⟩ <;> first | exact Or.inl rfl | exact Or.inr rfl) fr_nil))⟩ (pi_rngM1 B_range (pa_cons (pe_op op_addM (pe_op op_subM (pe_ix ix_M (pe_mvar 2) pe_int (fun _ _ => rfl)) (pe_ix ix_M (pe_mvar 2) pe_int (fun _ _ => rfl))) pe_int) pa_nil)) (fun _ _ _ _ => (pg_name (i := 0) (show List.Nodup (["step", "here", "there"] : List Str) from by decide +kernel) rfl (Or.inl rfl))) (fun _ _ _ _ => pif_nil) (fun _ _ _ _ => (pe_tup (pa_cons (pe_op op_addM (pe_ix ix_M (pe_mvar 1) pe_int (fun _ _ => rfl)) (pe_mvar 0)) (pa_cons (pe_op op_addM (pe_ix ix_M (pe_mvar 2) pe_int (fun _ _ => rfl)) (pe_mvar 0)) pa_nil))))))))))))
theorem ok_read_piece (G_read_span : Gd P w K mg base (CXx P w) 3 "read_span" ["text", "most"] (sp_read_span K)) (C_CARD_WIDTH : Gc mg "CARD_WIDTH" (.int 40)) (C_BODY_WIDTH : Gc mg "BODY_WIDTH" (.int 36)) (C_NoBoard : Gc mg "NoBoard" (.ref (gA K "NoBoard"))) (M_NoBoard : mg "NoBoard" = some (.ref (gA K "NoBoard"))) (Q_NoBoard : excK K (gA K "NoBoard") = true) (B_len : Gb mg "len") (B_range : Gb mg "range") {f : Addr} {fd : FuncData} (F : Fun K "read_piece" "read_piece" s_read_piece f fd) (len : ∀ vs H Q E, sp_read_piece K vs H Q E → vs.length = 1)
    (rd : ∀ vs H Q E, sp_read_piece K vs H Q E → t_read_piece K E { nx := fun _ H' => Q .non H', rt := Q } (start ["text", "ends", "here", "there"] vs) H) : FnOk P w K mg base (CXx P w) 4 f fd ["text"] (sp_read_piece K) := by
  refine F.okX sc_read_piece len (fun cdv A outer s H vs Q E hr h => ⟨_, tm_read_piece G_read_span C_CARD_WIDTH C_BODY_WIDTH C_NoBoard M_NoBoard Q_NoBoard B_len B_range hr, rd vs H Q E h⟩)
theorem sc_read_board : FnScope ["text", "wires", "piece"] ["text"] (defScope s_read_board) := ⟨rfl, rfl, rfl, by decide +kernel, rfl, by decide +kernel, by decide +kernel⟩
theorem tm_read_board (G_read_piece : Gd P w K mg base (CXx P w) 4 "read_piece" ["text"] (sp_read_piece K)) (G_make_board : Gd P w K mg base (CXx P w) 3 "make_board" ["wires"] (sp_make_board K)) {cdv : Value} {A : Around} {outer : List Env} {s : Shared} {H : Hp} {E : XK} {f : Addr} (hr : Room 4 (A.deeper (envOfC "read_board" (defScope s_read_board) s.heap.objs.size f cdv))) :
    (PSs (cxOf (CXx P w) P w K mg base ["text", "wires", "piece"] "read_board" (defScope s_read_board) f cdv A outer s H E) (defBody s_read_board) (t_read_board K E)) := 
  (pss_cons (ps_ifM (pt_cmpM (op_eqK hr.u60) (pe_mvar 0) (pe_txt (l := []))) (pss_one (ps_ret (pe_lst pa_nil))) pss_nil) (pss_cons (ps_set (i := 1) sc_read_board.nd rfl (by first | exact Or.inl rfl | exact Or.inr rfl) (pe_lst pa_nil)) (pss_cons (ps_for PassesOwn.leaving rfl (pi_any (pe_sm PySem.F.slot_str_split PySem.F.type_str_split mt_splitG (pe_mvar 0) (pa_cons (pe_txt (l := [44, 32])) pa_nil))) (pg_name (i := 2) sc_read_board.nd rfl (by first | exact Or.inl rfl | exact Or.inr rfl)) (pss_one (ps_expr (pe_bm PySem.F.plainAttrs_list PySem.F.slot_list_extend PySem.F.type_list_extend mt_extend (pe_mvar 1) (pa_cons (pe_callX G_read_piece (hr.mono (j := 4) (by decide)) passes_cx (pa_cons (pe_mvar 2) pa_nil)) pa_nil))))) (pss_one (ps_ret (pe_callX G_make_board (hr.mono (j := 3) (by decide)) passes_cx (pa_cons (pe_mvar 1) pa_nil)))))))
theorem ok_read_board (G_read_piece : Gd P w K mg base (CXx P w) 4 "read_piece" ["text"] (sp_read_piece K)) (G_make_board : Gd P w K mg base (CXx P w) 3 "make_board" ["wires"] (sp_make_board K)) {f : Addr} {fd : FuncData} (F : Fun K "read_board" "read_board" s_read_board f fd) (len : ∀ vs H Q E, sp_read_board K vs H Q E → vs.length = 1)
    (rd : ∀ vs H Q E, sp_read_board K vs H Q E → t_read_board K E { nx := fun _ H' => Q .non H', rt := Q } (start ["text", "wires", "piece"] vs) H) : FnOk P w K mg base (CXx P w) 5 f fd ["text"] (sp_read_board K) := by
  refine F.okX sc_read_board len (fun cdv A outer s H vs Q E hr h => ⟨_, tm_read_board G_read_piece G_make_board hr, rd vs H Q E h⟩)
theorem sc_law_wires : FnScope ["_law_cells", "_law_meeting", "_law_wires_here", "_law_known", "_law_cell", "_law_number", "_law_here", "_law_there", "_law_k"] ["_law_cells", "_law_meeting"] (defScope s_law_wires) := ⟨rfl, rfl, rfl, by decide +kernel, rfl, by decide +kernel, by decide +kernel⟩
theorem tm_law_wires (B_range : Gb mg "range") {cdv : Value} {A : Around} {outer : List Env} {s : Shared} {H : Hp} {E : XK} {f : Addr} (hr : Room 0 (A.deeper (envOfC "_law_wires" (defScope s_law_wires) s.heap.objs.size f cdv))) :
    (PSs (cxOf CX0 P w K mg base ["_law_cells", "_law_meeting", "_law_wires_here", "_law_known", "_law_cell", "_law_number", "_law_here", "_law_there", "_law_k"] "_law_wires" (defScope s_law_wires) f cdv A outer s H E).nox (defBody s_law_wires) (t_law_wires K)) := 
  (pss_cons (ps_set (i := 2) sc_law_wires.nd rfl (by first | exact Or.inl rfl | exact Or.inr rfl) (pe_lst pa_nil)) (pss_cons (ps_set (i := 3) sc_law_wires.nd rfl (by first | exact Or.inl rfl | exact Or.inr rfl) (pe_lst pa_nil)) (pss_cons (ps_for PassesOwn.never rfl (pi_any (pe_mvar 0)) (pg_name (i := 4) sc_law_wires.nd rfl (by first | exact Or.inl rfl | exact Or.inr rfl)) (pss_cons (ps_set (i := 5) sc_law_wires.nd rfl (by first | exact Or.inl rfl | exact Or.inr rfl) (pe_op op_modM (pe_op op_mulX (pe_op op_modM (pe_mvar 4) pe_int) pe_int) pe_int)) (pss_cons (ps_set (i := 6) sc_law_wires.nd rfl (by first | exact Or.inl rfl | exact Or.inr rfl) (pe_op op_addM pe_int (pe_op op_modM (pe_mvar 5) pe_int))) (pss_cons (ps_set (i := 7) sc_law_wires.nd rfl (by first | exact Or.inl rfl | exact Or.inr rfl) (pe_op op_addM pe_int (pe_op op_modM (pe_op op_divG (pe_mvar 5) pe_int) pe_int))) (pss_one (ps_for PassesOwn.never rfl (pi_rngM1 B_range (pa_cons (pe_op op_addM pe_int (pe_op op_modM (pe_op op_divG (pe_mvar 5) pe_int) pe_int)) pa_nil)) (pg_name (i := 8) sc_law_wires.nd rfl (by first | exact Or.inl rfl | exact Or.inr rfl)) (pss_one (ps_ifM (PW.pt (pw_andM (pt_cmpM op_leM (pe_op op_addM (pe_mvar 6) (pe_mvar 8)) pe_int) (pw_andM (pt_cmpM op_leM (pe_op op_addM (pe_mvar 7) (pe_mvar 8)) pe_int) (pw_and1 (PW.pt (pw_orM (pt_trL (pe_mvar 1)) (pw_or1 (pt_cmpM op_notInM (pe_op op_addM (pe_mvar 7) (pe_mvar 8)) (pe_mvar 3))))))))) (pss_cons (ps_expr (pe_bm PySem.F.plainAttrs_list PySem.F.slot_list_append PySem.F.type_list_append mt_append (pe_mvar 2) (pa_cons (pe_tup (pa_cons (pe_op op_addM (pe_mvar 6) (pe_mvar 8)) (pa_cons (pe_op op_addM (pe_mvar 7) (pe_mvar 8)) pa_nil))) pa_nil))) (pss_one (ps_expr (pe_bm PySem.F.plainAttrs_list PySem.F.slot_list_append PySem.F.type_list_append mt_append (pe_mvar 3) (pa_cons (pe_op op_addM (pe_mvar 7) (pe_mvar 8)) pa_nil))))) pss_nil)))))))) (pss_one (ps_ret (pe_mvar 2))))))
theorem ok_law_wires (B_range : Gb mg "range") {f : Addr} {fd : FuncData} (F : Fun K "_law_wires" "_law_wires" s_law_wires f fd) (len : ∀ vs H Q E, sp_law_wires K vs H Q E → vs.length = 2)
    (rd : ∀ vs H Q E, sp_law_wires K vs H Q E → t_law_wires K { nx := fun _ H' => Q .non H', rt := Q } (start ["_law_cells", "_law_meeting", "_law_wires_here", "_law_known", "_law_cell", "_law_number", "_law_here", "_law_there", "_law_k"] vs) H) : FnOk P w K mg base CX0 1 f fd ["_law_cells", "_law_meeting"] (sp_law_wires K) := by
  refine F.ok sc_law_wires len (fun cdv A outer s H vs Q E hr h => ⟨_, tm_law_wires B_range hr, rd vs H Q E h⟩)
theorem sc_law_whole : FnScope ["_law_found"] ["_law_found"] (defScope s_law_whole) := ⟨rfl, rfl, rfl, by decide +kernel, rfl, by decide +kernel, by decide +kernel⟩
theorem tm_law_whole (B_isinstance : Gb mg "isinstance") (B_int : Gb mg "int") (B_bool : Gb mg "bool") {cdv : Value} {A : Around} {outer : List Env} {s : Shared} {H : Hp} {E : XK} {f : Addr} (hr : Room 0 (A.deeper (envOfC "_law_whole" (defScope s_law_whole) s.heap.objs.size f cdv))) :
    (PSs (cxOf CX0 P w K mg base ["_law_found"] "_law_whole" (defScope s_law_whole) f cdv A outer s H E).nox (defBody s_law_whole) (t_law_whole K)) := 
  (pss_one (ps_ret (pe_andM (pe_bf call_isa B_isinstance (pa_cons (pe_mvar 0) (pa_cons (pe_ty "int" B_int) pa_nil))) (pe_one (pe_notM (pe_bf call_isa B_isinstance (pa_cons (pe_mvar 0) (pa_cons (pe_ty "bool" B_bool) pa_nil))))))))
theorem ok_law_whole (B_isinstance : Gb mg "isinstance") (B_int : Gb mg "int") (B_bool : Gb mg "bool") {f : Addr} {fd : FuncData} (F : Fun K "_law_whole" "_law_whole" s_law_whole f fd) (len : ∀ vs H Q E, sp_law_whole K vs H Q E → vs.length = 1)
    (rd : ∀ vs H Q E, sp_law_whole K vs H Q E → t_law_whole K { nx := fun _ H' => Q .non H', rt := Q } (start ["_law_found"] vs) H) : FnOk P w K mg base CX0 1 f fd ["_law_found"] (sp_law_whole K) := by
  refine F.ok sc_law_whole len (fun cdv A outer s H vs Q E hr h => ⟨_, tm_law_whole B_isinstance B_int B_bool hr, rd vs H Q E h⟩)
theorem sc_law_is_board : FnScope ["_law_found", "_law_due", "_law_wire"] ["_law_found", "_law_due"] (defScope s_law_is_board) := ⟨rfl, rfl, rfl, by decide +kernel, rfl, by decide +kernel, by decide +kernel⟩
theorem tm_law_is_board (G_law_whole : Gd P w K mg base CX0 1 "_law_whole" ["_law_found"] (sp_law_whole K)) (B_isinstance : Gb mg "isinstance") (B_list : Gb mg "list") (B_tuple : Gb mg "tuple") {cdv : Value} {A : Around} {outer : List Env} {s : Shared} {H : Hp} {E : XK} {f : Addr} (hr : Room 1 (A.deeper (envOfC "_law_is_board" (defScope s_law_is_board) s.heap.objs.size f cdv))) :
    (PSs (cxOf CX0 P w K mg base ["_law_found", "_law_due", "_law_wire"] "_law_is_board" (defScope s_law_is_board) f cdv A outer s H E).nox (defBody s_law_is_board) (t_law_is_board K)) := 
  (pss_cons (ps_ifM (PW.pt (pw_orM (pt_not (pt_valM (pe_bf call_isa B_isinstance (pa_cons (pe_mvar 0) (pa_cons (pe_ty "list" B_list) pa_nil))))) (pw_or1 (pt_cmpM (op_neK hr.u60) (pe_mvar 0) (pe_mvar 1))))) (pss_one (ps_ret pe_bl)) pss_nil) (pss_cons (ps_for PassesOwn.never rfl (pi_any (pe_mvar 0)) (pg_name (i := 2) sc_law_is_board.nd rfl (by first | exact Or.inl rfl | exact Or.inr rfl)) (pss_one (ps_ifM (PW.pt (pw_orM (pt_not (pt_valM (pe_bf call_isa B_isinstance (pa_cons (pe_mvar 2) (pa_cons (pe_ty "tuple" B_tuple) pa_nil))))) (pw_orM (pt_not (pt_valM (pe_callG G_law_whole (hr.mono (j := 1) (by decide)) (pa_cons (pe_ix ix_M (pe_mvar 2) pe_int (fun _ _ => rfl)) pa_nil)))) (pw_or1 (pt_not (pt_valM (pe_callG G_law_whole (hr.mono (j := 1) (by decide)) (pa_cons (pe_ix ix_M (pe_mvar 2) pe_int (fun _ _ => rfl)) pa_nil)))))))) (pss_one (ps_ret pe_bl)) pss_nil))) (pss_one (ps_ret pe_bl))))
theorem ok_law_is_board (G_law_whole : Gd P w K mg base CX0 1 "_law_whole" ["_law_found"] (sp_law_whole K)) (B_isinstance : Gb mg "isinstance") (B_list : Gb mg "list") (B_tuple : Gb mg "tuple") {f : Addr} {fd : FuncData} (F : Fun K "_law_is_board" "_law_is_board" s_law_is_board f fd) (len : ∀ vs H Q E, sp_law_is_board K vs H Q E → vs.length = 2)
    (rd : ∀ vs H Q E, sp_law_is_board K vs H Q E → t_law_is_board K { nx := fun _ H' => Q .non H', rt := Q } (start ["_law_found", "_law_due", "_law_wire"] vs) H) : FnOk P w K mg base CX0 2 f fd ["_law_found", "_law_due"] (sp_law_is_board K) := by
  refine F.ok sc_law_is_board len (fun cdv A outer s H vs Q E hr h => ⟨_, tm_law_is_board G_law_whole B_isinstance B_list B_tuple hr, rd vs H Q E h⟩)
theorem sc_shown_field : FnScope ["field", "first", "last"] ["field"] (defScope s_shown_field) := ⟨rfl, rfl, rfl, by decide +kernel, rfl, by decide +kernel, by decide +kernel⟩
theorem tm_shown_field (B_str : Gb mg "str") {cdv : Value} {A : Around} {outer : List Env} {s : Shared} {H : Hp} {E : XK} {f : Addr} (hr : Room 0 (A.deeper (envOfC "shown_field" (defScope s_shown_field) s.heap.objs.size f cdv))) :
    (PSs (cxOf CX0 P w K mg base ["field", "first", "last"] "shown_field" (defScope s_shown_field) f cdv A outer s H E).nox (defBody s_shown_field) (t_shown_field K)) := 
  (pss_cons (ps_set (i := 1) sc_shown_field.nd rfl (by first | exact Or.inl rfl | exact Or.inr rfl) (pe_ix ix_M (pe_mvar 0) pe_int (fun _ _ => rfl))) (pss_cons (ps_set (i := 2) sc_shown_field.nd rfl (by first | exact Or.inl rfl | exact Or.inr rfl) (pe_ix ix_M (pe_mvar 0) pe_int (fun _ _ => rfl))) (pss_cons (ps_ifM (pt_cmpM (op_eqK hr.u60) (pe_mvar 1) (pe_mvar 2)) (pss_one (ps_ret (pe_tf "str" call_strM B_str (pa_cons (pe_mvar 1) pa_nil)))) pss_nil) (pss_one (ps_ret (pe_joined (pj_cons (pe_fvp (pe_mvar 1)) (pj_cons (pe_txt (l := [45])) (pj_cons (pe_fvp (pe_mvar 2)) pj_nil)))))))))
theorem ok_shown_field (B_str : Gb mg "str") {f : Addr} {fd : FuncData} (F : Fun K "shown_field" "shown_field" s_shown_field f fd) (len : ∀ vs H Q E, sp_shown_field K vs H Q E → vs.length = 1)
    (rd : ∀ vs H Q E, sp_shown_field K vs H Q E → t_shown_field K { nx := fun _ H' => Q .non H', rt := Q } (start ["field", "first", "last"] vs) H) : FnOk P w K mg base CX0 1 f fd ["field"] (sp_shown_field K) := by
  refine F.ok sc_shown_field len (fun cdv A outer s H vs Q E hr h => ⟨_, tm_shown_field B_str hr, rd vs H Q E h⟩)
theorem sc_shown_piece : FnScope ["wires", "here", "there"] ["wires"] (defScope s_shown_piece) := ⟨rfl, rfl, rfl, by decide +kernel, rfl, by decide +kernel, by decide +kernel⟩
theorem tm_shown_piece (G_shown_field : Gd P w K mg base CX0 1 "shown_field" ["field"] (sp_shown_field K)) {cdv : Value} {A : Around} {outer : List Env} {s : Shared} {H : Hp} {E : XK} {f : Addr} (hr : Room 1 (A.deeper (envOfC "shown_piece" (defScope s_shown_piece) s.heap.objs.size f cdv))) :
    (PSs (cxOf CX0 P w K mg base ["wires", "here", "there"] "shown_piece" (defScope s_shown_piece) f cdv A outer s H E).nox (defBody s_shown_piece) (t_shown_piece K)) := 
  (pss_cons (ps_set (i := 1) sc_shown_piece.nd rfl (by first | exact Or.inl rfl | exact Or.inr rfl) (pe_callG G_shown_field (hr.mono (j := 1) (by decide)) (pa_cons (pe_tup (pa_cons (pe_ix ix_M (pe_ix ix_M (pe_mvar 0) pe_int (fun _ _ => rfl)) pe_int (fun _ _ => rfl)) (pa_cons (pe_ix ix_M (pe_ix ix_M (pe_mvar 0) (pe_neg pe_int) (fun _ _ => rfl)) pe_int (fun _ _ => rfl)) pa_nil))) pa_nil))) (pss_cons (ps_set (i := 2) sc_shown_piece.nd rfl (by first | exact Or.inl rfl | exact Or.inr rfl) (pe_callG G_shown_field (hr.mono (j := 1) (by decide)) (pa_cons (pe_tup (pa_cons (pe_ix ix_M (pe_ix ix_M (pe_mvar 0) pe_int (fun _ _ => rfl)) pe_int (fun _ _ => rfl)) (pa_cons (pe_ix ix_M (pe_ix ix_M (pe_mvar 0) (pe_neg pe_int) (fun _ _ => rfl)) pe_int (fun _ _ => rfl)) pa_nil))) pa_nil))) (pss_one (ps_ret (pe_joined (pj_cons (pe_fvp (pe_mvar 1)) (pj_cons (pe_txt (l := [62])) (pj_cons (pe_fvp (pe_mvar 2)) pj_nil))))))))
theorem ok_shown_piece (G_shown_field : Gd P w K mg base CX0 1 "shown_field" ["field"] (sp_shown_field K)) {f : Addr} {fd : FuncData} (F : Fun K "shown_piece" "shown_piece" s_shown_piece f fd) (len : ∀ vs H Q E, sp_shown_piece K vs H Q E → vs.length = 1)
    (rd : ∀ vs H Q E, sp_shown_piece K vs H Q E → t_shown_piece K { nx := fun _ H' => Q .non H', rt := Q } (start ["wires", "here", "there"] vs) H) : FnOk P w K mg base CX0 2 f fd ["wires"] (sp_shown_piece K) := by
  refine F.ok sc_shown_piece len (fun cdv A outer s H vs Q E hr h => ⟨_, tm_shown_piece G_shown_field hr, rd vs H Q E h⟩)
theorem sc_pieces_of : FnScope ["board", "pieces", "wire"] ["board"] (defScope s_pieces_of) := ⟨rfl, rfl, rfl, by decide +kernel, rfl, by decide +kernel, by decide +kernel⟩
theorem tm_pieces_of  {cdv : Value} {A : Around} {outer : List Env} {s : Shared} {H : Hp} {E : XK} {f : Addr} (hr : Room 0 (A.deeper (envOfC "pieces_of" (defScope s_pieces_of) s.heap.objs.size f cdv))) :
    (PSs (cxOf CX0 P w K mg base ["board", "pieces", "wire"] "pieces_of" (defScope s_pieces_of) f cdv A outer s H E).nox (defBody s_pieces_of) (t_pieces_of K)) := 
  (pss_cons (ps_set (i := 1) sc_pieces_of.nd rfl (by first | exact Or.inl rfl | exact Or.inr rfl) (pe_lst pa_nil)) (pss_cons (ps_for PassesOwn.never rfl (pi_any (pe_mvar 0)) (pg_name (i := 2) sc_pieces_of.nd rfl (by first | exact Or.inl rfl | exact Or.inr rfl)) (pss_one (ps_ifM (PW.pt (pw_andM (pt_trL (pe_mvar 1)) (pw_and1 (pt_cmpM (op_eqK hr.u60) (pe_ix ix_M (pe_ix ix_M (pe_mvar 1) (pe_neg pe_int) (fun _ _ => rfl)) (pe_neg pe_int) (fun _ _ => rfl)) (pe_tup (pa_cons (pe_op op_subM (pe_ix ix_M (pe_mvar 2) pe_int (fun _ _ => rfl)) pe_int) (pa_cons (pe_op op_subM (pe_ix ix_M (pe_mvar 2) pe_int (fun _ _ => rfl)) pe_int) pa_nil))))))) (pss_one (ps_expr (pe_bm PySem.F.plainAttrs_list PySem.F.slot_list_append PySem.F.type_list_append mt_append (pe_ix ix_M (pe_mvar 1) (pe_neg pe_int) (fun _ _ => rfl)) (pa_cons (pe_mvar 2) pa_nil)))) (pss_one (ps_expr (pe_bm PySem.F.plainAttrs_list PySem.F.slot_list_append PySem.F.type_list_append mt_append (pe_mvar 1) (pa_cons (pe_lst (pa_cons (pe_mvar 2) pa_nil)) pa_nil))))))) (pss_one (ps_ret (pe_mvar 1)))))
theorem ok_pieces_of  {f : Addr} {fd : FuncData} (F : Fun K "pieces_of" "pieces_of" s_pieces_of f fd) (len : ∀ vs H Q E, sp_pieces_of K vs H Q E → vs.length = 1)
    (rd : ∀ vs H Q E, sp_pieces_of K vs H Q E → t_pieces_of K { nx := fun _ H' => Q .non H', rt := Q } (start ["board", "pieces", "wire"] vs) H) : FnOk P w K mg base CX0 1 f fd ["board"] (sp_pieces_of K) := by
  refine F.ok sc_pieces_of len (fun cdv A outer s H vs Q E hr h => ⟨_, tm_pieces_of  hr, rd vs H Q E h⟩)
theorem sc_shown_board : FnScope ["board"] ["board"] (defScope s_shown_board) := ⟨rfl, rfl, rfl, by decide +kernel, rfl, by decide +kernel, by decide +kernel⟩
theorem tm_shown_board (G_pieces_of : Gd P w K mg base CX0 1 "pieces_of" ["board"] (sp_pieces_of K)) (G_shown_piece : Gd P w K mg base CX0 2 "shown_piece" ["wires"] (sp_shown_piece K)) {cdv : Value} {A : Around} {outer : List Env} {s : Shared} {H : Hp} {E : XK} {f : Addr} (hr : Room 2 (A.deeper (envOfC "shown_board" (defScope s_shown_board) s.heap.objs.size f cdv))) :
    (PSs (cxOf CX0 P w K mg base ["board"] "shown_board" (defScope s_shown_board) f cdv A outer s H E).nox (defBody s_shown_board) (t_shown_board K)) := 
  (pss_one (ps_ret (pe_sm PySem.F.slot_str_join PySem.F.type_str_join mt_join (pe_txt (l := [44, 32])) (pa_cons (pe_comp (cl := []) (lv := ["piece"]) (fr := []) rfl ⟨rfl, by decide +kernel, rfl, by decide +kernel, (by intro q hq; cases hq)⟩ (pi_any (pe_callG G_pieces_of (hr.mono (j := 1) (by decide)) (pa_cons (pe_mvar 0) pa_nil))) (fun _ _ _ _ => (pg_name (i := 0) (show List.Nodup (["piece"] : List Str) from by decide +kernel) rfl (Or.inl rfl))) (fun _ _ _ _ => pif_nil) (fun _ _ _ _ => (pe_callG G_shown_piece (hr.mono (j := 2) (by decide)) (pa_cons (pe_mvar 0) pa_nil)))) pa_nil))))
theorem ok_shown_board (G_pieces_of : Gd P w K mg base CX0 1 "pieces_of" ["board"] (sp_pieces_of K)) (G_shown_piece : Gd P w K mg base CX0 2 "shown_piece" ["wires"] (sp_shown_piece K)) {f : Addr} {fd : FuncData} (F : Fun K "shown_board" "shown_board" s_shown_board f fd) (len : ∀ vs H Q E, sp_shown_board K vs H Q E → vs.length = 1)
    (rd : ∀ vs H Q E, sp_shown_board K vs H Q E → t_shown_board K { nx := fun _ H' => Q .non H', rt := Q } (start ["board"] vs) H) : FnOk P w K mg base CX0 3 f fd ["board"] (sp_shown_board K) := by
  refine F.ok sc_shown_board len (fun cdv A outer s H vs Q E hr h => ⟨_, tm_shown_board G_pieces_of G_shown_piece hr, rd vs H Q E h⟩)
theorem sc_law_side : FnScope ["_law_first", "_law_last"] ["_law_first", "_law_last"] (defScope s_law_side) := ⟨rfl, rfl, rfl, by decide +kernel, rfl, by decide +kernel, by decide +kernel⟩
theorem tm_law_side (B_str : Gb mg "str") {cdv : Value} {A : Around} {outer : List Env} {s : Shared} {H : Hp} {E : XK} {f : Addr} (hr : Room 0 (A.deeper (envOfC "_law_side" (defScope s_law_side) s.heap.objs.size f cdv))) :
    (PSs (cxOf CX0 P w K mg base ["_law_first", "_law_last"] "_law_side" (defScope s_law_side) f cdv A outer s H E).nox (defBody s_law_side) (t_law_side K)) := 
  (pss_cons (ps_ifM (pt_cmpM (op_eqK hr.u60) (pe_mvar 0) (pe_mvar 1)) (pss_one (ps_ret (pe_tf "str" call_strM B_str (pa_cons (pe_mvar 0) pa_nil)))) pss_nil) (pss_one (ps_ret (pe_op op_addM (pe_op op_addM (pe_tf "str" call_strM B_str (pa_cons (pe_mvar 0) pa_nil)) (pe_txt (l := [45]))) (pe_tf "str" call_strM B_str (pa_cons (pe_mvar 1) pa_nil))))))
theorem ok_law_side (B_str : Gb mg "str") {f : Addr} {fd : FuncData} (F : Fun K "_law_side" "_law_side" s_law_side f fd) (len : ∀ vs H Q E, sp_law_side K vs H Q E → vs.length = 2)
    (rd : ∀ vs H Q E, sp_law_side K vs H Q E → t_law_side K { nx := fun _ H' => Q .non H', rt := Q } (start ["_law_first", "_law_last"] vs) H) : FnOk P w K mg base CX0 1 f fd ["_law_first", "_law_last"] (sp_law_side K) := by
  refine F.ok sc_law_side len (fun cdv A outer s H vs Q E hr h => ⟨_, tm_law_side B_str hr, rd vs H Q E h⟩)
theorem sc_law_piece : FnScope ["_law_piece_here", "_law_one", "_law_other"] ["_law_piece_here"] (defScope s_law_piece) := ⟨rfl, rfl, rfl, by decide +kernel, rfl, by decide +kernel, by decide +kernel⟩
theorem tm_law_piece (G_law_side : Gd P w K mg base CX0 1 "_law_side" ["_law_first", "_law_last"] (sp_law_side K)) {cdv : Value} {A : Around} {outer : List Env} {s : Shared} {H : Hp} {E : XK} {f : Addr} (hr : Room 1 (A.deeper (envOfC "_law_piece" (defScope s_law_piece) s.heap.objs.size f cdv))) :
    (PSs (cxOf CX0 P w K mg base ["_law_piece_here", "_law_one", "_law_other"] "_law_piece" (defScope s_law_piece) f cdv A outer s H E).nox (defBody s_law_piece) (t_law_piece K)) := 
  (pss_cons (ps_set (i := 1) sc_law_piece.nd rfl (by first | exact Or.inl rfl | exact Or.inr rfl) (pe_ix ix_M (pe_mvar 0) pe_int (fun _ _ => rfl))) (pss_cons (ps_set (i := 2) sc_law_piece.nd rfl (by first | exact Or.inl rfl | exact Or.inr rfl) (pe_ix ix_M (pe_mvar 0) pe_int (fun _ _ => rfl))) (pss_one (ps_ret (pe_op op_addM (pe_op op_addM (pe_callG G_law_side (hr.mono (j := 1) (by decide)) (pa_cons (pe_ix ix_M (pe_mvar 1) pe_int (fun _ _ => rfl)) (pa_cons (pe_ix ix_M (pe_mvar 2) pe_int (fun _ _ => rfl)) pa_nil))) (pe_txt (l := [62]))) (pe_callG G_law_side (hr.mono (j := 1) (by decide)) (pa_cons (pe_ix ix_M (pe_mvar 1) pe_int (fun _ _ => rfl)) (pa_cons (pe_ix ix_M (pe_mvar 2) pe_int (fun _ _ => rfl)) pa_nil))))))))
theorem ok_law_piece (G_law_side : Gd P w K mg base CX0 1 "_law_side" ["_law_first", "_law_last"] (sp_law_side K)) {f : Addr} {fd : FuncData} (F : Fun K "_law_piece" "_law_piece" s_law_piece f fd) (len : ∀ vs H Q E, sp_law_piece K vs H Q E → vs.length = 1)
    (rd : ∀ vs H Q E, sp_law_piece K vs H Q E → t_law_piece K { nx := fun _ H' => Q .non H', rt := Q } (start ["_law_piece_here", "_law_one", "_law_other"] vs) H) : FnOk P w K mg base CX0 2 f fd ["_law_piece_here"] (sp_law_piece K) := by
  refine F.ok sc_law_piece len (fun cdv A outer s H vs Q E hr h => ⟨_, tm_law_piece G_law_side hr, rd vs H Q E h⟩)
theorem sc_law : FnScope ["_law_script", "_law_board", "_law_first", "_law_pieces_here", "_law_some", "_law_at", "_law_text", "_law_found", "_law_again"] ["_law_script"] (defScope s_law) := ⟨rfl, rfl, rfl, by decide +kernel, rfl, by decide +kernel, by decide +kernel⟩
theorem tm_law (G_law_sorted : Gd P w K mg base CX0 1 "_law_sorted" ["_law_wires_here"] (sp_law_sorted K)) (G_law_wires : Gd P w K mg base CX0 1 "_law_wires" ["_law_cells", "_law_meeting"] (sp_law_wires K)) (G_law_cell_at : Gd P w K mg base CX0 1 "_law_cell_at" ["_law_script", "_law_k"] (sp_law_cell_at K)) (G_law_pieces : Gd P w K mg base CX0 1 "_law_pieces" ["_law_board"] (sp_law_pieces K)) (G_law_cut : Gd P w K mg base CX0 1 "_law_cut" ["_law_pieces_here", "_law_bits"] (sp_law_cut K)) (G_law_piece : Gd P w K mg base CX0 2 "_law_piece" ["_law_piece_here"] (sp_law_piece K)) (G_read_board : Gd P w K mg base (CXx P w) 5 "read_board" ["text"] (sp_read_board K)) (G_law_is_board : Gd P w K mg base CX0 2 "_law_is_board" ["_law_found", "_law_due"] (sp_law_is_board K)) (G_shown_board : Gd P w K mg base CX0 3 "shown_board" ["board"] (sp_shown_board K)) (B_len : Gb mg "len") {cdv : Value} {A : Around} {outer : List Env} {s : Shared} {H : Hp} {E : XK} {f : Addr} (hr : Room 5 (A.deeper (envOfC "law" (defScope s_law) s.heap.objs.size f cdv))) :
    (PSs (cxOf CX0 P w K mg base ["_law_script", "_law_board", "_law_first", "_law_pieces_here", "_law_some", "_law_at", "_law_text", "_law_found", "_law_again"] "law" (defScope s_law) f cdv A outer s H E).nox (defBody s_law) (t_law K)) := 
  (pss_cons (ps_set (i := 1) sc_law.nd rfl (by first | exact Or.inl rfl | exact Or.inr rfl) (pe_callG G_law_sorted (hr.mono (j := 1) (by decide)) (pa_cons (pe_callG G_law_wires (hr.mono (j := 1) (by decide)) (pa_cons (pe_slice sl_M (pe_mvar 0) (po_M pe_int) (po_M pe_int)) (pa_cons pe_bl pa_nil))) pa_nil))) (pss_cons (ps_set (i := 2) sc_law.nd rfl (by first | exact Or.inl rfl | exact Or.inr rfl) (pe_callG G_law_cell_at (hr.mono (j := 1) (by decide)) (pa_cons (pe_mvar 0) (pa_cons pe_int pa_nil)))) (pss_cons (ps_set (i := 3) sc_law.nd rfl (by first | exact Or.inl rfl | exact Or.inr rfl) (pe_callG G_law_pieces (hr.mono (j := 1) (by decide)) (pa_cons (pe_mvar 1) pa_nil))) (pss_cons (ps_set (i := 4) sc_law.nd rfl (by first | exact Or.inl rfl | exact Or.inr rfl) (pe_callG G_law_cut (hr.mono (j := 1) (by decide)) (pa_cons (pe_mvar 3) (pa_cons (pe_op op_modM (pe_op op_divG (pe_mvar 2) pe_int) (pe_op op_powM pe_int pe_int)) pa_nil)))) (pss_cons (ps_set (i := 5) sc_law.nd rfl (by first | exact Or.inl rfl | exact Or.inr rfl) (pe_op op_modM (pe_mvar 2) (pe_op op_addM (pe_bf call_lenM B_len (pa_cons (pe_mvar 4) pa_nil)) pe_int))) (pss_cons (ps_set (i := 4) sc_law.nd rfl (by first | exact Or.inl rfl | exact Or.inr rfl) (pe_op op_addM (pe_slice sl_M (pe_mvar 4) (po_M (pe_mvar 5)) po_none) (pe_slice sl_M (pe_mvar 4) po_none (po_M (pe_mvar 5))))) (pss_cons (ps_ifM (pt_cmpM (op_eqK hr.u60) (pe_op op_modM (pe_mvar 2) pe_int) pe_int) (pss_one (ps_set (i := 4) sc_law.nd rfl (by first | exact Or.inl rfl | exact Or.inr rfl) (pe_rev (pe_mvar 4) (po_M (pe_neg pe_int))))) pss_nil) (pss_cons (ps_set (i := 6) sc_law.nd rfl (by first | exact Or.inl rfl | exact Or.inr rfl) (pe_sm PySem.F.slot_str_join PySem.F.type_str_join mt_join (pe_txt (l := [44, 32])) (pa_cons (pe_comp (cl := []) (lv := ["_law_piece_here"]) (fr := []) rfl ⟨rfl, by decide +kernel, rfl, by decide +kernel, (by intro q hq; cases hq)⟩ (pi_any (pe_mvar 4)) (fun _ _ _ _ => (pg_name (i := 0) (show List.Nodup (["_law_piece_here"] : List Str) from by decide +kernel) rfl (Or.inl rfl))) (fun _ _ _ _ => pif_nil) (fun _ _ _ _ => (pe_callG G_law_piece (hr.mono (j := 2) (by decide)) (pa_cons (pe_mvar 0) pa_nil)))) pa_nil))) (pss_cons (ps_set (i := 7) sc_law.nd rfl (by first | exact Or.inl rfl | exact Or.inr rfl) (pe_callX G_read_board (hr.mono (j := 5) (by decide)) passX0 (pa_cons (pe_mvar 6) pa_nil))) (pss_cons (ps_ifM (pt_not (pt_valM (pe_callG G_law_is_board (hr.mono (j := 2) (by decide)) (pa_cons (pe_mvar 7) (pa_cons (pe_mvar 1) pa_nil))))) (pss_one (ps_ret pe_bl)) pss_nil) (pss_cons (ps_expr (pe_bm PySem.F.plainAttrs_list PySem.F.slot_list_append PySem.F.type_list_append mt_append (pe_mvar 7) (pa_cons (pe_tup (pa_cons pe_int (pa_cons pe_int pa_nil))) pa_nil))) (pss_cons (ps_set (i := 8) sc_law.nd rfl (by first | exact Or.inl rfl | exact Or.inr rfl) (pe_callX G_read_board (hr.mono (j := 5) (by decide)) passX0 (pa_cons (pe_mvar 6) pa_nil))) (pss_cons (ps_ifM (pt_not (pt_valM (pe_callG G_law_is_board (hr.mono (j := 2) (by decide)) (pa_cons (pe_mvar 8) (pa_cons (pe_mvar 1) pa_nil))))) (pss_one (ps_ret pe_bl)) pss_nil) (pss_one (ps_ret (pe_cmpM (op_eqK hr.u60) (pe_callG G_shown_board (hr.mono (j := 3) (by decide)) (pa_cons (pe_mvar 8) pa_nil)) (pe_sm PySem.F.slot_str_join PySem.F.type_str_join mt_join (pe_txt (l := [44, 32])) (pa_cons (pe_comp (cl := []) (lv := ["_law_piece_here"]) (fr := []) rfl ⟨rfl, by decide +kernel, rfl, by decide +kernel, (by intro q hq; cases hq)⟩ (pi_any (pe_mvar 3)) (fun _ _ _ _ => (pg_name (i := 0) (show List.Nodup (["_law_piece_here"] : List Str) from by decide +kernel) rfl (Or.inl rfl))) (fun _ _ _ _ => pif_nil) (fun _ _ _ _ => (pe_callG G_law_piece (hr.mono (j := 2) (by decide)) (pa_cons (pe_mvar 0) pa_nil)))) pa_nil))))))))))))))))))
theorem ok_law (G_law_sorted : Gd P w K mg base CX0 1 "_law_sorted" ["_law_wires_here"] (sp_law_sorted K)) (G_law_wires : Gd P w K mg base CX0 1 "_law_wires" ["_law_cells", "_law_meeting"] (sp_law_wires K)) (G_law_cell_at : Gd P w K mg base CX0 1 "_law_cell_at" ["_law_script", "_law_k"] (sp_law_cell_at K)) (G_law_pieces : Gd P w K mg base CX0 1 "_law_pieces" ["_law_board"] (sp_law_pieces K)) (G_law_cut : Gd P w K mg base CX0 1 "_law_cut" ["_law_pieces_here", "_law_bits"] (sp_law_cut K)) (G_law_piece : Gd P w K mg base CX0 2 "_law_piece" ["_law_piece_here"] (sp_law_piece K)) (G_read_board : Gd P w K mg base (CXx P w) 5 "read_board" ["text"] (sp_read_board K)) (G_law_is_board : Gd P w K mg base CX0 2 "_law_is_board" ["_law_found", "_law_due"] (sp_law_is_board K)) (G_shown_board : Gd P w K mg base CX0 3 "shown_board" ["board"] (sp_shown_board K)) (B_len : Gb mg "len") {f : Addr} {fd : FuncData} (F : Fun K "law" "law" s_law f fd) (len : ∀ vs H Q E, sp_law K vs H Q E → vs.length = 1)
    (rd : ∀ vs H Q E, sp_law K vs H Q E → t_law K { nx := fun _ H' => Q .non H', rt := Q } (start ["_law_script", "_law_board", "_law_first", "_law_pieces_here", "_law_some", "_law_at", "_law_text", "_law_found", "_law_again"] vs) H) : FnOk P w K mg base CX0 6 f fd ["_law_script"] (sp_law K) := by
  refine F.ok sc_law len (fun cdv A outer s H vs Q E hr h => ⟨_, tm_law G_law_sorted G_law_wires G_law_cell_at G_law_pieces G_law_cut G_law_piece G_read_board G_law_is_board G_shown_board B_len hr, rd vs H Q E h⟩)
end
end K29
namespace K29
open PySem PySem.Spec PyProof.Rows L2
theorem ev_law_sorted {K : PySem.W.Frag} {E : XK} (c : (List (Int × Int))) : EvS K (t_law_sorted K) E [(Sl.fz (tyL (tyTup (csCons tyInt (csLast tyInt)))) c)] (b_law_sorted c) (fun _ : Unit => []) (fun _ : Unit => []) (owL (tyTup (csCons tyInt (csLast tyInt)))) :=
  (s_ret (immo_l (imm_tup (immc_cons imm_int (immc_last imm_int)))) (ev_comp (ei_l (EvO.fr (O := (owL (tyTup (csCons tyInt (csLast tyInt))))) (ev_cbO (bl_srtD (bl_sortedT (lx_cons fl_int (lx_last fl_int lo_int)) (lo_pair lo_int lo_int))) (ea_last (EvO.fr (O := (owL (tyTup (csCons tyInt (csLast tyInt))))) (ev_comp (ei_l (ev_var 0 rfl)) (tg_name 0) (fun _ => dead1) (fun x_1 => et_true) (fun x_1 => (ev_tup (csn_cons csn_last) (ea_cons (ev_ixT (i := 1) (at_s at_last) (ev_var 0 rfl)) (ea_last (ev_ixT (i := 0) at_0 (ev_var 0 rfl)))))))))))) (tg_tup (csn_cons csn_last) (tc_cons 0 (tc_last (tg_name 1)))) (fun _ => dead2) (fun x_8 => et_true) (fun x_8 => (ev_tup (csn_cons csn_last) (ea_cons (ev_var 1 rfl) (ea_last (ev_var 0 rfl)))))))
theorem rd_law_sorted {K : PySem.W.Frag} : RD_law_sorted K := fn_rd (K := K) (N := ["_law_wires_here"]) (C := (csLast (tyL (tyTup (csCons tyInt (csLast tyInt)))))) (O := (owL (tyTup (csCons tyInt (csLast tyInt))))) (t := fun E => t_law_sorted K) (ss := fun c => [(Sl.fz (tyL (tyTup (csCons tyInt (csLast tyInt)))) c)]) (f := fun c => b_law_sorted c) 1 0 csn_last rfl css_last fun c E => ev_law_sorted c
theorem ev_law_cell_at {K : PySem.W.Frag} {E : XK} (c : ((List Int) × Int)) : EvS K (t_law_cell_at K) E [(Sl.fz (tySc K) c.1), (Sl.fz tyInt c.2)] (b_law_cell_at c.1 c.2) (fun _ : Unit => []) (fun _ : Unit => []) (owF tyInt) :=
  (s_seq (LS := (fun _ : Unit => [(Sl.fz (tySc K) c.1), (Sl.fz tyInt c.2)])) (s_if (et_val (ev_op op_ltKI (ev_var 1 rfl) (ev_cb bl_lenSc (ea_last (ev_var 0 rfl))))) (s_ret (immo_f imm_int) (EvF.ow (ev_op op_ixSc (ev_var 0 rfl) (ev_var 1 rfl)))) (s_nextW (.same (.same .nil)))) fun _ => (at_ [(Sl.fz (tySc K) c.1), (Sl.fz tyInt c.2)] (s_ret (immo_f imm_int) (EvF.ow (ev_int 0)))))
theorem rd_law_cell_at {K : PySem.W.Frag} : RD_law_cell_at K := fn_rd (K := K) (N := ["_law_script", "_law_k"]) (C := (csCons (tySc K) (csLast tyInt))) (O := (owF tyInt)) (t := fun E => t_law_cell_at K) (ss := fun c => [(Sl.fz (tySc K) c.1), (Sl.fz tyInt c.2)]) (f := fun c => b_law_cell_at c.1 c.2) 2 0 (csn_cons csn_last) rfl (css_cons css_last) fun c E => ev_law_cell_at c
theorem ev_law_pieces {K : PySem.W.Frag} {E : XK} (c : (List (Int × Int))) : EvS K (t_law_pieces K) E [(Sl.fz (tyL (tyTup (csCons tyInt (csLast tyInt)))) c), Sl.dead, Sl.dead] (b_law_pieces c) (fun _ : Unit => []) (fun _ : Unit => []) (owLL (tyTup (csCons tyInt (csLast tyInt)))) :=
  (s_asgO (i := 1) rfl (immo_ll (imm_tup (immc_cons imm_int (immc_last imm_int)))) (ev_lst0N (tyTup (csCons tyInt (csLast tyInt)))) fun pieces_here_1 => (at_ [(Sl.fz (tyL (tyTup (csCons tyInt (csLast tyInt)))) c), (Sl.ow (owLL (tyTup (csCons tyInt (csLast tyInt)))) pieces_here_1), Sl.dead] (s_seq (LS := (fun s_2 : (List (List (Int × Int))) => [(Sl.fz (tyL (tyTup (csCons tyInt (csLast tyInt)))) c), (Sl.ow (owLL (tyTup (csCons tyInt (csLast tyInt)))) s_2), Sl.dead])) (s_weak (L' := [(Sl.fz (tyL (tyTup (csCons tyInt (csLast tyInt)))) c), (Sl.ow (owLL (tyTup (csCons tyInt (csLast tyInt)))) pieces_here_1), Sl.dead]) (.same (.same (.same .nil))) (s_for (LS := (fun s_2 : (List (List (Int × Int))) => [(Sl.fz (tyL (tyTup (csCons tyInt (csLast tyInt)))) c), (Sl.ow (owLL (tyTup (csCons tyInt (csLast tyInt)))) s_2), Sl.dead])) (s0 := pieces_here_1) (ei_l (ev_var 0 rfl)) (tg_name 2) fun s_2 x_3 => at_ [(Sl.fz (tyL (tyTup (csCons tyInt (csLast tyInt)))) c), (Sl.ow (owLL (tyTup (csCons tyInt (csLast tyInt)))) s_2), (Sl.fz (tyTup (csCons tyInt (csLast tyInt))) x_3)] (s_end (s_seq (LS := (fun s_28 : (List (List (Int × Int))) => [(Sl.fz (tyL (tyTup (csCons tyInt (csLast tyInt)))) c), (Sl.ow (owLL (tyTup (csCons tyInt (csLast tyInt)))) s_28), (Sl.fz (tyTup (csCons tyInt (csLast tyInt))) x_3)])) (s_if (et_and (et_val (ev_op (op_neL (eqt_l (eqt_l (eqt_tup (eqc_cons eqt_int (eqc_last eqt_int)))))) (ev_varN 1 rfl) (EvO.fr (ev_lst0 (tyL (tyTup (csCons tyInt (csLast tyInt)))))))) (et_val (ev_op (op_eqT (eqt_tup (eqc_cons eqt_int (eqc_last eqt_int)))) (ev_var 2 rfl) (ev_tup (csn_cons csn_last) (ea_cons (ev_op op_addI (ev_ixT (i := 0) at_0 (ev_op op_ixL (ev_op op_ixL (ev_varN 1 rfl) (ev_neg (ev_int 1))) (ev_int 1))) (ev_int 1)) (ea_last (ev_op op_addI (ev_ixT (i := 1) (at_s at_last) (ev_op op_ixL (ev_op op_ixL (ev_varN 1 rfl) (ev_neg (ev_int 1))) (ev_int 1))) (ev_int 1)))))))) (s_end (s_setN (i := 1) rfl (imm_tup (immc_cons imm_int (immc_last imm_int))) (ev_var 2 rfl) (ev_neg (ev_int 1)) (ev_int 1) fun y_35 => (at_ [(Sl.fz (tyL (tyTup (csCons tyInt (csLast tyInt)))) c), (Sl.ow (owLL (tyTup (csCons tyInt (csLast tyInt)))) y_35), (Sl.fz (tyTup (csCons tyInt (csLast tyInt))) x_3)] (s_nextW (.same (.same (.same .nil))))))) (s_end (s_appNN (i := 1) rfl (imm_tup (immc_cons imm_int (immc_last imm_int))) (ev_lst (csn_cons csn_last) (csl_cons csl_last) (ea_cons (ev_var 2 rfl) (ea_last (ev_var 2 rfl)))) fun a_39 => (at_ [(Sl.fz (tyL (tyTup (csCons tyInt (csLast tyInt)))) c), (Sl.ow (owLL (tyTup (csCons tyInt (csLast tyInt)))) (s_2 ++ [a_39])), (Sl.fz (tyTup (csCons tyInt (csLast tyInt))) x_3)] (s_nextW (.same (.same (.same .nil)))))))) fun s_28 => (at_ [(Sl.fz (tyL (tyTup (csCons tyInt (csLast tyInt)))) c), (Sl.ow (owLL (tyTup (csCons tyInt (csLast tyInt)))) s_28), (Sl.fz (tyTup (csCons tyInt (csLast tyInt))) x_3)] (s_nextW (.same (.same (.dead .nil))))))))) fun s_2 => (at_ [(Sl.fz (tyL (tyTup (csCons tyInt (csLast tyInt)))) c), (Sl.ow (owLL (tyTup (csCons tyInt (csLast tyInt)))) s_2), Sl.dead] (s_retV (i := 1) rfl)))))
theorem rd_law_pieces {K : PySem.W.Frag} : RD_law_pieces K := fn_rd (K := K) (N := ["_law_board", "_law_pieces_here", "_law_wire"]) (C := (csLast (tyL (tyTup (csCons tyInt (csLast tyInt)))))) (O := (owLL (tyTup (csCons tyInt (csLast tyInt))))) (t := fun E => t_law_pieces K) (ss := fun c => [(Sl.fz (tyL (tyTup (csCons tyInt (csLast tyInt)))) c)]) (f := fun c => b_law_pieces c) 1 2 csn_last rfl css_last fun c E => ev_law_pieces c
theorem ev_law_cut {K : PySem.W.Frag} {E : XK} (c : ((List (List (Int × Int))) × Int)) : EvS K (t_law_cut K) E [(Sl.fz (tyL (tyL (tyTup (csCons tyInt (csLast tyInt))))) c.1), (Sl.fz tyInt c.2), Sl.dead, Sl.dead, Sl.dead, Sl.dead, Sl.dead] (b_law_cut c.1 c.2) (fun _ : Unit => []) (fun _ : Unit => []) (owL (tyL (tyTup (csCons tyInt (csLast tyInt))))) :=
  (s_asgOC (i := 2) rfl (ev_lst0 (tyL (tyTup (csCons tyInt (csLast tyInt))))) fun found_1 => (at_ [(Sl.fz (tyL (tyL (tyTup (csCons tyInt (csLast tyInt))))) c.1), (Sl.fz tyInt c.2), (Sl.ow (owL (tyL (tyTup (csCons tyInt (csLast tyInt))))) found_1), Sl.dead, Sl.dead, Sl.dead, Sl.dead] (s_seq (LS := (fun s_2 : ((List (List (Int × Int))) × Int) => [(Sl.fz (tyL (tyL (tyTup (csCons tyInt (csLast tyInt))))) c.1), (Sl.fz tyInt s_2.2), (Sl.ow (owL (tyL (tyTup (csCons tyInt (csLast tyInt))))) s_2.1), Sl.dead, Sl.dead, Sl.dead, Sl.dead])) (s_weak (L' := [(Sl.fz (tyL (tyL (tyTup (csCons tyInt (csLast tyInt))))) c.1), (Sl.fz tyInt c.2), (Sl.ow (owL (tyL (tyTup (csCons tyInt (csLast tyInt))))) found_1), Sl.dead, Sl.dead, Sl.dead, Sl.dead]) (.same (.same (.same (.same (.same (.same (.same .nil))))))) (s_for (LS := (fun s_2 : ((List (List (Int × Int))) × Int) => [(Sl.fz (tyL (tyL (tyTup (csCons tyInt (csLast tyInt))))) c.1), (Sl.fz tyInt s_2.2), (Sl.ow (owL (tyL (tyTup (csCons tyInt (csLast tyInt))))) s_2.1), Sl.dead, Sl.dead, Sl.dead, Sl.dead])) (s0 := (found_1, c.2)) (ei_twos (ei_l (ev_var 0 rfl))) (tg_two (i := 3) (j := 4)) fun s_2 x_4 => at_ [(Sl.fz (tyL (tyL (tyTup (csCons tyInt (csLast tyInt))))) c.1), (Sl.fz tyInt s_2.2), (Sl.ow (owL (tyL (tyTup (csCons tyInt (csLast tyInt))))) s_2.1), (Sl.fz (tyTup (csCons tyInt (csLast tyInt))) x_4.1), (Sl.fz (tyTup (csCons tyInt (csLast tyInt))) x_4.2), Sl.dead, Sl.dead] (s_asg (i := 5) rfl imm_int (ev_op op_addI (ev_op op_subI (ev_ixT (i := 0) at_0 (ev_var 4 rfl)) (ev_ixT (i := 0) at_0 (ev_var 3 rfl))) (ev_int 1)) fun many_5 => (at_ [(Sl.fz (tyL (tyL (tyTup (csCons tyInt (csLast tyInt))))) c.1), (Sl.fz tyInt s_2.2), (Sl.ow (owL (tyL (tyTup (csCons tyInt (csLast tyInt))))) s_2.1), (Sl.fz (tyTup (csCons tyInt (csLast tyInt))) x_4.1), (Sl.fz (tyTup (csCons tyInt (csLast tyInt))) x_4.2), (Sl.fz tyInt many_5), Sl.dead] (s_asg (i := 6) rfl imm_int (ev_int 0) fun at_12 => (at_ [(Sl.fz (tyL (tyL (tyTup (csCons tyInt (csLast tyInt))))) c.1), (Sl.fz tyInt s_2.2), (Sl.ow (owL (tyL (tyTup (csCons tyInt (csLast tyInt))))) s_2.1), (Sl.fz (tyTup (csCons tyInt (csLast tyInt))) x_4.1), (Sl.fz (tyTup (csCons tyInt (csLast tyInt))) x_4.2), (Sl.fz tyInt many_5), (Sl.fz tyInt at_12)] (s_seq (LS := (fun s_18 : Int => [(Sl.fz (tyL (tyL (tyTup (csCons tyInt (csLast tyInt))))) c.1), (Sl.fz tyInt s_2.2), (Sl.ow (owL (tyL (tyTup (csCons tyInt (csLast tyInt))))) s_2.1), (Sl.fz (tyTup (csCons tyInt (csLast tyInt))) x_4.1), (Sl.fz (tyTup (csCons tyInt (csLast tyInt))) x_4.2), (Sl.fz tyInt many_5), (Sl.fz tyInt s_18)])) (s_if (et_val (ev_op op_eqI (ev_op op_modI (ev_var 1 rfl) (ev_int 3)) (ev_int 1))) (s_end (s_asg (i := 6) rfl imm_int (ev_op op_divGI (ev_var 5 rfl) (ev_int 2)) fun at_19 => (at_ [(Sl.fz (tyL (tyL (tyTup (csCons tyInt (csLast tyInt))))) c.1), (Sl.fz tyInt s_2.2), (Sl.ow (owL (tyL (tyTup (csCons tyInt (csLast tyInt))))) s_2.1), (Sl.fz (tyTup (csCons tyInt (csLast tyInt))) x_4.1), (Sl.fz (tyTup (csCons tyInt (csLast tyInt))) x_4.2), (Sl.fz tyInt many_5), (Sl.fz tyInt at_19)] (s_nextW (.same (.same (.same (.same (.same (.same (.same .nil))))))))))) (s_nextW (.same (.same (.same (.same (.same (.same (.same .nil))))))))) fun s_18 => (at_ [(Sl.fz (tyL (tyL (tyTup (csCons tyInt (csLast tyInt))))) c.1), (Sl.fz tyInt s_2.2), (Sl.ow (owL (tyL (tyTup (csCons tyInt (csLast tyInt))))) s_2.1), (Sl.fz (tyTup (csCons tyInt (csLast tyInt))) x_4.1), (Sl.fz (tyTup (csCons tyInt (csLast tyInt))) x_4.2), (Sl.fz tyInt many_5), (Sl.fz tyInt s_18)] (s_seq (LS := (fun s_27 : Int => [(Sl.fz (tyL (tyL (tyTup (csCons tyInt (csLast tyInt))))) c.1), (Sl.fz tyInt s_2.2), (Sl.ow (owL (tyL (tyTup (csCons tyInt (csLast tyInt))))) s_2.1), (Sl.fz (tyTup (csCons tyInt (csLast tyInt))) x_4.1), (Sl.fz (tyTup (csCons tyInt (csLast tyInt))) x_4.2), (Sl.fz tyInt many_5), (Sl.fz tyInt s_27)])) (s_if (et_val (ev_op op_eqI (ev_op op_modI (ev_var 1 rfl) (ev_int 3)) (ev_int 2))) (s_end (s_asg (i := 6) rfl imm_int (ev_cb bl_min (ea_cons (ev_int 1) (ea_last (ev_op op_subI (ev_var 5 rfl) (ev_int 1))))) fun at_28 => (at_ [(Sl.fz (tyL (tyL (tyTup (csCons tyInt (csLast tyInt))))) c.1), (Sl.fz tyInt s_2.2), (Sl.ow (owL (tyL (tyTup (csCons tyInt (csLast tyInt))))) s_2.1), (Sl.fz (tyTup (csCons tyInt (csLast tyInt))) x_4.1), (Sl.fz (tyTup (csCons tyInt (csLast tyInt))) x_4.2), (Sl.fz tyInt many_5), (Sl.fz tyInt at_28)] (s_nextW (.same (.same (.same (.same (.same (.same (.same .nil))))))))))) (s_nextW (.same (.same (.same (.same (.same (.same (.same .nil))))))))) fun s_27 => (at_ [(Sl.fz (tyL (tyL (tyTup (csCons tyInt (csLast tyInt))))) c.1), (Sl.fz tyInt s_2.2), (Sl.ow (owL (tyL (tyTup (csCons tyInt (csLast tyInt))))) s_2.1), (Sl.fz (tyTup (csCons tyInt (csLast tyInt))) x_4.1), (Sl.fz (tyTup (csCons tyInt (csLast tyInt))) x_4.2), (Sl.fz tyInt many_5), (Sl.fz tyInt s_27)] (s_seq (LS := (fun s_37 : (List (List (Int × Int))) => [(Sl.fz (tyL (tyL (tyTup (csCons tyInt (csLast tyInt))))) c.1), (Sl.fz tyInt s_2.2), (Sl.ow (owL (tyL (tyTup (csCons tyInt (csLast tyInt))))) s_37), (Sl.fz (tyTup (csCons tyInt (csLast tyInt))) x_4.1), (Sl.fz (tyTup (csCons tyInt (csLast tyInt))) x_4.2), (Sl.fz tyInt many_5), (Sl.fz tyInt s_27)])) (s_if (et_val (ev_op op_gtI (ev_var 6 rfl) (ev_int 0))) (s_end (s_appendC (i := 2) rfl (EvO.fr (ev_lst (csn_cons csn_last) (csl_cons csl_last) (ea_cons (ev_var 3 rfl) (ea_last (ev_tup (csn_cons csn_last) (ea_cons (ev_op op_subI (ev_op op_addI (ev_ixT (i := 0) at_0 (ev_var 3 rfl)) (ev_var 6 rfl)) (ev_int 1)) (ea_last (ev_op op_subI (ev_op op_addI (ev_ixT (i := 1) (at_s at_last) (ev_var 3 rfl)) (ev_var 6 rfl)) (ev_int 1))))))))) fun a_53 => (at_ [(Sl.fz (tyL (tyL (tyTup (csCons tyInt (csLast tyInt))))) c.1), (Sl.fz tyInt s_2.2), (Sl.ow (owL (tyL (tyTup (csCons tyInt (csLast tyInt))))) (s_2.1 ++ [a_53])), (Sl.fz (tyTup (csCons tyInt (csLast tyInt))) x_4.1), (Sl.fz (tyTup (csCons tyInt (csLast tyInt))) x_4.2), (Sl.fz tyInt many_5), (Sl.fz tyInt s_27)] (s_nextW (.same (.same (.same (.same (.same (.same (.same .nil))))))))))) (s_nextW (.same (.same (.same (.same (.same (.same (.same .nil))))))))) fun s_37 => (at_ [(Sl.fz (tyL (tyL (tyTup (csCons tyInt (csLast tyInt))))) c.1), (Sl.fz tyInt s_2.2), (Sl.ow (owL (tyL (tyTup (csCons tyInt (csLast tyInt))))) s_37), (Sl.fz (tyTup (csCons tyInt (csLast tyInt))) x_4.1), (Sl.fz (tyTup (csCons tyInt (csLast tyInt))) x_4.2), (Sl.fz tyInt many_5), (Sl.fz tyInt s_27)] (s_appendC (i := 2) rfl (EvO.fr (ev_lst (csn_cons csn_last) (csl_cons csl_last) (ea_cons (ev_tup (csn_cons csn_last) (ea_cons (ev_op op_addI (ev_ixT (i := 0) at_0 (ev_var 3 rfl)) (ev_var 6 rfl)) (ea_last (ev_op op_addI (ev_ixT (i := 1) (at_s at_last) (ev_var 3 rfl)) (ev_var 6 rfl))))) (ea_last (ev_var 4 rfl))))) fun a_65 => (at_ [(Sl.fz (tyL (tyL (tyTup (csCons tyInt (csLast tyInt))))) c.1), (Sl.fz tyInt s_2.2), (Sl.ow (owL (tyL (tyTup (csCons tyInt (csLast tyInt))))) (s_37 ++ [a_65])), (Sl.fz (tyTup (csCons tyInt (csLast tyInt))) x_4.1), (Sl.fz (tyTup (csCons tyInt (csLast tyInt))) x_4.2), (Sl.fz tyInt many_5), (Sl.fz tyInt s_27)] (s_end (s_asg (i := 1) rfl imm_int (ev_op op_divGI (ev_var 1 rfl) (ev_int 3)) fun bits_66 => (at_ [(Sl.fz (tyL (tyL (tyTup (csCons tyInt (csLast tyInt))))) c.1), (Sl.fz tyInt bits_66), (Sl.ow (owL (tyL (tyTup (csCons tyInt (csLast tyInt))))) (s_37 ++ [a_65])), (Sl.fz (tyTup (csCons tyInt (csLast tyInt))) x_4.1), (Sl.fz (tyTup (csCons tyInt (csLast tyInt))) x_4.2), (Sl.fz tyInt many_5), (Sl.fz tyInt s_27)] (s_nextW (.same (.same (.same (.dead (.dead (.dead (.dead .nil))))))))))))))))))))))))) fun s_2 => (at_ [(Sl.fz (tyL (tyL (tyTup (csCons tyInt (csLast tyInt))))) c.1), (Sl.fz tyInt s_2.2), (Sl.ow (owL (tyL (tyTup (csCons tyInt (csLast tyInt))))) s_2.1), Sl.dead, Sl.dead, Sl.dead, Sl.dead] (s_retV (i := 2) rfl)))))
theorem rd_law_cut {K : PySem.W.Frag} : RD_law_cut K := fn_rd (K := K) (N := ["_law_pieces_here", "_law_bits", "_law_found", "_law_one", "_law_other", "_law_many", "_law_at"]) (C := (csCons (tyL (tyL (tyTup (csCons tyInt (csLast tyInt))))) (csLast tyInt))) (O := (owL (tyL (tyTup (csCons tyInt (csLast tyInt)))))) (t := fun E => t_law_cut K) (ss := fun c => [(Sl.fz (tyL (tyL (tyTup (csCons tyInt (csLast tyInt))))) c.1), (Sl.fz tyInt c.2)]) (f := fun c => b_law_cut c.1 c.2) 2 5 (csn_cons csn_last) rfl (css_cons css_last) fun c E => ev_law_cut c
theorem ev_is_whole {K : PySem.W.Frag} {E : XK} (c : Int) : EvS K (t_is_whole K) E [(Sl.fz tyInt c)] (b_is_whole c) (fun _ : Unit => []) (fun _ : Unit => []) (owF tyBl) :=
  (s_ret (immo_f imm_bl) (EvF.ow (ev_and (ev_isa tn_int (ev_var 0 rfl)) (ev_not (ev_isa tn_int (ev_var 0 rfl))))))
theorem rd_is_whole {K : PySem.W.Frag} : RD_is_whole K := fn_rd (K := K) (N := ["value"]) (C := (csLast tyInt)) (O := (owF tyBl)) (t := fun E => t_is_whole K) (ss := fun c => [(Sl.fz tyInt c)]) (f := fun c => b_is_whole c) 1 0 csn_last rfl css_last fun c E => ev_is_whole c
theorem ev_is_column {K : PySem.W.Frag} {E : XK} (c : (Int × Int)) : EvS K (t_is_column K) E [(Sl.fz tyInt c.1), (Sl.fz tyInt c.2)] (b_is_column c.1 c.2) (fun _ : Unit => []) (fun _ : Unit => []) (owF tyBl) :=
  (s_ret (immo_f imm_bl) (EvF.ow (ev_and (ev_callF0 (ea_last (ev_var 0 rfl))) (ev_chain op_leI op_leI (ev_int 1) (ev_var 0 rfl) (ev_var 1 rfl)))))
theorem rd_is_column {K : PySem.W.Frag} : RD_is_column K := fn_rd (K := K) (N := ["value", "most"]) (C := (csCons tyInt (csLast tyInt))) (O := (owF tyBl)) (t := fun E => t_is_column K) (ss := fun c => [(Sl.fz tyInt c.1), (Sl.fz tyInt c.2)]) (f := fun c => b_is_column c.1 c.2) 2 0 (csn_cons csn_last) rfl (css_cons css_last) fun c E => ev_is_column c
theorem ev_make_board {K : PySem.W.Frag} {E : XK} (c : (List (Int × Int))) : EvS K (t_make_board K E) E [(Sl.fz (tyL (tyTup (csCons tyInt (csLast tyInt)))) c), Sl.dead, Sl.dead] (b_make_board c) (fun _ : Unit => []) (fun _ : Unit => []) (owL (tyTup (csCons tyInt (csLast tyInt)))) :=
  (s_seq (LS := (fun _ : Unit => [(Sl.fz (tyL (tyTup (csCons tyInt (csLast tyInt)))) c), Sl.dead, Sl.dead])) (s_weak (L' := [(Sl.fz (tyL (tyTup (csCons tyInt (csLast tyInt)))) c), Sl.dead, Sl.dead]) (.same (.same (.same .nil))) (s_for (LS := (fun _ : Unit => [(Sl.fz (tyL (tyTup (csCons tyInt (csLast tyInt)))) c), Sl.dead, Sl.dead])) (s0 := ()) (ei_l (ev_var 0 rfl)) (tg_name 1) fun _ x_2 => at_ [(Sl.fz (tyL (tyTup (csCons tyInt (csLast tyInt)))) c), (Sl.fz (tyTup (csCons tyInt (csLast tyInt))) x_2), Sl.dead] (s_if (et_or (et_not (et_val (ev_callF0 (ea_cons (ev_ixT (i := 0) at_0 (ev_var 1 rfl)) (ea_last (ev_int 40)))))) (et_not (et_val (ev_callF0 (ea_cons (ev_ixT (i := 1) (at_s at_last) (ev_var 1 rfl)) (ea_last (ev_int 36))))))) s_never (s_nextW (.same (.dead (.same .nil))))))) fun _ => (at_ [(Sl.fz (tyL (tyTup (csCons tyInt (csLast tyInt)))) c), Sl.dead, Sl.dead] (s_asgO (i := 2) rfl (immo_d (imm_tup (immc_cons imm_int (immc_last imm_int)))) (ev_dnew kInt (tyTup (csCons tyInt (csLast tyInt)))) fun leading_16 => (at_ [(Sl.fz (tyL (tyTup (csCons tyInt (csLast tyInt)))) c), Sl.dead, (Sl.ow (owD kInt (tyTup (csCons tyInt (csLast tyInt)))) leading_16)] (s_seq (LS := (fun s_17 : (List (Int × (Int × Int))) => [(Sl.fz (tyL (tyTup (csCons tyInt (csLast tyInt)))) c), Sl.dead, (Sl.ow (owD kInt (tyTup (csCons tyInt (csLast tyInt)))) s_17)])) (s_weak (L' := [(Sl.fz (tyL (tyTup (csCons tyInt (csLast tyInt)))) c), Sl.dead, (Sl.ow (owD kInt (tyTup (csCons tyInt (csLast tyInt)))) leading_16)]) (.same (.same (.same .nil))) (s_for (LS := (fun s_17 : (List (Int × (Int × Int))) => [(Sl.fz (tyL (tyTup (csCons tyInt (csLast tyInt)))) c), Sl.dead, (Sl.ow (owD kInt (tyTup (csCons tyInt (csLast tyInt)))) s_17)])) (s0 := leading_16) (ei_l (ev_var 0 rfl)) (tg_name 1) fun s_17 x_18 => at_ [(Sl.fz (tyL (tyTup (csCons tyInt (csLast tyInt)))) c), (Sl.fz (tyTup (csCons tyInt (csLast tyInt))) x_18), (Sl.ow (owD kInt (tyTup (csCons tyInt (csLast tyInt)))) s_17)] (s_seq (LS := (fun _ : Unit => [(Sl.fz (tyL (tyTup (csCons tyInt (csLast tyInt)))) c), (Sl.fz (tyTup (csCons tyInt (csLast tyInt))) x_18), (Sl.ow (owD kInt (tyTup (csCons tyInt (csLast tyInt)))) s_17)])) (s_if (et_val (ev_din false (ev_ixT (i := 1) (at_s at_last) (ev_var 1 rfl)) (ev_varD 2 rfl))) s_never (s_nextW (.same (.same (.same .nil))))) fun _ => (at_ [(Sl.fz (tyL (tyTup (csCons tyInt (csLast tyInt)))) c), (Sl.fz (tyTup (csCons tyInt (csLast tyInt))) x_18), (Sl.ow (owD kInt (tyTup (csCons tyInt (csLast tyInt)))) s_17)] (s_end (s_dput (i := 2) rfl (imm_tup (immc_cons imm_int (immc_last imm_int))) imm_int (ev_var 1 rfl) (ev_ixT (i := 1) (at_s at_last) (ev_var 1 rfl)) fun a_25 y_26 => (at_ [(Sl.fz (tyL (tyTup (csCons tyInt (csLast tyInt)))) c), (Sl.fz (tyTup (csCons tyInt (csLast tyInt))) x_18), (Sl.ow (owD kInt (tyTup (csCons tyInt (csLast tyInt)))) (putA s_17 y_26 a_25))] (s_nextW (.same (.dead (.same .nil))))))))))) fun s_17 => (at_ [(Sl.fz (tyL (tyTup (csCons tyInt (csLast tyInt)))) c), Sl.dead, (Sl.ow (owD kInt (tyTup (csCons tyInt (csLast tyInt)))) s_17)] (s_ret (immo_l (imm_tup (immc_cons imm_int (immc_last imm_int)))) (ev_comp (ei_l (EvO.fr (ev_cbO (bl_sortedK fl_int lo_int hk_int) (ea_last (ev_varD 2 rfl))))) (tg_name 0) (fun _ => dead1) (fun x_29 => et_true) (fun x_29 => (ev_dget (ev_varD 1 rfl) (ev_var 0 rfl)))))))))))
theorem rd_make_board {K : PySem.W.Frag} (FX : Fx K) : RD_make_board K := fn_rd (K := K) (N := ["wires", "wire", "leading"]) (C := (csLast (tyL (tyTup (csCons tyInt (csLast tyInt)))))) (O := (owL (tyTup (csCons tyInt (csLast tyInt))))) (t := fun E => t_make_board K E) (ss := fun c => [(Sl.fz (tyL (tyTup (csCons tyInt (csLast tyInt)))) c)]) (f := fun c => b_make_board c) 1 2 csn_last rfl css_last fun c E => ev_make_board c
theorem ev_number_by {K : PySem.W.Frag} {E : XK} (c : (List Nat)) : EvS K (t_number_by K) E [(Sl.fz tyStr c), Sl.dead, Sl.dead] (b_number_by c) (fun _ : Unit => []) (fun _ : Unit => []) (owF tyInt) :=
  (s_asg (i := 1) rfl imm_int (ev_int 0) fun value_1 => (at_ [(Sl.fz tyStr c), (Sl.fz tyInt value_1), Sl.dead] (s_seq (LS := (fun s_2 : Int => [(Sl.fz tyStr c), (Sl.fz tyInt s_2), Sl.dead])) (s_weak (L' := [(Sl.fz tyStr c), (Sl.fz tyInt value_1), Sl.dead]) (.same (.same (.same .nil))) (s_for (LS := (fun s_2 : Int => [(Sl.fz tyStr c), (Sl.fz tyInt s_2), Sl.dead])) (s0 := value_1) (ei_str (ev_var 0 rfl)) (tg_name 2) fun s_2 x_4 => at_ [(Sl.fz tyStr c), (Sl.fz tyInt s_2), (Sl.fz tyStr x_4)] (s_end (s_asg (i := 1) rfl imm_int (ev_op op_addI (ev_op op_mulXI (ev_var 1 rfl) (ev_int 10)) (ev_me me_index (ev_str [48, 49, 50, 51, 52, 53, 54, 55, 56, 57]) (ea_last (ev_var 2 rfl)))) fun value_5 => (at_ [(Sl.fz tyStr c), (Sl.fz tyInt value_5), (Sl.fz tyStr x_4)] (s_nextW (.same (.same (.dead .nil))))))))) fun s_2 => (at_ [(Sl.fz tyStr c), (Sl.fz tyInt s_2), Sl.dead] (s_ret (immo_f imm_int) (EvF.ow (ev_var 1 rfl)))))))
theorem rd_number_by {K : PySem.W.Frag} : RD_number_by K := fn_rd (K := K) (N := ["figures", "value", "figure"]) (C := (csLast tyStr)) (O := (owF tyInt)) (t := fun E => t_number_by K) (ss := fun c => [(Sl.fz tyStr c)]) (f := fun c => b_number_by c) 1 2 csn_last rfl css_last fun c E => ev_number_by c
theorem ev_read_whole {K : PySem.W.Frag} {E : XK} (c : (List Nat)) : EvS K (t_read_whole K) E [(Sl.fz tyStr c)] (b_read_whole c) (fun _ : Unit => []) (fun _ : Unit => []) (owF (tyOpt tyInt)) :=
  (s_seq (LS := (fun _ : Unit => [(Sl.fz tyStr c)])) (s_if (et_or (et_val (ev_op op_eqS (ev_var 0 rfl) (ev_str []))) (et_not (et_val (ev_cb bl_all (ea_last (EvO.fr (O := (owL tyBl)) (ev_comp (ei_str (ev_var 0 rfl)) (tg_name 0) (fun _ => dead1) (fun x_4 => et_true) (fun x_4 => (ev_op op_inS (ev_var 0 rfl) (ev_str [48, 49, 50, 51, 52, 53, 54, 55, 56, 57])))))))))) (s_ret (immo_f (imm_opt imm_int)) (EvF.ow ev_none)) (s_nextW (.same .nil))) fun _ => (at_ [(Sl.fz tyStr c)] (s_seq (LS := (fun _ : Unit => [(Sl.fz tyStr c)])) (s_if (et_and (et_val (ev_op op_eqS (ev_op op_ixS (ev_var 0 rfl) (ev_int 0)) (ev_str [48]))) (et_val (ev_op op_neS (ev_var 0 rfl) (ev_str [48])))) (s_ret (immo_f (imm_opt imm_int)) (EvF.ow ev_none)) (s_nextW (.same .nil))) fun _ => (at_ [(Sl.fz tyStr c)] (s_ret (immo_f (imm_opt imm_int)) (EvF.ow (ev_some (fun _ _ _ => nn_int) (ev_callF0 (ea_last (ev_var 0 rfl))))))))))
theorem rd_read_whole {K : PySem.W.Frag} : RD_read_whole K := fn_rd (K := K) (N := ["text"]) (C := (csLast tyStr)) (O := (owF (tyOpt tyInt))) (t := fun E => t_read_whole K) (ss := fun c => [(Sl.fz tyStr c)]) (f := fun c => b_read_whole c) 1 0 csn_last rfl css_last fun c E => ev_read_whole c
theorem ev_read_span {K : PySem.W.Frag} {E : XK} (c : ((List Nat) × Int)) : EvS K (t_read_span K E) E [(Sl.fz tyStr c.1), (Sl.fz tyInt c.2), Sl.dead] (b_read_span c.1 c.2) (fun _ : Unit => []) (fun _ : Unit => []) (owF (tyTup (csCons (tyOpt tyInt) (csLast (tyOpt tyInt))))) :=
  (s_asgO (i := 2) rfl (immo_l (imm_opt imm_int)) (ev_comp (ei_l (EvO.fr (ev_meO me_splitG (ev_var 0 rfl) (ea_last (ev_str [45]))))) (tg_name 0) (fun _ => dead1) (fun x_4 => et_true) (fun x_4 => (ev_callF0 (ea_last (ev_var 0 rfl))))) fun columns_1 => s_frz (i := 2) rfl (at_ [(Sl.fz tyStr c.1), (Sl.fz tyInt c.2), (Sl.fz (tyL (tyOpt tyInt)) columns_1)] (s_seq (LS := (fun _ : Unit => [(Sl.fz tyStr c.1), (Sl.fz tyInt c.2), (Sl.fz (tyL (tyOpt tyInt)) columns_1)])) (s_if (et_or (et_val (ev_op (op_inL flt_optI) ev_none (ev_var 2 rfl))) (et_val (ev_op op_gtI (ev_cb bl_lenL (ea_last (ev_var 2 rfl))) (ev_int 2)))) s_never (s_nextW (.same (.same (.same .nil))))) fun _ => (at_ [(Sl.fz tyStr c.1), (Sl.fz tyInt c.2), (Sl.fz (tyL (tyOpt tyInt)) columns_1)] (s_seq (LS := (fun _ : Unit => [(Sl.fz tyStr c.1), (Sl.fz tyInt c.2), (Sl.fz (tyL (tyOpt tyInt)) columns_1)])) (s_if (et_and (et_val (ev_op op_eqI (ev_cb bl_lenL (ea_last (ev_var 2 rfl))) (ev_int 2))) (et_val (ev_op op_geI (ev_unopt (ev_op op_ixL (ev_var 2 rfl) (ev_int 0))) (ev_unopt (ev_op op_ixL (ev_var 2 rfl) (ev_int 1)))))) s_never (s_nextW (.same (.same (.same .nil))))) fun _ => (at_ [(Sl.fz tyStr c.1), (Sl.fz tyInt c.2), (Sl.fz (tyL (tyOpt tyInt)) columns_1)] (s_seq (LS := (fun _ : Unit => [(Sl.fz tyStr c.1), (Sl.fz tyInt c.2), (Sl.fz (tyL (tyOpt tyInt)) columns_1)])) (s_if (et_or (et_val (ev_op op_ltKI (ev_unopt (ev_op op_ixL (ev_var 2 rfl) (ev_int 0))) (ev_int 1))) (et_val (ev_op op_gtI (ev_unopt (ev_op op_ixL (ev_var 2 rfl) (ev_neg (ev_int 1)))) (ev_var 1 rfl)))) s_never (s_nextW (.same (.same (.same .nil))))) fun _ => (at_ [(Sl.fz tyStr c.1), (Sl.fz tyInt c.2), (Sl.fz (tyL (tyOpt tyInt)) columns_1)] (s_ret (immo_f (imm_tup (immc_cons (imm_opt imm_int) (immc_last (imm_opt imm_int))))) (EvF.ow (ev_tup (csn_cons csn_last) (ea_cons (ev_op op_ixL (ev_var 2 rfl) (ev_int 0)) (ea_last (ev_op op_ixL (ev_var 2 rfl) (ev_neg (ev_int 1))))))))))))))))
theorem rd_read_span {K : PySem.W.Frag} (FX : Fx K) : RD_read_span K := fn_rd (K := K) (N := ["text", "most", "columns"]) (C := (csCons tyStr (csLast tyInt))) (O := (owF (tyTup (csCons (tyOpt tyInt) (csLast (tyOpt tyInt)))))) (t := fun E => t_read_span K E) (ss := fun c => [(Sl.fz tyStr c.1), (Sl.fz tyInt c.2)]) (f := fun c => b_read_span c.1 c.2) 2 1 (csn_cons csn_last) rfl (css_cons css_last) fun c E => ev_read_span c
theorem ev_read_piece {K : PySem.W.Frag} {E : XK} (c : (List Nat)) : EvS K (t_read_piece K E) E [(Sl.fz tyStr c), Sl.dead, Sl.dead, Sl.dead] (b_read_piece c) (fun _ : Unit => []) (fun _ : Unit => []) (owL (tyTup (csCons tyInt (csLast tyInt)))) :=
  (s_asgO (i := 1) rfl (immo_l imm_str) (ev_meO me_splitG (ev_var 0 rfl) (ea_last (ev_str [62]))) fun ends_1 => s_frz (i := 1) rfl (at_ [(Sl.fz tyStr c), (Sl.fz (tyL tyStr) ends_1), Sl.dead, Sl.dead] (s_seq (LS := (fun _ : Unit => [(Sl.fz tyStr c), (Sl.fz (tyL tyStr) ends_1), Sl.dead, Sl.dead])) (s_if (et_val (ev_op op_neI (ev_cb bl_lenL (ea_last (ev_var 1 rfl))) (ev_int 2))) s_never (s_nextW (.same (.same (.same (.same .nil)))))) fun _ => (at_ [(Sl.fz tyStr c), (Sl.fz (tyL tyStr) ends_1), Sl.dead, Sl.dead] (s_asg (i := 2) rfl (imm_tup (immc_cons (imm_opt imm_int) (immc_last (imm_opt imm_int)))) (ev_callF (ea_cons (ev_op op_ixL (ev_var 1 rfl) (ev_int 0)) (ea_last (ev_int 40)))) fun here_9 => (at_ [(Sl.fz tyStr c), (Sl.fz (tyL tyStr) ends_1), (Sl.fz (tyTup (csCons (tyOpt tyInt) (csLast (tyOpt tyInt)))) here_9), Sl.dead] (s_asg (i := 3) rfl (imm_tup (immc_cons (imm_opt imm_int) (immc_last (imm_opt imm_int)))) (ev_callF (ea_cons (ev_op op_ixL (ev_var 1 rfl) (ev_int 1)) (ea_last (ev_int 36)))) fun there_15 => (at_ [(Sl.fz tyStr c), (Sl.fz (tyL tyStr) ends_1), (Sl.fz (tyTup (csCons (tyOpt tyInt) (csLast (tyOpt tyInt)))) here_9), (Sl.fz (tyTup (csCons (tyOpt tyInt) (csLast (tyOpt tyInt)))) there_15)] (s_seq (LS := (fun _ : Unit => [(Sl.fz tyStr c), (Sl.fz (tyL tyStr) ends_1), (Sl.fz (tyTup (csCons (tyOpt tyInt) (csLast (tyOpt tyInt)))) here_9), (Sl.fz (tyTup (csCons (tyOpt tyInt) (csLast (tyOpt tyInt)))) there_15)])) (s_if (et_val (ev_op op_neI (ev_op op_subI (ev_unopt (ev_ixT (i := 1) (at_s at_last) (ev_var 2 rfl))) (ev_unopt (ev_ixT (i := 0) at_0 (ev_var 2 rfl)))) (ev_op op_subI (ev_unopt (ev_ixT (i := 1) (at_s at_last) (ev_var 3 rfl))) (ev_unopt (ev_ixT (i := 0) at_0 (ev_var 3 rfl)))))) s_never (s_nextW (.same (.same (.same (.same .nil)))))) fun _ => (at_ [(Sl.fz tyStr c), (Sl.fz (tyL tyStr) ends_1), (Sl.fz (tyTup (csCons (tyOpt tyInt) (csLast (tyOpt tyInt)))) here_9), (Sl.fz (tyTup (csCons (tyOpt tyInt) (csLast (tyOpt tyInt)))) there_15)] (s_ret (immo_l (imm_tup (immc_cons imm_int (immc_last imm_int)))) (ev_comp (ei_rng1 (ea_last (ev_op op_addI (ev_op op_subI (ev_unopt (ev_ixT (i := 1) (at_s at_last) (ev_var 2 rfl))) (ev_unopt (ev_ixT (i := 0) at_0 (ev_var 2 rfl)))) (ev_int 1)))) (tg_name 0) (fun _ => dead1) (fun x_46 => et_true) (fun x_46 => (ev_tup (csn_cons csn_last) (ea_cons (ev_op op_addI (ev_unopt (ev_ixT (i := 0) at_0 (ev_var 1 rfl))) (ev_var 0 rfl)) (ea_last (ev_op op_addI (ev_unopt (ev_ixT (i := 0) at_0 (ev_var 2 rfl))) (ev_var 0 rfl))))))))))))))))))
theorem rd_read_piece {K : PySem.W.Frag} (FX : Fx K) : RD_read_piece K := fn_rd (K := K) (N := ["text", "ends", "here", "there"]) (C := (csLast tyStr)) (O := (owL (tyTup (csCons tyInt (csLast tyInt))))) (t := fun E => t_read_piece K E) (ss := fun c => [(Sl.fz tyStr c)]) (f := fun c => b_read_piece c) 1 3 csn_last rfl css_last fun c E => ev_read_piece c
theorem ev_read_board {K : PySem.W.Frag} {E : XK} (c : (List Nat)) : EvS K (t_read_board K E) E [(Sl.fz tyStr c), Sl.dead, Sl.dead] (b_read_board c) (fun _ : Unit => []) (fun _ : Unit => []) (owL (tyTup (csCons tyInt (csLast tyInt)))) :=
  (s_seq (LS := (fun _ : Unit => [(Sl.fz tyStr c), Sl.dead, Sl.dead])) (s_if (et_val (ev_op op_eqS (ev_var 0 rfl) (ev_str []))) (s_ret (immo_l (imm_tup (immc_cons imm_int (immc_last imm_int)))) (ev_lst0 (tyTup (csCons tyInt (csLast tyInt))))) (s_nextW (.same (.same (.same .nil))))) fun _ => (at_ [(Sl.fz tyStr c), Sl.dead, Sl.dead] (s_asgO (i := 1) rfl (immo_l (imm_tup (immc_cons imm_int (immc_last imm_int)))) (ev_lst0 (tyTup (csCons tyInt (csLast tyInt)))) fun wires_6 => (at_ [(Sl.fz tyStr c), (Sl.ow (owL (tyTup (csCons tyInt (csLast tyInt)))) wires_6), Sl.dead] (s_seq (LS := (fun s_7 : (List (Int × Int)) => [(Sl.fz tyStr c), (Sl.ow (owL (tyTup (csCons tyInt (csLast tyInt)))) s_7), Sl.dead])) (s_weak (L' := [(Sl.fz tyStr c), (Sl.ow (owL (tyTup (csCons tyInt (csLast tyInt)))) wires_6), Sl.dead]) (.same (.same (.same .nil))) (s_for (LS := (fun s_7 : (List (Int × Int)) => [(Sl.fz tyStr c), (Sl.ow (owL (tyTup (csCons tyInt (csLast tyInt)))) s_7), Sl.dead])) (s0 := wires_6) (ei_l (EvO.fr (ev_meO me_splitG (ev_var 0 rfl) (ea_last (ev_str [44, 32]))))) (tg_name 2) fun s_7 x_10 => at_ [(Sl.fz tyStr c), (Sl.ow (owL (tyTup (csCons tyInt (csLast tyInt)))) s_7), (Sl.fz tyStr x_10)] (s_end (s_extend (i := 1) rfl (imm_tup (immc_cons imm_int (immc_last imm_int))) (EvO.fr (ev_call (ea_last (ev_var 2 rfl)))) fun a_12 => (at_ [(Sl.fz tyStr c), (Sl.ow (owL (tyTup (csCons tyInt (csLast tyInt)))) (s_7 ++ a_12)), (Sl.fz tyStr x_10)] (s_nextW (.same (.same (.dead .nil))))))))) fun s_7 => (at_ [(Sl.fz tyStr c), (Sl.ow (owL (tyTup (csCons tyInt (csLast tyInt)))) s_7), Sl.dead] (s_ret (immo_l (imm_tup (immc_cons imm_int (immc_last imm_int)))) (ev_call (ea_last (ev_varL 1 rfl))))))))))
theorem rd_read_board {K : PySem.W.Frag} (FX : Fx K) : RD_read_board K := fn_rd (K := K) (N := ["text", "wires", "piece"]) (C := (csLast tyStr)) (O := (owL (tyTup (csCons tyInt (csLast tyInt))))) (t := fun E => t_read_board K E) (ss := fun c => [(Sl.fz tyStr c)]) (f := fun c => b_read_board c) 1 2 csn_last rfl css_last fun c E => ev_read_board c
theorem ev_law_wires {K : PySem.W.Frag} {E : XK} (c : ((List Int) × Bool)) : EvS K (t_law_wires K) E [(Sl.fz (tyL tyInt) c.1), (Sl.fz tyBl c.2), Sl.dead, Sl.dead, Sl.dead, Sl.dead, Sl.dead, Sl.dead, Sl.dead] (b_law_wires c.1 c.2) (fun _ : Unit => []) (fun _ : Unit => []) (owL (tyTup (csCons tyInt (csLast tyInt)))) :=
  (s_asgO (i := 2) rfl (immo_l (imm_tup (immc_cons imm_int (immc_last imm_int)))) (ev_lst0 (tyTup (csCons tyInt (csLast tyInt)))) fun wires_here_1 => (at_ [(Sl.fz (tyL tyInt) c.1), (Sl.fz tyBl c.2), (Sl.ow (owL (tyTup (csCons tyInt (csLast tyInt)))) wires_here_1), Sl.dead, Sl.dead, Sl.dead, Sl.dead, Sl.dead, Sl.dead] (s_asgO (i := 3) rfl (immo_l imm_int) (ev_lst0 tyInt) fun known_2 => (at_ [(Sl.fz (tyL tyInt) c.1), (Sl.fz tyBl c.2), (Sl.ow (owL (tyTup (csCons tyInt (csLast tyInt)))) wires_here_1), (Sl.ow (owL tyInt) known_2), Sl.dead, Sl.dead, Sl.dead, Sl.dead, Sl.dead] (s_seq (LS := (fun s_3 : ((List (Int × Int)) × (List Int)) => [(Sl.fz (tyL tyInt) c.1), (Sl.fz tyBl c.2), (Sl.ow (owL (tyTup (csCons tyInt (csLast tyInt)))) s_3.1), (Sl.ow (owL tyInt) s_3.2), Sl.dead, Sl.dead, Sl.dead, Sl.dead, Sl.dead])) (s_weak (L' := [(Sl.fz (tyL tyInt) c.1), (Sl.fz tyBl c.2), (Sl.ow (owL (tyTup (csCons tyInt (csLast tyInt)))) wires_here_1), (Sl.ow (owL tyInt) known_2), Sl.dead, Sl.dead, Sl.dead, Sl.dead, Sl.dead]) (.same (.same (.same (.same (.same (.same (.same (.same (.same .nil))))))))) (s_for (LS := (fun s_3 : ((List (Int × Int)) × (List Int)) => [(Sl.fz (tyL tyInt) c.1), (Sl.fz tyBl c.2), (Sl.ow (owL (tyTup (csCons tyInt (csLast tyInt)))) s_3.1), (Sl.ow (owL tyInt) s_3.2), Sl.dead, Sl.dead, Sl.dead, Sl.dead, Sl.dead])) (s0 := (wires_here_1, known_2)) (ei_l (ev_var 0 rfl)) (tg_name 4) fun s_3 x_4 => at_ [(Sl.fz (tyL tyInt) c.1), (Sl.fz tyBl c.2), (Sl.ow (owL (tyTup (csCons tyInt (csLast tyInt)))) s_3.1), (Sl.ow (owL tyInt) s_3.2), (Sl.fz tyInt x_4), Sl.dead, Sl.dead, Sl.dead, Sl.dead] (s_asg (i := 5) rfl imm_int (ev_op op_modI (ev_op op_mulXI (ev_op op_modI (ev_var 4 rfl) (ev_int 2147483647)) (ev_int 48271)) (ev_int 2147483629)) fun number_5 => (at_ [(Sl.fz (tyL tyInt) c.1), (Sl.fz tyBl c.2), (Sl.ow (owL (tyTup (csCons tyInt (csLast tyInt)))) s_3.1), (Sl.ow (owL tyInt) s_3.2), (Sl.fz tyInt x_4), (Sl.fz tyInt number_5), Sl.dead, Sl.dead, Sl.dead] (s_asg (i := 6) rfl imm_int (ev_op op_addI (ev_int 1) (ev_op op_modI (ev_var 5 rfl) (ev_int 40))) fun here_12 => (at_ [(Sl.fz (tyL tyInt) c.1), (Sl.fz tyBl c.2), (Sl.ow (owL (tyTup (csCons tyInt (csLast tyInt)))) s_3.1), (Sl.ow (owL tyInt) s_3.2), (Sl.fz tyInt x_4), (Sl.fz tyInt number_5), (Sl.fz tyInt here_12), Sl.dead, Sl.dead] (s_asg (i := 7) rfl imm_int (ev_op op_addI (ev_int 1) (ev_op op_modI (ev_op op_divGI (ev_var 5 rfl) (ev_int 40)) (ev_int 36))) fun there_17 => (at_ [(Sl.fz (tyL tyInt) c.1), (Sl.fz tyBl c.2), (Sl.ow (owL (tyTup (csCons tyInt (csLast tyInt)))) s_3.1), (Sl.ow (owL tyInt) s_3.2), (Sl.fz tyInt x_4), (Sl.fz tyInt number_5), (Sl.fz tyInt here_12), (Sl.fz tyInt there_17), Sl.dead] (s_end (s_seq (LS := (fun s_24 : ((List (Int × Int)) × (List Int)) => [(Sl.fz (tyL tyInt) c.1), (Sl.fz tyBl c.2), (Sl.ow (owL (tyTup (csCons tyInt (csLast tyInt)))) s_24.1), (Sl.ow (owL tyInt) s_24.2), (Sl.fz tyInt x_4), (Sl.fz tyInt number_5), (Sl.fz tyInt here_12), (Sl.fz tyInt there_17), Sl.dead])) (s_weak (L' := [(Sl.fz (tyL tyInt) c.1), (Sl.fz tyBl c.2), (Sl.ow (owL (tyTup (csCons tyInt (csLast tyInt)))) s_3.1), (Sl.ow (owL tyInt) s_3.2), (Sl.fz tyInt x_4), (Sl.fz tyInt number_5), (Sl.fz tyInt here_12), (Sl.fz tyInt there_17), Sl.dead]) (.same (.same (.same (.same (.same (.same (.same (.same (.same .nil))))))))) (s_for (LS := (fun s_24 : ((List (Int × Int)) × (List Int)) => [(Sl.fz (tyL tyInt) c.1), (Sl.fz tyBl c.2), (Sl.ow (owL (tyTup (csCons tyInt (csLast tyInt)))) s_24.1), (Sl.ow (owL tyInt) s_24.2), (Sl.fz tyInt x_4), (Sl.fz tyInt number_5), (Sl.fz tyInt here_12), (Sl.fz tyInt there_17), Sl.dead])) (s0 := (s_3.1, s_3.2)) (ei_rng1 (ea_last (ev_op op_addI (ev_int 1) (ev_op op_modI (ev_op op_divGI (ev_var 5 rfl) (ev_int 1440)) (ev_int 4))))) (tg_name 8) fun s_24 x_32 => at_ [(Sl.fz (tyL tyInt) c.1), (Sl.fz tyBl c.2), (Sl.ow (owL (tyTup (csCons tyInt (csLast tyInt)))) s_24.1), (Sl.ow (owL tyInt) s_24.2), (Sl.fz tyInt x_4), (Sl.fz tyInt number_5), (Sl.fz tyInt here_12), (Sl.fz tyInt there_17), (Sl.fz tyInt x_32)] (s_end (s_seq (LS := (fun s_49 : ((List (Int × Int)) × (List Int)) => [(Sl.fz (tyL tyInt) c.1), (Sl.fz tyBl c.2), (Sl.ow (owL (tyTup (csCons tyInt (csLast tyInt)))) s_49.1), (Sl.ow (owL tyInt) s_49.2), (Sl.fz tyInt x_4), (Sl.fz tyInt number_5), (Sl.fz tyInt here_12), (Sl.fz tyInt there_17), (Sl.fz tyInt x_32)])) (s_if (et_and (et_val (ev_op op_leI (ev_op op_addI (ev_var 6 rfl) (ev_var 8 rfl)) (ev_int 40))) (et_and (et_val (ev_op op_leI (ev_op op_addI (ev_var 7 rfl) (ev_var 8 rfl)) (ev_int 36))) (et_or (et_trB (ev_var 1 rfl)) (et_val (ev_op (op_ninL flt_int) (ev_op op_addI (ev_var 7 rfl) (ev_var 8 rfl)) (ev_varL 3 rfl)))))) (s_append (i := 2) rfl (imm_tup (immc_cons imm_int (immc_last imm_int))) (ev_tup (csn_cons csn_last) (ea_cons (ev_op op_addI (ev_var 6 rfl) (ev_var 8 rfl)) (ea_last (ev_op op_addI (ev_var 7 rfl) (ev_var 8 rfl))))) fun a_56 => (at_ [(Sl.fz (tyL tyInt) c.1), (Sl.fz tyBl c.2), (Sl.ow (owL (tyTup (csCons tyInt (csLast tyInt)))) (s_24.1 ++ [a_56])), (Sl.ow (owL tyInt) s_24.2), (Sl.fz tyInt x_4), (Sl.fz tyInt number_5), (Sl.fz tyInt here_12), (Sl.fz tyInt there_17), (Sl.fz tyInt x_32)] (s_end (s_append (i := 3) rfl imm_int (ev_op op_addI (ev_var 7 rfl) (ev_var 8 rfl)) fun a_59 => (at_ [(Sl.fz (tyL tyInt) c.1), (Sl.fz tyBl c.2), (Sl.ow (owL (tyTup (csCons tyInt (csLast tyInt)))) (s_24.1 ++ [a_56])), (Sl.ow (owL tyInt) (s_24.2 ++ [a_59])), (Sl.fz tyInt x_4), (Sl.fz tyInt number_5), (Sl.fz tyInt here_12), (Sl.fz tyInt there_17), (Sl.fz tyInt x_32)] (s_nextW (.same (.same (.same (.same (.same (.same (.same (.same (.same .nil))))))))))))))) (s_nextW (.same (.same (.same (.same (.same (.same (.same (.same (.same .nil))))))))))) fun s_49 => (at_ [(Sl.fz (tyL tyInt) c.1), (Sl.fz tyBl c.2), (Sl.ow (owL (tyTup (csCons tyInt (csLast tyInt)))) s_49.1), (Sl.ow (owL tyInt) s_49.2), (Sl.fz tyInt x_4), (Sl.fz tyInt number_5), (Sl.fz tyInt here_12), (Sl.fz tyInt there_17), (Sl.fz tyInt x_32)] (s_nextW (.same (.same (.same (.same (.same (.same (.same (.same (.dead .nil))))))))))))))) fun s_24 => (at_ [(Sl.fz (tyL tyInt) c.1), (Sl.fz tyBl c.2), (Sl.ow (owL (tyTup (csCons tyInt (csLast tyInt)))) s_24.1), (Sl.ow (owL tyInt) s_24.2), (Sl.fz tyInt x_4), (Sl.fz tyInt number_5), (Sl.fz tyInt here_12), (Sl.fz tyInt there_17), Sl.dead] (s_nextW (.same (.same (.same (.same (.dead (.dead (.dead (.dead (.same .nil))))))))))))))))))))) fun s_3 => (at_ [(Sl.fz (tyL tyInt) c.1), (Sl.fz tyBl c.2), (Sl.ow (owL (tyTup (csCons tyInt (csLast tyInt)))) s_3.1), (Sl.ow (owL tyInt) s_3.2), Sl.dead, Sl.dead, Sl.dead, Sl.dead, Sl.dead] (s_retV (i := 2) rfl)))))))
theorem rd_law_wires {K : PySem.W.Frag} : RD_law_wires K := fn_rd (K := K) (N := ["_law_cells", "_law_meeting", "_law_wires_here", "_law_known", "_law_cell", "_law_number", "_law_here", "_law_there", "_law_k"]) (C := (csCons (tyL tyInt) (csLast tyBl))) (O := (owL (tyTup (csCons tyInt (csLast tyInt))))) (t := fun E => t_law_wires K) (ss := fun c => [(Sl.fz (tyL tyInt) c.1), (Sl.fz tyBl c.2)]) (f := fun c => b_law_wires c.1 c.2) 2 7 (csn_cons csn_last) rfl (css_cons css_last) fun c E => ev_law_wires c
theorem ev_law_whole {K : PySem.W.Frag} {E : XK} (c : Int) : EvS K (t_law_whole K) E [(Sl.fz tyInt c)] (b_law_whole c) (fun _ : Unit => []) (fun _ : Unit => []) (owF tyBl) :=
  (s_ret (immo_f imm_bl) (EvF.ow (ev_and (ev_isa tn_int (ev_var 0 rfl)) (ev_not (ev_isa tn_int (ev_var 0 rfl))))))
theorem rd_law_whole {K : PySem.W.Frag} : RD_law_whole K := fn_rd (K := K) (N := ["_law_found"]) (C := (csLast tyInt)) (O := (owF tyBl)) (t := fun E => t_law_whole K) (ss := fun c => [(Sl.fz tyInt c)]) (f := fun c => b_law_whole c) 1 0 csn_last rfl css_last fun c E => ev_law_whole c
theorem ev_law_is_board {K : PySem.W.Frag} {E : XK} (c : ((List (Int × Int)) × (List (Int × Int)))) : EvS K (t_law_is_board K) E [(Sl.fz (tyL (tyTup (csCons tyInt (csLast tyInt)))) c.1), (Sl.fz (tyL (tyTup (csCons tyInt (csLast tyInt)))) c.2), Sl.dead] (b_law_is_board c.1 c.2) (fun _ : Unit => []) (fun _ : Unit => []) (owF tyBl) :=
  (s_seq (LS := (fun _ : Unit => [(Sl.fz (tyL (tyTup (csCons tyInt (csLast tyInt)))) c.1), (Sl.fz (tyL (tyTup (csCons tyInt (csLast tyInt)))) c.2), Sl.dead])) (s_if (et_or (et_not (et_val (ev_isa tn_l (ev_var 0 rfl)))) (et_val (ev_op (op_neL (eqt_l (eqt_tup (eqc_cons eqt_int (eqc_last eqt_int))))) (ev_var 0 rfl) (ev_var 1 rfl)))) (s_ret (immo_f imm_bl) (EvF.ow (ev_bl false))) (s_nextW (.same (.same (.same .nil))))) fun _ => (at_ [(Sl.fz (tyL (tyTup (csCons tyInt (csLast tyInt)))) c.1), (Sl.fz (tyL (tyTup (csCons tyInt (csLast tyInt)))) c.2), Sl.dead] (s_seq (LS := (fun _ : Unit => [(Sl.fz (tyL (tyTup (csCons tyInt (csLast tyInt)))) c.1), (Sl.fz (tyL (tyTup (csCons tyInt (csLast tyInt)))) c.2), Sl.dead])) (s_weak (L' := [(Sl.fz (tyL (tyTup (csCons tyInt (csLast tyInt)))) c.1), (Sl.fz (tyL (tyTup (csCons tyInt (csLast tyInt)))) c.2), Sl.dead]) (.same (.same (.same .nil))) (s_for (LS := (fun _ : Unit => [(Sl.fz (tyL (tyTup (csCons tyInt (csLast tyInt)))) c.1), (Sl.fz (tyL (tyTup (csCons tyInt (csLast tyInt)))) c.2), Sl.dead])) (s0 := ()) (ei_l (ev_var 0 rfl)) (tg_name 2) fun _ x_10 => at_ [(Sl.fz (tyL (tyTup (csCons tyInt (csLast tyInt)))) c.1), (Sl.fz (tyL (tyTup (csCons tyInt (csLast tyInt)))) c.2), (Sl.fz (tyTup (csCons tyInt (csLast tyInt))) x_10)] (s_if (et_or (et_not (et_val (ev_isa tn_tup (ev_var 2 rfl)))) (et_or (et_not (et_val (ev_callF0 (ea_last (ev_ixT (i := 0) at_0 (ev_var 2 rfl)))))) (et_not (et_val (ev_callF0 (ea_last (ev_ixT (i := 1) (at_s at_last) (ev_var 2 rfl)))))))) (s_ret (immo_f imm_bl) (EvF.ow (ev_bl false))) (s_nextW (.same (.same (.dead .nil))))))) fun _ => (at_ [(Sl.fz (tyL (tyTup (csCons tyInt (csLast tyInt)))) c.1), (Sl.fz (tyL (tyTup (csCons tyInt (csLast tyInt)))) c.2), Sl.dead] (s_ret (immo_f imm_bl) (EvF.ow (ev_bl true)))))))
theorem rd_law_is_board {K : PySem.W.Frag} : RD_law_is_board K := fn_rd (K := K) (N := ["_law_found", "_law_due", "_law_wire"]) (C := (csCons (tyL (tyTup (csCons tyInt (csLast tyInt)))) (csLast (tyL (tyTup (csCons tyInt (csLast tyInt))))))) (O := (owF tyBl)) (t := fun E => t_law_is_board K) (ss := fun c => [(Sl.fz (tyL (tyTup (csCons tyInt (csLast tyInt)))) c.1), (Sl.fz (tyL (tyTup (csCons tyInt (csLast tyInt)))) c.2)]) (f := fun c => b_law_is_board c.1 c.2) 2 1 (csn_cons csn_last) rfl (css_cons css_last) fun c E => ev_law_is_board c
theorem ev_shown_field {K : PySem.W.Frag} {E : XK} (c : (Int × Int)) : EvS K (t_shown_field K) E [(Sl.fz (tyTup (csCons tyInt (csLast tyInt))) c), Sl.dead, Sl.dead] (b_shown_field c) (fun _ : Unit => []) (fun _ : Unit => []) (owF tyStr) :=
  (s_asg (i := 1) rfl imm_int (ev_ixT (i := 0) at_0 (ev_var 0 rfl)) fun first_1 => (at_ [(Sl.fz (tyTup (csCons tyInt (csLast tyInt))) c), (Sl.fz tyInt first_1), Sl.dead] (s_asg (i := 2) rfl imm_int (ev_ixT (i := 1) (at_s at_last) (ev_var 0 rfl)) fun last_3 => (at_ [(Sl.fz (tyTup (csCons tyInt (csLast tyInt))) c), (Sl.fz tyInt first_1), (Sl.fz tyInt last_3)] (s_seq (LS := (fun _ : Unit => [(Sl.fz (tyTup (csCons tyInt (csLast tyInt))) c), (Sl.fz tyInt first_1), (Sl.fz tyInt last_3)])) (s_if (et_val (ev_op op_eqI (ev_var 1 rfl) (ev_var 2 rfl))) (s_ret (immo_f imm_str) (EvF.ow (ev_cb bl_str (ea_last (ev_var 1 rfl))))) (s_nextW (.same (.same (.same .nil))))) fun _ => (at_ [(Sl.fz (tyTup (csCons tyInt (csLast tyInt))) c), (Sl.fz tyInt first_1), (Sl.fz tyInt last_3)] (s_ret (immo_f imm_str) (EvF.ow (ev_joined (ej_cons (ev_fmtI (ev_var 1 rfl)) (ej_cons (ev_str [45]) (ej_cons (ev_fmtI (ev_var 2 rfl)) ej_nil))))))))))))
theorem rd_shown_field {K : PySem.W.Frag} : RD_shown_field K := fn_rd (K := K) (N := ["field", "first", "last"]) (C := (csLast (tyTup (csCons tyInt (csLast tyInt))))) (O := (owF tyStr)) (t := fun E => t_shown_field K) (ss := fun c => [(Sl.fz (tyTup (csCons tyInt (csLast tyInt))) c)]) (f := fun c => b_shown_field c) 1 2 csn_last rfl css_last fun c E => ev_shown_field c
theorem ev_shown_piece {K : PySem.W.Frag} {E : XK} (c : (List (Int × Int))) : EvS K (t_shown_piece K) E [(Sl.fz (tyL (tyTup (csCons tyInt (csLast tyInt)))) c), Sl.dead, Sl.dead] (b_shown_piece c) (fun _ : Unit => []) (fun _ : Unit => []) (owF tyStr) :=
  (s_asg (i := 1) rfl imm_str (ev_callF0 (ea_last (ev_tup (csn_cons csn_last) (ea_cons (ev_ixT (i := 0) at_0 (ev_op op_ixL (ev_var 0 rfl) (ev_int 0))) (ea_last (ev_ixT (i := 0) at_0 (ev_op op_ixL (ev_var 0 rfl) (ev_neg (ev_int 1))))))))) fun here_1 => (at_ [(Sl.fz (tyL (tyTup (csCons tyInt (csLast tyInt)))) c), (Sl.fz tyStr here_1), Sl.dead] (s_asg (i := 2) rfl imm_str (ev_callF0 (ea_last (ev_tup (csn_cons csn_last) (ea_cons (ev_ixT (i := 1) (at_s at_last) (ev_op op_ixL (ev_var 0 rfl) (ev_int 0))) (ea_last (ev_ixT (i := 1) (at_s at_last) (ev_op op_ixL (ev_var 0 rfl) (ev_neg (ev_int 1))))))))) fun there_12 => (at_ [(Sl.fz (tyL (tyTup (csCons tyInt (csLast tyInt)))) c), (Sl.fz tyStr here_1), (Sl.fz tyStr there_12)] (s_ret (immo_f imm_str) (EvF.ow (ev_joined (ej_cons (ev_fmtS (ev_var 1 rfl)) (ej_cons (ev_str [62]) (ej_cons (ev_fmtS (ev_var 2 rfl)) ej_nil))))))))))
theorem rd_shown_piece {K : PySem.W.Frag} : RD_shown_piece K := fn_rd (K := K) (N := ["wires", "here", "there"]) (C := (csLast (tyL (tyTup (csCons tyInt (csLast tyInt)))))) (O := (owF tyStr)) (t := fun E => t_shown_piece K) (ss := fun c => [(Sl.fz (tyL (tyTup (csCons tyInt (csLast tyInt)))) c)]) (f := fun c => b_shown_piece c) 1 2 csn_last rfl css_last fun c E => ev_shown_piece c
theorem ev_pieces_of {K : PySem.W.Frag} {E : XK} (c : (List (Int × Int))) : EvS K (t_pieces_of K) E [(Sl.fz (tyL (tyTup (csCons tyInt (csLast tyInt)))) c), Sl.dead, Sl.dead] (b_pieces_of c) (fun _ : Unit => []) (fun _ : Unit => []) (owLL (tyTup (csCons tyInt (csLast tyInt)))) :=
  (s_asgO (i := 1) rfl (immo_ll (imm_tup (immc_cons imm_int (immc_last imm_int)))) (ev_lst0N (tyTup (csCons tyInt (csLast tyInt)))) fun pieces_1 => (at_ [(Sl.fz (tyL (tyTup (csCons tyInt (csLast tyInt)))) c), (Sl.ow (owLL (tyTup (csCons tyInt (csLast tyInt)))) pieces_1), Sl.dead] (s_seq (LS := (fun s_2 : (List (List (Int × Int))) => [(Sl.fz (tyL (tyTup (csCons tyInt (csLast tyInt)))) c), (Sl.ow (owLL (tyTup (csCons tyInt (csLast tyInt)))) s_2), Sl.dead])) (s_weak (L' := [(Sl.fz (tyL (tyTup (csCons tyInt (csLast tyInt)))) c), (Sl.ow (owLL (tyTup (csCons tyInt (csLast tyInt)))) pieces_1), Sl.dead]) (.same (.same (.same .nil))) (s_for (LS := (fun s_2 : (List (List (Int × Int))) => [(Sl.fz (tyL (tyTup (csCons tyInt (csLast tyInt)))) c), (Sl.ow (owLL (tyTup (csCons tyInt (csLast tyInt)))) s_2), Sl.dead])) (s0 := pieces_1) (ei_l (ev_var 0 rfl)) (tg_name 2) fun s_2 x_3 => at_ [(Sl.fz (tyL (tyTup (csCons tyInt (csLast tyInt)))) c), (Sl.ow (owLL (tyTup (csCons tyInt (csLast tyInt)))) s_2), (Sl.fz (tyTup (csCons tyInt (csLast tyInt))) x_3)] (s_end (s_seq (LS := (fun s_23 : (List (List (Int × Int))) => [(Sl.fz (tyL (tyTup (csCons tyInt (csLast tyInt)))) c), (Sl.ow (owLL (tyTup (csCons tyInt (csLast tyInt)))) s_23), (Sl.fz (tyTup (csCons tyInt (csLast tyInt))) x_3)])) (s_if (et_and (et_trL (ev_varN 1 rfl)) (et_val (ev_op (op_eqT (eqt_tup (eqc_cons eqt_int (eqc_last eqt_int)))) (ev_op op_ixL (ev_op op_ixL (ev_varN 1 rfl) (ev_neg (ev_int 1))) (ev_neg (ev_int 1))) (ev_tup (csn_cons csn_last) (ea_cons (ev_op op_subI (ev_ixT (i := 0) at_0 (ev_var 2 rfl)) (ev_int 1)) (ea_last (ev_op op_subI (ev_ixT (i := 1) (at_s at_last) (ev_var 2 rfl)) (ev_int 1)))))))) (s_end (s_appendN (i := 1) rfl (imm_tup (immc_cons imm_int (immc_last imm_int))) (ev_neg (ev_int 1)) (ev_var 2 rfl) fun n_26 a_27 => (at_ [(Sl.fz (tyL (tyTup (csCons tyInt (csLast tyInt)))) c), (Sl.ow (owLL (tyTup (csCons tyInt (csLast tyInt)))) (appN s_2 n_26 a_27)), (Sl.fz (tyTup (csCons tyInt (csLast tyInt))) x_3)] (s_nextW (.same (.same (.same .nil))))))) (s_end (s_appNN (i := 1) rfl (imm_tup (immc_cons imm_int (immc_last imm_int))) (ev_lst csn_last csl_last (ea_last (ev_var 2 rfl))) fun a_29 => (at_ [(Sl.fz (tyL (tyTup (csCons tyInt (csLast tyInt)))) c), (Sl.ow (owLL (tyTup (csCons tyInt (csLast tyInt)))) (s_2 ++ [a_29])), (Sl.fz (tyTup (csCons tyInt (csLast tyInt))) x_3)] (s_nextW (.same (.same (.same .nil)))))))) fun s_23 => (at_ [(Sl.fz (tyL (tyTup (csCons tyInt (csLast tyInt)))) c), (Sl.ow (owLL (tyTup (csCons tyInt (csLast tyInt)))) s_23), (Sl.fz (tyTup (csCons tyInt (csLast tyInt))) x_3)] (s_nextW (.same (.same (.dead .nil))))))))) fun s_2 => (at_ [(Sl.fz (tyL (tyTup (csCons tyInt (csLast tyInt)))) c), (Sl.ow (owLL (tyTup (csCons tyInt (csLast tyInt)))) s_2), Sl.dead] (s_retV (i := 1) rfl)))))
theorem rd_pieces_of {K : PySem.W.Frag} : RD_pieces_of K := fn_rd (K := K) (N := ["board", "pieces", "wire"]) (C := (csLast (tyL (tyTup (csCons tyInt (csLast tyInt)))))) (O := (owLL (tyTup (csCons tyInt (csLast tyInt))))) (t := fun E => t_pieces_of K) (ss := fun c => [(Sl.fz (tyL (tyTup (csCons tyInt (csLast tyInt)))) c)]) (f := fun c => b_pieces_of c) 1 2 csn_last rfl css_last fun c E => ev_pieces_of c
theorem ev_shown_board {K : PySem.W.Frag} {E : XK} (c : (List (Int × Int))) : EvS K (t_shown_board K) E [(Sl.fz (tyL (tyTup (csCons tyInt (csLast tyInt)))) c)] (b_shown_board c) (fun _ : Unit => []) (fun _ : Unit => []) (owF tyStr) :=
  (s_ret (immo_f imm_str) (EvF.ow (ev_me me_join (ev_str [44, 32]) (ea_last (EvO.fr (O := (owL tyStr)) (ev_comp (ei_l (EvO.fr (ev_call0 (ea_last (ev_var 0 rfl))))) (tg_name 0) (fun _ => dead1) (fun x_2 => et_true) (fun x_2 => (ev_callF0 (ea_last (ev_var 0 rfl))))))))))
theorem rd_shown_board {K : PySem.W.Frag} : RD_shown_board K := fn_rd (K := K) (N := ["board"]) (C := (csLast (tyL (tyTup (csCons tyInt (csLast tyInt)))))) (O := (owF tyStr)) (t := fun E => t_shown_board K) (ss := fun c => [(Sl.fz (tyL (tyTup (csCons tyInt (csLast tyInt)))) c)]) (f := fun c => b_shown_board c) 1 0 csn_last rfl css_last fun c E => ev_shown_board c
theorem ev_law_side {K : PySem.W.Frag} {E : XK} (c : (Int × Int)) : EvS K (t_law_side K) E [(Sl.fz tyInt c.1), (Sl.fz tyInt c.2)] (b_law_side c.1 c.2) (fun _ : Unit => []) (fun _ : Unit => []) (owF tyStr) :=
  (s_seq (LS := (fun _ : Unit => [(Sl.fz tyInt c.1), (Sl.fz tyInt c.2)])) (s_if (et_val (ev_op op_eqI (ev_var 0 rfl) (ev_var 1 rfl))) (s_ret (immo_f imm_str) (EvF.ow (ev_cb bl_str (ea_last (ev_var 0 rfl))))) (s_nextW (.same (.same .nil)))) fun _ => (at_ [(Sl.fz tyInt c.1), (Sl.fz tyInt c.2)] (s_ret (immo_f imm_str) (EvF.ow (ev_op op_addS (ev_op op_addS (ev_cb bl_str (ea_last (ev_var 0 rfl))) (ev_str [45])) (ev_cb bl_str (ea_last (ev_var 1 rfl))))))))
theorem rd_law_side {K : PySem.W.Frag} : RD_law_side K := fn_rd (K := K) (N := ["_law_first", "_law_last"]) (C := (csCons tyInt (csLast tyInt))) (O := (owF tyStr)) (t := fun E => t_law_side K) (ss := fun c => [(Sl.fz tyInt c.1), (Sl.fz tyInt c.2)]) (f := fun c => b_law_side c.1 c.2) 2 0 (csn_cons csn_last) rfl (css_cons css_last) fun c E => ev_law_side c
theorem ev_law_piece {K : PySem.W.Frag} {E : XK} (c : (List (Int × Int))) : EvS K (t_law_piece K) E [(Sl.fz (tyL (tyTup (csCons tyInt (csLast tyInt)))) c), Sl.dead, Sl.dead] (b_law_piece c) (fun _ : Unit => []) (fun _ : Unit => []) (owF tyStr) :=
  (s_asg (i := 1) rfl (imm_tup (immc_cons imm_int (immc_last imm_int))) (ev_op op_ixL (ev_var 0 rfl) (ev_int 0)) fun one_1 => (at_ [(Sl.fz (tyL (tyTup (csCons tyInt (csLast tyInt)))) c), (Sl.fz (tyTup (csCons tyInt (csLast tyInt))) one_1), Sl.dead] (s_asg (i := 2) rfl (imm_tup (immc_cons imm_int (immc_last imm_int))) (ev_op op_ixL (ev_var 0 rfl) (ev_int 1)) fun other_4 => (at_ [(Sl.fz (tyL (tyTup (csCons tyInt (csLast tyInt)))) c), (Sl.fz (tyTup (csCons tyInt (csLast tyInt))) one_1), (Sl.fz (tyTup (csCons tyInt (csLast tyInt))) other_4)] (s_ret (immo_f imm_str) (EvF.ow (ev_op op_addS (ev_op op_addS (ev_callF0 (ea_cons (ev_ixT (i := 0) at_0 (ev_var 1 rfl)) (ea_last (ev_ixT (i := 0) at_0 (ev_var 2 rfl))))) (ev_str [62])) (ev_callF0 (ea_cons (ev_ixT (i := 1) (at_s at_last) (ev_var 1 rfl)) (ea_last (ev_ixT (i := 1) (at_s at_last) (ev_var 2 rfl))))))))))))
theorem rd_law_piece {K : PySem.W.Frag} : RD_law_piece K := fn_rd (K := K) (N := ["_law_piece_here", "_law_one", "_law_other"]) (C := (csLast (tyL (tyTup (csCons tyInt (csLast tyInt)))))) (O := (owF tyStr)) (t := fun E => t_law_piece K) (ss := fun c => [(Sl.fz (tyL (tyTup (csCons tyInt (csLast tyInt)))) c)]) (f := fun c => b_law_piece c) 1 2 csn_last rfl css_last fun c E => ev_law_piece c
theorem ev_law {K : PySem.W.Frag} {E : XK} (c : (List Int)) : EvS K (t_law K) E [(Sl.fz (tySc K) c), Sl.dead, Sl.dead, Sl.dead, Sl.dead, Sl.dead, Sl.dead, Sl.dead, Sl.dead] (b_law c) (fun _ : Unit => []) (fun _ : Unit => []) (owF tyBl) :=
  (s_asgO (i := 1) rfl (immo_l (imm_tup (immc_cons imm_int (immc_last imm_int)))) (ev_call0 (ea_last (EvO.fr (ev_call0 (ea_cons (EvO.fr (ev_slSc (ev_var 0 rfl) (ep_of (ev_int 1)) (ep_of (ev_int 85)))) (ea_last (ev_bl false))))))) fun board_1 => s_frz (i := 1) rfl (at_ [(Sl.fz (tySc K) c), (Sl.fz (tyL (tyTup (csCons tyInt (csLast tyInt)))) board_1), Sl.dead, Sl.dead, Sl.dead, Sl.dead, Sl.dead, Sl.dead, Sl.dead] (s_asg (i := 2) rfl imm_int (ev_callF0 (ea_cons (ev_var 0 rfl) (ea_last (ev_int 0)))) fun first_11 => (at_ [(Sl.fz (tySc K) c), (Sl.fz (tyL (tyTup (csCons tyInt (csLast tyInt)))) board_1), (Sl.fz tyInt first_11), Sl.dead, Sl.dead, Sl.dead, Sl.dead, Sl.dead, Sl.dead] (s_asgO (i := 3) rfl (immo_ll (imm_tup (immc_cons imm_int (immc_last imm_int)))) (ev_call0 (ea_last (ev_var 1 rfl))) fun pieces_here_15 => s_frz (i := 3) rfl (at_ [(Sl.fz (tySc K) c), (Sl.fz (tyL (tyTup (csCons tyInt (csLast tyInt)))) board_1), (Sl.fz tyInt first_11), (Sl.fz (tyL (tyL (tyTup (csCons tyInt (csLast tyInt))))) pieces_here_15), Sl.dead, Sl.dead, Sl.dead, Sl.dead, Sl.dead] (s_asgOC (i := 4) rfl (ev_call0 (ea_cons (ev_var 3 rfl) (ea_last (ev_op op_modI (ev_op op_divGI (ev_var 2 rfl) (ev_int 2)) (ev_op op_powI (ev_int 3) (ev_int 40)))))) fun some_17 => s_frz (i := 4) rfl (at_ [(Sl.fz (tySc K) c), (Sl.fz (tyL (tyTup (csCons tyInt (csLast tyInt)))) board_1), (Sl.fz tyInt first_11), (Sl.fz (tyL (tyL (tyTup (csCons tyInt (csLast tyInt))))) pieces_here_15), (Sl.fz (tyL (tyL (tyTup (csCons tyInt (csLast tyInt))))) some_17), Sl.dead, Sl.dead, Sl.dead, Sl.dead] (s_asg (i := 5) rfl imm_int (ev_op op_modI (ev_var 2 rfl) (ev_op op_addI (ev_cb bl_lenL (ea_last (ev_var 4 rfl))) (ev_int 1))) fun at_36 => (at_ [(Sl.fz (tySc K) c), (Sl.fz (tyL (tyTup (csCons tyInt (csLast tyInt)))) board_1), (Sl.fz tyInt first_11), (Sl.fz (tyL (tyL (tyTup (csCons tyInt (csLast tyInt))))) pieces_here_15), (Sl.fz (tyL (tyL (tyTup (csCons tyInt (csLast tyInt))))) some_17), (Sl.fz tyInt at_36), Sl.dead, Sl.dead, Sl.dead] (s_asgOC (i := 4) rfl (ev_opO op_addL (EvO.fr (ev_slL (ev_var 4 rfl) (ep_of (ev_var 5 rfl)) ep_no)) (EvO.fr (ev_slL (ev_var 4 rfl) ep_no (ep_of (ev_var 5 rfl))))) fun some_42 => s_frz (i := 4) rfl (at_ [(Sl.fz (tySc K) c), (Sl.fz (tyL (tyTup (csCons tyInt (csLast tyInt)))) board_1), (Sl.fz tyInt first_11), (Sl.fz (tyL (tyL (tyTup (csCons tyInt (csLast tyInt))))) pieces_here_15), (Sl.fz (tyL (tyL (tyTup (csCons tyInt (csLast tyInt))))) some_42), (Sl.fz tyInt at_36), Sl.dead, Sl.dead, Sl.dead] (s_seq (LS := (fun s_68 : (List (List (Int × Int))) => [(Sl.fz (tySc K) c), (Sl.fz (tyL (tyTup (csCons tyInt (csLast tyInt)))) board_1), (Sl.fz tyInt first_11), (Sl.fz (tyL (tyL (tyTup (csCons tyInt (csLast tyInt))))) pieces_here_15), (Sl.fz (tyL (tyL (tyTup (csCons tyInt (csLast tyInt))))) s_68), (Sl.fz tyInt at_36), Sl.dead, Sl.dead, Sl.dead])) (s_if (et_val (ev_op op_eqI (ev_op op_modI (ev_var 2 rfl) (ev_int 2)) (ev_int 1))) (s_end (s_asgOC (i := 4) rfl (ev_rev (ev_var 4 rfl) (ep_of (ev_neg (ev_int 1)))) fun some_69 => s_frz (i := 4) rfl (at_ [(Sl.fz (tySc K) c), (Sl.fz (tyL (tyTup (csCons tyInt (csLast tyInt)))) board_1), (Sl.fz tyInt first_11), (Sl.fz (tyL (tyL (tyTup (csCons tyInt (csLast tyInt))))) pieces_here_15), (Sl.fz (tyL (tyL (tyTup (csCons tyInt (csLast tyInt))))) some_69), (Sl.fz tyInt at_36), Sl.dead, Sl.dead, Sl.dead] (s_nextW (.same (.same (.same (.same (.same (.same (.same (.same (.same .nil))))))))))))) (s_nextW (.same (.same (.same (.same (.same (.same (.same (.same (.same .nil))))))))))) fun s_68 => (at_ [(Sl.fz (tySc K) c), (Sl.fz (tyL (tyTup (csCons tyInt (csLast tyInt)))) board_1), (Sl.fz tyInt first_11), (Sl.fz (tyL (tyL (tyTup (csCons tyInt (csLast tyInt))))) pieces_here_15), (Sl.fz (tyL (tyL (tyTup (csCons tyInt (csLast tyInt))))) s_68), (Sl.fz tyInt at_36), Sl.dead, Sl.dead, Sl.dead] (s_asg (i := 6) rfl imm_str (ev_me me_join (ev_str [44, 32]) (ea_last (EvO.fr (O := (owL tyStr)) (ev_comp (ei_l (ev_var 4 rfl)) (tg_name 0) (fun _ => dead1) (fun x_73 => et_true) (fun x_73 => (ev_callF0 (ea_last (ev_var 0 rfl)))))))) fun text_72 => (at_ [(Sl.fz (tySc K) c), (Sl.fz (tyL (tyTup (csCons tyInt (csLast tyInt)))) board_1), (Sl.fz tyInt first_11), (Sl.fz (tyL (tyL (tyTup (csCons tyInt (csLast tyInt))))) pieces_here_15), (Sl.fz (tyL (tyL (tyTup (csCons tyInt (csLast tyInt))))) s_68), (Sl.fz tyInt at_36), (Sl.fz tyStr text_72), Sl.dead, Sl.dead] (s_asgO (i := 7) rfl (immo_l (imm_tup (immc_cons imm_int (immc_last imm_int)))) (ev_call0 (ea_last (ev_var 6 rfl))) fun found_78 => (at_ [(Sl.fz (tySc K) c), (Sl.fz (tyL (tyTup (csCons tyInt (csLast tyInt)))) board_1), (Sl.fz tyInt first_11), (Sl.fz (tyL (tyL (tyTup (csCons tyInt (csLast tyInt))))) pieces_here_15), (Sl.fz (tyL (tyL (tyTup (csCons tyInt (csLast tyInt))))) s_68), (Sl.fz tyInt at_36), (Sl.fz tyStr text_72), (Sl.ow (owL (tyTup (csCons tyInt (csLast tyInt)))) found_78), Sl.dead] (s_seq (LS := (fun _ : Unit => [(Sl.fz (tySc K) c), (Sl.fz (tyL (tyTup (csCons tyInt (csLast tyInt)))) board_1), (Sl.fz tyInt first_11), (Sl.fz (tyL (tyL (tyTup (csCons tyInt (csLast tyInt))))) pieces_here_15), (Sl.fz (tyL (tyL (tyTup (csCons tyInt (csLast tyInt))))) s_68), (Sl.fz tyInt at_36), (Sl.fz tyStr text_72), (Sl.ow (owL (tyTup (csCons tyInt (csLast tyInt)))) found_78), Sl.dead])) (s_if (et_not (et_val (ev_callF0 (ea_cons (ev_varL 7 rfl) (ea_last (ev_var 1 rfl)))))) (s_ret (immo_f imm_bl) (EvF.ow (ev_bl false))) (s_nextW (.same (.same (.same (.same (.same (.same (.same (.same (.same .nil))))))))))) fun _ => (at_ [(Sl.fz (tySc K) c), (Sl.fz (tyL (tyTup (csCons tyInt (csLast tyInt)))) board_1), (Sl.fz tyInt first_11), (Sl.fz (tyL (tyL (tyTup (csCons tyInt (csLast tyInt))))) pieces_here_15), (Sl.fz (tyL (tyL (tyTup (csCons tyInt (csLast tyInt))))) s_68), (Sl.fz tyInt at_36), (Sl.fz tyStr text_72), (Sl.ow (owL (tyTup (csCons tyInt (csLast tyInt)))) found_78), Sl.dead] (s_append (i := 7) rfl (imm_tup (immc_cons imm_int (immc_last imm_int))) (ev_tup (csn_cons csn_last) (ea_cons (ev_int 40) (ea_last (ev_int 36)))) fun a_89 => (at_ [(Sl.fz (tySc K) c), (Sl.fz (tyL (tyTup (csCons tyInt (csLast tyInt)))) board_1), (Sl.fz tyInt first_11), (Sl.fz (tyL (tyL (tyTup (csCons tyInt (csLast tyInt))))) pieces_here_15), (Sl.fz (tyL (tyL (tyTup (csCons tyInt (csLast tyInt))))) s_68), (Sl.fz tyInt at_36), (Sl.fz tyStr text_72), (Sl.ow (owL (tyTup (csCons tyInt (csLast tyInt)))) (found_78 ++ [a_89])), Sl.dead] (s_asgO (i := 8) rfl (immo_l (imm_tup (immc_cons imm_int (immc_last imm_int)))) (ev_call0 (ea_last (ev_var 6 rfl))) fun again_90 => s_frz (i := 8) rfl (at_ [(Sl.fz (tySc K) c), (Sl.fz (tyL (tyTup (csCons tyInt (csLast tyInt)))) board_1), (Sl.fz tyInt first_11), (Sl.fz (tyL (tyL (tyTup (csCons tyInt (csLast tyInt))))) pieces_here_15), (Sl.fz (tyL (tyL (tyTup (csCons tyInt (csLast tyInt))))) s_68), (Sl.fz tyInt at_36), (Sl.fz tyStr text_72), (Sl.ow (owL (tyTup (csCons tyInt (csLast tyInt)))) (found_78 ++ [a_89])), (Sl.fz (tyL (tyTup (csCons tyInt (csLast tyInt)))) again_90)] (s_seq (LS := (fun _ : Unit => [(Sl.fz (tySc K) c), (Sl.fz (tyL (tyTup (csCons tyInt (csLast tyInt)))) board_1), (Sl.fz tyInt first_11), (Sl.fz (tyL (tyL (tyTup (csCons tyInt (csLast tyInt))))) pieces_here_15), (Sl.fz (tyL (tyL (tyTup (csCons tyInt (csLast tyInt))))) s_68), (Sl.fz tyInt at_36), (Sl.fz tyStr text_72), (Sl.ow (owL (tyTup (csCons tyInt (csLast tyInt)))) (found_78 ++ [a_89])), (Sl.fz (tyL (tyTup (csCons tyInt (csLast tyInt)))) again_90)])) (s_if (et_not (et_val (ev_callF0 (ea_cons (ev_var 8 rfl) (ea_last (ev_var 1 rfl)))))) (s_ret (immo_f imm_bl) (EvF.ow (ev_bl false))) (s_nextW (.same (.same (.same (.same (.same (.same (.same (.same (.same .nil))))))))))) fun _ => (at_ [(Sl.fz (tySc K) c), (Sl.fz (tyL (tyTup (csCons tyInt (csLast tyInt)))) board_1), (Sl.fz tyInt first_11), (Sl.fz (tyL (tyL (tyTup (csCons tyInt (csLast tyInt))))) pieces_here_15), (Sl.fz (tyL (tyL (tyTup (csCons tyInt (csLast tyInt))))) s_68), (Sl.fz tyInt at_36), (Sl.fz tyStr text_72), (Sl.ow (owL (tyTup (csCons tyInt (csLast tyInt)))) (found_78 ++ [a_89])), (Sl.fz (tyL (tyTup (csCons tyInt (csLast tyInt)))) again_90)] (s_ret (immo_f imm_bl) (EvF.ow (ev_op op_eqS (ev_callF0 (ea_last (ev_var 8 rfl))) (ev_me me_join (ev_str [44, 32]) (ea_last (EvO.fr (O := (owL tyStr)) (ev_comp (ei_l (ev_var 3 rfl)) (tg_name 0) (fun _ => dead1) (fun x_100 => et_true) (fun x_100 => (ev_callF0 (ea_last (ev_var 0 rfl)))))))))))))))))))))))))))))))))))))
theorem rd_law_of (hf : ∀ ns : List Int, ns.length ≤ 63 → BitsOk ns → f_law ns = .ok true) {K : PySem.W.Frag} : RD_law K := by
  rintro vs H Q E ⟨a, ns, rfl, hS, hl, hb, q⟩
  refine fn_rd (K := K) (N := ["_law_script", "_law_board", "_law_first", "_law_pieces_here", "_law_some", "_law_at", "_law_text", "_law_found", "_law_again"]) (C := (csLast (tySc K))) (O := owF tyBl) (t := fun E => t_law K) (ss := fun c => [(Sl.fz (tySc K) c)]) (f := fun c => b_law c) 1 8 csn_last rfl css_last (fun c E => ev_law c) _ H Q E ⟨H, ns, Same.refl _, ⟨_, rfl, a, rfl, hS⟩, ?_⟩
  show After K (f_law ns) E H H _
  rw [hf ns hl hb]
  rintro F' H' x v h _ _ _ ⟨_, rfl⟩
  exact q H'
end K29
namespace K29
open PySem PySem.Spec PyProof.Rows L2
local macro_rules | `(tactic| walk_at "mo") => `(tactic| simp only [Mo.okB, Mo.exB, Mo.noB, Mo.noexO, Mo.optS, thenO_nx, thenO_rt, thenO_bk, thenO_ct, fnO_rt, forO_nil, grd_div, grd_mod, grd_mulL, grd_T, Bool.not_true, Bool.not_false, if_true, if_false, Bool.false_eq_true, Option.map_some, Option.map_none, ite_true, ite_false, Int.reduceLT, Int.reduceLE, Int.reduceNeg, Int.reduceSub, Int.reduceAdd, Int.reduceMul, Nat.reduceAdd, Nat.reduceLT, decide_true, decide_false, Option.isSome_none, Option.isSome_some, Option.isNone_none, Option.isNone_some, Bool.and_true, Bool.and_false])
theorem cell_eq (ns : List Int) (k : Int) (h : 0 ≤ k) : ∃ c, f_law_cell_at ns k = .ok c := by
  unfold f_law_cell_at b_law_cell_at
  walk_at "mo"
  by_cases hk : k < (ns.length : Int)
  · obtain ⟨x, e, _⟩ := atI_some h hk
    rw [decide_eq_true hk, if_pos rfl, e]
    exact ⟨x, rfl⟩
  · rw [decide_eq_false hk, if_neg (by decide)]
    exact ⟨0, rfl⟩
theorem rng_split1 {lo : Int} {n : Nat} {d r : List Int} {x : Int} (h : rngI lo n = d ++ x :: r) : x = lo + d.length ∧ d.length < n := by
  have hl := congrArg List.length h
  rw [rngI_len, List.length_append, List.length_cons] at hl
  have hd : d.length < n := by omega
  have h1 : (rngI lo n)[d.length]? = some x := by rw [h]; simp
  unfold rngI at h1
  rw [List.getElem?_map, List.getElem?_range hd] at h1
  simp at h1
  exact ⟨h1.symm, hd⟩
abbrev Wr := Int × Int
def okW (w : Wr) : Prop := 1 ≤ w.1 ∧ w.1 ≤ 40 ∧ 1 ≤ w.2 ∧ w.2 ≤ 36
theorem nodup_sub {α : Type} [DecidableEq α] : ∀ {xs ys : List α}, xs.Nodup → (∀ x ∈ xs, x ∈ ys) → xs.length ≤ ys.length
  | [], ys, _, _ => Nat.zero_le _
  | x :: xs, ys, hn, hs => by
    obtain ⟨h1, h2⟩ := List.nodup_cons.mp hn
    have hx := hs x (List.mem_cons_self ..)
    have := nodup_sub (ys := ys.erase x) h2 fun y hy => (List.mem_erase_of_ne (fun e => h1 (by rw [← e]; exact hy))).mpr (hs y (List.mem_cons_of_mem _ hy))
    rw [List.length_erase_of_mem hx] at this
    have := List.length_pos_of_mem hx
    rw [List.length_cons]
    omega
theorem nodup36 {xs : List Int} (hn : xs.Nodup) (h : ∀ x ∈ xs, 1 ≤ x ∧ x ≤ 36) : xs.length ≤ 36 := by
  have := nodup_sub (ys := rngI 1 36) hn fun x hx => rngI_mem.mpr (by have := h x hx; omega)
  rwa [rngI_len] at this
def WF (W : List Wr) : Prop := (W.map (·.2)).Nodup ∧ ∀ w ∈ W, okW w
theorem WF.len {W : List Wr} (h : WF W) : W.length ≤ 36 := by
  have := nodup36 h.1 fun x hx => by obtain ⟨w, hw, rfl⟩ := List.mem_map.mp hx; exact ⟨(h.2 w hw).2.2.1, (h.2 w hw).2.2.2⟩
  rwa [List.length_map] at this
theorem wires_eq (cs : List Int) : ∃ W, f_law_wires cs false = .ok W ∧ WF W := by
  unfold f_law_wires b_law_wires
  walk_at "mo"
  refine forO_elim (G := fun m => ∃ W, fnO (thenO m fun s_3 => Mo.ok (Out.rt s_3.fst)) = .ok W ∧ WF W) (fun d (s : List Wr × List Int) => s.2 = s.1.map (·.2) ∧ WF s.1) ?h0 (fun d x s hx hs => ?_) (fun s hs => ⟨_, rfl, hs.2⟩)
  case h0 => exact ⟨rfl, .nil, fun w hw => by cases hw⟩
  have x0 : 0 ≤ x % 2147483647 := Int.emod_nonneg _ (by decide)
  have x1 : x % 2147483647 < 2147483647 := Int.emod_lt_of_pos _ (by decide)
  rw [grd_mulL (by omega) (by omega)]
  walk_at "mo"
  generalize hn : x % 2147483647 * 48271 % 2147483629 = n
  have q0 : 0 ≤ n / 1440 % 4 := Int.emod_nonneg _ (by decide)
  have q1 : n / 1440 % 4 < 4 := Int.emod_lt_of_pos _ (by decide)
  have n0 : 0 ≤ n % 40 := Int.emod_nonneg _ (by decide)
  have n1 : 0 ≤ n / 40 % 36 := Int.emod_nonneg _ (by decide)
  rw [Mo.grd_ok ⟨by omega, by omega⟩]
  walk_at "mo"
  refine forO_elim (G := fun m => ∃ s', thenO m (fun s_49 => Mo.ok (Out.nx (s_49.fst, s_49.snd))) = .ok (.nx s') ∧ (s'.2 = s'.1.map (·.2) ∧ WF s'.1)) (fun d (s : List Wr × List Int) => s.2 = s.1.map (·.2) ∧ WF s.1) hs (fun d k s hx hs => ?_) (fun s hs => ⟨_, rfl, hs⟩)
  obtain ⟨r, hr⟩ := hx
  have hk : 0 ≤ k := (rngI_mem.mp (by rw [hr]; simp : k ∈ rngI 0 (1 + n / 1440 % 4).toNat)).1
  obtain ⟨W, Kn⟩ := s
  obtain ⟨h1, h2⟩ := hs
  simp only at h1 h2
  subst h1
  by_cases c1 : 1 + n % 40 + k ≤ 40
  · rw [decide_eq_true c1, if_pos rfl]
    by_cases c2 : 1 + n / 40 % 36 + k ≤ 36
    · rw [decide_eq_true c2, if_pos rfl]
      walk_at "mo"
      cases c3 : (W.map (fun x : Wr => x.2)).any fun y => decide (y = 1 + n / 40 % 36 + k) with
      | true => exact ⟨_, rfl, rfl, h2⟩
      | false =>
        have hl := h2.len
        have hl2 : (W.map (fun x : Wr => x.2)).length ≤ 36 := by rw [List.length_map]; exact hl
        rw [show (!false) = true from rfl, if_pos rfl, Mo.lim_ok (by omega), Mo.lim_ok (by omega)]
        refine ⟨_, rfl, by simp, ?_, ?_⟩
        · show ((W ++ [_]).map (fun x : Wr => x.2)).Nodup
          rw [List.map_append, List.map_singleton]
          refine List.nodup_append.mpr ⟨h2.1, List.nodup_cons.mpr ⟨List.not_mem_nil, .nil⟩, fun a ha b hb e => ?_⟩
          obtain rfl := List.mem_singleton.mp hb
          have := List.any_eq_false.mp c3 a ha
          simp [e] at this
        · intro w hw
          rcases List.mem_append.mp hw with hw | hw
          · exact h2.2 w hw
          · obtain rfl := List.mem_singleton.mp hw
            refine ⟨?_, c1, ?_, c2⟩ <;> simp only <;> omega
    · rw [decide_eq_false c2]
      exact ⟨_, rfl, rfl, h2⟩
  · rw [decide_eq_false c1]
    exact ⟨_, rfl, rfl, h2⟩
def swp (w : Wr) : Wr := (w.2, w.1)
def brd (W : List Wr) : List Wr := (srtL (lxP ltI ltI) (W.map swp)).map swp
theorem brd_perm (W : List Wr) : (brd W).Perm W := by
  have := (srtL_perm (lxP ltI ltI) (W.map swp)).map swp
  rwa [List.map_map, show swp ∘ swp = id from rfl, List.map_id] at this
theorem brd_wf {W : List Wr} (h : WF W) : WF (brd W) := by
  have p := brd_perm W
  exact ⟨(p.map (·.2)).nodup_iff.mpr h.1, fun w hw => h.2 w (p.mem_iff.mp hw)⟩
theorem eqb_refl (B : List Wr) : eqL (fun a b => decide (a.fst = b.fst) && decide (a.snd = b.snd)) B B = true := eqL_refl (fun a => by simp) B
theorem brd_congr {W W' : List Wr} (p : W'.Perm W) : brd W' = brd W := by
  unfold brd
  rw [srtL_uniq (lo_pair lo_int lo_int) ((srtL_perm (lxP ltI ltI) (W'.map swp)).trans (p.map swp)) (srtL_sorted (lo_pair lo_int lo_int) _)]
theorem WF.perm {W W' : List Wr} (p : W'.Perm W) (h : WF W) : WF W' := ⟨(p.map (·.2)).nodup_iff.mpr h.1, fun w hw => h.2 w (p.mem_iff.mp hw)⟩
def byC (W : List Wr) : List (Int × Wr) := W.map fun w => (w.2, w)
theorem byC_get {W : List Wr} (h : (W.map (·.2)).Nodup) {w : Wr} (hw : w ∈ W) : getA (byC W) w.2 = some w := by
  induction W with
  | nil => cases hw
  | cons v W ih =>
    rw [List.map_cons] at h
    obtain ⟨h1, h2⟩ := List.nodup_cons.mp h
    unfold getA byC
    rw [List.map_cons, List.find?_cons]
    rcases List.mem_cons.mp hw with e | hw
    · subst e; simp
    · have : v.2 ≠ w.2 := fun e => h1 (by rw [e]; exact List.mem_map_of_mem hw)
      rw [decide_eq_false this]
      exact ih h2 hw
theorem byC_no {W : List Wr} {c : Int} (h : c ∉ W.map (·.2)) : getA (byC W) c = none := by
  unfold getA byC
  rw [List.find?_eq_none.mpr]
  · rfl
  · intro q hq
    obtain ⟨w, hw, rfl⟩ := List.mem_map.mp hq
    simp only [decide_eq_true_eq]
    exact fun e => h (by rw [← e]; exact List.mem_map_of_mem hw)
theorem byC_put {W : List Wr} {w : Wr} (h : w.2 ∉ W.map (·.2)) : putA (byC W) w.2 w = byC (W ++ [w]) := by
  unfold putA
  have : (byC W).any (fun q => decide (q.1 = w.2)) = false := by
    rw [List.any_eq_false]
    intro q hq
    unfold byC at hq
    obtain ⟨v, hv, rfl⟩ := List.mem_map.mp hq
    simp only [decide_eq_true_eq]
    exact fun e => h (by rw [← e]; exact List.mem_map_of_mem hv)
  rw [this, if_neg (by decide)]
  unfold byC
  rw [List.map_append]; rfl
theorem byC_sorted {W : List Wr} (h : (W.map (·.2)).Nodup) : (srtL ltI (W.map (·.2))).map (fun c => (getA (byC W) c).getD (0, 0)) = brd W := by
  have e : (srtL ltI (W.map (·.2))).map (fun c => (c, ((getA (byC W) c).getD (0, 0)).1)) = srtL (lxP ltI ltI) (W.map swp) := by
    refine srtL_uniq (lo_pair lo_int lo_int) ?_ ?_
    · have := (srtL_perm ltI (W.map (·.2))).map (fun c => (c, ((getA (byC W) c).getD (0, 0)).1))
      rw [List.map_map] at this
      refine this.trans (List.Perm.of_eq (List.map_congr_left fun w hw => ?_))
      show (w.2, ((getA (byC W) w.2).getD (0, 0)).1) = swp w
      rw [byC_get h hw]; rfl
    · refine List.pairwise_map.mpr ((srtL_sorted lo_int (W.map (·.2))).imp fun {a b} q => ?_)
      unfold lxP
      show (if b = a then _ else _) = false
      split
      · rename_i z; subst z; exact lo_int.irr _
      · exact q
  unfold brd
  rw [← e, List.map_map]
  refine List.map_congr_left fun c hc => ?_
  obtain ⟨w, hw, rfl⟩ := List.mem_map.mp ((srtL_perm ltI (W.map (·.2))).mem_iff.mp hc)
  show _ = swp (w.2, ((getA (byC W) w.2).getD (0, 0)).1)
  rw [byC_get h hw]; rfl
theorem col_eq {v m : Int} (h1 : 1 ≤ v) (h2 : v ≤ m) : f_is_column v m = .ok true := by
  unfold f_is_column b_is_column f_is_whole b_is_whole
  walk_at "mo"
  simp [h1, h2]
theorem make_eq {W : List Wr} (h : WF W) : f_make_board W = .ok (brd W) := by
  have hl := h.len
  unfold f_make_board b_make_board
  walk_at "mo"
  rw [forO_all (fun x hx => by
    obtain ⟨a1, a2, a3, a4⟩ := h.2 x hx
    rw [col_eq a1 a2, col_eq a3 a4]; rfl)]
  walk_at "mo"
  refine forO_elim (G := fun m => fnO (thenO m _) = _) (fun d (s : List (Int × Wr)) => s = byC d) rfl (fun d x s hx hs => ?_) (fun s hs => ?_)
  · obtain ⟨r, hr⟩ := hx
    subst hs
    have nd := h.1
    rw [hr, List.map_append, List.map_cons] at nd
    have hn : x.2 ∉ d.map (·.2) := fun z => by
      have := (List.nodup_append.mp nd).2.2 _ z _ (List.mem_cons_self ..)
      exact this rfl
    have hd : d.length ≤ 36 := by have := congrArg List.length hr; simp at this; omega
    rw [byC_no hn, byC_put hn]
    walk_at "mo"
    rw [Mo.lim_ok (by unfold byC; rw [List.length_map]; omega)]
    exact ⟨_, rfl, rfl⟩
  · subst hs
    have e : (byC W).map (fun x => x.fst) = W.map (·.2) := by unfold byC; rw [List.map_map]; rfl
    rw [thenO_nx, e, Mo.grd_ok (by unfold byC; rw [List.length_map]; omega), Mo.okB]
    rw [compM_map (f := fun x_29 => cond1 (Mo.ok true) (Mo.opt (getA (byC W) x_29))) (g := fun c => (getA (byC W) c).getD (0, 0)) (fun c hc => by
      obtain ⟨w, hw, rfl⟩ := List.mem_map.mp ((srtL_perm ltI (W.map (·.2))).mem_iff.mp hc)
      rw [byC_get h.1 hw]; rfl) (by rw [(srtL_perm _ _).length_eq, List.length_map]; simp; omega)]
    rw [List.nil_append, byC_sorted h.1]
    rfl
theorem whole_eq (n : Int) : f_law_whole n = .ok true := rfl
theorem is_board_eq (B : List Wr) : f_law_is_board B B = .ok true := by
  unfold f_law_is_board b_law_is_board
  walk_at "mo"
  rw [eqb_refl, forO_all (fun x hx => by rw [whole_eq, whole_eq]; rfl)]
  rfl
theorem sorted_eq {W : List Wr} (h : WF W) : f_law_sorted W = .ok (brd W) := by
  have hl := h.len
  unfold f_law_sorted b_law_sorted
  walk_at "mo"
  rw [compM_map (f := fun x_1 : Wr => cond1 (Mo.ok true) (Mo.ok (x_1.snd, x_1.fst))) (g := swp) (fun x hx => rfl) (by simp; omega)]
  walk_at "mo"
  rw [Mo.grd_ok (by simp; omega), Mo.okB, compM_map (f := fun x_1 : Wr => cond1 (Mo.ok true) (Mo.ok (x_1.snd, x_1.fst))) (g := swp) (fun x hx => rfl) (by rw [(srtL_perm _ _).length_eq]; simp; omega)]
  rfl
def rwB (n : Int) : Bool := (match f_read_whole (strI n) with | .ok (some v) => decide (v = n) | _ => false) && decide (n.natAbs.log2 < 1920) && decide ((strI n).length ≤ 2) && (strI n).all (fun c => c != 45 && c != 62 && c != 44) && decide (strI n ≠ [])
theorem rwB_all : (List.range 40).all (fun i : Nat => rwB (i + 1)) = true := by decide +kernel
theorem rwB_ok {n : Int} (h1 : 1 ≤ n) (h2 : n ≤ 40) : rwB n = true := by
  have := List.all_eq_true.mp rwB_all (n.toNat - 1) (List.mem_range.mpr (by omega))
  rwa [show ((n.toNat - 1 : Nat) : Int) + 1 = n by omega] at this
theorem rw_eq {n : Int} (h1 : 1 ≤ n) (h2 : n ≤ 40) : f_read_whole (strI n) = .ok (some n) ∧ n.natAbs.log2 < 1920 ∧ (strI n).length ≤ 2 ∧ (45 : Nat) ∉ strI n ∧ (62 : Nat) ∉ strI n ∧ (44 : Nat) ∉ strI n ∧ strI n ≠ [] := by
  have := rwB_ok h1 h2
  unfold rwB at this
  rw [Bool.and_eq_true, Bool.and_eq_true, Bool.and_eq_true, Bool.and_eq_true, decide_eq_true_eq, decide_eq_true_eq, decide_eq_true_eq, List.all_eq_true] at this
  obtain ⟨⟨⟨⟨a, b⟩, c⟩, d⟩, e⟩ := this
  refine ⟨?_, b, c, fun z => ?_, fun z => ?_, fun z => ?_, e⟩
  · revert a
    cases f_read_whole (strI n) with
    | ok v =>
      cases v with
      | none => intro z; cases z
      | some v => intro z; rw [of_decide_eq_true z]
    | ex _ => intro z; cases z
    | no => intro z; cases z
  all_goals have := d _ z; simp at this
abbrev Rn := Wr × Nat
def wrs (r : Rn) : List Wr := (List.range (r.2 + 1)).map fun i : Nat => (r.1.1 + i, r.1.2 + i)
def rend (r : Rn) : Wr := (r.1.1 + r.2, r.1.2 + r.2)
def rstep (R : List Rn) (x : Wr) : List Rn := match R.getLast? with
  | some r => if x = (r.1.1 + r.2 + 1, r.1.2 + r.2 + 1) then R.dropLast ++ [(r.1, r.2 + 1)] else R ++ [(x, 0)]
  | none => [(x, 0)]
def runs (d : List Wr) : List Rn := d.foldl rstep []
theorem runs_snoc (d : List Wr) (x : Wr) : runs (d ++ [x]) = rstep (runs d) x := by unfold runs; rw [List.foldl_append]; rfl
theorem wrs_inc (w : Wr) (n : Nat) : wrs (w, n + 1) = wrs (w, n) ++ [(w.1 + n + 1, w.2 + n + 1)] := by
  unfold wrs
  rw [List.range_succ, List.map_append]
  simp only [List.map_cons, List.map_nil]
  congr 3
  · show w.1 + ((n + 1 : Nat) : Int) = _; omega
  · show w.2 + ((n + 1 : Nat) : Int) = _; omega
theorem wrs_split (r : Rn) : ∃ q, wrs r = q ++ [rend r] := ⟨_, by unfold wrs; rw [List.range_succ, List.map_append]; rfl⟩
theorem wrs_head (r : Rn) : ∃ q, wrs r = r.1 :: q := ⟨_, by unfold wrs; rw [List.range_succ_eq_map, List.map_cons]; show (r.1.1 + ((0 : Nat) : Int), r.1.2 + ((0 : Nat) : Int)) :: _ = _; rw [show ((0 : Nat) : Int) = 0 from rfl, Int.add_zero, Int.add_zero]⟩
theorem wrs_one (x : Wr) : wrs (x, 0) = [x] := by
  unfold wrs; show [(x.1 + ((0 : Nat) : Int), x.2 + ((0 : Nat) : Int))] = _; rw [show ((0 : Nat) : Int) = 0 from rfl, Int.add_zero, Int.add_zero]
theorem wrs_len (r : Rn) : (wrs r).length = r.2 + 1 := by unfold wrs; simp
theorem rstep_flat (R : List Rn) (x : Wr) : ((rstep R x).map wrs).flatten = (R.map wrs).flatten ++ [x] := by
  rcases List.eq_nil_or_concat R with rfl | ⟨Q, r, rfl⟩
  · show (wrs (x, 0) ++ []) = _; rw [wrs_one]; rfl
  · rw [List.concat_eq_append]
    unfold rstep
    rw [List.getLast?_concat]
    simp only
    split
    · rename_i e
      rw [List.dropLast_concat, List.map_append, List.map_append, List.flatten_append, List.flatten_append]
      simp only [List.map_cons, List.map_nil, List.flatten_cons, List.flatten_nil, List.append_nil]
      rw [wrs_inc, List.append_assoc, ← e]
    · rw [List.map_append, List.flatten_append]
      simp only [List.map_cons, List.map_nil, List.flatten_cons, List.flatten_nil, List.append_nil, wrs_one]
theorem runs_flat (d : List Wr) : ((runs d).map wrs).flatten = d := by
  have key : ∀ (d : List Wr) (R : List Rn), ((d.foldl rstep R).map wrs).flatten = (R.map wrs).flatten ++ d := fun d => by
    induction d with
    | nil => intro R; simp
    | cons x d ih => intro R; rw [List.foldl_cons, ih, rstep_flat, List.append_assoc]; rfl
  exact key d []
theorem rstep_len (R : List Rn) (x : Wr) : (rstep R x).length ≤ R.length + 1 := by
  rcases List.eq_nil_or_concat R with rfl | ⟨Q, r, rfl⟩
  · exact Nat.le_refl 1
  · rw [List.concat_eq_append]
    unfold rstep
    rw [List.getLast?_concat]
    simp only
    split <;> simp
theorem runs_len (d : List Wr) : (runs d).length ≤ d.length := by
  have key : ∀ (d : List Wr) (R : List Rn), (d.foldl rstep R).length ≤ R.length + d.length := fun d => by
    induction d with
    | nil => intro R; exact Nat.le_refl _
    | cons x d ih => intro R; have := ih (rstep R x); have := rstep_len R x; rw [List.foldl_cons, List.length_cons]; omega
  have := key d []
  rwa [List.length_nil, Nat.zero_add] at this
theorem run_sub {d : List Wr} {r : Rn} (h : r ∈ runs d) : ∀ w ∈ wrs r, w ∈ d := fun w hw => by
  have : w ∈ ((runs d).map wrs).flatten := List.mem_flatten.mpr ⟨_, List.mem_map_of_mem h, hw⟩
  rwa [runs_flat] at this
theorem run_ok {d : List Wr} (hd : ∀ w ∈ d, okW w) {r : Rn} (h : r ∈ runs d) : okW r.1 ∧ okW (rend r) := by
  have hs := run_sub h
  obtain ⟨q, e⟩ := wrs_head r
  obtain ⟨q', e'⟩ := wrs_split r
  exact ⟨hd _ (hs _ (by rw [e]; simp)), hd _ (hs _ (by rw [e']; simp))⟩
theorem ix_last {α : Type} (P : List α) (y : α) : ixN (P ++ [y]).length (-1) = some P.length := by
  unfold ixN
  rw [if_neg (by decide), List.length_append, List.length_singleton, if_pos (by omega)]
  congr 1; omega
theorem get_last {α : Type} (P : List α) (y : α) : (P ++ [y])[P.length]? = some y := List.getElem?_concat_length
theorem set_last {α : Type} (P : List α) (y z : α) : (P ++ [y]).set P.length z = P ++ [z] := by
  induction P with
  | nil => rfl
  | cons a P ih => show a :: (P ++ [y]).set P.length z = _; rw [ih]; rfl
theorem app_last (P : List (List Wr)) (y : List Wr) (x : Wr) : appN (P ++ [y]) P.length x = P ++ [y ++ [x]] := by
  unfold appN; rw [get_last]; exact set_last ..
theorem rstep_last (Q : List Rn) (r : Rn) (x : Wr) : rstep (Q ++ [r]) x = if x = (r.1.1 + r.2 + 1, r.1.2 + r.2 + 1) then Q ++ [(r.1, r.2 + 1)] else Q ++ [r] ++ [(x, 0)] := by
  unfold rstep; rw [List.getLast?_concat, List.dropLast_concat]
theorem eqp_iff (a b : Wr) : (decide (a.fst = b.fst) && decide (a.snd = b.snd)) = decide (a = b) := by
  obtain ⟨a1, a2⟩ := a; obtain ⟨b1, b2⟩ := b
  by_cases h1 : a1 = b1 <;> by_cases h2 : a2 = b2 <;> simp [h1, h2]
theorem run_len {d : List Wr} {r : Rn} (h : r ∈ runs d) : (wrs r).length ≤ d.length := by
  have e := congrArg List.length (runs_flat d)
  rw [List.length_flatten] at e
  have : ∀ (l : List Nat) (k : Nat), k ∈ l → k ≤ l.sum := fun l => by
    induction l with
    | nil => intro k hk; cases hk
    | cons a l ih => intro k hk; rw [List.sum_cons]; exact (List.mem_cons.mp hk).elim (fun e => by omega) (fun hk => by have := ih k hk; omega)
  have := this _ _ (List.mem_map_of_mem (f := List.length) (List.mem_map_of_mem (f := wrs) h))
  omega
theorem rend0 (x : Wr) : rend (x, 0) = x := by unfold rend; show (x.1 + ((0 : Nat) : Int), x.2 + ((0 : Nat) : Int)) = x; rw [show ((0 : Nat) : Int) = 0 from rfl, Int.add_zero, Int.add_zero]
theorem rend1 (r : Rn) : rend (r.1, r.2 + 1) = ((rend r).1 + 1, (rend r).2 + 1) := by
  unfold rend; exact Prod.ext (show r.1.1 + ((r.2 + 1 : Nat) : Int) = r.1.1 + r.2 + 1 by omega) (show r.1.2 + ((r.2 + 1 : Nat) : Int) = r.1.2 + r.2 + 1 by omega)
theorem pieces_eq {B : List Wr} (h : B.length ≤ 36) : f_pieces_of B = .ok ((runs B).map wrs) := by
  unfold f_pieces_of b_pieces_of
  walk_at "mo"
  refine forO_elim (G := fun m => fnO (thenO m _) = _) (fun d (s : List (List Wr)) => s = (runs d).map wrs) rfl (fun d x s hx hs => ?_) (fun s hs => ?_)
  · subst hs
    obtain ⟨r, hr⟩ := hx
    have hd : d.length ≤ 36 := by have := congrArg List.length hr; simp at this; omega
    have hR := runs_len d
    have hS := fun r => @run_len d r
    rw [runs_snoc]
    generalize runs d = R at hR hS ⊢
    rcases List.eq_nil_or_concat R with rfl | ⟨Q, r, rfl⟩
    · rw [Mo.lim_ok (by simp)]
      refine ⟨_, rfl, ?_⟩
      show _ = [wrs (x, 0)]
      rw [wrs_one]; rfl
    · rw [List.concat_eq_append] at hR ⊢
      rw [List.map_append, List.map_singleton, atI_last]
      obtain ⟨q, e⟩ := wrs_split r
      have hl : (Q.map wrs ++ [wrs r]).length ≤ 36 := by simp at hR ⊢; omega
      walk_at "mo"
      rw [show (!(Q.map wrs ++ [wrs r]).isEmpty) = true by simp, if_pos rfl, e, atI_last]
      walk_at "mo"
      rw [show (decide ((rend r).fst = x.fst - 1) && decide ((rend r).snd = x.snd - 1)) = decide ((rend r) = (x.1 - 1, x.2 - 1)) from eqp_iff (rend r) (x.1 - 1, x.2 - 1), ← e]
      rw [rstep_last]
      by_cases c : rend r = (x.1 - 1, x.2 - 1)
      · have c' : x = (r.1.1 + r.2 + 1, r.1.2 + r.2 + 1) := by
          unfold rend at c; obtain ⟨c1, c2⟩ := Prod.mk.inj c
          exact Prod.ext (by simp only; omega) (by simp only; omega)
        rw [decide_eq_true c, if_pos c']
        walk_at "mo"
        rw [ix_last]
        walk_at "mo"
        rw [get_last, Option.getD_some, app_last, Mo.lim_ok (by have := hS r (by simp); omega)]
        refine ⟨_, rfl, ?_⟩
        rw [List.map_append, List.map_singleton, wrs_inc, ← c']
      · have c' : ¬ x = (r.1.1 + r.2 + 1, r.1.2 + r.2 + 1) := fun z => c (by
          subst z; unfold rend; exact Prod.ext (by simp only; omega) (by simp only; omega))
        rw [decide_eq_false c, if_neg c']
        walk_at "mo"
        rw [Mo.lim_ok (by omega)]
        refine ⟨_, rfl, ?_⟩
        rw [List.map_append, List.map_append, List.map_singleton, List.map_singleton, wrs_one]
  · subst hs; rfl
theorem law_pieces_eq {B : List Wr} (h : B.length ≤ 36) : f_law_pieces B = .ok ((runs B).map fun r => [r.1, rend r]) := by
  unfold f_law_pieces b_law_pieces
  walk_at "mo"
  refine forO_elim (G := fun m => fnO (thenO m _) = _) (fun d (s : List (List Wr)) => s = (runs d).map fun r => [r.1, rend r]) rfl (fun d x s hx hs => ?_) (fun s hs => ?_)
  · subst hs
    obtain ⟨r, hr⟩ := hx
    have hd : d.length ≤ 36 := by have := congrArg List.length hr; simp at this; omega
    have hR := runs_len d
    rw [runs_snoc]
    generalize runs d = R at hR ⊢
    rcases List.eq_nil_or_concat R with rfl | ⟨Q, r, rfl⟩
    · rw [Mo.lim_ok (by simp)]
      refine ⟨_, rfl, ?_⟩
      show _ = [[x, rend (x, 0)]]
      unfold rend; rw [show ((0 : Nat) : Int) = 0 from rfl, Int.add_zero, Int.add_zero]; rfl
    · rw [List.concat_eq_append] at hR ⊢
      rw [List.map_append, List.map_singleton, atI_last]
      have hl : (Q.map (fun r => [r.1, rend r]) ++ [[r.1, rend r]]).length ≤ 36 := by simp at hR ⊢; omega
      have hne : (!eqL (eqL fun a b : Wr => decide (a.fst = b.fst) && decide (a.snd = b.snd)) (Q.map (fun r => [r.1, rend r]) ++ [[r.1, rend r]]) []) = true := by
        cases Q <;> rfl
      walk_at "mo"
      rw [hne, if_pos rfl, show atI [r.1, rend r] 1 = some (rend r) from rfl]
      walk_at "mo"
      rw [show (decide (x.fst = (rend r).fst + 1) && decide (x.snd = (rend r).snd + 1)) = decide (x = ((rend r).1 + 1, (rend r).2 + 1)) from eqp_iff x ((rend r).1 + 1, (rend r).2 + 1)]
      rw [rstep_last]
      by_cases c : x = ((rend r).1 + 1, (rend r).2 + 1)
      · rw [decide_eq_true c, if_pos (show x = (r.1.1 + r.2 + 1, r.1.2 + r.2 + 1) from c)]
        walk_at "mo"
        rw [ix_last]
        walk_at "mo"
        rw [get_last, Option.getD_some, show ixN [r.1, rend r].length 1 = some 1 from rfl]
        walk_at "mo"
        rw [set_last]
        refine ⟨_, rfl, ?_⟩
        rw [List.map_append, List.map_singleton, rend1, ← c]; rfl
      · rw [decide_eq_false c, if_neg (show ¬ x = (r.1.1 + r.2 + 1, r.1.2 + r.2 + 1) from c)]
        walk_at "mo"
        rw [Mo.lim_ok (by omega)]
        refine ⟨_, rfl, ?_⟩
        rw [List.map_append, List.map_append, List.map_singleton, List.map_singleton, rend0]
  · subst hs; rfl
def sd (a : Int) (m : Nat) : List Nat := if m = 0 then strI a else strI a ++ 45 :: strI (a + m)
def pt (r : Rn) : List Nat := sd r.1.1 r.2 ++ 62 :: sd r.1.2 r.2
theorem sd_len {a : Int} {m : Nat} (h1 : 1 ≤ a) (h2 : a + m ≤ 40) : (sd a m).length ≤ 5 ∧ (62 : Nat) ∉ sd a m ∧ (44 : Nat) ∉ sd a m := by
  obtain ⟨_, _, l1, _, n1, n2, _⟩ := rw_eq (n := a) h1 (by omega)
  obtain ⟨_, _, l2, _, n3, n4, _⟩ := rw_eq (n := a + m) (by omega) h2
  unfold sd
  split
  · exact ⟨by omega, n1, n2⟩
  · exact ⟨by simp; omega, by simp [n1, n3], by simp [n2, n4]⟩
theorem field_eq {a : Int} {m : Nat} (h1 : 1 ≤ a) (h2 : a + m ≤ 40) : f_shown_field (a, a + m) = .ok (sd a m) := by
  obtain ⟨_, g1, l1, _⟩ := rw_eq (n := a) h1 (by omega)
  obtain ⟨_, g2, l2, _⟩ := rw_eq (n := a + m) (by omega) h2
  unfold f_shown_field b_shown_field sd
  walk_at "mo"
  by_cases c : m = 0
  · subst c
    rw [decide_eq_true (show a = a + ((0 : Nat) : Int) by omega), if_pos rfl, Mo.grd_ok g1]; rfl
  · rw [decide_eq_false (by omega), if_neg c]
    walk_at "mo"
    rw [Mo.grd_ok g1, Mo.grd_ok g2]
    walk_at "mo"
    rw [Mo.grd_ok (by omega), Mo.grd_ok (by decide), Mo.grd_ok (by omega)]
    walk_at "mo"
    rw [List.append_nil]; rfl
theorem side_eq {a : Int} {m : Nat} (h1 : 1 ≤ a) (h2 : a + m ≤ 40) : f_law_side a (a + m) = .ok (sd a m) := by
  obtain ⟨_, g1, l1, _⟩ := rw_eq (n := a) h1 (by omega)
  obtain ⟨_, g2, l2, _⟩ := rw_eq (n := a + m) (by omega) h2
  unfold f_law_side b_law_side sd
  walk_at "mo"
  by_cases c : m = 0
  · subst c
    rw [decide_eq_true (show a = a + ((0 : Nat) : Int) by omega), if_pos rfl, Mo.grd_ok g1]; rfl
  · rw [decide_eq_false (by omega), if_neg c]
    walk_at "mo"
    rw [Mo.grd_ok g1]
    walk_at "mo"
    rw [Mo.lim_ok (by simp; omega), Mo.grd_ok g2]
    walk_at "mo"
    rw [Mo.lim_ok (by simp; omega), List.append_assoc]; rfl
def okR (r : Rn) : Prop := okW r.1 ∧ okW (rend r)
theorem okR.b {r : Rn} (h : okR r) : 1 ≤ r.1.1 ∧ r.1.1 + r.2 ≤ 40 ∧ 1 ≤ r.1.2 ∧ r.1.2 + r.2 ≤ 36 := ⟨h.1.1, h.2.2.1, h.1.2.2.1, h.2.2.2.2⟩
theorem pt_len {r : Rn} (h : okR r) : (pt r).length ≤ 11 ∧ (44 : Nat) ∉ pt r ∧ pt r ≠ [] := by
  obtain ⟨a1, a2, a3, a4⟩ := h.b
  obtain ⟨l1, _, n1⟩ := sd_len a1 a2
  obtain ⟨l2, _, n2⟩ := sd_len (m := r.2) a3 (by omega)
  unfold pt
  exact ⟨by simp; omega, by simp [n1, n2], by simp⟩
theorem shown_piece_eq {r : Rn} (h : okR r) : f_shown_piece (wrs r) = .ok (pt r) := by
  obtain ⟨a1, a2, a3, a4⟩ := h.b
  obtain ⟨l1, _⟩ := sd_len a1 a2
  obtain ⟨l2, _⟩ := sd_len (m := r.2) a3 (by omega)
  have e0 : atI (wrs r) 0 = some r.1 := by obtain ⟨q, e⟩ := wrs_head r; rw [e, atI_nn (by decide)]; rfl
  have e1 : atI (wrs r) (-1) = some (rend r) := by obtain ⟨q, e⟩ := wrs_split r; rw [e, atI_last]
  unfold f_shown_piece b_shown_piece pt
  walk_at "mo"
  rw [e0, e1]
  walk_at "mo"
  rw [show (rend r).1 = r.1.1 + r.2 from rfl, show (rend r).2 = r.1.2 + r.2 from rfl, field_eq a1 a2, field_eq a3 (by omega)]
  walk_at "mo"
  rw [Mo.lim_ok (by omega), Mo.lim_ok (by omega)]
  walk_at "mo"
  rw [Mo.grd_ok (by omega), Mo.grd_ok (by decide), Mo.grd_ok (by omega)]
  walk_at "mo"
  rw [List.append_nil]; rfl
theorem law_piece_eq {r : Rn} (h : okR r) : f_law_piece [r.1, rend r] = .ok (pt r) := by
  obtain ⟨a1, a2, a3, a4⟩ := h.b
  obtain ⟨l1, _⟩ := sd_len a1 a2
  obtain ⟨l2, _⟩ := sd_len (m := r.2) a3 (by omega)
  unfold f_law_piece b_law_piece pt
  walk_at "mo"
  rw [show atI [r.1, rend r] 0 = some r.1 from rfl, show atI [r.1, rend r] 1 = some (rend r) from rfl]
  walk_at "mo"
  rw [show (rend r).1 = r.1.1 + r.2 from rfl, show (rend r).2 = r.1.2 + r.2 from rfl, side_eq a1 a2, side_eq a3 (by omega)]
  walk_at "mo"
  rw [Mo.lim_ok (by simp; omega)]
  walk_at "mo"
  rw [Mo.lim_ok (by simp; omega), List.append_assoc]; rfl
theorem splitG1 (c : Nat) (l : List Nat) : splitG [c] l = splitC c l := by
  have := split_codes ⟨l.toArray⟩ c
  exact this
theorem span_eq {a : Int} {m : Nat} {k : Int} (h1 : 1 ≤ a) (h2 : a + m ≤ k) (hk : k ≤ 40) : f_read_span (sd a m) k = .ok (some a, some (a + m)) := by
  obtain ⟨e1, g1, l1, n1, _⟩ := rw_eq (n := a) h1 (by omega)
  obtain ⟨e2, g2, l2, n2, _⟩ := rw_eq (n := a + m) (by omega) (by omega)
  obtain ⟨l3, _⟩ := sd_len (m := m) h1 (by omega)
  unfold f_read_span b_read_span
  walk_at "mo"
  rw [Mo.grd_ok ⟨by omega, by decide⟩, splitG1]
  walk_at "mo"
  by_cases c : m = 0
  · subst c
    rw [show sd a 0 = strI a from rfl, splitC_free 45 _ n1]
    rw [compM_map (f := fun x_4 => cond1 (Mo.ok true) (f_read_whole x_4).noex) (g := fun _ => some a) (fun x hx => by rw [List.mem_singleton.mp hx, e1]; rfl) (by simp)]
    rw [show ([] ++ [strI a].map fun _ => some a) = [some a] from rfl]
    walk_at "mo"
    rw [show atI [some a] 0 = some (some a) from rfl, show atI [some a] (-1) = some (some a) from rfl]
    walk_at "mo"
    rw [show ([some a].any fun y => decide (y = none)) = false from rfl, show (([some a].length : Nat) : Int) = 1 from rfl, decide_eq_false (show ¬ a < 1 by omega), decide_eq_false (show ¬ k < a by omega)]
    walk_at "mo"
    rw [show ((0 : Nat) : Int) = 0 from rfl, Int.add_zero]; rfl
  · rw [show sd a m = strI a ++ 45 :: strI (a + m) from if_neg c, splitC_app 45 _ _ n1, splitC_free 45 _ n2]
    have ec : compM (fun x_4 => cond1 (Mo.ok true) (f_read_whole x_4).noex) [strI a, strI (a + m)] [] = .ok [some a, some (a + m)] := by
      rw [compM_map (f := fun x_4 => cond1 (Mo.ok true) (f_read_whole x_4).noex) (g := fun t => match f_read_whole t with | .ok v => v | _ => none) (fun x hx => by
        rcases List.mem_cons.mp hx with rfl | hx
        · rw [e1]; rfl
        · rw [List.mem_singleton.mp hx, e2]; rfl) (by simp)]
      rw [List.map_cons, List.map_cons, List.map_nil, e1, e2]; rfl
    rw [ec]
    walk_at "mo"
    rw [show atI [some a, some (a + m)] 0 = some (some a) from rfl, show atI [some a, some (a + m)] 1 = some (some (a + m)) from rfl, show atI [some a, some (a + m)] (-1) = some (some (a + m)) from rfl]
    walk_at "mo"
    rw [show ([some a, some (a + m)].any fun y => decide (y = none)) = false from rfl, show (([some a, some (a + m)].length : Nat) : Int) = 2 from rfl, decide_eq_false (show ¬ a + m ≤ a by omega), decide_eq_false (show ¬ a < 1 by omega), decide_eq_false (show ¬ k < a + m by omega)]
    rfl
theorem rng_wrs (w : Wr) (n : Nat) : (rngI 0 (n + 1)).map (fun x => (w.1 + x, w.2 + x)) = wrs (w, n) := by
  unfold rngI wrs
  rw [List.map_map]
  refine List.map_congr_left fun i _ => ?_
  show (w.1 + (0 + (i : Int)), w.2 + (0 + (i : Int))) = _
  rw [Int.zero_add]
theorem read_piece_eq {r : Rn} (h : okR r) : f_read_piece (pt r) = .ok (wrs r) := by
  obtain ⟨a1, a2, a3, a4⟩ := h.b
  obtain ⟨l1, n1, _⟩ := sd_len a1 a2
  obtain ⟨l2, n2, _⟩ := sd_len (m := r.2) a3 (by omega)
  obtain ⟨l3, _⟩ := pt_len h
  unfold f_read_piece b_read_piece
  walk_at "mo"
  rw [Mo.grd_ok ⟨by omega, by decide⟩, splitG1, show pt r = sd r.1.1 r.2 ++ 62 :: sd r.1.2 r.2 from rfl, splitC_app 62 _ _ n1, splitC_free 62 _ n2]
  walk_at "mo"
  rw [show atI [sd r.1.1 r.2, sd r.1.2 r.2] 0 = some (sd r.1.1 r.2) from rfl, show atI [sd r.1.1 r.2, sd r.1.2 r.2] 1 = some (sd r.1.2 r.2) from rfl, show (([sd r.1.1 r.2, sd r.1.2 r.2].length : Nat) : Int) = 2 from rfl]
  walk_at "mo"
  rw [span_eq a1 a2 (by decide), span_eq a3 a4 (by decide)]
  walk_at "mo"
  rw [decide_eq_true (show r.1.1 + r.2 - r.1.1 = r.1.2 + r.2 - r.1.2 by omega), Mo.grd_ok ⟨by omega, by omega⟩]
  walk_at "mo"
  rw [show (r.1.1 + r.2 - r.1.1 + 1).toNat = r.2 + 1 by omega, compM_map (f := fun x_46 => cond1 (Mo.ok true) (Mo.ok (r.1.1 + x_46, r.1.2 + x_46))) (g := fun x => (r.1.1 + x, r.1.2 + x)) (fun x _ => rfl) (by rw [rngI_len]; simp; omega)]
  rw [rng_wrs r.1]; rfl
theorem joinL_len (P : List (List Nat)) (k : Nat) (h : ∀ p ∈ P, p.length ≤ k) : (joinL [44, 32] P).length ≤ P.length * (k + 2) := by
  induction P with
  | nil => exact Nat.zero_le _
  | cons p P ih =>
    have h1 := h p (List.mem_cons_self ..)
    have h2 := ih fun q hq => h q (List.mem_cons_of_mem _ hq)
    cases P with
    | nil => show p.length ≤ _; simp; omega
    | cons q P =>
      show (p ++ [44, 32] ++ joinL [44, 32] (q :: P)).length ≤ _
      rw [List.length_append, List.length_append, List.length_cons (a := p), Nat.add_mul]
      have : ([44, 32] : List Nat).length = 2 := rfl
      omega
theorem join_ok (P : List (List Nat)) (h : ∀ p ∈ P, p.length ≤ 11) (hl : P.length ≤ 36) : JoinOk ⟨[44, 32].toArray⟩ (strsL P) = true := by
  unfold JoinOk
  have key : ∀ (l : List Str) (acc : Nat), (∀ z ∈ l, z.length ≤ 11) → l.foldl (fun x1 x2 => x1 + x2.length + 2) acc ≤ acc + l.length * 13 := by
    intro l
    induction l with
    | nil => intro acc _; simp
    | cons z r ih =>
      intro acc hz
      have h2 := ih (acc + z.length + 2) fun y hy => hz y (List.mem_cons_of_mem _ hy)
      have h3 := hz z List.mem_cons_self
      rw [List.foldl_cons, List.length_cons]
      omega
  have hz : ∀ z ∈ strsL P, z.length ≤ 11 := fun z hz => by
    unfold strsL at hz
    obtain ⟨p, hp, rfl⟩ := List.mem_map.mp hz
    exact h p hp
  have q := key (strsL P) 0 hz
  have ql : (strsL P).length = P.length := by unfold strsL; simp
  rw [List.foldl_toArray]
  unfold Builtin.Str.tooLong
  simp only [Bool.not_eq_true', decide_eq_false_iff_not]
  have hs : (100000 : Nat) ≤ sizeLine := by rw [sizeLine_eq]; omega
  have : (strsL P).foldl (fun x1 x2 => x1 + x2.length + Str.length ⟨[44, 32].toArray⟩) 0 ≤ 100000 := Nat.le_trans q (by omega)
  omega
def shownT (B : List Wr) : List Nat := joinL [44, 32] ((runs B).map pt)
theorem runs_ok {B : List Wr} (h : WF B) {r : Rn} (hr : r ∈ runs B) : okR r := run_ok h.2 hr
theorem pts_ok {B : List Wr} (h : WF B) : ∀ p ∈ (runs B).map pt, p.length ≤ 11 ∧ (44 : Nat) ∉ p ∧ p ≠ [] := fun p hp => by
  obtain ⟨r, hr, rfl⟩ := List.mem_map.mp hp
  exact pt_len (runs_ok h hr)
theorem pts_len {B : List Wr} (h : WF B) : ((runs B).map pt).length ≤ 36 := by rw [List.length_map]; exact Nat.le_trans (runs_len B) h.len
theorem shown_eq {B : List Wr} (h : WF B) : f_shown_board B = .ok (shownT B) := by
  have hl := pts_len h
  unfold f_shown_board b_shown_board
  walk_at "mo"
  rw [pieces_eq h.len]
  walk_at "mo"
  have e : compM (fun x_2 => cond1 (Mo.ok true) (f_shown_piece x_2).noex) ((runs B).map wrs) [] = .ok ((runs B).map pt) := by
    rw [compM_map (f := fun x_2 => cond1 (Mo.ok true) (f_shown_piece x_2).noex) (g := fun x => match f_shown_piece x with | .ok v => v | _ => []) (fun x hx => by
      obtain ⟨r, hr, rfl⟩ := List.mem_map.mp hx
      rw [shown_piece_eq (runs_ok h hr)]; rfl) (by simp at hl ⊢; omega)]
    rw [List.map_map, List.nil_append]
    refine congrArg Mo.ok (List.map_congr_left fun r hr => ?_)
    show (match f_shown_piece (wrs r) with | .ok v => v | _ => []) = _
    rw [shown_piece_eq (runs_ok h hr)]
  rw [e]
  walk_at "mo"
  rw [Mo.grd_ok (join_ok _ (fun p hp => (pts_ok h p hp).1) hl), joinS_joinL]
  rfl
theorem dueR {R : List Rn} (hR : ∀ r ∈ R, okR r) (hl : R.length ≤ 36) : compM (fun x_66 => cond1 (Mo.ok true) (f_law_piece x_66).noex) (R.map fun r => [r.1, rend r]) [] = .ok (R.map pt) := by
  rw [compM_map (f := fun x_2 => cond1 (Mo.ok true) (f_law_piece x_2).noex) (g := fun x => match f_law_piece x with | .ok v => v | _ => []) (fun x hx => by
    obtain ⟨r, hr, rfl⟩ := List.mem_map.mp hx
    rw [law_piece_eq (hR r hr)]; rfl) (by simp; omega)]
  rw [List.map_map, List.nil_append]
  refine congrArg Mo.ok (List.map_congr_left fun r hr => ?_)
  show (match f_law_piece [r.1, rend r] with | .ok v => v | _ => []) = _
  rw [law_piece_eq (hR r hr)]
theorem due_eq {B : List Wr} (h : WF B) : compM (fun x_66 => cond1 (Mo.ok true) (f_law_piece x_66).noex) ((runs B).map fun r => [r.1, rend r]) [] = .ok ((runs B).map pt) := dueR (fun r hr => runs_ok h hr) (Nat.le_trans (runs_len B) h.len)
theorem brd_nil : brd [] = [] := (brd_perm []).eq_nil
theorem read_nil : f_read_board [] = .ok [] := rfl
theorem flat_len (R : List Rn) : R.length ≤ (R.map wrs).flatten.length := by
  induction R with
  | nil => exact Nat.le_refl 0
  | cons r R ih => rw [List.map_cons, List.flatten_cons, List.length_append, wrs_len, List.length_cons]; omega
theorem readR {B : List Wr} (h : WF B) {R : List Rn} (hR : ∀ r ∈ R, okR r) (hp : ((R.map wrs).flatten).Perm B) : f_read_board (joinL [44, 32] (R.map pt)) = .ok (brd B) := by
  have hlen := h.len
  have hfl := hp.length_eq
  have hl : (R.map pt).length ≤ 36 := by have := flat_len R; rw [List.length_map]; omega
  have po : ∀ p ∈ R.map pt, p.length ≤ 11 ∧ (44 : Nat) ∉ p ∧ p ≠ [] := fun p hp => by
    obtain ⟨r, hr, rfl⟩ := List.mem_map.mp hp
    exact pt_len (hR r hr)
  unfold f_read_board b_read_board
  walk_at "mo"
  by_cases c : R = []
  · subst c
    obtain rfl : B = [] := hp.symm.eq_nil
    rw [show joinL [44, 32] (([] : List Rn).map pt) = [] from rfl, brd_nil]; rfl
  · have c' : R.map pt ≠ [] := fun z => c (List.map_eq_nil_iff.mp z)
    have ht : joinL [44, 32] (R.map pt) ≠ [] := fun z => by
      have := splitG_join c' fun p hp => (po p hp).2.1
      rw [z] at this
      have e : splitG [44, 32] [] = [[]] := by decide +kernel
      rw [e] at this
      exact (po [] (by rw [← this]; simp)).2.2 rfl
    have hb := joinL_len _ 11 fun p hp => (po p hp).1
    rw [decide_eq_false ht, Mo.grd_ok ⟨by omega, by decide⟩]
    walk_at "mo"
    rw [splitG_join c' fun p hp => (po p hp).2.1]
    have tk : ∀ i, ((R.take i).map wrs).flatten.length ≤ 36 := fun i => by
      rw [← List.take_append_drop i R, List.map_append, List.flatten_append, List.length_append] at hfl
      omega
    refine forO_elim (G := fun m => fnO (thenO m _) = _) (fun d (s : List Wr) => s = ((R.take d.length).map wrs).flatten) rfl (fun d x s hx hs => ?_) (fun s hs => ?_)
    · obtain ⟨t, ht⟩ := hx
      subst hs
      have h1 : (R.map pt)[d.length]? = some x := by rw [ht]; simp
      rw [List.getElem?_map] at h1
      obtain ⟨r0, h2, h3⟩ := Option.map_eq_some_iff.mp h1
      have hm : r0 ∈ R := List.mem_of_getElem? h2
      have e : R.take (d.length + 1) = R.take d.length ++ [r0] := by rw [List.take_add_one, h2]; rfl
      have hk := tk (d.length + 1)
      subst h3
      rw [List.length_append, List.length_singleton, e, List.map_append, List.map_singleton, List.flatten_append] 
      rw [e, List.map_append, List.map_singleton, List.flatten_append] at hk
      rw [read_piece_eq (hR r0 hm)]
      walk_at "mo"
      have e1 : [wrs r0].flatten = wrs r0 := by simp
      rw [e1, List.length_append] at hk
      rw [Mo.lim_ok (by omega), e1]
      exact ⟨_, rfl, rfl⟩
    · rw [List.length_map, List.take_length] at hs
      subst hs
      walk_at "mo"
      rw [make_eq (h.perm hp), brd_congr hp]; rfl
theorem read_eq {B : List Wr} (h : WF B) : f_read_board (shownT B) = .ok (brd B) := readR h (fun r hr => runs_ok h hr) (by rw [runs_flat])
theorem run_wf {r : Rn} (h : okR r) : WF (wrs r) := by
  obtain ⟨a1, a2, a3, a4⟩ := h.b
  refine ⟨?_, fun w hw => ?_⟩
  · unfold wrs
    rw [List.map_map]
    refine List.pairwise_map.mpr (List.Pairwise.imp (fun {a b} q => ?_) List.pairwise_lt_range)
    show ¬ (r.1.2 + (a : Int) = r.1.2 + (b : Int))
    omega
  · unfold wrs at hw
    obtain ⟨i, hi, rfl⟩ := List.mem_map.mp hw
    have := List.mem_range.mp hi
    exact ⟨show 1 ≤ r.1.1 + (i : Int) by omega, show r.1.1 + (i : Int) ≤ 40 by omega, show 1 ≤ r.1.2 + (i : Int) by omega, show r.1.2 + (i : Int) ≤ 36 by omega⟩
theorem run_brd (r : Rn) : brd (wrs r) = wrs r := by
  have e : srtL (lxP ltI ltI) ((wrs r).map swp) = (wrs r).map swp := by
    refine (srtL_uniq (lo_pair lo_int lo_int) (List.Perm.refl _) ?_).symm
    unfold wrs
    rw [List.map_map]
    refine List.pairwise_map.mpr (List.Pairwise.imp (fun {a b} q => ?_) List.pairwise_lt_range)
    show (if r.1.2 + (b : Int) = r.1.2 + (a : Int) then _ else ltI (r.1.2 + (b : Int)) (r.1.2 + (a : Int))) = false
    rw [if_neg (by omega)]
    unfold ltI
    simp; omega
  unfold brd
  rw [e, List.map_map, show swp ∘ swp = id from rfl, List.map_id]
theorem brd_brd (W : List Wr) : brd (brd W) = brd W := brd_congr (brd_perm W)
theorem tail_eq {B : List Wr} (h : WF B) (hb : brd B = B) : f_shown_board B = .ok (shownT B) ∧ f_read_board (shownT B) = .ok B ∧ f_law_pieces B = .ok ((runs B).map fun r => [r.1, rend r]) := ⟨shown_eq h, by rw [read_eq h, hb], law_pieces_eq h.len⟩
theorem wrs_cut (w : Wr) (n k : Nat) : wrs (w, n) ++ wrs ((w.1 + (n + 1 : Nat), w.2 + (n + 1 : Nat)), k) = wrs (w, n + 1 + k) := by
  induction k with
  | zero =>
    rw [wrs_one, Nat.add_zero, wrs_inc, show (w.1 + ((n + 1 : Nat) : Int), w.2 + ((n + 1 : Nat) : Int)) = (w.1 + n + 1, w.2 + n + 1) from Prod.ext (show w.1 + ((n + 1 : Nat) : Int) = w.1 + n + 1 by omega) (show w.2 + ((n + 1 : Nat) : Int) = w.2 + n + 1 by omega)]
  | succ k ih =>
    rw [wrs_inc, ← List.append_assoc, ih, show n + 1 + (k + 1) = (n + 1 + k) + 1 from rfl, wrs_inc]
    congr 3
    · show w.1 + ((n + 1 : Nat) : Int) + k + 1 = w.1 + ((n + 1 + k : Nat) : Int) + 1; omega
    · show w.2 + ((n + 1 : Nat) : Int) + k + 1 = w.2 + ((n + 1 + k : Nat) : Int) + 1; omega
theorem twos_ends (R : List Rn) : twos (R.map fun r => [r.1, rend r]) = some (R.map fun r => (r.1, rend r)) := by
  induction R with
  | nil => rfl
  | cons r R ih => rw [List.map_cons, List.map_cons]; unfold twos; rw [ih]; rfl
theorem okR_part {w : Wr} {n i k : Nat} (h : okR (w, n)) (hi : i + k ≤ n) : okR ((w.1 + i, w.2 + i), k) := by
  obtain ⟨a1, a2, a3, a4⟩ := h.b
  simp only at a1 a2 a3 a4
  exact ⟨⟨show 1 ≤ w.1 + (i : Int) by omega, show w.1 + (i : Int) ≤ 40 by omega, show 1 ≤ w.2 + (i : Int) by omega, show w.2 + (i : Int) ≤ 36 by omega⟩,
    show 1 ≤ w.1 + (i : Int) + (k : Int) by omega, show w.1 + (i : Int) + (k : Int) ≤ 40 by omega, show 1 ≤ w.2 + (i : Int) + (k : Int) by omega, show w.2 + (i : Int) + (k : Int) ≤ 36 by omega⟩
theorem cut_eq {R : List Rn} (hR : ∀ r ∈ R, okR r) (hl : (R.map wrs).flatten.length ≤ 36) (b : Int) : ∃ R' : List Rn, f_law_cut (R.map fun r => [r.1, rend r]) b = .ok (R'.map fun r => [r.1, rend r]) ∧ (R'.map wrs).flatten = (R.map wrs).flatten ∧ ∀ r ∈ R', okR r := by
  unfold f_law_cut b_law_cut
  walk_at "mo"
  rw [twos_ends]
  walk_at "mo"
  have tk : ∀ i, ((R.take i).map wrs).flatten.length ≤ 36 := fun i => by
    rw [← List.take_append_drop i R, List.map_append, List.flatten_append, List.length_append] at hl
    omega
  refine forO_elim (G := fun m => ∃ R' : List Rn, fnO (thenO m fun s_2 => Mo.ok (Out.rt s_2.fst)) = .ok (R'.map fun r => [r.1, rend r]) ∧ (R'.map wrs).flatten = (R.map wrs).flatten ∧ ∀ r ∈ R', okR r) (fun d (s : List (List Wr) × Int) => ∃ R' : List Rn, s.1 = R'.map (fun r => [r.1, rend r]) ∧ (R'.map wrs).flatten = ((R.take d.length).map wrs).flatten ∧ ∀ r ∈ R', okR r) ?h0 (fun d x s hx hs => ?_) (fun s hs => ?_)
  case h0 => exact ⟨[], rfl, rfl, fun r hr => by cases hr⟩
  · obtain ⟨t, ht⟩ := hx
    obtain ⟨R', h1, h2, h3⟩ := hs
    obtain ⟨s1, s2⟩ := s
    simp only at h1
    subst h1
    have g1 : (R.map fun r => (r.1, rend r))[d.length]? = some x := by rw [ht]; simp
    rw [List.getElem?_map] at g1
    obtain ⟨r0, g2, g3⟩ := Option.map_eq_some_iff.mp g1
    have hm := hR r0 (List.mem_of_getElem? g2)
    have e : R.take (d.length + 1) = R.take d.length ++ [r0] := by rw [List.take_add_one, g2]; rfl
    have hk := tk (d.length + 1)
    rw [e, List.map_append, List.flatten_append, ← h2, List.length_append] at hk
    have hk2 := flat_len R'
    have hk3 : 1 ≤ ([r0].map wrs).flatten.length := by simp [wrs_len]
    obtain ⟨w, m⟩ := r0
    subst g3
    have em : (rend (w, m)).1 - w.1 + 1 = m + 1 := by show w.1 + (m : Int) - w.1 + 1 = _; omega
    rw [em]
    have key : ∃ a : Nat, a ≤ m ∧ ∀ f : Int → Mo (Out (List (List Wr)) (List (List Wr) × Int) (List (List Wr) × Int)), (thenO (if decide (s2 % 3 = 1) = true then Mo.ok (Out.nx (((m : Int) + 1) / 2)) else Mo.ok (Out.nx 0)) fun s_18 =>
        thenO (if decide (s2 % 3 = 2) = true then Mo.ok (Out.nx (min 1 ((m : Int) + 1 - 1))) else Mo.ok (Out.nx s_18)) f) = f a := by
      by_cases c1 : s2 % 3 = 1
      · refine ⟨(m + 1) / 2, by omega, fun f => ?_⟩
        rw [decide_eq_true c1, decide_eq_false (by omega), if_pos rfl, thenO_nx, if_neg (by decide), thenO_nx]
        congr 1
      · by_cases c2 : s2 % 3 = 2
        · refine ⟨min 1 m, by omega, fun f => ?_⟩
          rw [decide_eq_false c1, decide_eq_true c2, if_neg (by decide), thenO_nx, if_pos rfl, thenO_nx]
          congr 1; omega
        · refine ⟨0, by omega, fun f => ?_⟩
          rw [decide_eq_false c1, decide_eq_false c2, if_neg (by decide), thenO_nx, if_neg (by decide), thenO_nx]
          rfl
    obtain ⟨a, ha, ka⟩ := key
    rw [ka]
    have hfl : ∀ Z : List Rn, (Z.map wrs).flatten = wrs (w, m) → ((R' ++ Z).map wrs).flatten = ((R.take (d ++ [(w, rend (w, m))]).length).map wrs).flatten := fun Z hZ => by
      rw [List.length_append, List.length_singleton, e, List.map_append, List.map_append, List.flatten_append, List.flatten_append, h2, hZ]
      simp
    have hlR : (R'.map fun r : Rn => [r.1, rend r]).length ≤ 35 := by rw [List.length_map]; omega
    cases a with
    | zero =>
      rw [decide_eq_false (by decide), if_neg (by decide), thenO_nx, Mo.lim_ok (by show (R'.map fun r : Rn => [r.1, rend r]).length + 1 ≤ _; omega)]
      refine ⟨_, rfl, R' ++ [(w, m)], ?_, hfl _ (by simp), ?_⟩
      · rw [List.map_append, List.map_singleton]
        show _ ++ [[(w.1 + ((0 : Nat) : Int), w.2 + ((0 : Nat) : Int)), rend (w, m)]] = _
        rw [show ((0 : Nat) : Int) = 0 from rfl, Int.add_zero, Int.add_zero]
      · intro r hr
        rcases List.mem_append.mp hr with hr | hr
        · exact h3 r hr
        · rw [List.mem_singleton.mp hr]; exact hm
    | succ n =>
      rw [decide_eq_true (show (0 : Int) < ((n + 1 : Nat) : Int) by omega), if_pos rfl, Mo.lim_ok (by show (R'.map fun r : Rn => [r.1, rend r]).length + 1 ≤ _; omega), thenO_nx, Mo.lim_ok (by rw [List.length_append, List.length_singleton]; show (R'.map fun r : Rn => [r.1, rend r]).length + 1 + 1 ≤ _; omega)]
      refine ⟨_, rfl, R' ++ [(w, n), ((w.1 + (n + 1 : Nat), w.2 + (n + 1 : Nat)), m - (n + 1))], ?_, hfl _ ?_, ?_⟩
      · rw [List.map_append, List.map_cons, List.map_singleton]
        show (R'.map _ ++ [[w, (w.1 + ((n + 1 : Nat) : Int) - 1, w.2 + ((n + 1 : Nat) : Int) - 1)]]) ++ [[(w.1 + ((n + 1 : Nat) : Int), w.2 + ((n + 1 : Nat) : Int)), (w.1 + (m : Int), w.2 + (m : Int))]] = R'.map _ ++ [[w, (w.1 + (n : Int), w.2 + (n : Int))], [(w.1 + ((n + 1 : Nat) : Int), w.2 + ((n + 1 : Nat) : Int)), (w.1 + ((n + 1 : Nat) : Int) + ((m - (n + 1) : Nat) : Int), w.2 + ((n + 1 : Nat) : Int) + ((m - (n + 1) : Nat) : Int))]]
        rw [List.append_assoc, show w.1 + ((n + 1 : Nat) : Int) - 1 = w.1 + n by omega, show w.2 + ((n + 1 : Nat) : Int) - 1 = w.2 + n by omega, show w.1 + ((n + 1 : Nat) : Int) + ((m - (n + 1) : Nat) : Int) = w.1 + m by omega, show w.2 + ((n + 1 : Nat) : Int) + ((m - (n + 1) : Nat) : Int) = w.2 + m by omega]
        rfl
      · rw [List.map_cons, List.map_singleton, List.flatten_cons, List.flatten_cons, List.flatten_nil, List.append_nil, wrs_cut, show n + 1 + (m - (n + 1)) = m by omega]
      · intro r hr
        rcases List.mem_append.mp hr with hr | hr
        · exact h3 r hr
        · rcases List.mem_cons.mp hr with rfl | hr
          · have := okR_part (i := 0) (k := n) hm (by omega)
            rwa [show ((0 : Nat) : Int) = 0 from rfl, Int.add_zero, Int.add_zero] at this
          · rw [List.mem_singleton.mp hr]; exact okR_part hm (by omega)
  · obtain ⟨R', h1, h2, h3⟩ := hs
    rw [List.length_map, List.take_length] at h2
    exact ⟨R', by rw [← h1]; rfl, h2, h3⟩
theorem law_true (ns : List Int) (hl : ns.length ≤ 63) : f_law ns = .ok true := by
  unfold f_law b_law
  walk_at "mo"
  obtain ⟨W, eW, hW⟩ := wires_eq (cutG ns (some 1) (some 85))
  obtain ⟨c0, e0⟩ := cell_eq ns 0 (by omega)
  rw [eW, e0]
  walk_at "mo"
  rw [sorted_eq hW]
  walk_at "mo"
  have hB : WF (brd W) := brd_wf hW
  have hbb := brd_brd W
  generalize brd W = B at hB hbb ⊢
  rw [law_pieces_eq hB.len]
  walk_at "mo"
  rw [Mo.grd_ok (by decide)]
  walk_at "mo"
  rw [Mo.grd_ok (by decide)]
  walk_at "mo"
  have hlen := hB.len
  obtain ⟨R', k1, k2, k3⟩ := cut_eq (R := runs B) (fun r hr => runs_ok hB hr) (by rw [runs_flat]; exact hlen) (c0 / 2 % 3 ^ Int.toNat 40)
  rw [k1]
  walk_at "mo"
  have hf := flat_len R'
  rw [k2, runs_flat] at hf
  generalize hE : (R'.map fun r => [r.1, rend r]) = En
  rw [Mo.grd_ok (by omega)]
  walk_at "mo"
  have hat : 0 ≤ c0 % (↑En.length + 1) := Int.emod_nonneg _ (by omega)
  have hEl : En.length = R'.length := by rw [← hE, List.length_map]
  rw [cutG_from hat, cutG_to hat, Mo.lim_ok (by simp; omega)]
  walk_at "mo"
  have key : ∃ T : List Rn, T.Perm R' ∧ (if decide (c0 % 2 = 1) = true then (Mo.ok (Out.nx (En.drop (c0 % (↑En.length + 1)).toNat ++ En.take (c0 % (↑En.length + 1)).toNat).reverse) : Mo (Out Bool Unit (List (List Wr)))) else Mo.ok (Out.nx (En.drop (c0 % (↑En.length + 1)).toNat ++ En.take (c0 % (↑En.length + 1)).toNat))) = Mo.ok (.nx (T.map fun r => [r.1, rend r])) := by
    generalize (c0 % (↑En.length + 1)).toNat = n
    have p0 : (R'.drop n ++ R'.take n).Perm R' := List.perm_append_comm.trans (List.Perm.of_eq (List.take_append_drop _ _))
    rw [← hE]
    by_cases c : c0 % 2 = 1
    · exact ⟨(R'.drop n ++ R'.take n).reverse, (List.reverse_perm _).trans p0, by rw [decide_eq_true c, if_pos rfl, ← List.map_drop, ← List.map_take, ← List.map_append, ← List.map_reverse]⟩
    · exact ⟨R'.drop n ++ R'.take n, p0, by rw [decide_eq_false c, if_neg (by decide), ← List.map_drop, ← List.map_take, ← List.map_append]⟩
  obtain ⟨T, pT, eT⟩ := key
  rw [eT]
  have hT : ∀ r ∈ T, okR r := fun r hr => k3 r (pT.mem_iff.mp hr)
  have hTl : T.length ≤ 36 := by rw [pT.length_eq]; omega
  have hTp : ((T.map wrs).flatten).Perm B := by
    have := (pT.map wrs).flatten
    rwa [k2, runs_flat] at this
  have hj : JoinOk ⟨#[44, 32]⟩ (strsL (T.map pt)) = true := join_ok _ (fun p hp => by obtain ⟨r, hr, rfl⟩ := List.mem_map.mp hp; exact (pt_len (hT r hr)).1) (by rw [List.length_map]; exact hTl)
  walk_at "mo"
  rw [dueR hT hTl]
  walk_at "mo"
  rw [Mo.grd_ok hj, joinS_joinL]
  walk_at "mo"
  rw [readR hB hT hTp, hbb]
  walk_at "mo"
  rw [is_board_eq]
  walk_at "mo"
  rw [Mo.lim_ok (by omega), shown_eq hB]
  walk_at "mo"
  rw [due_eq hB]
  walk_at "mo"
  rw [Mo.grd_ok (join_ok _ (fun p hp => (pts_ok hB p hp).1) (pts_len hB)), joinS_joinL]
  walk_at "mo"
  rw [show joinL [44, 32] ((runs B).map pt) = shownT B from rfl, decide_eq_true rfl]
end K29
namespace K29
open PySem PySem.Spec PyProof.Rows L2
theorem rd_law {K : PySem.W.Frag} : RD_law K := rd_law_of (fun ns hl hb => law_true ns hl)
theorem all_mk {l : PySem.W.OpenLaw} {w : World} {K : PySem.W.Frag} {h : Heap} {mg : Str → Option Value} {fa : Addr} (X : K.In h) (G : h.Ns mainGlobals mg) (hfa : mg "law" = some (.ref fa))
    {f0 : Addr} {od0 an0 : Option Addr} {sl0 : Array (Option Value)} {oc0 kV0 dc0 pm0 cd0 ct0 : Value}
    {f1 : Addr} {od1 an1 : Option Addr} {sl1 : Array (Option Value)} {oc1 kV1 dc1 pm1 cd1 ct1 : Value}
    {f2 : Addr} {od2 an2 : Option Addr} {sl2 : Array (Option Value)} {oc2 kV2 dc2 pm2 cd2 ct2 : Value}
    {f3 : Addr} {od3 an3 : Option Addr} {sl3 : Array (Option Value)} {oc3 kV3 dc3 pm3 cd3 ct3 : Value}
    {f4 : Addr} {od4 an4 : Option Addr} {sl4 : Array (Option Value)} {oc4 kV4 dc4 pm4 cd4 ct4 : Value}
    {f5 : Addr} {od5 an5 : Option Addr} {sl5 : Array (Option Value)} {oc5 kV5 dc5 pm5 cd5 ct5 : Value}
    {f6 : Addr} {od6 an6 : Option Addr} {sl6 : Array (Option Value)} {oc6 kV6 dc6 pm6 cd6 ct6 : Value}
    {f7 : Addr} {od7 an7 : Option Addr} {sl7 : Array (Option Value)} {oc7 kV7 dc7 pm7 cd7 ct7 : Value}
    {f8 : Addr} {od8 an8 : Option Addr} {sl8 : Array (Option Value)} {oc8 kV8 dc8 pm8 cd8 ct8 : Value}
    {f9 : Addr} {od9 an9 : Option Addr} {sl9 : Array (Option Value)} {oc9 kV9 dc9 pm9 cd9 ct9 : Value}
    {f10 : Addr} {od10 an10 : Option Addr} {sl10 : Array (Option Value)} {oc10 kV10 dc10 pm10 cd10 ct10 : Value}
    {f11 : Addr} {od11 an11 : Option Addr} {sl11 : Array (Option Value)} {oc11 kV11 dc11 pm11 cd11 ct11 : Value}
    {f12 : Addr} {od12 an12 : Option Addr} {sl12 : Array (Option Value)} {oc12 kV12 dc12 pm12 cd12 ct12 : Value}
    {f13 : Addr} {od13 an13 : Option Addr} {sl13 : Array (Option Value)} {oc13 kV13 dc13 pm13 cd13 ct13 : Value}
    {f14 : Addr} {od14 an14 : Option Addr} {sl14 : Array (Option Value)} {oc14 kV14 dc14 pm14 cd14 ct14 : Value}
    {f15 : Addr} {od15 an15 : Option Addr} {sl15 : Array (Option Value)} {oc15 kV15 dc15 pm15 cd15 ct15 : Value}
    {f16 : Addr} {od16 an16 : Option Addr} {sl16 : Array (Option Value)} {oc16 kV16 dc16 pm16 cd16 ct16 : Value}
    {f17 : Addr} {od17 an17 : Option Addr} {sl17 : Array (Option Value)} {oc17 kV17 dc17 pm17 cd17 ct17 : Value}
    {f18 : Addr} {od18 an18 : Option Addr} {sl18 : Array (Option Value)} {oc18 kV18 dc18 pm18 cd18 ct18 : Value}
    {f19 : Addr} {od19 an19 : Option Addr} {sl19 : Array (Option Value)} {oc19 kV19 dc19 pm19 cd19 ct19 : Value}
    {f20 : Addr} {od20 an20 : Option Addr} {sl20 : Array (Option Value)} {oc20 kV20 dc20 pm20 cd20 ct20 : Value}
    {f21 : Addr} {od21 an21 : Option Addr} {sl21 : Array (Option Value)} {oc21 kV21 dc21 pm21 cd21 ct21 : Value}
    (a0 : PySem.W.nsIn K mainGlobals "_law_sorted" = some (some (.ref f0))) (l0 : K.lookup f0 = some ⟨oc0, od0, .func (PySem.W.fnOf "_law_sorted" "_law_sorted" (defArgs s_law_sorted) (defBody s_law_sorted) (defScope s_law_sorted) .none kV0 dc0 pm0 an0 cd0 ct0), sl0⟩) (c0 : PySem.W.codeIn K cd0 "_law_sorted" = true) (k0 : PySem.W.keepIn K (.ref f0) = true)
    (a1 : PySem.W.nsIn K mainGlobals "_law_cell_at" = some (some (.ref f1))) (l1 : K.lookup f1 = some ⟨oc1, od1, .func (PySem.W.fnOf "_law_cell_at" "_law_cell_at" (defArgs s_law_cell_at) (defBody s_law_cell_at) (defScope s_law_cell_at) .none kV1 dc1 pm1 an1 cd1 ct1), sl1⟩) (c1 : PySem.W.codeIn K cd1 "_law_cell_at" = true) (k1 : PySem.W.keepIn K (.ref f1) = true)
    (a2 : PySem.W.nsIn K mainGlobals "_law_pieces" = some (some (.ref f2))) (l2 : K.lookup f2 = some ⟨oc2, od2, .func (PySem.W.fnOf "_law_pieces" "_law_pieces" (defArgs s_law_pieces) (defBody s_law_pieces) (defScope s_law_pieces) .none kV2 dc2 pm2 an2 cd2 ct2), sl2⟩) (c2 : PySem.W.codeIn K cd2 "_law_pieces" = true) (k2 : PySem.W.keepIn K (.ref f2) = true)
    (a3 : PySem.W.nsIn K mainGlobals "_law_cut" = some (some (.ref f3))) (l3 : K.lookup f3 = some ⟨oc3, od3, .func (PySem.W.fnOf "_law_cut" "_law_cut" (defArgs s_law_cut) (defBody s_law_cut) (defScope s_law_cut) .none kV3 dc3 pm3 an3 cd3 ct3), sl3⟩) (c3 : PySem.W.codeIn K cd3 "_law_cut" = true) (k3 : PySem.W.keepIn K (.ref f3) = true)
    (a4 : PySem.W.nsIn K mainGlobals "is_whole" = some (some (.ref f4))) (l4 : K.lookup f4 = some ⟨oc4, od4, .func (PySem.W.fnOf "is_whole" "is_whole" (defArgs s_is_whole) (defBody s_is_whole) (defScope s_is_whole) .none kV4 dc4 pm4 an4 cd4 ct4), sl4⟩) (c4 : PySem.W.codeIn K cd4 "is_whole" = true) (k4 : PySem.W.keepIn K (.ref f4) = true)
    (a5 : PySem.W.nsIn K mainGlobals "is_column" = some (some (.ref f5))) (l5 : K.lookup f5 = some ⟨oc5, od5, .func (PySem.W.fnOf "is_column" "is_column" (defArgs s_is_column) (defBody s_is_column) (defScope s_is_column) .none kV5 dc5 pm5 an5 cd5 ct5), sl5⟩) (c5 : PySem.W.codeIn K cd5 "is_column" = true) (k5 : PySem.W.keepIn K (.ref f5) = true)
    (a6 : PySem.W.nsIn K mainGlobals "make_board" = some (some (.ref f6))) (l6 : K.lookup f6 = some ⟨oc6, od6, .func (PySem.W.fnOf "make_board" "make_board" (defArgs s_make_board) (defBody s_make_board) (defScope s_make_board) .none kV6 dc6 pm6 an6 cd6 ct6), sl6⟩) (c6 : PySem.W.codeIn K cd6 "make_board" = true) (k6 : PySem.W.keepIn K (.ref f6) = true)
    (a7 : PySem.W.nsIn K mainGlobals "number_by" = some (some (.ref f7))) (l7 : K.lookup f7 = some ⟨oc7, od7, .func (PySem.W.fnOf "number_by" "number_by" (defArgs s_number_by) (defBody s_number_by) (defScope s_number_by) .none kV7 dc7 pm7 an7 cd7 ct7), sl7⟩) (c7 : PySem.W.codeIn K cd7 "number_by" = true) (k7 : PySem.W.keepIn K (.ref f7) = true)
    (a8 : PySem.W.nsIn K mainGlobals "read_whole" = some (some (.ref f8))) (l8 : K.lookup f8 = some ⟨oc8, od8, .func (PySem.W.fnOf "read_whole" "read_whole" (defArgs s_read_whole) (defBody s_read_whole) (defScope s_read_whole) .none kV8 dc8 pm8 an8 cd8 ct8), sl8⟩) (c8 : PySem.W.codeIn K cd8 "read_whole" = true) (k8 : PySem.W.keepIn K (.ref f8) = true)
    (a9 : PySem.W.nsIn K mainGlobals "read_span" = some (some (.ref f9))) (l9 : K.lookup f9 = some ⟨oc9, od9, .func (PySem.W.fnOf "read_span" "read_span" (defArgs s_read_span) (defBody s_read_span) (defScope s_read_span) .none kV9 dc9 pm9 an9 cd9 ct9), sl9⟩) (c9 : PySem.W.codeIn K cd9 "read_span" = true) (k9 : PySem.W.keepIn K (.ref f9) = true)
    (a10 : PySem.W.nsIn K mainGlobals "read_piece" = some (some (.ref f10))) (l10 : K.lookup f10 = some ⟨oc10, od10, .func (PySem.W.fnOf "read_piece" "read_piece" (defArgs s_read_piece) (defBody s_read_piece) (defScope s_read_piece) .none kV10 dc10 pm10 an10 cd10 ct10), sl10⟩) (c10 : PySem.W.codeIn K cd10 "read_piece" = true) (k10 : PySem.W.keepIn K (.ref f10) = true)
    (a11 : PySem.W.nsIn K mainGlobals "read_board" = some (some (.ref f11))) (l11 : K.lookup f11 = some ⟨oc11, od11, .func (PySem.W.fnOf "read_board" "read_board" (defArgs s_read_board) (defBody s_read_board) (defScope s_read_board) .none kV11 dc11 pm11 an11 cd11 ct11), sl11⟩) (c11 : PySem.W.codeIn K cd11 "read_board" = true) (k11 : PySem.W.keepIn K (.ref f11) = true)
    (a12 : PySem.W.nsIn K mainGlobals "_law_wires" = some (some (.ref f12))) (l12 : K.lookup f12 = some ⟨oc12, od12, .func (PySem.W.fnOf "_law_wires" "_law_wires" (defArgs s_law_wires) (defBody s_law_wires) (defScope s_law_wires) .none kV12 dc12 pm12 an12 cd12 ct12), sl12⟩) (c12 : PySem.W.codeIn K cd12 "_law_wires" = true) (k12 : PySem.W.keepIn K (.ref f12) = true)
    (a13 : PySem.W.nsIn K mainGlobals "_law_whole" = some (some (.ref f13))) (l13 : K.lookup f13 = some ⟨oc13, od13, .func (PySem.W.fnOf "_law_whole" "_law_whole" (defArgs s_law_whole) (defBody s_law_whole) (defScope s_law_whole) .none kV13 dc13 pm13 an13 cd13 ct13), sl13⟩) (c13 : PySem.W.codeIn K cd13 "_law_whole" = true) (k13 : PySem.W.keepIn K (.ref f13) = true)
    (a14 : PySem.W.nsIn K mainGlobals "_law_is_board" = some (some (.ref f14))) (l14 : K.lookup f14 = some ⟨oc14, od14, .func (PySem.W.fnOf "_law_is_board" "_law_is_board" (defArgs s_law_is_board) (defBody s_law_is_board) (defScope s_law_is_board) .none kV14 dc14 pm14 an14 cd14 ct14), sl14⟩) (c14 : PySem.W.codeIn K cd14 "_law_is_board" = true) (k14 : PySem.W.keepIn K (.ref f14) = true)
    (a15 : PySem.W.nsIn K mainGlobals "shown_field" = some (some (.ref f15))) (l15 : K.lookup f15 = some ⟨oc15, od15, .func (PySem.W.fnOf "shown_field" "shown_field" (defArgs s_shown_field) (defBody s_shown_field) (defScope s_shown_field) .none kV15 dc15 pm15 an15 cd15 ct15), sl15⟩) (c15 : PySem.W.codeIn K cd15 "shown_field" = true) (k15 : PySem.W.keepIn K (.ref f15) = true)
    (a16 : PySem.W.nsIn K mainGlobals "shown_piece" = some (some (.ref f16))) (l16 : K.lookup f16 = some ⟨oc16, od16, .func (PySem.W.fnOf "shown_piece" "shown_piece" (defArgs s_shown_piece) (defBody s_shown_piece) (defScope s_shown_piece) .none kV16 dc16 pm16 an16 cd16 ct16), sl16⟩) (c16 : PySem.W.codeIn K cd16 "shown_piece" = true) (k16 : PySem.W.keepIn K (.ref f16) = true)
    (a17 : PySem.W.nsIn K mainGlobals "pieces_of" = some (some (.ref f17))) (l17 : K.lookup f17 = some ⟨oc17, od17, .func (PySem.W.fnOf "pieces_of" "pieces_of" (defArgs s_pieces_of) (defBody s_pieces_of) (defScope s_pieces_of) .none kV17 dc17 pm17 an17 cd17 ct17), sl17⟩) (c17 : PySem.W.codeIn K cd17 "pieces_of" = true) (k17 : PySem.W.keepIn K (.ref f17) = true)
    (a18 : PySem.W.nsIn K mainGlobals "shown_board" = some (some (.ref f18))) (l18 : K.lookup f18 = some ⟨oc18, od18, .func (PySem.W.fnOf "shown_board" "shown_board" (defArgs s_shown_board) (defBody s_shown_board) (defScope s_shown_board) .none kV18 dc18 pm18 an18 cd18 ct18), sl18⟩) (c18 : PySem.W.codeIn K cd18 "shown_board" = true) (k18 : PySem.W.keepIn K (.ref f18) = true)
    (a19 : PySem.W.nsIn K mainGlobals "_law_side" = some (some (.ref f19))) (l19 : K.lookup f19 = some ⟨oc19, od19, .func (PySem.W.fnOf "_law_side" "_law_side" (defArgs s_law_side) (defBody s_law_side) (defScope s_law_side) .none kV19 dc19 pm19 an19 cd19 ct19), sl19⟩) (c19 : PySem.W.codeIn K cd19 "_law_side" = true) (k19 : PySem.W.keepIn K (.ref f19) = true)
    (a20 : PySem.W.nsIn K mainGlobals "_law_piece" = some (some (.ref f20))) (l20 : K.lookup f20 = some ⟨oc20, od20, .func (PySem.W.fnOf "_law_piece" "_law_piece" (defArgs s_law_piece) (defBody s_law_piece) (defScope s_law_piece) .none kV20 dc20 pm20 an20 cd20 ct20), sl20⟩) (c20 : PySem.W.codeIn K cd20 "_law_piece" = true) (k20 : PySem.W.keepIn K (.ref f20) = true)
    (a21 : PySem.W.nsIn K mainGlobals "law" = some (some (.ref f21))) (l21 : K.lookup f21 = some ⟨oc21, od21, .func (PySem.W.fnOf "law" "law" (defArgs s_law) (defBody s_law) (defScope s_law) .none kV21 dc21 pm21 an21 cd21 ct21), sl21⟩) (c21 : PySem.W.codeIn K cd21 "law" = true) (k21 : PySem.W.keepIn K (.ref f21) = true)
    {uc0 : Value} (x0 : PySem.W.nsIn K mainGlobals "CARD_WIDTH" = some (some uc0)) (y0 : RelV (.int 40) uc0)
    {uc1 : Value} (x1 : PySem.W.nsIn K mainGlobals "BODY_WIDTH" = some (some uc1)) (y1 : RelV (.int 36) uc1)
    {uc2 : Value} (x2 : PySem.W.nsIn K mainGlobals "FIGURES" = some (some uc2)) (y2 : RelV (tx [48, 49, 50, 51, 52, 53, 54, 55, 56, 57]) uc2)
    (z0 : PySem.W.nsIn K mainGlobals "sorted" = some none)
    (z1 : PySem.W.nsIn K mainGlobals "len" = some none)
    (z2 : PySem.W.nsIn K mainGlobals "min" = some none)
    (z3 : PySem.W.nsIn K mainGlobals "isinstance" = some none)
    (z4 : PySem.W.nsIn K mainGlobals "int" = some none)
    (z5 : PySem.W.nsIn K mainGlobals "bool" = some none)
    (z6 : PySem.W.nsIn K mainGlobals "all" = some none)
    (z7 : PySem.W.nsIn K mainGlobals "range" = some none)
    (z8 : PySem.W.nsIn K mainGlobals "list" = some none)
    (z9 : PySem.W.nsIn K mainGlobals "tuple" = some none)
    (z10 : PySem.W.nsIn K mainGlobals "str" = some none)
    {cc0 : Addr} (v0 : PySem.W.nsIn K mainGlobals "NoBoard" = some (some (.ref cc0)))
    (u0 : excK K cc0 = true) :
    ∃ fd : FuncData, (∀ (s : Shared) (v : Value), BindsTo s fd ⟨[v], []⟩ [("_law_script", v)]) ∧ ∀ base : Heap, K.In base → base.Ns mainGlobals mg → FnOk l.prog w K mg base CX0 6 fa fd ["_law_script"] (sp_law K) := by
  have e := hfa.symm.trans (PySem.W.mg_of X G a21)
  cases e
  have F0 := fun_mk (st := s_law_sorted) l0 c0 k0
  have b0 := F0.binds (ps := ["_law_wires_here"]) fun _ _ _ _ _ _ us hl => match us, hl with | [_], _ => rfl
  have F1 := fun_mk (st := s_law_cell_at) l1 c1 k1
  have b1 := F1.binds (ps := ["_law_script", "_law_k"]) fun _ _ _ _ _ _ us hl => match us, hl with | [_, _], _ => rfl
  have F2 := fun_mk (st := s_law_pieces) l2 c2 k2
  have b2 := F2.binds (ps := ["_law_board"]) fun _ _ _ _ _ _ us hl => match us, hl with | [_], _ => rfl
  have F3 := fun_mk (st := s_law_cut) l3 c3 k3
  have b3 := F3.binds (ps := ["_law_pieces_here", "_law_bits"]) fun _ _ _ _ _ _ us hl => match us, hl with | [_, _], _ => rfl
  have F4 := fun_mk (st := s_is_whole) l4 c4 k4
  have b4 := F4.binds (ps := ["value"]) fun _ _ _ _ _ _ us hl => match us, hl with | [_], _ => rfl
  have F5 := fun_mk (st := s_is_column) l5 c5 k5
  have b5 := F5.binds (ps := ["value", "most"]) fun _ _ _ _ _ _ us hl => match us, hl with | [_, _], _ => rfl
  have F6 := fun_mk (st := s_make_board) l6 c6 k6
  have b6 := F6.binds (ps := ["wires"]) fun _ _ _ _ _ _ us hl => match us, hl with | [_], _ => rfl
  have F7 := fun_mk (st := s_number_by) l7 c7 k7
  have b7 := F7.binds (ps := ["figures"]) fun _ _ _ _ _ _ us hl => match us, hl with | [_], _ => rfl
  have F8 := fun_mk (st := s_read_whole) l8 c8 k8
  have b8 := F8.binds (ps := ["text"]) fun _ _ _ _ _ _ us hl => match us, hl with | [_], _ => rfl
  have F9 := fun_mk (st := s_read_span) l9 c9 k9
  have b9 := F9.binds (ps := ["text", "most"]) fun _ _ _ _ _ _ us hl => match us, hl with | [_, _], _ => rfl
  have F10 := fun_mk (st := s_read_piece) l10 c10 k10
  have b10 := F10.binds (ps := ["text"]) fun _ _ _ _ _ _ us hl => match us, hl with | [_], _ => rfl
  have F11 := fun_mk (st := s_read_board) l11 c11 k11
  have b11 := F11.binds (ps := ["text"]) fun _ _ _ _ _ _ us hl => match us, hl with | [_], _ => rfl
  have F12 := fun_mk (st := s_law_wires) l12 c12 k12
  have b12 := F12.binds (ps := ["_law_cells", "_law_meeting"]) fun _ _ _ _ _ _ us hl => match us, hl with | [_, _], _ => rfl
  have F13 := fun_mk (st := s_law_whole) l13 c13 k13
  have b13 := F13.binds (ps := ["_law_found"]) fun _ _ _ _ _ _ us hl => match us, hl with | [_], _ => rfl
  have F14 := fun_mk (st := s_law_is_board) l14 c14 k14
  have b14 := F14.binds (ps := ["_law_found", "_law_due"]) fun _ _ _ _ _ _ us hl => match us, hl with | [_, _], _ => rfl
  have F15 := fun_mk (st := s_shown_field) l15 c15 k15
  have b15 := F15.binds (ps := ["field"]) fun _ _ _ _ _ _ us hl => match us, hl with | [_], _ => rfl
  have F16 := fun_mk (st := s_shown_piece) l16 c16 k16
  have b16 := F16.binds (ps := ["wires"]) fun _ _ _ _ _ _ us hl => match us, hl with | [_], _ => rfl
  have F17 := fun_mk (st := s_pieces_of) l17 c17 k17
  have b17 := F17.binds (ps := ["board"]) fun _ _ _ _ _ _ us hl => match us, hl with | [_], _ => rfl
  have F18 := fun_mk (st := s_shown_board) l18 c18 k18
  have b18 := F18.binds (ps := ["board"]) fun _ _ _ _ _ _ us hl => match us, hl with | [_], _ => rfl
  have F19 := fun_mk (st := s_law_side) l19 c19 k19
  have b19 := F19.binds (ps := ["_law_first", "_law_last"]) fun _ _ _ _ _ _ us hl => match us, hl with | [_, _], _ => rfl
  have F20 := fun_mk (st := s_law_piece) l20 c20 k20
  have b20 := F20.binds (ps := ["_law_piece_here"]) fun _ _ _ _ _ _ us hl => match us, hl with | [_], _ => rfl
  have F21 := fun_mk (st := s_law) l21 c21 k21
  refine ⟨PySem.W.fnOf "law" "law" (defArgs s_law) (defBody s_law) (defScope s_law) .none kV21 dc21 pm21 an21 cd21 ct21, fun s v => .of_eq rfl, fun base _ _ => ?_⟩
  have C_CARD_WIDTH : Gc mg "CARD_WIDTH" (.int 40) := ⟨_, PySem.W.mg_of X G x0, y0⟩
  have C_BODY_WIDTH : Gc mg "BODY_WIDTH" (.int 36) := ⟨_, PySem.W.mg_of X G x1, y1⟩
  have C_FIGURES : Gc mg "FIGURES" (tx [48, 49, 50, 51, 52, 53, 54, 55, 56, 57]) := ⟨_, PySem.W.mg_of X G x2, y2⟩
  have M_NoBoard : mg "NoBoard" = some (.ref (gA K "NoBoard")) := by rw [gA_of v0]; exact PySem.W.mg_of X G v0
  have C_NoBoard : Gc mg "NoBoard" (.ref (gA K "NoBoard")) := ⟨_, M_NoBoard, rfl⟩
  have FX : Fx K := ⟨(by rw [gA_of v0]; exact u0)⟩
  have Q_NoBoard := FX.exc_NoBoard
  have B_sorted : Gb mg "sorted" := PySem.W.mg_none_of X G z0
  have B_len : Gb mg "len" := PySem.W.mg_none_of X G z1
  have B_min : Gb mg "min" := PySem.W.mg_none_of X G z2
  have B_isinstance : Gb mg "isinstance" := PySem.W.mg_none_of X G z3
  have B_int : Gb mg "int" := PySem.W.mg_none_of X G z4
  have B_bool : Gb mg "bool" := PySem.W.mg_none_of X G z5
  have B_all : Gb mg "all" := PySem.W.mg_none_of X G z6
  have B_range : Gb mg "range" := PySem.W.mg_none_of X G z7
  have B_list : Gb mg "list" := PySem.W.mg_none_of X G z8
  have B_tuple : Gb mg "tuple" := PySem.W.mg_none_of X G z9
  have B_str : Gb mg "str" := PySem.W.mg_none_of X G z10
  have G_law_sorted : Gd l.prog w K mg base CX0 1 "_law_sorted" ["_law_wires_here"] (sp_law_sorted K) := ⟨_, _, ok_law_sorted B_sorted F0 len_law_sorted rd_law_sorted, PySem.W.mg_of X G a0, k0, b0⟩
  have G_law_cell_at : Gd l.prog w K mg base CX0 1 "_law_cell_at" ["_law_script", "_law_k"] (sp_law_cell_at K) := ⟨_, _, ok_law_cell_at B_len F1 len_law_cell_at rd_law_cell_at, PySem.W.mg_of X G a1, k1, b1⟩
  have G_law_pieces : Gd l.prog w K mg base CX0 1 "_law_pieces" ["_law_board"] (sp_law_pieces K) := ⟨_, _, ok_law_pieces  F2 len_law_pieces rd_law_pieces, PySem.W.mg_of X G a2, k2, b2⟩
  have G_law_cut : Gd l.prog w K mg base CX0 1 "_law_cut" ["_law_pieces_here", "_law_bits"] (sp_law_cut K) := ⟨_, _, ok_law_cut B_min F3 len_law_cut rd_law_cut, PySem.W.mg_of X G a3, k3, b3⟩
  have G_is_whole : Gd l.prog w K mg base CX0 1 "is_whole" ["value"] (sp_is_whole K) := ⟨_, _, ok_is_whole B_isinstance B_int B_bool F4 len_is_whole rd_is_whole, PySem.W.mg_of X G a4, k4, b4⟩
  have G_is_column : Gd l.prog w K mg base CX0 2 "is_column" ["value", "most"] (sp_is_column K) := ⟨_, _, ok_is_column G_is_whole F5 len_is_column rd_is_column, PySem.W.mg_of X G a5, k5, b5⟩
  have G_make_board : Gd l.prog w K mg base (CXx l.prog w) 3 "make_board" ["wires"] (sp_make_board K) := ⟨_, _, ok_make_board G_is_column C_CARD_WIDTH C_BODY_WIDTH C_NoBoard M_NoBoard Q_NoBoard B_sorted F6 len_make_board (rd_make_board FX), PySem.W.mg_of X G a6, k6, b6⟩
  have G_number_by : Gd l.prog w K mg base CX0 1 "number_by" ["figures"] (sp_number_by K) := ⟨_, _, ok_number_by C_FIGURES F7 len_number_by rd_number_by, PySem.W.mg_of X G a7, k7, b7⟩
  have G_read_whole : Gd l.prog w K mg base CX0 2 "read_whole" ["text"] (sp_read_whole K) := ⟨_, _, ok_read_whole G_number_by C_FIGURES B_all F8 len_read_whole rd_read_whole, PySem.W.mg_of X G a8, k8, b8⟩
  have G_read_span : Gd l.prog w K mg base (CXx l.prog w) 3 "read_span" ["text", "most"] (sp_read_span K) := ⟨_, _, ok_read_span G_read_whole C_NoBoard M_NoBoard Q_NoBoard B_len F9 len_read_span (rd_read_span FX), PySem.W.mg_of X G a9, k9, b9⟩
  have G_read_piece : Gd l.prog w K mg base (CXx l.prog w) 4 "read_piece" ["text"] (sp_read_piece K) := ⟨_, _, ok_read_piece G_read_span C_CARD_WIDTH C_BODY_WIDTH C_NoBoard M_NoBoard Q_NoBoard B_len B_range F10 len_read_piece (rd_read_piece FX), PySem.W.mg_of X G a10, k10, b10⟩
  have G_read_board : Gd l.prog w K mg base (CXx l.prog w) 5 "read_board" ["text"] (sp_read_board K) := ⟨_, _, ok_read_board G_read_piece G_make_board F11 len_read_board (rd_read_board FX), PySem.W.mg_of X G a11, k11, b11⟩
  have G_law_wires : Gd l.prog w K mg base CX0 1 "_law_wires" ["_law_cells", "_law_meeting"] (sp_law_wires K) := ⟨_, _, ok_law_wires B_range F12 len_law_wires rd_law_wires, PySem.W.mg_of X G a12, k12, b12⟩
  have G_law_whole : Gd l.prog w K mg base CX0 1 "_law_whole" ["_law_found"] (sp_law_whole K) := ⟨_, _, ok_law_whole B_isinstance B_int B_bool F13 len_law_whole rd_law_whole, PySem.W.mg_of X G a13, k13, b13⟩
  have G_law_is_board : Gd l.prog w K mg base CX0 2 "_law_is_board" ["_law_found", "_law_due"] (sp_law_is_board K) := ⟨_, _, ok_law_is_board G_law_whole B_isinstance B_list B_tuple F14 len_law_is_board rd_law_is_board, PySem.W.mg_of X G a14, k14, b14⟩
  have G_shown_field : Gd l.prog w K mg base CX0 1 "shown_field" ["field"] (sp_shown_field K) := ⟨_, _, ok_shown_field B_str F15 len_shown_field rd_shown_field, PySem.W.mg_of X G a15, k15, b15⟩
  have G_shown_piece : Gd l.prog w K mg base CX0 2 "shown_piece" ["wires"] (sp_shown_piece K) := ⟨_, _, ok_shown_piece G_shown_field F16 len_shown_piece rd_shown_piece, PySem.W.mg_of X G a16, k16, b16⟩
  have G_pieces_of : Gd l.prog w K mg base CX0 1 "pieces_of" ["board"] (sp_pieces_of K) := ⟨_, _, ok_pieces_of  F17 len_pieces_of rd_pieces_of, PySem.W.mg_of X G a17, k17, b17⟩
  have G_shown_board : Gd l.prog w K mg base CX0 3 "shown_board" ["board"] (sp_shown_board K) := ⟨_, _, ok_shown_board G_pieces_of G_shown_piece F18 len_shown_board rd_shown_board, PySem.W.mg_of X G a18, k18, b18⟩
  have G_law_side : Gd l.prog w K mg base CX0 1 "_law_side" ["_law_first", "_law_last"] (sp_law_side K) := ⟨_, _, ok_law_side B_str F19 len_law_side rd_law_side, PySem.W.mg_of X G a19, k19, b19⟩
  have G_law_piece : Gd l.prog w K mg base CX0 2 "_law_piece" ["_law_piece_here"] (sp_law_piece K) := ⟨_, _, ok_law_piece G_law_side F20 len_law_piece rd_law_piece, PySem.W.mg_of X G a20, k20, b20⟩
  exact ok_law (P := l.prog) (w := w) (base := base) G_law_sorted G_law_wires G_law_cell_at G_law_pieces G_law_cut G_law_piece G_read_board G_law_is_board G_shown_board B_len F21 len_law rd_law
theorem walk {l : PySem.W.OpenLaw} {q : Program} {loose : List Str} {XP : (Str → Option Value) → Heap → Prop} {YP : World → Heap → Prop} {d : DefRec} {K : Params → PySem.W.Frag} (hn : l.most = some 63) (hdf : d.params.defaults = [])
    (hY : ∀ (w : World) (h : Heap), YP w h → (K w.params).In h)
    (F : ∀ (w : World) (mg : Str → Option Value) (fa : Addr) (h : Heap), (K w.params).In h → h.Ns mainGlobals mg → mg d.name = some (.ref fa) →
      ∃ fd : FuncData, (∀ (s : Shared) (u : Value), BindsTo s fd ⟨[u], []⟩ [("_law_script", u)]) ∧ ∀ base : Heap, (K w.params).In base → base.Ns mainGlobals mg → FnOk l.prog w (K w.params) mg base CX0 6 fa fd ["_law_script"] (sp_law (K w.params))) :
    PySem.W.WalkO q loose XP YP l.row.toRowW d [] (fun f vs => PySem.call f vs) :=
  L2.walk_ofB (n := 63) (k := 6) (x := "_law_script") (CX := fun _ => CX0) (sp := fun w => sp_law (K w.params)) hn (by decide) hdf ⟨rfl, by decide, by decide⟩ hY F (fun _ _ a ns hl hb _ hS => ⟨a, ns, rfl, hS, hl, hb, fun _ => rfl⟩) fun _ _ _ _ _ z => z
end K29
open PySem PySem.W PyProof.Rows
set_option maxRecDepth 100000 in
set_option maxHeartbeats 0 in
theorem PySem.Challenge.cw_cardshop_k29_board_read_holds : PySem.Challenge.rw_cardshop_k29_board_read.Holds := by
  w_on; o_law; k_head; (case hw => w_witness2)
  k_fill
  refine K29.walk (l := PySem.Challenge.rw_cardshop_k29_board_read) rfl rfl (fun w h Y => PySem.W.kIn_of Y) ?F
  case F =>
    intro w mg fa h KX G hmg
    refine' K29.all_mk KX G hmg ?a0 ?l0 ?c0 ?k0 ?a1 ?l1 ?c1 ?k1 ?a2 ?l2 ?c2 ?k2 ?a3 ?l3 ?c3 ?k3 ?a4 ?l4 ?c4 ?k4 ?a5 ?l5 ?c5 ?k5 ?a6 ?l6 ?c6 ?k6 ?a7 ?l7 ?c7 ?k7 ?a8 ?l8 ?c8 ?k8 ?a9 ?l9 ?c9 ?k9 ?a10 ?l10 ?c10 ?k10 ?a11 ?l11 ?c11 ?k11 ?a12 ?l12 ?c12 ?k12 ?a13 ?l13 ?c13 ?k13 ?a14 ?l14 ?c14 ?k14 ?a15 ?l15 ?c15 ?k15 ?a16 ?l16 ?c16 ?k16 ?a17 ?l17 ?c17 ?k17 ?a18 ?l18 ?c18 ?k18 ?a19 ?l19 ?c19 ?k19 ?a20 ?l20 ?c20 ?k20 ?a21 ?l21 ?c21 ?k21 ?x0 ?y0 ?x1 ?y1 ?x2 ?y2 ?z0 ?z1 ?z2 ?z3 ?z4 ?z5 ?z6 ?z7 ?z8 ?z9 ?z10 ?v0 ?u0
    (case a0 => k_is)
    (case l0 => k_is)
    (case c0 => k_is)
    (case k0 => k_is)
    (case a1 => k_is)
    (case l1 => k_is)
    (case c1 => k_is)
    (case k1 => k_is)
    (case a2 => k_is)
    (case l2 => k_is)
    (case c2 => k_is)
    (case k2 => k_is)
    (case a3 => k_is)
    (case l3 => k_is)
    (case c3 => k_is)
    (case k3 => k_is)
    (case a4 => k_is)
    (case l4 => k_is)
    (case c4 => k_is)
    (case k4 => k_is)
    (case a5 => k_is)
    (case l5 => k_is)
    (case c5 => k_is)
    (case k5 => k_is)
    (case a6 => k_is)
    (case l6 => k_is)
    (case c6 => k_is)
    (case k6 => k_is)
    (case a7 => k_is)
    (case l7 => k_is)
    (case c7 => k_is)
    (case k7 => k_is)
    (case a8 => k_is)
    (case l8 => k_is)
    (case c8 => k_is)
    (case k8 => k_is)
    (case a9 => k_is)
    (case l9 => k_is)
    (case c9 => k_is)
    (case k9 => k_is)
    (case a10 => k_is)
    (case l10 => k_is)
    (case c10 => k_is)
    (case k10 => k_is)
    (case a11 => k_is)
    (case l11 => k_is)
    (case c11 => k_is)
    (case k11 => k_is)
    (case a12 => k_is)
    (case l12 => k_is)
    (case c12 => k_is)
    (case k12 => k_is)
    (case a13 => k_is)
    (case l13 => k_is)
    (case c13 => k_is)
    (case k13 => k_is)
    (case a14 => k_is)
    (case l14 => k_is)
    (case c14 => k_is)
    (case k14 => k_is)
    (case a15 => k_is)
    (case l15 => k_is)
    (case c15 => k_is)
    (case k15 => k_is)
    (case a16 => k_is)
    (case l16 => k_is)
    (case c16 => k_is)
    (case k16 => k_is)
    (case a17 => k_is)
    (case l17 => k_is)
    (case c17 => k_is)
    (case k17 => k_is)
    (case a18 => k_is)
    (case l18 => k_is)
    (case c18 => k_is)
    (case k18 => k_is)
    (case a19 => k_is)
    (case l19 => k_is)
    (case c19 => k_is)
    (case k19 => k_is)
    (case a20 => k_is)
    (case l20 => k_is)
    (case c20 => k_is)
    (case k20 => k_is)
    (case a21 => k_is)
    (case l21 => k_is)
    (case c21 => k_is)
    (case k21 => k_is)
    (case x0 => k_is)
    (case y0 => exact ⟨_, rfl⟩)
    (case x1 => k_is)
    (case y1 => exact ⟨_, rfl⟩)
    (case x2 => k_is)
    (case y2 => exact ⟨_, rfl⟩)
    (case z0 => k_is)
    (case z1 => k_is)
    (case z2 => k_is)
    (case z3 => k_is)
    (case z4 => k_is)
    (case z5 => k_is)
    (case z6 => k_is)
    (case z7 => k_is)
    (case z8 => k_is)
    (case z9 => k_is)
    (case z10 => k_is)
    (case v0 => k_is)
    (case u0 => kernel_rfl!)
#print axioms PySem.Challenge.cw_cardshop_k29_board_read_holds
