import PyProof.Rows.All
import Wide.All
import OpenK.AllK
import Wide.FinOn
import Lean
import PyProof.EqAt
import PyProof.EqKinds
import PyProof.TupleCall
import PyProof.StrLawsRepr
import PyProof.NeKinds
import PySem.Challenge.RW_cardshop_k05_punched
set_option Elab.async false
set_option linter.all false
set_option maxRecDepth 100000
set_option maxHeartbeats 4000000
namespace L2
open PySem PySem.Spec PyProof.Rows
abbrev Key := Sum Int Str
def keyIs : Key → Value → Bool
  | .inl k, v => Value.isInt k v
  | .inr x, v => Value.isStrOf x v
def keyH (w : World) : Key → Int
  | .inl k => hashInt k
  | .inr x => hashStr w x
theorem keyIs_shape : ∀ {k : Key} {v : Value}, keyIs k v = true → (∃ i t, k = Sum.inl i ∧ v = Value.int i t) ∨ (∃ x t, k = Sum.inr x ∧ v = Value.str x t)
  | .inl i, v, h => by
    obtain ⟨t, e⟩ := Value.isInt_shape (k := i) (v := v) h
    exact .inl ⟨i, t, rfl, e⟩
  | .inr x, v, h => by
    obtain ⟨t, e⟩ := Value.isStrOf_shape (x := x) (v := v) h
    exact .inr ⟨x, t, rfl, e⟩
theorem key_ll (a b : Int) : decide ((Sum.inl a : Key) = Sum.inl b) = (a == b) := by
  by_cases e : a = b
  · subst e; simp
  · have h : ¬ (Sum.inl a : Key) = Sum.inl b := fun q => e (Sum.inl.inj q)
    rw [decide_eq_false h]
    exact (beq_eq_false_iff_ne.mpr e).symm
theorem key_rr (a b : Str) : decide ((Sum.inr a : Key) = Sum.inr b) = decide (a = b) := by
  by_cases e : a = b
  · subst e; simp
  · have h : ¬ (Sum.inr a : Key) = Sum.inr b := fun q => e (Sum.inr.inj q)
    rw [decide_eq_false h, decide_eq_false e]
theorem key_lr (a : Int) (b : Str) : decide ((Sum.inl a : Key) = Sum.inr b) = false := decide_eq_false (fun q => nomatch q)
theorem key_rl (a : Str) (b : Int) : decide ((Sum.inr a : Key) = Sum.inl b) = false := decide_eq_false (fun q => nomatch q)
def mixKind (prog : Program) (w : World) : PySem.KeyKind prog w Key where
  is := keyIs
  hash := keyH w
  inj := fun v a b ha hb => by
    rcases keyIs_shape ha with ⟨i, t, rfl, rfl⟩ | ⟨x, t, rfl, rfl⟩
    · rcases keyIs_shape hb with ⟨j, u, rfl, e⟩ | ⟨y, u, rfl, e⟩
      · injection e with e1 _; rw [e1]
      · exact nomatch e
    · rcases keyIs_shape hb with ⟨j, u, rfl, e⟩ | ⟨y, u, rfl, e⟩
      · exact nomatch e
      · injection e with e1 _; rw [e1]
  byValue := fun k v h => by
    rcases keyIs_shape h with ⟨i, t, rfl, rfl⟩ | ⟨x, t, rfl, rfl⟩ <;> rfl
  pyHash := fun hv h => by
    rcases keyIs_shape hv with ⟨i, t, rfl, rfl⟩ | ⟨x, t, rfl, rfl⟩
    · exact wpAny_pyHash_int h
    · exact wpAny_pyHash_str h
  eqBool := fun hu hv h => by
    rcases keyIs_shape hu with ⟨i, t, rfl, rfl⟩ | ⟨x, t, rfl, rfl⟩
    · rcases keyIs_shape hv with ⟨j, u, rfl, rfl⟩ | ⟨y, u, rfl, rfl⟩
      · rw [key_ll] at h; exact wpAny_eqBool_int h
      · rw [key_lr] at h; exact SeqAt.EqAt.int_str i t y u _ _ _ _ h
    · rcases keyIs_shape hv with ⟨j, u, rfl, rfl⟩ | ⟨y, u, rfl, rfl⟩
      · rw [key_rl] at h; exact SeqAt.EqAt.str_int x t j u _ _ _ _ h
      · rw [key_rr] at h; exact wpAny_eqBool_str h
  «strs» := fun k x t v h => by
    rcases keyIs_shape h with ⟨i, u, rfl, e⟩ | ⟨y, u, rfl, e⟩
    · exact nomatch e
    · injection e with e1 _
      subst e1
      cases v <;> rfl
end L2
namespace L2
open PySem PySem.Spec PyProof.Rows
inductive V where
  | non | bl (b : Bool) | int (i : Int) | str (x : Str) | byt (b : Array UInt8) | flt (b : UInt64) | ref (a : Addr) | ty (n : String)
  deriving DecidableEq
def RelV : V → Value → Prop
  | .non, u => u = Value.none
  | .bl b, u => u = Value.bool b
  | .int i, u => ∃ t, u = Value.int i t
  | .str x, u => ∃ t, u = Value.str x t
  | .byt b, u => ∃ t, u = Value.bytes b t
  | .flt b, u => ∃ t, u = Value.float b t
  | .ref a, u => u = Value.ref a
  | .ty n, u => u = Value.type n
abbrev Vals : List V → List Value → Prop := Paired RelV
theorem Vals.length {xs : List V} {us : List Value} (r : Vals xs us) : xs.length = us.length := Paired.length r
theorem Vals.get : ∀ {xs : List V} {us : List Value} {i : Nat} {x : V}, Vals xs us → xs[i]? = some x → ∃ u, us[i]? = some u ∧ RelV x u
  | _, _, _, _, .nil, e => by simp at e
  | _, _, 0, _, .cons r _, e => by simp at e; subst e; exact ⟨_, rfl, r⟩
  | _, _, i + 1, x, .cons _ t, e => by
    obtain ⟨u, h1, h2⟩ := Vals.get (i := i) (x := x) t (by simpa using e)
    exact ⟨u, by simpa using h1, h2⟩
theorem Vals.set {x : V} {u : Value} (r : RelV x u) : ∀ {xs : List V} {us : List Value} (i : Nat), Vals xs us → Vals (xs.set i x) (us.set i u)
  | _, _, _, .nil => .nil
  | _, _, 0, .cons _ t => .cons r t
  | _, _, i + 1, .cons q t => .cons q (Vals.set r i t)
theorem Vals.append : ∀ {xs ys : List V} {us ws : List Value}, Vals xs us → Vals ys ws → Vals (xs ++ ys) (us ++ ws)
  | _, _, _, _, .nil, s => s
  | _, _, _, _, .cons r t, s => .cons r (Vals.append t s)
theorem Vals.take : ∀ {xs : List V} {us : List Value} (n : Nat), Vals xs us → Vals (xs.take n) (us.take n)
  | _, _, 0, _ => .nil
  | _, _, _ + 1, .nil => .nil
  | _, _, n + 1, .cons r t => .cons r (Vals.take n t)
theorem Vals.drop : ∀ {xs : List V} {us : List Value} (n : Nat), Vals xs us → Vals (xs.drop n) (us.drop n)
  | _, _, 0, r => r
  | _, _, _ + 1, .nil => .nil
  | _, _, n + 1, .cons _ t => Vals.drop n t
def RelO : Option V → Option Value → Prop
  | some v, some u => RelV v u
  | none, none => True
  | _, _ => False
def KV {κ : Type} : List (κ × V) → List (κ × Value) → Prop := Paired fun (p : κ × V) (q : κ × Value) => p.1 = q.1 ∧ RelV p.2 q.2
def kV : Key → V
  | .inl i => .int i
  | .inr x => .str x
inductive HO where
  | lst (xs : List V)
  | tup (xs : List V)
  | dK (kvs : List (Key × V)) | dT (kvs : List (List Key × V))
  | set (S : Int → Bool) (n : Nat)
  | ins (C dx : Addr) (fs : List (Str × V))
  | own (x : Addr)
  | xd (fs : List (Str × V))
  | met (f x : Addr)
  | rng (lo hi : Int)
  | frz (o : Obj) (u : HO)
  | tbl (ps : Array Value)
  | ext (φ : Heap → Prop)
abbrev Hp := Addr → Option HO
def upd (H : Hp) (a : Addr) (o : HO) : Hp := fun b => if b = a then some o else H b
theorem upd_same {H : Hp} {a : Addr} {o : HO} : upd H a o a = some o := by unfold upd; rw [if_pos rfl]
theorem upd_ne {H : Hp} {a b : Addr} {o : HO} (h : b ≠ a) : upd H a o b = H b := by unfold upd; rw [if_neg h]
theorem upd_upd {H : Hp} {a : Addr} {o u : HO} : upd (upd H a o) a u = upd H a u := by
  funext b; unfold upd; split <;> rfl
theorem ne_of_none {H : Hp} {a b : Addr} {o : HO} (h : H a = some o) (h' : H b = none) : a ≠ b := by
  intro e; subst e; rw [h] at h'; cases h'
section
variable (P : Program) (w : World)
def ObjOk (H : Hp) (h : Heap) (a : Addr) : HO → Prop
  | .lst xs => xs.length ≤ sizeLine ∧ ∃ (its : List Value) (n : Nat), Vals xs its ∧ h.get? a = some { cls := .type "list", data := .seq its.toArray n }
  | .tup xs => xs.length ≤ sizeLine ∧ ∃ its : List Value, Vals xs its ∧ IsTup h a its.toArray
  | .dK kvs => kvs.length ≤ sizeLine ∧ (a == sysModules) = false ∧ ∃ vs, KV kvs vs ∧ h.DictOf (mixKind P w) a vs
  | .dT kvs => kvs.length ≤ sizeLine ∧ (a == sysModules) = false ∧ ∃ xs : List (List Key × Addr × Value),
      Paired (fun (p : List Key × V) (q : List Key × Addr × Value) => p.1 = q.1 ∧ H q.2.1 = some (.tup (p.1.map kV)) ∧ RelV p.2 q.2.2) kvs xs ∧
      ∃ o es ep, h.get? a = some o ∧ o.ExactDict ∧ o.data = .dict es ep ∧ es.toList = xs.map (entryOfKey (tupleKind (mixKind P w))) ∧ (xs.map (·.1)).Nodup
  | .set S n => h.SetOf (intKind P w) a S n
  | .ins C dx fs => H dx = some (.own a) ∧ fs.length ≤ 1000 ∧ dx ≠ a ∧ h.get? a = some (PySem.W.instObj C dx) ∧
      ∃ mA, h.Ns1 dx mA ∧ (∀ f, RelO (fs.lookup f) (mA f)) ∧ PySem.Within mA (fs.map (·.1))
  | .own _ => ∃ o, h.get? a = some o
  | .xd fs => ∃ mA, h.Ns1 a mA ∧ ∀ f, RelO (fs.lookup f) (mA f)
  | .rng lo hi => ∃ t u v, h.get? a = some { cls := .type "range", data := .fields #[.int lo t, .int hi u, .int 1 v] }
  | .frz o u => h.get? a = some o ∧ ObjOk H h a u
  | .tbl ps => h.get? a = some { cls := .none, data := .fields ps }
  | .met f x => h.get? a = some (PySem.W.methodObj (.ref f) (.ref x))
  | .ext φ => φ h ∧ (∃ o, h.get? a = some o) ∧ ∀ h1 h2 : Heap, φ h1 → (∀ o, h1.get? a = some o → h2.get? a = some o) → φ h2
def HOk (H : Hp) (h : Heap) : Prop := ∀ a o, H a = some o → ObjOk P w H h a o
end
section
variable {P : Program} {w : World} {H H' : Hp} {h h' : Heap} {a : Addr} {o : HO}
theorem ObjOk.lt (x : ObjOk P w H h a o) : a < h.objs.size := by
  cases o with
  | lst xs => obtain ⟨_, _, _, _, e⟩ := x; exact Heap.lt_size e
  | tup xs => obtain ⟨_, _, _, p⟩ := x; exact p.lt
  | dK kvs => obtain ⟨_, _, _, _, o, _, _, e, _⟩ := x; exact Heap.lt_size e
  | dT kvs => obtain ⟨_, _, _, _, o, _, _, e, _⟩ := x; exact Heap.lt_size e
  | set S n => obtain ⟨o, _, _, _, e, _⟩ := x; exact Heap.lt_size e
  | ins C dx fs => obtain ⟨_, _, _, e, _⟩ := x; exact Heap.lt_size e
  | own y => obtain ⟨_, e⟩ := x; exact Heap.lt_size e
  | xd fs => obtain ⟨_, ⟨_, _, _, e, _⟩, _⟩ := x; exact Heap.lt_size e
  | rng lo hi => obtain ⟨_, _, _, e⟩ := x; exact Heap.lt_size e
  | frz ob u => obtain ⟨e, _⟩ := x; exact Heap.lt_size e
  | tbl ps => exact Heap.lt_size (show h.get? a = some _ from x)
  | met f y => exact Heap.lt_size (show h.get? a = some _ from x)
  | ext φ => obtain ⟨_, ⟨_, e⟩, _⟩ := x; exact Heap.lt_size e
theorem Paired.mapP {α β : Type} {F G : α → β → Prop} : ∀ {l₁ : List α} {l₂ : List β}, Paired F l₁ l₂ → (∀ a b, F a b → G a b) → Paired G l₁ l₂
  | _, _, .nil, _ => .nil
  | _, _, .cons r t, f => .cons (f _ _ r) (Paired.mapP t f)
theorem ObjOk.stay (x : ObjOk P w H h a o) (k : ∀ b u, (b = a ∨ H b = some (.own a)) → h.get? b = some u → h'.get? b = some u)
    (ho : ∀ b, H b = some (.own a) → H' b = some (.own a)) (ht : ∀ b xs, H b = some (.tup xs) → H' b = some (.tup xs)) : ObjOk P w H' h' a o := by
  induction o with
  | lst xs => obtain ⟨z, its, n, r, e⟩ := x; exact ⟨z, its, n, r, k _ _ (.inl rfl) e⟩
  | tup xs => obtain ⟨z, its, r, ob, e, c⟩ := x; exact ⟨z, its, r, ob, k _ _ (.inl rfl) e, c⟩
  | dK kvs => obtain ⟨z, y, vs, r, ob, es, ep, e, c⟩ := x; exact ⟨z, y, vs, r, ob, es, ep, k _ _ (.inl rfl) e, c⟩
  | dT kvs =>
    obtain ⟨z, y, xs, r, ob, es, ep, e, c⟩ := x
    exact ⟨z, y, xs, Paired.mapP r fun p q z => ⟨z.1, ht _ _ z.2.1, z.2.2⟩, ob, es, ep, k _ _ (.inl rfl) e, c⟩
  | set S n => obtain ⟨ob, es, ep, t, e, c⟩ := x; exact ⟨ob, es, ep, t, k _ _ (.inl rfl) e, c⟩
  | ins C dx fs =>
    obtain ⟨d, z, ne, e, mA, ⟨od, es, ep, e2, c⟩, r⟩ := x
    exact ⟨ho _ d, z, ne, k _ _ (.inl rfl) e, mA, ⟨od, es, ep, k _ _ (.inr d) e2, c⟩, r⟩
  | own y => obtain ⟨ob, e⟩ := x; exact ⟨ob, k _ _ (.inl rfl) e⟩
  | xd fs => obtain ⟨mA, ⟨od, es, ep, e, c⟩, r⟩ := x; exact ⟨mA, ⟨od, es, ep, k _ _ (.inl rfl) e, c⟩, r⟩
  | rng lo hi => obtain ⟨t, u, v, e⟩ := x; exact ⟨t, u, v, k _ _ (.inl rfl) e⟩
  | frz ob u ih => obtain ⟨e, q⟩ := x; exact ⟨k _ _ (.inl rfl) e, ih q⟩
  | tbl ps =>
    have e : h.get? a = some { cls := .none, data := .fields ps } := x
    show h'.get? a = some { cls := .none, data := .fields ps }
    exact k a _ (.inl rfl) e
  | met f y =>
    have e : h.get? a = some (PySem.W.methodObj (.ref f) (.ref y)) := x
    show h'.get? a = some (PySem.W.methodObj (.ref f) (.ref y))
    exact k a _ (.inl rfl) e
  | ext φ => obtain ⟨p, ⟨o, e⟩, st⟩ := x; exact ⟨st _ _ p fun o q => k _ _ (.inl rfl) q, ⟨o, k _ _ (.inl rfl) e⟩, st⟩
theorem HOk.lt (x : HOk P w H h) (e : H a = some o) : a < h.objs.size := (x a o e).lt
theorem HOk.fresh (x : HOk P w H h) (e : h.objs.size ≤ a) : H a = none := by
  cases q : H a with
  | none => rfl
  | some u => exact absurd (Nat.lt_of_lt_of_le (x.lt q) e) (Nat.lt_irrefl _)
theorem HOk.kept (x : HOk P w H h) (k : ∀ b u, h.get? b = some u → h'.get? b = some u) : HOk P w H h' := fun a o e =>
  (x a o e).stay (fun b u _ q => k b u q) (fun _ q => q) fun _ _ q => q
theorem HOk.laid (x : HOk P w H h) (k : ∀ b u, h.get? b = some u → h'.get? b = some u) (hp : h.objs.size ≤ a) (new : ObjOk P w (upd H a o) h' a o) : HOk P w (upd H a o) h' := fun b u e => by
  have hn := x.fresh hp
  by_cases hb : b = a
  · subst hb; rw [upd_same] at e; cases e; exact new
  · rw [upd_ne hb] at e
    exact (x b u e).stay (fun c v _ q => k c v q) (fun c q => by rw [upd_ne (ne_of_none q hn)]; exact q) fun c xs q => by rw [upd_ne (ne_of_none q hn)]; exact q
end
def Rd (H : Hp) (a : Addr) (u : HO) : Prop := H a = some u ∨ ∃ o, H a = some (.frz o u)
theorem Rd.of {H : Hp} {a : Addr} {u : HO} (h : H a = some u) : Rd H a u := .inl h
theorem Rd.ok {P : Program} {w : World} {H : Hp} {h : Heap} {a : Addr} {u : HO} (r : Rd H a u) (x : HOk P w H h) : ObjOk P w H h a u := by
  rcases r with r | ⟨o, r⟩
  · exact x a u r
  · obtain ⟨_, q⟩ := x a _ r
    exact q
def Mut : Option HO → Prop
  | some (.lst _) => True
  | some (.dK _) => True
  | some (.dT _) => True
  | some (.set _ _) => True
  | some (.ins _ _ _) => True
  | some (.ext _) => True
  | _ => False
section
variable {P : Program} {w : World} {H : Hp} {h h' : Heap} {x e : Addr} {o' : HO}
theorem HOk.write (ok : HOk P w H h) (mu : Mut (H x)) (he : e = x ∨ H e = some (.own x)) (k : ∀ b u, b ≠ e → h.get? b = some u → h'.get? b = some u) (heo : ∃ u, h'.get? e = some u)
    (new : ObjOk P w (upd H x o') h' x o') : HOk P w (upd H x o') h' := fun b u q => by
  have nown : ∀ c y, H c = some (.own y) → c ≠ x := fun c y r z => by subst z; rw [r] at mu; exact mu
  have ntup : ∀ c xs, H c = some (.tup xs) → c ≠ x := fun c xs r z => by subst z; rw [r] at mu; exact mu
  by_cases hb : b = x
  · subst hb; rw [upd_same] at q; cases q; exact new
  · rw [upd_ne hb] at q
    by_cases hbe : b = e
    · have q' : H b = some (.own x) := by
        rcases he with z | z
        · exact absurd (hbe.trans z) hb
        · rw [hbe]; exact z
      rw [q] at q'; cases q'
      obtain ⟨v, hv⟩ := heo
      exact ⟨v, by rw [hbe]; exact hv⟩
    · refine (ok b u q).stay (fun c v hc r => k c v ?_ r) (fun c r => by rw [upd_ne (nown c b r)]; exact r) fun c xs r => by rw [upd_ne (ntup c xs r)]; exact r
      rcases hc with rfl | hc
      · exact hbe
      · rintro rfl
        rcases he with z | z
        · exact nown c b hc z
        · rw [hc] at z; cases z; exact hb rfl
end
structure Un (fs ex : List Addr) (H H' : Hp) (h h' : Heap) : Prop where
  keep : ∀ b o, h.get? b = some o → H b = none → b ∉ fs → b ∉ ex → h'.get? b = some o
  slot : ∀ b o, h.get? b = some o → H b = none → b ∈ fs → b ∉ ex → ∃ sl, h'.get? b = some { o with slots := sl }
  free : ∀ b o, h.get? b = some o → H b = none → b ∉ ex → H' b = none
  there : ∀ b o, h.get? b = some o → b ∉ ex → ∃ o', h'.get? b = some o'
  tups : ∀ b xs, H b = some (.tup xs) → H' b = some (.tup xs)
  frzs : ∀ b o u, H b = some (.frz o u) → H' b = some (.frz o u)
  tbls : ∀ b ps, H b = some (.tbl ps) → ∃ more, H' b = some (.tbl (ps ++ more))
section
variable {fs fs' ex ex' : List Addr} {H H1 H2 : Hp} {h h1 h2 h' : Heap} {a x e : Addr} {o : HO}
theorem Un.any (u : Un fs ex H H1 h h1) {b : Addr} {ob : Obj} (q : h.get? b = some ob) (n : H b = none) (hx : b ∉ ex) : ∃ sl, h1.get? b = some { ob with slots := sl } := by
  by_cases hb : b ∈ fs
  · exact u.slot b ob q n hb hx
  · exact ⟨ob.slots, u.keep b ob q n hb hx⟩
theorem Un.trans (a : Un fs ex H H1 h h1) (b : Un fs ex H1 H2 h1 h2) : Un fs ex H H2 h h2 where
  keep := fun c ob q n hc hx => b.keep c ob (a.keep c ob q n hc hx) (a.free c ob q n hx) hc hx
  slot := fun c ob q n hc hx => by
    obtain ⟨sl, e1⟩ := a.slot c ob q n hc hx
    obtain ⟨sl', e2⟩ := b.slot c _ e1 (a.free c ob q n hx) hc hx
    exact ⟨sl', e2⟩
  free := fun c ob q n hx => by
    obtain ⟨o', e1⟩ := a.there c ob q hx
    exact b.free c o' e1 (a.free c ob q n hx) hx
  there := fun c ob q hx => by
    obtain ⟨o', e1⟩ := a.there c ob q hx
    exact b.there c o' e1 hx
  tups := fun c xs q => b.tups c xs (a.tups c xs q)
  frzs := fun c ob xs q => b.frzs c ob xs (a.frzs c ob xs q)
  tbls := fun c ps q => by
    obtain ⟨m1, e1⟩ := a.tbls c ps q
    obtain ⟨m2, e2⟩ := b.tbls c _ e1
    exact ⟨m1 ++ m2, by rw [e2, Array.append_assoc]⟩
theorem Un.kept (k : ∀ b u, h.get? b = some u → h'.get? b = some u) : Un fs ex H H h h' :=
  ⟨fun b ob q _ _ _ => k b ob q, fun b ob q _ _ _ => ⟨ob.slots, k b ob q⟩, fun _ _ _ n _ => n, fun b ob q _ => ⟨ob, k b ob q⟩, fun _ _ q => q, fun _ _ _ q => q, fun _ ps q => ⟨#[], by rw [q]; simp⟩⟩
theorem Un.refl : Un fs ex H H h h := Un.kept fun _ _ q => q
theorem Un.laid (k : ∀ b u, h.get? b = some u → h'.get? b = some u) (hp : h.objs.size ≤ a) (hn : H a = none) : Un fs ex H (upd H a o) h h' where
  keep := fun b u q _ _ _ => k b u q
  slot := fun b u q _ _ _ => ⟨u.slots, k b u q⟩
  free := fun b u q n _ => by rw [upd_ne (Nat.ne_of_lt (Nat.lt_of_lt_of_le (Heap.lt_size q) hp))]; exact n
  there := fun b u q _ => ⟨u, k b u q⟩
  tups := fun b xs q => by rw [upd_ne (ne_of_none q hn)]; exact q
  frzs := fun b u xs q => by rw [upd_ne (ne_of_none q hn)]; exact q
  tbls := fun b ps q => ⟨#[], by rw [upd_ne (ne_of_none q hn), q]; simp⟩
theorem Un.write (mu : Mut (H x)) (he : e = x ∨ H e = some (.own x)) (k : ∀ b u, b ≠ e → h.get? b = some u → h'.get? b = some u) (heo : ∃ u, h'.get? e = some u) : Un fs ex H (upd H x o) h h' := by
  have hx : ∀ b, H b = none → b ≠ x := fun b n z => by subst z; rw [n] at mu; exact mu
  have hb : ∀ b, H b = none → b ≠ e := fun b n z => by
    subst z
    rcases he with r | r
    · exact hx b n r
    · rw [n] at r; cases r
  have hm : ∀ b u, H b = some u → ¬ Mut (some u) → b ≠ x := fun b u q nm z => by subst z; rw [q] at mu; exact nm mu
  refine ⟨fun b u q n _ _ => k b u (hb b n) q, fun b u q n _ _ => ⟨u.slots, k b u (hb b n) q⟩, fun b u q n _ => by rw [upd_ne (hx b n)]; exact n, fun b u q _ => ?_,
    fun b xs q => by rw [upd_ne (hm b _ q fun z => z)]; exact q, fun b u xs q => by rw [upd_ne (hm b _ q fun z => z)]; exact q, fun b ps q => ⟨#[], by rw [upd_ne (hm b _ q fun z => z), q]; simp⟩⟩
  by_cases hbe : b = e
  · subst hbe; exact heo
  · exact ⟨u, k b u hbe q⟩
theorem Un.mono (u : Un fs ex H H1 h h1) (hs : ∀ b ∈ fs, b ∈ fs') (hx : ∀ b ∈ ex, b ∈ ex') : Un fs' ex' H H1 h h1 :=
  ⟨fun b ob q n hb he => u.keep b ob q n (fun z => hb (hs b z)) fun z => he (hx b z), fun _ _ q n _ he => u.any q n fun z => he (hx _ z), fun b ob q n he => u.free b ob q n fun z => he (hx b z), fun b ob q he => u.there b ob q fun z => he (hx b z), u.tups, u.frzs, u.tbls⟩
end
def trk (h : Heap) (H : Hp) : List Addr := (List.range h.objs.size).filter fun a => (H a).isSome
def hidT (h : Heap) (H : Hp) : Heap := PySem.W.hideAll h (trk h H)
theorem hidT_size (h : Heap) (H : Hp) : (hidT h H).objs.size = h.objs.size := PySem.W.hideAll_size _ _
theorem hidT_get {h : Heap} {H : Hp} {b : Addr} {o : Obj} (e : h.get? b = some o) (n : H b = none) : (hidT h H).get? b = some o :=
  PySem.W.hideAll_get _ e fun hm => by
    have q : (H b).isSome = true := (List.mem_filter.mp hm).2
    rw [n] at q; simp at q
theorem of_hidT {h : Heap} {H : Hp} {b : Addr} {o : Obj} (e : (hidT h H).get? b = some o) : h.get? b = some o ∧ H b = none := by
  have e' : h.get? b = some o := PySem.W.of_hideAll (trk h H) e
  refine ⟨e', ?_⟩
  cases q : H b with
  | none => rfl
  | some x =>
    have hm : b ∈ trk h H := List.mem_filter.mpr ⟨List.mem_range.mpr (Heap.lt_size e'), by simp [q]⟩
    have z : (hidT h H).get? b = none := PySem.W.hideAll_none (trk h H) hm
    rw [z] at e; cases e
def allNews (g h : Heap) (L : Addr) : List (Addr × Obj) := (List.range h.objs.size).filterMap fun a => if a = L ∨ (g.get? a).isSome = true then none else (h.get? a).map fun o => (a, o)
def rest (g h : Heap) (L d : Addr) : List (Addr × Obj) := (allNews g h L).filter fun p => decide (p.1 ≠ d)
end L2
namespace L2
open PySem PySem.Spec PyProof.Rows
structure Mod (K : PySem.W.Frag) (mg : Str → Option Value) (base : Heap) : Prop where
  kin : K.In base
  glob : base.Ns mainGlobals mg
  blt : ∃ mb, base.Ns builtinsNs mb ∧ ∀ x : Str, x ≠ "__name__" → mb x = bootBuiltins x
  nolimit : base.NoLimit
structure Cx where
  prog : Program
  w : World
  K : PySem.W.Frag
  mg : Str → Option Value
  base : Heap
  A : Around
  N : List Str
  s₀ : Shared
  H₀ : Hp
  env : Env
  outer : List Env
  stack : List Env
  ex : List Addr
  fn : Str → Bool
  calm : Bool
  pn : List (Addr × Obj)
  xe : Value → Shared → Prop
def frs (l : List Env) : List Addr := l.filterMap (·.frame)
abbrev Cx.fs (X : Cx) : List Addr := frs X.outer
def Vis (sc : Scope) (x : Str) : Prop := sc.names.lookup x = some .local ∨ sc.names.lookup x = some .cell ∨ sc.names.lookup x = some .free
def Loc (sc : Scope) (x : Str) : Prop := sc.names.lookup x = some .local ∨ sc.names.lookup x = some .cell
def Look (env : Env) (h : Heap) (m : Str → Option Value) (x : Str) (u : Value) : Prop :=
  (env.kindOf x = some .local ∧ m x = some u) ∨ ((env.kindOf x = some .cell ∨ env.kindOf x = some .free) ∧ ∃ c, env.cells.lookup x = some c ∧ h.IsCell c (some u))
structure Cx.Ok (X : Cx) : Prop where
  mod : Mod X.K X.mg X.base
  kind : X.env.scope.kind = .function
  glob : X.env.globals = mainGlobals
  blt : X.env.builtins = builtinsNs
  above : X.s₀.heap.objs.size ≤ X.env.locals
  inj : ∀ x y c, X.env.cells.lookup x = some c → X.env.cells.lookup y = some c → x = y
  has : ∀ x, (X.env.kindOf x = some .cell ∨ X.env.kindOf x = some .free) → ∃ c, X.env.cells.lookup x = some c
  cab : ∀ x c, X.fn x = true → X.env.cells.lookup x = some c → X.s₀.heap.objs.size ≤ c
  hd : X.calm = true → X.A.handled = none
  frames : X.A.frames = some X.stack
  stk : X.stack = X.outer ∨ (X.stack = X.env :: X.outer ∧ X.env.frame = some X.env.locals)
  exf : ∀ b ∈ X.ex, b ≠ X.env.locals ∧ ∀ x c, X.env.cells.lookup x = some c → c ≠ b
  bs : ∀ b o, X.base.get? b = some o → X.s₀.heap.get? b = some o ∧ X.H₀ b = none
  bsz : X.base.objs.size ≤ X.s₀.heap.objs.size
  noex : ∀ b o, X.base.get? b = some o → b ∉ X.ex
  exfs : ∀ b ∈ X.ex, b ∉ X.fs
  funs : X.s₀.heap.FunFrames X.base X.outer
  frf : ∀ b ∈ X.fs, X.H₀ b = none
structure Inv (X : Cx) (pins : List (Addr × Obj)) (σ : List (Option V)) (H : Hp) (s : Shared) : Prop where
  ok : X.Ok
  os : s.os = X.s₀.os
  bare : AllBare s.gens
  base : Un X.fs X.ex X.H₀ H X.s₀.heap s.heap
  loc : ∃ m, s.heap.Ns X.env.locals m ∧ ∀ (i : Nat) (x : Str) (v : V), X.N[i]? = some x → σ[i]? = some (some v) → Vis X.env.scope x → ∃ u, RelV v u ∧ Look X.env s.heap m x u
  cell : ∀ x c, X.env.cells.lookup x = some c → ∃ v, s.heap.IsCell c v
  free : H X.env.locals = none
  freeC : ∀ x c, X.env.cells.lookup x = some c → H c = none
  pin : ∀ p ∈ X.pn ++ pins, s.heap.get? p.1 = some p.2 ∧ H p.1 = none ∧ p.1 ≠ X.env.locals ∧ p.1 ∉ X.fs ∧ ∀ v, p.2.data ≠ .cell v
  hok : HOk X.prog X.w H s.heap
  len : σ.length = X.N.length
section
variable {X : Cx} {pins : List (Addr × Obj)} {σ : List (Option V)} {H H' : Hp} {s : Shared} {h' : Heap}
theorem Cx.Ok.nofr (ok : X.Ok) {b : Addr} {o : Obj} (e : X.base.get? b = some o) : b ∉ X.fs := fun hb => by
  have := (ok.funs.mem hb).1
  rw [e] at this; cases this
theorem Inv.bs (I : Inv X pins σ H s) : ∀ b o, X.base.get? b = some o → s.heap.get? b = some o ∧ H b = none := fun b o e =>
  ⟨I.base.keep b o (I.ok.bs b o e).1 (I.ok.bs b o e).2 (I.ok.nofr e) (I.ok.noex b o e), I.base.free b o (I.ok.bs b o e).1 (I.ok.bs b o e).2 (I.ok.noex b o e)⟩
theorem Inv.bk (I : Inv X pins σ H s) : ∀ b o, X.base.get? b = some o → s.heap.get? b = some o := fun b o e => (I.bs b o e).1
theorem Inv.mod (I : Inv X pins σ H s) : Mod X.K X.mg X.base := I.ok.mod
theorem Inv.kIn (I : Inv X pins σ H s) : X.K.In s.heap := I.ok.mod.kin.keeps I.bk
theorem Inv.nolimit (I : Inv X pins σ H s) : s.heap.NoLimit := I.ok.mod.nolimit.keeps I.bk
theorem Inv.fr (I : Inv X pins σ H s) : ∃ m, Fr X.base X.env.locals s.heap m :=
  let ⟨m, hn, _⟩ := I.loc
  ⟨m, hn, I.bk, Nat.le_trans I.ok.bsz I.ok.above⟩
theorem Inv.lt (I : Inv X pins σ H s) : X.env.locals < s.heap.objs.size := let ⟨_, hn, _⟩ := I.loc; hn.lt
theorem Inv.sz (I : Inv X pins σ H s) : X.s₀.heap.objs.size ≤ s.heap.objs.size := Nat.le_trans I.ok.above (Nat.le_of_lt I.lt)
theorem Inv.nofs (I : Inv X pins σ H s) {a : Addr} (h : s.heap.objs.size ≤ a) : a ∉ X.fs := fun hb => by
  obtain ⟨_, o, ho, _⟩ := I.ok.funs.mem hb
  exact absurd (Nat.lt_of_lt_of_le (Heap.lt_size ho) (Nat.le_trans I.sz h)) (Nat.lt_irrefl _)
theorem Inv.cne (I : Inv X pins σ H s) : ∀ x c, X.env.cells.lookup x = some c → c ≠ X.env.locals := fun x c e z => by
  obtain ⟨v, o, ho, hd⟩ := I.cell x c e
  obtain ⟨m, ⟨o', es, ep, ho', hd', _⟩, _⟩ := I.loc
  rw [z, ho'] at ho; cases ho; rw [hd'] at hd; cases hd
theorem Inv.funs (I : Inv X pins σ H s) : s.heap.FunFrames X.base X.outer := by
  have all : ∀ (l : List Env), (∀ b ∈ frs l, b ∈ X.fs) → X.s₀.heap.FunFrames X.base l → s.heap.FunFrames X.base l := by
    intro l
    induction l with
    | nil => intro _ _; trivial
    | cons env r ih =>
      intro hs hl
      obtain ⟨hk, ⟨L, o, hf, hn, ho, hd⟩, hr⟩ := hl
      have hL : L ∈ X.fs := hs L (by unfold frs; rw [List.filterMap_cons, hf]; exact List.mem_cons_self)
      obtain ⟨sl, e⟩ := I.base.slot L o ho (I.ok.frf L hL) hL fun z => I.ok.exfs L z hL
      exact ⟨hk, ⟨L, _, hf, hn, e, hd⟩, ih (fun b hb => hs b (by unfold frs; rw [List.filterMap_cons, hf]; exact List.mem_cons_of_mem _ hb)) hr⟩
  exact all X.outer (fun _ hb => hb) I.ok.funs
theorem Inv.stack (I : Inv X pins σ H s) : s.heap.FunFrames X.base X.stack := by
  rcases I.ok.stk with e | ⟨e, hf⟩
  · rw [e]; exact I.funs
  · rw [e]
    obtain ⟨m, hn, _⟩ := I.loc
    refine .cons (by rw [I.ok.kind]; decide) hf hn ?_ I.funs
    exact Heap.get?_none_of_le (Nat.le_trans I.ok.bsz I.ok.above)
theorem Inv.stkSub (I : Inv X pins σ H s) : ∀ b ∈ frs X.stack, b ∈ X.env.locals :: X.fs := fun b hb => by
  rcases I.ok.stk with e | ⟨e, hf⟩
  · rw [e] at hb; exact List.mem_cons_of_mem _ hb
  · rw [e] at hb
    unfold frs at hb
    rw [List.filterMap_cons, hf] at hb
    exact hb
theorem Inv.stkFree (I : Inv X pins σ H s) : ∀ b ∈ frs X.stack, H b = none := fun b hb => by
  rcases List.mem_cons.mp (I.stkSub b hb) with e | hb
  · rw [e]; exact I.free
  · obtain ⟨_, o, ho, _⟩ := I.ok.funs.mem hb
    exact I.base.free b o ho (I.ok.frf b hb) fun z => I.ok.exfs b z hb
theorem Inv.step {g' : Array GenState} {t' : Nat} {d' : Drawn} {ch : List Addr} (I : Inv X pins σ H s)
    (hch : ∀ b ∈ ch, (b ∈ X.ex ∨ X.s₀.heap.objs.size ≤ b) ∧ b ≠ X.env.locals ∧ (∀ x c, X.env.cells.lookup x = some c → c ≠ b) ∧ ∀ p ∈ X.pn ++ pins, p.1 ≠ b)
    (keep : ∀ b o, b ≠ X.env.locals → b ∉ X.fs → b ∉ ch → s.heap.get? b = some o → H b = none → h'.get? b = some o)
    (slot : ∀ b o, b ≠ X.env.locals → b ∈ X.fs → b ∉ ch → s.heap.get? b = some o → H b = none → ∃ sl, h'.get? b = some { o with slots := sl }) (free : ∀ b o, b ∉ ch → s.heap.get? b = some o → H b = none → H' b = none)
    (there : ∀ b o, b ∉ ch → s.heap.get? b = some o → ∃ o', h'.get? b = some o')
    (tups : ∀ b xs, H b = some (.tup xs) → H' b = some (.tup xs)) (frzs : ∀ b o u, H b = some (.frz o u) → H' b = some (.frz o u)) (tbls : ∀ b ps, H b = some (.tbl ps) → ∃ more, H' b = some (.tbl (ps ++ more)))
    (ns : ∀ m, s.heap.Ns X.env.locals m → h'.Ns X.env.locals m) (hok : HOk X.prog X.w H' h') (hg : AllBare g') :
    Inv X pins σ H' { s with heap := h', gens := g', drawn := d', toks := t' } := by
  have neL : ∀ b o, X.s₀.heap.get? b = some o → b ≠ X.env.locals := fun b o e => Nat.ne_of_lt (Nat.lt_of_lt_of_le (Heap.lt_size e) I.ok.above)
  have neC : ∀ b o, X.s₀.heap.get? b = some o → b ∉ X.ex → b ∉ ch := fun b o e hx hb => by
    rcases (hch b hb).1 with z | z
    · exact hx z
    · exact absurd (Nat.lt_of_lt_of_le (Heap.lt_size e) z) (Nat.lt_irrefl _)
  have cellK : ∀ x c, X.env.cells.lookup x = some c → ∀ v, s.heap.IsCell c v → h'.IsCell c v := fun x c e v ⟨o, ho, hd⟩ => by
    have nch : c ∉ ch := fun z => (hch c z).2.2.1 x c e rfl
    by_cases hc : c ∈ X.fs
    · obtain ⟨sl, q⟩ := slot c o (I.cne x c e) hc nch ho (I.freeC x c e)
      exact ⟨_, q, hd⟩
    · exact ⟨o, keep c o (I.cne x c e) hc nch ho (I.freeC x c e), hd⟩
  refine ⟨I.ok, I.os, hg, ⟨fun b o e n hb hx => ?_, fun b o e n hb hx => ?_, fun b o e n hx => ?_, fun b o e hx => ?_, fun b xs e => tups b xs (I.base.tups b xs e), fun b o xs e => frzs b o xs (I.base.frzs b o xs e), fun b ps e => ?_⟩, ?_, fun x c e => ?_, ?_, fun x c e => ?_, fun p hp => ?_, hok, I.len⟩
  · exact keep b o (neL b o e) hb (neC b o e hx) (I.base.keep b o e n hb hx) (I.base.free b o e n hx)
  · obtain ⟨sl, e1⟩ := I.base.slot b o e n hb hx
    obtain ⟨sl', e2⟩ := slot b _ (neL b o e) hb (neC b o e hx) e1 (I.base.free b o e n hx)
    exact ⟨sl', e2⟩
  · obtain ⟨o', e1⟩ := I.base.there b o e hx
    exact free b o' (neC b o e hx) e1 (I.base.free b o e n hx)
  · obtain ⟨o', e1⟩ := I.base.there b o e hx
    exact there b o' (neC b o e hx) e1
  · obtain ⟨m1, e1⟩ := I.base.tbls b ps e
    obtain ⟨m2, e2⟩ := tbls b _ e1
    exact ⟨m1 ++ m2, by rw [e2, Array.append_assoc]⟩
  · obtain ⟨m, hn, hl⟩ := I.loc
    refine ⟨m, ns m hn, fun i x v e1 e2 e3 => ?_⟩
    obtain ⟨u, r, l⟩ := hl i x v e1 e2 e3
    refine ⟨u, r, ?_⟩
    rcases l with l | ⟨k, c, e, z⟩
    · exact .inl l
    · exact .inr ⟨k, c, e, cellK x c e _ z⟩
  · obtain ⟨v, z⟩ := I.cell x c e
    exact ⟨v, cellK x c e v z⟩
  · obtain ⟨m, ⟨o, _, _, ho, _⟩, _⟩ := I.loc
    exact free _ o (fun z => (hch _ z).2.1 rfl) ho I.free
  · obtain ⟨v, o, ho, hd⟩ := I.cell x c e
    exact free c o (fun z => (hch c z).2.2.1 x c e rfl) ho (I.freeC x c e)
  · obtain ⟨e, n, ne, nf, d⟩ := I.pin p hp
    have nch : p.1 ∉ ch := fun z => (hch p.1 z).2.2.2 p hp rfl
    exact ⟨keep p.1 p.2 ne nf nch e n, free p.1 p.2 nch e n, ne, nf, d⟩
theorem Inv.un {t' : Nat} (I : Inv X pins σ H s) (u : Un X.fs [] H H' s.heap h') (hok : HOk X.prog X.w H' h') : Inv X pins σ H' { s with heap := h', toks := t' } := by
  obtain ⟨m, ⟨o, es, ep, ho, r⟩, _⟩ := id I.loc
  obtain ⟨sl, hL⟩ := u.any ho I.free (by simp)
  exact I.step (g' := s.gens) (d' := s.drawn) (ch := []) (fun _ z => nomatch z) (fun b o _ hb _ e n => u.keep b o e n hb (by simp)) (fun b o _ hb _ e n => u.slot b o e n hb (by simp)) (fun b o _ e n => u.free b o e n (by simp)) (fun b o _ e => u.there b o e (by simp)) u.tups u.frzs u.tbls (fun m' hm => by
    obtain ⟨o', es', ep', ho', r'⟩ := hm
    rw [ho] at ho'; cases ho'
    exact ⟨_, es', ep', hL, r'⟩) hok I.bare
theorem Inv.call {g' : Array GenState} {t' : Nat} {d' : Drawn} {ch : List Addr} (I : Inv X pins σ H s) (u : Un (frs X.stack) ch H H' s.heap h') (hok : HOk X.prog X.w H' h') (hg : AllBare g')
    (hch : ∀ b ∈ ch, (b ∈ X.ex ∨ X.s₀.heap.objs.size ≤ b) ∧ b ≠ X.env.locals ∧ (∀ x c, X.env.cells.lookup x = some c → c ≠ b) ∧ ∀ p ∈ X.pn ++ pins, p.1 ≠ b) :
    Inv X pins σ H' { s with heap := h', gens := g', drawn := d', toks := t' } := by
  obtain ⟨m, ⟨o, es, ep, ho, r⟩, _⟩ := id I.loc
  obtain ⟨sl, hL⟩ := u.any ho I.free fun z => (hch _ z).2.1 rfl
  exact I.step (ch := ch) hch (fun b o hL hb hc e n => u.keep b o e n (fun z => (List.mem_cons.mp (I.stkSub b z)).elim hL hb) hc) (fun b o _ _ hc e n => u.any e n hc) (fun b o hc e n => u.free b o e n hc) (fun b o hc e => u.there b o e hc) u.tups u.frzs u.tbls (fun m' hm => by
    obtain ⟨o', es', ep', ho', r'⟩ := hm
    rw [ho] at ho'; cases ho'
    exact ⟨_, es', ep', hL, r'⟩) hok hg
theorem Inv.turned {t' : Nat} {it : Addr} (I : Inv X pins σ H s) (k : ∀ b o, b ≠ it → s.heap.get? b = some o → h'.get? b = some o) (hn : H it = none) (hL : it ≠ X.env.locals)
    (h1 : it ∈ X.ex ∨ X.s₀.heap.objs.size ≤ it) (h2 : ∀ x c, X.env.cells.lookup x = some c → c ≠ it) (h3 : ∀ p ∈ X.pn ++ pins, p.1 ≠ it) : Inv X pins σ H { s with heap := h', toks := t' } := by
  have nit : ∀ b u, H b = some u → b ≠ it := fun b u e z => by rw [z, hn] at e; cases e
  refine I.step (g' := s.gens) (d' := s.drawn) (ch := [it]) (fun b hb => ?_) (fun b o _ _ hc e _ => k b o (fun z => hc (by simp [z])) e) (fun b o _ _ hc e _ => ⟨o.slots, k b o (fun z => hc (by simp [z])) e⟩) (fun _ _ _ _ n => n)
    (fun b o hc e => ⟨o, k b o (fun z => hc (by simp [z])) e⟩) (fun _ _ e => e) (fun _ _ _ e => e) (fun b ps e => ⟨#[], by rw [e]; simp⟩) (fun m hm => ?_) (fun b u e => ?_) I.bare
  · have e : b = it := by simpa using hb
    subst e
    exact ⟨h1, hL, h2, h3⟩
  · obtain ⟨o, es, ep, ho, r⟩ := hm
    exact ⟨o, es, ep, k _ o (Ne.symm hL) ho, r⟩
  · refine (I.hok b u e).stay (fun c v hc q => k c v ?_ q) (fun _ q => q) fun _ _ q => q
    rcases hc with z | z
    · rw [z]; exact nit b u e
    · exact nit c _ z
theorem Inv.tok (I : Inv X pins σ H s) (t : Nat) : Inv X pins σ H { s with toks := t } := I.un (h' := s.heap) (t' := t) Un.refl I.hok
theorem Inv.kept {t' : Nat} (I : Inv X pins σ H s) (k : ∀ b u, s.heap.get? b = some u → h'.get? b = some u) : Inv X pins σ H { s with heap := h', toks := t' } := I.un (Un.kept k) (I.hok.kept k)
theorem Inv.laid {a : Addr} {o : HO} {t' : Nat} (I : Inv X pins σ H s) (k : ∀ b u, s.heap.get? b = some u → h'.get? b = some u) (hp : s.heap.objs.size ≤ a) (new : ObjOk X.prog X.w (upd H a o) h' a o) :
    Inv X pins σ (upd H a o) { s with heap := h', toks := t' } := I.un (Un.laid k hp (I.hok.fresh hp)) (I.hok.laid k hp new)
theorem Inv.write {x e : Addr} {o : HO} {t' : Nat} (I : Inv X pins σ H s) (mu : Mut (H x)) (he : e = x ∨ H e = some (.own x)) (k : ∀ b u, b ≠ e → s.heap.get? b = some u → h'.get? b = some u) (heo : ∃ u, h'.get? e = some u)
    (new : ObjOk X.prog X.w (upd H x o) h' x o) : Inv X pins σ (upd H x o) { s with heap := h', toks := t' } := I.un (Un.write mu he k heo) (I.hok.write mu he k heo new)
theorem Inv.pins_of {pins' : List (Addr × Obj)} (I : Inv X pins σ H s) (h : ∀ p ∈ pins', s.heap.get? p.1 = some p.2 ∧ H p.1 = none ∧ p.1 ≠ X.env.locals ∧ p.1 ∉ X.fs ∧ ∀ v, p.2.data ≠ .cell v) : Inv X pins' σ H s :=
  ⟨I.ok, I.os, I.bare, I.base, I.loc, I.cell, I.free, I.freeC, fun p hp => (List.mem_append.mp hp).elim (fun z => I.pin p (List.mem_append_left _ z)) (h p), I.hok, I.len⟩
theorem nodup_ix {N : List Str} (hN : N.Nodup) {i j : Nat} {x : Str} (a : N[i]? = some x) (b : N[j]? = some x) : i = j := by
  obtain ⟨h1, e1⟩ := List.getElem?_eq_some_iff.mp a
  obtain ⟨h2, e2⟩ := List.getElem?_eq_some_iff.mp b
  exact (List.getElem_inj hN).mp (e1.trans e2.symm)
theorem store_ok2 {M : Model} {A : Around} {E : Value → Shared → Prop} {i : Nat} {x : Str} {v : V} {u : Value} {Q : Unit → Shared → Prop} (I : Inv X pins σ H s) (hN : X.N.Nodup) (hi : X.N[i]? = some x) (hx : Loc X.env.scope x) (r : RelV v u)
    (h : ∀ s', Inv X pins (σ.set i (some v)) H s' → (∃ a, Heap.SameBut a s.heap s'.heap ∧ (a = X.env.locals ∨ X.env.cells.lookup x = some a)) → Q () s') (hf : X.fn x = true ∨ X.env.scope.names.lookup x = some .local := by first | exact .inl rfl | exact .inr rfl | assumption) : wpAny M A (storeName X.env x u) Q E s := by
  obtain ⟨m, hn, hl⟩ := id I.loc
  have hcls : (X.env.scope.kind == .class || (X.env.scope.kind == .module && X.env.locals != X.env.globals)) = false := by rw [I.ok.kind]; rfl
  have hiσ : i < σ.length := by rw [I.len]; exact (List.getElem?_eq_some_iff.mp hi).1
  have cne := I.cne
  have tracked : ∀ {a : Addr} {h' : Heap}, (∃ o, s.heap.get? a = some o ∧ H a = none) → Heap.SameBut a s.heap h' → HOk X.prog X.w H h' := fun {a h'} ha hs b ob e => by
    obtain ⟨_, _, hfree⟩ := ha
    refine (I.hok b ob e).stay (fun c w' hc q => (hs.2 c ?_).trans q) (fun _ q => q) fun _ _ q => q
    rintro rfl
    rcases hc with rfl | hc
    · rw [hfree] at e; cases e
    · rw [hfree] at hc; cases hc
  rcases hx with hk | hk
  · refine wpAny_storeName_local hk hn (fun h' hn' hs => ?_) hcls
    obtain ⟨oL, _, _, hoL, _⟩ := id hn
    refine h _ ⟨I.ok, I.os, I.bare, ⟨fun b o e n hb hx => ?_, fun b o e n hb hx => ?_, I.base.free, fun b o e hx => ?_, I.base.tups, I.base.frzs, I.base.tbls⟩, ⟨_, hn', fun j y v' e1 e2 e3 => ?_⟩, fun y c e => ?_, I.free, I.freeC, fun p hp => ?_, tracked ⟨oL, hoL, I.free⟩ hs, by simpa using I.len⟩ ⟨_, hs, .inl rfl⟩
    · exact (hs.2 b (Nat.ne_of_lt (Nat.lt_of_lt_of_le (Heap.lt_size e) I.ok.above))).trans (I.base.keep b o e n hb hx)
    · obtain ⟨sl, e1⟩ := I.base.slot b o e n hb hx
      exact ⟨sl, (hs.2 b (Nat.ne_of_lt (Nat.lt_of_lt_of_le (Heap.lt_size e) I.ok.above))).trans e1⟩
    · obtain ⟨o', e1⟩ := I.base.there b o e hx
      exact ⟨o', (hs.2 b (Nat.ne_of_lt (Nat.lt_of_lt_of_le (Heap.lt_size e) I.ok.above))).trans e1⟩
    · by_cases hj : j = i
      · subst hj
        rw [hi] at e1; cases e1
        rw [List.getElem?_set_self hiσ] at e2
        cases e2
        exact ⟨u, r, .inl ⟨hk, by simp⟩⟩
      · rw [List.getElem?_set_ne (Ne.symm hj)] at e2
        obtain ⟨u', r', q⟩ := hl j y v' e1 e2 e3
        refine ⟨u', r', ?_⟩
        rcases q with ⟨k, e⟩ | ⟨k, c, e, z⟩
        · refine .inl ⟨k, ?_⟩
          have : y ≠ x := fun e => hj (nodup_ix hN e1 (e ▸ hi))
          simp [this, e]
        · exact .inr ⟨k, c, e, z.sameBut hs (cne y c e)⟩
    · obtain ⟨w', z⟩ := I.cell y c e
      exact ⟨w', z.sameBut hs (cne y c e)⟩
    · obtain ⟨e, n, ne, nf, d⟩ := I.pin p hp
      exact ⟨(hs.2 p.1 ne).trans e, n, ne, nf, d⟩
  · have hfn : X.fn x = true := by
      rcases hf with z | z
      · exact z
      · rw [z] at hk; cases hk
    obtain ⟨c, hc⟩ := I.ok.has x (.inl hk)
    obtain ⟨w', z⟩ := I.cell x c hc
    refine wpAny_storeName_cell I.ok.kind hk hc z (fun h' hc' hs => ?_)
    obtain ⟨oc, hoc, hocd⟩ := id z
    refine h { s with heap := h' } ⟨I.ok, I.os, I.bare, ⟨fun b o e n hb hx => ?_, fun b o e n hb hx => ?_, I.base.free, fun b o e hx => ?_, I.base.tups, I.base.frzs, I.base.tbls⟩, ⟨m, hn.sameBut hs (Ne.symm (cne x c hc)), fun j y v' e1 e2 e3 => ?_⟩, fun y c' e => ?_, I.free, I.freeC, fun p hp => ?_, tracked ⟨oc, hoc, I.freeC x c hc⟩ hs, by simpa using I.len⟩ ⟨c, hs, .inr hc⟩
    · exact (hs.2 b (Nat.ne_of_lt (Nat.lt_of_lt_of_le (Heap.lt_size e) (I.ok.cab x c hfn hc)))).trans (I.base.keep b o e n hb hx)
    · obtain ⟨sl, e1⟩ := I.base.slot b o e n hb hx
      exact ⟨sl, (hs.2 b (Nat.ne_of_lt (Nat.lt_of_lt_of_le (Heap.lt_size e) (I.ok.cab x c hfn hc)))).trans e1⟩
    · obtain ⟨o', e1⟩ := I.base.there b o e hx
      exact ⟨o', (hs.2 b (Nat.ne_of_lt (Nat.lt_of_lt_of_le (Heap.lt_size e) (I.ok.cab x c hfn hc)))).trans e1⟩
    · by_cases hj : j = i
      · subst hj
        rw [hi] at e1; cases e1
        rw [List.getElem?_set_self hiσ] at e2
        cases e2
        exact ⟨u, r, .inr ⟨.inl hk, c, hc, hc'⟩⟩
      · rw [List.getElem?_set_ne (Ne.symm hj)] at e2
        obtain ⟨u', r', q⟩ := hl j y v' e1 e2 e3
        refine ⟨u', r', ?_⟩
        rcases q with q | ⟨k, c', e, z'⟩
        · exact .inl q
        · refine .inr ⟨k, c', e, z'.sameBut hs ?_⟩
          rintro rfl
          exact hj (nodup_ix hN e1 (I.ok.inj _ _ _ e hc ▸ hi))
    · by_cases hcc : c' = c
      · subst hcc; exact ⟨_, hc'⟩
      · obtain ⟨w2, z2⟩ := I.cell y c' e
        exact ⟨w2, z2.sameBut hs hcc⟩
    · obtain ⟨e, n, ne, nf, d⟩ := I.pin p hp
      refine ⟨(hs.2 p.1 ?_).trans e, n, ne, nf, d⟩
      intro q
      rw [q, hoc] at e
      have q' : oc = p.2 := Option.some.inj e
      exact d w' (by rw [← q']; exact hocd)
theorem store_ok {M : Model} {A : Around} {E : Value → Shared → Prop} {i : Nat} {x : Str} {v : V} {u : Value} {Q : Unit → Shared → Prop} (I : Inv X pins σ H s) (hN : X.N.Nodup) (hi : X.N[i]? = some x) (hx : Loc X.env.scope x) (r : RelV v u)
    (h : ∀ s', Inv X pins (σ.set i (some v)) H s' → Q () s') (hf : X.fn x = true ∨ X.env.scope.names.lookup x = some .local := by first | exact .inl rfl | exact .inr rfl | assumption) : wpAny M A (storeName X.env x u) Q E s :=
  store_ok2 I hN hi hx r (fun s' I' _ => h s' I') hf
theorem Inv.call' {s' : Shared} {ch : List Addr} (I : Inv X pins σ H s) (ho : s'.os = s.os) (u : Un (frs X.stack) ch H H' s.heap s'.heap) (hok : HOk X.prog X.w H' s'.heap) (hg : AllBare s'.gens)
    (hch : ∀ b ∈ ch, (b ∈ X.ex ∨ X.s₀.heap.objs.size ≤ b) ∧ b ≠ X.env.locals ∧ (∀ x c, X.env.cells.lookup x = some c → c ≠ b) ∧ ∀ p ∈ X.pn ++ pins, p.1 ≠ b) : Inv X pins σ H' s' := by
  obtain ⟨h', g', d', t', o'⟩ := s'
  have e : o' = s.os := ho
  subst e
  exact I.call (g' := g') (t' := t') (d' := d') u hok hg hch
end
abbrev XK := Value → Option Addr → Hp → Prop
abbrev St := List (Option V)
abbrev VK := V → Hp → Prop
abbrev TE := St → Hp → VK → Prop
abbrev TT := St → Hp → (Bool → Hp → Prop) → Prop
abbrev TA := St → Hp → (List V → Hp → Prop) → Prop
structure Ends where
  nx : St → Hp → Prop
  rt : VK
  bk : St → Hp → Prop := fun _ _ => False
  ct : St → Hp → Prop := fun _ _ => False
abbrev TS := Ends → St → Hp → Prop
def EP (X : Cx) (pins : List (Addr × Obj)) (σ : St) (Q : VK) (u : Value) (s' : Shared) : Prop := ∃ v H', Inv X pins σ H' s' ∧ RelV v u ∧ Q v H'
def TP (X : Cx) (pins : List (Addr × Obj)) (σ : St) (Q : Bool → Hp → Prop) (b : Bool) (s' : Shared) : Prop := ∃ H', Inv X pins σ H' s' ∧ Q b H'
def AP (X : Cx) (pins : List (Addr × Obj)) (σ : St) (Q : List V → Hp → Prop) (us : List Value) (s' : Shared) : Prop := ∃ vs H', Inv X pins σ H' s' ∧ Vals vs us ∧ Q vs H'
def SP (X : Cx) (pins : List (Addr × Obj)) (D : Ends) (f : Flow) (s' : Shared) : Prop :=
  match f with
  | .next => ∃ σ' H', Inv X pins σ' H' s' ∧ D.nx σ' H'
  | .brk => ∃ σ' H', Inv X pins σ' H' s' ∧ D.bk σ' H'
  | .cont => ∃ σ' H', Inv X pins σ' H' s' ∧ D.ct σ' H'
  | .ret u => ∃ v σ' H', Inv X pins σ' H' s' ∧ RelV v u ∧ D.rt v H'
def PE (X : Cx) (e : Expr) (t : TE) : Prop :=
  ∀ (pins : List (Addr × Obj)) (s : Shared) (σ : St) (H : Hp) (Q : VK), Inv X pins σ H s → t σ H Q → wpAny (model X.prog X.w) X.A (eval e X.env) (EP X pins σ Q) X.xe s
def PT (X : Cx) (e : Expr) (t : TT) : Prop :=
  ∀ (pins : List (Addr × Obj)) (s : Shared) (σ : St) (H : Hp) (Q : Bool → Hp → Prop), Inv X pins σ H s → t σ H Q → wpAny (model X.prog X.w) X.A (isTrue e X.env (eval e X.env)) (TP X pins σ Q) X.xe s
def PW (X : Cx) (e : Expr) (t : TT) : Prop :=
  ∀ (whole : Sem Value) (pins : List (Addr × Obj)) (s : Shared) (σ : St) (H : Hp) (Q : Bool → Hp → Prop), Inv X pins σ H s → t σ H Q → wpAny (model X.prog X.w) X.A (isTrue e X.env whole) (TP X pins σ Q) X.xe s
theorem PW.pt {X : Cx} {e : Expr} {t : TT} (h : PW X e t) : PT X e t := h _
def PA (X : Cx) (es : List Expr) (t : TA) : Prop :=
  ∀ (pos : Pos) (pins : List (Addr × Obj)) (s : Shared) (σ : St) (H : Hp) (Q : List V → Hp → Prop), Inv X pins σ H s → t σ H Q → wpAny (model X.prog X.w) X.A (spliced (backTo pos (starEach es X.env))) (AP X pins σ Q) X.xe s
def PS (X : Cx) (st : Stmt) (t : TS) : Prop :=
  ∀ (pins : List (Addr × Obj)) (s : Shared) (σ : St) (H : Hp) (D : Ends), Inv X pins σ H s → t D σ H → wpAny (model X.prog X.w) X.A (exec st X.env) (SP X pins D) X.xe s
def PSs (X : Cx) (st : List Stmt) (t : TS) : Prop :=
  ∀ (pins : List (Addr × Obj)) (s : Shared) (σ : St) (H : Hp) (D : Ends), Inv X pins σ H s → t D σ H → wpAny (model X.prog X.w) X.A (execs st X.env) (SP X pins D) X.xe s
theorem thn {α : Type} {t : Sem α} {Q Q' : α → Shared → Prop} {M : Model} {A : Around} {E : Value → Shared → Prop} {s : Shared} (h : wpAny M A t Q E s) (hQ : ∀ a s, Q a s → Q' a s) : wpAny M A t Q' E s := wpAny_mono h hQ fun _ _ x => x
end L2
namespace L2
open PySem PySem.Spec PyProof.Rows
section
variable {X : Cx}
def tVar (i : Nat) : TE := fun σ H Q => ∃ v, σ[i]? = some (some v) ∧ Q v H
def tC (v : V) : TE := fun _ H Q => Q v H
theorem pe_var {i : Nat} {x : Str} {pos : Pos} (hN : X.N[i]? = some x) (hv : Vis X.env.scope x) (hd : (x == ("__debug__" : Str)) = false := by decide) (hcd : (x == ("__classdict__" : Str)) = false := by decide) : PE X (.Name x pos) (tVar i) := by
  intro pins s σ H Q I h
  obtain ⟨v, e, h⟩ := h
  obtain ⟨m, hn, hl⟩ := I.loc
  obtain ⟨u, r, l⟩ := hl i x v hN e hv
  have fin : EP X pins σ Q u s := ⟨v, H, I, r, h⟩
  rcases l with ⟨hk, hm⟩ | ⟨hk, c, hc, hcell⟩
  · exact wpAny_Name (wpAny_loadName_local I.ok.kind hk hn hm fin) hd
  · rcases hk with hk | hk
    · exact wpAny_Name (wpAny_loadName_cell I.ok.kind hk hc hcell fin) hd
    · exact wpAny_Name (wpAny_loadName_free I.ok.kind hk hc hcell fin hcd) hd
theorem pe_int {i j pos} : PE X (.Constant (.int i) j pos) (tC (.int i)) := fun _ _ _ H _ I h => wpAny_Constant_int ⟨.int i, H, I.tok _, ⟨_, rfl⟩, h⟩
theorem pe_bl {b j pos} : PE X (.Constant (.bool b) j pos) (tC (.bl b)) := fun _ _ _ H _ I h => Constant_bool ⟨.bl b, H, I, rfl, h⟩
theorem pe_str {x j pos} : PE X (.Constant (.str x) j pos) (tC (.str x)) := fun _ _ _ H _ I h => Calls.Constant_str ⟨.str x, H, I.tok _, ⟨_, rfl⟩, h⟩
def Gl (X : Cx) (x : Str) : Prop := X.env.kindOf x = some .globalImplicit
theorem ld_glob {E : Value → Shared → Prop} {pins : List (Addr × Obj)} {s : Shared} {σ : St} {H : Hp} {x : Str} {u : Value} {pos : Pos} {Q : Value → Shared → Prop} (I : Inv X pins σ H s) (hg : Gl X x) (hm : X.mg x = some u) (h : Q u s)
    (hd : (x == ("__debug__" : Str)) = false := by decide) : wpAny (model X.prog X.w) X.A (eval (.Name x pos) X.env) Q E s :=
  Calls.Name_function_global I.ok.kind hg (Calls.loadGlobal_global (by rw [I.ok.glob]; exact I.mod.glob.keeps I.bk) hm h) hd
theorem ld_blt {E : Value → Shared → Prop} {pins : List (Addr × Obj)} {s : Shared} {σ : St} {H : Hp} {x : Str} {u : Value} {pos : Pos} {Q : Value → Shared → Prop} (I : Inv X pins σ H s) (hg : Gl X x) (hm : X.mg x = none) (hv : bootBuiltins x = some u) (h : Q u s)
    (hn : x ≠ "__name__" := by decide) (hd : (x == ("__debug__" : Str)) = false := by decide) : wpAny (model X.prog X.w) X.A (eval (.Name x pos) X.env) Q E s := by
  obtain ⟨mb, h1, h2⟩ := I.mod.blt
  exact Calls.Name_function_global I.ok.kind hg (Calls.loadGlobal_builtin (by rw [I.ok.glob]; exact I.mod.glob.keeps I.bk) hm (by rw [I.ok.blt]; exact h1.keeps I.bk) ((h2 x hn).trans hv) h) hd
theorem pe_glob {x : Str} {v : V} {u : Value} {pos : Pos} (hg : Gl X x) (hm : X.mg x = some u) (r : RelV v u) (hd : (x == ("__debug__" : Str)) = false := by decide) : PE X (.Name x pos) (tC v) :=
  fun _ _ _ H _ I h => ld_glob I hg hm ⟨v, H, I, r, h⟩ hd
theorem pe_bltn {x : Str} {v : V} {u : Value} {pos : Pos} (hg : Gl X x) (hm : X.mg x = none) (hv : bootBuiltins x = some u) (r : RelV v u) (hn : x ≠ "__name__" := by decide) (hd : (x == ("__debug__" : Str)) = false := by decide) : PE X (.Name x pos) (tC v) :=
  fun _ _ _ H _ I h => ld_blt I hg hm hv ⟨v, H, I, r, h⟩ hn hd
variable {a b : Expr} {ta tb : TE} {pos : Pos}
theorem nobehind (b : Expr) {op : CmpOp} (h : op ≠ .In) (h2 : op ≠ .NotIn) : behindInMarks op b = false := by
  have e1 : (op == CmpOp.In) = false := by cases op <;> first | rfl | exact absurd rfl h
  have e2 : (op == CmpOp.NotIn) = false := by cases op <;> first | rfl | exact absurd rfl h2
  cases b <;> simp [behindInMarks, e1, e2]
variable {tA tB' : TT} {rest : List Expr}
def tNot (t : TT) : TT := fun σ H Q => t σ H fun c H1 => Q (!c) H1
theorem pw_or1 (ha : PT X a tA) : PW X (.BoolOp .Or [a] pos) tA := by
  intro wh pins s σ H Q I h
  refine isTrue_or (thn (ha pins s σ H Q I h) fun c s1 e => ?_)
  cases c with
  | false => exact isTrue_or_nil e
  | true => exact e
theorem pt_not (ha : PT X a tA) : PT X (.UnaryOp .Not a pos) (tNot tA) := by
  intro pins s σ H Q I h
  exact isTrue_not (ha pins s σ H (fun c H1 => Q (!c) H1) I h)
theorem pe_one {op} {t : TE} (h : PE X a t) : PE X (.BoolOp op [a] pos) t := fun pins s σ H Q I hw => BoolOp_one (h pins s σ H Q I hw)
end
end L2
namespace L2
open PySem PySem.Spec PyProof.Rows
def SqL (K : PySem.W.Frag) (H : Hp) (a : Addr) (xs : List V) : Prop :=
  Rd H a (.lst xs) ∨
    ∃ (o : Obj) (its : Array Value) (n : Nat), K.lookup a = some o ∧ o.cls = .type "list" ∧ o.dict = none ∧ o.data = .seq its n ∧ its.size ≤ sizeLine ∧ Vals xs its.toList
def SqT (K : PySem.W.Frag) (H : Hp) (a : Addr) (xs : List V) : Prop :=
  Rd H a (.tup xs) ∨
    ∃ (o : Obj) (its : Array Value) (n : Nat), K.lookup a = some o ∧ o.cls = .type "tuple" ∧ o.data = .seq its n ∧ its.size ≤ sizeLine ∧ Vals xs its.toList
def absV : Value → Option V
  | .none => some .non
  | .bool b => some (.bl b)
  | .int i _ => some (.int i)
  | .str x _ => some (.str x)
  | .bytes b _ => some (.byt b)
  | .float b _ => some (.flt b)
  | .ref a => some (.ref a)
  | .type n => some (.ty n)
  | _ => none
theorem RelV.abs {x : V} {u : Value} (r : RelV x u) : absV u = some x := by
  cases x with
  | non => cases r; rfl
  | bl _ => cases r; rfl
  | int _ => obtain ⟨t, rfl⟩ := r; rfl
  | str _ => obtain ⟨t, rfl⟩ := r; rfl
  | byt _ => obtain ⟨t, rfl⟩ := r; rfl
  | flt _ => obtain ⟨t, rfl⟩ := r; rfl
  | ref _ => cases r; rfl
  | ty _ => cases r; rfl
theorem RelV.inj {x y : V} {u : Value} (r : RelV x u) (q : RelV y u) : x = y := Option.some.inj (r.abs.symm.trans q.abs)
theorem Vals.inj : ∀ {xs ys : List V} {us : List Value}, Vals xs us → Vals ys us → xs = ys
  | _, _, _, .nil, .nil => rfl
  | _, _, _, .cons r t, .cons r' t' => by rw [r.inj r', Vals.inj t t']
section
variable {X : Cx} {pins : List (Addr × Obj)} {σ : St} {H : Hp} {s : Shared} {a : Addr} {xs ys : List V}
theorem SqL.of {K : PySem.W.Frag} (h : H a = some (.lst xs)) : SqL K H a xs := .inl (.inl h)
theorem SqT.of {K : PySem.W.Frag} (h : H a = some (.tup xs)) : SqT K H a xs := .inl (.inl h)
theorem Inv.list (I : Inv X pins σ H s) (h : SqL X.K H a xs) : ∃ its : List Value, Vals xs its ∧ PlainL s.heap a its.toArray ∧ xs.length ≤ sizeLine := by
  rcases h with h | ⟨o, its, n, hk, hc, hd, hs, hz, r⟩
  · obtain ⟨z, its, n, r, e⟩ := h.ok I.hok
    exact ⟨its, r, ⟨_, n, e, rfl, rfl, rfl⟩, z⟩
  · refine ⟨its.toList, r, ⟨o, n, I.kIn a o hk, hc, hd, by simpa using hs⟩, ?_⟩
    have e := r.length
    simp only [Array.length_toList] at e
    omega
theorem Inv.tuple (I : Inv X pins σ H s) (h : SqT X.K H a xs) : ∃ its : List Value, Vals xs its ∧ IsTup s.heap a its.toArray ∧ xs.length ≤ sizeLine := by
  rcases h with h | ⟨o, its, n, hk, hc, hs, hz, r⟩
  · obtain ⟨z, its, r, p⟩ := h.ok I.hok
    exact ⟨its, r, p, z⟩
  · refine ⟨its.toList, r, ⟨o, I.kIn a o hk, hc, n, by simpa using hs⟩, ?_⟩
    have e := r.length
    simp only [Array.length_toList] at e
    omega
theorem Inv.list_inj (I : Inv X pins σ H s) (h : SqL X.K H a xs) (h' : SqL X.K H a ys) : xs = ys := by
  obtain ⟨its, r, ⟨o, n, e, _, _, d⟩, _⟩ := I.list h
  obtain ⟨its', r', ⟨o', n', e', _, _, d'⟩, _⟩ := I.list h'
  rw [e] at e'; cases e'
  rw [d] at d'
  injection d' with d1 _
  have : its = its' := by simpa using congrArg Array.toList d1
  subst this
  exact r.inj r'
theorem Inv.tuple_inj (I : Inv X pins σ H s) (h : SqT X.K H a xs) (h' : SqT X.K H a ys) : xs = ys := by
  obtain ⟨its, r, ⟨o, e, _, n, d⟩, _⟩ := I.tuple h
  obtain ⟨its', r', ⟨o', e', _, n', d'⟩, _⟩ := I.tuple h'
  rw [e] at e'; cases e'
  rw [d] at d'
  injection d' with d1 _
  have : its = its' := by simpa using congrArg Array.toList d1
  subst this
  exact r.inj r'
end
abbrev Cx.wish (X : Cx) (E : Value → Shared → Prop) : Cx := { X with xe := E }
abbrev Cx.nox (X : Cx) : Cx := X.wish fun _ _ => False
theorem Cx.Ok.wish {X : Cx} (ok : X.Ok) (E : Value → Shared → Prop) : (X.wish E).Ok :=
  ⟨ok.mod, ok.kind, ok.glob, ok.blt, ok.above, ok.inj, ok.has, ok.cab, ok.hd, ok.frames, ok.stk, ok.exf, ok.bs, ok.bsz, ok.noex, ok.exfs, ok.funs, ok.frf⟩
theorem Cx.Ok.unwish {X : Cx} {E : Value → Shared → Prop} (ok : (X.wish E).Ok) : X.Ok :=
  ⟨ok.mod, ok.kind, ok.glob, ok.blt, ok.above, ok.inj, ok.has, ok.cab, ok.hd, ok.frames, ok.stk, ok.exf, ok.bs, ok.bsz, ok.noex, ok.exfs, ok.funs, ok.frf⟩
section
variable {X : Cx} {pins : List (Addr × Obj)} {σ : St} {H : Hp} {s : Shared} {E : Value → Shared → Prop}
theorem Inv.wish (I : Inv X pins σ H s) (E : Value → Shared → Prop) : Inv (X.wish E) pins σ H s := ⟨I.ok.wish E, I.os, I.bare, I.base, I.loc, I.cell, I.free, I.freeC, I.pin, I.hok, I.len⟩
theorem Inv.unwish (I : Inv (X.wish E) pins σ H s) : Inv X pins σ H s := ⟨I.ok.unwish, I.os, I.bare, I.base, I.loc, I.cell, I.free, I.freeC, I.pin, I.hok, I.len⟩
theorem SP.unwish {D : Ends} {f : Flow} {s' : Shared} (h : SP (X.wish E) pins D f s') : SP X pins D f s' := by
  cases f with
  | next => obtain ⟨σ', H', I, q⟩ := h; exact ⟨σ', H', I.unwish, q⟩
  | brk => obtain ⟨σ', H', I, q⟩ := h; exact ⟨σ', H', I.unwish, q⟩
  | cont => obtain ⟨σ', H', I, q⟩ := h; exact ⟨σ', H', I.unwish, q⟩
  | ret u => obtain ⟨v, σ', H', I, r, q⟩ := h; exact ⟨v, σ', H', I.unwish, r, q⟩
theorem PE.nox {e : Expr} {t : TE} (h : PE X.nox e t) : PE X e t := fun pins s σ H Q I hw =>
  wpAny_mono (h pins s σ H Q (I.wish _) hw) (fun _ _ ⟨v, H', I', r, q⟩ => ⟨v, H', I'.unwish, r, q⟩) fun _ _ z => False.elim z
theorem PT.nox {e : Expr} {t : TT} (h : PT X.nox e t) : PT X e t := fun pins s σ H Q I hw =>
  wpAny_mono (h pins s σ H Q (I.wish _) hw) (fun _ _ ⟨H', I', q⟩ => ⟨H', I'.unwish, q⟩) fun _ _ z => False.elim z
theorem PSs.nox {st : List Stmt} {t : TS} (h : PSs X.nox st t) : PSs X st t := fun pins s σ H D I hw =>
  wpAny_mono (h pins s σ H D (I.wish _) hw) (fun _ _ q => q.unwish) fun _ _ z => False.elim z
end
section
variable {X : Cx} {st : Stmt} {rest : List Stmt} {t u : TS} {e : Expr} {te : TE} {pos : Pos}
def tNext : TS := fun D σ H => D.nx σ H
def tSeq (t u : TS) : TS := fun D σ H => t { D with nx := u D } σ H
theorem pss_nil : PSs X [] tNext := fun _ _ σ H _ I h => wpAny_execs_nil ⟨σ, H, I, h⟩
theorem pss_cons (h1 : PS X st t) (h2 : PSs X rest u) : PSs X (st :: rest) (tSeq t u) := by
  intro pins s σ H D I h
  refine wpAny_execs_cons (thn (h1 pins s σ H { D with nx := u D } I h) fun f s1 q => ?_)
  cases f with
  | next =>
    obtain ⟨σ', H', I', q⟩ := q
    exact h2 pins s1 σ' H' D I' q
  | ret v => exact q
  | brk => exact q
  | cont => exact q
theorem pss_one (h1 : PS X st t) : PSs X [st] t := by
  intro pins s σ H D I h
  refine wpAny_execs_cons (thn (h1 pins s σ H D I h) fun f s1 q => ?_)
  cases f with
  | next => exact wpAny_execs_nil q
  | ret v => exact q
  | brk => exact q
  | cont => exact q
def tRet (te : TE) : TS := fun D σ H => te σ H D.rt
theorem ps_ret (he : PE X e te) : PS X (.Return (some e) pos) (tRet te) := by
  intro pins s σ H D I h
  exact wpAny_Return_some (thn (he pins s σ H _ I h) fun v s1 ⟨x, H1, I1, r1, q1⟩ => ⟨x, σ, H1, I1, r1, q1⟩)
end
abbrev TG := V → St → Hp → (St → Hp → Prop) → Prop
abbrev TGs := List V → St → Hp → (St → Hp → Prop) → Prop
def PG (X : Cx) (target : Expr) (t : TG) : Prop :=
  ∀ (pins : List (Addr × Obj)) (s : Shared) (σ : St) (H : Hp) (v : V) (u : Value) (Q : St → Hp → Prop), Inv X pins σ H s → RelV v u → t v σ H Q →
    wpAny (model X.prog X.w) X.A (assign target X.env u) (fun _ s' => ∃ σ' H', Inv X pins σ' H' s' ∧ Q σ' H') X.xe s
def PGs (X : Cx) (ts : List Expr) (t : TGs) : Prop :=
  ∀ (pins : List (Addr × Obj)) (s : Shared) (σ : St) (H : Hp) (vs : List V) (us : List Value) (Q : St → Hp → Prop), Inv X pins σ H s → Vals vs us → t vs σ H Q →
    wpAny (model X.prog X.w) X.A (assignInOrder ((assignEach ts X.env).map (·.2)) us) (fun _ s' => ∃ σ' H', Inv X pins σ' H' s' ∧ Q σ' H') X.xe s
abbrev TSet := V → V → V → Hp → (Hp → Prop) → Prop
def PSet (X : Cx) (t : TSet) : Prop :=
  ∀ (pins : List (Addr × Obj)) (s : Shared) (σ : St) (H : Hp) (o i v : V) (ov iv u : Value) (Q : Hp → Prop), Inv X pins σ H s → RelV o ov → RelV i iv → RelV v u → t o i v H Q →
    wpAny (model X.prog X.w) X.A (setItem ov iv u) (fun _ s' => ∃ H', Inv X pins σ H' s' ∧ Q H') X.xe s
section
variable {X : Cx} {pos : Pos}
def gName (i : Nat) : TG := fun v σ H Q => Q (σ.set i (some v)) H
theorem pg_name {i : Nat} {x : Str} (hN : X.N.Nodup) (hi : X.N[i]? = some x) (hx : Loc X.env.scope x) (hf : X.fn x = true ∨ X.env.scope.names.lookup x = some .local := by first | exact .inl rfl | exact .inr rfl | assumption) : PG X (.Name x pos) (gName i) := by
  intro pins s σ H v u Q I r h
  exact wpAny_assign_Name (store_ok I hN hi hx r (fun s' I' => ⟨_, H, I', h⟩) hf)
def gNil : TGs := fun vs σ H Q => vs = [] ∧ Q σ H
def gCons (t : TG) (u : TGs) : TGs := fun vs σ H Q => ∃ v r, vs = v :: r ∧ t v σ H fun σ' H' => u r σ' H' Q
theorem pgs_nil : PGs X [] gNil := by
  intro pins s σ H vs us Q I r h
  obtain ⟨e, h⟩ := h
  subst e
  cases r
  exact assignInOrder_nil ⟨σ, H, I, h⟩
theorem pgs_cons {e : Expr} {es : List Expr} {t : TG} {u : TGs} (h1 : PG X e t) (h2 : PGs X es u)
    (hs : (assignEach (e :: es) X.env).map (·.2) = assign e X.env :: (assignEach es X.env).map (·.2) := by rfl) : PGs X (e :: es) (gCons t u) := by
  intro pins s σ H vs us Q I r h
  obtain ⟨v, vr, e1, h⟩ := h
  subst e1
  cases r with
  | cons r rr =>
    rw [hs]
    refine assignInOrder_cons (thn (h1 pins s σ H _ _ _ I r h) fun _ s1 ⟨σ1, H1, I1, q1⟩ => ?_)
    exact h2 pins s1 σ1 H1 _ _ Q I1 rr q1
def gTup (K : PySem.W.Frag) (n : Nat) (t : TGs) : TG := fun v σ H Q => ∃ a xs, v = .ref a ∧ SqT K H a xs ∧ xs.length = n ∧ t xs σ H Q
theorem pg_tup {es : List Expr} {k : Nat} {t : TGs} {n : Nat} (hc : X.calm = true) (h : PGs X es t)
    (hn : (assignEach es X.env).length = n := by rfl) (hst : (assignEach es X.env).findIdx? (·.1) = none := by rfl) : PG X (.Tuple es k pos) (gTup X.K n t) := by
  intro pins s σ H v u Q I r hw
  obtain ⟨a, xs, e1, hq, hl, hw⟩ := hw
  subst e1
  cases r
  obtain ⟨its, rv, ht, hz⟩ := I.tuple hq
  refine assign_Tuple_tuple (I.ok.hd hc) ht (by simp [hn, ← hl, rv.length]) hst fun h' hx => ?_
  have I1 : Inv X pins σ H { s with heap := h' } := I.kept (t' := s.toks) fun b o e => hx b o (Nat.ne_of_lt (Heap.lt_size e)) e
  exact h pins _ σ H xs _ Q I1 (by simpa using rv) hw
def gSub (to ti : TE) (t : TSet) : TG := fun v σ H Q => to σ H fun o H1 => ti σ H1 fun i H2 => t o i v H2 fun H3 => Q σ H3
theorem pg_sub {o i : Expr} {to ti : TE} {t : TSet} (ho : PE X o to) (hi : PE X i ti) (hs : PSet X t)
    (ha : ∀ v, assign (.Subscript o i pos) X.env v = (do
      let ov ← holding [v] (eval o X.env)
      let iv ← holding [v, ov] (eval i X.env)
      standAt pos
      holding [v, ov, iv] (setItem ov iv v)
      release [v, ov, iv] []) := by intro _; rfl) : PG X (.Subscript o i pos) (gSub to ti t) := by
  intro pins s σ H v u Q I r h
  rw [ha]
  refine wpAny_bind (wpAny_holding (thn (ho pins s σ H _ I h) fun ov s1 ⟨x, H1, I1, r1, q1⟩ => ?_))
  refine wpAny_bind (wpAny_holding (thn (hi pins s1 σ H1 _ I1 q1) fun iv s2 ⟨y, H2, I2, r2, q2⟩ => ?_))
  refine wpAny_bind (wpAny_standAt (wpAny_bind (wpAny_holding (thn (hs pins s2 σ H2 x y v ov iv u _ I2 r1 r2 r q2) fun _ s3 ⟨H3, I3, q3⟩ => ?_))))
  exact wpAny_release ⟨σ, H3, I3, q3⟩
def tAsg (te : TE) (g : TG) : TS := fun D σ H => te σ H fun x H1 => g x σ H1 D.nx
theorem ps_asg {tg e : Expr} {te : TE} {g : TG} (he : PE X e te) (hg : PG X tg g) (hs : swapsWithSole [tg] e pos.line X.env = pure false := by rfl) (hw : swappedStores [tg] e X.env = pure none := by rfl)
    (h1 : (assignEach [tg] X.env).map (·.2) = [assign tg X.env] := by rfl) : PS X (.Assign [tg] e pos) (tAsg te g) := by
  intro pins s σ H D I h
  refine wpAny_Assign_stores (thn (he pins s σ H _ I h) fun v s1 ⟨x, H1, I1, r1, q1⟩ => ?_) hs hw
  rw [h1]
  exact thn (hg pins s1 σ H1 x v _ I1 r1 q1) fun _ s2 q => q
theorem ps_set {i : Nat} {x : Str} {e : Expr} {te : TE} {pos' : Pos} (hN : X.N.Nodup) (hi : X.N[i]? = some x) (hx : Loc X.env.scope x) (he : PE X e te) (hs : swapsWith e (some (.Name x pos')) pos.line X.env = pure false := by rfl) (hf : X.fn x = true ∨ X.env.scope.names.lookup x = some .local := by first | exact .inl rfl | exact .inr rfl | assumption) :
    PS X (.Assign [.Name x pos'] e pos) (tAsg te (gName i)) := by
  intro pins s σ H D I h
  refine wpAny_Assign_Name (thn (he pins s σ H _ I h) fun v s1 ⟨y, H1, I1, r1, q1⟩ => ?_) hs
  exact store_ok I1 hN hi hx r1 (fun s2 I2 => ⟨_, H1, I2, q1⟩) hf
end
section
variable {X : Cx} {pos : Pos}
end
structure It where
  go : Nat → Hp → Prop
  yld : Nat → Hp → V → Hp → Prop
  stop : Nat → Hp → Prop
def FpOk (X : Cx) (pins : List (Addr × Obj)) (H : Hp) (b : Addr) : Prop :=
  H b = none ∧ b ≠ X.env.locals ∧ b ∉ X.fs ∧ (b ∈ X.ex ∨ X.s₀.heap.objs.size ≤ b) ∧ (∀ x c, X.env.cells.lookup x = some c → c ≠ b) ∧ ∀ p ∈ X.pn ++ pins, p.1 ≠ b
theorem Inv.fpOk {X : Cx} {pins : List (Addr × Obj)} {σ : St} {H H' : Hp} {s : Shared} {b : Addr} (I : Inv X pins σ H s) (hb : s.heap.objs.size ≤ b) (hn : H' b = none) : FpOk X pins H' b := by
  refine ⟨hn, Nat.ne_of_gt (Nat.lt_of_lt_of_le I.lt hb), I.nofs hb, .inr (Nat.le_trans I.sz hb), fun x c e z => ?_, fun p hp z => ?_⟩
  · obtain ⟨v, q⟩ := I.cell x c e
    exact absurd (Nat.lt_of_lt_of_le q.lt (by rw [z]; exact hb)) (Nat.lt_irrefl _)
  · exact absurd (Nat.lt_of_lt_of_le (Heap.lt_size (I.pin p hp).1) (by rw [z]; exact hb)) (Nat.lt_irrefl _)
structure Turn (P : Program) (w : World) (K : PySem.W.Frag) (tg : Expr) (J : It) (fp : List Addr) (it : Addr) (tn : Nat → Heap → Prop) : Prop where
  mem : it ∈ fp
  obj : ∀ i h, tn i h → ∀ b ∈ fp, ∃ o, h.get? b = some o ∧ ∀ v, o.data ≠ .cell v
  keep : ∀ i h h', tn i h → (∀ b ∈ fp, ∀ o, h.get? b = some o → h'.get? b = some o) → tn i h'
  item : ∀ (X : Cx), X.prog = P → X.w = w → X.K = K → X.calm = true → ∀ (i : Nat) (pins : List (Addr × Obj)) (s : Shared) (σ : St) (H : Hp) (E : Value → Shared → Prop), Inv X pins σ H s → (∀ b ∈ fp, FpOk X pins H b) → tn i s.heap → J.go i H →
    wpAny (model P w) X.A (pyNext (.ref it)) (fun r s1 => ∃ u, r = some u ∧
      wpAny (model P w) X.A (letOwnedTupleGo tg (.ref it) u) (fun _ s2 => ∃ x H', Inv X pins σ H' s2 ∧ RelV x u ∧ J.yld i H x H' ∧ tn (i + 1) s2.heap ∧ ∀ b ∈ fp, H' b = none) E s1) E s
  done : ∀ (X : Cx), X.prog = P → X.w = w → X.K = K → X.calm = true → ∀ (i : Nat) (pins : List (Addr × Obj)) (s : Shared) (σ : St) (H : Hp) (E : Value → Shared → Prop), Inv X pins σ H s → (∀ b ∈ fp, FpOk X pins H b) → tn i s.heap → J.stop i H →
    wpAny (model P w) X.A (pyNext (.ref it)) (fun r s1 => r = none ∧ Inv X pins σ H s1) E s
  self : ∀ (A : Around) (i : Nat) (s : Shared) (Q : Value → Shared → Prop) (E : Value → Shared → Prop), tn i s.heap → Q (.ref it) s → wpAny (model P w) A (pyIter (.ref it)) Q E s
abbrev TI := St → Hp → (It → Hp → Prop) → Prop
def PIE (X : Cx) (pins : List (Addr × Obj)) (σ : St) (tg : Expr) (R : It → Hp → Prop) (itv : Value) (s2 : Shared) : Prop :=
  ∃ (it : Addr) (fp : List Addr) (tn : Nat → Heap → Prop) (J : It) (H' : Hp), itv = .ref it ∧ Inv X pins σ H' s2 ∧ Turn X.prog X.w X.K tg J fp it tn ∧ tn 0 s2.heap ∧ (∀ b ∈ fp, FpOk X pins H' b) ∧ R J H'
def PI (X : Cx) (tg iter : Expr) (wi : TI) : Prop :=
  ∀ (pins : List (Addr × Obj)) (s : Shared) (σ : St) (H : Hp) (R : It → Hp → Prop), Inv X pins σ H s → wi σ H R →
    wpAny (model X.prog X.w) X.A (eval iter X.env) (fun v s1 => wpAny (model X.prog X.w) X.A (pyIter v) (PIE X pins σ tg R) X.xe s1) X.xe s
theorem go_of {M : Model} {A : Around} {E : Value → Shared → Prop} {s : Shared} {tg : Expr} {it : Addr} {u : Value} {o : Obj} {n : String} {vs : Array Value} {Q : Unit → Shared → Prop} (ho : s.heap.get? it = some o) (hc : o.cls = .type n) (hd : o.data = .fields vs)
    (hn : ["enumerate", "zip", "dict_itemiterator", "dict_reverseitemiterator", "odict_iterator", "itertools.zip_longest", "itertools.pairwise"].contains n = false) (hQ : Q () s) : wpAny M A (letOwnedTupleGo tg (.ref it) u) Q E s := by
  unfold letOwnedTupleGo
  cases tg <;> first
    | exact wpAny_pure hQ
    | (cases u <;> first
        | exact wpAny_pure hQ
        | (refine wpAny_bind (wpAny_load ho ?_)
           rw [hc, hd]
           show wpAny M A (if (["enumerate", "zip", "dict_itemiterator", "dict_reverseitemiterator", "odict_iterator", "itertools.zip_longest", "itertools.pairwise"].contains n && vs[0]? == some (rawInt _)) = true then _ else _) Q E s
           rw [if_neg (by intro h; rw [hn, Bool.false_and] at h; cases h)]
           exact wpAny_pure hQ))
def Itl (K : PySem.W.Frag) (a : Addr) : It :=
  ⟨fun i H => ∃ xs x, SqL K H a xs ∧ xs[i]? = some x, fun i H x H' => H' = H ∧ ∀ xs, SqL K H a xs → xs[i]? = some x, fun i H => ∃ xs, SqL K H a xs ∧ xs.length ≤ i⟩
def Itt (K : PySem.W.Frag) (a : Addr) : It :=
  ⟨fun i H => ∃ xs x, SqT K H a xs ∧ xs[i]? = some x, fun i H x H' => H' = H ∧ ∀ xs, SqT K H a xs → xs[i]? = some x, fun i H => ∃ xs, SqT K H a xs ∧ xs.length ≤ i⟩
def Itr (lo : Int) (n : Nat) : It := ⟨fun i _ => i < n, fun i H x H' => H' = H ∧ x = .int (lo + i), fun i _ => n ≤ i⟩
theorem turn_list {P : Program} {w : World} {K : PySem.W.Frag} {tg : Expr} (a it : Addr) : Turn P w K tg (Itl K a) [it] it (fun i h => h.IsListIter it a i) where
  mem := by simp
  obj := fun i h st b hb => by
    have e : b = it := by simpa using hb
    subst e
    obtain ⟨o, e, c, d⟩ := st
    exact ⟨o, e, fun v z => by rw [d] at z; cases z⟩
  keep := fun i h h' st k => st.at fun o e => k it (by simp) o e
  item := by
    intro X hP hw hK hc i pins s σ H E I hf st hg
    subst hP hw hK
    obtain ⟨xs, x, hq, hx⟩ := hg
    obtain ⟨its, rv, p, hz⟩ := I.list hq
    obtain ⟨u, hu, ru⟩ := rv.get hx
    obtain ⟨f0, f1, f2, f3, f4, f5⟩ := hf it (by simp)
    refine wpAny_pyNext_list_item st p.isList (x := u) (by simpa using hu) fun h' st' sb => ?_
    have I1 : Inv X pins σ H { s with heap := h' } := I.turned (t' := s.toks) (fun b o hb e => (sb.2 b hb).trans e) f0 f1 f3 f4 f5
    obtain ⟨o, e, c, d⟩ := id st'
    exact ⟨u, rfl, go_of (s := { s with heap := h' }) e c d (by decide) ⟨x, H, I1, ru, ⟨rfl, fun ys hy => by rw [I.list_inj hy hq]; exact hx⟩, st', fun b hb => (hf b hb).1⟩⟩
  done := by
    intro X hP hw hK hc i pins s σ H E I hf st hg
    subst hP hw hK
    obtain ⟨xs, hq, hx⟩ := hg
    obtain ⟨its, rv, p, hz⟩ := I.list hq
    obtain ⟨f0, f1, f2, f3, f4, f5⟩ := hf it (by simp)
    have hl := rv.length
    exact wpAny_pyNext_list_end (I.ok.hd hc) st p.isList (by simp; omega) fun h' eb => ⟨rfl, I.turned (t' := s.toks) (fun b o hb e => eb b o hb e) f0 f1 f3 f4 f5⟩
  self := fun _ _ _ _ _ st h => wpAny_pyIter_listiter st h
theorem turn_tuple {P : Program} {w : World} {K : PySem.W.Frag} {tg : Expr} (a it : Addr) : Turn P w K tg (Itt K a) [it] it (fun i h => h.IsTupleIter it a i) where
  mem := by simp
  obj := fun i h st b hb => by
    have e : b = it := by simpa using hb
    subst e
    obtain ⟨o, e, c, d⟩ := st
    exact ⟨o, e, fun v z => by rw [d] at z; cases z⟩
  keep := fun i h h' st k => st.at fun o e => k it (by simp) o e
  item := by
    intro X hP hw hK hc i pins s σ H E I hf st hg
    subst hP hw hK
    obtain ⟨xs, x, hq, hx⟩ := hg
    obtain ⟨its, rv, p, hz⟩ := I.tuple hq
    obtain ⟨u, hu, ru⟩ := rv.get hx
    obtain ⟨f0, f1, f2, f3, f4, f5⟩ := hf it (by simp)
    refine wpAny_pyNext_tuple_item st (show s.heap.IsTuple a its.toArray from p) (x := u) (by simpa using hu) fun h' st' sb => ?_
    have I1 : Inv X pins σ H { s with heap := h' } := I.turned (t' := s.toks) (fun b o hb e => (sb.2 b hb).trans e) f0 f1 f3 f4 f5
    obtain ⟨o, e, c, d⟩ := id st'
    exact ⟨u, rfl, go_of (s := { s with heap := h' }) e c d (by decide) ⟨x, H, I1, ru, ⟨rfl, fun ys hy => by rw [I.tuple_inj hy hq]; exact hx⟩, st', fun b hb => (hf b hb).1⟩⟩
  done := by
    intro X hP hw hK hc i pins s σ H E I hf st hg
    subst hP hw hK
    obtain ⟨xs, hq, hx⟩ := hg
    obtain ⟨its, rv, p, hz⟩ := I.tuple hq
    obtain ⟨f0, f1, f2, f3, f4, f5⟩ := hf it (by simp)
    have hl := rv.length
    exact wpAny_pyNext_tuple_end (I.ok.hd hc) st (show s.heap.IsTuple a its.toArray from p) (by simp; omega) fun h' eb => ⟨rfl, I.turned (t' := s.toks) (fun b o hb e => eb b o hb e) f0 f1 f3 f4 f5⟩
  self := fun _ _ _ _ _ st h => wpAny_pyIter_tupleiter st h
theorem turn_range {P : Program} {w : World} {K : PySem.W.Frag} {tg : Expr} (it : Addr) (lo : Int) (n : Nat) : Turn P w K tg (Itr lo n) [it] it (fun i h => IsRangeIter h it (lo + (i : Nat) * 1) ((n : Int) - (i : Nat)) 1) where
  mem := by simp
  obj := fun i h st b hb => by
    have e : b = it := by simpa using hb
    subst e
    exact ⟨_, st, fun v z => by
      have z' : Data.fields _ = Data.cell v := z
      cases z'⟩
  keep := fun i h h' st k => k it (by simp) _ st
  item := by
    intro X hP hw hK hc i pins s σ H E I hf st hg
    subst hP hw hK
    obtain ⟨f0, f1, f2, f3, f4, f5⟩ := hf it (by simp)
    have W := Walks.range (prog := X.prog) (w := X.w) (I.ok.hd hc) it lo 1 n
    refine W.item i s _ _ hg st fun v h' tk hv st' kk => ?_
    obtain ⟨t, rfl⟩ := hv
    have I1 : Inv X pins σ H { s with heap := h', toks := tk } := I.turned (fun b o hb e => kk b o (by simpa using hb) e) f0 f1 f3 f4 f5
    refine ⟨_, rfl, go_of (s := { s with heap := h', toks := tk }) (n := "range_iterator") st' rfl rfl (by decide) ⟨.int (lo + i), H, I1, ⟨t, ?_⟩, ⟨rfl, rfl⟩, st', fun b hb => (hf b hb).1⟩⟩
    rw [Int.mul_one]
  done := by
    intro X hP hw hK hc i pins s σ H E I hf st hg
    subst hP hw hK
    obtain ⟨f0, f1, f2, f3, f4, f5⟩ := hf it (by simp)
    exact wpAny_pyNext_range_end (I.ok.hd hc) st (by have : n ≤ i := hg; omega) fun h' eb => ⟨rfl, I.turned (t' := s.toks) (fun b o hb e => eb b o hb e) f0 f1 f3 f4 f5⟩
  self := fun _ _ _ _ _ st h => wpAny_pyIter_rangeiter st h
end L2
namespace L2
open PySem PySem.Spec PyProof.Rows
section
variable {X : Cx} {tg : Expr}
theorem range_it {pins : List (Addr × Obj)} {σ : St} {H : Hp} {s : Shared} {R : It → Hp → Prop} {E : Value → Shared → Prop} {lo hi : Int} {t u v : Tok} {tk : Nat} (I : Inv X pins σ H s) (h1 : -(2 ^ 62) ≤ lo) (h2 : lo < 2 ^ 62) (h3 : -(2 ^ 62) ≤ hi) (h4 : hi < 2 ^ 62)
    (q : R (Itr lo (hi - lo).toNat) H) : wpAny (model X.prog X.w) X.A (pyIter (.ref s.heap.objs.size)) (PIE X pins σ tg R) E { s with heap := s.heap.push { cls := .type "range", data := .fields #[.int lo t, .int hi u, .int 1 v] }, toks := tk } := by
  refine wpAny_pyIter_range (IsRange.new ..) (small_one h1 h2 h3 h4) ?_
  have I1 : Inv X pins σ H { s with heap := s.heap.push { cls := .type "range", data := .fields #[.int lo t, .int hi u, .int 1 v] }, toks := tk } := I.kept fun b o e => Heap.get?_push_of_some _ e
  refine ⟨(s.heap.push { cls := .type "range", data := .fields #[.int lo t, .int hi u, .int 1 v] }).objs.size, [(s.heap.push { cls := .type "range", data := .fields #[.int lo t, .int hi u, .int 1 v] }).objs.size], _, _, H, rfl,
    I1.kept (t' := tk) fun b o e => Heap.get?_push_of_some _ e, turn_range _ lo (hi - lo).toNat, ?_, fun b hb => ?_, q⟩
  · have e1 : lo + ((0 : Nat) : Int) * 1 = lo := by simp
    have e2 : (((hi - lo).toNat : Nat) : Int) - ((0 : Nat) : Int) = Builtin.Range.rangeSize lo hi 1 := by rw [rangeSize_one]; split <;> omega
    show IsRangeIter _ _ (lo + ((0 : Nat) : Int) * 1) ((((hi - lo).toNat : Nat) : Int) - ((0 : Nat) : Int)) 1
    rw [e1, e2]
    exact Heap.get?_push_size _ rfl
  · have e : b = (s.heap.push { cls := .type "range", data := .fields #[.int lo t, .int hi u, .int 1 v] }).objs.size := by simpa using hb
    subst e
    exact I1.fpOk (Nat.le_refl _) (I1.hok.fresh (Nat.le_refl _))
def tFor (wi : TI) (g : TG) (tb : TS) : TS := fun D σ H => wi σ H fun J H1 => ∃ W : Nat → Nat → St → Hp → Prop, (∃ m, W 0 m σ H1) ∧ ∀ i m σ H, W i m σ H →
  (J.stop i H ∧ D.nx σ H) ∨ (J.go i H ∧ ∃ N : St → Hp → Prop, (∀ σ' H', N σ' H' → ∃ m', m' < m ∧ W (i + 1) m' σ' H') ∧ ∀ x H', J.yld i H x H' → g x σ H' fun σ2 H2 => tb { D with nx := N, ct := N, bk := D.nx } σ2 H2)
def pinsAt (fp : List Addr) (h : Heap) : List (Addr × Obj) := fp.filterMap fun b => (h.get? b).map fun o => (b, o)
theorem mem_pinsAt {fp : List Addr} {h : Heap} {b : Addr} {o : Obj} (hb : b ∈ fp) (e : h.get? b = some o) : (b, o) ∈ pinsAt fp h := List.mem_filterMap.mpr ⟨b, hb, by rw [e]; rfl⟩
theorem of_pinsAt {fp : List Addr} {h : Heap} {p : Addr × Obj} (hp : p ∈ pinsAt fp h) : p.1 ∈ fp ∧ h.get? p.1 = some p.2 := by
  obtain ⟨b, hb, e⟩ := List.mem_filterMap.mp hp
  cases q : h.get? b with
  | none => rw [q] at e; cases e
  | some o =>
    rw [q] at e
    have e' : (b, o) = p := Option.some.inj e
    subst e'
    exact ⟨hb, q⟩
theorem Inv.pinned {pins : List (Addr × Obj)} {σ : St} {H : Hp} {s : Shared} {fp : List Addr} (I : Inv X pins σ H s) (hf : ∀ b ∈ fp, FpOk X pins H b) (ho : ∀ b ∈ fp, ∃ o, s.heap.get? b = some o ∧ ∀ v, o.data ≠ .cell v) : Inv X (pins ++ pinsAt fp s.heap) σ H s :=
  I.pins_of fun p hp => (List.mem_append.mp hp).elim (fun z => I.pin p (List.mem_append_right _ z)) fun z => by
    obtain ⟨hb, e⟩ := of_pinsAt z
    obtain ⟨f0, f1, f2, _⟩ := hf p.1 hb
    obtain ⟨o, e', d⟩ := ho p.1 hb
    rw [e] at e'; cases e'
    exact ⟨e, f0, f1, f2, d⟩
theorem Inv.unpinned {pins pl : List (Addr × Obj)} {σ : St} {H : Hp} {s : Shared} (I : Inv X (pins ++ pl) σ H s) : Inv X pins σ H s := I.pins_of fun p hp => I.pin p (List.mem_append_right _ (List.mem_append_left _ hp))
theorem ps_for {iter : Expr} {body : List Stmt} {wi : TI} {g : TG} {tb : TS} {pos : Pos} (hp : PassesOwn (model X.prog X.w) X.A X.env X.xe) (hc : X.calm = true) (hi : PI X tg iter wi) (hg : PG X tg g) (hb : PSs X body tb)
    (hs : ∀ x, foldedSetIterable iter X.env x = pure x := by intro _; rfl) : PS X (.For tg iter body [] pos) (tFor wi g tb) := by
  intro pins s σ H D I h
  refine wpAny_For (thn (hi pins s σ H _ I h) fun v s1 h1 => thn h1 fun itv s2 h2 => ?_) hs
  obtain ⟨it, fp, tn, J, H2, e, I2, T, st2, f2, W, ⟨m0, w0⟩, turn⟩ := h2
  subst e
  have stat : ∀ {H' : Hp}, (∀ b ∈ fp, H' b = none) → ∀ b ∈ fp, FpOk X pins H' b := fun hn b hb => ⟨hn b hb, (f2 b hb).2⟩
  refine codeAny_forLoop_any (fun n s' => ∃ i σ' H', Inv X pins σ' H' s' ∧ tn i s'.heap ∧ (∀ b ∈ fp, H' b = none) ∧ W i n σ' H') ?_ m0 ⟨0, σ, H2, I2, st2, fun b hb => (f2 b hb).1, w0⟩
  rintro n s3 ⟨i, σ3, H3, I3, st3, fr3, w3⟩
  rcases turn i n σ3 H3 w3 with ⟨stop, qn⟩ | ⟨go, N, hN, step⟩
  · refine wpAny_passesOwn hp (thn (T.done X rfl rfl rfl hc i pins s3 σ3 H3 X.xe I3 (stat fr3) st3 stop) fun r s4 ⟨hr, I4⟩ => ?_)
    subst hr
    exact wpAny_execs_nil ⟨σ3, H3, I4, qn⟩
  · refine wpAny_passesOwn hp (thn (T.item X rfl rfl rfl hc i pins s3 σ3 H3 X.xe I3 (stat fr3) st3 go) fun r s4 ⟨u, hr, h4⟩ => ?_)
    subst hr
    refine wpAny_passesOwn hp (thn h4 fun _ s5 ⟨x, H5, I5, r5, y5, st5, fr5⟩ => ?_)
    have I5' := I5.pinned (stat fr5) (T.obj _ _ st5)
    refine wpAny_passesOwn hp (thn (hg _ s5 σ3 H5 x u _ I5' r5 (step x H5 y5)) fun _ s6 ⟨σ6, H6, I6, q6⟩ => ?_)
    refine wpAny_passesOwn hp (thn (hb _ s6 σ6 H6 _ I6 q6) fun f s7 q7 => ?_)
    have again : ∀ {σ7 : St} {H7 : Hp}, Inv X (pins ++ pinsAt fp s5.heap) σ7 H7 s7 → N σ7 H7 → ∃ m, m < n ∧ ∃ i σ' H', Inv X pins σ' H' s7 ∧ tn i s7.heap ∧ (∀ b ∈ fp, H' b = none) ∧ W i m σ' H' := fun {σ7 H7} I7 n7 => by
      obtain ⟨m', hm, w7⟩ := hN σ7 H7 n7
      refine ⟨m', hm, i + 1, σ7, H7, I7.unpinned, T.keep _ _ _ st5 fun b hb o e => (I7.pin (b, o) (List.mem_append_right _ (List.mem_append_right _ (mem_pinsAt hb e)))).1, fun b hb => ?_, w7⟩
      obtain ⟨o, e, d⟩ := T.obj _ _ st5 b hb
      exact (I7.pin (b, o) (List.mem_append_right _ (List.mem_append_right _ (mem_pinsAt hb e)))).2.1
    cases f with
    | next => obtain ⟨σ7, H7, I7, n7⟩ := q7; exact again I7 n7
    | cont => obtain ⟨σ7, H7, I7, n7⟩ := q7; exact again I7 n7
    | brk => obtain ⟨σ7, H7, I7, q7⟩ := q7; exact ⟨σ7, H7, I7.unpinned, q7⟩
    | ret v => obtain ⟨x7, σ7, H7, I7, r7, q7⟩ := q7; exact ⟨x7, σ7, H7, I7.unpinned, r7, q7⟩
end
theorem for_range {lo : Int} {n : Nat} {g : TG} {tb : TS} {D : Ends} {σ : St} {H : Hp} (Pv : Nat → St → Hp → Prop) (h0 : Pv 0 σ H)
    (hs : ∀ i σ H, i < n → Pv i σ H → g (.int (lo + i)) σ H fun σ2 H2 => tb { D with nx := Pv (i + 1), ct := Pv (i + 1), bk := D.nx } σ2 H2) (hd : ∀ σ H, Pv n σ H → D.nx σ H) :
    ∃ W : Nat → Nat → St → Hp → Prop, (∃ m, W 0 m σ H) ∧ ∀ i m σ H, W i m σ H →
      ((Itr lo n).stop i H ∧ D.nx σ H) ∨ ((Itr lo n).go i H ∧ ∃ N : St → Hp → Prop, (∀ σ' H', N σ' H' → ∃ m', m' < m ∧ W (i + 1) m' σ' H') ∧ ∀ x H', (Itr lo n).yld i H x H' → g x σ H' fun σ2 H2 => tb { D with nx := N, ct := N, bk := D.nx } σ2 H2) := by
  refine ⟨fun i m σ H => m = n - i ∧ i ≤ n ∧ Pv i σ H, ⟨n, by simp, Nat.zero_le _, h0⟩, ?_⟩
  rintro i m σ H ⟨rfl, hi, p⟩
  by_cases hlt : i < n
  · refine .inr ⟨hlt, Pv (i + 1), fun σ' H' p' => ⟨n - (i + 1), by omega, rfl, hlt, p'⟩, fun x H' y => ?_⟩
    obtain ⟨e, y⟩ := y
    subst e y
    exact hs i σ _ hlt p
  · have e : i = n := by omega
    subst e
    exact .inl ⟨Nat.le_refl _, hd σ H p⟩
end L2
namespace L2
open PySem PySem.Spec PyProof.Rows
abbrev R2 := V → V → Hp → VK → Prop
def OpR (X : Cx) (f : Value → Value → Sem Value) (r : R2) : Prop :=
  ∀ (pins : List (Addr × Obj)) (s : Shared) (σ : St) (H : Hp) (x y : V) (v u : Value) (Q : VK), Inv X pins σ H s → RelV x v → RelV y u → r x y H Q →
    wpAny (model X.prog X.w) X.A (f v u) (EP X pins σ Q) X.xe s
def UnR (X : Cx) (f : Value → Sem Value) (r : V → Hp → VK → Prop) : Prop :=
  ∀ (pins : List (Addr × Obj)) (s : Shared) (σ : St) (H : Hp) (x : V) (v : Value) (Q : VK), Inv X pins σ H s → RelV x v → r x H Q →
    wpAny (model X.prog X.w) X.A (f v) (EP X pins σ Q) X.xe s
def CallR (X : Cx) (f : Value) (r : List V → Hp → VK → Prop) : Prop :=
  ∀ (pins : List (Addr × Obj)) (s : Shared) (σ : St) (H : Hp) (xs : List V) (us : List Value) (Q : VK), Inv X pins σ H s → Vals xs us → r xs H Q →
    wpAny (model X.prog X.w) X.A (call f us) (EP X pins σ Q) X.xe s
def tOp (r : R2) (ta tb : TE) : TE := fun σ H Q => ta σ H fun x H1 => tb σ H1 fun y H2 => r x y H2 Q
def rI (C : Int → Int → Prop) (g : Int → Int → V) : R2 := fun x y H Q => ∃ i j, x = .int i ∧ y = .int j ∧ C i j ∧ Q (g i j) H
def rI0 (g : Int → Int → V) : R2 := fun x y H Q => ∃ i j, x = .int i ∧ y = .int j ∧ Q (g i j) H
def rU (g : Int → V) : V → Hp → VK → Prop := fun x H Q => ∃ i, x = .int i ∧ Q (g i) H
section
variable {X : Cx} {a b c : Expr} {ta tb tc : TE} {pos : Pos}
theorem binT (ha : PE X a ta) (hb : PE X b tb) {pins : List (Addr × Obj)} {s : Shared} {σ : St} {H : Hp} {R : V → V → Hp → Prop} (I : Inv X pins σ H s)
    (h : ta σ H fun x H1 => tb σ H1 fun y H2 => R x y H2) {Q : Value → Shared → Prop} {f : Value → Value → Sem Value}
    (hf : ∀ v u s2 x y H2, Inv X pins σ H2 s2 → RelV x v → RelV y u → R x y H2 → wpAny (model X.prog X.w) X.A (f v u) Q X.xe s2) :
    wpAny (model X.prog X.w) X.A (eval a X.env) (fun v s₁ => wpAny (model X.prog X.w) X.A (eval b X.env) (fun u s₂ => wpAny (model X.prog X.w) X.A (f v u) Q X.xe s₂) X.xe s₁) X.xe s := by
  refine thn (ha pins s σ H _ I h) fun v s1 ⟨x, H1, I1, r1, q1⟩ => ?_
  refine thn (hb pins s1 σ H1 _ I1 q1) fun u s2 ⟨y, H2, I2, r2, q2⟩ => ?_
  exact hf v u s2 x y H2 I2 r1 r2 q2
theorem pe_op {op : Operator} {r : R2} (ho : OpR X (binaryOp op) r) (ha : PE X a ta) (hb : PE X b tb) : PE X (.BinOp a op b pos) (tOp r ta tb) := by
  intro pins s σ H Q I h
  exact wpAny_BinOp (binT ha hb I h fun v u s2 x y H2 I2 rx ry q => ho pins s2 σ H2 x y v u Q I2 rx ry q)
theorem opI {f : Value → Value → Sem Value} {C : Int → Int → Prop} {g : Int → Int → Int}
    (rule : ∀ (i j : Int) (t u : Tok) (s : Shared) (Q : Value → Shared → Prop) (E : Value → Shared → Prop), C i j → Q (.int (g i j) s.toks) { s with toks := s.toks + 1 } → wpAny (model X.prog X.w) X.A (f (.int i t) (.int j u)) Q E s) :
    OpR X f (rI C fun i j => .int (g i j)) := by
  intro pins s σ H x y v u Q I rx ry h
  obtain ⟨i, j, rfl, rfl, hc, q⟩ := h
  obtain ⟨t, rfl⟩ := rx
  obtain ⟨t', rfl⟩ := ry
  exact rule i j t t' s _ _ hc ⟨.int (g i j), H, I.tok _, ⟨_, rfl⟩, q⟩
theorem opI0 {f : Value → Value → Sem Value} {g : Int → Int → Int}
    (rule : ∀ (i j : Int) (t u : Tok) (s : Shared) (Q : Value → Shared → Prop) (E : Value → Shared → Prop), Q (.int (g i j) s.toks) { s with toks := s.toks + 1 } → wpAny (model X.prog X.w) X.A (f (.int i t) (.int j u)) Q E s) :
    OpR X f (rI0 fun i j => .int (g i j)) := by
  intro pins s σ H x y v u Q I rx ry h
  obtain ⟨i, j, rfl, rfl, q⟩ := h
  obtain ⟨t, rfl⟩ := rx
  obtain ⟨t', rfl⟩ := ry
  exact rule i j t t' s _ _ ⟨.int (g i j), H, I.tok _, ⟨_, rfl⟩, q⟩
theorem opB0 {f : Value → Value → Sem Value} {g : Int → Int → Bool}
    (rule : ∀ (i j : Int) (t u : Tok) (s : Shared) (Q : Value → Shared → Prop) (E : Value → Shared → Prop), Q (.bool (g i j)) s → wpAny (model X.prog X.w) X.A (f (.int i t) (.int j u)) Q E s) :
    OpR X f (rI0 fun i j => .bl (g i j)) := by
  intro pins s σ H x y v u Q I rx ry h
  obtain ⟨i, j, rfl, rfl, q⟩ := h
  obtain ⟨t, rfl⟩ := rx
  obtain ⟨t', rfl⟩ := ry
  exact rule i j t t' s _ _ ⟨.bl (g i j), H, I, rfl, q⟩
def CDiv (i j : Int) : Prop := 0 < j ∧ j < 1073741824
def CDivN (i j : Int) : Prop := j ≠ 0 ∧ j.natAbs < 1073741824
def CPow (i j : Int) : Prop := 0 ≤ j ∧ j ≤ 1000000 ∧ i.natAbs < 2 ^ 64
def CMul (i j : Int) : Prop := (-(2 ^ 64) < i ∧ i < 2 ^ 64) ∨ (-(2 ^ 64) < j ∧ j < 2 ^ 64)
theorem CMul.ok {i j : Int} (h : CMul i j) : IntMulOk i j := by
  rcases h with ⟨h1, h2⟩ | ⟨h1, h2⟩
  · exact .of_left (intBits_le_64 h1 h2)
  · exact .of_right (intBits_le_64 h1 h2)
theorem op_add : OpR X (binaryOp .Add) (rI0 fun i j => .int (i + j)) := opI0 fun _ _ _ _ _ _ _ q => add_int q
theorem op_sub : OpR X (binaryOp .Sub) (rI0 fun i j => .int (i - j)) := opI0 fun _ _ _ _ _ _ _ q => sub_int q
theorem op_mul : OpR X (binaryOp .Mult) (rI CMul fun i j => .int (i * j)) := opI fun _ _ _ _ _ _ _ hc q => mul_int q hc.ok
theorem op_fdiv : OpR X (binaryOp .FloorDiv) (rI CDiv fun i j => .int (i / j)) := opI fun i j _ _ _ _ _ hc q => by
  have h1 : (0 : Int) < j := hc.1
  have h2 : j < 1073741824 := hc.2
  exact floordiv_int (by omega) (by rw [Int.fdiv_eq_ediv_of_nonneg i (by omega)]; exact q) (.inl (PyProof.noPylong_small (by omega)))
theorem op_mod : OpR X (binaryOp .Mod) (rI (fun _ j => 0 < j) fun i j => .int (i % j)) := opI fun i j _ _ _ _ _ hc q => by
  have h1 : (0 : Int) < j := hc
  exact mod_int' (by omega) (by rw [Int.fmod_eq_emod_of_nonneg i (by omega)]; exact q)
theorem op_pow : OpR X (binaryOp .Pow) (rI CPow fun i j => .int (i ^ j.toNat)) := opI fun _ _ _ _ _ _ _ hc q => pow_int_small hc.1 hc.2.1 hc.2.2 q
theorem unI {f : Value → Sem Value} {g : Int → Int}
    (rule : ∀ (i : Int) (t : Tok) (s : Shared) (Q : Value → Shared → Prop) (E : Value → Shared → Prop), Q (.int (g i) s.toks) { s with toks := s.toks + 1 } → wpAny (model X.prog X.w) X.A (f (.int i t)) Q E s) :
    UnR X f (rU fun i => .int (g i)) := by
  intro pins s σ H x v Q I rx h
  obtain ⟨i, rfl, q⟩ := h
  obtain ⟨t, rfl⟩ := rx
  exact rule i t s _ _ ⟨.int (g i), H, I.tok _, ⟨_, rfl⟩, q⟩
theorem un_neg : UnR X (unaryOp .USub) (rU fun i => .int (-i)) := unI fun _ _ _ _ _ q => neg_int q
end
def scal : V → V → Bool
  | .non, .non => true | .non, .int _ => true | .int _, .non => true | .non, .bl _ => true | .bl _, .non => true | .non, .str _ => true | .str _, .non => true
  | .int _, .int _ => true | .bl _, .bl _ => true | .str _, .str _ => true | .byt _, .byt _ => true
  | .int _, .str _ => true | .str _, .int _ => true | .bl _, .str _ => true | .str _, .bl _ => true
  | _, _ => false
def rEq : R2 := fun x y H Q => scal x y = true ∧ Q (.bl (decide (x = y))) H
def rNe : R2 := fun x y H Q => scal x y = true ∧ Q (.bl (!decide (x = y))) H
theorem dec_int {i j : Int} : decide (V.int i = V.int j) = (i == j) := by
  rw [Bool.eq_iff_iff]
  simp
theorem dec_bl {i j : Bool} : decide (V.bl i = V.bl j) = (i == j) := by
  rw [Bool.eq_iff_iff]
  simp
theorem dec_str {i j : Str} : decide (V.str i = V.str j) = (i == j) := by
  rw [Bool.eq_iff_iff]
  simp
theorem dec_byt {i j : Array UInt8} : decide (V.byt i = V.byt j) = (i.toList == j.toList) := by
  rw [Bool.eq_iff_iff]
  cases i
  cases j
  simp
section
variable {X : Cx} {a b c : Expr} {ta tb tc : TE} {pos : Pos}
theorem fin_bl {pins : List (Addr × Obj)} {σ : St} {H : Hp} {s : Shared} {Q : VK} {k k' : Bool} (I : Inv X pins σ H s) (q : Q (.bl k) H) (e : k = k') : EP X pins σ Q (.bool k') s := by
  subst e
  exact ⟨.bl k, H, I, rfl, q⟩
theorem op_eq : OpR X (compareOp .Eq) rEq := by
  intro pins s σ H x y v u Q I rx ry h
  obtain ⟨hs, q⟩ := h
  cases x with
  | non =>
    cases rx
    cases y with
    | non => cases ry; exact PySem.EqNone.eq_none_none (fin_bl I q (by simp))
    | bl j => cases ry; exact PySem.EqNone.eq_none_bool (fin_bl I q (by simp))
    | int j => obtain ⟨t', rfl⟩ := ry; exact PySem.EqNone.eq_none_int (fin_bl I q (by simp))
    | str j => obtain ⟨t', rfl⟩ := ry; exact PySem.EqNone.eq_none_str (fin_bl I q (by simp))
    | _ => exact absurd (show false = true from hs) Bool.false_ne_true
  | bl i =>
    cases rx
    cases y with
    | non => cases ry; exact PySem.EqNone.eq_bool_none (fin_bl I q (by simp))
    | bl j => cases ry; exact eq_bool (fin_bl I q dec_bl)
    | str j => obtain ⟨t', rfl⟩ := ry; exact PySem.EqMixed.eq_bool_str (fin_bl I q (by simp))
    | _ => exact absurd (show false = true from hs) Bool.false_ne_true
  | int i =>
    obtain ⟨t, rfl⟩ := rx
    cases y with
    | non => cases ry; exact PySem.EqNone.eq_int_none (fin_bl I q (by simp))
    | int j => obtain ⟨t', rfl⟩ := ry; exact eq_int (fin_bl I q dec_int)
    | str j => obtain ⟨t', rfl⟩ := ry; exact PySem.EqMixed.eq_int_str (fin_bl I q (by simp))
    | _ => exact absurd (show false = true from hs) Bool.false_ne_true
  | str i =>
    obtain ⟨t, rfl⟩ := rx
    cases y with
    | non => cases ry; exact PySem.EqNone.eq_str_none (fin_bl I q (by simp))
    | bl j => cases ry; exact PySem.EqMixed.eq_str_bool (fin_bl I q (by simp))
    | int j => obtain ⟨t', rfl⟩ := ry; exact PySem.EqMixed.eq_str_int (fin_bl I q (by simp))
    | str j => obtain ⟨t', rfl⟩ := ry; exact eq_str (fin_bl I q dec_str)
    | _ => exact absurd (show false = true from hs) Bool.false_ne_true
  | byt i =>
    obtain ⟨t, rfl⟩ := rx
    cases y with
    | byt j => obtain ⟨t', rfl⟩ := ry; exact PySem.W.eq_bytes (fin_bl I q dec_byt)
    | _ => exact absurd (show false = true from hs) Bool.false_ne_true
  | _ => cases y <;> exact absurd (show false = true from hs) Bool.false_ne_true
theorem op_ne : OpR X (compareOp .NotEq) rNe := by
  intro pins s σ H x y v u Q I rx ry h
  obtain ⟨hs, q⟩ := h
  cases x with
  | non =>
    cases rx
    cases y with
    | non => cases ry; exact PySem.EqNone.ne_none_none (fin_bl I q (by simp))
    | bl j => cases ry; exact PySem.EqNone.ne_none_bool (fin_bl I q (by simp))
    | int j => obtain ⟨t', rfl⟩ := ry; exact PySem.EqNone.ne_none_int (fin_bl I q (by simp))
    | str j => obtain ⟨t', rfl⟩ := ry; exact PySem.EqNone.ne_none_str (fin_bl I q (by simp))
    | _ => exact absurd (show false = true from hs) Bool.false_ne_true
  | bl i =>
    cases rx
    cases y with
    | non => cases ry; exact PySem.EqNone.ne_bool_none (fin_bl I q (by simp))
    | bl j => cases ry; exact ne_bool (fin_bl I q (congrArg not dec_bl))
    | str j => obtain ⟨t', rfl⟩ := ry; exact PySem.EqMixed.ne_bool_str (fin_bl I q (by simp))
    | _ => exact absurd (show false = true from hs) Bool.false_ne_true
  | int i =>
    obtain ⟨t, rfl⟩ := rx
    cases y with
    | non => cases ry; exact PySem.EqNone.ne_int_none (fin_bl I q (by simp))
    | int j => obtain ⟨t', rfl⟩ := ry; exact ne_int (fin_bl I q (congrArg not dec_int))
    | str j => obtain ⟨t', rfl⟩ := ry; exact PySem.EqMixed.ne_int_str (fin_bl I q (by simp))
    | _ => exact absurd (show false = true from hs) Bool.false_ne_true
  | str i =>
    obtain ⟨t, rfl⟩ := rx
    cases y with
    | non => cases ry; exact PySem.EqNone.ne_str_none (fin_bl I q (by simp))
    | bl j => cases ry; exact PySem.EqMixed.ne_str_bool (fin_bl I q (by simp))
    | int j => obtain ⟨t', rfl⟩ := ry; exact PySem.EqMixed.ne_str_int (fin_bl I q (by simp))
    | str j => obtain ⟨t', rfl⟩ := ry; exact ne_str (fin_bl I q (congrArg not dec_str))
    | _ => exact absurd (show false = true from hs) Bool.false_ne_true
  | byt i =>
    obtain ⟨t, rfl⟩ := rx
    cases y with
    | byt j => obtain ⟨t', rfl⟩ := ry; exact PySem.W.ne_bytes (fin_bl I q (congrArg not dec_byt))
    | _ => exact absurd (show false = true from hs) Bool.false_ne_true
  | _ => cases y <;> exact absurd (show false = true from hs) Bool.false_ne_true
theorem op_gt : OpR X (compareOp .Gt) (rI0 fun i j => .bl (decide (j < i))) := opB0 fun _ _ _ _ _ _ _ q => gt_int q
theorem op_in_str : OpR X (compareOp .In) (fun x y H Q => ∃ i j, x = .str i ∧ y = .str j ∧ Q (.bl (!(Builtin.Str.occurrences j i 0 j.length 1).isEmpty)) H) := by
  intro pins s σ H x y v u Q I rx ry h
  obtain ⟨i, j, rfl, rfl, q⟩ := h
  obtain ⟨t, rfl⟩ := rx
  obtain ⟨t', rfl⟩ := ry
  exact in_str (fin_bl I q rfl)
theorem line63 : (sizeLine : Nat) < 2 ^ 63 := by rw [sizeLine_eq]; decide
theorem op_add_str : OpR X (binaryOp .Add) (fun x y H Q => ∃ i j, x = .str i ∧ y = .str j ∧ i.length + j.length ≤ sizeLine ∧ Q (.str (i ++ j)) H) := by
  intro pins s σ H x y v u Q I rx ry h
  obtain ⟨i, j, rfl, rfl, hz, q⟩ := h
  obtain ⟨t, rfl⟩ := rx
  obtain ⟨t', rfl⟩ := ry
  exact add_str (fun t' tk => ⟨.str (i ++ j), H, I.tok _, ⟨_, rfl⟩, q⟩) hz
theorem vals1 {x : V} {us : List Value} (r : Vals [x] us) : ∃ u, us = [u] ∧ RelV x u := by
  cases r with
  | cons r1 r2 => cases r2; exact ⟨_, rfl, r1⟩
theorem vals2 {x y : V} {us : List Value} (r : Vals [x, y] us) : ∃ u w', us = [u, w'] ∧ RelV x u ∧ RelV y w' := by
  cases r with
  | cons r1 r2 =>
    cases r2 with
    | cons r3 r4 => cases r4; exact ⟨_, _, rfl, r1, r3⟩
theorem call_min2 (hc : X.calm = true) : CallR X (.builtin "min") (fun xs H Q => ∃ i j, xs = [.int i, .int j] ∧ Q (.int (if j < i then j else i)) H) := by
  intro pins s σ H xs us Q I r h
  obtain ⟨i, j, rfl, q⟩ := h
  obtain ⟨u, w', rfl, ⟨t, rfl⟩, ⟨t', rfl⟩⟩ := vals2 r
  refine min_two_ints (I.ok.hd hc) fun h' tk k => ⟨_, H, I.kept k, ?_, q⟩
  by_cases hj : j < i
  · rw [if_pos hj, if_pos hj]; exact ⟨_, rfl⟩
  · rw [if_neg hj, if_neg hj]; exact ⟨_, rfl⟩
theorem call_str_int : CallR X (.type "str") (fun xs H Q => ∃ i, xs = [.int i] ∧ i.natAbs.log2 < 1920 ∧ Q (.str (toString i)) H) := by
  intro pins s σ H xs us Q I r h
  obtain ⟨i, rfl, hz, q⟩ := h
  obtain ⟨u, rfl, t, rfl⟩ := vals1 r
  exact PySem.P.str_of_int hz ⟨.str _, H, I.tok _, ⟨_, rfl⟩, q⟩
end
end L2
namespace L2
open PySem PySem.Spec PyProof.Rows
structure ObjM (h : Heap) (x dx C : Addr) (mA : Str → Option Value) : Prop where
  obj : h.get? x = some (PySem.W.instObj C dx)
  ns : h.Ns1 dx mA
  ne : dx ≠ x
theorem lookIn_ns {h : Heap} {dx : Addr} {mA : Str → Option Value} (n : h.Ns1 dx mA) : ∃ od, h.get? dx = some od ∧ ∀ name, PySem.W.lookIn name od = some (mA name) := by
  obtain ⟨o, es, ep, ho, hd, hk, _, hm⟩ := n
  refine ⟨o, ho, fun name => ?_⟩
  have e := hm name
  unfold nsFind findBy at e
  rw [← Array.find?_toList] at e
  unfold PySem.W.lookIn
  rw [hd]
  dsimp only
  split
  · rename_i y q
    rw [q] at e
    exact congrArg some e
  · rename_i q
    rw [q] at e
    have a : es.toList.any (·.refKey) = false := by
      rw [List.any_eq_false]
      intro y hy
      obtain ⟨z, t, hkey⟩ := hk y (Array.mem_toList_iff.mp hy)
      simp [DictEntry.refKey, hkey]
    have a' : ¬ es.toList.any (·.refKey) = true := by rw [a]; exact Bool.false_ne_true
    rw [if_neg a']
    exact congrArg some e
theorem ObjM.look {h : Heap} {x dx C : Addr} {mA : Str → Option Value} (I : ObjM h x dx C mA) : ∃ od, PySem.W.InstAt h x (PySem.W.instObj C dx) C (some od) ∧ ∀ name, PySem.W.lookIn name od = some (mA name) :=
  let ⟨od, ho, hl⟩ := lookIn_ns I.ns
  ⟨od, ⟨I.obj, rfl, rfl, ho⟩, hl⟩
section
variable {prog : Program} {w : World} {A : Around} {E : Value → Shared → Prop} {s : Shared} {K : PySem.W.Frag} {x dx C f : Addr} {mA : Str → Option Value} {name : Str} {v : Value}
end
section
variable {P : Program} {w : World} {H H' : Hp} {h h' : Heap} {a C dx : Addr} {fs fs' : List (Str × V)}
theorem ins_get (hok : HOk P w H h) (e : H a = some (.ins C dx fs)) : ∃ mA, ObjM h a dx C mA ∧ (∀ f, RelO (fs.lookup f) (mA f)) ∧ PySem.Within mA (fs.map (·.1)) ∧ fs.length ≤ 1000 ∧ H dx = some (.own a) := by
  obtain ⟨d, z, ne, ob, mA, n, r, q⟩ := (show ObjOk P w H h a (.ins C dx fs) from hok a _ e)
  exact ⟨mA, ⟨ob, n, ne⟩, r, q, z, d⟩
end
structure Cls (K : PySem.W.Frag) (C : Addr) : Prop where
  pg : PySem.W.plainGet K C Str.empty = true
  hd : PySem.W.hasDictIn K C = true
  po : PySem.W.plainOver K C = true
  sa : PySem.W.findIn K (.ref C) "__setattr__" = some (some (.builtin "object.__setattr__"))
theorem Cls.get {K : PySem.W.Frag} {C : Addr} (c : Cls K C) (f : Str) : PySem.W.plainGet K C f = true := c.pg
section
variable {X : Cx} {pins : List (Addr × Obj)} {σ : St} {H : Hp} {s : Shared} {a C dx : Addr} {fs : List (Str × V)} {f : Str} {v : V} {A : Around} {E : Value → Shared → Prop}
end
section
variable {X : Cx} {o e value : Expr} {f : Str} {pos pos' tpos : Pos} {ta tv : TE}
end
section
variable {X : Cx} {pins : List (Addr × Obj)} {σ : St} {H : Hp} {s : Shared} {A : Around} {E : Value → Shared → Prop} {Q : Value → Shared → Prop} {c : Value} {b : Bool}
inductive TyOf (K : PySem.W.Frag) (H : Hp) : V → Value → Prop where
  | non : TyOf K H .non (.type "NoneType")
  | bl (x : Bool) : TyOf K H (.bl x) (.type "bool")
  | int (i : Int) : TyOf K H (.int i) (.type "int")
  | str (x : Str) : TyOf K H (.str x) (.type "str")
  | flt (x : UInt64) : TyOf K H (.flt x) (.type "float")
  | lst {a : Addr} {xs : List V} (e : H a = some (.lst xs)) : TyOf K H (.ref a) (.type "list")
  | frz {a : Addr} {o : Obj} {xs : List V} (e : H a = some (.frz o (.lst xs))) : TyOf K H (.ref a) (.type "list")
  | tup {a : Addr} {xs : List V} (e : H a = some (.tup xs)) : TyOf K H (.ref a) (.type "tuple")
  | dK {a : Addr} {kvs : List (Key × V)} (e : H a = some (.dK kvs)) : TyOf K H (.ref a) (.type "dict")
  | dT {a : Addr} {kvs : List (List Key × V)} (e : H a = some (.dT kvs)) : TyOf K H (.ref a) (.type "dict")
  | ins {a C dx : Addr} {fs : List (Str × V)} (e : H a = some (.ins C dx fs)) (cl : Cls K C) (ha : PySem.W.findIn K (.ref C) "__class__" = some (some (.builtin "object.__class__")))
      (hn : PySem.W.specialIn K (.builtin "object.__class__") "__get__" = some (some (.builtin "getset_descriptor.__get__"))) (htk : PySem.W.takesIn K (.builtin "object.__class__") = some true)
      (hm : PySem.W.mroIn K C (.type "object") = some true) : TyOf K H (.ref a) (.ref C)
theorem isinst_ok {x : V} {u t : Value} (I : Inv X pins σ H s) (rx : RelV x u) (ty : TyOf X.K H x t) (e : PySem.W.kitOne X.K t c = some b) (h : ∀ tk, Q (.bool b) { s with toks := tk }) :
    wpAny (model X.prog X.w) A (call (.builtin "isinstance") [u, c]) Q E s := by
  cases ty with
  | non => cases (show u = Value.none from rx); exact PySem.W.kia_one PySem.W.kitx_none I.kIn True.intro e (fun z => nomatch z) h
  | bl y => cases (show u = Value.bool y from rx); exact PySem.W.kia_one PySem.W.kitx_bool I.kIn True.intro e (fun z => nomatch z) h
  | int i => obtain ⟨t, q⟩ := (show ∃ t, u = Value.int i t from rx); cases q; exact PySem.W.kia_one PySem.W.kitx_int I.kIn True.intro e (fun z => nomatch z) h
  | str y => obtain ⟨t, q⟩ := (show ∃ t, u = Value.str y t from rx); cases q; exact PySem.W.kia_one PySem.W.kitx_str I.kIn True.intro e (fun z => nomatch z) h
  | flt y => obtain ⟨t, q⟩ := (show ∃ t, u = Value.float y t from rx); cases q; exact PySem.W.kia_one PySem.W.kitx_float I.kIn True.intro e (fun z => nomatch z) h
  | @lst a xs ea =>
    cases (show u = Value.ref a from rx)
    obtain ⟨_, _, n, _, h1⟩ := (show ObjOk X.prog X.w H s.heap a (.lst xs) from I.hok a _ ea)
    exact PySem.W.kia_one PySem.W.kitx_list I.kIn ⟨_, h1, rfl⟩ e (fun z => nomatch z) h
  | @frz a ob xs ea =>
    cases (show u = Value.ref a from rx)
    obtain ⟨_, _, _, n, _, h1⟩ := (show ObjOk X.prog X.w H s.heap a (.frz ob (.lst xs)) from I.hok a _ ea)
    exact PySem.W.kia_one PySem.W.kitx_list I.kIn ⟨_, h1, rfl⟩ e (fun z => nomatch z) h
  | @tup a xs ea =>
    cases (show u = Value.ref a from rx)
    obtain ⟨_, _, _, p⟩ := (show ObjOk X.prog X.w H s.heap a (.tup xs) from I.hok a _ ea)
    obtain ⟨o, h1, h2, _⟩ := p
    exact PySem.W.kia_one PySem.W.kitx_tuple I.kIn ⟨o, h1, h2⟩ e (fun z => nomatch z) h
  | @dK a kvs ea =>
    cases (show u = Value.ref a from rx)
    obtain ⟨_, _, vs, _, p⟩ := (show ObjOk X.prog X.w H s.heap a (.dK kvs) from I.hok a _ ea)
    obtain ⟨o, es, ep, h1, h2, _⟩ := p
    exact PySem.W.kia_one PySem.W.kitx_dict I.kIn ⟨o, h1, h2.1⟩ e (fun z => nomatch z) h
  | @dT a kvs ea =>
    cases (show u = Value.ref a from rx)
    obtain ⟨_, _, xs, _, o, es, ep, h1, h2, _⟩ := (show ObjOk X.prog X.w H s.heap a (.dT kvs) from I.hok a _ ea)
    exact PySem.W.kia_one PySem.W.kitx_dict I.kIn ⟨o, h1, h2.1⟩ e (fun z => nomatch z) h
  | @ins a C dx fs ea cl ha hn htk hm =>
    cases (show u = Value.ref a from rx)
    obtain ⟨mA, O, _⟩ := ins_get I.hok ea
    obtain ⟨od, J, _⟩ := O.look
    exact PySem.W.kia_one (PySem.W.kitx_own (cl.get _) cl.hd ha hn htk hm) I.kIn J e (fun z => nomatch z) h
end
end L2
namespace L2
open PySem PySem.Spec PyProof.Rows
structure Room (k : Nat) (A : Around) : Prop where
  hd : A.handled = none
  dp : A.depth + 3 * k + 5 < recursionLimit
  un : A.units + 16 * k + 200 < cLine
theorem Room.mono {j k : Nat} {A : Around} (r : Room k A) (h : j ≤ k) : Room j A := ⟨r.hd, by have := r.dp; omega, by have := r.un; omega⟩
theorem Room.deeper {k : Nat} {A : Around} (r : Room (k + 1) A) (env : Env) : Room k (A.deeper env) :=
  ⟨r.hd, by have := r.dp; show A.depth + 1 + 3 * k + 5 < _; omega, by have := r.un; show A.units + 3 + 16 * k + 200 < _; omega⟩
theorem Room.in1 {k : Nat} {A : Around} (r : Room (k + 1) A) : Room k A.in1 :=
  ⟨r.hd, by have := r.dp; show A.depth + 3 * k + 5 < _; omega, by have := r.un; show A.units + 1 + 16 * k + 200 < _; omega⟩
theorem Room.depth {k : Nat} {A : Around} (r : Room k A) : A.depth < recursionLimit := by have := r.dp; omega
theorem Room.units {k : Nat} {A : Around} (r : Room k A) : A.units + 64 < cLine := by have := r.un; omega
def tNil : TA := fun _ H Q => Q [] H
def tCons (ta : TE) (tr : TA) : TA := fun σ H Q => ta σ H fun x H1 => tr σ H1 fun xs H2 => Q (x :: xs) H2
section
variable {X : Cx} {e : Expr} {es : List Expr} {te : TE} {t : TA} {pos : Pos}
theorem pa_nil : PA X [] tNil := fun _ _ _ _ H Q I h => Calls.spliced_nil ⟨[], H, I, .nil, h⟩
theorem pa_cons (ha : PE X e te) (hr : PA X es t) (hs : starEach (e :: es) X.env = (false, eval e X.env) :: starEach es X.env := by rfl) : PA X (e :: es) (tCons te t) := by
  intro pos pins s σ H Q I h
  rw [hs]
  show wpAny _ _ (spliced ((false, eval e X.env) :: backTo pos (starEach es X.env))) _ _ s
  refine Calls.spliced_cons (thn (ha pins s σ H _ I h) fun u s1 ⟨x, H1, I1, r1, q1⟩ => ?_)
  exact thn (hr pos pins s1 σ H1 _ I1 q1) fun us s2 ⟨xs, H2, I2, r2, q2⟩ => ⟨x :: xs, H2, I2, .cons r1 r2, q2⟩
def tTup (t : TA) : TE := fun σ H Q => t σ H fun xs H1 => xs.length ≤ sizeLine ∧ ∀ p, H1 p = none → Q (.ref p) (upd H1 p (.tup xs))
def tLst (t : TA) : TE := fun σ H Q => t σ H fun xs H1 => xs.length ≤ sizeLine ∧ ∀ p, H1 p = none → Q (.ref p) (upd H1 p (.lst xs))
theorem pe_tup {x1} (h : PA X es t) : PE X (.Tuple es x1 pos) (tTup t) := by
  intro pins s σ H Q I hq
  refine wpAny_Tuple_spliced (thn (h pos pins s σ H _ I hq) fun us s1 ⟨xs, H1, I1, r, z, q⟩ => ⟨by rw [← r.length]; exact z, ?_⟩)
  have hf : H1 s1.heap.objs.size = none := I1.hok.fresh (Nat.le_refl _)
  refine ⟨.ref s1.heap.objs.size, upd H1 s1.heap.objs.size (.tup xs), I1.laid (t' := s1.toks) (fun b u e => Heap.get?_push_of_some _ e) (Nat.le_refl _) ?_, rfl, q _ hf⟩
  exact ⟨z, us, r, ⟨_, Heap.get?_push_size _ rfl, rfl, _, rfl⟩⟩
theorem pe_lst (h : PA X es t) : PE X (.List es pos) (tLst t) := by
  intro pins s σ H Q I hq
  refine wpAny_List_spliced (thn (h pos pins s σ H _ I hq) fun us s1 ⟨xs, H1, I1, r, z, q⟩ => ⟨by rw [← r.length]; exact z, ?_⟩)
  have hf : H1 s1.heap.objs.size = none := I1.hok.fresh (Nat.le_refl _)
  refine ⟨.ref s1.heap.objs.size, upd H1 s1.heap.objs.size (.lst xs), I1.laid (t' := s1.toks) (fun b u e => Heap.get?_push_of_some _ e) (Nat.le_refl _) ?_, rfl, q _ hf⟩
  exact ⟨z, us, 0, r, Heap.get?_push_size _ rfl⟩
end
abbrev Sp := List V → Hp → VK → XK → Prop
abbrev CXT := List Env → Hp → Shared → XK → Value → Shared → Prop
structure Env0 (P : Program) (w : World) (K : PySem.W.Frag) (mg : Str → Option Value) (base : Heap) (A : Around) (outer : List Env) (s : Shared) (H : Hp) : Prop where
  frames : A.frames = some outer
  mod : Mod K mg base
  bs : ∀ b o, base.get? b = some o → s.heap.get? b = some o ∧ H b = none
  bsz : base.objs.size ≤ s.heap.objs.size
  funs : s.heap.FunFrames base outer
  frf : ∀ b ∈ frs outer, H b = none
  hok : HOk P w H s.heap
  bare : AllBare s.gens
def CE (outer : List Env) (P : Program) (w : World) (H : Hp) (s : Shared) (Q : VK) (u : Value) (s' : Shared) : Prop :=
  ∃ v H', s'.os = s.os ∧ AllBare s'.gens ∧ Un (frs outer) [] H H' s.heap s'.heap ∧ HOk P w H' s'.heap ∧ RelV v u ∧ Q v H'
def CR (CX : CXT) (outer : List Env) (P : Program) (w : World) (H : Hp) (s : Shared) (Q : VK) (E : XK) (r : Result) (s' : Shared) : Prop :=
  match r with
  | .ok (.ret u) => CE outer P w H s Q u s'
  | .ok _ => False
  | .error e => CX outer H s E e s'
structure FnOk (P : Program) (w : World) (K : PySem.W.Frag) (mg : Str → Option Value) (base : Heap) (CX : CXT) (k : Nat) (f : Addr) (fd : FuncData) (ps : List Str) (sp : Sp) : Prop where
  len : ∀ vs H Q E, sp vs H Q E → vs.length = ps.length
  run : ∀ (A : Around) (outer : List Env) (s : Shared) (H : Hp) (args : Args) (us : List Value) (vs : List V) (Q : VK) (E : XK), Room k A → Env0 P w K mg base A outer s H → BindsTo s fd args (ps.zip us) → Vals vs us → sp vs H Q E →
    codeAny (model P w) A (.call (.ref f) args) (CR CX outer P w H s Q E) s
theorem FnOk.mono {P : Program} {w : World} {K : PySem.W.Frag} {mg : Str → Option Value} {base : Heap} {CX : CXT} {j k : Nat} {f : Addr} {fd : FuncData} {ps : List Str} {sp : Sp} (F : FnOk P w K mg base CX j f fd ps sp) (h : j ≤ k) :
    FnOk P w K mg base CX k f fd ps sp := ⟨F.len, fun A outer s H args us vs Q E hr => F.run A outer s H args us vs Q E (hr.mono h)⟩
theorem Env0.in1 {P : Program} {w : World} {K : PySem.W.Frag} {mg : Str → Option Value} {base : Heap} {A : Around} {outer : List Env} {s : Shared} {H : Hp} (e : Env0 P w K mg base A outer s H) :
    Env0 P w K mg base A.in1 outer s H := ⟨e.frames, e.mod, e.bs, e.bsz, e.funs, e.frf, e.hok, e.bare⟩
section
variable {X : Cx} {pins : List (Addr × Obj)} {σ : St} {H : Hp} {s s' : Shared}
theorem Inv.env0 (I : Inv X pins σ H s) : Env0 X.prog X.w X.K X.mg X.base X.A X.stack s H :=
  ⟨I.ok.frames, I.ok.mod, I.bs, Nat.le_trans I.ok.bsz I.sz, I.stack, I.stkFree, I.hok, I.bare⟩
theorem Inv.after {Q : VK} {u : Value} (I : Inv X pins σ H s) (h : CE X.stack X.prog X.w H s Q u s') : EP X pins σ Q u s' := by
  obtain ⟨v, H', os, bare, un, hok, r, q⟩ := h
  obtain ⟨hh, g, d, t, os'⟩ := s'
  obtain rfl : os' = s.os := os
  exact ⟨v, H', I.call (h' := hh) (g' := g) (d' := d) (t' := t) (ch := []) un hok bare (fun b z => absurd z (by simp)), r, q⟩
end
def tCall (sp : Sp) (dvs : List V) (E : XK) (t : TA) : TE := fun σ H Q => t σ H fun vs H1 => sp (vs ++ dvs) H1 Q E
def Binds (K : PySem.W.Frag) (fd : FuncData) (ps : List Str) (ds : List Value) : Prop :=
  ∀ (s : Shared) (us : List Value), K.In s.heap → (us ++ ds).length = ps.length → BindsTo s fd ⟨us, []⟩ (ps.zip (us ++ ds))
theorem Binds.all {K : PySem.W.Frag} {fd : FuncData} {ps : List Str} (h : ∀ us : List Value, us.length = ps.length → bindArgs fd ⟨us, []⟩ = pure (ps.zip us)) : Binds K fd ps [] := fun s us _ hl => by
  rw [List.append_nil] at hl ⊢
  exact .of_eq (h us hl)
def Passes (CX : CXT) (X : Cx) (E : XK) : Prop := ∀ (pins : List (Addr × Obj)) (σ : St) (H : Hp) (s : Shared) (e : Value) (s' : Shared), Inv X pins σ H s → CX X.stack H s E e s' → X.xe e s'
section
variable {X : Cx} {CX : CXT} {k : Nat} {f C : Addr} {fd : FuncData} {ps : List Str} {sp : Sp} {dvs : List V} {ds : List Value} {E : XK} {x m : Str} {p pos apos : Pos} {e o : Expr} {es : List Expr} {ta : TE} {t : TA}
theorem run_fn {pins : List (Addr × Obj)} {σ : St} {H : Hp} {s : Shared} {Q : VK} {us : List Value} {vs : List V} (F : FnOk X.prog X.w X.K X.mg X.base CX k f fd ps sp) (hr : Room k X.A) (hb : Binds X.K fd ps ds) (hd : Vals dvs ds) (hx : Passes CX X E)
    (I : Inv X pins σ H s) (r : Vals vs us) (h : sp (vs ++ dvs) H Q E) : wpAny (model X.prog X.w) X.A (call (.ref f) us) (EP X pins σ Q) X.xe s := by
  have r2 : Vals (vs ++ dvs) (us ++ ds) := r.append hd
  have hl : (us ++ ds).length = ps.length := by rw [← r2.length]; exact F.len _ _ _ _ h
  refine wpAny_call (codeAny_mono (F.run X.A X.stack s H ⟨us, []⟩ (us ++ ds) (vs ++ dvs) Q E hr I.env0 (hb s us I.kIn hl) r2 h) fun r s' hq => ?_)
  cases r with
  | error e => exact hx pins σ H s e s' I hq
  | ok fl =>
    cases fl with
    | ret u => exact I.after hq
    | next => exact False.elim hq
    | brk => exact False.elim hq
    | cont => exact False.elim hq
theorem pe_call (F : FnOk X.prog X.w X.K X.mg X.base CX k f fd ps sp) (hr : Room k X.A) (hg : Gl X x) (hm : X.mg x = some (.ref f)) (hk : PySem.W.keepIn X.K (.ref f) = true) (hb : Binds X.K fd ps ds) (hd : Vals dvs ds) (hx : Passes CX X E)
    (ha : PA X (e :: es) t) (hdb : (x == ("__debug__" : Str)) = false := by decide) (he : starEach (e :: es) X.env = (false, eval e X.env) :: starEach es X.env := by rfl) (hpl : (backTo pos (starEach es X.env)).any (·.1) = false := by rfl) :
    PE X (.Call (.Name x p) (e :: es) [] pos) (tCall sp dvs E t) := by
  intro pins s σ H Q I h
  refine wpAny_Call_Name_kw (ld_glob I hg hm ?_ hdb)
  refine PySem.W.callWith_K (h₀ := X.base) I.ok.mod.kin hk (thn (ha pos pins s σ H _ I h) fun us s1 ⟨vs, H1, I1, r, q⟩ => ⟨I1.kIn, ?_⟩) he hpl
  exact run_fn F hr hb hd hx I1 r q
end
section
variable {X : Cx} {CX : CXT} {k : Nat} {f C : Addr} {fd : FuncData} {ps ks : List Str} {sp : Sp} {E : XK} {x m : Str} {p pos apos kpos : Pos} {e o : Expr} {es : List Expr} {kws : List Keyword} {te ta : TE} {t tk : TA} {nm : Option Str}
variable {g : List Value → List Value → List Value} {gV : List V → List V → List V}
end
structure FnScope (N P : List Str) (sc : Scope) : Prop where
  kind : sc.kind = .function
  co : sc.isCoroutine = false
  gen : sc.isGenerator = false
  nd : N.Nodup
  pre : N.take P.length = P
  par : ∀ x ∈ P, sc.names.lookup x = some .local ∨ sc.names.lookup x = some .cell
  nofree : ∀ y ∈ sc.names, y.2 ≠ .free
theorem bindL_out {kindOf : Str → Option NameKind} {x : Str} : ∀ {binds : List (Str × Value)} {m : Str → Option Value}, (∀ v, (x, v) ∉ binds) → bindL kindOf binds m x = m x
  | [], _, _ => rfl
  | (n, v) :: r, m, h => by
    unfold bindL
    rw [bindL_out fun w hw => h w (List.mem_cons_of_mem _ hw)]
    split
    · have : x ≠ n := by rintro rfl; exact h v List.mem_cons_self
      simp [this]
    · rfl
theorem bindC_out {kindOf : Str → Option NameKind} {x : Str} : ∀ {binds : List (Str × Value)} {m : Str → Option Value}, (∀ v, (x, v) ∉ binds) → bindC kindOf binds m x = m x
  | [], _, _ => rfl
  | (n, v) :: r, m, h => by
    unfold bindC
    rw [bindC_out fun w hw => h w (List.mem_cons_of_mem _ hw)]
    split
    · rfl
    · have : x ≠ n := by rintro rfl; exact h v List.mem_cons_self
      simp [this]
theorem bindL_get {kindOf : Str → Option NameKind} {x : Str} {v : Value} : ∀ {P : List Str} {vs : List Value} {i : Nat} {m : Str → Option Value}, P.Nodup → P[i]? = some x → vs[i]? = some v → kindOf x = some .local →
    bindL kindOf (P.zip vs) m x = some v
  | [], _, _, _, _, h, _, _ => by simp at h
  | _ :: _, [], _, _, _, _, h, _ => by simp at h
  | p :: P, w :: vs, 0, m, nd, h1, h2, hk => by
    simp at h1 h2; subst h1; subst h2
    show bindL kindOf ((p, w) :: P.zip vs) m p = _
    unfold bindL
    rw [bindL_out fun v hv => (List.nodup_cons.mp nd).1 (List.of_mem_zip hv).1, if_pos hk]
    simp
  | p :: P, w :: vs, i + 1, m, nd, h1, h2, hk => by
    show bindL kindOf ((p, w) :: P.zip vs) m x = _
    unfold bindL
    exact bindL_get (i := i) (List.nodup_cons.mp nd).2 (by simpa using h1) (by simpa using h2) hk
theorem bindC_get {kindOf : Str → Option NameKind} {x : Str} {v : Value} : ∀ {P : List Str} {vs : List Value} {i : Nat} {m : Str → Option Value}, P.Nodup → P[i]? = some x → vs[i]? = some v → kindOf x ≠ some .local →
    bindC kindOf (P.zip vs) m x = some v
  | [], _, _, _, _, h, _, _ => by simp at h
  | _ :: _, [], _, _, _, _, h, _ => by simp at h
  | p :: P, w :: vs, 0, m, nd, h1, h2, hk => by
    simp at h1 h2; subst h1; subst h2
    show bindC kindOf ((p, w) :: P.zip vs) m p = _
    unfold bindC
    rw [bindC_out fun v hv => (List.nodup_cons.mp nd).1 (List.of_mem_zip hv).1, if_neg hk]
    simp
  | p :: P, w :: vs, i + 1, m, nd, h1, h2, hk => by
    show bindC kindOf ((p, w) :: P.zip vs) m x = _
    unfold bindC
    exact bindC_get (i := i) (List.nodup_cons.mp nd).2 (by simpa using h1) (by simpa using h2) hk
def start (N : List Str) (vs : List V) : St := vs.map some ++ List.replicate (N.length - vs.length) none
def cxOf (CX : CXT) (P : Program) (w : World) (K : PySem.W.Frag) (mg : Str → Option Value) (base : Heap) (N : List Str) (qual : Str) (scope : Scope) (f : Addr) (cd : Value) (A : Around) (outer : List Env) (s : Shared) (H : Hp) (E : XK) : Cx where
  prog := P
  w := w
  K := K
  mg := mg
  base := base
  A := A.deeper (envOfC qual scope s.heap.objs.size f cd)
  N := N
  s₀ := s
  H₀ := H
  env := envOfC qual scope s.heap.objs.size f cd
  outer := outer
  stack := envOfC qual scope s.heap.objs.size f cd :: outer
  ex := []
  calm := true
  fn := fun _ => true
  pn := []
  xe := fun e s' => wpAny (model P w) (A.deeper (envOfC qual scope s.heap.objs.size f cd)) (leaving (envOfC qual scope s.heap.objs.size f cd) e) (fun _ s'' => CX outer H s E e s'') (fun e' s'' => CX outer H s E e' s'') s'
theorem cell_has {sc : Scope} {n : Nat} {x : Str} (h : sc.names.lookup x = some .cell) : ∃ c, (cellsFrom n sc.names []).lookup x = some c := by
  have q := PySem.W.cellsFrom_some sc.names n [] (.inl h)
  exact Option.isSome_iff_exists.mp q
theorem inv_start {CX : CXT} {P : Program} {w : World} {K : PySem.W.Frag} {mg : Str → Option Value} {base : Heap} {N ps : List Str} {qual : Str} {scope : Scope} {f : Addr} {cd : Value} {A : Around} {outer : List Env} {s s1 : Shared} {H : Hp} {E : XK} {us : List Value} {vs : List V}
    (S : FnScope N ps scope) (hd : A.handled = none) (e0 : Env0 P w K mg base A outer s H) (hl : vs.length = ps.length) (r : Vals vs us)
    (x : InCallC s s.heap.objs.size (bindL (envOfC qual scope s.heap.objs.size f cd).kindOf (ps.zip us) fun _ => none) (cellsFrom (s.heap.objs.size + 1) scope.names []) (bindC (envOfC qual scope s.heap.objs.size f cd).kindOf (ps.zip us) fun _ => none) s1) :
    Inv (cxOf CX P w K mg base N qual scope f cd A outer s H E) [] (start N vs) H s1 := by
  have hpl : ps.length ≤ N.length := by have := congrArg List.length S.pre; rw [List.length_take] at this; omega
  obtain ⟨h1, tk, rfl, hk⟩ := x.done
  have noA : ∀ b : Addr, b ∉ (cxOf CX P w K mg base N qual scope f cd A outer s H E).ex := fun b z => absurd (show b ∈ ([] : List Addr) from z) (by simp)
  refine ⟨⟨e0.mod, S.kind, rfl, rfl, Nat.le_refl _, fun y z c h1 h2 => ?_, fun y hy => ?_, fun y c _ h => ?_, fun _ => hd, Around.frames_deeper e0.frames, .inr ⟨rfl, rfl⟩, fun b z => absurd z (noA b), e0.bs, e0.bsz, fun b _ _ => noA b, fun b z => absurd z (noA b), e0.funs, e0.frf⟩,
    rfl, e0.bare, Un.kept hk, ⟨_, x.toInCall.ns, fun i y v h1 h2 h3 => ?_⟩, fun y c h => ⟨_, x.cell y c h⟩, e0.hok.fresh (Nat.le_refl _), fun y c h => ?_, fun p hp => absurd (show p ∈ ([] : List (Addr × Obj)) from hp) (by simp), e0.hok.kept hk, ?_⟩
  · exact name_of_addr x.apart (PySem.mem_of_lookup h1) (PySem.mem_of_lookup h2)
  · have hy : scope.names.lookup y = some .cell ∨ scope.names.lookup y = some .free := hy
    rcases hy with hy | hy
    · exact cell_has hy
    · exact absurd rfl (S.nofree _ (PySem.mem_of_lookup hy))
  · exact Nat.le_of_lt (x.above y c (PySem.mem_of_lookup h))
  · have hi : i < vs.length := by
      unfold start at h2
      by_cases hi : i < vs.length
      · exact hi
      · rw [List.getElem?_append_right (by simpa using hi)] at h2
        rw [List.getElem?_replicate] at h2
        split at h2 <;> cases h2
    have ha : vs[i]? = some v := by
      unfold start at h2
      rw [List.getElem?_append_left (by simpa using hi), List.getElem?_map] at h2
      cases e : vs[i]? with
      | none => rw [e] at h2; cases h2
      | some a => rw [e] at h2; cases h2; rfl
    obtain ⟨u, hu, rv⟩ := r.get ha
    have hp : ps[i]? = some y := by
      rw [← S.pre, List.getElem?_take_of_lt (by omega)]; exact h1
    have ndP : ps.Nodup := by rw [← S.pre]; exact S.nd.sublist (List.take_sublist _ _)
    refine ⟨u, rv, ?_⟩
    rcases S.par y (List.mem_of_getElem? hp) with k | k
    · exact .inl ⟨k, bindL_get ndP hp hu k⟩
    · obtain ⟨c, e⟩ := cell_has (n := s.heap.objs.size + 1) k
      refine .inr ⟨.inl k, c, e, ?_⟩
      have q := x.cell y c e
      rw [bindC_get ndP hp hu (by show scope.names.lookup y ≠ _; rw [k]; decide)] at q
      exact q
  · exact e0.hok.fresh (Nat.le_of_lt (x.above y c (PySem.mem_of_lookup h)))
  · unfold start
    show _ = N.length
    rw [List.length_append, List.length_map, List.length_replicate]
    omega
theorem fn_of {CX : CXT} {P : Program} {w : World} {K : PySem.W.Frag} {mg : Str → Option Value} {base : Heap} {k : Nat} {f : Addr} {name qual : Str} {params : Arguments} {body : List Stmt} {scope : Scope} {dV kV doc pm cdv ct oc : Value} {an od : Option Addr}
    {osl : Array (Option Value)} {N ps : List Str} {sp : Sp} (lk : K.lookup f = some ⟨oc, od, .func (PySem.W.fnOf name qual params body scope dV kV doc pm an cdv ct), osl⟩) (hcd : PySem.W.codeIn K cdv qual = true) (S : FnScope N ps scope)
    (len : ∀ vs H Q E, sp vs H Q E → vs.length = ps.length)
    (hbody : ∀ (A : Around) (outer : List Env) (s : Shared) (H : Hp) (vs : List V) (Q : VK) (E : XK), Room k (A.deeper (envOfC qual scope s.heap.objs.size f cdv)) → sp vs H Q E →
      ∃ t, PSs (cxOf CX P w K mg base N qual scope f cdv A outer s H E) body t ∧ t { nx := fun _ H' => Q .non H', rt := Q } (start N vs) H) :
    FnOk P w K mg base CX (k + 1) f (PySem.W.fnOf name qual params body scope dV kV doc pm an cdv ct) ps sp := by
  refine ⟨len, fun A outer s H args us vs Q E hr e0 hb r hsp => ?_⟩
  have hl := len _ _ _ _ hsp
  have KX : K.In s.heap := e0.mod.kin.keeps fun b o e => (e0.bs b o e).1
  have lim : s.heap.NoLimit := e0.mod.nolimit.keeps fun b o e => (e0.bs b o e).1
  have hkind : ∀ y ∈ ps.zip us, scope.names.lookup y.1 = some .local ∨ (scope.names.lookup y.1 = some .cell ∧ ((cellsFrom (s.heap.objs.size + 1) scope.names []).lookup y.1).isSome = true) := fun ⟨n, v⟩ hy => by
    rcases S.par n (List.of_mem_zip hy).1 with q | q
    · exact .inl q
    · exact .inr ⟨q, PySem.W.cellsFrom_some _ _ _ (.inl q)⟩
  refine codeAny_call_function hr.depth (KX _ _ lk) rfl S.co S.gen rfl (PySem.W.codeRec_of KX hcd) (hb _ _ _ _ ?_)
  refine wpAny_newFunctionEnv_cells S.kind hkind fun env he s1 x => ?_
  subst he
  refine ⟨lim.keeps x.toInCall.keep, codeAny_func ?_⟩
  obtain ⟨t, ht, hq⟩ := hbody A outer s H vs Q E (hr.deeper _) hsp
  have I : Inv (cxOf CX P w K mg base N qual scope f cdv A outer s H E) [] (start N vs) H s1 := inv_start S hr.hd e0 hl r x
  refine wpAny_mono (ht [] s1 (start N vs) H _ I hq) (fun fl s' hs => ?_) fun e s' hs => hs
  have fin : ∀ {σ' : St} {H' : Hp} {v : V} {u : Value}, Inv (cxOf CX P w K mg base N qual scope f cdv A outer s H E) [] σ' H' s' → RelV v u → Q v H' → CE outer P w H s Q u s' :=
    fun {σ' H' v u} J rv q => ⟨v, H', J.os, J.bare, J.base, J.hok, rv, q⟩
  cases fl with
  | ret u =>
    obtain ⟨v, σ', H', J, rv, q⟩ := hs
    exact fin J rv q
  | next =>
    obtain ⟨σ', H', J, q⟩ := hs
    exact fin (v := V.non) (u := Value.none) J rfl q
  | brk =>
    obtain ⟨_, _, _, q⟩ := hs
    exact False.elim q
  | cont =>
    obtain ⟨_, _, _, q⟩ := hs
    exact False.elim q
end L2
namespace L2
open PySem PySem.Spec PyProof.Rows
section
variable {X : Cx} {x : Str} {p pos : Pos} {e : Expr} {es : List Expr} {t : TA} {id T : String} {r : List V → Hp → VK → Prop}
def tCB (r : List V → Hp → VK → Prop) (t : TA) : TE := fun σ H Q => t σ H fun vs H1 => r vs H1 Q
theorem pe_callB (hc : CallR X (.builtin id) r) (hg : Gl X x) (hm : X.mg x = none) (hv : bootBuiltins x = some (.builtin id)) (ha : PA X (e :: es) t) (hn : x ≠ "__name__" := by decide) (hdb : (x == ("__debug__" : Str)) = false := by decide)
    (he : starEach (e :: es) X.env = (false, eval e X.env) :: starEach es X.env := by rfl) (hpl : (backTo pos (starEach es X.env)).any (·.1) = false := by rfl) : PE X (.Call (.Name x p) (e :: es) [] pos) (tCB r t) := by
  intro pins s σ H Q I h
  refine wpAny_Call_Name_kw (ld_blt I hg hm hv ?_ hn hdb)
  exact PyProof.Rows.callWith_builtin1 (thn (ha pos pins s σ H _ I h) fun us s1 ⟨vs, H1, I1, r1, q1⟩ => hc pins s1 σ H1 vs us Q I1 r1 q1) he hpl
theorem pe_callTy (hc : CallR X (.type T) r) (hg : Gl X x) (hm : X.mg x = none) (hv : bootBuiltins x = some (.type T)) (ha : PA X (e :: es) t) (hn : x ≠ "__name__" := by decide) (hdb : (x == ("__debug__" : Str)) = false := by decide)
    (he : starEach (e :: es) X.env = (false, eval e X.env) :: starEach es X.env := by rfl) (hpl : (backTo pos (starEach es X.env)).any (·.1) = false := by rfl) : PE X (.Call (.Name x p) (e :: es) [] pos) (tCB r t) := by
  intro pins s σ H Q I h
  refine wpAny_Call_Name_kw (ld_blt I hg hm hv ?_ hn hdb)
  exact PyProof.Rows.callWith_type1 (thn (ha pos pins s σ H _ I h) fun us s1 ⟨vs, H1, I1, r1, q1⟩ => hc pins s1 σ H1 vs us Q I1 r1 q1) he hpl
end
end L2
namespace HT
open PySem PyProof.Rows
section
open PySem.SeqAt
open PySem.AutoSeq1 (wpAny_loadPart')
open PySem.MeetsSeq PySem.MeetsSeq2 PySem.MeetsSeq3
end
section
variable {prog : Program} {w : World} {A : Around} {E : Value → Shared → Prop} {s : Shared}
def sIx (n d : Nat) : Option Int → Nat
  | none => d
  | some v => if v < 0 then (v + (n : Int)).toNat else min v.toNat n
theorem sIx_none (n d : Nat) : sIx n d none = d := rfl
theorem sIx_nat (n d k : Nat) : sIx n d (some (k : Int)) = min k n := by
  show (if (k : Int) < 0 then ((k : Int) + (n : Int)).toNat else min (k : Int).toNat n) = min k n
  rw [if_neg (by omega), Int.toNat_natCast]
theorem sIx_le (n d : Nat) (hd : d ≤ n) (o : Option Int) : sIx n d o ≤ n := by
  cases o with
  | none => exact hd
  | some v =>
    show (if v < 0 then (v + (n : Int)).toNat else min v.toNat n) ≤ n
    by_cases hv : v < 0
    · rw [if_pos hv]; omega
    · rw [if_neg hv]; exact Nat.min_le_right _ _
end
end HT
namespace L2
open PySem PySem.Spec PyProof.Rows
abbrev TO := St → Hp → (Option Int → Hp → Prop) → Prop
def PO (X : Cx) (e : Option Expr) (t : TO) : Prop :=
  ∀ (pins : List (Addr × Obj)) (s : Shared) (σ : St) (H : Hp) (Q : Option Int → Hp → Prop), Inv X pins σ H s → t σ H Q →
    wpAny (model X.prog X.w) X.A (evalPart e X.env) (fun u s' => ∃ o H', Inv X pins σ H' s' ∧ IsPart u o ∧ Q o H') X.xe s
def tNoPart : TO := fun _ H Q => Q none H
section
variable {X : Cx} {e : Expr} {te : TE} {lo hi : Option Expr} {tl th : TO} {pos p2 : Pos}
theorem po_none : PO X none tNoPart := by
  intro pins s σ H Q I h
  rw [evalPart_none]
  exact wpAny_pure ⟨none, H, I, .none, h⟩
def SlR (X : Cx) (r : V → Option Int → Option Int → Hp → VK → Prop) : Prop :=
  ∀ (pins : List (Addr × Obj)) (s : Shared) (σ : St) (H : Hp) (x : V) (v vl vu : Value) (lo hi : Option Int) (sl : Addr) (Q : VK), Inv X pins σ H s → RelV x v → s.heap.IsSliceOf sl vl vu .none → IsPart vl lo → IsPart vu hi → r x lo hi H Q →
    ∃ T id, typeLookup (.type T) "__getitem__" = pure (some (.builtin id)) ∧ s.TypeIs v T ∧ wpAny (model X.prog X.w) X.A (getItem v (.ref sl)) (EP X pins σ Q) X.xe s
def tSl (r : V → Option Int → Option Int → Hp → VK → Prop) (te : TE) (tl th : TO) : TE := fun σ H Q => te σ H fun x H1 => tl σ H1 fun l H2 => th σ H2 fun u H3 => r x l u H3 Q
theorem pe_slice {r : V → Option Int → Option Int → Hp → VK → Prop} (hr : SlR X r) (he : PE X e te) (hl : PO X lo tl) (hu : PO X hi th) : PE X (.Subscript e (.Slice lo hi none p2) pos) (tSl r te tl th) := by
  intro pins s σ H Q I h
  refine Subscript_ (thn (he pins s σ H _ I h) fun v s1 ⟨x, H1, I1, r1, q1⟩ => ?_)
  refine wpAny_Slice (thn (hl pins s1 σ H1 _ I1 q1) fun vl s2 ⟨l, H2, I2, pl, q2⟩ => thn (hu pins s2 σ H2 _ I2 q2) fun vu s3 ⟨u, H3, I3, pu, q3⟩ => ?_)
  rw [evalPart_none]
  refine wpAny_pure ?_
  have I4 : Inv X pins σ H3 { s3 with heap := s3.heap.push { cls := .type "slice", data := .fields #[vl, vu, .none] } } := I3.kept (t' := s3.toks) fun b ob q => Heap.get?_push_of_some _ q
  obtain ⟨T, id, hT, ht, hg⟩ := hr pins { s3 with heap := s3.heap.push { cls := .type "slice", data := .fields #[vl, vu, .none] } } σ H3 x v vl vu l u s3.heap.objs.size Q I4 r1 (Heap.IsSliceOf.new ..) pl pu q3
  show wpAny (model X.prog X.w) X.A (subscriptTail e (.Slice lo hi none p2) v (.ref s3.heap.objs.size)) (EP X pins σ Q) X.xe { s3 with heap := s3.heap.push { cls := .type "slice", data := .fields #[vl, vu, .none] } }
  exact tail_any (ops := [.ref s3.heap.objs.size, v]) ht hT hg (by with_unfolding_all rfl)
def cutV (xs : List V) (lo hi : Option Int) : List V := (xs.drop (HT.sIx xs.length 0 lo)).take (HT.sIx xs.length xs.length hi - HT.sIx xs.length 0 lo)
theorem cutV_length (xs : List V) (lo hi : Option Int) : (cutV xs lo hi).length ≤ xs.length := by
  unfold cutV
  rw [List.length_take, List.length_drop]
  omega
end
end L2
namespace L2
open PySem PySem.Spec PyProof.Rows
def ixN (n : Nat) (i : Int) : Option Nat := if 0 ≤ i then (if i < n then some i.toNat else none) else if -(n : Int) ≤ i then some (i + n).toNat else none
def atI {α : Type} (xs : List α) (i : Int) : Option α := (ixN xs.length i).bind fun j => xs[j]?
theorem ixN_seq {n : Nat} {i : Int} {j : Nat} (h : ixN n i = some j) : seqIndex? i n = some j ∧ j < n ∧ -(n : Int) ≤ i ∧ i < n := by
  unfold ixN at h
  by_cases h0 : 0 ≤ i
  · rw [if_pos h0] at h
    by_cases h1 : i < n
    · rw [if_pos h1] at h
      have e : i.toNat = j := Option.some.inj h
      exact ⟨by rw [seqIndex_of h0 h1, e], by omega, by omega, h1⟩
    · rw [if_neg h1] at h; cases h
  · rw [if_neg h0] at h
    by_cases h1 : -(n : Int) ≤ i
    · rw [if_pos h1] at h
      have e : (i + n).toNat = j := Option.some.inj h
      exact ⟨by rw [seqIndex_neg (by omega) h1, e], by omega, h1, by omega⟩
    · rw [if_neg h1] at h; cases h
theorem atI_get {α : Type} {xs : List α} {i : Int} {v : α} (h : atI xs i = some v) : ∃ j, seqIndex? i xs.length = some j ∧ xs[j]? = some v ∧ j < xs.length ∧ -(xs.length : Int) ≤ i ∧ i < xs.length := by
  unfold atI at h
  cases e : ixN xs.length i with
  | none => rw [e] at h; cases h
  | some j =>
    rw [e] at h
    obtain ⟨h1, h2, h3, h4⟩ := ixN_seq e
    exact ⟨j, h1, h, h2, h3, h4⟩
theorem atI_nat {α : Type} {xs : List α} {j : Nat} {v : α} (h : xs[j]? = some v) : atI xs (j : Int) = some v := by
  have hj : j < xs.length := (List.getElem?_eq_some_iff.mp h).1
  have e : ixN xs.length (j : Int) = some j := by
    unfold ixN
    rw [if_pos (by omega), if_pos (by omega)]; simp
  unfold atI; rw [e]; exact h
def PlainIx (b : Expr) : Prop := ∀ o i, subscripted b false o i = operate [o, i] (getItem o i)
def IxR (X : Cx) (r : R2) : Prop :=
  ∀ (value slice : Expr) (pins : List (Addr × Obj)) (s : Shared) (σ : St) (H : Hp) (x y : V) (v u : Value) (Q : VK), Inv X pins σ H s → RelV x v → RelV y u → r x y H Q →
    subscripted slice false v u = operate [v, u] (getItem v u) → wpAny (model X.prog X.w) X.A (subscriptTail value slice v u) (EP X pins σ Q) X.xe s
def MtR (X : Cx) (id : String) (r : V → List V → Hp → VK → Prop) : Prop :=
  ∀ (pins : List (Addr × Obj)) (s : Shared) (σ : St) (H : Hp) (x : V) (xs : List V) (v : Value) (us : List Value) (Q : VK), Inv X pins σ H s → RelV x v → Vals xs us → r x xs H Q →
    wpAny (model X.prog X.w) X.A (call (.builtin id) (v :: us)) (EP X pins σ Q) X.xe s
section
variable {X : Cx} {a b : Expr} {ta tb : TE} {pos : Pos}
theorem pe_ix {r : R2} (hr : IxR X r) (ha : PE X a ta) (hb : PE X b tb) (hs : PlainIx b) : PE X (.Subscript a b pos) (tOp r ta tb) := by
  intro pins s σ H Q I h
  exact Subscript_ (binT ha hb I h fun v u s2 x y H2 I2 rx ry q => hr a b pins s2 σ H2 x y v u Q I2 rx ry q (hs _ _))
def rIxL (K : PySem.W.Frag) : R2 := fun x y H Q => ∃ p xs i v, x = .ref p ∧ y = .int i ∧ SqL K H p xs ∧ atI xs i = some v ∧ Q v H
def rIxT (K : PySem.W.Frag) : R2 := fun x y H Q => ∃ p xs i v, x = .ref p ∧ y = .int i ∧ SqT K H p xs ∧ atI xs i = some v ∧ Q v H
def rIxS : R2 := fun x y H Q => ∃ z i c, x = .str z ∧ y = .int i ∧ z.length ≤ sizeLine ∧ atI z.cps.toList i = some c ∧ Q (.str ⟨#[c]⟩) H
theorem ix_list : IxR X (rIxL X.K) := by
  intro value slice pins s σ H x y v u Q I rx ry h hs
  obtain ⟨p, xs, i, z, rfl, rfl, hq, he, q⟩ := h
  cases rx
  obtain ⟨t, rfl⟩ := ry
  obtain ⟨its, r, pl, hz⟩ := I.list hq
  obtain ⟨j, h1, h2, h3, h4, h5⟩ := atI_get he
  obtain ⟨w, ew, rw'⟩ := r.get h2
  have hl := r.length
  have hn := line63
  have fin : EP X pins σ Q w s := ⟨z, H, I, rw', q⟩
  by_cases h0 : 0 ≤ i
  · have hj : i.toNat = j := by
      rw [seqIndex_of h0 h5] at h1
      exact Option.some.inj h1
    exact item_listR pl.isList h0 (by omega) (by rw [hj]; simpa using ew) fin hs
  · have hj : (i + (its.toArray.size : Int)).toNat = j := by
      rw [seqIndex_neg (by omega) h4] at h1
      rw [List.size_toArray, ← hl]
      exact Option.some.inj h1
    exact subscriptTail_builtinR (x := w) pl.isList.typeIs slot_list_getitem.lookup
      (wpAny_getItem_list_neg (Q := fun r s' => r = w ∧ EP X pins σ Q r s') pl.isList (by omega) (by rw [List.size_toArray] <;> omega) (by omega) (by rw [hj]; simpa using ew) ⟨rfl, fin⟩) hs
theorem ix_tup : IxR X (rIxT X.K) := by
  intro value slice pins s σ H x y v u Q I rx ry h hs
  obtain ⟨p, xs, i, z, rfl, rfl, hq, he, q⟩ := h
  cases rx
  obtain ⟨t, rfl⟩ := ry
  obtain ⟨its, r, pl, hz⟩ := I.tuple hq
  obtain ⟨j, h1, h2, h3, h4, h5⟩ := atI_get he
  obtain ⟨w, ew, rw'⟩ := r.get h2
  have hl := r.length
  have hn := line63
  have fin : EP X pins σ Q w s := ⟨z, H, I, rw', q⟩
  exact subscriptTail_builtinR (x := w) pl.typeIs slot_tuple_getitem.lookup
    (getItem_tuple (j := j) (Q := fun r s' => r = w ∧ EP X pins σ Q r s') pl (by omega) (by omega) (by rw [List.size_toArray, ← hl]; exact h1) (by simpa using ew) ⟨rfl, fin⟩) hs
theorem ix_str : IxR X rIxS := by
  intro value slice pins s σ H x y v u Q I rx ry h hs
  obtain ⟨z, i, c, rfl, rfl, hz, he, q⟩ := h
  obtain ⟨t, rfl⟩ := rx
  obtain ⟨t', rfl⟩ := ry
  obtain ⟨j, h1, h2, h3, h4, h5⟩ := atI_get he
  have hl : z.cps.toList.length = z.length := by simp [Str.length]
  rw [hl] at h1 h4 h5
  have hn := line63
  exact tail_any (typeIs_str s z t) slot_str_getitem.lookup (getItem_str (c := c) (by
    have e1 : decide (i < -(2 ^ 63 : Int)) = false := decide_eq_false (by omega)
    have e2 : decide (i ≥ 2 ^ 63) = false := decide_eq_false (by omega)
    rw [e1, e2, Bool.or_false]) (by rw [h1]; simpa using h2) ⟨.str ⟨#[c]⟩, H, I.tok _, ⟨_, rfl⟩, q⟩) hs
theorem mapSeq_set (its : List Value) (n j : Nat) (u : Value) : Obj.mapSeq (·.setIfInBounds j u) { cls := .type "list", data := .seq its.toArray n } = { cls := .type "list", data := .seq (its.set j u).toArray n } := by
  simp [Obj.mapSeq]
theorem Inv.lst {pins : List (Addr × Obj)} {σ : St} {H : Hp} {s : Shared} {p : Addr} {xs : List V} (I : Inv X pins σ H s) (h : H p = some (.lst xs)) :
    ∃ (its : List Value) (n : Nat), Vals xs its ∧ s.heap.get? p = some { cls := .type "list", data := .seq its.toArray n } ∧ xs.length ≤ sizeLine := by
  obtain ⟨z, its, n, r, e⟩ := I.hok p _ h
  exact ⟨its, n, r, e, z⟩
theorem Inv.lstUpd {pins : List (Addr × Obj)} {σ : St} {H : Hp} {s : Shared} {p : Addr} {xs ys : List V} {its its' : List Value} {n n' : Nat} {f : Obj → Obj} (I : Inv X pins σ H s) (h : H p = some (.lst xs))
    (ho : s.heap.get? p = some { cls := .type "list", data := .seq its.toArray n }) (hf : f { cls := .type "list", data := .seq its.toArray n } = { cls := .type "list", data := .seq its'.toArray n' }) (r : Vals ys its') (hz : ys.length ≤ sizeLine) (t : Nat) :
    Inv X pins σ (upd H p (.lst ys)) { s with heap := s.heap.update p f, toks := t } := by
  have e : (s.heap.update p f).get? p = some { cls := .type "list", data := .seq its'.toArray n' } := by
    rw [Heap.get?_update_self f ho (by rw [hf] <;> rfl), hf]
  refine I.write (x := p) (e := p) (by rw [h]; trivial) (.inl rfl) (fun b u hb q => (Heap.get?_update_other _ _ (Ne.symm hb)).trans q) ⟨_, e⟩ ?_
  exact ⟨hz, its', n', r, e⟩
def rSetL : V → V → V → Hp → (Hp → Prop) → Prop := fun o i v H Q => ∃ p xs k j, o = .ref p ∧ i = .int k ∧ H p = some (.lst xs) ∧ ixN xs.length k = some j ∧ Q (upd H p (.lst (xs.set j v)))
theorem set_list : PSet X rSetL := by
  intro pins s σ H o i v ov iv u Q I ro ri rv h
  obtain ⟨p, xs, k, j, rfl, rfl, hp, hj, q⟩ := h
  cases ro
  obtain ⟨t, rfl⟩ := ri
  obtain ⟨its, n, r, ho, hz⟩ := I.lst hp
  obtain ⟨h1, h2, h3, h4⟩ := ixN_seq hj
  have hl := r.length
  have hn := line63
  have I' : Inv X pins σ (upd H p (.lst (xs.set j v))) { s with heap := s.heap.update p (Obj.mapSeq (·.setIfInBounds j u)) } :=
    I.lstUpd hp ho (mapSeq_set its n j u) (r.set rv j) (by rw [List.length_set]; exact hz) s.toks
  by_cases h0 : 0 ≤ k
  · have hk : k.toNat = j := by
      rw [seqIndex_of h0 h4] at h1
      exact Option.some.inj h1
    exact PySem.W.ki_setAt ho h0 (by omega) (by rw [List.size_toArray, ← hl]; exact h4) (by rw [hk]; exact ⟨_, I', q⟩)
  · have hk : (k + (its.toArray.size : Int)).toNat = j := by
      rw [seqIndex_neg (by omega) h3] at h1
      rw [List.size_toArray, ← hl]
      exact Option.some.inj h1
    exact PySem.W.ki_setBack ho (by omega) (by rw [List.size_toArray, ← hl]; exact h3) (by omega) (by rw [hk]; exact ⟨_, I', q⟩)
theorem slice_bounds (lo hi : Option Int) (n : Nat) : (sliceBounds lo hi none n).1 = ((HT.sIx n 0 lo : Nat) : Int) ∧ (sliceBounds lo hi none n).2.1 = ((HT.sIx n n hi : Nat) : Int) ∧ (sliceBounds lo hi none n).2.2 = 1 := by
  refine ⟨?_, ?_, rfl⟩
  · cases lo with
    | none => simp [sliceBounds, HT.sIx]
    | some i =>
      simp only [sliceBounds, HT.sIx, Option.getD_none, show (1 : Int) > 0 by decide, if_true]
      by_cases h : i < 0
      · simp only [h, if_true] <;> omega
      · simp only [h, if_false] <;> omega
  · cases hi with
    | none => simp [sliceBounds, HT.sIx]
    | some i =>
      simp only [sliceBounds, HT.sIx, Option.getD_none, show (1 : Int) > 0 by decide, if_true]
      by_cases h : i < 0
      · simp only [h, if_true] <;> omega
      · simp only [h, if_false] <;> omega
theorem slicePick_cut (its : List Value) (lo hi : Option Int) : slicePick its.toArray lo hi none = ((its.drop (HT.sIx its.length 0 lo)).take (HT.sIx its.length its.length hi - HT.sIx its.length 0 lo)).toArray := by
  obtain ⟨h1, h2, h3⟩ := slice_bounds lo hi its.toArray.size
  unfold slicePick
  rw [h1, h2, h3]
  simp only [sliceRange_one, pick_run, List.size_toArray] <;> rfl
def rSlL (K : PySem.W.Frag) : V → Option Int → Option Int → Hp → VK → Prop := fun x lo hi H Q => ∃ a xs, x = .ref a ∧ SqL K H a xs ∧ ∀ p, H p = none → Q (.ref p) (upd H p (.lst (cutV xs lo hi)))
theorem sl_list : SlR X (rSlL X.K) := by
  intro pins s σ H x v vl vu lo hi sl Q I rx hs pl pu h
  obtain ⟨a, xs, rfl, hx, q⟩ := h
  cases rx
  obtain ⟨its, r, ht, hz⟩ := I.list hx
  have hlen := r.length
  refine ⟨"list", _, slot_list_getitem.lookup, ht.isList.typeIs, ?_⟩
  refine wpAny_getItem_list_slice ht.isList hs pl pu .none (by simp) ?_ (by rw [List.size_toArray] <;> omega)
  rw [slicePick_cut, ← hlen]
  refine ⟨.ref s.heap.objs.size, _, I.laid (t' := s.toks) (o := .lst (cutV xs lo hi)) (fun b ob q => Heap.get?_push_of_some _ q) (Nat.le_refl _) ?_, rfl, q _ (I.hok.fresh (Nat.le_refl _))⟩
  exact ⟨Nat.le_trans (cutV_length xs lo hi) hz, _, 0, (r.drop (HT.sIx xs.length 0 lo)).take (HT.sIx xs.length xs.length hi - HT.sIx xs.length 0 lo), Heap.get?_push_size _ rfl⟩
def flatV : V → Bool
  | .non => true
  | .bl _ => true
  | .int _ => true
  | .str _ => true
  | _ => false
def eqV : V → V → Bool
  | .non, .non => true
  | .bl a, .bl b => a == b
  | .bl a, .int b => (if a then 1 else 0) == b
  | .int a, .bl b => a == (if b then 1 else 0)
  | .int a, .int b => a == b
  | .str a, .str b => a == b
  | _, _ => false
theorem eqAt_V {A : Around} {s : Shared} {y x : V} {u v : Value} (ry : RelV y u) (rx : RelV x v) (fy : flatV y = true) (fx : flatV x = true) : SeqAt.EqAt A s u v (eqV y x) := by
  cases y with
  | non =>
    cases ry
    cases x with
    | non => cases rx; exact SeqAt.EqAt.same _
    | bl b => cases rx; exact SeqAt.EqAt.none_bool b
    | int b => obtain ⟨t, rfl⟩ := rx; exact SeqAt.EqAt.none_int b t
    | str b => obtain ⟨t, rfl⟩ := rx; exact SeqAt.EqAt.none_str b t
    | _ => exact absurd (show false = true from fx) Bool.false_ne_true
  | bl a =>
    cases ry
    cases x with
    | non => cases rx; exact SeqAt.EqAt.bool_none a
    | bl b => cases rx; exact SeqAt.EqAt.bool_bool a b
    | int b => obtain ⟨t, rfl⟩ := rx; exact SeqAt.EqAt.bool_int a b t
    | str b => obtain ⟨t, rfl⟩ := rx; exact SeqAt.EqAt.bool_str a b t
    | _ => exact absurd (show false = true from fx) Bool.false_ne_true
  | int a =>
    obtain ⟨t', rfl⟩ := ry
    cases x with
    | non => cases rx; exact SeqAt.EqAt.int_none a t'
    | bl b => cases rx; exact SeqAt.EqAt.int_bool a t' b
    | int b => obtain ⟨t, rfl⟩ := rx; exact SeqAt.EqAt.int_int a t' b t
    | str b => obtain ⟨t, rfl⟩ := rx; exact SeqAt.EqAt.int_str a t' b t
    | _ => exact absurd (show false = true from fx) Bool.false_ne_true
  | str a =>
    obtain ⟨t', rfl⟩ := ry
    cases x with
    | non => cases rx; exact SeqAt.EqAt.str_none a t'
    | bl b => cases rx; exact SeqAt.EqAt.str_bool a t' b
    | int b => obtain ⟨t, rfl⟩ := rx; exact SeqAt.EqAt.str_int a t' b t
    | str b => obtain ⟨t, rfl⟩ := rx; exact SeqAt.EqAt.str_str a t' b t
    | _ => exact absurd (show false = true from fx) Bool.false_ne_true
  | _ => exact absurd (show false = true from fy) Bool.false_ne_true
def eqU (x : V) (u : Value) : Bool := match u with
  | .none => eqV .non x
  | .bool b => eqV (.bl b) x
  | .int i _ => eqV (.int i) x
  | .str z _ => eqV (.str z) x
  | _ => false
theorem eqU_of {x y : V} {u : Value} (r : RelV y u) (f : flatV y = true) : eqU x u = eqV y x := by
  cases y with
  | non => cases r; rfl
  | bl b => cases r; rfl
  | int i => obtain ⟨t, rfl⟩ := r; rfl
  | str z => obtain ⟨t, rfl⟩ := r; rfl
  | _ => exact absurd (show false = true from f) Bool.false_ne_true
theorem any_eqU {x : V} : ∀ {xs : List V} {us : List Value}, Vals xs us → xs.all flatV = true → us.any (eqU x) = xs.any fun y => eqV y x
  | _, _, .nil, _ => rfl
  | y :: xs, u :: us, .cons r t, f => by
    rw [List.all_cons, Bool.and_eq_true] at f
    rw [List.any_cons, List.any_cons, eqU_of r f.1, any_eqU t f.2]
theorem mem_eqAt {A : Around} {s : Shared} {x : V} {v : Value} (rx : RelV x v) (fx : flatV x = true) : ∀ {xs : List V} {us : List Value}, Vals xs us → xs.all flatV = true → ∀ u ∈ us, SeqAt.EqAt A s u v (eqU x u)
  | _, _, .nil, _ => fun u hu => by cases hu
  | y :: xs, u :: us, .cons r t, f => fun u' hu => by
    rw [List.all_cons, Bool.and_eq_true] at f
    rcases List.mem_cons.mp hu with rfl | hu
    · rw [eqU_of r f.1]; exact eqAt_V r rx f.1 fx
    · exact mem_eqAt rx fx t f.2 u' hu
def inV (x : V) (xs : List V) : Bool := xs.any fun y => eqV y x
def rIn (K : PySem.W.Frag) (neg : Bool) : R2 := fun x y H Q => ∃ p xs, y = .ref p ∧ (SqL K H p xs ∨ SqT K H p xs) ∧ flatV x = true ∧ xs.all flatV = true ∧ Q (.bl (if neg then !inV x xs else inV x xs)) H
theorem op_in_seq : OpR X (compareOp .In) (rIn X.K false) := by
  intro pins s σ H x y v u Q I rx ry h
  obtain ⟨p, xs, rfl, hq, fx, fs, q⟩ := h
  cases ry
  rcases hq with hq | hq
  · obtain ⟨its, r, pl, hz⟩ := I.list hq
    refine SeqAt.in_listAt (eqU x) pl.isList (fun w hw => mem_eqAt rx fx r fs w (by simpa using hw)) ⟨.bl _, H, I, rfl, ?_⟩
    rw [show its.toArray.any (eqU x) = its.any (eqU x) by simp, any_eqU r fs]
    exact q
  · obtain ⟨its, r, pl, hz⟩ := I.tuple hq
    refine SeqAt.in_tupleAt (eqU x) pl (fun w hw => mem_eqAt rx fx r fs w (by simpa using hw)) ⟨.bl _, H, I, rfl, ?_⟩
    rw [show its.toArray.any (eqU x) = its.any (eqU x) by simp, any_eqU r fs]
    exact q
theorem call_len_seq : CallR X (.builtin "len") (fun xs H Q => ∃ p ys, xs = [.ref p] ∧ (SqL X.K H p ys ∨ SqT X.K H p ys) ∧ Q (.int ys.length) H) := by
  intro pins s σ H xs us Q I r h
  obtain ⟨p, ys, rfl, hq, q⟩ := h
  obtain ⟨u, rfl, rx⟩ := vals1 r
  cases rx
  have hn := line63
  rcases hq with hq | hq
  · obtain ⟨its, r', pl, hz⟩ := I.list hq
    have hlen := r'.length
    exact Calls.call_len_list pl.isList (by simp only [List.size_toArray] <;> omega) ⟨.int ys.length, H, I.tok _, ⟨s.toks + 1, by rw [List.size_toArray, hlen]⟩, q⟩
  · obtain ⟨its, r', pl, hz⟩ := I.tuple hq
    have hlen := r'.length
    exact len_tuple pl (by simp only [List.size_toArray] <;> omega) ⟨.int ys.length, H, I.tok _, ⟨s.toks + 1, by rw [List.size_toArray, hlen]⟩, q⟩
theorem call_len_str : CallR X (.builtin "len") (fun xs H Q => ∃ z, xs = [.str z] ∧ z.length ≤ sizeLine ∧ Q (.int z.length) H) := by
  intro pins s σ H xs us Q I r h
  obtain ⟨z, rfl, hz, q⟩ := h
  obtain ⟨u, rfl, t, rfl⟩ := vals1 r
  have hn := line63
  exact len_str (by omega) ⟨.int z.length, H, I.tok _, ⟨_, rfl⟩, q⟩
def tyV (K : PySem.W.Frag) (T : String) (x : V) (H : Hp) : Prop := match x with
  | .str _ => T = "str"
  | .int _ => T = "int"
  | .ref p => (T = "list" ∧ ∃ xs, SqL K H p xs) ∨ (T = "tuple" ∧ ∃ o, K.lookup p = some o ∧ o.cls = .type "tuple" ∧ o.dict = none) ∨
      (T = "dict" ∧ ((∃ kvs, H p = some (.dK kvs)) ∨ ∃ kvs, H p = some (.dT kvs))) ∨ (T = "set" ∧ ∃ S n, H p = some (.set S n))
  | _ => False
theorem tyV_is {pins : List (Addr × Obj)} {σ : St} {H : Hp} {s : Shared} {T : String} {x : V} {v : Value} (I : Inv X pins σ H s) (r : RelV x v) (ty : tyV X.K T x H) :
    s.TypeIs v T ∧ ∀ a, v = .ref a → ∃ ob, s.heap.get? a = some ob ∧ ob.dict = none := by
  cases x with
  | str z =>
    obtain ⟨t, rfl⟩ := r
    cases (show T = "str" from ty)
    exact ⟨typeIs_str s z t, fun _ e => nomatch e⟩
  | int i =>
    obtain ⟨t, rfl⟩ := r
    cases (show T = "int" from ty)
    exact ⟨typeIs_int s i t, fun _ e => nomatch e⟩
  | ref p =>
    cases r
    rcases ty with ⟨rfl, xs, hq⟩ | ⟨rfl, o, hk, hc, hd⟩ | ⟨rfl, hk⟩ | ⟨rfl, S, n, hk⟩
    · obtain ⟨its, _, pl, _⟩ := I.list hq
      refine ⟨pl.isList.typeIs, fun a e => ?_⟩
      cases e
      obtain ⟨o, n, e, c, hd, _⟩ := pl
      exact ⟨o, e, hd⟩
    · refine ⟨⟨o, I.kIn p o hk, hc⟩, fun a e => ?_⟩
      cases e
      exact ⟨o, I.kIn _ o hk, hd⟩
    · have z : ∃ o, s.heap.get? p = some o ∧ o.ExactDict := by
        rcases hk with ⟨kvs, hk⟩ | ⟨kvs, hk⟩
        · obtain ⟨_, _, _, _, o, _, _, e, ex, _⟩ := I.hok p _ hk
          exact ⟨o, e, ex⟩
        · obtain ⟨_, _, _, _, o, _, _, e, ex, _⟩ := I.hok p _ hk
          exact ⟨o, e, ex⟩
      obtain ⟨o, e, ex⟩ := z
      refine ⟨⟨o, e, ex.1⟩, fun a e2 => ?_⟩
      cases e2
      exact ⟨o, e, ex.2.1⟩
    · obtain ⟨o, _, _, _, e, ex, _⟩ := I.hok p _ hk
      refine ⟨⟨o, e, ex.1⟩, fun a e2 => ?_⟩
      cases e2
      exact ⟨o, e, ex.2.1⟩
  | _ => exact False.elim ty
def tBM (K : PySem.W.Frag) (T : String) (r : V → List V → Hp → VK → Prop) (to : TE) (t : TA) : TE := fun σ H Q => to σ H fun x H1 => tyV K T x H1 ∧ t σ H1 fun xs H2 => r x xs H2 Q
variable {o e : Expr} {es : List Expr} {to : TE} {t : TA} {name : Str} {apos cpos : Pos} {T id : String} {r : V → List V → Hp → VK → Prop}
theorem pe_bm (pa : PlainAttrs T) (slot : Slot T name id) (hty : typeOf (.builtin id) = pure (.type "method_descriptor")) (hm : MtR X id r) (ho : PE X o to) (ha : PA X (e :: es) t)
    (hbase : attributeBase o name X.env (eval o X.env) = eval o X.env := by rfl)
    (hfew : ((backTo cpos (starEach (e :: es) X.env)).all (fun x => !x.1) && (backToKw cpos (keywordEach [] X.env)).all (fun x => x.1.isSome)
      && decide ((e :: es).length + ([] : List Keyword).length + (if ([] : List Keyword).isEmpty then 0 else 1) < 30)) = true := by rfl)
    (hline : (apos.endLine == cpos.line) = true := by rfl) (hs : starEach (e :: es) X.env = (false, eval e X.env) :: starEach es X.env := by rfl) (hplain : (backTo cpos (starEach es X.env)).any (·.1) = false := by rfl) :
    PE X (.Call (.Attribute o name apos) (e :: es) [] cpos) (tBM X.K T r to t) := by
  intro pins s σ H Q I h
  refine wpAny_Call_method_late hbase hfew hline rfl (thn (ho pins s σ H _ I h) fun v s1 ⟨x, H1, I1, r1, ty, q1⟩ => ?_)
  obtain ⟨h1, h2⟩ := tyV_is I1 r1 ty
  refine ⟨T, id, pa, slot, hty, h1, h2, ?_⟩
  have hA := ha cpos pins s1 σ H1 _ I1 q1
  rw [hs] at hA ⊢
  refine Calls.callWith_builtin (by show (false || (backTo cpos (starEach es X.env)).any (·.1)) = false; rw [hplain] <;> rfl) (Calls.evalArgs_plain ?_)
  exact thn hA fun us s2 ⟨vs, H2, I2, r2, q2⟩ => hm pins s2 σ H2 x vs v us Q I2 r1 r2 q2
end
end L2
namespace L2
open PySem PySem.Spec PyProof.Rows
def MtM (X : Cx) (id : String) (r : V → List V → Hp → VK → Prop) : Prop :=
  ∀ (pins : List (Addr × Obj)) (s : Shared) (σ : St) (H : Hp) (x : V) (xs : List V) (v : Value) (us : List Value) (Q : VK), Inv X pins σ H s → RelV x v → Vals xs us → r x xs H Q →
    wpAny (model X.prog X.w) X.A (call (.builtin id) (v :: us)) (EP X pins σ Q) X.xe s
theorem Vals.one : ∀ {x : V} {us : List Value}, Vals [x] us → ∃ u, us = [u] ∧ RelV x u
  | _, _, .cons r .nil => ⟨_, rfl, r⟩
theorem Vals.zero : ∀ {us : List Value}, Vals [] us → us = []
  | _, .nil => rfl
section
variable {X : Cx} {pins : List (Addr × Obj)} {σ : St} {H : Hp} {s : Shared} {l b : Addr} {xs ys zs : List V}
theorem Inv.lset {its its' : List Value} {n : Nat} {f : Array Value → Array Value} {t' : Nat} (I : Inv X pins σ H s) (hH : H l = some (.lst xs))
    (e : s.heap.get? l = some { cls := .type "list", data := .seq its.toArray n }) (hf : f its.toArray = its'.toArray) (hv : Vals ys its') (hz : ys.length ≤ sizeLine) :
    Inv X pins σ (upd H l (.lst ys)) { s with heap := s.heap.update l (Obj.mapSeq f), toks := t' } := by
  have q := PySem.IsL.update e f
  rw [hf] at q
  refine I.write (x := l) (e := l) (by rw [hH]; exact trivial) (.inl rfl) (fun b' u hb hu => (Heap.get?_update_other s.heap (Obj.mapSeq f) (Ne.symm hb)).trans hu) ⟨_, q⟩ ?_
  exact ⟨hz, its', _, hv, q⟩
theorem Inv.lnew {its : List Value} {t' : Nat} (I : Inv X pins σ H s) (hv : Vals ys its) (hz : ys.length ≤ sizeLine) :
    Inv X pins σ (upd H s.heap.objs.size (.lst ys)) { s with heap := s.heap.push { cls := .type "list", data := .seq its.toArray }, toks := t' } :=
  I.laid (fun _ _ q => Heap.get?_push_of_some _ q) (Nat.le_refl _) ⟨hz, its, 0, hv, Heap.get?_push_size _ rfl⟩
theorem Inv.fresh (I : Inv X pins σ H s) : H s.heap.objs.size = none := I.hok.fresh (Nat.le_refl _)
theorem Inv.lstM (I : Inv X pins σ H s) (hH : H l = some (.lst xs)) : xs.length ≤ sizeLine ∧ ∃ (its : List Value) (n : Nat), Vals xs its ∧ xs.length = its.length ∧ s.heap.get? l = some { cls := .type "list", data := .seq its.toArray n } := by
  obtain ⟨z, its, n, r, e⟩ := I.hok l _ hH
  exact ⟨z, its, n, r, r.length, e⟩
end
section
variable {X : Cx}
def rAppend : V → List V → Hp → VK → Prop := fun x vs H Q => ∃ l xs y, x = .ref l ∧ vs = [y] ∧ H l = some (.lst xs) ∧ xs.length < sizeLine ∧ Q .non (upd H l (.lst (xs ++ [y])))
theorem mt_append : MtM X "list.append" rAppend := by
  intro pins s σ H x vs v us Q I rx rv h
  obtain ⟨l, xs, y, rfl, rfl, hH, hz, q⟩ := h
  cases rx
  obtain ⟨u, rfl, ru⟩ := rv.one
  obtain ⟨z, its, n, r, hl, e⟩ := I.lstM hH
  refine call_meets F.slot_list_append ⟨_, e, rfl⟩ F.entry_list_append (F.args_list_append_2 _ _) (PySem.list_append l its.toArray n u (by rw [List.size_toArray]; omega)) ⟨e, ?_⟩
  refine ⟨.non, _, I.lset (its' := its ++ [u]) hH e (by simp) (r.append (.cons ru .nil)) ?_, rfl, q⟩
  rw [List.length_append, List.length_singleton]
  omega
def rCat : R2 := fun x y H Q => ∃ l b xs zs, x = .ref l ∧ y = .ref b ∧ H l = some (.lst xs) ∧ H b = some (.lst zs) ∧ xs.length + zs.length ≤ sizeLine ∧ ∀ p, H p = none → Q (.ref p) (upd H p (.lst (xs ++ zs)))
theorem op_cat : OpR X (binaryOp .Add) rCat := by
  intro pins s σ H x y v u Q I rx ry h
  obtain ⟨l, b, xs, zs, rfl, rfl, hH, hB, hz, q⟩ := h
  cases rx
  cases ry
  obtain ⟨z, its, n, r, hl, e⟩ := I.lstM hH
  obtain ⟨z2, its2, n2, r2, hl2, e2⟩ := I.lstM hB
  refine PySem.P.add_list e e2 ?_ (by rw [List.size_toArray, List.size_toArray]; omega)
  have ea : its.toArray ++ its2.toArray = (its ++ its2).toArray := by simp
  rw [ea]
  exact ⟨.ref _, _, I.lnew (t' := s.toks) (r.append r2) (by rw [List.length_append]; omega), rfl, q _ I.fresh⟩
end
section
variable {prog : Program} {w : World} {A : Around} {E : Value → Shared → Prop} {s : Shared}
end
section
variable {X : Cx}
end
end L2
namespace Att
open PySem PySem.W PySem.Calls PyProof.Rows
theorem ints_of_wellAll {P : Params} {h : Heap} : ∀ (ns : List Int) (vs : List Value), WellAll P h vs (ns.map WData.int) → IntsAre vs ns := by
  intro ns
  induction ns with
  | nil =>
    intro vs w
    rw [List.map_nil] at w
    cases w
    exact .nil
  | cons n ns ih =>
    intro vs w
    rw [List.map_cons] at w
    cases w with
    | cons a b =>
      cases a
      exact .cons _ _ (ih _ b)
theorem script_of {l : OpenLaw} {n : Nat} (hn : l.most = some n) {P : Params} {h : Heap} {args : List WData} {vals : List Value}
    (hpre : l.row.toRowW.claim.pre args = true) (hwl : WellAll P h vals args) :
    ∃ a vs ns, vals = [Value.ref a] ∧ args = [WData.list (ns.map WData.int)] ∧ h.get? a = some { cls := .type "list", data := .seq vs.toArray } ∧ IntsAre vs ns ∧ ns.length ≤ n := by
  have hsh : WShape.hasAll [] args [.list .int] = true := (pre_splitW hpre).1
  have hc : l.pre.holds [] { args := args } = true := (pre_splitW hpre).2
  obtain ⟨d, r, rfl, h1, h2⟩ := hasAllW_cons hsh
  obtain rfl := hasAllW_nil h2
  obtain ⟨xs, rfl, h3⟩ := hasW_list h1
  obtain ⟨ns, rfl⟩ := items_int h3
  have hlen : ns.length ≤ n := by
    unfold OpenLaw.pre at hc
    have h4 : (WTm.not (.lt (.lit (.int (n : Int))) (.len (.arg 0)))).holds [] { args := [.list (ns.map .int)] } = true := by
      have h4 := (holds_andW hc).1
      rw [hn] at h4
      exact h4
    have h5 := condW_of h4 (w_not (w_lt w_lit (w_len_list (w_arg rfl))))
    rw [List.length_map] at h5
    refine Nat.le_of_not_lt fun q => ?_
    have q' : (n : Int) < ((ns.length : Nat) : Int) := by omega
    first
      | (rw [decide_eq_true q'] at h5; exact absurd h5 (by decide))
      | (simp at h5; omega)
  cases hwl with
  | cons w1 w2 =>
    cases w2
    cases w1 with
    | list ho hall => exact ⟨_, _, ns, rfl, rfl, ho, ints_of_wellAll ns _ hall, hlen⟩
theorem post_true (l : OpenLaw) (args : List WData) : l.row.toRowW.claim.post args (.bool true) args = true :=
  postW_of (r := l.row.toRowW) (X := (true == true))
    (show WShape.has [] (.bool true) .bool = true by first | rfl | decide | simp [WShape.has, WShape.arms, WShape.armsAll])
    (show (WTm.eq .res (.lit (.bool true))).value [] { args := args, res := some (.bool true), after := args } = some (.bool (true == true)) from w_eq_bool (w_res rfl) w_lit) rfl
theorem attach_call {l : OpenLaw} {n : Nat} {q : Program} {loose : List Str} {XP : (Str → Option Value) → Heap → Prop} {YP : World → Heap → Prop} {d : DefRec}
    (hn : l.most = some n) (hdf : d.params.defaults = [])
    (call : ∀ (w : World) (s₀ s₁ : Shared) (mg mb : Str → Option Value) (fa : Addr) (o : Obj) (pm cd doc : Value) (a : Addr) (vs : List Value) (ns : List Int),
      Ground q loose [] XP w s₀ mg mb s₁.heap → YP w s₁.heap →
      s₁.heap.get? fa = some o → o.data = .func (docDef d.name d.params d.body d.scope pm cd doc) → s₁.heap.CodeRec cd d.name → mg d.name = some (.ref fa) →
      s₁.heap.get? a = some { cls := .type "list", data := .seq vs.toArray } → IntsAre vs ns → ns.length ≤ n → s₁.gens = #[] →
      codeAny (model l.prog w) callerA (.call (.ref fa) ⟨[.ref a], []⟩) (fun r s' => r = .ok (.ret (.bool true)) ∧ OldK s₁.heap s'.heap ∧ s'.os = s₁.os ∧ AllBare s'.gens) s₁) :
    WalkO q loose XP YP l.row.toRowW d [] (fun f vs => PySem.call f vs) := by
  intro w s₀ s₁ mg mb G Y fa o pm cd doc dV kV ho hd hcd hD hmg hg args vals as hpre hlay hrd hwl hlo
  obtain rfl : dV = .none := Dflts.none hD hdf
  obtain rfl : kV = .none := Dflts.noKw hD
  obtain ⟨a, vs, ns, rfl, rfl, hobj, hints, hlen⟩ := script_of hn hpre hwl
  refine enter_call (codeAny_mono (call w s₀ s₁ mg mb fa o pm cd doc a vs ns G Y ho (fd_plain hd) hcd hmg hobj hints hlen hg) fun r s' hq => ?_)
  obtain ⟨rfl, h2, h3, h4⟩ := hq
  exact ⟨.inl ⟨.bool true, .bool true, [], rfl, fun _ => rfl, .bool true, post_true l _, fun _ => ⟨List.Pairwise.nil, fun _ hm => (nomatch hm)⟩⟩, h2, h3, h4⟩
section
variable {prog : Program} {w : World} {A : Around} {E : Value → Shared → Prop} {s : Shared} {K : Frag}
end
end Att
namespace L2
open PySem PySem.Spec PyProof.Rows
theorem vals_ints : ∀ {vs : List Value} {ns : List Int}, IntsAre vs ns → Vals (ns.map V.int) vs
  | _, _, .nil => .nil
  | _, _, .cons n t h => .cons ⟨t, rfl⟩ (vals_ints h)
def Only (H : Hp) : Prop := ∀ b, H b = none ∨ ∃ o xs, H b = some (.frz o (.lst xs))
theorem law_call {P : Program} {w : World} {K : PySem.W.Frag} {mg mb : Str → Option Value} {CX : CXT} {k : Nat} {fa a : Addr} {fd : FuncData} {x : Str} {sp : Sp} {s₁ : Shared} {vs : List Value} {ns : List Int}
    (KX : K.In s₁.heap) (hns : s₁.heap.Ns mainGlobals mg) (hb : s₁.heap.Ns builtinsNs mb) (hbb : ∀ x : Str, x ≠ "__name__" → mb x = bootBuiltins x) (hlim : s₁.heap.NoLimit) (hg : s₁.gens = #[])
    (ha : s₁.heap.get? a = some { cls := .type "list", data := .seq vs.toArray }) (hi : IntsAre vs ns) (hl : ns.length ≤ sizeLine) (hr : Room k callerA)
    (F : ∀ base : Heap, K.In base → base.Ns mainGlobals mg → FnOk P w K mg base CX k fa fd [x] sp) (hbind : ∀ (s : Shared) (u : Value), BindsTo s fd ⟨[u], []⟩ [(x, u)])
    (hsp : ∀ H : Hp, Only H → SqL K H a (ns.map V.int) → sp [.ref a] H (fun v _ => v = .bl true) fun _ _ _ => False)
    (hCX : ∀ H e s', CX [] H s₁ (fun _ _ _ => False) e s' → False) :
    codeAny (model P w) callerA (.call (.ref fa) ⟨[.ref a], []⟩) (fun r s' => r = .ok (.ret (.bool true)) ∧ OldK s₁.heap s'.heap ∧ s'.os = s₁.os ∧ AllBare s'.gens) s₁ := by
  have rv := vals_ints hi
  have lenV := hi.length
  have core : ∀ H : Hp, Only H → SqL K H a (ns.map V.int) → HOk P w H s₁.heap → (∀ b, H b ≠ none → b = a) → (H a ≠ none → K.lookup a = none) →
      codeAny (model P w) callerA (.call (.ref fa) ⟨[.ref a], []⟩) (fun r s' => r = .ok (.ret (.bool true)) ∧ OldK s₁.heap s'.heap ∧ s'.os = s₁.os ∧ AllBare s'.gens) s₁ := by
    intro H hO hS hok hA hK
    have base_of : ∀ {b : Addr} {o : Obj}, s₁.heap.get? b = some o → H b = none → (hidT s₁.heap H).get? b = some o := fun e n => hidT_get e n
    have noA : ∀ {b : Addr} {o : Obj} {es : Array DictEntry} {ep : Nat}, s₁.heap.get? b = some o → o.data = .dict es ep → H b = none := fun {b o es ep} e d => by
      cases q : H b with
      | none => rfl
      | some u =>
        have e' : b = a := hA b (by rw [q]; simp)
        subst e'
        rw [ha] at e; cases e
        have d' : Data.seq vs.toArray _ = Data.dict es ep := d
        cases d'
    have nsK : ∀ {b : Addr} {m : Str → Option Value}, s₁.heap.Ns b m → (hidT s₁.heap H).Ns b m := fun {b m} ⟨o, es, ep, e, d, r⟩ => ⟨o, es, ep, base_of e (noA e d), d, r⟩
    have hKb : K.In (hidT s₁.heap H) := fun b o e => base_of (KX b o e) (by
      cases q : H b with
      | none => rfl
      | some u =>
        have e' : b = a := hA b (by rw [q]; simp)
        subst e'
        rw [hK (by rw [q]; simp)] at e; cases e)
    have hM : Mod K mg (hidT s₁.heap H) := ⟨hKb, nsK hns, ⟨mb, nsK hb, hbb⟩, let ⟨mc, h1, h2⟩ := hlim; ⟨mc, nsK h1, h2⟩⟩
    have e0 : Env0 P w K mg (hidT s₁.heap H) callerA [] s₁ H := ⟨rfl, hM, fun b o e => of_hidT e, Nat.le_of_eq (hidT_size _ _), trivial, fun b hb => absurd (show b ∈ ([] : List Addr) from hb) (by simp), hok, .of_eq hg⟩
    refine codeAny_mono ((F _ hKb (nsK hns)).run callerA [] s₁ H ⟨[.ref a], []⟩ [.ref a] [.ref a] _ _ hr e0 (hbind s₁ (.ref a)) (.cons rfl .nil) (hsp H hO hS)) fun r s' h => ?_
    cases r with
    | error e => exact (hCX H e s' h).elim
    | ok fl =>
      cases fl with
      | next => exact False.elim h
      | brk => exact False.elim h
      | cont => exact False.elim h
      | ret u =>
        obtain ⟨v, H', os, bare, un, hok', r', q⟩ := h
        have q' : v = .bl true := q
        subst q'
        obtain rfl : u = Value.bool true := r'
        refine ⟨rfl, OldK.of_keep fun b o e => ?_, os, bare⟩
        cases q : H b with
        | none => exact un.keep b o e q (by intro z; exact absurd (show b ∈ ([] : List Addr) from z) (by simp)) (by simp)
        | some u =>
          rcases hO b with z | ⟨ob, xs, z⟩
          · rw [q] at z; cases z
          · have z2 := un.frzs b ob _ z
            obtain ⟨e1, _⟩ := hok b _ z
            obtain ⟨e2, _⟩ := hok' b _ z2
            rw [e] at e1; cases e1
            exact e2
  cases hk : K.lookup a with
  | some o =>
    have e := KX a o hk
    rw [ha] at e
    cases e
    refine core (fun _ => none) (fun _ => .inl rfl) (.inr ⟨_, vs.toArray, _, hk, rfl, rfl, rfl, by rw [List.size_toArray, lenV]; exact hl, by simpa using rv⟩) (fun b u z => by have z' : (none : Option HO) = some u := z; cases z') (fun b z => absurd rfl z) fun z => absurd rfl z
  | none =>
    refine core (fun b => if b = a then some (.frz { cls := .type "list", data := .seq vs.toArray } (.lst (ns.map V.int))) else none) (fun b => ?_) (.inl (.inr ⟨{ cls := .type "list", data := .seq vs.toArray }, if_pos rfl⟩)) (fun b u z => ?_) (fun b z => ?_) fun _ => hk
    · by_cases hb : b = a
      · exact .inr ⟨_, _, if_pos hb⟩
      · exact .inl (if_neg hb)
    · by_cases hb : b = a
      · have z' := (if_pos hb).symm.trans z
        cases z'
        subst hb
        exact ⟨ha, by rw [List.length_map]; exact hl, vs, _, rv, ha⟩
      · have z' := (if_neg hb).symm.trans z
        cases z'
    · by_cases hb : b = a
      · exact hb
      · exact absurd (if_neg hb) z
end L2
namespace L2
open PySem PySem.Spec PyProof.Rows
theorem walk_of {l : PySem.W.OpenLaw} {n k : Nat} {q : Program} {loose : List Str} {XP : (Str → Option Value) → Heap → Prop} {YP : World → Heap → Prop} {d : DefRec} {K : Params → PySem.W.Frag} {CX : World → CXT} {sp : World → Sp} {x : Str}
    (hn : l.most = some n) (hn2 : n ≤ sizeLine) (hdf : d.params.defaults = []) (hr : Room k callerA)
    (hY : ∀ (w : World) (h : Heap), YP w h → (K w.params).In h)
    (F : ∀ (w : World) (mg : Str → Option Value) (fa : Addr) (h : Heap), (K w.params).In h → h.Ns mainGlobals mg → mg d.name = some (.ref fa) →
      ∃ fd : FuncData, (∀ (s : Shared) (u : Value), BindsTo s fd ⟨[u], []⟩ [(x, u)]) ∧
        ∀ base : Heap, (K w.params).In base → base.Ns mainGlobals mg → FnOk l.prog w (K w.params) mg base (CX w) k fa fd [x] (sp w))
    (hsp : ∀ (w : World) (H : Hp) (a : Addr) (ns : List Int), ns.length ≤ n → Only H → SqL (K w.params) H a (ns.map V.int) → sp w [.ref a] H (fun v _ => v = .bl true) fun _ _ _ => False)
    (hCX : ∀ (w : World) (H : Hp) (s : Shared) (e : Value) (s' : Shared), CX w [] H s (fun _ _ _ => False) e s' → False) :
    PySem.W.WalkO q loose XP YP l.row.toRowW d [] (fun f vs => PySem.call f vs) := by
  refine Att.attach_call hn hdf fun w s₀ s₁ mg mb fa o pm cd doc a vs ns G Y ho hd hcd hmg hobj hints hlen hg => ?_
  have KX := hY w _ Y
  obtain ⟨fd, hb, hF⟩ := F w mg fa _ KX G.T.g hmg
  exact law_call KX G.T.g G.T.b G.T.builtins G.T.nolimit hg hobj hints (Nat.le_trans hlen hn2) hr hF hb (fun H hO hS => hsp w H a ns hlen hO hS) fun H e s' => hCX w H s₁ e s'
end L2
namespace L2
open PySem PySem.Spec PyProof.Rows
def defArgs (s : Stmt) : Arguments := match s with
  | .FunctionDef _ a _ _ _ _ _ _ _ _ => a
  | _ => { posonlyargs := [], args := [], vararg := none, kwonlyargs := [], kw_defaults := [], kwarg := none, defaults := [] }
def defBody (s : Stmt) : List Stmt := match s with
  | .FunctionDef _ _ b _ _ _ _ _ _ _ => b
  | _ => []
def defScope (s : Stmt) : Scope := match s with
  | .FunctionDef _ _ _ _ _ _ sc _ _ _ => sc
  | _ => { kind := .function, names := [], isGenerator := false, isCoroutine := false }
abbrev CX0 : CXT := fun _ _ _ _ _ _ => False
abbrev E0 : XK := fun _ _ _ => False
theorem pass0 {X : Cx} : Passes CX0 X E0 := fun _ _ _ _ _ _ _ h => h.elim
structure Fun (K : PySem.W.Frag) (x qual : Str) (st : Stmt) (f : Addr) (fd : FuncData) : Prop where
  ex : ∃ (oc : Value) (od : Option Addr) (kV doc pm : Value) (an : Option Addr) (cdv ct : Value) (osl : Array (Option Value)),
    fd = PySem.W.fnOf x qual (defArgs st) (defBody st) (defScope st) .none kV doc pm an cdv ct ∧ K.lookup f = some ⟨oc, od, .func fd, osl⟩ ∧ PySem.W.codeIn K cdv qual = true
  kp : PySem.W.keepIn K (.ref f) = true
section
variable {P : Program} {w : World} {K : PySem.W.Frag} {mg : Str → Option Value} {base : Heap}
theorem Fun.ok {x qual : Str} {st : Stmt} {f : Addr} {fd : FuncData} {N ps : List Str} {k : Nat} {sp : Sp} (F : Fun K x qual st f fd) (S : FnScope N ps (defScope st)) (len : ∀ vs H Q E, sp vs H Q E → vs.length = ps.length)
    (hbody : ∀ (cdv : Value) (A : Around) (outer : List Env) (s : Shared) (H : Hp) (vs : List V) (Q : VK) (E : XK), Room k (A.deeper (envOfC qual (defScope st) s.heap.objs.size f cdv)) → sp vs H Q E →
      ∃ t, PSs (cxOf CX0 P w K mg base N qual (defScope st) f cdv A outer s H E).nox (defBody st) t ∧ t { nx := fun _ H' => Q .non H', rt := Q } (start N vs) H) : FnOk P w K mg base CX0 (k + 1) f fd ps sp := by
  obtain ⟨oc, od, kV, doc, pm, an, cdv, ct, osl, rfl, lk, hcd⟩ := F.ex
  refine fn_of lk hcd S len fun A outer s H vs Q E hr hsp => ?_
  obtain ⟨t, h, q⟩ := hbody cdv A outer s H vs Q E hr hsp
  exact ⟨t, h.nox, q⟩
theorem Fun.binds {x qual : Str} {st : Stmt} {f : Addr} {fd : FuncData} {ps : List Str} (F : Fun K x qual st f fd)
    (h : ∀ (kV doc pm : Value) (an : Option Addr) (cdv ct : Value) (us : List Value), us.length = ps.length → bindArgs (PySem.W.fnOf x qual (defArgs st) (defBody st) (defScope st) .none kV doc pm an cdv ct) ⟨us, []⟩ = pure (ps.zip us)) : Binds K fd ps [] := by
  obtain ⟨oc, od, kV, doc, pm, an, cdv, ct, osl, rfl, lk, hcd⟩ := F.ex
  exact .all (h kV doc pm an cdv ct)
theorem fun_mk {x qual : Str} {st : Stmt} {f : Addr} {oc : Value} {od an : Option Addr} {osl : Array (Option Value)} {kV doc pm cdv ct : Value} (l : K.lookup f = some ⟨oc, od, .func (PySem.W.fnOf x qual (defArgs st) (defBody st) (defScope st) .none kV doc pm an cdv ct), osl⟩)
    (c : PySem.W.codeIn K cdv qual = true) (k : PySem.W.keepIn K (.ref f) = true) : Fun K x qual st f (PySem.W.fnOf x qual (defArgs st) (defBody st) (defScope st) .none kV doc pm an cdv ct) := ⟨⟨oc, od, kV, doc, pm, an, cdv, ct, osl, rfl, l, c⟩, k⟩
end
section
variable {X : Cx}
end
def Same (H H' : Hp) : Prop := ∀ b o, H b = some o → H' b = some o
theorem Same.refl (H : Hp) : Same H H := fun _ _ h => h
theorem Same.trans {H H1 H2 : Hp} (a : Same H H1) (b : Same H1 H2) : Same H H2 := fun c o h => b c o (a c o h)
theorem Same.free {H H' : Hp} (e : Same H H') {l : Addr} (h : H' l = Option.none) : H l = Option.none := by
  cases q : H l with
  | none => rfl
  | some o =>
    rw [e l o q] at h
    cases h
theorem Same.seq {K : PySem.W.Frag} {H H' : Hp} {a : Addr} {xs : List V} (e : Same H H') (h : SqL K H a xs) : SqL K H' a xs := by
  rcases h with (h | ⟨o, h⟩) | h
  · exact .inl (.inl (e _ _ h))
  · exact .inl (.inr ⟨o, e _ _ h⟩)
  · exact .inr h
end L2
namespace L2
open PySem PySem.Spec PyProof.Rows
def Itp (n : Nat) (f : Nat → V) : It := ⟨fun i _ => i < n, fun i H x H' => H' = H ∧ x = f i, fun i _ => n ≤ i⟩
def ownTups : List String := ["enumerate", "zip", "dict_itemiterator", "dict_reverseitemiterator", "odict_iterator", "itertools.zip_longest", "itertools.pairwise"]
theorem turn_pure {P : Program} {w : World} {K : PySem.W.Frag} {tg : Expr} {it : Addr} {n : Nat} {f : Nat → V} {Pw : Nat → Value → Prop} {St : Nat → Heap → Prop}
    (W : ∀ A : Around, A.handled = none → Walks P w A it [it] [it] n Pw St) (hv : ∀ i v, i < n → Pw i v → RelV (f i) v)
    (ho : ∀ i h, St i h → ∃ o nm vs, h.get? it = some o ∧ o.cls = .type nm ∧ o.data = .fields vs ∧ ownTups.contains nm = false)
    (hself : ∀ (A : Around) (i : Nat) (s : Shared) (Q : Value → Shared → Prop) (E : Value → Shared → Prop), St i s.heap → Q (.ref it) s → wpAny (model P w) A (pyIter (.ref it)) Q E s)
    (hkeep : ∀ i h h', St i h → (∀ b ∈ [it], ∀ o, h.get? b = some o → h'.get? b = some o) → St i h') :
    Turn P w K tg (Itp n f) [it] it (fun i h => i ≤ n ∧ St i h) where
  mem := by simp
  obj := fun i h st b hb => by
    have e : b = it := by simpa using hb
    subst e
    obtain ⟨o, nm, vs, e, c, d, _⟩ := ho i h st.2
    exact ⟨o, e, fun v z => by rw [d] at z; cases z⟩
  keep := fun i h h' st k => ⟨st.1, hkeep i h h' st.2 k⟩
  item := by
    intro X hP hw hK hc i pins s σ H E I hf st hg
    subst hP hw hK
    obtain ⟨f0, f1, f2, f3, f4, f5⟩ := hf it (by simp)
    have hi : i < n := hg
    refine (W X.A (I.ok.hd hc)).item i s _ _ hi st.2 fun v h' tk hv' st' kk => ?_
    have I1 : Inv X pins σ H { s with heap := h', toks := tk } := I.turned (fun b o hb e => kk b o (by simpa using hb) e) f0 f1 f3 f4 f5
    obtain ⟨o, nm, vs, e, c, d, hn⟩ := ho _ _ st'
    exact ⟨_, rfl, go_of (s := { s with heap := h', toks := tk }) (n := nm) e c d hn ⟨f i, H, I1, hv i v hi hv', ⟨rfl, rfl⟩, ⟨hi, st'⟩, fun b hb => (hf b hb).1⟩⟩
  done := by
    intro X hP hw hK hc i pins s σ H E I hf st hg
    subst hP hw hK
    obtain ⟨f0, f1, f2, f3, f4, f5⟩ := hf it (by simp)
    have hi : n ≤ i := hg
    have e : i = n := Nat.le_antisymm st.1 hi
    subst e
    exact (W X.A (I.ok.hd hc)).done s _ _ st.2 fun h' tk kk => ⟨rfl, I.turned (fun b o hb e => kk b o (by simpa using hb) e) f0 f1 f3 f4 f5⟩
  self := fun A i s Q E st h => hself A i s Q E st.2 h
def sgn (x : Str) (i : Nat) : V := .str ⟨#[x.cps.getD i 0]⟩
theorem walks_str {P : Program} {w : World} {it : Addr} {x : Str} {t : Tok} (A : Around) (hA : A.handled = none) : Walks P w A it [it] [it] x.cps.size (SignAt x) (fun i h => h.IsStrIter it (strIterType x) x t i) := by
  cases ha : x.cps.all (· < 128)
  · have e : strIterType x = "str_iterator" := by simp [strIterType, ha]
    rw [e]; exact Walks.strWide hA it x t
  · have e : strIterType x = "str_ascii_iterator" := by simp [strIterType, ha]
    rw [e]; exact Walks.strAscii hA it x t
theorem signAt_rel {x : Str} {i : Nat} {v : Value} (h : SignAt x i v) : RelV (sgn x i) v := by
  obtain ⟨c, u, e, rfl⟩ := h
  refine ⟨u, ?_⟩
  have : x.cps.getD i 0 = c := by simp [Array.getD_eq_getD_getElem?, e]
  rw [this]
theorem strIterType_no (x : Str) : ownTups.contains (strIterType x) = false := by
  unfold strIterType; split <;> decide
theorem turn_str {P : Program} {w : World} {K : PySem.W.Frag} {tg : Expr} (it : Addr) (x : Str) (t : Tok) : Turn P w K tg (Itp x.cps.size (sgn x)) [it] it (fun i h => i ≤ x.cps.size ∧ h.IsStrIter it (strIterType x) x t i) := by
  refine turn_pure (Pw := SignAt x) (fun A hA => walks_str A hA) (fun i v _ h => signAt_rel h) (fun i h st => ?_) (fun A i s Q E st h => ?_) (fun i h h' st k => ?_)
  · obtain ⟨o, e, c, d⟩ := st
    exact ⟨o, _, _, e, c, d, strIterType_no x⟩
  · cases ha : x.cps.all (· < 128)
    · have e : strIterType x = "str_iterator" := by simp [strIterType, ha]
      rw [e] at st; exact wpAny_pyIter_striter_wide st h
    · have e : strIterType x = "str_ascii_iterator" := by simp [strIterType, ha]
      rw [e] at st; exact wpAny_pyIter_striter_ascii st h
  · obtain ⟨o, e, r⟩ := st
    exact ⟨o, k it (by simp) o e, r⟩
section
variable {X : Cx} {tg : Expr}
end
theorem for_pure {n : Nat} {f : Nat → V} {g : TG} {tb : TS} {D : Ends} {σ : St} {H : Hp} (Pv : Nat → St → Hp → Prop) (h0 : Pv 0 σ H)
    (hs : ∀ i σ H, i < n → Pv i σ H → g (f i) σ H fun σ2 H2 => tb { D with nx := Pv (i + 1), ct := Pv (i + 1), bk := D.nx } σ2 H2) (hd : ∀ σ H, Pv n σ H → D.nx σ H) :
    ∃ W : Nat → Nat → St → Hp → Prop, (∃ m, W 0 m σ H) ∧ ∀ i m σ H, W i m σ H →
      ((Itp n f).stop i H ∧ D.nx σ H) ∨ ((Itp n f).go i H ∧ ∃ N : St → Hp → Prop, (∀ σ' H', N σ' H' → ∃ m', m' < m ∧ W (i + 1) m' σ' H') ∧ ∀ x H', (Itp n f).yld i H x H' → g x σ H' fun σ2 H2 => tb { D with nx := N, ct := N, bk := D.nx } σ2 H2) := by
  refine ⟨fun i m σ H => m = n - i ∧ i ≤ n ∧ Pv i σ H, ⟨n, by simp, Nat.zero_le _, h0⟩, ?_⟩
  rintro i m σ H ⟨rfl, hi, p⟩
  by_cases hlt : i < n
  · refine .inr ⟨hlt, Pv (i + 1), fun σ' H' p' => ⟨n - (i + 1), by omega, rfl, hlt, p'⟩, fun x H' y => ?_⟩
    obtain ⟨e, y⟩ := y
    subst e y
    exact hs i σ _ hlt p
  · have e : i = n := by omega
    subst e
    exact .inl ⟨Nat.le_refl _, hd σ H p⟩
end L2
namespace L2
open PySem PySem.Spec PyProof.Rows
theorem Inv.turnedL {X : Cx} {pins : List (Addr × Obj)} {σ : St} {H : Hp} {s : Shared} {h' : Heap} {t' : Nat} {ch : List Addr} (I : Inv X pins σ H s) (k : ∀ b o, b ∉ ch → s.heap.get? b = some o → h'.get? b = some o)
    (hf : ∀ b ∈ ch, FpOk X pins H b) : Inv X pins σ H { s with heap := h', toks := t' } := by
  have nit : ∀ b u, H b = some u → b ∉ ch := fun b u e z => by rw [(hf b z).1] at e; cases e
  refine I.step (g' := s.gens) (d' := s.drawn) (ch := ch) (fun b hb => ?_) (fun b o _ _ hc e _ => k b o hc e) (fun b o _ _ hc e _ => ⟨o.slots, k b o hc e⟩) (fun _ _ _ _ n => n)
    (fun b o hc e => ⟨o, k b o hc e⟩) (fun _ _ e => e) (fun _ _ _ e => e) (fun b ps e => ⟨#[], by rw [e]; simp⟩) (fun m hm => ?_) (fun b u e => ?_) I.bare
  · obtain ⟨f0, f1, f2, f3, f4, f5⟩ := hf b hb
    exact ⟨f3, f1, f4, f5⟩
  · obtain ⟨o, es, ep, ho, r⟩ := hm
    exact ⟨o, es, ep, k _ o (fun z => (hf _ z).2.1 rfl) ho, r⟩
  · refine (I.hok b u e).stay (fun c v hc q => k c v ?_ q) (fun _ q => q) fun _ _ q => q
    rcases hc with z | z
    · rw [z]; exact nit b u e
    · exact nit c _ z
theorem enum_step {X : Cx} {pins : List (Addr × Obj)} {σ : St} {H : Hp} {s : Shared} {h1 : Heap} {tk : Nat} {tk' : Tok} {e it : Addr} {i : Nat} {x : Value} {y : V} {St : Heap → Prop} {elts : List Expr} {kk : Nat} {pos : Pos} {E : Value → Shared → Prop}
    (I : Inv X pins σ H s) (hf : ∀ b ∈ [e, it], FpOk X pins H b) (he : e < s.heap.objs.size) (hit : it < s.heap.objs.size) (hei : e ≠ it) (heo : IsEnumOut h1 e it ((i : Int) + 1) x s.heap.objs.size) (ry : RelV y x)
    (ht : h1.get? s.heap.objs.size = some { cls := .type "tuple", data := .seq #[.int i tk', x] }) (hz : h1.objs.size = s.heap.objs.size + 1) (hk : ∀ b o, b ≠ e → b ≠ it → s.heap.get? b = some o → h1.get? b = some o)
    (hSt : ∀ h2, Heap.SameBut e h1 h2 → St h2) :
    wpAny (model X.prog X.w) X.A (letOwnedTupleGo (.Tuple elts kk pos) (.ref e) (.ref s.heap.objs.size)) (fun _ s2 => ∃ z H', Inv X pins σ H' s2 ∧ RelV z (.ref s.heap.objs.size) ∧
      (∃ p, H p = none ∧ z = .ref p ∧ H' = upd H p (.tup [.int i, y])) ∧ (IsEnum s2.heap e it ((i + 1 : Nat) : Int) x ∧ St s2.heap) ∧ ∀ b ∈ [e, it], H' b = none) E { s with heap := h1, toks := tk } := by
  refine wpAny_letOwnedTupleGo_enum heo fun h2 he2 hs2 => ?_
  replace hs2 : Heap.SameBut e h1 h2 := hs2
  have hp : H s.heap.objs.size = none := I.hok.fresh (Nat.le_refl _)
  have hne : s.heap.objs.size ≠ e := Nat.ne_of_gt he
  have hni : s.heap.objs.size ≠ it := Nat.ne_of_gt hit
  have I1 : Inv X pins σ (upd H s.heap.objs.size (.tup [.int i, y])) { s with heap := s.heap.push { cls := .type "tuple", data := .seq #[.int i tk', x] }, toks := tk } := by
    refine I.laid (fun b u q => Heap.get?_push_of_some _ q) (Nat.le_refl _) ⟨?_, [.int i tk', x], .cons ⟨_, rfl⟩ (.cons ry .nil), ⟨_, Heap.get?_push_size _ rfl, rfl, _, rfl⟩⟩
    show 2 ≤ sizeLine
    decide
  have hf1 : ∀ b ∈ [e, it], FpOk X pins (upd H s.heap.objs.size (.tup [.int i, y])) b := fun b hb => by
    obtain ⟨f0, r⟩ := hf b hb
    refine ⟨?_, r⟩
    rw [upd_ne (by rcases List.mem_cons.mp hb with rfl | hb; exact hne.symm; rcases List.mem_cons.mp hb with rfl | hb; exact hni.symm; cases hb)]
    exact f0
  have I2 : Inv X pins σ (upd H s.heap.objs.size (.tup [.int i, y])) { s with heap := h2, toks := tk } := by
    refine Inv.turnedL (s := { s with heap := s.heap.push { cls := .type "tuple", data := .seq #[.int i tk', x] }, toks := tk }) (ch := [e, it]) I1 (fun b o hb q => ?_) hf1
    have nbe : b ≠ e := fun z => hb (by simp [z])
    have nbi : b ≠ it := fun z => hb (by simp [z])
    refine (hs2.2 b nbe).trans ?_
    rcases Heap.get?_push_cases q with ⟨rfl, rfl⟩ | q'
    · exact ht
    · exact hk b o nbe nbi q'
  refine ⟨.ref s.heap.objs.size, _, I2, rfl, ⟨s.heap.objs.size, hp, rfl, rfl⟩, ⟨?_, hSt h2 hs2⟩, fun b hb => (hf1 b hb).1⟩
  have : ((i + 1 : Nat) : Int) = (i : Int) + 1 := by push_cast; rfl
  rw [this]; exact he2
def Ite (K : PySem.W.Frag) (l : Addr) : It :=
  ⟨fun i H => ∃ xs x, SqL K H l xs ∧ xs[i]? = some x, fun i H y H' => ∃ p x, (∀ xs, SqL K H l xs → xs[i]? = some x) ∧ H p = none ∧ y = .ref p ∧ H' = upd H p (.tup [.int i, x]), fun i H => ∃ xs, SqL K H l xs ∧ xs.length ≤ i⟩
theorem turn_enumL {P : Program} {w : World} {K : PySem.W.Frag} {elts : List Expr} {kk : Nat} {pos : Pos} (e it l : Addr) (hei : e ≠ it) :
    Turn P w K (.Tuple elts kk pos) (Ite K l) [e, it] e (fun i h => (∃ old, IsEnum h e it (i : Nat) old) ∧ h.IsListIter it l i) where
  mem := by simp
  obj := fun i h st b hb => by
    obtain ⟨⟨old, he⟩, o, ho, c, d⟩ := st
    rcases List.mem_cons.mp hb with rfl | hb
    · exact ⟨_, he, fun v z => by cases z⟩
    · have e : b = it := by simpa using hb
      subst e
      exact ⟨o, ho, fun v z => by rw [d] at z; cases z⟩
  keep := fun i h h' st k => by
    obtain ⟨⟨old, he⟩, hit⟩ := st
    exact ⟨⟨old, k e (by simp) _ he⟩, hit.at fun o q => k it (by simp) o q⟩
  item := by
    intro X hP hw hK hc i pins s σ H E I hf st hg
    subst hP hw hK
    obtain ⟨xs, x, hq, hx⟩ := hg
    obtain ⟨its, rv, p, hz⟩ := I.list hq
    obtain ⟨u, hu, ru⟩ := rv.get hx
    obtain ⟨⟨old, he⟩, hit⟩ := st
    refine wpAny_pyNext_enum_item he hit p.isList (x := u) (by simpa using hu) hei fun h1 heo hit1 ht1 hz1 hk1 => ?_
    refine ⟨_, rfl, ?_⟩
    have hel : e < s.heap.objs.size := Heap.lt_size he
    have hil : it < s.heap.objs.size := by obtain ⟨o, ho, _⟩ := id hit; exact Heap.lt_size ho
    refine thn (enum_step (St := fun h2 => h2.IsListIter it l (i + 1)) I hf hel hil hei heo ru ht1 hz1 hk1 fun h2 hs => hit1.extBut hs.extBut hei.symm) fun _ s2 q => ?_
    obtain ⟨z, H', I2, rz, ⟨p, hp, rfl, rfl⟩, ⟨he2, hit2⟩, fr⟩ := q
    exact ⟨.ref p, _, I2, rz, ⟨p, x, fun ys hy => by rw [I.list_inj hy hq]; exact hx, hp, rfl, rfl⟩, ⟨⟨u, he2⟩, hit2⟩, fr⟩
  done := by
    intro X hP hw hK hc i pins s σ H E I hf st hg
    subst hP hw hK
    obtain ⟨xs, hq, hx⟩ := hg
    obtain ⟨its, rv, p, hz⟩ := I.list hq
    obtain ⟨⟨old, he⟩, hit⟩ := st
    have hl := rv.length
    obtain ⟨f0, f1, f2, f3, f4, f5⟩ := hf it (by simp)
    exact wpAny_pyNext_enum_end (I.ok.hd hc) he hit p.isList (by simp; omega) fun h' eb => ⟨rfl, I.turned (t' := s.toks) (fun b o hb e => eb b o hb e) f0 f1 f3 f4 f5⟩
  self := fun _ _ _ _ _ st h => by
    obtain ⟨⟨old, he⟩, _⟩ := st
    exact wpAny_pyIter_enum he h
theorem draws_str {P : Program} {w : World} {it : Addr} {x : Str} {t : Tok} (A : Around) (hA : A.handled = none) : Draws P w A it [it] x.cps.size (fun i v => ∃ c u, x.cps[i]? = some c ∧ v = .str ⟨#[c]⟩ u) (fun i h => h.IsStrIter it (strIterType x) x t i) := by
  cases ha : x.cps.all (· < 128)
  · have e : strIterType x = "str_iterator" := by simp [strIterType, ha]
    rw [e]; exact Draws.strWide hA it x t
  · have e : strIterType x = "str_ascii_iterator" := by simp [strIterType, ha]
    rw [e]; exact Draws.strAscii hA it x t
def Ites (n : Nat) (f : Nat → V) : It :=
  ⟨fun i _ => i < n, fun i H y H' => ∃ p, H p = none ∧ y = .ref p ∧ H' = upd H p (.tup [.int i, f i]), fun i _ => n ≤ i⟩
theorem turn_enumS {P : Program} {w : World} {K : PySem.W.Frag} {elts : List Expr} {kk : Nat} {pos : Pos} (e it : Addr) (x : Str) (t : Tok) (hei : e ≠ it) :
    Turn P w K (.Tuple elts kk pos) (Ites x.cps.size (sgn x)) [e, it] e (fun i h => (∃ old, IsEnum h e it (i : Nat) old) ∧ i ≤ x.cps.size ∧ h.IsStrIter it (strIterType x) x t i) where
  mem := by simp
  obj := fun i h st b hb => by
    obtain ⟨⟨old, he⟩, _, o, ho, c, d⟩ := st
    rcases List.mem_cons.mp hb with rfl | hb
    · exact ⟨_, he, fun v z => by cases z⟩
    · have e : b = it := by simpa using hb
      subst e
      exact ⟨o, ho, fun v z => by rw [d] at z; cases z⟩
  keep := fun i h h' st k => by
    obtain ⟨⟨old, he⟩, hn, o, ho, r⟩ := st
    exact ⟨⟨old, k e (by simp) _ he⟩, hn, o, k it (by simp) o ho, r⟩
  item := by
    intro X hP hw hK hc i pins s σ H E I hf st hg
    subst hP hw hK
    obtain ⟨⟨old, he⟩, hn, hit⟩ := st
    have hi : i < x.cps.size := hg
    refine wpAny_pyNext_enum_itemD (draws_str X.A.in1 (I.ok.hd hc)) he hit hi hei (by simpa using hei) fun u h1 tk hP heo hit1 ht1 hz1 hk1 => ?_
    refine ⟨_, rfl, ?_⟩
    have hel : e < s.heap.objs.size := Heap.lt_size he
    have hil : it < s.heap.objs.size := by obtain ⟨o, ho, _⟩ := id hit; exact Heap.lt_size ho
    have ru : RelV (sgn x i) u := signAt_rel hP
    refine thn (enum_step (St := fun h2 => h2.IsStrIter it (strIterType x) x t (i + 1)) I hf hel hil hei heo ru ht1 hz1 hk1 fun h2 hs => ?_) fun _ s2 q => ?_
    · obtain ⟨o, ho, r⟩ := hit1
      exact ⟨o, (hs.2 it hei.symm).trans ho, r⟩
    · obtain ⟨z, H', I2, rz, ⟨p, hp, rfl, rfl⟩, ⟨he2, hit2⟩, fr⟩ := q
      exact ⟨.ref p, _, I2, rz, ⟨p, hp, rfl, rfl⟩, ⟨⟨u, he2⟩, hi, hit2⟩, fr⟩
  done := by
    intro X hP hw hK hc i pins s σ H E I hf st hg
    subst hP hw hK
    obtain ⟨⟨old, he⟩, hn, hit⟩ := st
    have hi : x.cps.size ≤ i := hg
    have ei : i = x.cps.size := Nat.le_antisymm hn hi
    subst ei
    obtain ⟨f0, f1, f2, f3, f4, f5⟩ := hf it (by simp)
    exact wpAny_pyNext_enum_endD (draws_str X.A.in1 (I.ok.hd hc)) he hit fun h' eb => ⟨rfl, I.turned (t' := s.toks) (fun b o hb e => eb b o hb e) f0 f1 f3 f4 f5⟩
  self := fun _ _ _ _ _ st h => by
    obtain ⟨⟨old, he⟩, _⟩ := st
    exact wpAny_pyIter_enum he h
section
variable {X : Cx} {elts : List Expr} {kk : Nat} {tpos : Pos}
end
theorem for_enumL {K : PySem.W.Frag} {a : Addr} {xs : List V} {g : TG} {tb : TS} {D : Ends} {σ : St} {H : Hp} (Pv : Nat → St → Hp → Prop) (h0 : Pv 0 σ H) (hl : ∀ i σ H, i ≤ xs.length → Pv i σ H → SqL K H a xs)
    (hs : ∀ i x σ H p, xs[i]? = some x → Pv i σ H → H p = none → g (.ref p) σ (upd H p (.tup [.int i, x])) fun σ2 H2 => tb { D with nx := Pv (i + 1), ct := Pv (i + 1), bk := D.nx } σ2 H2) (hd : ∀ σ H, Pv xs.length σ H → D.nx σ H) :
    ∃ W : Nat → Nat → St → Hp → Prop, (∃ m, W 0 m σ H) ∧ ∀ i m σ H, W i m σ H →
      ((Ite K a).stop i H ∧ D.nx σ H) ∨ ((Ite K a).go i H ∧ ∃ N : St → Hp → Prop, (∀ σ' H', N σ' H' → ∃ m', m' < m ∧ W (i + 1) m' σ' H') ∧ ∀ x H', (Ite K a).yld i H x H' → g x σ H' fun σ2 H2 => tb { D with nx := N, ct := N, bk := D.nx } σ2 H2) := by
  refine ⟨fun i m σ H => m = xs.length - i ∧ i ≤ xs.length ∧ Pv i σ H, ⟨xs.length, by simp, Nat.zero_le _, h0⟩, ?_⟩
  rintro i m σ H ⟨rfl, hi, p⟩
  have q := hl i σ H hi p
  by_cases hlt : i < xs.length
  · refine .inr ⟨⟨xs, xs[i], q, by simp [hlt]⟩, Pv (i + 1), fun σ' H' p' => ⟨xs.length - (i + 1), by omega, rfl, hlt, p'⟩, fun x H' y => ?_⟩
    obtain ⟨pp, z, hy, hp, rfl, rfl⟩ := y
    exact hs i z σ _ pp (hy xs q) p hp
  · have e : i = xs.length := by omega
    subst e
    exact .inl ⟨⟨xs, q, Nat.le_refl _⟩, hd σ H p⟩
end L2
namespace L2
open PySem PySem.Spec PyProof.Rows
section
variable {prog : Program} {w : World} {A : Around} {R : Result → Shared → Prop} {s : Shared}
theorem compLoop_go {elt target iter : Expr} {ifs : List Expr} {scope : Scope} {pos : Pos} {it acc : Value} {env : Env} (I : Nat → Shared → Prop)
    (turn : ∀ n s, I n s → wpAny (model prog w) A (pyNext it) (fun r s₁ => match r with
      | none => R (.ok .next) s₁
      | some v => wpAny (model prog w) A (letOwnedTupleGo target it v) (fun _ s₂ => wpAny (model prog w) A (assign target env v) (fun _ s₃ =>
          wpAny (model prog w) A (forIn ifs true fun c r => if r = true then do let ok ← isTrue c env (eval c env); pure (ForInStep.yield ok) else pure (ForInStep.yield r)) (fun ok s₄ =>
            if ok = true then wpAny (model prog w) A (eval elt env) (fun x s₅ =>
              wpAny (model prog w) A (call (.builtin "list.append") [acc, x]) (fun _ s₆ => ∃ m, m < n ∧ I m s₆) (fun _ _ => False) s₅) (fun _ _ => False) s₄
            else ∃ m, m < n ∧ I m s₄) (fun _ _ => False) s₃) (fun _ _ => False) s₂) (fun _ _ => False) s₁) (fun _ _ => False) s)
    (n : Nat) (h : I n s) :
    codeAny (model prog w) A (.compLoop (.ListComp elt [⟨target, iter, ifs, 0⟩] scope pos) 0 it acc env) R s := by
  refine codeAny_loop rfl I (fun n s hI => ?_) n h
  show wpAny _ A ((compTurn (.ListComp elt [⟨target, iter, ifs, 0⟩] scope pos) 0 it acc env).onRaise (fun x => do noteFrame x env; theTreesLotGoes x)) _ _ s
  refine wpAny_noted ?_
  rw [compTurn_list]
  refine wpAny_bind (wpAny_standAt (wpAny_bind (wpAny_mono (turn n s hI) (fun r s₁ h₁ => ?_) fun _ _ h' => h'.elim)))
  cases r with
  | none => exact wpAny_pure h₁
  | some v =>
    refine wpAny_bind (wpAny_mono h₁ (fun _ s₂ h₂ => ?_) fun _ _ h' => h'.elim)
    refine wpAny_bind (wpAny_mono h₂ (fun _ s₃ h₃ => wpAny_bind (wpAny_mono h₃ (fun ok s₄ h₄ => ?_) fun _ _ h' => h'.elim)) fun _ _ h' => h'.elim)
    cases ok with
    | false => exact wpAny_pure ⟨rfl, h₄⟩
    | true =>
      exact wpAny_bind (wpAny_bind (wpAny_mono h₄ (fun x s₅ h₅ => wpAny_bind (wpAny_mono h₅ (fun _ s₆ h₆ => wpAny_pure (wpAny_pure ⟨rfl, h₆⟩)) fun _ _ h' => h'.elim)) fun _ _ h' => h'.elim))
end
def closeL (cells : List (Str × Addr)) : List (Str × NameKind) → List (Str × Addr) → Option (List (Str × Addr))
  | [], acc => some acc
  | (n, k) :: r, acc => if (k == .free) = true then (match cells.lookup n with | some c => closeL cells r ((n, c) :: acc) | none => none) else closeL cells r acc
theorem closeL_run {env : Env} {f : Str × NameKind → List (Str × Addr) → Sem (ForInStep (List (Str × Addr)))}
    (hf : ∀ n k cs, f (n, k) cs = if (k == NameKind.free) = true then (do let c ← cellOf env n; pure (ForInStep.yield ((n, c) :: cs))) else pure (ForInStep.yield cs)) :
    ∀ (names : List (Str × NameKind)) (acc cl : List (Str × Addr)), closeL env.cells names acc = some cl → (forIn names acc f : Sem (List (Str × Addr))) = pure cl
  | [], acc, cl, h => by cases h; rfl
  | (n, k) :: r, acc, cl, h => by
    rw [List.forIn_cons, hf]
    unfold closeL at h
    by_cases hk : (k == NameKind.free) = true
    · rw [if_pos hk] at h
      rw [if_pos hk]
      cases hc : env.cells.lookup n with
      | none => rw [hc] at h; cases h
      | some c =>
        rw [hc] at h
        have e : cellOf env n = pure c := by unfold cellOf; rw [hc]
        rw [e]
        simp only [pure_bind]
        exact closeL_run hf r _ cl h
    · rw [if_neg hk] at h
      rw [if_neg hk]
      simp only [pure_bind]
      exact closeL_run hf r _ cl h
theorem closeL_ok {env : Env} {scope : Scope} {cl : List (Str × Addr)} (h : closeL env.cells scope.names [] = some cl) : closureFor scope env = pure cl := by
  unfold closureFor
  dsimp only
  rw [closeL_run (env := env) (fun n k cs => rfl) scope.names [] cl h]
  rfl
theorem closeL_get {cells : List (Str × Addr)} : ∀ (names : List (Str × NameKind)) (acc cl : List (Str × Addr)), closeL cells names acc = some cl → (∀ x c, acc.lookup x = some c → cells.lookup x = some c) →
    (∀ x c, cl.lookup x = some c → cells.lookup x = some c)
  | [], acc, cl, h, ha => by cases h; exact ha
  | (n, k) :: r, acc, cl, h, ha => by
    unfold closeL at h
    by_cases hk : (k == NameKind.free) = true
    · rw [if_pos hk] at h
      cases hc : cells.lookup n with
      | none => rw [hc] at h; cases h
      | some c =>
        rw [hc] at h
        refine closeL_get r _ cl h fun x c' e => ?_
        rw [List.lookup_cons] at e
        cases hx : x == n with
        | true => rw [hx] at e; cases e; rw [eq_of_beq hx]; exact hc
        | false => rw [hx] at e; exact ha x c' e
    · rw [if_neg hk] at h
      exact closeL_get r _ cl h ha
theorem closeL_has {cells : List (Str × Addr)} : ∀ (names : List (Str × NameKind)) (acc cl : List (Str × Addr)), closeL cells names acc = some cl → ∀ x, ((x, NameKind.free) ∈ names ∨ ∃ c, acc.lookup x = some c) → ∃ c, cl.lookup x = some c
  | [], acc, cl, h, x, hx => by
    cases h
    rcases hx with hx | hx
    · cases hx
    · exact hx
  | (n, k) :: r, acc, cl, h, x, hx => by
    unfold closeL at h
    by_cases hk : (k == NameKind.free) = true
    · rw [if_pos hk] at h
      cases hc : cells.lookup n with
      | none => rw [hc] at h; cases h
      | some c =>
        rw [hc] at h
        refine closeL_has r _ cl h x ?_
        rcases hx with hx | ⟨c', e⟩
        · rcases List.mem_cons.mp hx with e | hx
          · cases e; exact .inr ⟨c, by rw [List.lookup_cons, beq_self_eq_true]⟩
          · exact .inl hx
        · refine .inr ?_
          rw [List.lookup_cons]
          cases hxn : x == n with
          | true => exact ⟨c, rfl⟩
          | false => exact ⟨c', e⟩
    · rw [if_neg hk] at h
      refine closeL_has r _ cl h x ?_
      rcases hx with hx | hx
      · rcases List.mem_cons.mp hx with e | hx
        · cases e; exact absurd rfl hk
        · exact .inl hx
      · exact .inr hx
theorem mem_relabel {scope : Scope} {env : Env} {x : Str} {k : NameKind} (h : (relabel scope env).names.lookup x = some k) (hk : k = .cell ∨ k = .free) (hcell : ∀ y ∈ scope.names, y.2 ≠ .cell) : (x, NameKind.free) ∈ scope.names := by
  have m := PySem.mem_of_lookup h
  obtain ⟨⟨n, k0⟩, hm, e⟩ := List.mem_map.mp m
  dsimp only at e
  split at e
  · rename_i hc
    cases e
    have : k0 = .free := by
      simp only [Bool.and_eq_true, beq_iff_eq] at hc
      exact hc.1.1
    subst this; exact hm
  · cases e
    rcases hk with rfl | rfl
    · exact absurd rfl (hcell _ hm)
    · exact hm
def cxComp (X : Cx) (scope : Scope) (cl : List (Str × Addr)) (C : Addr) (N : List Str) (fp : List Addr) (s2 : Shared) (H2 : Hp) : Cx where
  prog := X.prog
  w := X.w
  K := X.K
  mg := X.mg
  base := X.base
  A := X.A
  N := N
  s₀ := s2
  H₀ := H2
  env := compEnvC scope cl C X.env
  outer := X.stack
  stack := X.stack
  ex := fp
  fn := fun _ => false
  calm := X.calm
  pn := []
  xe := fun _ _ => False
structure CScope (X : Cx) (scope : Scope) (cl : List (Str × Addr)) (lv : List Str) (fr : List (Str × Nat)) : Prop where
  clos : closeL X.env.cells scope.names [] = some cl
  cell : ∀ y ∈ scope.names, y.2 ≠ .cell
  kind : scope.kind = .function
  names : ∀ z ∈ scope.names, z.2 = .local → scope.names.lookup z.1 = some .local
  fr : ∀ q ∈ fr, X.N[q.2]? = some q.1 ∧ (q.1, NameKind.free) ∈ scope.names ∧ (X.env.kindOf q.1 = some .cell ∨ X.env.kindOf q.1 = some .free) ∧
    ((relabel scope X.env).names.lookup q.1 = some .cell ∨ (relabel scope X.env).names.lookup q.1 = some .free)
def cN (lv : List Str) (fr : List (Str × Nat)) : List Str := lv ++ fr.map (·.1)
def cS (lv : List Str) (fr : List (Str × Nat)) (σ : St) : St := lv.map (fun _ => none) ++ fr.map fun q => (σ[q.2]?).join
theorem inv_comp {X : Cx} {pins : List (Addr × Obj)} {σ : St} {H2 : Hp} {s2 : Shared} {scope : Scope} {cl : List (Str × Addr)} {lv : List Str} {fr : List (Str × Nat)} {fp : List Addr} {h4 : Heap} {tk : Nat} {m : Str → Option Value} {n : Nat}
    (I : Inv X pins σ H2 s2) (S : CScope X scope cl lv fr) (hf : ∀ b ∈ fp, FpOk X pins H2 b) (hlt : ∀ b ∈ fp, b < s2.heap.objs.size) (hC : h4.Ns (s2.heap.objs.size + 1) m) (hD : h4.get? s2.heap.objs.size = some { cls := .type "list", data := .seq #[] n })
    (hk : ∀ b o, s2.heap.get? b = some o → h4.get? b = some o) :
    Inv (cxComp X scope cl (s2.heap.objs.size + 1) (cN lv fr) fp s2 H2) [] (cS lv fr σ) (upd H2 s2.heap.objs.size (.lst [])) { s2 with heap := h4, toks := tk } := by
  have hcl := closeL_get scope.names [] cl S.clos (fun x c e => by cases e)
  have hhas := closeL_has scope.names [] cl S.clos
  have hDn : H2 s2.heap.objs.size = none := I.hok.fresh (Nat.le_refl _)
  have hCn : H2 (s2.heap.objs.size + 1) = none := I.hok.fresh (Nat.le_succ _)
  have hCD : s2.heap.objs.size + 1 ≠ s2.heap.objs.size := Nat.ne_of_gt (Nat.lt_succ_self _)
  have fpC : ∀ b ∈ fp, (b ∈ X.ex ∨ X.s₀.heap.objs.size ≤ b) := fun b hb => (hf b hb).2.2.2.1
  have cellLt : ∀ x c, cl.lookup x = some c → c < s2.heap.objs.size := fun x c e => by
    obtain ⟨v, o, ho, _⟩ := I.cell x c (hcl x c e)
    exact Heap.lt_size ho
  refine ⟨⟨I.ok.mod, S.kind, I.ok.glob, I.ok.blt, Nat.le_succ _, fun x y c h1 h2 => I.ok.inj x y c (hcl x c h1) (hcl y c h2), fun x hx => ?_, fun x c hfn => (by cases hfn), I.ok.hd, I.ok.frames, .inl rfl, fun b hb => ?_, I.bs, Nat.le_trans I.ok.bsz I.sz, fun b o e hb => ?_, fun b hb z => ?_, I.stack, I.stkFree⟩,
    rfl, I.bare, ?_, ⟨m, hC, fun i x v h1 h2 h3 => ?_⟩, fun x c e => ?_, ?_, fun x c e => ?_, fun p hp => absurd (show p ∈ ([] : List (Addr × Obj)) from hp) (by simp), ?_, ?_⟩
  · -- has
    have hx' : (relabel scope X.env).names.lookup x = some .cell ∨ (relabel scope X.env).names.lookup x = some .free := hx
    have hm : (x, NameKind.free) ∈ scope.names := hx'.elim (fun z => mem_relabel z (.inl rfl) S.cell) fun z => mem_relabel z (.inr rfl) S.cell
    exact hhas x (.inl hm)
  · -- exf
    obtain ⟨f0, f1, f2, f3, f4, f5⟩ := hf b hb
    refine ⟨fun z => ?_, fun x c e => f4 x c (hcl x c e)⟩
    have z' : b = s2.heap.objs.size + 1 := z
    have := hlt b hb
    rw [z'] at this
    exact absurd this (Nat.not_lt.mpr (Nat.le_succ _))
  · rcases fpC b hb with z | z
    · exact I.ok.noex b o e z
    · exact absurd (Nat.lt_of_lt_of_le (Nat.lt_of_lt_of_le (Heap.lt_size e) I.ok.bsz) z) (Nat.lt_irrefl _)
  · obtain ⟨f0, f1, f2, _⟩ := hf b hb
    rcases List.mem_cons.mp (I.stkSub b z) with q | q
    · exact f1 q
    · exact f2 q
  · exact Un.laid hk (Nat.le_refl _) hDn
  · -- loc
    have h1' : (lv ++ fr.map (·.1))[i]? = some x := h1
    have h2' : (lv.map (fun _ => none) ++ fr.map fun q => (σ[q.2]?).join : St)[i]? = some (some v) := h2
    by_cases hi : i < lv.length
    · rw [List.getElem?_append_left (by simpa using hi), List.getElem?_map] at h2'
      cases hq : lv[i]? with
      | none => rw [hq] at h2'; cases h2'
      | some z => rw [hq] at h2'; cases h2'
    · rw [List.getElem?_append_right (by simpa using hi), List.getElem?_map] at h2'
      rw [List.getElem?_append_right (by omega), List.getElem?_map] at h1'
      simp only [List.length_map] at h2'
      cases hq : fr[i - lv.length]? with
      | none => rw [hq] at h1'; cases h1'
      | some q =>
        rw [hq] at h1' h2'
        have e1 : q.1 = x := Option.some.inj h1'
        have e2 : (σ[q.2]?).join = some v := Option.some.inj h2'
        have e3 : σ[q.2]? = some (some v) := by
          cases hz : σ[q.2]? with
          | none => rw [hz] at e2; cases e2
          | some z => rw [hz] at e2; exact congrArg some e2
        obtain ⟨g1, g2, g3, g4⟩ := S.fr q (List.mem_of_getElem? hq)
        obtain ⟨m0, hn0, hl0⟩ := I.loc
        have vis : Vis X.env.scope q.1 := by
          rcases g3 with g3 | g3
          · exact .inr (.inl g3)
          · exact .inr (.inr g3)
        obtain ⟨u, r, l⟩ := hl0 q.2 q.1 v g1 e3 vis
        refine ⟨u, r, .inr ⟨?_, ?_⟩⟩
        · rw [← e1]; exact g4
        · rcases l with ⟨lk, _⟩ | ⟨_, c, ec, ic⟩
          · rcases g3 with g3 | g3 <;> (rw [lk] at g3; cases g3)
          · obtain ⟨c', ec'⟩ := hhas q.1 (.inl g2)
            have : c' = c := by
              have := hcl q.1 c' ec'
              rw [ec] at this; exact (Option.some.inj this).symm
            subst this
            obtain ⟨o, ho, hd⟩ := ic
            exact ⟨c', by rw [← e1]; exact ec', o, hk _ _ ho, hd⟩
  · obtain ⟨v, o, ho, hd⟩ := I.cell x c (hcl x c e)
    exact ⟨v, o, hk _ _ ho, hd⟩
  · show upd H2 _ _ (s2.heap.objs.size + 1) = none
    rw [upd_ne hCD]; exact hCn
  · have := cellLt x c e
    rw [upd_ne (Nat.ne_of_lt this)]
    exact I.freeC x c (hcl x c e)
  · exact I.hok.laid hk (Nat.le_refl _) ⟨Nat.zero_le _, [], n, .nil, hD⟩
  · show (cS lv fr σ).length = (cN lv fr).length
    simp [cS, cN]
end L2
namespace L2
open PySem PySem.Spec PyProof.Rows
def PIf (X : Cx) (ifs : List Expr) (t : TT) : Prop :=
  ∀ (pins : List (Addr × Obj)) (s : Shared) (σ : St) (H : Hp) (Q : Bool → Hp → Prop), Inv X pins σ H s → t σ H Q →
    wpAny (model X.prog X.w) X.A (forIn ifs true fun c r => if r = true then do let ok ← isTrue c X.env (eval c X.env); pure (ForInStep.yield ok) else pure (ForInStep.yield r)) (TP X pins σ Q) X.xe s
def tTrue : TT := fun _ H Q => Q true H
theorem pif_nil {X : Cx} : PIf X [] tTrue := fun pins s σ H Q I h => wpAny_tests_nil ⟨H, I, h⟩
def tCompR (J : It) (g : TG) (tt : TT) (te : TE) (σ0 : St) (H1 : Hp) (Q : VK) : Prop :=
  ∀ D, H1 D = none → ∃ W : Nat → Nat → List V → St → Hp → Prop, (∃ m, W 0 m [] σ0 (upd H1 D (.lst []))) ∧ ∀ i m ys σ H, W i m ys σ H →
    (J.stop i H ∧ Q (.ref D) H) ∨ (J.go i H ∧ ∃ N : List V → St → Hp → Prop, (∀ ys' σ' H', N ys' σ' H' → ∃ m', m' < m ∧ W (i + 1) m' ys' σ' H') ∧
      ∀ x H', J.yld i H x H' → g x σ H' fun σ2 H2 => tt σ2 H2 fun b H3 => if b = true then te σ2 H3 fun v H4 => H4 D = some (.lst ys) ∧ ys.length < sizeLine ∧ N (ys ++ [v]) σ2 (upd H4 D (.lst (ys ++ [v]))) else N ys σ2 H3)
section
variable {X : Cx} {scope : Scope} {cl : List (Str × Addr)} {lv : List Str} {fr : List (Str × Nat)} {elt tg iter : Expr} {ifs : List Expr} {pos : Pos} {g : TG} {tt : TT} {te : TE}
theorem comp_block {pins : List (Addr × Obj)} {σ : St} {H2 : Hp} {s2 : Shared} {it : Addr} {fp : List Addr} {tn : Nat → Heap → Prop} {J : It} {Q : VK} {E : Value → Shared → Prop} {use : Option (Value → Sem Unit)} {Q' : Value → Shared → Prop}
    (I : Inv X pins σ H2 s2) (S : CScope X scope cl lv fr) (T : Turn X.prog X.w X.K tg J fp it tn) (st : tn 0 s2.heap) (hf : ∀ b ∈ fp, FpOk X pins H2 b) (hc : X.calm = true)
    (hg : ∀ C fp s2 H2, PG (cxComp X scope cl C (cN lv fr) fp s2 H2) tg g) (ht : ∀ C fp s2 H2, PIf (cxComp X scope cl C (cN lv fr) fp s2 H2) ifs tt) (he : ∀ C fp s2 H2, PE (cxComp X scope cl C (cN lv fr) fp s2 H2) elt te)
    (hq : tCompR J g tt te (cS lv fr σ) H2 Q)
    (fin : ∀ D C oC H' s', Inv X (pins ++ [(C, oC)]) σ H' s' → (∀ h : Heap, h.get? C = some oC → ∃ m, h.Ns C m) → FpOk X pins H' C → Q (.ref D) H' → compPost (model X.prog X.w) X.A E use Q' (.ref D) C (.ok .next) s') :
    wpAny (model X.prog X.w) X.A (newList []) (fun acc s₃ => wpAny (model X.prog X.w) X.A (newFunctionEnv scope X.env.globals cl [] X.env.qual none .none (some X.env)) (fun cenv s₄ =>
      codeAny (model X.prog X.w) X.A (.compStart (.ListComp elt [⟨tg, iter, ifs, 0⟩] scope pos) 0 (.ref it) acc { cenv with scope := relabel scope X.env }) (compPost (model X.prog X.w) X.A E use Q' acc cenv.locals) s₄) E s₃) E s2 := by
  have hlt : ∀ b ∈ fp, b < s2.heap.objs.size := fun b hb => by
    obtain ⟨o, ho, _⟩ := T.obj 0 _ st b hb
    exact Heap.lt_size ho
  refine wpAny_newList (wpAny_newFunctionEnv S.cell (by intro y hy; simp at hy) (fun h₁ hns₁ hsb₁ => ?_) S.kind)
  dsimp only at hns₁ hsb₁ ⊢
  have hsz : (s2.heap.push { cls := .type "list", data := .seq ([] : List Value).toArray }).objs.size = s2.heap.objs.size + 1 := Heap.size_push ..
  rw [hsz] at hns₁ hsb₁ ⊢
  have old : ∀ b o, s2.heap.get? b = some o → h₁.get? b = some o := fun b o e => hsb₁.extBut b o (Nat.ne_of_lt (Nat.lt_succ_of_lt (Heap.lt_size e))) (Heap.get?_push_of_some _ (Heap.get?_push_of_some _ e))
  have hacc : h₁.get? s2.heap.objs.size = some { cls := .type "list", data := .seq #[] } := hsb₁.extBut _ _ (Nat.ne_of_lt (Nat.lt_succ_self _)) (Heap.get?_push_of_some _ (Heap.get?_push_size _ rfl))
  have I4 : Inv (cxComp X scope cl (s2.heap.objs.size + 1) (cN lv fr) fp s2 H2) [] (cS lv fr σ) (upd H2 s2.heap.objs.size (.lst [])) { s2 with heap := h₁, toks := s2.toks + ([] : List (Str × Value)).length } :=
    inv_comp I S hf hlt hns₁ hacc old
  generalize hX' : cxComp X scope cl (s2.heap.objs.size + 1) (cN lv fr) fp s2 H2 = X' at I4
  have eP : X'.prog = X.prog := by rw [← hX']; rfl
  have ew : X'.w = X.w := by rw [← hX']; rfl
  have eK : X'.K = X.K := by rw [← hX']; rfl
  have eA : X'.A = X.A := by rw [← hX']; rfl
  have ec : X'.calm = true := by rw [← hX']; exact hc
  have ex : X'.xe = fun _ _ => False := by rw [← hX']; rfl
  have een : X'.env = compEnvC scope cl (s2.heap.objs.size + 1) X.env := by rw [← hX']; rfl
  have hg' : PG X' tg g := hX' ▸ hg _ _ _ _
  have ht' : PIf X' ifs tt := hX' ▸ ht _ _ _ _
  have he' : PE X' elt te := hX' ▸ he _ _ _ _
  obtain ⟨W, ⟨m0, w0⟩, turn⟩ := hq s2.heap.objs.size (I.hok.fresh (Nat.le_refl _))
  have st1 : tn 0 h₁ := T.keep _ _ _ st fun b _ o e => old b o e
  have f4 : ∀ b ∈ fp, FpOk X' [] (upd H2 s2.heap.objs.size (.lst [])) b := fun b hb => by
    obtain ⟨f0, f1, f2, f3, f4, f5⟩ := hf b hb
    have := hlt b hb
    refine ⟨?_, ?_, ?_, .inl ?_, ?_, ?_⟩
    · rw [upd_ne (Nat.ne_of_lt this)]; exact f0
    · rw [een]; exact Nat.ne_of_lt (Nat.lt_succ_of_lt this)
    · intro z
      have z' : b ∈ frs X.stack := by rw [← hX'] at z; exact z
      rcases List.mem_cons.mp (I.stkSub b z') with q | q
      · exact f1 q
      · exact f2 q
    · rw [← hX']; exact hb
    · intro x c e
      rw [een] at e
      exact f4 x c (closeL_get scope.names [] cl S.clos (fun x c e => by cases e) x c e)
    · intro p hp
      rw [← hX'] at hp
      exact absurd (show p ∈ ([] : List (Addr × Obj)) from hp) (by simp)
  have stat : ∀ {H' : Hp}, (∀ b ∈ fp, H' b = none) → ∀ b ∈ fp, FpOk X' [] H' b := fun hn b hb => ⟨hn b hb, (f4 b hb).2⟩
  have loop : ∀ s₃ : Shared, s₃ = { s2 with heap := h₁, toks := s2.toks + ([] : List (Str × Value)).length } →
      codeAny (model X.prog X.w) X.A (.compLoop (.ListComp elt [⟨tg, iter, ifs, 0⟩] scope pos) 0 (.ref it) (.ref s2.heap.objs.size) (compEnvC scope cl (s2.heap.objs.size + 1) X.env))
        (compPost (model X.prog X.w) X.A E use Q' (.ref s2.heap.objs.size) (s2.heap.objs.size + 1)) s₃ := by
    rintro s₃ rfl
    refine compLoop_go (fun n s' => ∃ i ys σ' H', Inv X' [] σ' H' s' ∧ tn i s'.heap ∧ (∀ b ∈ fp, H' b = none) ∧ W i n ys σ' H') ?_ m0 ⟨0, [], _, _, I4, st1, fun b hb => (f4 b hb).1, w0⟩
    rintro n s3 ⟨i, ys, σ3, H3, I3, st3, fr3, w3⟩
    rcases turn i n ys σ3 H3 w3 with ⟨stop, qn⟩ | ⟨go, N, hN, step⟩
    · have a0 := T.done X' eP ew eK ec i [] s3 σ3 H3 (fun _ _ => False) I3 (stat fr3) st3 stop
      rw [eA] at a0
      refine thn a0 fun r s4 ⟨hr, I4'⟩ => ?_
      subst hr
      have un : Un (frs X.stack) fp H2 H3 s2.heap s4.heap := by
        have := I4'.base
        rw [← hX'] at this
        exact this
      have os : s4.os = s2.os := by
        have := I4'.os
        rw [← hX'] at this
        exact this
      have hok : HOk X.prog X.w H3 s4.heap := by
        have := I4'.hok
        rw [← hX'] at this
        exact this
      have J1 : Inv X pins σ H3 s4 := I.call' os un hok I4'.bare fun b hb => by
        obtain ⟨f0, f1, f2, f3, f4, f5⟩ := hf b hb
        exact ⟨f3, f1, f4, f5⟩
      obtain ⟨m, hn, _⟩ := I4'.loc
      have hn' : s4.heap.Ns (s2.heap.objs.size + 1) m := by rw [een] at hn; exact hn
      have hCn : H3 (s2.heap.objs.size + 1) = none := by
        have := I4'.free
        rw [een] at this; exact this
      have fC : FpOk X pins H3 (s2.heap.objs.size + 1) := I.fpOk (Nat.le_succ _) hCn
      obtain ⟨oC, es, ep, hoC, hdC, rC⟩ := id hn'
      have J2 : Inv X (pins ++ [(s2.heap.objs.size + 1, oC)]) σ H3 s4 := J1.pins_of fun p hp => by
        rcases List.mem_append.mp hp with hp | hp
        · exact J1.pin p (List.mem_append_right _ hp)
        · have e : p = (s2.heap.objs.size + 1, oC) := by simpa using hp
          subst e
          exact ⟨hoC, hCn, fC.2.1, fC.2.2.1, fun v z => by rw [hdC] at z; cases z⟩
      exact fin _ _ oC H3 s4 J2 (fun h e => ⟨m, oC, es, ep, e, hdC, rC⟩) fC qn
    · have a0 := T.item X' eP ew eK ec i [] s3 σ3 H3 (fun _ _ => False) I3 (stat fr3) st3 go
      rw [eA] at a0
      refine thn a0 fun r s4 ⟨u, hr, h4⟩ => ?_
      subst hr
      refine thn h4 fun _ s5 ⟨x, H5, I5, r5, y5, st5, fr5⟩ => ?_
      have I5' := I5.pinned (stat fr5) (T.obj _ _ st5)
      have a1 := hg' _ s5 σ3 H5 x u _ I5' r5 (step x H5 y5)
      rw [eP, ew, eA, een, ex] at a1
      refine thn a1 fun _ s6 ⟨σ6, H6, I6, q6⟩ => ?_
      have a2 := ht' _ s6 σ6 H6 _ I6 q6
      rw [eP, ew, eA, een, ex] at a2
      refine thn a2 fun ok s7 ⟨H7, I7, q7⟩ => ?_
      have again : ∀ {ys7 : List V} {H7 : Hp} {s7 : Shared}, Inv X' ([] ++ pinsAt fp s5.heap) σ6 H7 s7 → N ys7 σ6 H7 → ∃ m, m < n ∧ ∃ i ys σ' H', Inv X' [] σ' H' s7 ∧ tn i s7.heap ∧ (∀ b ∈ fp, H' b = none) ∧ W i m ys σ' H' := fun {ys7 H7 s7} I7 n7 => by
        obtain ⟨m', hm, w7⟩ := hN ys7 σ6 H7 n7
        refine ⟨m', hm, i + 1, ys7, σ6, H7, I7.unpinned, T.keep _ _ _ st5 fun b hb o e => (I7.pin (b, o) (List.mem_append_right _ (List.mem_append_right _ (mem_pinsAt hb e)))).1, fun b hb => ?_, w7⟩
        obtain ⟨o, e, d⟩ := T.obj _ _ st5 b hb
        exact (I7.pin (b, o) (List.mem_append_right _ (List.mem_append_right _ (mem_pinsAt hb e)))).2.1
      cases ok with
      | false => exact again I7 q7
      | true =>
        have a3 := he' _ s7 σ6 H7 _ I7 q7
        rw [eP, ew, eA, een, ex] at a3
        refine thn a3 fun y s8 ⟨v, H8, I8, r8, hD8, hl8, n8⟩ => ?_
        have a4 := mt_append (X := X') _ s8 σ6 H8 (.ref s2.heap.objs.size) [v] (.ref s2.heap.objs.size) [y] (fun _ H9 => N (ys ++ [v]) σ6 H9) I8 rfl (.cons r8 .nil) ⟨_, _, _, rfl, rfl, hD8, hl8, n8⟩
        rw [eP, ew, eA, ex] at a4
        refine thn a4 fun _ s9 ⟨v9, H9, I9, _, n9⟩ => ?_
        exact again I9 n9
  exact codeAny_compStart_list (loop _ rfl) (T.self _ 0 _ _ _ st1 (loop _ rfl))
def tComp (lv : List Str) (fr : List (Str × Nat)) (wi : TI) (g : TG) (tt : TT) (te : TE) : TE := fun σ H Q => wi σ H fun J H1 => tCompR J g tt te (cS lv fr σ) H1 Q
theorem ps_setcomp {wi : TI} {j : Nat} {y : Str} {py spos : Pos} (hc : X.calm = true) (S : CScope X scope cl lv fr) (hi : PI X tg iter wi)
    (hg : ∀ C fp s2 H2, PG (cxComp X scope cl C (cN lv fr) fp s2 H2) tg g) (ht : ∀ C fp s2 H2, PIf (cxComp X scope cl C (cN lv fr) fp s2 H2) ifs tt) (he : ∀ C fp s2 H2, PE (cxComp X scope cl C (cN lv fr) fp s2 H2) elt te)
    (hy : PG X (.Name y py) (gName j))
    (hsw : swapsWith (.ListComp elt [⟨tg, iter, ifs, 0⟩] scope pos) (some (.Name y py)) spos.line X.env = pure true := by rfl)
    (hs : ∀ x, foldedSetIterable iter X.env x = pure x := by intro _; rfl) : PS X (.Assign [.Name y py] (.ListComp elt [⟨tg, iter, ifs, 0⟩] scope pos) spos) (tAsg (tComp lv fr wi g tt te) (gName j)) := by
  intro pins s σ H D I h
  rw [exec_Assign_Name_used _ _ _ _ hsw]
  refine wpAny_bind (wpAny_standAt (wpAny_bind ?_))
  show wpAny _ X.A (do let _ ← comprehension (.ListComp elt [⟨tg, iter, ifs, 0⟩] scope pos) scope X.env _ (newList []) false (eval iter X.env) (some (assign (.Name y py) X.env))) _ _ s
  refine wpAny_bind (wpAny_mono (wpAny_comprehension_free (use := some (assign (.Name y py) X.env)) (Q := fun _ s' => SP X pins D .next s') rfl hs (closeL_ok S.clos) S.kind S.names ?_) (fun _ s' hq => wpAny_pure (wpAny_pure hq)) fun _ _ e => e)
  refine thn (hi pins s σ H _ I h) fun v s1 h1 => thn h1 fun itv s2 h2 => ?_
  obtain ⟨it, fp, tn, J, H2, e, I2, T, st2, f2, q⟩ := h2
  subst e
  refine comp_block I2 S T st2 f2 hc hg ht he q fun D' C oC H' s' J1 hNs fC qD => ?_
  show wpAny _ X.A (assign (.Name y py) X.env (.ref D')) _ _ _
  refine thn (hy _ s' σ H' (.ref D') (.ref D') _ J1 rfl qD) fun _ s3 ⟨σ3, H3, I3, q3⟩ => ?_
  have hp := I3.pin (C, oC) (List.mem_append_right _ (List.mem_append_right _ (List.mem_singleton.mpr rfl)))
  obtain ⟨m, hm⟩ := hNs s3.heap hp.1
  refine ⟨m, hm, fun h' hs' => ?_⟩
  have fC' : FpOk X pins H3 C := ⟨hp.2.1, fC.2⟩
  exact ⟨σ3, H3, I3.unpinned.turned (t' := s3.toks) (fun b o hb e => (hs'.2 b hb).trans e) fC'.1 fC'.2.1 fC'.2.2.2.1 fC'.2.2.2.2.1 fC'.2.2.2.2.2, q3⟩
end
end L2
namespace L2
open PySem PySem.Spec PyProof.Rows
abbrev tx (l : List Nat) : V := .str ⟨l.toArray⟩
def br (b : Bool) (A B : Prop) : Prop := (b = true → A) ∧ (b = false → B)
theorem str_app (a b : Str) : a ++ b = ⟨(a.cps.toList ++ b.cps.toList).toArray⟩ := by
  cases a; cases b
  show Str.mk (_ ++ _) = _
  simp
theorem str_eta (a : Str) : a = ⟨a.cps.toList.toArray⟩ := by cases a; simp
def cutL (l : List Nat) (lo hi : Option Int) : List Nat := (l.drop (HT.sIx l.length 0 lo)).take (HT.sIx l.length l.length hi - HT.sIx l.length 0 lo)
theorem strSl_bounds (lo hi : Option Int) (n : Nat) : Builtin.Str.strSliceIndices lo hi 1 n = sliceRange ((HT.sIx n 0 lo : Nat) : Int) ((HT.sIx n n hi : Nat) : Int) 1 := by
  unfold Builtin.Str.strSliceIndices
  simp only [show (1 : Int) > 0 by decide, if_true]
  congr 1
  · cases lo with
    | none => simp [HT.sIx]
    | some i =>
      simp only [HT.sIx]
      by_cases h : i < 0
      · simp only [h, if_true] <;> omega
      · simp only [h, if_false] <;> omega
  · cases hi with
    | none => simp [HT.sIx]
    | some i =>
      simp only [HT.sIx]
      by_cases h : i < 0
      · simp only [h, if_true] <;> omega
      · simp only [h, if_false] <;> omega
theorem picked_cut (x : Str) (lo hi : Option Int) : (Builtin.Str.strSliceIndices lo hi 1 x.length).filterMap (x.cps[·]?) = cutL x.cps.toList lo hi := by
  rw [strSl_bounds, sliceRange_one, pick_run]
  unfold cutL Str.length
  simp only [Array.length_toList]
theorem cutL_length_le (l : List Nat) (lo hi : Option Int) : (cutL l lo hi).length ≤ l.length := by
  unfold cutL
  rw [List.length_take, List.length_drop]
  omega
theorem cutL_full {l : List Nat} {lo hi : Option Int} (h : (cutL l lo hi).length = l.length) : cutL l lo hi = l := by
  unfold cutL at h ⊢
  rw [List.length_take, List.length_drop] at h
  have h1 : HT.sIx l.length l.length hi ≤ l.length := HT.sIx_le _ _ (Nat.le_refl _) _
  by_cases hl : l.length = 0
  · have : l = [] := List.length_eq_zero_iff.mp hl
    subst this
    simp
  · have h2 : HT.sIx l.length 0 lo = 0 := by omega
    rw [h2, List.drop_zero, List.take_of_length_le]
    omega
section
variable {X : Cx}
def rSlS : V → Option Int → Option Int → Hp → VK → Prop := fun x lo hi H Q => match x with | .str z => z.length ≤ sizeLine ∧ Q (tx (cutL z.cps.toList lo hi)) H | _ => False
theorem isPart_value {v : Value} {o : Option Int} (p : IsPart v o) : ∃ l : Option (Int × Tok), v = partValue l ∧ l.map (·.1) = o := by
  cases p with
  | none => exact ⟨none, rfl, rfl⟩
  | int i t => exact ⟨some (i, t), rfl, rfl⟩
theorem sl_str : SlR X rSlS := by
  intro pins s σ H x v vl vu lo hi sl Q I rx hs pl pu h
  cases x with
  | str z =>
    obtain ⟨hz, q⟩ := h
    obtain ⟨t, rfl⟩ := rx
    obtain ⟨l, rfl, rfl⟩ := isPart_value pl
    obtain ⟨u, rfl, rfl⟩ := isPart_value pu
    refine ⟨"str", _, F.slot_str_getitem.lookup, typeIs_str _ _ _, ?_⟩
    refine wpAny_getItem_str_slice (l := l) (u := u) (st := none) hs rfl ?_
    unfold sliceMade
    have e : slicePicked z l u none = Builtin.Str.strSliceIndices (l.map (·.1)) (u.map (·.1)) 1 z.length := rfl
    rw [e]
    have hlen : (Builtin.Str.strSliceIndices (l.map (·.1)) (u.map (·.1)) 1 z.length).length = (cutL z.cps.toList (l.map (·.1)) (u.map (·.1))).length := by
      rw [strSl_bounds, sliceRange_one, List.length_map, List.length_range]
      unfold cutL
      rw [List.length_take, List.length_drop]
      have h1 : HT.sIx z.length z.length (u.map (·.1)) ≤ z.length := HT.sIx_le _ _ (Nat.le_refl _) _
      have h2 : z.cps.toList.length = z.length := by simp [Str.length]
      rw [h2]
      omega
    split
    · rename_i hc
      have hc' : (cutL z.cps.toList (l.map (·.1)) (u.map (·.1))).length = z.cps.toList.length := by
        rw [← hlen]
        simpa [Str.length] using hc
      rw [cutL_full hc'] at q
      have q' : Q (.str z) H := by rw [str_eta z]; exact q
      exact ⟨.str z, H, I, ⟨_, rfl⟩, q'⟩
    · rw [picked_cut]
      have h3 := cutL_length_le z.cps.toList (l.map (·.1)) (u.map (·.1))
      have h2 : z.cps.toList.length = z.length := by simp [Str.length]
      refine ⟨?_, tx (cutL z.cps.toList (l.map (·.1)) (u.map (·.1))), H, I.tok _, ⟨_, rfl⟩, q⟩
      show (cutL z.cps.toList (l.map (·.1)) (u.map (·.1))).toArray.size ≤ sizeLine
      rw [List.size_toArray]
      exact Nat.le_trans h3 (by rw [h2]; exact hz)
  | _ => exact h.elim
end
end L2
namespace L2
open PySem PySem.Spec PyProof.Rows
def mVar (i : Nat) : TE := fun σ H Q => match σ[i]? with | some (some v) => Q v H | _ => False
section
variable {X : Cx} {a b c : Expr} {ta tb tc : TE} {pos : Pos}
theorem pe_mvar (i : Nat) {x : Str} {pos : Pos} (hN : X.N[i]? = some x := by rfl) (hv : Vis X.env.scope x := by first | exact Or.inl rfl | exact Or.inr (Or.inl rfl) | exact Or.inr (Or.inr rfl)) (hd : (x == ("__debug__" : Str)) = false := by decide)
    (hcd : (x == ("__classdict__" : Str)) = false := by decide) : PE X (.Name x pos) (mVar i) := by
  intro pins s σ H Q I h
  unfold mVar at h
  cases e : σ[i]? with
  | none => rw [e] at h; exact h.elim
  | some o =>
    rw [e] at h
    cases o with
    | none => exact h.elim
    | some v => exact pe_var hN hv hd hcd pins s σ H Q I ⟨v, e, h⟩
theorem pe_txt {x : Str} {l : List Nat} {j pos} (h : x = ⟨l.toArray⟩ := by rfl) : PE X (.Constant (.str x) j pos) (tC (tx l)) := h ▸ pe_str
def mAdd : R2 := fun x y H Q => match x, y with
  | .int i, .int j => Q (.int (i + j)) H
  | .str a, .str b => a.cps.toList.length + b.cps.toList.length ≤ sizeLine ∧ Q (tx (a.cps.toList ++ b.cps.toList)) H
  | .ref a, .ref b => ∃ xs zs, H a = some (.lst xs) ∧ H b = some (.lst zs) ∧ xs.length + zs.length ≤ sizeLine ∧ ∀ p, H p = none → Q (.ref p) (upd H p (.lst (xs ++ zs)))
  | _, _ => False
theorem op_addM : OpR X (binaryOp .Add) mAdd := by
  intro pins s σ H x y v u Q I rx ry h
  cases x <;> cases y <;> first
    | exact h.elim
    | exact op_add pins s σ H _ _ v u Q I rx ry ⟨_, _, rfl, rfl, h⟩
    | exact op_add_str pins s σ H _ _ v u Q I rx ry ⟨_, _, rfl, rfl, by simpa [Str.length] using h.1, by rw [str_app]; exact h.2⟩
    | (obtain ⟨xs, zs, h1, h2, h3, h4⟩ := h; exact op_cat pins s σ H _ _ v u Q I rx ry ⟨_, _, xs, zs, rfl, rfl, h1, h2, h3, h4⟩)
def mI (C : Int → Int → Prop) (g : Int → Int → V) : R2 := fun x y H Q => match x, y with | .int i, .int j => C i j ∧ Q (g i j) H | _, _ => False
def mI0 (g : Int → Int → V) : R2 := fun x y H Q => match x, y with | .int i, .int j => Q (g i j) H | _, _ => False
theorem opM {f : Value → Value → Sem Value} {C : Int → Int → Prop} {g : Int → Int → V} (h : OpR X f (rI C g)) : OpR X f (mI C g) := by
  intro pins s σ H x y v u Q I rx ry q
  cases x <;> cases y <;> first | exact q.elim | exact h pins s σ H _ _ v u Q I rx ry ⟨_, _, rfl, rfl, q.1, q.2⟩
theorem opM0 {f : Value → Value → Sem Value} {g : Int → Int → V} (h : OpR X f (rI0 g)) : OpR X f (mI0 g) := by
  intro pins s σ H x y v u Q I rx ry q
  cases x <;> cases y <;> first | exact q.elim | exact h pins s σ H _ _ v u Q I rx ry ⟨_, _, rfl, rfl, q⟩
abbrev mSub : R2 := mI0 fun i j => .int (i - j)
abbrev mMul : R2 := mI CMul fun i j => .int (i * j)
abbrev mDiv : R2 := mI CDiv fun i j => .int (i / j)
abbrev mMod : R2 := mI (fun _ j => 0 < j) fun i j => .int (i % j)
abbrev mPow : R2 := mI CPow fun i j => .int (i ^ j.toNat)
theorem op_subM : OpR X (binaryOp .Sub) mSub := opM0 op_sub
theorem op_mulM : OpR X (binaryOp .Mult) mMul := opM op_mul
theorem op_divM : OpR X (binaryOp .FloorDiv) mDiv := opM op_fdiv
theorem op_modM : OpR X (binaryOp .Mod) mMod := opM op_mod
theorem op_powM : OpR X (binaryOp .Pow) mPow := opM op_pow
def mEqB (x y : V) : Option Bool := match x, y with
  | .int i, .int j => some (decide (i = j))
  | .str a, .str b => some (decide (a.cps.toList = b.cps.toList))
  | .bl a, .bl b => some (decide (a = b))
  | .non, .non => some true
  | .non, .int _ => some false | .int _, .non => some false | .non, .bl _ => some false | .bl _, .non => some false | .non, .str _ => some false | .str _, .non => some false
  | .int _, .str _ => some false | .str _, .int _ => some false | .bl _, .str _ => some false | .str _, .bl _ => some false
  | _, _ => none
theorem mEqB_dec {x y : V} {b : Bool} (h : mEqB x y = some b) : scal x y = true ∧ decide (x = y) = b := by
  cases x <;> cases y <;> first
    | (simp [mEqB] at h; done)
    | (refine ⟨rfl, ?_⟩; have h' := Option.some.inj h; rw [← h']; first | rfl | (simp; done))
    | (rename_i a b'
       refine ⟨rfl, ?_⟩
       have h' := Option.some.inj h
       rw [← h', decide_eq_decide]
       constructor
       · intro e; cases e; rfl
       · intro e; rw [str_eta a, str_eta b', e])
def mEq : R2 := fun x y H Q => match mEqB x y with | some b => Q (.bl b) H | none => False
def mNe : R2 := fun x y H Q => match mEqB x y with | some b => Q (.bl (!b)) H | none => False
theorem op_eqM : OpR X (compareOp .Eq) mEq := by
  intro pins s σ H x y v u Q I rx ry h
  unfold mEq at h
  cases e : mEqB x y with
  | none => rw [e] at h; exact h.elim
  | some b =>
    rw [e] at h
    obtain ⟨h1, h2⟩ := mEqB_dec e
    exact op_eq pins s σ H x y v u Q I rx ry ⟨h1, by rw [h2]; exact h⟩
theorem op_neM : OpR X (compareOp .NotEq) mNe := by
  intro pins s σ H x y v u Q I rx ry h
  unfold mNe at h
  cases e : mEqB x y with
  | none => rw [e] at h; exact h.elim
  | some b =>
    rw [e] at h
    obtain ⟨h1, h2⟩ := mEqB_dec e
    exact op_ne pins s σ H x y v u Q I rx ry ⟨h1, by rw [h2]; exact h⟩
abbrev mGt : R2 := mI0 fun i j => .bl (decide (j < i))
theorem op_gtM : OpR X (compareOp .Gt) mGt := opM0 op_gt
def inS (l : List Nat) (t : List Nat) : Bool := match l with | [c] => decide (c ∈ t) | _ => !(Builtin.Str.occurrences ⟨t.toArray⟩ ⟨l.toArray⟩ 0 t.length 1).isEmpty
theorem inS_occ (a b : Str) : (!(Builtin.Str.occurrences b a 0 b.length 1).isEmpty) = inS a.cps.toList b.cps.toList := by
  have e : b.length = b.cps.toList.length := by simp [Str.length]
  unfold inS
  split
  · rename_i c hc
    have ea : a = ⟨#[c]⟩ := by rw [str_eta a, hc]
    rw [ea]
    exact StrLaws.found_one b c
  · rw [← str_eta, ← str_eta, e]
def mIn (K : PySem.W.Frag) (neg : Bool) : R2 := fun x y H Q => match y with
  | .str b => (match x with | .str a => Q (.bl (if neg then !inS a.cps.toList b.cps.toList else inS a.cps.toList b.cps.toList)) H | _ => False)
  | .ref p => ∃ xs, (SqL K H p xs ∨ SqT K H p xs) ∧ flatV x = true ∧ xs.all flatV = true ∧ Q (.bl (if neg then !inV x xs else inV x xs)) H
  | _ => False
theorem op_inM : OpR X (compareOp .In) (mIn X.K false) := by
  intro pins s σ H x y v u Q I rx ry h
  unfold mIn at h
  cases y with
  | str b =>
    cases x with
    | str a => exact op_in_str pins s σ H _ _ v u Q I rx ry ⟨_, _, rfl, rfl, by rw [inS_occ]; exact h⟩
    | _ => exact h.elim
  | ref p =>
    obtain ⟨xs, h1, h2, h3, h4⟩ := h
    exact op_in_seq pins s σ H _ _ v u Q I rx ry ⟨_, xs, rfl, h1, h2, h3, h4⟩
  | _ => exact h.elim
def mTest (t : TE) : TT := fun σ H Q => t σ H fun x H' => match x with | .bl k => Q k H' | _ => False
def mAndV (ta tb : TE) : TE := fun σ H Q => ta σ H fun x H1 => match x with | .bl c => br c (tb σ H1 Q) (Q (.bl false) H1) | _ => False
def mNotV (ta : TE) : TE := fun σ H Q => ta σ H fun x H1 => match x with | .bl c => Q (.bl (!c)) H1 | _ => False
def mOr (t u : TT) : TT := fun σ H Q => t σ H fun c H1 => br c (Q true H1) (u σ H1 Q)
variable {rest : List Expr} {tA tB' : TT}
theorem pe_andM (ha : PE X a ta) (hb : PE X (.BoolOp .And (b :: rest) pos) tb) : PE X (.BoolOp .And (a :: b :: rest) pos) (mAndV ta tb) := by
  intro pins s σ H Q I h
  refine BoolOp_and (thn (ha pins s σ H _ I h) fun v s1 ⟨x, H1, I1, r1, q1⟩ => ?_)
  cases x with
  | bl c =>
    cases r1
    refine wpAny_truthy_bool ?_
    cases c with
    | true => exact hb pins s1 σ H1 Q I1 (q1.1 rfl)
    | false => exact ⟨.bl false, H1, I1, rfl, q1.2 rfl⟩
  | _ => exact q1.elim
theorem pe_notM (ha : PE X a ta) : PE X (.UnaryOp .Not a pos) (mNotV ta) := by
  intro pins s σ H Q I h
  refine UnaryOp_ (thn (ha pins s σ H _ I h) fun v s1 ⟨x, H1, I1, r1, q1⟩ => ?_)
  cases x with
  | bl c => cases r1; exact not_of (wpAny_truthy_bool ⟨.bl (!c), H1, I1, rfl, q1⟩)
  | _ => exact q1.elim
theorem pw_orM (ha : PT X a tA) (hb : PW X (.BoolOp .Or (b :: rest) pos) tB') : PW X (.BoolOp .Or (a :: b :: rest) pos) (mOr tA tB') := by
  intro wh pins s σ H Q I h
  refine isTrue_or (thn (ha pins s σ H _ I h) fun c s1 ⟨H1, I1, q1⟩ => ?_)
  cases c with
  | true => exact ⟨H1, I1, q1.1 rfl⟩
  | false => exact hb wh pins s1 σ H1 Q I1 (q1.2 rfl)
theorem pt_valM {e : Expr} {t : TE} (h : PE X e t) (he : ∀ whole, isTrue e X.env whole = (do let v ← whole; standAt e.pos; holding [v] (truthy v)) := by intro _; rfl) : PT X e (mTest t) := by
  intro pins s σ H Q I hw
  refine isTrue_plain (thn (h pins s σ H _ I hw) fun v s1 ⟨x, H1, I1, r1, q1⟩ => ?_) (he _)
  cases x with
  | bl c => cases r1; exact wpAny_truthy_bool ⟨H1, I1, q1⟩
  | _ => exact q1.elim
theorem pt_cmpM {op : CmpOp} {r : R2} (ho : OpR X (compareOp op) r) (ha : PE X a ta) (hb : PE X b tb) (hm : behindInMarks op b = false := by first | exact nobehind _ (by decide) (by decide) | rfl) : PT X (.Compare a [op] [b] pos) (mTest (tOp r ta tb)) := by
  intro pins s σ H Q I hw
  refine wpAny_isTrue_Compare1 (binT ha hb I hw fun v u s2 x y H2 I2 rx ry q => ?_) hm
  refine thn (ho pins s2 σ H2 x y v u _ I2 rx ry q) fun c s3 ⟨z, H3, I3, r3, q3⟩ => ?_
  cases z with
  | bl k => cases r3; exact wpAny_truthy_bool ⟨H3, I3, q3⟩
  | _ => exact q3.elim
def mIf (t : TT) (ta tb : TE) : TE := fun σ H Q => t σ H fun c H1 => br c (ta σ H1 Q) (tb σ H1 Q)
theorem pe_ifM {c : Expr} (hc : PT X c tA) (ha : PE X a ta) (hb : PE X b tb) : PE X (.IfExp c a b pos) (mIf tA ta tb) := by
  intro pins s σ H Q I h
  refine wpAny_IfExp (thn (hc pins s σ H _ I h) fun d s1 ⟨H1, I1, q1⟩ => ?_)
  cases d with
  | true => exact ha pins s1 σ H1 Q I1 (q1.1 rfl)
  | false => exact hb pins s1 σ H1 Q I1 (q1.2 rfl)
def mIfS (c : TT) (t u : TS) : TS := fun D σ H => c σ H fun b H1 => br b (t D σ H1) (u D σ H1)
theorem ps_ifM {c : Expr} {a b : List Stmt} {tc : TT} {t u : TS} (hc : PT X c tc) (ha : PSs X a t) (hb : PSs X b u) : PS X (.If c a b pos) (mIfS tc t u) := by
  intro pins s σ H D I h
  refine wpAny_If (thn (hc pins s σ H _ I h) fun d s1 ⟨H1, I1, q1⟩ => ?_)
  cases d with
  | true => exact ha pins s1 σ H1 D I1 (q1.1 rfl)
  | false => exact hb pins s1 σ H1 D I1 (q1.2 rfl)
end
end L2
namespace L2
open PySem PySem.Spec PyProof.Rows
section
variable {X : Cx} {a b c e o : Expr} {es : List Expr} {ta tb tc : TE} {t : TA} {pos : Pos}
def mIx (K : PySem.W.Frag) : R2 := fun x y H Q => match y with
  | .int i => (match x with
    | .ref p => ∃ xs, (SqL K H p xs ∨ SqT K H p xs) ∧ (match atI xs i with | some v => Q v H | none => False)
    | .str z => z.cps.toList.length ≤ sizeLine ∧ (match atI z.cps.toList i with | some c => Q (tx [c]) H | none => False)
    | _ => False)
  | _ => False
theorem ix_M : IxR X (mIx X.K) := by
  intro value slice pins s σ H x y v u Q I rx ry h hs0
  unfold mIx at h
  cases y with
  | int i =>
    cases x with
    | ref p =>
      obtain ⟨xs, hs, h⟩ := h
      cases ev : atI xs i with
      | none => rw [ev] at h; exact h.elim
      | some w' =>
        rw [ev] at h
        rcases hs with hs | hs
        · exact ix_list value slice pins s σ H _ _ v u Q I rx ry ⟨p, xs, i, w', rfl, rfl, hs, ev, h⟩ hs0
        · exact ix_tup value slice pins s σ H _ _ v u Q I rx ry ⟨p, xs, i, w', rfl, rfl, hs, ev, h⟩ hs0
    | str z =>
      obtain ⟨hz, h⟩ := h
      cases ev : atI z.cps.toList i with
      | none => rw [ev] at h; exact h.elim
      | some w' =>
        rw [ev] at h
        exact ix_str value slice pins s σ H _ _ v u Q I rx ry ⟨z, i, w', rfl, rfl, by simpa [Str.length] using hz, ev, h⟩ hs0
    | _ => exact h.elim
  | _ => exact h.elim
def mSl (K : PySem.W.Frag) : V → Option Int → Option Int → Hp → VK → Prop := fun x lo hi H Q => match x with
  | .str z => z.cps.toList.length ≤ sizeLine ∧ Q (tx (cutL z.cps.toList lo hi)) H
  | .ref a => ∃ xs, SqL K H a xs ∧ ∀ p, H p = none → Q (.ref p) (upd H p (.lst (cutV xs lo hi)))
  | _ => False
theorem sl_M : SlR X (mSl X.K) := by
  intro pins s σ H x v vl vu lo hi sl Q I rx hs pl pu h
  unfold mSl at h
  cases x with
  | str z => exact sl_str pins s σ H _ v vl vu lo hi sl Q I rx hs pl pu ⟨by simpa [Str.length] using h.1, h.2⟩
  | ref p =>
    obtain ⟨xs, h1, h2⟩ := h
    exact sl_list pins s σ H _ v vl vu lo hi sl Q I rx hs pl pu ⟨p, xs, rfl, h1, h2⟩
  | _ => exact h.elim
def mPart (t : TE) : TO := fun σ H Q => t σ H fun x H1 => match x with | .int i => Q (some i) H1 | _ => False
theorem po_M (h : PE X e ta) : PO X (some e) (mPart ta) := by
  intro pins s σ H Q I hw
  rw [evalPart_some]
  refine thn (h pins s σ H _ I hw) fun u s1 ⟨x, H1, I1, r1, q1⟩ => ?_
  cases x with
  | int i => obtain ⟨t, rfl⟩ := r1; exact ⟨some i, H1, I1, .int i t, q1⟩
  | _ => exact q1.elim
def mLen (K : PySem.W.Frag) : List V → Hp → VK → Prop := fun xs H Q => match xs with
  | [.str z] => z.cps.toList.length ≤ sizeLine ∧ Q (.int z.cps.toList.length) H
  | [.ref p] => ∃ ys, (SqL K H p ys ∨ SqT K H p ys) ∧ Q (.int ys.length) H
  | _ => False
theorem call_lenM : CallR X (.builtin "len") (mLen X.K) := by
  intro pins s σ H xs us Q I r h
  unfold mLen at h
  split at h
  · exact call_len_str pins s σ H _ us Q I r ⟨_, rfl, by simpa [Str.length] using h.1, by simpa [Str.length] using h.2⟩
  · obtain ⟨ys, h1, h2⟩ := h
    exact call_len_seq pins s σ H _ us Q I r ⟨_, ys, rfl, h1, h2⟩
  · exact h.elim
def mTwo (g : Int → Int → Int) : List V → Hp → VK → Prop := fun xs H Q => match xs with | [.int i, .int j] => Q (.int (g i j)) H | _ => False
theorem call_minM (hc : X.calm = true) : CallR X (.builtin "min") (mTwo min) := by
  intro pins s σ H xs us Q I r h
  unfold mTwo at h
  split at h
  · rename_i i j
    refine call_min2 hc pins s σ H _ us Q I r ⟨i, j, rfl, ?_⟩
    have e : (if j < i then j else i) = min i j := by split <;> omega
    rw [e]; exact h
  · exact h.elim
def tyS (K : PySem.W.Frag) (H : Hp) : V → String → Prop := fun x T => match x with
  | .non => T = "NoneType" | .bl _ => T = "bool" | .int _ => T = "int" | .str _ => T = "str"
  | .ref p => (T = "list" ∧ ∃ xs, H p = some (.lst xs)) ∨ (T = "tuple" ∧ ∃ xs, H p = some (.tup xs))
  | _ => False
theorem tyS_of {K : PySem.W.Frag} {H : Hp} {x : V} {T : String} (h : tyS K H x T) : TyOf K H x (.type T) := by
  unfold tyS at h
  cases x with
  | non => subst h; exact .non
  | bl b => subst h; exact .bl b
  | int i => subst h; exact .int i
  | str z => subst h; exact .str z
  | ref p =>
    rcases h with ⟨rfl, xs, h⟩ | ⟨rfl, xs, h⟩
    · exact .lst h
    · exact .tup h
  | _ => exact h.elim
def isaB (T c : String) : Option Bool :=
  if T = c then some true else if T = "bool" ∧ c = "int" then some true
  else if (T = "bool" ∨ T = "int" ∨ T = "str" ∨ T = "list" ∨ T = "tuple" ∨ T = "NoneType") ∧ (c = "bool" ∨ c = "int" ∨ c = "str" ∨ c = "list" ∨ c = "tuple" ∨ c = "dict") then some false else none
theorem kit_isa {K : PySem.W.Frag} {T c : String} {b : Bool} (h : isaB T c = some b) : PySem.W.kitOne K (.type T) (.type c) = some b := by
  unfold isaB at h
  split at h
  · rename_i e; subst e; cases h
    unfold PySem.W.kitOne
    rw [if_pos (by simp)]
  · split at h
    · rename_i e; obtain ⟨rfl, rfl⟩ := e; cases h; rfl
    · split at h
      · rename_i h1 h2 e
        cases h
        obtain ⟨e1, e2⟩ := e
        rcases e1 with rfl | rfl | rfl | rfl | rfl | rfl <;> rcases e2 with rfl | rfl | rfl | rfl | rfl | rfl <;> first | rfl | exact absurd rfl h1 | exact absurd ⟨rfl, rfl⟩ h2
      · cases h
def mIsa (K : PySem.W.Frag) : List V → Hp → VK → Prop := fun xs H Q => match xs with
  | [.int _, .ty c] => (match isaB "int" c with | some b => Q (.bl b) H | none => False)
  | [.bl _, .ty c] => (match isaB "bool" c with | some b => Q (.bl b) H | none => False)
  | [.str _, .ty c] => (match isaB "str" c with | some b => Q (.bl b) H | none => False)
  | [.non, .ty c] => (match isaB "NoneType" c with | some b => Q (.bl b) H | none => False)
  | [.ref p, .ty c] => ∃ T, tyS K H (.ref p) T ∧ (match isaB T c with | some b => Q (.bl b) H | none => False)
  | _ => False
theorem call_isa : CallR X (.builtin "isinstance") (mIsa X.K) := by
  intro pins s σ H xs us Q I r h
  have key : ∀ (x : V) (T c : String), xs = [x, .ty c] → tyS X.K H x T → (match isaB T c with | some b => Q (.bl b) H | none => False) → wpAny (model X.prog X.w) X.A (call (.builtin "isinstance") us) (EP X pins σ Q) X.xe s := by
    intro x T c e ht hq
    subst e
    obtain ⟨u, w', rfl, r1, r2⟩ := vals2 r
    cases r2
    cases eb : isaB T c with
    | none => rw [eb] at hq; exact hq.elim
    | some b =>
      rw [eb] at hq
      exact isinst_ok I r1 (tyS_of ht) (kit_isa eb) fun tk => ⟨.bl b, H, I.tok tk, rfl, hq⟩
  unfold mIsa at h
  split at h
  · exact key _ "int" _ rfl rfl h
  · exact key _ "bool" _ rfl rfl h
  · exact key _ "str" _ rfl rfl h
  · exact key _ "NoneType" _ rfl rfl h
  · obtain ⟨T, h1, h2⟩ := h
    exact key _ T _ rfl h1 h2
  · exact h.elim
def findS (l : List Nat) (t : List Nat) : Int := Txt.find ⟨l.toArray⟩ ⟨t.toArray⟩
theorem find_one (l : List Nat) (c : Nat) : findS l [c] = (match l.findIdx? (· == c) with | some i => (i : Int) | none => -1) := by
  unfold findS
  rcases find_whole ⟨l.toArray⟩ ⟨[c].toArray⟩ with ⟨h1, h2⟩ | ⟨i, h1, h2, h3⟩
  · rw [h1]
    have : l.findIdx? (· == c) = none := by
      rw [List.findIdx?_eq_none_iff]
      intro x hx
      obtain ⟨j, hj⟩ := List.mem_iff_getElem?.mp hx
      by_cases hxc : x = c
      · subst hxc
        exact absurd ((StrLaws.subAt_one ⟨l.toArray⟩ x j).mpr (by simpa using hj)) (h2 j)
      · simpa using hxc
    rw [this]
  · rw [h1]
    have hi : l[i]? = some c := by simpa using (StrLaws.subAt_one ⟨l.toArray⟩ c i).mp h2
    have : l.findIdx? (· == c) = some i := by
      obtain ⟨hlt, hget⟩ := List.getElem?_eq_some_iff.mp hi
      rw [List.findIdx?_eq_some_iff_getElem]
      refine ⟨hlt, by simp [hget], fun j hj => ?_⟩
      have hjl : j < l.length := Nat.lt_trans hj hlt
      have hn := h3 j hj
      intro hc
      have hc' : l[j] = c := by simpa using hc
      exact hn ((StrLaws.subAt_one ⟨l.toArray⟩ c j).mpr (by simp [hjl, hc']))
    rw [this]
def mIndex : V → List V → Hp → VK → Prop := fun x xs H Q => match x, xs with | .str l, [.str t] => findS l.cps.toList t.cps.toList ≠ -1 ∧ Q (.int (findS l.cps.toList t.cps.toList)) H | _, _ => False
theorem mt_index : MtR X "str.index" mIndex := by
  intro pins s σ H x xs v us Q I rx rv h
  unfold mIndex at h
  split at h
  · rename_i l t
    obtain ⟨k, rfl⟩ := rx
    obtain ⟨u, rfl, ru⟩ := rv.one
    obtain ⟨k', rfl⟩ := ru
    have e : Txt.find l t = findS l.cps.toList t.cps.toList := by unfold findS; rw [← str_eta, ← str_eta]
    rw [← e] at h
    unfold Txt.find at h
    cases ho : Builtin.Str.occurrences l t 0 l.length 1 with
    | nil => rw [ho] at h; exact absurd rfl h.1
    | cons i rest =>
      rw [ho] at h
      exact SC.index ho ⟨.int _, H, I.tok _, ⟨_, rfl⟩, h.2⟩
  · exact h.elim
def strsOf : List V → Option (List Str)
  | [] => some []
  | .str z :: r => (strsOf r).map (z :: ·)
  | _ :: _ => none
theorem strsOf_map {vs : List V} {zs : List Str} : strsOf vs = some zs → vs = zs.map V.str := by
  induction vs generalizing zs with
  | nil => intro h; cases h; rfl
  | cons v r ih =>
    intro h
    cases v with
    | str z =>
      unfold strsOf at h
      cases e : strsOf r with
      | none => rw [e] at h; cases h
      | some y => rw [e] at h; cases h; rw [ih e]; rfl
    | _ => cases h
theorem strsOf_of (zs : List Str) : strsOf (zs.map V.str) = some zs := by
  induction zs with
  | nil => rfl
  | cons z r ih => show (strsOf (r.map V.str)).map (z :: ·) = _; rw [ih]; rfl
def joinS (sep : List Nat) (zs : List Str) : List Nat := (Txt.join ⟨sep.toArray⟩ zs).cps.toList
def mJoin (K : PySem.W.Frag) : V → List V → Hp → VK → Prop := fun x xs H Q => match x, xs with
  | .str l, [.ref D] => ∃ vs, (SqL K H D vs) ∧ (match strsOf vs with | some zs => JoinOk l zs = true ∧ Q (tx (joinS l.cps.toList zs)) H | none => False)
  | _, _ => False
theorem vals_strs : ∀ {zs : List Str} {us : List Value}, Vals (zs.map V.str) us → ∃ l : List (Str × Tok), us = strValues l ∧ l.map (·.1) = zs
  | [], us, r => by cases r; exact ⟨[], rfl, rfl⟩
  | z :: zs, us, r => by
    cases r with
    | cons r rr =>
      obtain ⟨t, rfl⟩ := r
      obtain ⟨l, rfl, hl⟩ := vals_strs rr
      exact ⟨(z, t) :: l, rfl, by rw [List.map_cons, hl]⟩
theorem mt_join : MtR X "str.join" (mJoin X.K) := by
  intro pins s σ H x xs v us Q I rx rv h
  unfold mJoin at h
  split at h
  · rename_i l D
    obtain ⟨k, rfl⟩ := rx
    obtain ⟨u, rfl, ru⟩ := rv.one
    cases ru
    obtain ⟨vs, hs, h⟩ := h
    cases ez : strsOf vs with
    | none => rw [ez] at h; exact h.elim
    | some zs =>
      rw [ez] at h
      have ev := strsOf_map ez
      subst ev
      obtain ⟨its, r, p, hz⟩ := I.list hs
      obtain ⟨lz, e1, e2⟩ := vals_strs r
      subst e1
      refine SC.join p.isList e2 h.1 fun t' k' => ⟨tx (joinS l.cps.toList zs), H, I.tok _, ⟨t', ?_⟩, h.2⟩
      unfold joinS
      rw [← str_eta, ← str_eta]
  · exact h.elim
end
theorem join_nil (zs : List Str) : joinS [] zs = (zs.map fun z => z.cps.toList).flatten := by
  unfold joinS Txt.join Builtin.Str.glued
  cases zs with
  | nil => rfl
  | cons z r =>
    show ((r.foldl (fun acc p => acc ++ #[] ++ p.cps) z.cps)).toList = _
    have : ∀ (acc : Array Nat), (r.foldl (fun acc p => acc ++ #[] ++ p.cps) acc).toList = acc.toList ++ (r.map fun z => z.cps.toList).flatten := by
      induction r with
      | nil => intro acc; simp
      | cons y r ih => intro acc; rw [List.foldl_cons, ih]; simp
    rw [this]
    simp
end L2
namespace L2
open PySem PySem.Spec PyProof.Rows
def Gd (P : Program) (w : World) (K : PySem.W.Frag) (mg : Str → Option Value) (base : Heap) (CX : CXT) (k : Nat) (x : Str) (ps : List Str) (sp : Sp) : Prop :=
  ∃ f fd, FnOk P w K mg base CX k f fd ps sp ∧ mg x = some (.ref f) ∧ PySem.W.keepIn K (.ref f) = true ∧ Binds K fd ps []
def Gc (mg : Str → Option Value) (x : Str) (v : V) : Prop := ∃ u, mg x = some u ∧ RelV v u
abbrev Gb (mg : Str → Option Value) (x : Str) : Prop := mg x = none
section
variable {X : Cx} {CX : CXT} {k : Nat} {x : Str} {ps : List Str} {sp : Sp} {p pos : Pos} {e : Expr} {es : List Expr} {t : TA} {tg : Expr}
theorem pe_callG (G : Gd X.prog X.w X.K X.mg X.base CX0 k x ps sp) (hr : Room k X.A) (ha : PA X (e :: es) t) (hg : Gl X x := by rfl) (hdb : (x == ("__debug__" : Str)) = false := by decide)
    (he : starEach (e :: es) X.env = (false, eval e X.env) :: starEach es X.env := by rfl) (hpl : (backTo pos (starEach es X.env)).any (·.1) = false := by rfl) :
    PE X (.Call (.Name x p) (e :: es) [] pos) (tCall sp [] E0 t) := by
  obtain ⟨f, fd, F, hm, hk, hb⟩ := G
  exact pe_call F hr hg hm hk hb .nil pass0 ha hdb he hpl
theorem pe_gc {v : V} (h : Gc X.mg x v) (hg : Gl X x := by rfl) (hd : (x == ("__debug__" : Str)) = false := by decide) : PE X (.Name x pos) (tC v) := by
  obtain ⟨u, hm, r⟩ := h
  exact pe_glob hg hm r hd
theorem pe_ty (T : String) (hm : Gb X.mg x) (hg : Gl X x := by rfl) (hv : bootBuiltins x = some (.type T) := by rfl) (hn : x ≠ "__name__" := by decide) (hd : (x == ("__debug__" : Str)) = false := by decide) : PE X (.Name x pos) (tC (.ty T)) :=
  pe_bltn hg hm hv rfl hn hd
theorem pe_bf {id : String} {r : List V → Hp → VK → Prop} (hc : CallR X (.builtin id) r) (hm : Gb X.mg x) (ha : PA X (e :: es) t) (hg : Gl X x := by rfl) (hv : bootBuiltins x = some (.builtin id) := by rfl) (hn : x ≠ "__name__" := by decide) (hdb : (x == ("__debug__" : Str)) = false := by decide)
    (hs : starEach (e :: es) X.env = (false, eval e X.env) :: starEach es X.env := by rfl) (hpl : (backTo pos (starEach es X.env)).any (·.1) = false := by rfl) : PE X (.Call (.Name x p) (e :: es) [] pos) (tCB r t) :=
  pe_callB hc hg hm hv ha hn hdb hs hpl
theorem pe_sm {o : Expr} {to : TE} {name : Str} {id : String} {r : V → List V → Hp → VK → Prop} {apos cpos : Pos} (slot : Slot "str" name id) (hty : typeOf (.builtin id) = pure (.type "method_descriptor")) (hm : MtR X id r) (ho : PE X o to) (ha : PA X (e :: es) t)
    (h1 : attributeBase o name X.env (eval o X.env) = eval o X.env := by rfl) (h2 : ((((backTo cpos (starEach (e :: es) X.env)).all fun x => !x.fst) && (backToKw cpos (keywordEach [] X.env)).all fun x => x.fst.isSome) && decide (((e :: es).length + ([] : List Keyword).length + if ([] : List Keyword).isEmpty = true then 0 else 1) < 30)) = true := by rfl)
    (h3 : (apos.endLine == cpos.line) = true := by rfl) (h4 : starEach (e :: es) X.env = (false, eval e X.env) :: starEach es X.env := by rfl) (h5 : ((backTo cpos (starEach es X.env)).any fun x => x.fst) = false := by rfl) :
    PE X (.Call (.Attribute o name apos) (e :: es) [] cpos) (tBM X.K "str" r to t) := pe_bm PySem.F.plainAttrs_str slot hty hm ho ha h1 h2 h3 h4 h5
def iAny (K : PySem.W.Frag) (tl : TE) : TI := fun σ H R => tl σ H fun x H1 => match x with
  | .str z => R (Itp z.cps.toList.length (fun i => tx [z.cps.toList.getD i 0])) H1
  | .ref a => ((∃ xs, SqL K H1 a xs) ∧ R (Itl K a) H1) ∨ ((∃ xs, SqT K H1 a xs) ∧ R (Itt K a) H1)
  | _ => False
theorem sgn_tx (z : Str) : sgn z = fun i => tx [z.cps.toList.getD i 0] := by
  funext i
  unfold sgn
  simp [Array.getD_eq_getD_getElem?, List.getD_eq_getElem?_getD]
theorem pi_any {l : Expr} {tl : TE} (hl : PE X l tl) : PI X tg l (iAny X.K tl) := by
  intro pins s σ H R I h
  refine thn (hl pins s σ H _ I h) fun v s1 ⟨x, H1, I1, r1, q1⟩ => ?_
  have pt : ∀ (v : V), PE X l (tC v) → PE X l (tC v) := fun _ h => h
  cases x with
  | str z =>
    obtain ⟨t, rfl⟩ := r1
    refine wpAny_pyIter_strU ?_
    have q : R (Itp z.cps.size (sgn z)) H1 := by
      have e : z.cps.toList.length = z.cps.size := by simp
      rw [sgn_tx, ← e]
      exact q1
    refine ⟨s1.heap.objs.size, [s1.heap.objs.size], _, _, H1, rfl, I1.kept (t' := s1.toks) fun b o e => Heap.get?_push_of_some _ e, turn_str _ z t, ⟨Nat.zero_le _, ⟨_, Heap.get?_push_size _ rfl, rfl, rfl⟩⟩, fun b hb => ?_, q⟩
    have e : b = s1.heap.objs.size := by simpa using hb
    subst e
    exact I1.fpOk (Nat.le_refl _) (I1.hok.fresh (Nat.le_refl _))
  | ref a =>
    cases r1
    rcases q1 with ⟨⟨xs, hq⟩, q⟩ | ⟨⟨xs, hq⟩, q⟩
    · obtain ⟨its, rv, p, hz⟩ := I1.list hq
      refine wpAny_pyIter_list p.isList ?_
      refine ⟨s1.heap.objs.size, [s1.heap.objs.size], _, _, H1, rfl, I1.kept (t' := s1.toks) fun b o e => Heap.get?_push_of_some _ e, turn_list a _, ⟨_, Heap.get?_push_size _ rfl, rfl, rfl⟩, fun b hb => ?_, q⟩
      have e : b = s1.heap.objs.size := by simpa using hb
      subst e
      exact I1.fpOk (Nat.le_refl _) (I1.hok.fresh (Nat.le_refl _))
    · obtain ⟨its, rv, p, hz⟩ := I1.tuple hq
      refine wpAny_pyIter_tuple (show s1.heap.IsTuple a its.toArray from p) ?_
      refine ⟨s1.heap.objs.size, [s1.heap.objs.size], _, _, H1, rfl, I1.kept (t' := s1.toks) fun b o e => Heap.get?_push_of_some _ e, turn_tuple a _, ⟨_, Heap.get?_push_size _ rfl, rfl, rfl⟩, fun b hb => ?_, q⟩
      have e : b = s1.heap.objs.size := by simpa using hb
      subst e
      exact I1.fpOk (Nat.le_refl _) (I1.hok.fresh (Nat.le_refl _))
  | _ => exact q1.elim
def mRng1 (ta : TA) : TI := fun σ H R => ta σ H fun vs H1 => match vs with | [.int j] => -(2 ^ 62) ≤ j ∧ j < 2 ^ 62 ∧ R (Itr 0 j.toNat) H1 | _ => False
end
section
variable {X : Cx} {tg : Expr}
theorem pi_rngM1 {a : Expr} {ta : TA} {p pos : Pos} (hm : Gb X.mg "range") (ha : PA X [a] ta) (hg : Gl X "range" := by rfl) (hs : starEach [a] X.env = [(false, eval a X.env)] := by rfl) : PI X tg (.Call (.Name "range" p) [a] [] pos) (mRng1 ta) := by
  intro pins s σ H R I h
  refine Call_ (ld_blt I hg hm boot_range (PyProof.Rows.callWith_type1 (thn (ha pos pins s σ H _ I h) fun us s1 ⟨vs, H1, I1, r1, q1⟩ => ?_) hs rfl))
  dsimp only at q1
  split at q1
  · obtain ⟨q2, q3, q⟩ := q1
    cases r1 with
    | cons r rr =>
      cases rr
      obtain ⟨t, rfl⟩ := r
      exact call_range_1 (range_it I1 (by omega) (by omega) q2 q3 (by simpa using q))
  · exact q1.elim
variable {elts : List Expr} {kk : Nat} {tpos : Pos}
def iEnum (K : PySem.W.Frag) (ta : TA) : TI := fun σ H R => ta σ H fun vs H1 => match vs with
  | [.str z] => R (Ites z.cps.toList.length (fun i => tx [z.cps.toList.getD i 0])) H1
  | [.ref a] => (∃ xs, SqL K H1 a xs) ∧ R (Ite K a) H1
  | _ => False
theorem pi_enum {a : Expr} {ta : TA} {p pos : Pos} (hm : Gb X.mg "enumerate") (ha : PA X [a] ta) (hg : Gl X "enumerate" := by rfl) (hs : starEach [a] X.env = [(false, eval a X.env)] := by rfl) :
    PI X (.Tuple elts kk tpos) (.Call (.Name "enumerate" p) [a] [] pos) (iEnum X.K ta) := by
  intro pins s σ H R I h
  refine Call_ (ld_blt I hg hm (u := .type "enumerate") (by rfl) (PyProof.Rows.callWith_type1 (thn (ha pos pins s σ H _ I h) fun us s1 ⟨vs, H1, I1, r1, q1⟩ => ?_) hs rfl))
  dsimp only at q1
  split at q1
  · rename_i z
    cases r1 with
    | cons r rr =>
      cases rr
      obtain ⟨t, rfl⟩ := r
      refine call_enumerate_str fun h' he hit hsz hk => ?_
      refine wpAny_pyIter_enum (s := { s1 with heap := h' }) he ?_
      have I2 : Inv X pins σ H1 { s1 with heap := h' } := I1.kept (t' := s1.toks) hk
      have q : R (Ites z.cps.size (sgn z)) H1 := by
        have e : z.cps.toList.length = z.cps.size := by simp
        rw [sgn_tx, ← e]
        exact q1
      refine ⟨s1.heap.objs.size + 1, [s1.heap.objs.size + 1, s1.heap.objs.size], _, _, H1, rfl, I2, turn_enumS _ _ z t (by simp), ⟨⟨_, he⟩, Nat.zero_le _, hit⟩, fun b hb => ?_, q⟩
      have hb' : s1.heap.objs.size ≤ b := by
        rcases List.mem_cons.mp hb with rfl | hb
        · exact Nat.le_succ _
        · have e : b = s1.heap.objs.size := by simpa using hb
          subst e; exact Nat.le_refl _
      exact I1.fpOk hb' (I1.hok.fresh hb')
  · rename_i l
    obtain ⟨⟨xs, hq⟩, q⟩ := q1
    cases r1 with
    | cons r rr =>
      cases rr
      cases r
      obtain ⟨its, rv, p, hz⟩ := I1.list hq
      refine call_enumerate_list p.isList fun h' he hit hsz hk => ?_
      refine wpAny_pyIter_enum (s := { s1 with heap := h' }) he ?_
      have I2 : Inv X pins σ H1 { s1 with heap := h' } := I1.kept (t' := s1.toks) hk
      refine ⟨s1.heap.objs.size + 1, [s1.heap.objs.size + 1, s1.heap.objs.size], _, _, H1, rfl, I2, turn_enumL _ _ l (by simp), ⟨⟨_, he⟩, hit⟩, fun b hb => ?_, q⟩
      have hb' : s1.heap.objs.size ≤ b := by
        rcases List.mem_cons.mp hb with rfl | hb
        · exact Nat.le_succ _
        · have e : b = s1.heap.objs.size := by simpa using hb
          subst e; exact Nat.le_refl _
      exact I1.fpOk hb' (I1.hok.fresh hb')
  · exact q1.elim
def gNilM : TGs := fun vs σ H Q => match vs with | [] => Q σ H | _ => False
def gConsM (t : TG) (u : TGs) : TGs := fun vs σ H Q => match vs with | v :: r => t v σ H fun σ' H' => u r σ' H' Q | [] => False
theorem pgs_nilM : PGs X [] gNilM := by
  intro pins s σ H vs us Q I r h
  cases vs with
  | nil => exact pgs_nil pins s σ H [] us Q I r ⟨rfl, h⟩
  | cons _ _ => exact h.elim
theorem pgs_consM {e : Expr} {es : List Expr} {t : TG} {u : TGs} (h1 : PG X e t) (h2 : PGs X es u)
    (hs : (assignEach (e :: es) X.env).map (·.2) = assign e X.env :: (assignEach es X.env).map (·.2) := by rfl) : PGs X (e :: es) (gConsM t u) := by
  intro pins s σ H vs us Q I r h
  cases vs with
  | nil => exact h.elim
  | cons v vr => exact pgs_cons h1 h2 hs pins s σ H _ us Q I r ⟨v, vr, rfl, h⟩
def gTupM (K : PySem.W.Frag) (n : Nat) (t : TGs) : TG := fun v σ H Q => match v with | .ref a => ∃ xs, SqT K H a xs ∧ xs.length = n ∧ t xs σ H Q | _ => False
theorem pg_tupM {es : List Expr} {k : Nat} {t : TGs} {n : Nat} {pos : Pos} (hc : X.calm = true) (h : PGs X es t)
    (hn : (assignEach es X.env).length = n := by rfl) (hst : (assignEach es X.env).findIdx? (·.1) = none := by rfl) : PG X (.Tuple es k pos) (gTupM X.K n t) := by
  intro pins s σ H v u Q I r hw
  cases v with
  | ref a =>
    obtain ⟨xs, h1, h2, h3⟩ := hw
    exact pg_tup hc h hn hst pins s σ H _ u Q I r ⟨a, xs, rfl, h1, h2, h3⟩
  | _ => exact hw.elim
def mNeg (ta : TE) : TE := fun σ H Q => ta σ H fun x H1 => match x with | .int i => Q (.int (-i)) H1 | _ => False
theorem pe_neg {a : Expr} {ta : TE} {pos : Pos} (ha : PE X a ta) : PE X (.UnaryOp .USub a pos) (mNeg ta) := by
  intro pins s σ H Q I h
  refine UnaryOp_ (thn (ha pins s σ H _ I h) fun v s1 ⟨x, H1, I1, r1, q1⟩ => ?_)
  cases x with
  | int i => exact un_neg pins s1 σ H1 _ v Q I1 r1 ⟨i, rfl, q1⟩
  | _ => exact q1.elim
end
theorem same_new {H : Hp} {p : Addr} (h : H p = none) (o : HO) : Same H (upd H p o) := fun b u q => by rw [upd_ne (ne_of_none q h)]; exact q
theorem Same.tup {K : PySem.W.Frag} {H H' : Hp} {a : Addr} {xs : List V} (e : Same H H') (h : SqT K H a xs) : SqT K H' a xs := by
  rcases h with (h | ⟨o, h⟩) | h
  · exact .inl (.inl (e _ _ h))
  · exact .inl (.inr ⟨o, e _ _ h⟩)
  · exact .inr h
end L2
namespace L2
open PySem PySem.Spec PyProof.Rows
theorem seq_cut {t C : TS} {D : Ends} {σ : St} {H : Hp} (P : St → Hp → Prop) (h : ∀ nx : St → Hp → Prop, (∀ σ' H', P σ' H' → nx σ' H') → t { D with nx := nx } σ H) (rest : ∀ σ' H', P σ' H' → C D σ' H') : tSeq t C D σ H := h (C D) rest
theorem unpack2 {K : PySem.W.Frag} {i j : Nat} {x y : V} {σ : St} {H : Hp} {p : Addr} {Q : St → Hp → Prop} (h : SqT K H p [x, y]) (q : Q ((σ.set i (some x)).set j (some y)) H) : gTupM K 2 (gConsM (gName i) (gConsM (gName j) gNilM)) (.ref p) σ H Q := ⟨_, h, rfl, q⟩
theorem atI_lt {α : Type} {xs : List α} {k : Int} (h0 : 0 ≤ k) (h1 : k < (xs.length : Int)) : ∃ x, xs[k.toNat]? = some x ∧ atI xs k = some x := by
  have hk : k.toNat < xs.length := by omega
  have e : xs[k.toNat]? = some xs[k.toNat] := List.getElem?_eq_getElem hk
  refine ⟨_, e, ?_⟩
  have q := atI_nat e
  rwa [Int.toNat_of_nonneg h0] at q
theorem atI_map_lt {α β : Type} {f : α → β} {xs : List α} {k : Int} (h0 : 0 ≤ k) (h1 : k < (xs.length : Int)) : ∃ x, xs[k.toNat]? = some x ∧ atI (xs.map f) k = some (f x) := by
  obtain ⟨y, e1, e2⟩ := atI_lt (xs := xs.map f) h0 (by simpa using h1)
  rw [List.getElem?_map] at e1
  cases e : xs[k.toNat]? with
  | none => rw [e] at e1; cases e1
  | some x => rw [e] at e1; cases e1; exact ⟨x, rfl, e2⟩
theorem bt {a b : Int} (h : a ≤ b) : decide (a ≤ b) = true := decide_eq_true h
theorem small_n {n : Nat} (h : n ≤ 100000) : n ≤ sizeLine := by rw [sizeLine_eq]; omega
theorem cutL_in {l : List Nat} {i j : Int} (h0 : 0 ≤ i) (h1 : i ≤ j) (h2 : j ≤ l.length) : cutL l (some i) (some j) = (l.drop i.toNat).take (j - i).toNat := by
  unfold cutL
  have e1 : HT.sIx l.length 0 (some i) = i.toNat := by
    have := HT.sIx_nat l.length 0 i.toNat
    rw [Int.toNat_of_nonneg h0] at this
    rw [this]; omega
  have e2 : HT.sIx l.length l.length (some j) = j.toNat := by
    have := HT.sIx_nat l.length l.length j.toNat
    rw [Int.toNat_of_nonneg (by omega)] at this
    rw [this]; omega
  rw [e1, e2]
  congr 1
  omega
theorem cutV_to (xs : List V) (n : Nat) : cutV xs none (some (n : Int)) = xs.take n := by
  unfold cutV
  rw [HT.sIx_none, HT.sIx_nat, List.drop_zero, Nat.sub_zero]
  by_cases h : n ≤ xs.length
  · rw [Nat.min_eq_left h]
  · rw [Nat.min_eq_right (by omega), List.take_of_length_le (Nat.le_refl _), List.take_of_length_le (by omega)]
theorem comp_map {n : Nat} {f : Nat → V} {g : TG} {te : TE} {σ0 : St} {H1 : Hp} {Q : VK} (out : Nat → V) (Pσ : St → Prop) (h0 : Pσ σ0) (hn : n ≤ sizeLine)
    (hstep : ∀ i σ H (k : V → St → Hp → Prop), i < n → Pσ σ → (∀ σ2, Pσ σ2 → k (out i) σ2 H) → g (f i) σ H fun σ2 H2 => te σ2 H2 fun v H4 => k v σ2 H4)
    (hq : ∀ D, H1 D = none → Q (.ref D) (upd H1 D (.lst ((List.range n).map out)))) : tCompR (Itp n f) g tTrue te σ0 H1 Q := by
  intro D hD
  refine ⟨fun i m ys σ H => m = n - i ∧ i ≤ n ∧ ys = (List.range i).map out ∧ Pσ σ ∧ H = upd H1 D (.lst ys), ⟨n, rfl, Nat.zero_le _, rfl, h0, rfl⟩, ?_⟩
  rintro i m ys σ H ⟨rfl, hi, rfl, hp, rfl⟩
  by_cases hlt : i < n
  · refine .inr ⟨hlt, fun ys' σ' H' => ys' = (List.range (i + 1)).map out ∧ Pσ σ' ∧ H' = upd H1 D (.lst ys'), fun ys' σ' H' ⟨e1, e2, e3⟩ => ⟨n - (i + 1), by omega, rfl, hlt, e1, e2, e3⟩, fun x H' y => ?_⟩
    obtain ⟨rfl, rfl⟩ := y
    refine hstep i σ _ (fun v σ2 H4 => H4 D = some (.lst ((List.range i).map out)) ∧ ((List.range i).map out).length < sizeLine ∧ ((List.range i).map out ++ [v] = (List.range (i + 1)).map out ∧ Pσ σ2 ∧ upd H4 D (.lst ((List.range i).map out ++ [v])) = upd H1 D (.lst ((List.range i).map out ++ [v])))) hlt hp fun σ2 h2 => ?_
    refine ⟨upd_same, by rw [List.length_map, List.length_range]; omega, ?_, h2, upd_upd⟩
    rw [List.range_succ, List.map_append]
    rfl
  · have e : i = n := by omega
    subst e
    exact .inl ⟨Nat.le_refl _, hq D hD⟩
theorem joinOk_small {zs : List Str} {sep : Str} (h : zs.length * (sep.length + 1) ≤ 100000) (h1 : ∀ z ∈ zs, z.length ≤ 1) : JoinOk sep zs = true := by
  unfold JoinOk
  have key : ∀ (l : List Str) (acc : Nat), (∀ z ∈ l, z.length ≤ 1) → l.foldl (fun x1 x2 => x1 + x2.length + sep.length) acc ≤ acc + l.length * (sep.length + 1) := by
    intro l
    induction l with
    | nil => intro acc _; simp
    | cons z r ih =>
      intro acc hz
      rw [List.foldl_cons]
      have h2 := ih (acc + z.length + sep.length) fun y hy => hz y (List.mem_cons_of_mem _ hy)
      have h3 := hz z List.mem_cons_self
      rw [List.length_cons, Nat.add_mul]
      omega
  have q := key zs 0 h1
  rw [List.foldl_toArray]
  unfold Builtin.Str.tooLong
  simp only [Bool.not_eq_true', decide_eq_false_iff_not]
  have : zs.foldl (fun x1 x2 => x1 + x2.length + sep.length) 0 ≤ 100000 := by omega
  have hl : (100000 : Nat) ≤ sizeLine := by rw [sizeLine_eq]; omega
  omega
theorem flatten_ones (l : List Nat) (f : Nat → Nat) : (((List.range l.length).map fun i => (⟨#[f (l.getD i 0)]⟩ : Str)).map fun z => z.cps.toList).flatten = l.map f := by
  rw [List.map_map]
  have : ((fun z : Str => z.cps.toList) ∘ fun i => (⟨#[f (l.getD i 0)]⟩ : Str)) = fun i => [f (l.getD i 0)] := by funext i; rfl
  rw [this]
  have key : ∀ (r : List Nat) (n : Nat), n ≤ r.length → ((List.range n).map fun i => [f (r.getD i 0)]).flatten = (r.take n).map f := by
    intro r n
    induction n with
    | zero => intro _; rfl
    | succ n ih =>
      intro h
      rw [List.range_succ, List.map_append, List.flatten_append, ih (by omega), List.take_add_one, List.map_append]
      congr 1
      have hn : n < r.length := by omega
      simp [List.getD_eq_getElem?_getD, List.getElem?_eq_getElem hn]
  rw [key l l.length (Nat.le_refl _), List.take_length]
end L2
namespace L2
open PySem PySem.Spec PyProof.Rows
section
variable {X : Cx} {tg : Expr}
theorem turn_rangeS {P : Program} {w : World} {K : PySem.W.Frag} {tg : Expr} (it : Addr) (lo c : Int) (n : Nat) :
    Turn P w K tg (Itp n fun i => .int (lo + i * c)) [it] it (fun i h => i ≤ n ∧ IsRangeIter h it (lo + (i : Nat) * c) ((n : Int) - (i : Nat)) c) := by
  refine turn_pure (Pw := fun i v => ∃ t, v = .int (lo + i * c) t) (fun A hA => Walks.range hA it lo c n) (fun i v _ h => h) (fun i h st => ⟨_, _, _, st, rfl, rfl, by decide⟩) (fun A i s Q E st h => wpAny_pyIter_rangeiter st h) (fun i h h' st k => k it (by simp) _ st)
theorem rangeSize_down (a b : Int) : Builtin.Range.rangeSize a b (-1) = (((a - b).toNat : Nat) : Int) := by
  unfold Builtin.Range.rangeSize
  rw [if_neg (by decide)]
  split
  · have e : (a - b - 1) / (- -1) = a - b - 1 := by
      have : (- -1 : Int) = 1 := by decide
      rw [this, Int.ediv_one]
    rw [e]; omega
  · omega
theorem small_down {a b : Int} (ha : -(2 ^ 61) ≤ a) (ha' : a < 2 ^ 61) (hb : -(2 ^ 61) ≤ b) (hb' : b < 2 ^ 61) : Builtin.Range.small a b (-1) = true := by
  unfold Builtin.Range.small
  rw [rangeSize_down]
  simp only [Builtin.Range.rangeFitsLong, Bool.and_eq_true, Bool.or_eq_true, decide_eq_true_eq, beq_iff_eq, show ¬ ((-1 : Int) > 0) by decide, if_false]
  omega
def mRng3 (ta : TA) : TI := fun σ H R => ta σ H fun vs H1 => match vs with
  | [.int i, .int j, .int c] => c = -1 ∧ (-(2 ^ 61) ≤ i ∧ i < 2 ^ 61 ∧ -(2 ^ 61) ≤ j ∧ j < 2 ^ 61) ∧ R (Itp (i - j).toNat fun k => .int (i + k * (-1))) H1
  | _ => False
theorem pi_rngM3 {a b c : Expr} {ta : TA} {p pos : Pos} (hm : Gb X.mg "range") (ha : PA X [a, b, c] ta) (hg : Gl X "range" := by rfl)
    (hs : starEach [a, b, c] X.env = (false, eval a X.env) :: starEach [b, c] X.env := by rfl) (hpl : (backTo pos (starEach [b, c] X.env)).any (·.1) = false := by rfl) :
    PI X tg (.Call (.Name "range" p) [a, b, c] [] pos) (mRng3 ta) := by
  intro pins s σ H R I h
  refine Call_ (ld_blt I hg hm boot_range (PyProof.Rows.callWith_type1 (thn (ha pos pins s σ H _ I h) fun us s1 ⟨vs, H1, I1, r1, q1⟩ => ?_) hs hpl))
  dsimp only at q1
  split at q1
  · rename_i i j c
    obtain ⟨rfl, ⟨q1, q2, q3, q4⟩, q⟩ := q1
    cases r1 with
    | cons r rr =>
      cases rr with
      | cons r' rr =>
        cases rr with
        | cons r'' rr =>
          cases rr
          obtain ⟨t, rfl⟩ := r
          obtain ⟨t', rfl⟩ := r'
          obtain ⟨t'', rfl⟩ := r''
          refine call_range_3 (by decide) ?_ (.inl (PyProof.noPylong_small (by decide)))
          refine wpAny_pyIter_range (IsRange.new ..) (small_down q1 q2 q3 q4) ?_
          have I2 : Inv X pins σ H1 { s1 with heap := s1.heap.push { cls := .type "range", data := .fields #[.int i t, .int j t', .int (-1) t''] }, toks := s1.toks } := I1.kept fun b o e => Heap.get?_push_of_some _ e
          refine ⟨(s1.heap.push { cls := .type "range", data := .fields #[.int i t, .int j t', .int (-1) t''] }).objs.size, [(s1.heap.push { cls := .type "range", data := .fields #[.int i t, .int j t', .int (-1) t''] }).objs.size], _, _, H1, rfl,
            I2.kept (t' := s1.toks) fun b o e => Heap.get?_push_of_some _ e, turn_rangeS _ i (-1) (i - j).toNat, ⟨Nat.zero_le _, ?_⟩, fun b hb => ?_, q⟩
          · have e1 : i + ((0 : Nat) : Int) * (-1) = i := by simp
            have e2 : (((i - j).toNat : Nat) : Int) - ((0 : Nat) : Int) = Builtin.Range.rangeSize i j (-1) := by rw [rangeSize_down]; simp
            rw [e1, e2]
            exact Heap.get?_push_size _ rfl
          · have e : b = (s1.heap.push { cls := .type "range", data := .fields #[.int i t, .int j t', .int (-1) t''] }).objs.size := by simpa using hb
            subst e
            exact I2.fpOk (Nat.le_refl _) (I2.hok.fresh (Nat.le_refl _))
  · exact q1.elim
def mSet : TSet := fun o i v H Q => match i with
  | .int k => (match o with
    | .ref p => ∃ xs, H p = some (.lst xs) ∧ (match ixN xs.length k with | some j => Q (upd H p (.lst (xs.set j v))) | none => False)
    | _ => False)
  | _ => False
theorem set_M : PSet X mSet := by
  intro pins s σ H o i v ov iv u Q I ro ri rv h
  unfold mSet at h
  cases i with
  | int k =>
    cases o with
    | ref p =>
      obtain ⟨xs, h1, h⟩ := h
      cases e : ixN xs.length k with
      | none => rw [e] at h; exact h.elim
      | some j =>
        rw [e] at h
        exact set_list pins s σ H _ _ v ov iv u Q I ro ri rv ⟨p, xs, k, j, rfl, rfl, h1, e, h⟩
    | _ => exact h.elim
  | _ => exact h.elim
theorem ixN_lt {n : Nat} {k : Int} (h0 : 0 ≤ k) (h1 : k < n) : ixN n k = some k.toNat := by unfold ixN; rw [if_pos h0, if_pos h1]
def strI (i : Int) : List Nat := (Str.ofString (toString i)).cps.toList
def mStr : List V → Hp → VK → Prop := fun xs H Q => match xs with | [.int i] => i.natAbs.log2 < 1920 ∧ Q (tx (strI i)) H | _ => False
theorem call_strM : CallR X (.type "str") mStr := by
  intro pins s σ H xs us Q I r h
  unfold mStr at h
  split at h
  · rename_i i
    refine call_str_int pins s σ H _ us Q I r ⟨i, rfl, h.1, ?_⟩
    have e : tx (strI i) = V.str (Str.ofString (toString i)) := by unfold strI tx; rw [← str_eta]
    rw [← e]
    exact h.2
  · exact h.elim
def mZfill : V → List V → Hp → VK → Prop := fun x xs H Q => match x, xs with | .str l, [.int i] => PadOk i = true ∧ Q (tx (Txt.zfill l i).cps.toList) H | _, _ => False
theorem mt_zfill : MtR X "str.zfill" mZfill := by
  intro pins s σ H x xs v us Q I rx rv h
  unfold mZfill at h
  split at h
  · rename_i l i
    obtain ⟨k, rfl⟩ := rx
    obtain ⟨u, rfl, ru⟩ := rv.one
    obtain ⟨k', rfl⟩ := ru
    exact SC.zfill h.1 fun t' k => ⟨tx (Txt.zfill l i).cps.toList, H, I.tok _, ⟨t', by rw [← str_eta]⟩, h.2⟩
  · exact h.elim
end
section
variable {X : Cx} {x : Str} {p pos : Pos} {e : Expr} {es : List Expr} {t : TA}
theorem pe_tf (T : String) {r : List V → Hp → VK → Prop} (hc : CallR X (.type T) r) (hm : Gb X.mg x) (ha : PA X (e :: es) t) (hg : Gl X x := by rfl) (hv : bootBuiltins x = some (.type T) := by rfl) (hn : x ≠ "__name__" := by decide) (hdb : (x == ("__debug__" : Str)) = false := by decide)
    (hs : starEach (e :: es) X.env = (false, eval e X.env) :: starEach es X.env := by rfl) (hpl : (backTo pos (starEach es X.env)).any (·.1) = false := by rfl) : PE X (.Call (.Name x p) (e :: es) [] pos) (tCB r t) :=
  pe_callTy hc hg hm hv ha hn hdb hs hpl
end
theorem padOk_small {i : Int} (h0 : -1000 ≤ i) (h1 : i ≤ 1000) : PadOk i = true := by
  unfold PadOk fitsSsize Builtin.Str.tooLong
  have h3 : (100000 : Nat) ≤ sizeLine := by rw [sizeLine_eq]; omega
  simp only [Bool.and_eq_true, Bool.not_eq_true', decide_eq_true_eq, decide_eq_false_iff_not, Bool.or_eq_false_iff]
  omega
def digs : Nat → Nat → List Nat
  | 0, _ => []
  | w + 1, n => digs w (n / 10) ++ [48 + n % 10]
theorem digs_length : ∀ (w n : Nat), (digs w n).length = w
  | 0, _ => rfl
  | w + 1, n => by rw [digs, List.length_append, digs_length w]; rfl
theorem digs_zero : ∀ (w : Nat), digs w 0 = List.replicate w 48
  | 0 => rfl
  | w + 1 => by rw [digs, digs_zero w, List.replicate_succ']
end L2
namespace L2
open PySem PySem.Spec PyProof.Rows
def dg (m : Nat) : List Nat := (Nat.toDigits 10 m).map Char.toNat
theorem strI_nat (m : Nat) : strI (m : Int) = dg m := PySem.W.KIN.signs_num m
theorem digit_code : ∀ d : Nat, d < 10 → (Nat.digitChar d).toNat = 48 + d := by decide
theorem dg_lt {m : Nat} (h : m < 10) : dg m = [48 + m] := by
  unfold dg
  rw [Nat.toDigits_of_lt_base h]
  show [(Nat.digitChar m).toNat] = _
  rw [digit_code m h]
theorem dg_ge {m : Nat} (h : ¬ m < 10) : dg m = dg (m / 10) ++ [48 + m % 10] := by
  unfold dg
  have hm : m % 10 < 10 := Nat.mod_lt m (by decide)
  have t : Nat.toDigits 10 (m / 10) ++ Nat.toDigits 10 (m % 10) = Nat.toDigits 10 (10 * (m / 10) + m % 10) := Nat.toDigits_append_toDigits (by decide) (by omega) hm
  rw [Nat.div_add_mod] at t
  rw [← t, List.map_append, Nat.toDigits_of_lt_base hm]
  show _ ++ [(Nat.digitChar (m % 10)).toNat] = _
  rw [digit_code _ hm]
theorem dg_pad : ∀ (w m : Nat), m < 10 ^ (w + 1) → (dg m).length ≤ w + 1 ∧ List.replicate (w + 1 - (dg m).length) 48 ++ dg m = digs (w + 1) m
  | w, m, h => by
    by_cases hm : m < 10
    · rw [dg_lt hm]
      refine ⟨by show 1 ≤ w + 1; omega, ?_⟩
      rw [digs, show m / 10 = 0 by omega, digs_zero, show m % 10 = m by omega]
      rfl
    · cases w with
      | zero => exact absurd h (by simpa using hm)
      | succ w =>
        have hd : m / 10 < 10 ^ (w + 1) := by
          rw [Nat.div_lt_iff_lt_mul (by decide)]
          rw [Nat.pow_succ] at h
          exact h
        obtain ⟨h1, h2⟩ := dg_pad w (m / 10) hd
        rw [dg_ge hm]
        refine ⟨by rw [List.length_append]; show _ + 1 ≤ _; omega, ?_⟩
        have e : digs (w + 1 + 1) m = digs (w + 1) (m / 10) ++ [48 + m % 10] := rfl
        rw [e, ← h2, List.append_assoc, List.length_append]
        have e2 : w + 1 + 1 - ((dg (m / 10)).length + [48 + m % 10].length) = w + 1 - (dg (m / 10)).length := by
          show w + 1 + 1 - ((dg (m / 10)).length + 1) = _
          omega
        rw [e2]
theorem dg_head (m : Nat) : ∃ c r, dg m = c :: r ∧ 48 ≤ c := by
  induction m using Nat.strongRecOn with
  | _ m ih =>
    by_cases h : m < 10
    · exact ⟨48 + m, [], dg_lt h, by omega⟩
    · obtain ⟨c, r, e, hc⟩ := ih (m / 10) (by omega)
      exact ⟨c, r ++ [48 + m % 10], by rw [dg_ge h, e]; rfl, hc⟩
theorem zfill_digs {w m : Nat} (hw : 1 ≤ w) (h : m < 10 ^ w) : (Txt.zfill ⟨(dg m).toArray⟩ (w : Int)).cps.toList = digs w m := by
  obtain ⟨w', rfl⟩ : ∃ w', w = w' + 1 := ⟨w - 1, by omega⟩
  obtain ⟨h1, h2⟩ := dg_pad w' m h
  have hl : (⟨(dg m).toArray⟩ : Str).length = (dg m).length := by simp [Str.length]
  unfold Txt.zfill
  rw [hl]
  by_cases he : ((w' + 1 : Nat) : Int) ≤ ((dg m).length : Int)
  · rw [if_pos he]
    have e : (dg m).length = w' + 1 := by omega
    rw [← h2, e, Nat.sub_self]
    simp
  · rw [if_neg he]
    obtain ⟨c, r, ec, hc⟩ := dg_head m
    have e : zfilled ⟨(dg m).toArray⟩ ((((w' + 1 : Nat) : Int)).toNat - (dg m).length) = Builtin.Str.padded ⟨(dg m).toArray⟩ ((((w' + 1 : Nat) : Int)).toNat - (dg m).length) 0 48 := by
      unfold zfilled
      have e0 : ((⟨(dg m).toArray⟩ : Str).cps)[0]? = some c := by rw [ec]; simp
      rw [e0]
      split
      · rename_i h'; cases h'; omega
      · rename_i h'; cases h'; omega
      · rfl
    rw [e]
    unfold Builtin.Str.padded
    rw [← h2]
    simp
theorem digs_front : ∀ (j n : Nat), digs (j + 1) n = (48 + n / 10 ^ j % 10) :: digs j n
  | 0, n => by simp [digs]
  | j + 1, n => by
    have e : digs (j + 1 + 1) n = digs (j + 1) (n / 10) ++ [48 + n % 10] := rfl
    rw [e, digs_front j (n / 10), Nat.div_div_eq_div_mul]
    have e2 : 10 * 10 ^ j = 10 ^ (j + 1) := by rw [Nat.pow_succ, Nat.mul_comm]
    rw [e2]
    rfl
theorem digs_digit : ∀ (w n : Nat), ∀ c ∈ digs w n, 48 ≤ c ∧ c ≤ 57
  | 0, _, _, h => by cases h
  | w + 1, n, c, h => by
    rw [digs] at h
    rcases List.mem_append.mp h with h | h
    · exact digs_digit w _ c h
    · have e : c = 48 + n % 10 := by simpa using h
      omega
theorem strs_ones (l : List Nat) : strsOf (l.map fun c => tx [c]) = some (l.map fun c => (⟨#[c]⟩ : Str)) := by
  have := strsOf_of (l.map fun c => (⟨#[c]⟩ : Str))
  rw [List.map_map] at this
  exact this
theorem join_ones (l : List Nat) : joinS [] (l.map fun c => (⟨#[c]⟩ : Str)) = l := by
  rw [L2.join_nil, List.map_map]
  induction l with
  | nil => rfl
  | cons c r ih => rw [List.map_cons, List.flatten_cons, ih]; rfl
theorem range_getD (l : List Nat) : (List.range l.length).map (fun i => tx [l.getD i 0]) = l.map fun c => tx [c] := by
  apply List.ext_getElem?
  intro i
  rw [List.getElem?_map, List.getElem?_map]
  by_cases h : i < l.length
  · rw [List.getElem?_range h, List.getElem?_eq_getElem h]
    simp [List.getD_eq_getElem?_getD, List.getElem?_eq_getElem h]
  · rw [List.getElem?_eq_none (by simpa using h), List.getElem?_eq_none (by omega)]
    rfl
theorem set_take {l : List Nat} {k : Nat} (h : k < l.length) (x : Nat) (r : List Nat) : (l.take (k + 1) ++ r).set k x = l.take k ++ x :: r := by
  have e : l.take (k + 1) = l.take k ++ [l[k]] := by rw [List.take_add_one, List.getElem?_eq_getElem h]; rfl
  rw [e, List.append_assoc, List.set_append_right _ _ (by rw [List.length_take]; omega)]
  have e2 : k - (l.take k).length = 0 := by rw [List.length_take]; omega
  rw [e2]
  rfl
end L2
namespace L2
open PySem PySem.Spec PyProof.Rows
def mixed (c k : Int) : Int := (c % 2147483647 + 7 * k * k + 11 * k + 1) * 48271 % 2147483647
def fig (c : Nat) : Nat := if 48 ≤ c ∧ c ≤ 57 then c else 48
def numL (l : List Nat) : Int := l.foldl (fun (v : Int) (c : Nat) => v * 10 + ((c : Int) - 48)) 0
theorem mixed_nn (c k : Int) : 0 ≤ mixed c k ∧ mixed c k < 2147483647 := by
  unfold mixed; omega
theorem two_small {x y : V} : [x, y].length ≤ sizeLine := (show 2 ≤ sizeLine by decide)
theorem digit_find {c : Nat} (h : 48 ≤ c ∧ c ≤ 57) : findS [48, 49, 50, 51, 52, 53, 54, 55, 56, 57] [c] = (c : Int) - 48 := by
  rw [find_one]
  obtain ⟨h1, h2⟩ := h
  have : c = 48 ∨ c = 49 ∨ c = 50 ∨ c = 51 ∨ c = 52 ∨ c = 53 ∨ c = 54 ∨ c = 55 ∨ c = 56 ∨ c = 57 := by omega
  rcases this with rfl | rfl | rfl | rfl | rfl | rfl | rfl | rfl | rfl | rfl <;> rfl
theorem numL_snoc (l : List Nat) (c : Nat) : numL (l ++ [c]) = numL l * 10 + ((c : Int) - 48) := by
  unfold numL; rw [List.foldl_append]; rfl
theorem take_snoc {l : List Nat} {i : Nat} (h : i < l.length) : l.take (i + 1) = l.take i ++ [l.getD i 0] := by
  rw [List.take_add_one, List.getElem?_eq_getElem h]
  simp [List.getD_eq_getElem?_getD, List.getElem?_eq_getElem h]
theorem in_digits (c : Nat) : inS [c] [48, 49, 50, 51, 52, 53, 54, 55, 56, 57] = decide (48 ≤ c ∧ c ≤ 57) := by
  show decide (c ∈ [48, 49, 50, 51, 52, 53, 54, 55, 56, 57]) = _
  rw [decide_eq_decide]
  simp only [List.mem_cons, List.not_mem_nil, or_false]
  omega
theorem fig_digit (c : Nat) : 48 ≤ fig c ∧ fig c ≤ 57 := by unfold fig; split <;> omega
theorem asg {te : TE} {g : TG} {D : Ends} {σ : St} {H : Hp} (h : te σ H fun x H1 => g x σ H1 D.nx) : tAsg te g D σ H := h
theorem comp_str {K : PySem.W.Frag} {tl te : TE} {lv : List Str} {fr : List (Str × Nat)} {g : TG} {tt : TT} {σ : St} {H : Hp} {Q : VK} (l : List Nat) (hl : ∀ R : VK, R (tx l) H → tl σ H R)
    (h : tCompR (Itp l.length (fun i => tx [l.getD i 0])) g tt te (cS lv fr σ) H Q) : tComp lv fr (iAny K tl) g tt te σ H Q := hl _ h
end L2
namespace L2
open PySem PySem.Spec PyProof.Rows
structure FlyX (x T C : Addr) (H : Hp) (hb h : Heap) : Prop where
  obj : ∃ oe vs a0 oT ts, h.get? x = some oe ∧ (oe.cls = .ref C ∧ vs[0]? = some a0) ∧ oe.data = .fields vs ∧ vs[1]? = some (.ref T) ∧ T ≠ x ∧ h.get? T = some oT ∧ oT.data = .fields ts ∧ ts[3]? = some .none
  hx : H x = none
  hT : H T = none
  nx : hb.get? x = none
  nT : hb.get? T = none
def CXx (P : Program) (w : World) : CXT := fun outer H s E e s' => ∃ x T C H', e = .ref x ∧ s'.os = s.os ∧ AllBare s'.gens ∧ Un (frs outer) [] H H' s.heap s'.heap ∧ HOk P w H' s'.heap ∧
  FlyX x T C H' s.heap s'.heap ∧ E (.ref C) none H'
section
variable {X : Cx} {pins : List (Addr × Obj)} {σ : St} {H : Hp} {s : Shared}
end
section
variable {P : Program} {w : World} {K : PySem.W.Frag} {mg : Str → Option Value} {base : Heap} {N : List Str} {qual : Str} {scope : Scope} {f : Addr} {cd : Value} {A : Around} {outer : List Env} {s0 : Shared} {H0 : Hp} {E : XK}
end
end L2
namespace L2
open PySem PySem.Spec PyProof.Rows
section
variable {X : Cx} {E : XK} {C : Addr} {x : Str} {e : Expr} {es : List Expr} {t : TA} {np cpos pos : Pos}
end
section
variable {X : Cx} {a : Expr} {ta : TE} {pos : Pos}
end
end L2
namespace LX
open PySem PySem.W PySem.Calls PyProof.Rows Builtin Builtin.ObjectAttr Builtin.Getset_descriptor
section
variable {prog : Program} {w : World} {A : Around} {K : Frag} {x D : Addr}
end
end LX
namespace L2
open PySem PySem.Spec PyProof.Rows
end L2
namespace L2
open PySem PySem.Spec PyProof.Rows
section
variable {X : Cx} {k : Nat} {x : Str} {ps : List Str} {sp : Sp} {E : XK} {p pos : Pos} {e : Expr} {es : List Expr} {t : TA}
end
def XP (X : Cx) (pins : List (Addr × Obj)) (W : St → XK) (e : Value) (s' : Shared) : Prop := ∃ σ' Hb sb, Inv X pins σ' Hb sb ∧ CXx X.prog X.w X.stack Hb sb (W σ') e s'
abbrev TX := Ends → (St → XK) → St → Hp → Prop
theorem PA.nox {X : Cx} {es : List Expr} {t : TA} (h : PA X.nox es t) : PA X es t := fun pos pins s σ H Q I hw =>
  wpAny_mono (h pos pins s σ H Q (I.wish _) hw) (fun _ _ ⟨v, H', I', r, q⟩ => ⟨v, H', I'.unwish, r, q⟩) fun _ _ z => False.elim z
section
variable {X : Cx} {st : Stmt} {rest : List Stmt} {t u : TX} {k : Nat} {x : Str} {ps : List Str} {sp : Sp} {p pos pos' : Pos} {e : Expr} {es : List Expr} {ta : TA}
end
section
variable {X : Cx} {pins : List (Addr × Obj)} {σ : St} {Hb H' : Hp} {sb s1 : Shared} {x T C : Addr}
end
end L2
namespace L2
open PySem PySem.Spec PyProof.Rows
section
variable {X : Cx} {body : List Stmt} {tb : TX} {ts : TS} {S : Addr} {sx n : Str} {i : Nat} {b₀ : Stmt} {suite : List Stmt} {np hpos pos : Pos}
end
end L2
namespace L2
open PySem PySem.Spec PyProof.Rows
structure RoomN (k : Nat) (A : Around) : Prop where
  dp : A.depth + 3 * k + 5 < recursionLimit
  un : A.units + 16 * k + 200 < cLine
theorem Room.n {k : Nat} {A : Around} (r : Room k A) : RoomN k A := ⟨r.dp, r.un⟩
theorem RoomN.mono {j k : Nat} {A : Around} (r : RoomN k A) (h : j ≤ k) : RoomN j A := ⟨by have := r.dp; omega, by have := r.un; omega⟩
theorem RoomN.deeper {k : Nat} {A : Around} (r : RoomN (k + 1) A) (env : Env) : RoomN k (A.deeper env) := ⟨by have := r.dp; show A.depth + 1 + 3 * k + 5 < _; omega, by have := r.un; show A.units + 3 + 16 * k + 200 < _; omega⟩
structure FnOkN (P : Program) (w : World) (K : PySem.W.Frag) (mg : Str → Option Value) (base : Heap) (k : Nat) (f : Addr) (fd : FuncData) (ps : List Str) (sp : Sp) : Prop where
  len : ∀ vs H Q E, sp vs H Q E → vs.length = ps.length
  run : ∀ (A : Around) (outer : List Env) (s : Shared) (H : Hp) (args : Args) (us : List Value) (vs : List V) (Q : VK) (E : XK), RoomN k A → Env0 P w K mg base A outer s H → BindsTo s fd args (ps.zip us) → Vals vs us → sp vs H Q E →
    codeAny (model P w) A (.call (.ref f) args) (CR CX0 outer P w H s Q E) s
theorem FnOkN.ok {P : Program} {w : World} {K : PySem.W.Frag} {mg : Str → Option Value} {base : Heap} {k : Nat} {f : Addr} {fd : FuncData} {ps : List Str} {sp : Sp} (F : FnOkN P w K mg base k f fd ps sp) : FnOk P w K mg base CX0 k f fd ps sp :=
  ⟨F.len, fun A outer s H args us vs Q E hr => F.run A outer s H args us vs Q E hr.n⟩
section
variable {P : Program} {w : World} {K : PySem.W.Frag} {mg : Str → Option Value} {base : Heap}
end
def GdN (P : Program) (w : World) (K : PySem.W.Frag) (mg : Str → Option Value) (base : Heap) (k : Nat) (x : Str) (ps : List Str) (sp : Sp) : Prop :=
  ∃ f fd, FnOkN P w K mg base k f fd ps sp ∧ mg x = some (.ref f) ∧ PySem.W.keepIn K (.ref f) = true ∧ Binds K fd ps []
theorem GdN.g {P : Program} {w : World} {K : PySem.W.Frag} {mg : Str → Option Value} {base : Heap} {k : Nat} {x : Str} {ps : List Str} {sp : Sp} (G : GdN P w K mg base k x ps sp) : Gd P w K mg base CX0 k x ps sp := by
  obtain ⟨f, fd, F, r⟩ := G
  exact ⟨f, fd, F.ok, r⟩
section
variable {X : Cx} {k : Nat} {x : Str} {ps : List Str} {sp : Sp} {p pos : Pos} {e : Expr} {es : List Expr} {t : TA}
end
end L2
namespace L2
open PySem PySem.Spec PyProof.Rows
section
variable {X : Cx} {k : Nat} {x : Str} {ps : List Str} {sp : Sp} {p pos pos' : Pos} {e : Expr} {es : List Expr} {ta : TA} {i : Nat} {y : Str} {py : Pos}
end
def SG : List Nat := [32, 48, 49, 50, 51, 52, 53, 54, 55, 56, 57, 65, 66, 67, 68, 69, 70, 71, 72, 73, 74, 75, 76, 77, 78, 79, 80, 81, 82, 83, 84, 85, 86, 87, 88, 89, 90]
end L2
namespace L2
open PySem PySem.Spec PyProof.Rows
section
variable {X : Cx}
end
section
variable {X : Cx}
end
inductive EqD (K : PySem.W.Frag) (H : Hp) : Nat → V → V → Bool → Prop
  | flat {x y : V} (hx : flatV x = true) (hy : flatV y = true) : EqD K H 0 x y (eqV x y)
  | lst {n : Nat} {p q : Addr} {xs ys : List V} (e : Nat → Bool) (hp : SqL K H p xs) (hq : SqL K H q ys) (hl : xs.length = ys.length) (h : ∀ (i : Nat) x y, xs[i]? = some x → ys[i]? = some y → EqD K H n x y (e i)) : EqD K H (n + 1) (.ref p) (.ref q) ((List.range xs.length).all e)
  | lstN {n : Nat} {p q : Addr} {xs ys : List V} (hp : SqL K H p xs) (hq : SqL K H q ys) (hl : xs.length ≠ ys.length) : EqD K H n (.ref p) (.ref q) false
  | tup {n : Nat} {p q : Addr} {xs ys : List V} (e : Nat → Bool) (hp : SqT K H p xs) (hq : SqT K H q ys) (h : ∀ (i : Nat) x y, xs[i]? = some x → ys[i]? = some y → EqD K H n x y (e i)) : EqD K H (n + 1) (.ref p) (.ref q) ((List.range (min xs.length ys.length)).all e && xs.length == ys.length)
  | lt {n : Nat} {p q : Addr} {xs ys : List V} (hp : SqL K H p xs) (hq : SqT K H q ys) : EqD K H n (.ref p) (.ref q) false
  | tl {n : Nat} {p q : Addr} {xs ys : List V} (hp : SqT K H p xs) (hq : SqL K H q ys) : EqD K H n (.ref p) (.ref q) false
  | lf {n : Nat} {p : Addr} {xs : List V} {y : V} (hp : SqL K H p xs) (hy : flatV y = true) : EqD K H n (.ref p) y false
  | fl {n : Nat} {p : Addr} {xs : List V} {y : V} (hp : SqL K H p xs) (hy : flatV y = true) : EqD K H n y (.ref p) false
  | tf {n : Nat} {p : Addr} {xs : List V} {y : V} (hp : SqT K H p xs) (hy : flatV y = true) : EqD K H n (.ref p) y false
  | ft {n : Nat} {p : Addr} {xs : List V} {y : V} (hp : SqT K H p xs) (hy : flatV y = true) : EqD K H n y (.ref p) false
  | up {n : Nat} {x y : V} {b : Bool} (h : EqD K H n x y b) : EqD K H (n + 1) x y b
section
variable {X : Cx} {pins : List (Addr × Obj)} {σ : St} {H : Hp} {s : Shared}
theorem vals_at {xs : List V} {us : List Value} (r : Vals xs us) {i : Nat} (h : i < us.toArray.size) : ∃ x, xs[i]? = some x ∧ RelV x us.toArray[i] := by
  have hi : i < us.length := by simpa using h
  have hl := r.length
  obtain ⟨u, hu, ru⟩ := r.get (List.getElem?_eq_getElem (show i < xs.length by omega))
  refine ⟨_, List.getElem?_eq_getElem (by omega), ?_⟩
  rw [List.getElem?_eq_getElem hi] at hu
  cases hu
  simpa using ru
theorem eqd_same (I : Inv X pins σ H s) {n : Nat} {x y : V} {b : Bool} (h : EqD X.K H n x y b) : x = y → b = true := by
  induction h with
  | flat hx hy =>
    rename_i x y
    rintro rfl
    cases x <;> first | (cases hx; done) | (simp [eqV]; done) | rfl
  | lst e hp hq hl h ih =>
    rename_i n p q xs ys
    intro e0
    cases e0
    have exy := I.list_inj hp hq
    subst exy
    rw [List.all_eq_true]
    intro i hi
    have hi := List.mem_range.mp hi
    exact ih i _ _ (List.getElem?_eq_getElem hi) (List.getElem?_eq_getElem hi) rfl
  | lstN hp hq hl =>
    intro e0
    cases e0
    exact absurd (by rw [I.list_inj hp hq]) hl
  | tup e hp hq h ih =>
    rename_i n p q xs ys
    intro e0
    cases e0
    have exy := I.tuple_inj hp hq
    subst exy
    rw [Bool.and_eq_true, List.all_eq_true]
    refine ⟨?_, by simp⟩
    intro i hi
    have hi := List.mem_range.mp hi
    have hi : i < xs.length := by omega
    exact ih i _ _ (List.getElem?_eq_getElem hi) (List.getElem?_eq_getElem hi) rfl
  | lt hp hq =>
    intro e0
    cases e0
    obtain ⟨its, r1, p1, z1⟩ := I.list hp
    obtain ⟨its2, r2, p2, z2⟩ := I.tuple hq
    exact absurd rfl (SeqAt.ne_of_list_tuple p1.isList p2)
  | tl hp hq =>
    intro e0
    cases e0
    obtain ⟨its, r1, p1, z1⟩ := I.tuple hp
    obtain ⟨its2, r2, p2, z2⟩ := I.list hq
    exact absurd rfl (SeqAt.ne_of_list_tuple p2.isList p1)
  | lf hp hy => rintro rfl; cases hy
  | fl hp hy => rintro rfl; cases hy
  | tf hp hy => rintro rfl; cases hy
  | ft hp hy => rintro rfl; cases hy
  | up h ih => exact ih
theorem eqd_rc (I : Inv X pins σ H s) {n : Nat} {x y : V} {b : Bool} (h : EqD X.K H n x y b) : ∀ (A : Around) (v u : Value), A.units + n < cLine → RelV x v → RelV y u →
    SeqAt.EqAt A s v u b ∧ (∀ p q, x = .ref p → y = .ref q → SeqAt.RcAt A s v u b) := by
  induction h with
  | flat hx hy =>
    intro A v u _ rx ry
    refine ⟨eqAt_V rx ry hx hy, fun p q e _ => ?_⟩
    subst e; cases hx
  | lst e hp hq hl h ih =>
    rename_i n p q xs ys
    intro A v u hu rx ry
    cases rx; cases ry
    obtain ⟨its, r1, p1, z1⟩ := I.list hp
    obtain ⟨its2, r2, p2, z2⟩ := I.list hq
    have l1 := r1.length
    have l2 := r2.length
    have rc : SeqAt.RcAt A s (.ref p) (.ref q) ((List.range xs.length).all e) := by
      have := SeqAt.RcAt.lists (A := A) (e := e) p1.isList p2.isList (by simp only [List.size_toArray]; omega) (by omega) (fun j h1 h2 => by
        obtain ⟨x, ex, rx⟩ := vals_at r1 h1
        obtain ⟨y, ey, ry⟩ := vals_at r2 h2
        exact (ih j x y ex ey A.in1 _ _ (by show A.units + 1 + n < _; omega) rx ry).1)
      rw [List.size_toArray, ← l1] at this
      exact this
    refine ⟨?_, fun _ _ _ _ => rc⟩
    by_cases hpq : p = q
    · subst hpq
      have exy := I.list_inj hp hq
      subst exy
      have : (List.range xs.length).all e = true := by
        rw [List.all_eq_true]
        intro i hi
        have hi := List.mem_range.mp hi
        exact eqd_same I (h i _ _ (List.getElem?_eq_getElem hi) (List.getElem?_eq_getElem hi)) rfl
      rw [this]
      exact SeqAt.EqAt.same _
    · exact .of_refs hpq rc
  | lstN hp hq hl =>
    rename_i n p q xs ys
    intro A v u hu rx ry
    cases rx; cases ry
    obtain ⟨its, r1, p1, z1⟩ := I.list hp
    obtain ⟨its2, r2, p2, z2⟩ := I.list hq
    have l1 := r1.length
    have l2 := r2.length
    have rc : SeqAt.RcAt A s (.ref p) (.ref q) false := SeqAt.RcAt.lists_lengths p1.isList p2.isList (by simp only [List.size_toArray, bne_iff_ne, ne_eq]; omega) (by omega)
    refine ⟨.of_refs (fun e => ?_) rc, fun _ _ _ _ => rc⟩
    subst e
    exact hl (by rw [I.list_inj hp hq])
  | tup e hp hq h ih =>
    rename_i n p q xs ys
    intro A v u hu rx ry
    cases rx; cases ry
    obtain ⟨its, r1, p1, z1⟩ := I.tuple hp
    obtain ⟨its2, r2, p2, z2⟩ := I.tuple hq
    have l1 := r1.length
    have l2 := r2.length
    have rc : SeqAt.RcAt A s (.ref p) (.ref q) ((List.range (min xs.length ys.length)).all e && xs.length == ys.length) := by
      have := SeqAt.RcAt.tuples (A := A) (e := e) (show s.heap.IsTuple p its.toArray from p1) (show s.heap.IsTuple q its2.toArray from p2) (by omega) (fun j h1 h2 => by
        obtain ⟨x, ex, rx⟩ := vals_at r1 h1
        obtain ⟨y, ey, ry⟩ := vals_at r2 h2
        exact (ih j x y ex ey A.in1 _ _ (by show A.units + 1 + n < _; omega) rx ry).1)
      rw [List.size_toArray, List.size_toArray, ← l1, ← l2] at this
      exact this
    refine ⟨?_, fun _ _ _ _ => rc⟩
    by_cases hpq : p = q
    · subst hpq
      have exy := I.tuple_inj hp hq
      subst exy
      have : ((List.range (min xs.length xs.length)).all e && xs.length == xs.length) = true := by
        rw [Bool.and_eq_true, List.all_eq_true]
        refine ⟨?_, by simp⟩
        intro i hi
        have hi := List.mem_range.mp hi
        have hi : i < xs.length := by omega
        exact eqd_same I (h i _ _ (List.getElem?_eq_getElem hi) (List.getElem?_eq_getElem hi)) rfl
      rw [this]
      exact SeqAt.EqAt.same _
    · exact .of_refs hpq rc
  | lt hp hq =>
    intro A v u hu rx ry
    cases rx; cases ry
    obtain ⟨its, r1, p1, z1⟩ := I.list hp
    obtain ⟨its2, r2, p2, z2⟩ := I.tuple hq
    exact ⟨.list_tuple p1.isList p2 (by omega), fun _ _ _ _ => .list_tuple p1.isList p2 (by omega)⟩
  | tl hp hq =>
    intro A v u hu rx ry
    cases rx; cases ry
    obtain ⟨its, r1, p1, z1⟩ := I.tuple hp
    obtain ⟨its2, r2, p2, z2⟩ := I.list hq
    exact ⟨.tuple_list p1 p2.isList (by omega), fun _ _ _ _ => .tuple_list p1 p2.isList (by omega)⟩
  | lf hp hy =>
    rename_i n p xs y
    intro A v u hu rx ry
    cases rx
    obtain ⟨its, r1, p1, z1⟩ := I.list hp
    refine ⟨?_, fun _ _ _ e => by subst e; cases hy⟩
    cases y with
    | non => cases ry; exact .list_none p1.isList (by omega)
    | bl b => cases ry; exact .list_bool b p1.isList (by omega)
    | int b => obtain ⟨t, rfl⟩ := ry; exact .list_int b t p1.isList (by omega)
    | str b => obtain ⟨t, rfl⟩ := ry; exact .list_str b t p1.isList (by omega)
    | _ => cases hy
  | fl hp hy =>
    rename_i n p xs y
    intro A v u hu rx ry
    cases ry
    obtain ⟨its, r1, p1, z1⟩ := I.list hp
    refine ⟨?_, fun _ _ e _ => by subst e; cases hy⟩
    cases y with
    | non => cases rx; exact .none_list p1.isList (by omega)
    | bl b => cases rx; exact .bool_list b p1.isList (by omega)
    | int b => obtain ⟨t, rfl⟩ := rx; exact .int_list b t p1.isList (by omega)
    | str b => obtain ⟨t, rfl⟩ := rx; exact .str_list b t p1.isList (by omega)
    | _ => cases hy
  | tf hp hy =>
    rename_i n p xs y
    intro A v u hu rx ry
    cases rx
    obtain ⟨its, r1, p1, z1⟩ := I.tuple hp
    refine ⟨?_, fun _ _ _ e => by subst e; cases hy⟩
    cases y with
    | non => cases ry; exact .tuple_none p1 (by omega)
    | bl b => cases ry; exact .tuple_bool b p1 (by omega)
    | int b => obtain ⟨t, rfl⟩ := ry; exact .tuple_int b t p1 (by omega)
    | str b => obtain ⟨t, rfl⟩ := ry; exact .tuple_str b t p1 (by omega)
    | _ => cases hy
  | ft hp hy =>
    rename_i n p xs y
    intro A v u hu rx ry
    cases ry
    obtain ⟨its, r1, p1, z1⟩ := I.tuple hp
    refine ⟨?_, fun _ _ e _ => by subst e; cases hy⟩
    cases y with
    | non => cases rx; exact .none_tuple p1 (by omega)
    | bl b => cases rx; exact .bool_tuple b p1 (by omega)
    | int b => obtain ⟨t, rfl⟩ := rx; exact .int_tuple b t p1 (by omega)
    | str b => obtain ⟨t, rfl⟩ := rx; exact .str_tuple b t p1 (by omega)
    | _ => cases hy
  | up h ih =>
    intro A v u hu rx ry
    exact ih A v u (by omega) rx ry
end
section
variable {X : Cx}
def mEqK (K : PySem.W.Frag) : R2 := fun x y H Q => match x, y with
  | .ref p, .ref q => ∃ n b, n ≤ 50 ∧ EqD K H n (.ref p) (.ref q) b ∧ Q (.bl b) H
  | _, _ => mEq x y H Q
def mNeK (K : PySem.W.Frag) : R2 := fun x y H Q => match x, y with
  | .ref p, .ref q => ∃ n b, n ≤ 50 ∧ EqD K H n (.ref p) (.ref q) b ∧ Q (.bl (!b)) H
  | _, _ => mNe x y H Q
theorem op_eqK (hu : X.A.units + 60 < cLine) : OpR X (compareOp .Eq) (mEqK X.K) := by
  intro pins s σ H x y v u Q I rx ry h
  unfold mEqK at h
  split at h
  · rename_i p q
    obtain ⟨n, b, hn, h, q⟩ := h
    have := (eqd_rc I h X.A v u (by omega) rx ry).2 _ _ rfl rfl
    exact this X.prog X.w X.xe _ ⟨.bl b, H, I, rfl, q⟩
  · exact op_eqM pins s σ H x y v u Q I rx ry h
end
section
variable {X : Cx} {pins : List (Addr × Obj)} {σ : St} {H : Hp} {s : Shared}
theorem eqd_ne (I : Inv X pins σ H s) {n : Nat} {x y : V} {b : Bool} (h : EqD X.K H n x y b) : ∀ (A : Around) (v u : Value), A.units + n < cLine → RelV x v → RelV y u → ∀ p q, x = .ref p → y = .ref q → SeqAt.RcNeAt A s v u (!b) := by
  induction h with
  | flat hx hy => intro A v u _ rx ry p q e _; subst e; cases hx
  | lst e hp hq hl h ih =>
    rename_i n p q xs ys
    intro A v u hu rx ry _ _ _ _
    cases rx; cases ry
    obtain ⟨its, r1, p1, z1⟩ := I.list hp
    obtain ⟨its2, r2, p2, z2⟩ := I.list hq
    have l1 := r1.length
    have l2 := r2.length
    have := SeqAt.RcNeAt.lists (A := A) (e := e) p1.isList p2.isList (by simp only [List.size_toArray]; omega) (by omega) (fun j h1 h2 => by
      obtain ⟨x, ex, rx⟩ := vals_at r1 h1
      obtain ⟨y, ey, ry⟩ := vals_at r2 h2
      exact (eqd_rc I (h j x y ex ey) A.in1 _ _ (by show A.units + 1 + n < _; omega) rx ry).1)
    rw [List.size_toArray, ← l1] at this
    exact this
  | lstN hp hq hl =>
    intro A v u hu rx ry _ _ _ _
    cases rx; cases ry
    obtain ⟨its, r1, p1, z1⟩ := I.list hp
    obtain ⟨its2, r2, p2, z2⟩ := I.list hq
    have l1 := r1.length
    have l2 := r2.length
    exact SeqAt.RcNeAt.lists_lengths p1.isList p2.isList (by simp only [List.size_toArray, bne_iff_ne, ne_eq]; omega) (by omega)
  | tup e hp hq h ih =>
    rename_i n p q xs ys
    intro A v u hu rx ry _ _ _ _
    cases rx; cases ry
    obtain ⟨its, r1, p1, z1⟩ := I.tuple hp
    obtain ⟨its2, r2, p2, z2⟩ := I.tuple hq
    have l1 := r1.length
    have l2 := r2.length
    have := SeqAt.RcNeAt.tuples (A := A) (e := e) (show s.heap.IsTuple p its.toArray from p1) (show s.heap.IsTuple q its2.toArray from p2) (by omega) (fun j h1 h2 => by
      obtain ⟨x, ex, rx⟩ := vals_at r1 h1
      obtain ⟨y, ey, ry⟩ := vals_at r2 h2
      exact (eqd_rc I (h j x y ex ey) A.in1 _ _ (by show A.units + 1 + n < _; omega) rx ry).1)
    rw [List.size_toArray, List.size_toArray, ← l1, ← l2] at this
    exact this
  | lt hp hq =>
    intro A v u hu rx ry _ _ _ _
    cases rx; cases ry
    obtain ⟨its, r1, p1, z1⟩ := I.list hp
    obtain ⟨its2, r2, p2, z2⟩ := I.tuple hq
    exact .list_tuple p1.isList p2 (by omega)
  | tl hp hq =>
    intro A v u hu rx ry _ _ _ _
    cases rx; cases ry
    obtain ⟨its, r1, p1, z1⟩ := I.tuple hp
    obtain ⟨its2, r2, p2, z2⟩ := I.list hq
    exact .tuple_list p1 p2.isList (by omega)
  | lf hp hy => intro A v u hu rx ry _ _ _ e; subst e; cases hy
  | fl hp hy => intro A v u hu rx ry _ _ e _; subst e; cases hy
  | tf hp hy => intro A v u hu rx ry _ _ _ e; subst e; cases hy
  | ft hp hy => intro A v u hu rx ry _ _ e _; subst e; cases hy
  | up h ih => intro A v u hu rx ry; exact ih A v u (by omega) rx ry
theorem op_neK (hu : X.A.units + 60 < cLine) : OpR X (compareOp .NotEq) (mNeK X.K) := by
  intro pins s σ H x y v u Q I rx ry h
  unfold mNeK at h
  split at h
  · rename_i p q
    obtain ⟨n, b, hn, h, q⟩ := h
    have := eqd_ne I h X.A v u (by omega) rx ry _ _ rfl rfl
    exact this X.prog X.w X.xe _ ⟨.bl (!b), H, I, rfl, q⟩
  · exact op_neM pins s σ H x y v u Q I rx ry h
end
theorem Room.u60 {k : Nat} {A : Around} (r : Room k A) : A.units + 60 < cLine := by have := r.units; omega
theorem RoomN.u60 {k : Nat} {A : Around} (r : RoomN k A) : A.units + 60 < cLine := by have := r.un; omega
end L2
namespace LX
open PySem Builtin Builtin.Str
section
variable {prog : Program} {w : World} {A : Around} {E : Value → Shared → Prop} {s : Shared} {x : Str} {t : Tok} {Q : Value → Shared → Prop}
end
end LX
namespace L2
open PySem PySem.Spec PyProof.Rows
section
variable {X : Cx}
end
section
variable {X : Cx} {a b c d : Expr} {ta tb tc td : TE} {pos : Pos}
end
end L2
namespace L2
open PySem PySem.Spec PyProof.Rows
section
variable {κ : Type} [DecidableEq κ]
def valV (kvs : List (κ × V)) (k : κ) : Option V := (kvs.find? fun kv => decide (kv.1 = k)).map (·.2)
def putK (kvs : List (κ × V)) (k : κ) (v : V) : List (κ × V) :=
  if (kvs.any fun kv => decide (kv.1 = k)) = true then kvs.map (fun kv => if kv.1 = k then (kv.1, v) else kv) else kvs ++ [(k, v)]
def dropK (kvs : List (κ × V)) (k : κ) : List (κ × V) := kvs.filter fun kv => decide (kv.1 ≠ k)
theorem RelO.getD {o : Option V} {u : Option Value} {d : V} {d' : Value} (r : RelO o u) (rd : RelV d d') : RelV (o.getD d) (u.getD d') := by
  cases o with
  | none => cases u with
    | none => exact rd
    | some _ => exact (show False from r).elim
  | some _ => cases u with
    | none => exact (show False from r).elim
    | some _ => exact r
theorem KV.any {kvs : List (κ × V)} {vs : List (κ × Value)} (r : KV kvs vs) (k : κ) : (kvs.any fun kv => decide (kv.1 = k)) = vs.any fun kv => decide (kv.1 = k) := by
  unfold KV at r
  induction r with
  | nil => rfl
  | cons h t ih => rw [List.any_cons, List.any_cons, ih, h.1]
theorem KV.drop {kvs : List (κ × V)} {vs : List (κ × Value)} (r : KV kvs vs) (k : κ) : KV (dropK kvs k) (without vs k) := by
  unfold KV at r ⊢
  unfold dropK without
  induction r with
  | nil => exact .nil
  | @cons p q ps qs h t ih =>
    obtain ⟨h1, h2⟩ := h
    rw [List.filter_cons, List.filter_cons]
    by_cases e : p.1 = k
    · have a : ¬ decide (p.1 ≠ k) = true := by simp [e]
      have b : ¬ decide (q.1 ≠ k) = true := by simp [h1.symm.trans e]
      rw [if_neg a, if_neg b]; exact ih
    · have e' : ¬ q.1 = k := fun z => e (h1.trans z)
      have a : decide (p.1 ≠ k) = true := by simp [e]
      have b : decide (q.1 ≠ k) = true := by simp [e']
      rw [if_pos a, if_pos b]; exact .cons ⟨h1, h2⟩ ih
theorem KV.length {kvs : List (κ × V)} {vs : List (κ × Value)} (r : KV kvs vs) : kvs.length = vs.length := Paired.length r
end
abbrev KT (H : Hp) : List (List Key × V) → List (List Key × Addr × Value) → Prop := Paired fun p q => p.1 = q.1 ∧ H q.2.1 = some (.tup (p.1.map kV)) ∧ RelV p.2 q.2.2
theorem KT.keeps {H H' : Hp} {kvs : List (List Key × V)} {xs : List (List Key × Addr × Value)} (r : KT H kvs xs) (ht : ∀ b ys, H b = some (.tup ys) → H' b = some (.tup ys)) : KT H' kvs xs :=
  Paired.mapP r fun _ _ z => ⟨z.1, ht _ _ z.2.1, z.2.2⟩
section
variable {P : Program} {w : World} {H : Hp} {h : Heap} {a : Addr}
end
def DGet (H : Hp) (a : Addr) (y : V) (r : Option V) : Prop :=
  (∃ kvs k, Rd H a (.dK kvs) ∧ y = kV k ∧ r = valV kvs k) ∨ ∃ kvs k b, Rd H a (.dT kvs) ∧ y = .ref b ∧ H b = some (.tup (k.map kV)) ∧ r = valV kvs k
def DPut (H : Hp) (a : Addr) (y v : V) (H' : Hp) : Prop :=
  (∃ kvs k, H a = some (.dK kvs) ∧ y = kV k ∧ kvs.length < sizeLine ∧ H' = upd H a (.dK (putK kvs k v))) ∨
  ∃ kvs k b, H a = some (.dT kvs) ∧ y = .ref b ∧ H b = some (.tup (k.map kV)) ∧ kvs.length < sizeLine ∧ H' = upd H a (.dT (putK kvs k v))
theorem DGet.k {H : Hp} {a : Addr} {kvs : List (Key × V)} {k : Key} (e : H a = some (.dK kvs)) : DGet H a (kV k) (valV kvs k) := .inl ⟨kvs, k, .inl e, rfl, rfl⟩
theorem DGet.t {H : Hp} {a b : Addr} {kvs : List (List Key × V)} {k : List Key} (e : H a = some (.dT kvs)) (eb : H b = some (.tup (k.map kV))) : DGet H a (.ref b) (valV kvs k) := .inr ⟨kvs, k, b, .inl e, rfl, eb, rfl⟩
theorem DPut.k {H : Hp} {a : Addr} {kvs : List (Key × V)} {k : Key} {v : V} (e : H a = some (.dK kvs)) (hl : kvs.length < sizeLine) : DPut H a (kV k) v (upd H a (.dK (putK kvs k v))) := .inl ⟨kvs, k, e, rfl, hl, rfl⟩
theorem DPut.t {H : Hp} {a b : Addr} {kvs : List (List Key × V)} {k : List Key} {v : V} (e : H a = some (.dT kvs)) (eb : H b = some (.tup (k.map kV))) (hl : kvs.length < sizeLine) :
    DPut H a (.ref b) v (upd H a (.dT (putK kvs k v))) := .inr ⟨kvs, k, b, e, rfl, eb, hl, rfl⟩
section
variable {X : Cx} {pins : List (Addr × Obj)} {σ : St} {H : Hp} {s : Shared} {a : Addr} {y v : V} {u r : Value} {o : Option V} {A : Around} {E : Value → Shared → Prop}
end
section
variable {X : Cx} {pins : List (Addr × Obj)} {σ : St} {H : Hp} {s : Shared} {a : Addr} {kvs : List (Key × V)} {k : Key} {u : Value} {A : Around} {E : Value → Shared → Prop}
end
section
variable {X : Cx} {o i e value : Expr} {pos pos' tpos : Pos} {td ty tv : TE}
end
section
variable {X : Cx} {pos : Pos}
end
section
variable {X : Cx} {pins : List (Addr × Obj)} {σ : St} {H : Hp} {s : Shared} {a : Addr} {y d : V} {u r : Value} {o : Option V} {A : Around} {E : Value → Shared → Prop}
end
section
variable {X : Cx} {o e f : Expr} {apos cpos : Pos} {td ty tx : TE}
end
section
variable {X : Cx} {pins : List (Addr × Obj)} {σ : St} {H : Hp} {s : Shared} {a : Addr} {kvs : List (Key × V)} {A : Around} {E : Value → Shared → Prop}
end
section
variable {X : Cx} {pins : List (Addr × Obj)} {σ : St} {H : Hp} {s : Shared} {a : Addr} {y : V} {u : Value} {A : Around} {E : Value → Shared → Prop}
namespace L2
open PySem PySem.Spec PyProof.Rows
section
variable {X : Cx}
end
section
variable {κ : Type} [DecidableEq κ]
end
end L2
end
end L2
namespace L2
open PySem PySem.Spec PyProof.Rows
section
variable {X : Cx}
end
section
variable {X : Cx} {elts : List Expr} {kk : Nat} {tpos : Pos}
end
section
variable {X : Cx} {e st : Expr} {te : TE} {ts : TO} {pos p2 : Pos}
end
end L2
namespace L2
open PySem PySem.Spec PyProof.Rows
section
variable {X : Cx} {o i e value : Expr} {pos pos' tpos : Pos} {td ty tv : TE}
end
section
variable {X : Cx} {o e f : Expr} {apos cpos : Pos} {td ty tx' : TE}
end
section
variable {X : Cx} {o i : Expr} {pos : Pos} {td ty : TE}
end
end L2
local macro_rules | `(tactic| walk_at "w") => `(tactic| conv => whnf)
local macro_rules | `(tactic| walk_at "sc") => `(tactic| ((try dsimp only [L2.CMul, L2.CDiv, L2.CPow, L2.CDivN]); first | assumption | omega | decide))
local macro_rules | `(tactic| walk_at "n") => `(tactic| ((conv => whnf); refine And.intro ?sc ?_; (case sc => ((try dsimp only [L2.CMul, L2.CDiv, L2.CPow, L2.CDivN]); first | assumption | omega | decide))))
local macro_rules | `(tactic| walk_at "bf") => `(tactic| ((conv => whnf); refine And.intro (fun c => absurd c (by first | decide | simp)) (fun _ => ?_) <;> (try dsimp only [L2.tNext])))
local macro_rules | `(tactic| walk_at "bt") => `(tactic| ((conv => whnf); refine And.intro (fun _ => ?_) (fun c => absurd c (by first | decide | simp)) <;> (try dsimp only [L2.tNext])))
local macro_rules | `(tactic| walk_at "b2") => `(tactic| ((conv => whnf); refine And.intro (fun _ => ?_) (fun _ => ?_) <;> (try dsimp only [L2.tNext])))
namespace K05
open PySem PySem.Spec PyProof.Rows L2
def top (i : Nat) : Stmt := PySem.Challenge.pw_cardshop_k05_punched.main.body.getD i (.Pass ⟨0, 0, 0, 0⟩)
abbrev s_law_mixed : Stmt := top 11
abbrev s_law_card : Stmt := top 12
abbrev s_law_field : Stmt := top 13
abbrev s_law_power : Stmt := top 14
abbrev s_law_value : Stmt := top 15
abbrev s_law_due : Stmt := top 16
abbrev s_width_of : Stmt := top 5
abbrev s_ten_to : Stmt := top 2
abbrev s_punch_in : Stmt := top 8
abbrev s_number_by : Stmt := top 3
abbrev s_part_of : Stmt := top 6
abbrev s_number_of : Stmt := top 7
abbrev s_law_whole : Stmt := top 10
abbrev s_law : Stmt := top 17
def sp_law_mixed (K : PySem.W.Frag) : Sp := fun vs H Q _ => match vs with | [.int c, .int k] => (0 ≤ k ∧ k ≤ 1000) ∧ Q (.int (mixed c k)) H | _ => False
def sp_law_card (K : PySem.W.Frag) : Sp := fun vs H Q _ => match vs with | [.ref a] => ∃ ns : List Int, SqL K H a (ns.map V.int) ∧ ns.length ≤ 63 ∧ ∀ l : List Nat, l.length = 40 → Q (tx l) H | _ => False
def sp_law_field (K : PySem.W.Frag) : Sp := fun vs H Q _ => match vs with
  | [.int _, .int k] => (0 ≤ k ∧ k ≤ 100) ∧ ∀ (p : Addr) (H' : Hp) (a b : Int), Same H H' → H' p = some (.tup [.int a, .int b]) → 1 ≤ a → a ≤ b → b ≤ 36 → Q (.ref p) H'
  | _ => False
def sp_law_power (K : PySem.W.Frag) : Sp := fun vs H Q _ => match vs with | [.int m] => (0 ≤ m ∧ m ≤ 100) ∧ Q (.int (10 ^ m.toNat)) H | _ => False
def sp_ten_to (K : PySem.W.Frag) : Sp := fun vs H Q _ => match vs with | [.int m] => (0 ≤ m ∧ m ≤ 100) ∧ Q (.int (10 ^ m.toNat)) H | _ => False
def sp_law_value (K : PySem.W.Frag) : Sp := fun vs H Q _ => match vs with
  | [.int _, .int n, .int w] => (0 ≤ n ∧ n < 2147483647 ∧ 1 ≤ w ∧ w ≤ 36) ∧ ∀ v : Int, Q (.int v) H
  | _ => False
def punched (l : List Nat) (f e v : Int) : List Nat := l.take (f - 1).toNat ++ digs (e - f + 1).toNat (v % 10 ^ (e - f + 1).toNat).toNat ++ l.drop e.toNat
def sp_law_due (K : PySem.W.Frag) : Sp := fun vs H Q _ => match vs with
  | [.str z, .ref p, .int v] => ∃ f e : Int, SqT K H p [.int f, .int e] ∧ (1 ≤ f ∧ f ≤ e ∧ e ≤ 36) ∧ z.cps.toList.length = 40 ∧ ∀ H', Same H H' → Q (tx (punched z.cps.toList f e v)) H'
  | _ => False
def sp_width_of (K : PySem.W.Frag) : Sp := fun vs H Q _ => match vs with
  | [.ref p] => ∃ f e : Int, SqT K H p [.int f, .int e] ∧ Q (.int (e - f + 1)) H
  | _ => False
def sp_punch_in (K : PySem.W.Frag) : Sp := fun vs H Q _ => match vs with
  | [.str z, .ref p, .int v] => ∃ f e : Int, SqT K H p [.int f, .int e] ∧ (1 ≤ f ∧ f ≤ e ∧ e ≤ 36) ∧ z.cps.toList.length = 40 ∧ Q (tx (punched z.cps.toList f e v)) H
  | _ => False
def sp_number_by (K : PySem.W.Frag) : Sp := fun vs H Q _ => match vs with
  | [.str z] => (∀ c ∈ z.cps.toList, 48 ≤ c ∧ c ≤ 57) ∧ Q (.int (numL z.cps.toList)) H
  | _ => False
def sp_part_of (K : PySem.W.Frag) : Sp := fun vs H Q _ => match vs with
  | [.str z, .ref p] => ∃ a b : Int, SqT K H p [.int a, .int b] ∧ (1 ≤ a ∧ a ≤ b ∧ b ≤ 36) ∧ z.cps.toList.length = 40 ∧ Q (tx ((z.cps.toList.drop (a - 1).toNat).take (b - a + 1).toNat)) H
  | _ => False
def sp_number_of (K : PySem.W.Frag) : Sp := fun vs H Q _ => match vs with
  | [.str z, .ref p] => ∃ a b : Int, SqT K H p [.int a, .int b] ∧ (1 ≤ a ∧ a ≤ b ∧ b ≤ 36) ∧ z.cps.toList.length = 40 ∧
    ∀ H', Same H H' → Q (.int (numL (((z.cps.toList.drop (a - 1).toNat).take (b - a + 1).toNat).map fig))) H'
  | _ => False
def sp_law_whole (K : PySem.W.Frag) : Sp := fun vs H Q _ => match vs with | [.int _] => Q (.bl true) H | _ => False
def sp_law (K : PySem.W.Frag) : Sp := fun vs H Q _ => ∃ (a : Addr) (ns : List Int), vs = [.ref a] ∧ SqL K H a (ns.map V.int) ∧ ns.length ≤ 63 ∧ ∀ H', Q (.bl true) H'
def t_law_mixed (K : PySem.W.Frag) : TS := (tRet (tOp mMod (tOp mMul (tOp mAdd (tOp mAdd (tOp mAdd (tOp mMod (mVar 0) (tC (.int 2147483647))) (tOp mMul (tOp mMul (tC (.int 7)) (mVar 1)) (mVar 1))) (tOp mMul (tC (.int 11)) (mVar 1))) (tC (.int 1))) (tC (.int 48271))) (tC (.int 2147483647))))
abbrev RD_law_mixed (K : PySem.W.Frag) : Prop := ∀ vs H Q E, sp_law_mixed K vs H Q E → t_law_mixed K { nx := fun _ H' => Q .non H', rt := Q } (start ["_law_cell", "_law_k"] vs) H
theorem len_law_mixed {K : PySem.W.Frag} : ∀ vs H Q E, sp_law_mixed K vs H Q E → vs.length = 2 := by
  intro vs H Q E h; unfold sp_law_mixed at h; split at h <;> first | rfl | exact h.elim
def t_law_card (K : PySem.W.Frag) : TS := (tSeq (tAsg (tC (tx [])) (gName 1)) (tSeq (tFor (mRng1 (tCons (tC (.int 40)) tNil)) (gName 2) (tSeq (tAsg (tC (.int 0)) (gName 3)) (tSeq (mIfS (mTest (tOp mGt (tCB (mLen K) (tCons (mVar 0) tNil)) (tC (.int 0)))) (tAsg (tOp (mIx K) (mVar 0) (tOp mMod (mVar 2) (tCB (mLen K) (tCons (mVar 0) tNil)))) (gName 3)) tNext) (tAsg (tOp mAdd (mVar 1) (tOp (mIx K) (tC (tx SG)) (tOp mMod (tOp mDiv (tCall (sp_law_mixed K) [] E0 (tCons (mVar 3) (tCons (mVar 2) tNil))) (tC (.int 5))) (tC (.int 37))))) (gName 1))))) (tRet (mVar 1))))
abbrev RD_law_card (K : PySem.W.Frag) : Prop := ∀ vs H Q E, sp_law_card K vs H Q E → t_law_card K { nx := fun _ H' => Q .non H', rt := Q } (start ["_law_script", "_law_card_here", "_law_k", "_law_cell"] vs) H
theorem len_law_card {K : PySem.W.Frag} : ∀ vs H Q E, sp_law_card K vs H Q E → vs.length = 1 := by
  intro vs H Q E h; unfold sp_law_card at h; split at h <;> first | rfl | exact h.elim
def t_law_field (K : PySem.W.Frag) : TS := (tSeq (tAsg (tCall (sp_law_mixed K) [] E0 (tCons (mVar 0) (tCons (tOp mAdd (tC (.int 40)) (mVar 1)) tNil))) (gName 2)) (tSeq (tAsg (tOp mAdd (tC (.int 1)) (tOp mMod (tOp mDiv (mVar 2) (tC (.int 8))) (tC (.int 36)))) (gName 3)) (tSeq (mIfS (mTest (tOp (mEqK K) (tOp mMod (mVar 2) (tC (.int 8))) (tC (.int 0)))) (tRet (tTup (tCons (mVar 3) (tCons (mVar 3) tNil)))) tNext) (tSeq (tAsg (tCB (mTwo min) (tCons (tC (.int 36)) (tCons (tOp mAdd (mVar 3) (tOp mMod (tOp mDiv (mVar 2) (tC (.int 288))) (tC (.int 9)))) tNil))) (gName 4)) (tSeq (mIfS (mTest (tOp (mEqK K) (tOp mMod (mVar 2) (tC (.int 8))) (tC (.int 1)))) (tAsg (tC (.int 36)) (gName 4)) tNext) (tRet (tTup (tCons (mVar 3) (tCons (mVar 4) tNil)))))))))
abbrev RD_law_field (K : PySem.W.Frag) : Prop := ∀ vs H Q E, sp_law_field K vs H Q E → t_law_field K { nx := fun _ H' => Q .non H', rt := Q } (start ["_law_cell", "_law_k", "_law_number", "_law_first", "_law_last"] vs) H
theorem len_law_field {K : PySem.W.Frag} : ∀ vs H Q E, sp_law_field K vs H Q E → vs.length = 2 := by
  intro vs H Q E h; unfold sp_law_field at h; split at h <;> first | rfl | exact h.elim
def t_law_power (K : PySem.W.Frag) : TS := (tSeq (tAsg (tC (.int 1)) (gName 1)) (tSeq (tFor (mRng1 (tCons (mVar 0) tNil)) (gName 2) (tAsg (tOp mMul (tC (.int 10)) (mVar 1)) (gName 1))) (tRet (mVar 1))))
abbrev RD_law_power (K : PySem.W.Frag) : Prop := ∀ vs H Q E, sp_law_power K vs H Q E → t_law_power K { nx := fun _ H' => Q .non H', rt := Q } (start ["_law_many", "_law_found", "_law_k"] vs) H
theorem len_law_power {K : PySem.W.Frag} : ∀ vs H Q E, sp_law_power K vs H Q E → vs.length = 1 := by
  intro vs H Q E h; unfold sp_law_power at h; split at h <;> first | rfl | exact h.elim
def t_law_value (K : PySem.W.Frag) : TS := (tSeq (tAsg (tOp mMod (mVar 1) (tC (.int 5))) (gName 3)) (tSeq (mIfS (mTest (tOp (mEqK K) (mVar 3) (tC (.int 0)))) (tRet (tOp mSub (tOp mMod (mVar 0) (tOp mSub (tOp mMul (tC (.int 2)) (tOp mPow (tC (.int 10)) (tC (.int 60)))) (tC (.int 1)))) (tOp mSub (tOp mPow (tC (.int 10)) (tC (.int 60))) (tC (.int 1))))) tNext) (tSeq (mIfS (mTest (tOp (mEqK K) (mVar 3) (tC (.int 1)))) (tRet (tOp mMul (tOp mSub (tOp mMul (tOp mMod (tOp mDiv (mVar 1) (tC (.int 5))) (tC (.int 2))) (tC (.int 2))) (tC (.int 1))) (tOp mAdd (tOp mMul (tOp mMod (mVar 0) (tOp mPow (tC (.int 10)) (tC (.int 18)))) (tC (.int 7919))) (mVar 1)))) tNext) (tSeq (mIfS (mTest (tOp (mEqK K) (mVar 3) (tC (.int 2)))) (tRet (tOp mSub (tOp mMod (tOp mDiv (mVar 1) (tC (.int 5))) (tC (.int 25))) (tC (.int 12)))) tNext) (tSeq (tAsg (tOp mSub (tOp mAdd (tCall (sp_law_power K) [] E0 (tCons (tOp mAdd (mVar 2) (tOp mMod (tOp mDiv (mVar 1) (tC (.int 5))) (tC (.int 2)))) tNil)) (tOp mMod (tOp mDiv (mVar 1) (tC (.int 10))) (tC (.int 3)))) (tC (.int 1))) (gName 4)) (tSeq (mIfS (mTest (tOp (mEqK K) (mVar 3) (tC (.int 3)))) (tRet (mVar 4)) tNext) (tRet (tOp mSub (tC (.int 0)) (mVar 4)))))))))
abbrev RD_law_value (K : PySem.W.Frag) : Prop := ∀ vs H Q E, sp_law_value K vs H Q E → t_law_value K { nx := fun _ H' => Q .non H', rt := Q } (start ["_law_cell", "_law_number", "_law_width", "_law_kind", "_law_value_here"] vs) H
theorem len_law_value {K : PySem.W.Frag} : ∀ vs H Q E, sp_law_value K vs H Q E → vs.length = 3 := by
  intro vs H Q E h; unfold sp_law_value at h; split at h <;> first | rfl | exact h.elim
def t_law_due (K : PySem.W.Frag) : TS := (tSeq (tAsg (tComp ["_law_sign"] [] (iAny K (mVar 0)) (gName 0) tTrue (mVar 0)) (gName 3)) (tSeq (tAsg (tOp mMod (mVar 2) (tCall (sp_law_power K) [] E0 (tCons (tOp mAdd (tOp mSub (tOp (mIx K) (mVar 1) (tC (.int 1))) (tOp (mIx K) (mVar 1) (tC (.int 0)))) (tC (.int 1))) tNil))) (gName 4)) (tSeq (tFor (mRng3 (tCons (tOp (mIx K) (mVar 1) (tC (.int 1))) (tCons (tOp mSub (tOp (mIx K) (mVar 1) (tC (.int 0))) (tC (.int 1))) (tCons (mNeg (tC (.int 1))) tNil)))) (gName 5) (tSeq (tAsg (tOp (mIx K) (tC (tx [48, 49, 50, 51, 52, 53, 54, 55, 56, 57])) (tOp mMod (mVar 4) (tC (.int 10)))) (gSub (mVar 3) (tOp mSub (mVar 5) (tC (.int 1))) mSet)) (tAsg (tOp mDiv (mVar 4) (tC (.int 10))) (gName 4)))) (tRet (tBM K "str" (mJoin K) (tC (tx [])) (tCons (mVar 3) tNil))))))
abbrev RD_law_due (K : PySem.W.Frag) : Prop := ∀ vs H Q E, sp_law_due K vs H Q E → t_law_due K { nx := fun _ H' => Q .non H', rt := Q } (start ["_law_card_here", "_law_field_here", "_law_value_here", "_law_signs", "_law_rest", "_law_column"] vs) H
theorem len_law_due {K : PySem.W.Frag} : ∀ vs H Q E, sp_law_due K vs H Q E → vs.length = 3 := by
  intro vs H Q E h; unfold sp_law_due at h; split at h <;> first | rfl | exact h.elim
def t_width_of (K : PySem.W.Frag) : TS := (tRet (tOp mAdd (tOp mSub (tOp (mIx K) (mVar 0) (tC (.int 1))) (tOp (mIx K) (mVar 0) (tC (.int 0)))) (tC (.int 1))))
abbrev RD_width_of (K : PySem.W.Frag) : Prop := ∀ vs H Q E, sp_width_of K vs H Q E → t_width_of K { nx := fun _ H' => Q .non H', rt := Q } (start ["field"] vs) H
theorem len_width_of {K : PySem.W.Frag} : ∀ vs H Q E, sp_width_of K vs H Q E → vs.length = 1 := by
  intro vs H Q E h; unfold sp_width_of at h; split at h <;> first | rfl | exact h.elim
def t_ten_to (K : PySem.W.Frag) : TS := (tSeq (tAsg (tC (.int 1)) (gName 1)) (tSeq (tFor (mRng1 (tCons (mVar 0) tNil)) (gName 2) (tAsg (tOp mMul (mVar 1) (tC (.int 10))) (gName 1))) (tRet (mVar 1))))
abbrev RD_ten_to (K : PySem.W.Frag) : Prop := ∀ vs H Q E, sp_ten_to K vs H Q E → t_ten_to K { nx := fun _ H' => Q .non H', rt := Q } (start ["power", "value", "step"] vs) H
theorem len_ten_to {K : PySem.W.Frag} : ∀ vs H Q E, sp_ten_to K vs H Q E → vs.length = 1 := by
  intro vs H Q E h; unfold sp_ten_to at h; split at h <;> first | rfl | exact h.elim
def t_punch_in (K : PySem.W.Frag) : TS := (tSeq (tAsg (tCall (sp_width_of K) [] E0 (tCons (mVar 1) tNil)) (gName 3)) (tSeq (tAsg (tBM K "str" mZfill (tCB (mStr) (tCons (tOp mMod (mVar 2) (tCall (sp_ten_to K) [] E0 (tCons (mVar 3) tNil))) tNil)) (tCons (mVar 3) tNil)) (gName 4)) (tRet (tOp mAdd (tOp mAdd (tSl (mSl K) (mVar 0) tNoPart (mPart (tOp mSub (tOp (mIx K) (mVar 1) (tC (.int 0))) (tC (.int 1))))) (mVar 4)) (tSl (mSl K) (mVar 0) (mPart (tOp (mIx K) (mVar 1) (tC (.int 1)))) tNoPart)))))
abbrev RD_punch_in (K : PySem.W.Frag) : Prop := ∀ vs H Q E, sp_punch_in K vs H Q E → t_punch_in K { nx := fun _ H' => Q .non H', rt := Q } (start ["card", "field", "value", "width", "punched"] vs) H
theorem len_punch_in {K : PySem.W.Frag} : ∀ vs H Q E, sp_punch_in K vs H Q E → vs.length = 3 := by
  intro vs H Q E h; unfold sp_punch_in at h; split at h <;> first | rfl | exact h.elim
def t_number_by (K : PySem.W.Frag) : TS := (tSeq (tAsg (tC (.int 0)) (gName 1)) (tSeq (tFor (iAny K (mVar 0)) (gName 2) (tAsg (tOp mAdd (tOp mMul (mVar 1) (tC (.int 10))) (tBM K "str" mIndex (tC (tx [48, 49, 50, 51, 52, 53, 54, 55, 56, 57])) (tCons (mVar 2) tNil))) (gName 1))) (tRet (mVar 1))))
abbrev RD_number_by (K : PySem.W.Frag) : Prop := ∀ vs H Q E, sp_number_by K vs H Q E → t_number_by K { nx := fun _ H' => Q .non H', rt := Q } (start ["figures", "value", "figure"] vs) H
theorem len_number_by {K : PySem.W.Frag} : ∀ vs H Q E, sp_number_by K vs H Q E → vs.length = 1 := by
  intro vs H Q E h; unfold sp_number_by at h; split at h <;> first | rfl | exact h.elim
def t_part_of (K : PySem.W.Frag) : TS := (tRet (tSl (mSl K) (mVar 0) (mPart (tOp mSub (tOp (mIx K) (mVar 1) (tC (.int 0))) (tC (.int 1)))) (mPart (tOp (mIx K) (mVar 1) (tC (.int 1))))))
abbrev RD_part_of (K : PySem.W.Frag) : Prop := ∀ vs H Q E, sp_part_of K vs H Q E → t_part_of K { nx := fun _ H' => Q .non H', rt := Q } (start ["card", "field"] vs) H
theorem len_part_of {K : PySem.W.Frag} : ∀ vs H Q E, sp_part_of K vs H Q E → vs.length = 2 := by
  intro vs H Q E h; unfold sp_part_of at h; split at h <;> first | rfl | exact h.elim
def t_number_of (K : PySem.W.Frag) : TS := (tSeq (tAsg (tComp ["sign"] [] (iAny K (tCall (sp_part_of K) [] E0 (tCons (mVar 0) (tCons (mVar 1) tNil)))) (gName 0) tTrue (mIf (mTest (tOp (mIn K false) (mVar 0) (tC (tx [48, 49, 50, 51, 52, 53, 54, 55, 56, 57])))) (mVar 0) (tC (tx [48])))) (gName 2)) (tRet (tCall (sp_number_by K) [] E0 (tCons (tBM K "str" (mJoin K) (tC (tx [])) (tCons (mVar 2) tNil)) tNil))))
abbrev RD_number_of (K : PySem.W.Frag) : Prop := ∀ vs H Q E, sp_number_of K vs H Q E → t_number_of K { nx := fun _ H' => Q .non H', rt := Q } (start ["card", "field", "figures"] vs) H
theorem len_number_of {K : PySem.W.Frag} : ∀ vs H Q E, sp_number_of K vs H Q E → vs.length = 2 := by
  intro vs H Q E h; unfold sp_number_of at h; split at h <;> first | rfl | exact h.elim
def t_law_whole (K : PySem.W.Frag) : TS := (tRet (mAndV (tCB (mIsa K) (tCons (mVar 0) (tCons (tC (.ty "int")) tNil))) (mNotV (tCB (mIsa K) (tCons (mVar 0) (tCons (tC (.ty "bool")) tNil))))))
abbrev RD_law_whole (K : PySem.W.Frag) : Prop := ∀ vs H Q E, sp_law_whole K vs H Q E → t_law_whole K { nx := fun _ H' => Q .non H', rt := Q } (start ["_law_found"] vs) H
theorem len_law_whole {K : PySem.W.Frag} : ∀ vs H Q E, sp_law_whole K vs H Q E → vs.length = 1 := by
  intro vs H Q E h; unfold sp_law_whole at h; split at h <;> first | rfl | exact h.elim
def t_law (K : PySem.W.Frag) : TS := (tSeq (tAsg (tCall (sp_law_card K) [] E0 (tCons (mVar 0) tNil)) (gName 1)) (tSeq (tFor (iEnum K (tCons (tOp mAdd (tLst (tCons (tC (.int 0)) tNil)) (tSl (mSl K) (mVar 0) tNoPart (mPart (tC (.int 84))))) tNil)) (gTupM K 2 (gConsM (gName 2) (gConsM (gName 3) gNilM))) (tSeq (tAsg (tCall (sp_law_field K) [] E0 (tCons (mVar 3) (tCons (mVar 2) tNil))) (gName 4)) (tSeq (tAsg (tOp mAdd (tOp mSub (tOp (mIx K) (mVar 4) (tC (.int 1))) (tOp (mIx K) (mVar 4) (tC (.int 0)))) (tC (.int 1))) (gName 5)) (tSeq (tAsg (tCall (sp_law_value K) [] E0 (tCons (mVar 3) (tCons (tCall (sp_law_mixed K) [] E0 (tCons (mVar 3) (tCons (tOp mAdd (tC (.int 140)) (tOp mMul (tC (.int 2)) (mVar 2))) tNil))) (tCons (mVar 5) tNil)))) (gName 6)) (tSeq (tAsg (tCall (sp_law_due K) [] E0 (tCons (mVar 1) (tCons (mVar 4) (tCons (mVar 6) tNil)))) (gName 7)) (tSeq (tAsg (tCall (sp_punch_in K) [] E0 (tCons (mVar 1) (tCons (mVar 4) (tCons (mVar 6) tNil)))) (gName 8)) (tSeq (mIfS (mOr (tNot (mTest (tCB (mIsa K) (tCons (mVar 8) (tCons (tC (.ty "str")) tNil))))) (mTest (tOp (mNeK K) (mVar 8) (mVar 7)))) (tRet (tC (.bl false))) tNext) (tSeq (tAsg (tCall (sp_number_of K) [] E0 (tCons (mVar 8) (tCons (mVar 4) tNil))) (gName 9)) (tSeq (mIfS (mOr (tNot (mTest (tCall (sp_law_whole K) [] E0 (tCons (mVar 9) tNil)))) (mOr (mTest (tOp (mNeK K) (mVar 9) (tOp mMod (mVar 6) (tCall (sp_law_power K) [] E0 (tCons (mVar 5) tNil))))) (mTest (tOp (mNeK K) (tCall (sp_punch_in K) [] E0 (tCons (mVar 8) (tCons (mVar 4) (tCons (mVar 6) tNil)))) (mVar 7))))) (tRet (tC (.bl false))) tNext) (tAsg (mVar 7) (gName 1))))))))))) (tRet (tC (.bl true)))))
abbrev RD_law (K : PySem.W.Frag) : Prop := ∀ vs H Q E, sp_law K vs H Q E → t_law K { nx := fun _ H' => Q .non H', rt := Q } (start ["_law_script", "_law_card_here", "_law_k", "_law_cell", "_law_field_here", "_law_width", "_law_value_here", "_law_due_here", "_law_found", "_law_number"] vs) H
theorem len_law {K : PySem.W.Frag} : ∀ vs H Q E, sp_law K vs H Q E → vs.length = 1 := by
  intro vs H Q E h; obtain ⟨a, ns, rfl, _⟩ := h; rfl
end K05
namespace K05
open PySem PySem.Spec PyProof.Rows L2
section
variable {P : Program} {w : World} {K : PySem.W.Frag} {mg : Str → Option Value} {base : Heap}
theorem sc_law_mixed : FnScope ["_law_cell", "_law_k"] ["_law_cell", "_law_k"] (defScope s_law_mixed) := ⟨rfl, rfl, rfl, by decide +kernel, rfl, by decide +kernel, by decide +kernel⟩
theorem tm_law_mixed  {cdv : Value} {A : Around} {outer : List Env} {s : Shared} {H : Hp} {E : XK} {f : Addr} (hr : Room 0 (A.deeper (envOfC "_law_mixed" (defScope s_law_mixed) s.heap.objs.size f cdv))) :
    (PSs (cxOf CX0 P w K mg base ["_law_cell", "_law_k"] "_law_mixed" (defScope s_law_mixed) f cdv A outer s H E).nox (defBody s_law_mixed) (t_law_mixed K)) := 
  (pss_one (ps_ret (pe_op op_modM (pe_op op_mulM (pe_op op_addM (pe_op op_addM (pe_op op_addM (pe_op op_modM (pe_mvar 0) pe_int) (pe_op op_mulM (pe_op op_mulM pe_int (pe_mvar 1)) (pe_mvar 1))) (pe_op op_mulM pe_int (pe_mvar 1))) pe_int) pe_int) pe_int)))
theorem ok_law_mixed  {f : Addr} {fd : FuncData} (F : Fun K "_law_mixed" "_law_mixed" s_law_mixed f fd) (len : ∀ vs H Q E, sp_law_mixed K vs H Q E → vs.length = 2)
    (rd : ∀ vs H Q E, sp_law_mixed K vs H Q E → t_law_mixed K { nx := fun _ H' => Q .non H', rt := Q } (start ["_law_cell", "_law_k"] vs) H) : FnOk P w K mg base CX0 1 f fd ["_law_cell", "_law_k"] (sp_law_mixed K) := by
  refine F.ok sc_law_mixed len (fun cdv A outer s H vs Q E hr h => ⟨_, tm_law_mixed  hr, rd vs H Q E h⟩)
theorem sc_law_card : FnScope ["_law_script", "_law_card_here", "_law_k", "_law_cell"] ["_law_script"] (defScope s_law_card) := ⟨rfl, rfl, rfl, by decide +kernel, rfl, by decide +kernel, by decide +kernel⟩
theorem tm_law_card (G_law_mixed : Gd P w K mg base CX0 1 "_law_mixed" ["_law_cell", "_law_k"] (sp_law_mixed K)) (B_range : Gb mg "range") (B_len : Gb mg "len") {cdv : Value} {A : Around} {outer : List Env} {s : Shared} {H : Hp} {E : XK} {f : Addr} (hr : Room 1 (A.deeper (envOfC "_law_card" (defScope s_law_card) s.heap.objs.size f cdv))) :
    (PSs (cxOf CX0 P w K mg base ["_law_script", "_law_card_here", "_law_k", "_law_cell"] "_law_card" (defScope s_law_card) f cdv A outer s H E).nox (defBody s_law_card) (t_law_card K)) := 
  (pss_cons (ps_set (i := 1) sc_law_card.nd rfl (by first | exact Or.inl rfl | exact Or.inr rfl) (pe_txt (l := []))) (pss_cons (ps_for PassesOwn.never rfl (pi_rngM1 B_range (pa_cons pe_int pa_nil)) (pg_name (i := 2) sc_law_card.nd rfl (by first | exact Or.inl rfl | exact Or.inr rfl)) (pss_cons (ps_set (i := 3) sc_law_card.nd rfl (by first | exact Or.inl rfl | exact Or.inr rfl) pe_int) (pss_cons (ps_ifM (pt_cmpM op_gtM (pe_bf call_lenM B_len (pa_cons (pe_mvar 0) pa_nil)) pe_int) (pss_one (ps_set (i := 3) sc_law_card.nd rfl (by first | exact Or.inl rfl | exact Or.inr rfl) (pe_ix ix_M (pe_mvar 0) (pe_op op_modM (pe_mvar 2) (pe_bf call_lenM B_len (pa_cons (pe_mvar 0) pa_nil))) (fun _ _ => rfl)))) pss_nil) (pss_one (ps_set (i := 1) sc_law_card.nd rfl (by first | exact Or.inl rfl | exact Or.inr rfl) (pe_op op_addM (pe_mvar 1) (pe_ix ix_M (pe_txt (l := SG)) (pe_op op_modM (pe_op op_divM (pe_callG G_law_mixed (hr.mono (j := 1) (by decide)) (pa_cons (pe_mvar 3) (pa_cons (pe_mvar 2) pa_nil))) pe_int) pe_int) (fun _ _ => rfl)))))))) (pss_one (ps_ret (pe_mvar 1)))))
theorem ok_law_card (G_law_mixed : Gd P w K mg base CX0 1 "_law_mixed" ["_law_cell", "_law_k"] (sp_law_mixed K)) (B_range : Gb mg "range") (B_len : Gb mg "len") {f : Addr} {fd : FuncData} (F : Fun K "_law_card" "_law_card" s_law_card f fd) (len : ∀ vs H Q E, sp_law_card K vs H Q E → vs.length = 1)
    (rd : ∀ vs H Q E, sp_law_card K vs H Q E → t_law_card K { nx := fun _ H' => Q .non H', rt := Q } (start ["_law_script", "_law_card_here", "_law_k", "_law_cell"] vs) H) : FnOk P w K mg base CX0 2 f fd ["_law_script"] (sp_law_card K) := by
  refine F.ok sc_law_card len (fun cdv A outer s H vs Q E hr h => ⟨_, tm_law_card G_law_mixed B_range B_len hr, rd vs H Q E h⟩)
theorem sc_law_field : FnScope ["_law_cell", "_law_k", "_law_number", "_law_first", "_law_last"] ["_law_cell", "_law_k"] (defScope s_law_field) := ⟨rfl, rfl, rfl, by decide +kernel, rfl, by decide +kernel, by decide +kernel⟩
theorem tm_law_field (G_law_mixed : Gd P w K mg base CX0 1 "_law_mixed" ["_law_cell", "_law_k"] (sp_law_mixed K)) (B_min : Gb mg "min") {cdv : Value} {A : Around} {outer : List Env} {s : Shared} {H : Hp} {E : XK} {f : Addr} (hr : Room 1 (A.deeper (envOfC "_law_field" (defScope s_law_field) s.heap.objs.size f cdv))) :
    (PSs (cxOf CX0 P w K mg base ["_law_cell", "_law_k", "_law_number", "_law_first", "_law_last"] "_law_field" (defScope s_law_field) f cdv A outer s H E).nox (defBody s_law_field) (t_law_field K)) := 
  (pss_cons (ps_set (i := 2) sc_law_field.nd rfl (by first | exact Or.inl rfl | exact Or.inr rfl) (pe_callG G_law_mixed (hr.mono (j := 1) (by decide)) (pa_cons (pe_mvar 0) (pa_cons (pe_op op_addM pe_int (pe_mvar 1)) pa_nil)))) (pss_cons (ps_set (i := 3) sc_law_field.nd rfl (by first | exact Or.inl rfl | exact Or.inr rfl) (pe_op op_addM pe_int (pe_op op_modM (pe_op op_divM (pe_mvar 2) pe_int) pe_int))) (pss_cons (ps_ifM (pt_cmpM (op_eqK hr.u60) (pe_op op_modM (pe_mvar 2) pe_int) pe_int) (pss_one (ps_ret (pe_tup (pa_cons (pe_mvar 3) (pa_cons (pe_mvar 3) pa_nil))))) pss_nil) (pss_cons (ps_set (i := 4) sc_law_field.nd rfl (by first | exact Or.inl rfl | exact Or.inr rfl) (pe_bf (call_minM rfl) B_min (pa_cons pe_int (pa_cons (pe_op op_addM (pe_mvar 3) (pe_op op_modM (pe_op op_divM (pe_mvar 2) pe_int) pe_int)) pa_nil)))) (pss_cons (ps_ifM (pt_cmpM (op_eqK hr.u60) (pe_op op_modM (pe_mvar 2) pe_int) pe_int) (pss_one (ps_set (i := 4) sc_law_field.nd rfl (by first | exact Or.inl rfl | exact Or.inr rfl) pe_int)) pss_nil) (pss_one (ps_ret (pe_tup (pa_cons (pe_mvar 3) (pa_cons (pe_mvar 4) pa_nil))))))))))
theorem ok_law_field (G_law_mixed : Gd P w K mg base CX0 1 "_law_mixed" ["_law_cell", "_law_k"] (sp_law_mixed K)) (B_min : Gb mg "min") {f : Addr} {fd : FuncData} (F : Fun K "_law_field" "_law_field" s_law_field f fd) (len : ∀ vs H Q E, sp_law_field K vs H Q E → vs.length = 2)
    (rd : ∀ vs H Q E, sp_law_field K vs H Q E → t_law_field K { nx := fun _ H' => Q .non H', rt := Q } (start ["_law_cell", "_law_k", "_law_number", "_law_first", "_law_last"] vs) H) : FnOk P w K mg base CX0 2 f fd ["_law_cell", "_law_k"] (sp_law_field K) := by
  refine F.ok sc_law_field len (fun cdv A outer s H vs Q E hr h => ⟨_, tm_law_field G_law_mixed B_min hr, rd vs H Q E h⟩)
theorem sc_law_power : FnScope ["_law_many", "_law_found", "_law_k"] ["_law_many"] (defScope s_law_power) := ⟨rfl, rfl, rfl, by decide +kernel, rfl, by decide +kernel, by decide +kernel⟩
theorem tm_law_power (B_range : Gb mg "range") {cdv : Value} {A : Around} {outer : List Env} {s : Shared} {H : Hp} {E : XK} {f : Addr} (hr : Room 0 (A.deeper (envOfC "_law_power" (defScope s_law_power) s.heap.objs.size f cdv))) :
    (PSs (cxOf CX0 P w K mg base ["_law_many", "_law_found", "_law_k"] "_law_power" (defScope s_law_power) f cdv A outer s H E).nox (defBody s_law_power) (t_law_power K)) := 
  (pss_cons (ps_set (i := 1) sc_law_power.nd rfl (by first | exact Or.inl rfl | exact Or.inr rfl) pe_int) (pss_cons (ps_for PassesOwn.never rfl (pi_rngM1 B_range (pa_cons (pe_mvar 0) pa_nil)) (pg_name (i := 2) sc_law_power.nd rfl (by first | exact Or.inl rfl | exact Or.inr rfl)) (pss_one (ps_set (i := 1) sc_law_power.nd rfl (by first | exact Or.inl rfl | exact Or.inr rfl) (pe_op op_mulM pe_int (pe_mvar 1))))) (pss_one (ps_ret (pe_mvar 1)))))
theorem ok_law_power (B_range : Gb mg "range") {f : Addr} {fd : FuncData} (F : Fun K "_law_power" "_law_power" s_law_power f fd) (len : ∀ vs H Q E, sp_law_power K vs H Q E → vs.length = 1)
    (rd : ∀ vs H Q E, sp_law_power K vs H Q E → t_law_power K { nx := fun _ H' => Q .non H', rt := Q } (start ["_law_many", "_law_found", "_law_k"] vs) H) : FnOk P w K mg base CX0 1 f fd ["_law_many"] (sp_law_power K) := by
  refine F.ok sc_law_power len (fun cdv A outer s H vs Q E hr h => ⟨_, tm_law_power B_range hr, rd vs H Q E h⟩)
theorem sc_law_value : FnScope ["_law_cell", "_law_number", "_law_width", "_law_kind", "_law_value_here"] ["_law_cell", "_law_number", "_law_width"] (defScope s_law_value) := ⟨rfl, rfl, rfl, by decide +kernel, rfl, by decide +kernel, by decide +kernel⟩
theorem tm_law_value (G_law_power : Gd P w K mg base CX0 1 "_law_power" ["_law_many"] (sp_law_power K)) {cdv : Value} {A : Around} {outer : List Env} {s : Shared} {H : Hp} {E : XK} {f : Addr} (hr : Room 1 (A.deeper (envOfC "_law_value" (defScope s_law_value) s.heap.objs.size f cdv))) :
    (PSs (cxOf CX0 P w K mg base ["_law_cell", "_law_number", "_law_width", "_law_kind", "_law_value_here"] "_law_value" (defScope s_law_value) f cdv A outer s H E).nox (defBody s_law_value) (t_law_value K)) := 
  (pss_cons (ps_set (i := 3) sc_law_value.nd rfl (by first | exact Or.inl rfl | exact Or.inr rfl) (pe_op op_modM (pe_mvar 1) pe_int)) (pss_cons (ps_ifM (pt_cmpM (op_eqK hr.u60) (pe_mvar 3) pe_int) (pss_one (ps_ret (pe_op op_subM (pe_op op_modM (pe_mvar 0) (pe_op op_subM (pe_op op_mulM pe_int (pe_op op_powM pe_int pe_int)) pe_int)) (pe_op op_subM (pe_op op_powM pe_int pe_int) pe_int)))) pss_nil) (pss_cons (ps_ifM (pt_cmpM (op_eqK hr.u60) (pe_mvar 3) pe_int) (pss_one (ps_ret (pe_op op_mulM (pe_op op_subM (pe_op op_mulM (pe_op op_modM (pe_op op_divM (pe_mvar 1) pe_int) pe_int) pe_int) pe_int) (pe_op op_addM (pe_op op_mulM (pe_op op_modM (pe_mvar 0) (pe_op op_powM pe_int pe_int)) pe_int) (pe_mvar 1))))) pss_nil) (pss_cons (ps_ifM (pt_cmpM (op_eqK hr.u60) (pe_mvar 3) pe_int) (pss_one (ps_ret (pe_op op_subM (pe_op op_modM (pe_op op_divM (pe_mvar 1) pe_int) pe_int) pe_int))) pss_nil) (pss_cons (ps_set (i := 4) sc_law_value.nd rfl (by first | exact Or.inl rfl | exact Or.inr rfl) (pe_op op_subM (pe_op op_addM (pe_callG G_law_power (hr.mono (j := 1) (by decide)) (pa_cons (pe_op op_addM (pe_mvar 2) (pe_op op_modM (pe_op op_divM (pe_mvar 1) pe_int) pe_int)) pa_nil)) (pe_op op_modM (pe_op op_divM (pe_mvar 1) pe_int) pe_int)) pe_int)) (pss_cons (ps_ifM (pt_cmpM (op_eqK hr.u60) (pe_mvar 3) pe_int) (pss_one (ps_ret (pe_mvar 4))) pss_nil) (pss_one (ps_ret (pe_op op_subM pe_int (pe_mvar 4))))))))))
theorem ok_law_value (G_law_power : Gd P w K mg base CX0 1 "_law_power" ["_law_many"] (sp_law_power K)) {f : Addr} {fd : FuncData} (F : Fun K "_law_value" "_law_value" s_law_value f fd) (len : ∀ vs H Q E, sp_law_value K vs H Q E → vs.length = 3)
    (rd : ∀ vs H Q E, sp_law_value K vs H Q E → t_law_value K { nx := fun _ H' => Q .non H', rt := Q } (start ["_law_cell", "_law_number", "_law_width", "_law_kind", "_law_value_here"] vs) H) : FnOk P w K mg base CX0 2 f fd ["_law_cell", "_law_number", "_law_width"] (sp_law_value K) := by
  refine F.ok sc_law_value len (fun cdv A outer s H vs Q E hr h => ⟨_, tm_law_value G_law_power hr, rd vs H Q E h⟩)
theorem sc_law_due : FnScope ["_law_card_here", "_law_field_here", "_law_value_here", "_law_signs", "_law_rest", "_law_column"] ["_law_card_here", "_law_field_here", "_law_value_here"] (defScope s_law_due) := ⟨rfl, rfl, rfl, by decide +kernel, rfl, by decide +kernel, by decide +kernel⟩
theorem tm_law_due (G_law_power : Gd P w K mg base CX0 1 "_law_power" ["_law_many"] (sp_law_power K)) (B_range : Gb mg "range") {cdv : Value} {A : Around} {outer : List Env} {s : Shared} {H : Hp} {E : XK} {f : Addr} (hr : Room 1 (A.deeper (envOfC "_law_due" (defScope s_law_due) s.heap.objs.size f cdv))) :
    (PSs (cxOf CX0 P w K mg base ["_law_card_here", "_law_field_here", "_law_value_here", "_law_signs", "_law_rest", "_law_column"] "_law_due" (defScope s_law_due) f cdv A outer s H E).nox (defBody s_law_due) (t_law_due K)) := 
  (pss_cons (ps_setcomp (cl := []) (lv := ["_law_sign"]) (fr := []) rfl ⟨rfl, by decide +kernel, rfl, by decide +kernel, (by intro q hq; cases hq)⟩ (pi_any (pe_mvar 0)) (fun _ _ _ _ => (pg_name (i := 0) (show List.Nodup (["_law_sign"] : List Str) from by decide +kernel) rfl (Or.inl rfl))) (fun _ _ _ _ => pif_nil) (fun _ _ _ _ => (pe_mvar 0)) (pg_name (i := 3) sc_law_due.nd rfl (by first | exact Or.inl rfl | exact Or.inr rfl))) (pss_cons (ps_set (i := 4) sc_law_due.nd rfl (by first | exact Or.inl rfl | exact Or.inr rfl) (pe_op op_modM (pe_mvar 2) (pe_callG G_law_power (hr.mono (j := 1) (by decide)) (pa_cons (pe_op op_addM (pe_op op_subM (pe_ix ix_M (pe_mvar 1) pe_int (fun _ _ => rfl)) (pe_ix ix_M (pe_mvar 1) pe_int (fun _ _ => rfl))) pe_int) pa_nil)))) (pss_cons (ps_for PassesOwn.never rfl (pi_rngM3 B_range (pa_cons (pe_ix ix_M (pe_mvar 1) pe_int (fun _ _ => rfl)) (pa_cons (pe_op op_subM (pe_ix ix_M (pe_mvar 1) pe_int (fun _ _ => rfl)) pe_int) (pa_cons (pe_neg pe_int) pa_nil)))) (pg_name (i := 5) sc_law_due.nd rfl (by first | exact Or.inl rfl | exact Or.inr rfl)) (pss_cons (ps_asg (pe_ix ix_M (pe_txt (l := [48, 49, 50, 51, 52, 53, 54, 55, 56, 57])) (pe_op op_modM (pe_mvar 4) pe_int) (fun _ _ => rfl)) (pg_sub (pe_mvar 3) (pe_op op_subM (pe_mvar 5) pe_int) set_M)) (pss_one (ps_set (i := 4) sc_law_due.nd rfl (by first | exact Or.inl rfl | exact Or.inr rfl) (pe_op op_divM (pe_mvar 4) pe_int))))) (pss_one (ps_ret (pe_sm PySem.F.slot_str_join PySem.F.type_str_join mt_join (pe_txt (l := [])) (pa_cons (pe_mvar 3) pa_nil)))))))
theorem ok_law_due (G_law_power : Gd P w K mg base CX0 1 "_law_power" ["_law_many"] (sp_law_power K)) (B_range : Gb mg "range") {f : Addr} {fd : FuncData} (F : Fun K "_law_due" "_law_due" s_law_due f fd) (len : ∀ vs H Q E, sp_law_due K vs H Q E → vs.length = 3)
    (rd : ∀ vs H Q E, sp_law_due K vs H Q E → t_law_due K { nx := fun _ H' => Q .non H', rt := Q } (start ["_law_card_here", "_law_field_here", "_law_value_here", "_law_signs", "_law_rest", "_law_column"] vs) H) : FnOk P w K mg base CX0 2 f fd ["_law_card_here", "_law_field_here", "_law_value_here"] (sp_law_due K) := by
  refine F.ok sc_law_due len (fun cdv A outer s H vs Q E hr h => ⟨_, tm_law_due G_law_power B_range hr, rd vs H Q E h⟩)
theorem sc_width_of : FnScope ["field"] ["field"] (defScope s_width_of) := ⟨rfl, rfl, rfl, by decide +kernel, rfl, by decide +kernel, by decide +kernel⟩
theorem tm_width_of  {cdv : Value} {A : Around} {outer : List Env} {s : Shared} {H : Hp} {E : XK} {f : Addr} (hr : Room 0 (A.deeper (envOfC "width_of" (defScope s_width_of) s.heap.objs.size f cdv))) :
    (PSs (cxOf CX0 P w K mg base ["field"] "width_of" (defScope s_width_of) f cdv A outer s H E).nox (defBody s_width_of) (t_width_of K)) := 
  (pss_one (ps_ret (pe_op op_addM (pe_op op_subM (pe_ix ix_M (pe_mvar 0) pe_int (fun _ _ => rfl)) (pe_ix ix_M (pe_mvar 0) pe_int (fun _ _ => rfl))) pe_int)))
theorem ok_width_of  {f : Addr} {fd : FuncData} (F : Fun K "width_of" "width_of" s_width_of f fd) (len : ∀ vs H Q E, sp_width_of K vs H Q E → vs.length = 1)
    (rd : ∀ vs H Q E, sp_width_of K vs H Q E → t_width_of K { nx := fun _ H' => Q .non H', rt := Q } (start ["field"] vs) H) : FnOk P w K mg base CX0 1 f fd ["field"] (sp_width_of K) := by
  refine F.ok sc_width_of len (fun cdv A outer s H vs Q E hr h => ⟨_, tm_width_of  hr, rd vs H Q E h⟩)
theorem sc_ten_to : FnScope ["power", "value", "step"] ["power"] (defScope s_ten_to) := ⟨rfl, rfl, rfl, by decide +kernel, rfl, by decide +kernel, by decide +kernel⟩
theorem tm_ten_to (B_range : Gb mg "range") {cdv : Value} {A : Around} {outer : List Env} {s : Shared} {H : Hp} {E : XK} {f : Addr} (hr : Room 0 (A.deeper (envOfC "ten_to" (defScope s_ten_to) s.heap.objs.size f cdv))) :
    (PSs (cxOf CX0 P w K mg base ["power", "value", "step"] "ten_to" (defScope s_ten_to) f cdv A outer s H E).nox (defBody s_ten_to) (t_ten_to K)) := 
  (pss_cons (ps_set (i := 1) sc_ten_to.nd rfl (by first | exact Or.inl rfl | exact Or.inr rfl) pe_int) (pss_cons (ps_for PassesOwn.never rfl (pi_rngM1 B_range (pa_cons (pe_mvar 0) pa_nil)) (pg_name (i := 2) sc_ten_to.nd rfl (by first | exact Or.inl rfl | exact Or.inr rfl)) (pss_one (ps_set (i := 1) sc_ten_to.nd rfl (by first | exact Or.inl rfl | exact Or.inr rfl) (pe_op op_mulM (pe_mvar 1) pe_int)))) (pss_one (ps_ret (pe_mvar 1)))))
theorem ok_ten_to (B_range : Gb mg "range") {f : Addr} {fd : FuncData} (F : Fun K "ten_to" "ten_to" s_ten_to f fd) (len : ∀ vs H Q E, sp_ten_to K vs H Q E → vs.length = 1)
    (rd : ∀ vs H Q E, sp_ten_to K vs H Q E → t_ten_to K { nx := fun _ H' => Q .non H', rt := Q } (start ["power", "value", "step"] vs) H) : FnOk P w K mg base CX0 1 f fd ["power"] (sp_ten_to K) := by
  refine F.ok sc_ten_to len (fun cdv A outer s H vs Q E hr h => ⟨_, tm_ten_to B_range hr, rd vs H Q E h⟩)
theorem sc_punch_in : FnScope ["card", "field", "value", "width", "punched"] ["card", "field", "value"] (defScope s_punch_in) := ⟨rfl, rfl, rfl, by decide +kernel, rfl, by decide +kernel, by decide +kernel⟩
theorem tm_punch_in (G_width_of : Gd P w K mg base CX0 1 "width_of" ["field"] (sp_width_of K)) (G_ten_to : Gd P w K mg base CX0 1 "ten_to" ["power"] (sp_ten_to K)) (B_str : Gb mg "str") {cdv : Value} {A : Around} {outer : List Env} {s : Shared} {H : Hp} {E : XK} {f : Addr} (hr : Room 1 (A.deeper (envOfC "punch_in" (defScope s_punch_in) s.heap.objs.size f cdv))) :
    (PSs (cxOf CX0 P w K mg base ["card", "field", "value", "width", "punched"] "punch_in" (defScope s_punch_in) f cdv A outer s H E).nox (defBody s_punch_in) (t_punch_in K)) := 
  (pss_cons (ps_set (i := 3) sc_punch_in.nd rfl (by first | exact Or.inl rfl | exact Or.inr rfl) (pe_callG G_width_of (hr.mono (j := 1) (by decide)) (pa_cons (pe_mvar 1) pa_nil))) (pss_cons (ps_set (i := 4) sc_punch_in.nd rfl (by first | exact Or.inl rfl | exact Or.inr rfl) (pe_sm PySem.F.slot_str_zfill PySem.F.type_str_zfill mt_zfill (pe_tf "str" call_strM B_str (pa_cons (pe_op op_modM (pe_mvar 2) (pe_callG G_ten_to (hr.mono (j := 1) (by decide)) (pa_cons (pe_mvar 3) pa_nil))) pa_nil)) (pa_cons (pe_mvar 3) pa_nil))) (pss_one (ps_ret (pe_op op_addM (pe_op op_addM (pe_slice sl_M (pe_mvar 0) po_none (po_M (pe_op op_subM (pe_ix ix_M (pe_mvar 1) pe_int (fun _ _ => rfl)) pe_int))) (pe_mvar 4)) (pe_slice sl_M (pe_mvar 0) (po_M (pe_ix ix_M (pe_mvar 1) pe_int (fun _ _ => rfl))) po_none))))))
theorem ok_punch_in (G_width_of : Gd P w K mg base CX0 1 "width_of" ["field"] (sp_width_of K)) (G_ten_to : Gd P w K mg base CX0 1 "ten_to" ["power"] (sp_ten_to K)) (B_str : Gb mg "str") {f : Addr} {fd : FuncData} (F : Fun K "punch_in" "punch_in" s_punch_in f fd) (len : ∀ vs H Q E, sp_punch_in K vs H Q E → vs.length = 3)
    (rd : ∀ vs H Q E, sp_punch_in K vs H Q E → t_punch_in K { nx := fun _ H' => Q .non H', rt := Q } (start ["card", "field", "value", "width", "punched"] vs) H) : FnOk P w K mg base CX0 2 f fd ["card", "field", "value"] (sp_punch_in K) := by
  refine F.ok sc_punch_in len (fun cdv A outer s H vs Q E hr h => ⟨_, tm_punch_in G_width_of G_ten_to B_str hr, rd vs H Q E h⟩)
theorem sc_number_by : FnScope ["figures", "value", "figure"] ["figures"] (defScope s_number_by) := ⟨rfl, rfl, rfl, by decide +kernel, rfl, by decide +kernel, by decide +kernel⟩
theorem tm_number_by (C_FIGURES : Gc mg "FIGURES" (tx [48, 49, 50, 51, 52, 53, 54, 55, 56, 57])) {cdv : Value} {A : Around} {outer : List Env} {s : Shared} {H : Hp} {E : XK} {f : Addr} (hr : Room 0 (A.deeper (envOfC "number_by" (defScope s_number_by) s.heap.objs.size f cdv))) :
    (PSs (cxOf CX0 P w K mg base ["figures", "value", "figure"] "number_by" (defScope s_number_by) f cdv A outer s H E).nox (defBody s_number_by) (t_number_by K)) := 
  (pss_cons (ps_set (i := 1) sc_number_by.nd rfl (by first | exact Or.inl rfl | exact Or.inr rfl) pe_int) (pss_cons (ps_for PassesOwn.never rfl (pi_any (pe_mvar 0)) (pg_name (i := 2) sc_number_by.nd rfl (by first | exact Or.inl rfl | exact Or.inr rfl)) (pss_one (ps_set (i := 1) sc_number_by.nd rfl (by first | exact Or.inl rfl | exact Or.inr rfl) (pe_op op_addM (pe_op op_mulM (pe_mvar 1) pe_int) (pe_sm PySem.F.slot_str_index PySem.F.type_str_index mt_index (pe_gc C_FIGURES) (pa_cons (pe_mvar 2) pa_nil)))))) (pss_one (ps_ret (pe_mvar 1)))))
theorem ok_number_by (C_FIGURES : Gc mg "FIGURES" (tx [48, 49, 50, 51, 52, 53, 54, 55, 56, 57])) {f : Addr} {fd : FuncData} (F : Fun K "number_by" "number_by" s_number_by f fd) (len : ∀ vs H Q E, sp_number_by K vs H Q E → vs.length = 1)
    (rd : ∀ vs H Q E, sp_number_by K vs H Q E → t_number_by K { nx := fun _ H' => Q .non H', rt := Q } (start ["figures", "value", "figure"] vs) H) : FnOk P w K mg base CX0 1 f fd ["figures"] (sp_number_by K) := by
  refine F.ok sc_number_by len (fun cdv A outer s H vs Q E hr h => ⟨_, tm_number_by C_FIGURES hr, rd vs H Q E h⟩)
theorem sc_part_of : FnScope ["card", "field"] ["card", "field"] (defScope s_part_of) := ⟨rfl, rfl, rfl, by decide +kernel, rfl, by decide +kernel, by decide +kernel⟩
theorem tm_part_of  {cdv : Value} {A : Around} {outer : List Env} {s : Shared} {H : Hp} {E : XK} {f : Addr} (hr : Room 0 (A.deeper (envOfC "part_of" (defScope s_part_of) s.heap.objs.size f cdv))) :
    (PSs (cxOf CX0 P w K mg base ["card", "field"] "part_of" (defScope s_part_of) f cdv A outer s H E).nox (defBody s_part_of) (t_part_of K)) := 
  (pss_one (ps_ret (pe_slice sl_M (pe_mvar 0) (po_M (pe_op op_subM (pe_ix ix_M (pe_mvar 1) pe_int (fun _ _ => rfl)) pe_int)) (po_M (pe_ix ix_M (pe_mvar 1) pe_int (fun _ _ => rfl))))))
theorem ok_part_of  {f : Addr} {fd : FuncData} (F : Fun K "part_of" "part_of" s_part_of f fd) (len : ∀ vs H Q E, sp_part_of K vs H Q E → vs.length = 2)
    (rd : ∀ vs H Q E, sp_part_of K vs H Q E → t_part_of K { nx := fun _ H' => Q .non H', rt := Q } (start ["card", "field"] vs) H) : FnOk P w K mg base CX0 1 f fd ["card", "field"] (sp_part_of K) := by
  refine F.ok sc_part_of len (fun cdv A outer s H vs Q E hr h => ⟨_, tm_part_of  hr, rd vs H Q E h⟩)
theorem sc_number_of : FnScope ["card", "field", "figures"] ["card", "field"] (defScope s_number_of) := ⟨rfl, rfl, rfl, by decide +kernel, rfl, by decide +kernel, by decide +kernel⟩
theorem tm_number_of (G_part_of : Gd P w K mg base CX0 1 "part_of" ["card", "field"] (sp_part_of K)) (G_number_by : Gd P w K mg base CX0 1 "number_by" ["figures"] (sp_number_by K)) (C_FIGURES : Gc mg "FIGURES" (tx [48, 49, 50, 51, 52, 53, 54, 55, 56, 57])) {cdv : Value} {A : Around} {outer : List Env} {s : Shared} {H : Hp} {E : XK} {f : Addr} (hr : Room 1 (A.deeper (envOfC "number_of" (defScope s_number_of) s.heap.objs.size f cdv))) :
    (PSs (cxOf CX0 P w K mg base ["card", "field", "figures"] "number_of" (defScope s_number_of) f cdv A outer s H E).nox (defBody s_number_of) (t_number_of K)) := 
  (pss_cons (ps_setcomp (cl := []) (lv := ["sign"]) (fr := []) rfl ⟨rfl, by decide +kernel, rfl, by decide +kernel, (by intro q hq; cases hq)⟩ (pi_any (pe_callG G_part_of (hr.mono (j := 1) (by decide)) (pa_cons (pe_mvar 0) (pa_cons (pe_mvar 1) pa_nil)))) (fun _ _ _ _ => (pg_name (i := 0) (show List.Nodup (["sign"] : List Str) from by decide +kernel) rfl (Or.inl rfl))) (fun _ _ _ _ => pif_nil) (fun _ _ _ _ => (pe_ifM (pt_cmpM op_inM (pe_mvar 0) (pe_gc C_FIGURES)) (pe_mvar 0) (pe_txt (l := [48])))) (pg_name (i := 2) sc_number_of.nd rfl (by first | exact Or.inl rfl | exact Or.inr rfl))) (pss_one (ps_ret (pe_callG G_number_by (hr.mono (j := 1) (by decide)) (pa_cons (pe_sm PySem.F.slot_str_join PySem.F.type_str_join mt_join (pe_txt (l := [])) (pa_cons (pe_mvar 2) pa_nil)) pa_nil)))))
theorem ok_number_of (G_part_of : Gd P w K mg base CX0 1 "part_of" ["card", "field"] (sp_part_of K)) (G_number_by : Gd P w K mg base CX0 1 "number_by" ["figures"] (sp_number_by K)) (C_FIGURES : Gc mg "FIGURES" (tx [48, 49, 50, 51, 52, 53, 54, 55, 56, 57])) {f : Addr} {fd : FuncData} (F : Fun K "number_of" "number_of" s_number_of f fd) (len : ∀ vs H Q E, sp_number_of K vs H Q E → vs.length = 2)
    (rd : ∀ vs H Q E, sp_number_of K vs H Q E → t_number_of K { nx := fun _ H' => Q .non H', rt := Q } (start ["card", "field", "figures"] vs) H) : FnOk P w K mg base CX0 2 f fd ["card", "field"] (sp_number_of K) := by
  refine F.ok sc_number_of len (fun cdv A outer s H vs Q E hr h => ⟨_, tm_number_of G_part_of G_number_by C_FIGURES hr, rd vs H Q E h⟩)
theorem sc_law_whole : FnScope ["_law_found"] ["_law_found"] (defScope s_law_whole) := ⟨rfl, rfl, rfl, by decide +kernel, rfl, by decide +kernel, by decide +kernel⟩
theorem tm_law_whole (B_isinstance : Gb mg "isinstance") (B_int : Gb mg "int") (B_bool : Gb mg "bool") {cdv : Value} {A : Around} {outer : List Env} {s : Shared} {H : Hp} {E : XK} {f : Addr} (hr : Room 0 (A.deeper (envOfC "_law_whole" (defScope s_law_whole) s.heap.objs.size f cdv))) :
    (PSs (cxOf CX0 P w K mg base ["_law_found"] "_law_whole" (defScope s_law_whole) f cdv A outer s H E).nox (defBody s_law_whole) (t_law_whole K)) := 
  (pss_one (ps_ret (pe_andM (pe_bf call_isa B_isinstance (pa_cons (pe_mvar 0) (pa_cons (pe_ty "int" B_int) pa_nil))) (pe_one (pe_notM (pe_bf call_isa B_isinstance (pa_cons (pe_mvar 0) (pa_cons (pe_ty "bool" B_bool) pa_nil))))))))
theorem ok_law_whole (B_isinstance : Gb mg "isinstance") (B_int : Gb mg "int") (B_bool : Gb mg "bool") {f : Addr} {fd : FuncData} (F : Fun K "_law_whole" "_law_whole" s_law_whole f fd) (len : ∀ vs H Q E, sp_law_whole K vs H Q E → vs.length = 1)
    (rd : ∀ vs H Q E, sp_law_whole K vs H Q E → t_law_whole K { nx := fun _ H' => Q .non H', rt := Q } (start ["_law_found"] vs) H) : FnOk P w K mg base CX0 1 f fd ["_law_found"] (sp_law_whole K) := by
  refine F.ok sc_law_whole len (fun cdv A outer s H vs Q E hr h => ⟨_, tm_law_whole B_isinstance B_int B_bool hr, rd vs H Q E h⟩)
theorem sc_law : FnScope ["_law_script", "_law_card_here", "_law_k", "_law_cell", "_law_field_here", "_law_width", "_law_value_here", "_law_due_here", "_law_found", "_law_number"] ["_law_script"] (defScope s_law) := ⟨rfl, rfl, rfl, by decide +kernel, rfl, by decide +kernel, by decide +kernel⟩
theorem tm_law (G_law_card : Gd P w K mg base CX0 2 "_law_card" ["_law_script"] (sp_law_card K)) (G_law_field : Gd P w K mg base CX0 2 "_law_field" ["_law_cell", "_law_k"] (sp_law_field K)) (G_law_value : Gd P w K mg base CX0 2 "_law_value" ["_law_cell", "_law_number", "_law_width"] (sp_law_value K)) (G_law_mixed : Gd P w K mg base CX0 1 "_law_mixed" ["_law_cell", "_law_k"] (sp_law_mixed K)) (G_law_due : Gd P w K mg base CX0 2 "_law_due" ["_law_card_here", "_law_field_here", "_law_value_here"] (sp_law_due K)) (G_punch_in : Gd P w K mg base CX0 2 "punch_in" ["card", "field", "value"] (sp_punch_in K)) (G_number_of : Gd P w K mg base CX0 2 "number_of" ["card", "field"] (sp_number_of K)) (G_law_whole : Gd P w K mg base CX0 1 "_law_whole" ["_law_found"] (sp_law_whole K)) (G_law_power : Gd P w K mg base CX0 1 "_law_power" ["_law_many"] (sp_law_power K)) (B_enumerate : Gb mg "enumerate") (B_isinstance : Gb mg "isinstance") (B_str : Gb mg "str") {cdv : Value} {A : Around} {outer : List Env} {s : Shared} {H : Hp} {E : XK} {f : Addr} (hr : Room 2 (A.deeper (envOfC "law" (defScope s_law) s.heap.objs.size f cdv))) :
    (PSs (cxOf CX0 P w K mg base ["_law_script", "_law_card_here", "_law_k", "_law_cell", "_law_field_here", "_law_width", "_law_value_here", "_law_due_here", "_law_found", "_law_number"] "law" (defScope s_law) f cdv A outer s H E).nox (defBody s_law) (t_law K)) := 
  (pss_cons (ps_set (i := 1) sc_law.nd rfl (by first | exact Or.inl rfl | exact Or.inr rfl) (pe_callG G_law_card (hr.mono (j := 2) (by decide)) (pa_cons (pe_mvar 0) pa_nil))) (pss_cons (ps_for PassesOwn.never rfl (pi_enum B_enumerate (pa_cons (pe_op op_addM (pe_lst (pa_cons pe_int pa_nil)) (pe_slice sl_M (pe_mvar 0) po_none (po_M pe_int))) pa_nil)) (pg_tupM (n := 2) rfl (pgs_consM (pg_name (i := 2) sc_law.nd rfl (by first | exact Or.inl rfl | exact Or.inr rfl)) (pgs_consM (pg_name (i := 3) sc_law.nd rfl (by first | exact Or.inl rfl | exact Or.inr rfl)) pgs_nilM))) (pss_cons (ps_set (i := 4) sc_law.nd rfl (by first | exact Or.inl rfl | exact Or.inr rfl) (pe_callG G_law_field (hr.mono (j := 2) (by decide)) (pa_cons (pe_mvar 3) (pa_cons (pe_mvar 2) pa_nil)))) (pss_cons (ps_set (i := 5) sc_law.nd rfl (by first | exact Or.inl rfl | exact Or.inr rfl) (pe_op op_addM (pe_op op_subM (pe_ix ix_M (pe_mvar 4) pe_int (fun _ _ => rfl)) (pe_ix ix_M (pe_mvar 4) pe_int (fun _ _ => rfl))) pe_int)) (pss_cons (ps_set (i := 6) sc_law.nd rfl (by first | exact Or.inl rfl | exact Or.inr rfl) (pe_callG G_law_value (hr.mono (j := 2) (by decide)) (pa_cons (pe_mvar 3) (pa_cons (pe_callG G_law_mixed (hr.mono (j := 1) (by decide)) (pa_cons (pe_mvar 3) (pa_cons (pe_op op_addM pe_int (pe_op op_mulM pe_int (pe_mvar 2))) pa_nil))) (pa_cons (pe_mvar 5) pa_nil))))) (pss_cons (ps_set (i := 7) sc_law.nd rfl (by first | exact Or.inl rfl | exact Or.inr rfl) (pe_callG G_law_due (hr.mono (j := 2) (by decide)) (pa_cons (pe_mvar 1) (pa_cons (pe_mvar 4) (pa_cons (pe_mvar 6) pa_nil))))) (pss_cons (ps_set (i := 8) sc_law.nd rfl (by first | exact Or.inl rfl | exact Or.inr rfl) (pe_callG G_punch_in (hr.mono (j := 2) (by decide)) (pa_cons (pe_mvar 1) (pa_cons (pe_mvar 4) (pa_cons (pe_mvar 6) pa_nil))))) (pss_cons (ps_ifM (PW.pt (pw_orM (pt_not (pt_valM (pe_bf call_isa B_isinstance (pa_cons (pe_mvar 8) (pa_cons (pe_ty "str" B_str) pa_nil))))) (pw_or1 (pt_cmpM (op_neK hr.u60) (pe_mvar 8) (pe_mvar 7))))) (pss_one (ps_ret pe_bl)) pss_nil) (pss_cons (ps_set (i := 9) sc_law.nd rfl (by first | exact Or.inl rfl | exact Or.inr rfl) (pe_callG G_number_of (hr.mono (j := 2) (by decide)) (pa_cons (pe_mvar 8) (pa_cons (pe_mvar 4) pa_nil)))) (pss_cons (ps_ifM (PW.pt (pw_orM (pt_not (pt_valM (pe_callG G_law_whole (hr.mono (j := 1) (by decide)) (pa_cons (pe_mvar 9) pa_nil)))) (pw_orM (pt_cmpM (op_neK hr.u60) (pe_mvar 9) (pe_op op_modM (pe_mvar 6) (pe_callG G_law_power (hr.mono (j := 1) (by decide)) (pa_cons (pe_mvar 5) pa_nil)))) (pw_or1 (pt_cmpM (op_neK hr.u60) (pe_callG G_punch_in (hr.mono (j := 2) (by decide)) (pa_cons (pe_mvar 8) (pa_cons (pe_mvar 4) (pa_cons (pe_mvar 6) pa_nil)))) (pe_mvar 7)))))) (pss_one (ps_ret pe_bl)) pss_nil) (pss_one (ps_set (i := 1) sc_law.nd rfl (by first | exact Or.inl rfl | exact Or.inr rfl) (pe_mvar 7)))))))))))) (pss_one (ps_ret pe_bl))))
theorem ok_law (G_law_card : Gd P w K mg base CX0 2 "_law_card" ["_law_script"] (sp_law_card K)) (G_law_field : Gd P w K mg base CX0 2 "_law_field" ["_law_cell", "_law_k"] (sp_law_field K)) (G_law_value : Gd P w K mg base CX0 2 "_law_value" ["_law_cell", "_law_number", "_law_width"] (sp_law_value K)) (G_law_mixed : Gd P w K mg base CX0 1 "_law_mixed" ["_law_cell", "_law_k"] (sp_law_mixed K)) (G_law_due : Gd P w K mg base CX0 2 "_law_due" ["_law_card_here", "_law_field_here", "_law_value_here"] (sp_law_due K)) (G_punch_in : Gd P w K mg base CX0 2 "punch_in" ["card", "field", "value"] (sp_punch_in K)) (G_number_of : Gd P w K mg base CX0 2 "number_of" ["card", "field"] (sp_number_of K)) (G_law_whole : Gd P w K mg base CX0 1 "_law_whole" ["_law_found"] (sp_law_whole K)) (G_law_power : Gd P w K mg base CX0 1 "_law_power" ["_law_many"] (sp_law_power K)) (B_enumerate : Gb mg "enumerate") (B_isinstance : Gb mg "isinstance") (B_str : Gb mg "str") {f : Addr} {fd : FuncData} (F : Fun K "law" "law" s_law f fd) (len : ∀ vs H Q E, sp_law K vs H Q E → vs.length = 1)
    (rd : ∀ vs H Q E, sp_law K vs H Q E → t_law K { nx := fun _ H' => Q .non H', rt := Q } (start ["_law_script", "_law_card_here", "_law_k", "_law_cell", "_law_field_here", "_law_width", "_law_value_here", "_law_due_here", "_law_found", "_law_number"] vs) H) : FnOk P w K mg base CX0 3 f fd ["_law_script"] (sp_law K) := by
  refine F.ok sc_law len (fun cdv A outer s H vs Q E hr h => ⟨_, tm_law G_law_card G_law_field G_law_value G_law_mixed G_law_due G_punch_in G_number_of G_law_whole G_law_power B_enumerate B_isinstance B_str hr, rd vs H Q E h⟩)
end
end K05
namespace K05
open PySem PySem.Spec PyProof.Rows L2
theorem rd_law_mixed {K : PySem.W.Frag} : RD_law_mixed K := by
  intro vs H Q E h
  unfold sp_law_mixed at h
  split at h
  · rename_i c k
    obtain ⟨⟨h0, h1⟩, q⟩ := h
    walk_at "n"; walk_at "n"; walk_at "n"; walk_at "n"; walk_at "n"; walk_at "n"
    exact q
  · exact h.elim
theorem rd_part_of {K : PySem.W.Frag} : RD_part_of K := by
  intro vs H Q E h
  unfold sp_part_of at h
  split at h
  · rename_i z p
    obtain ⟨a, b, hT, ⟨h1, h2, h3⟩, h40, q⟩ := h
    walk_at "w"
    refine ⟨_, .inr hT, ?_⟩
    walk_at "w"
    refine ⟨_, .inr hT, ?_⟩
    walk_at "w"
    refine ⟨small_n (by omega), ?_⟩
    rw [cutL_in (by omega) (by omega) (by omega)]
    have e : b - (a - 1) = b - a + 1 := by omega
    rw [e]
    exact q
  · exact h.elim
theorem rd_number_by {K : PySem.W.Frag} : RD_number_by K := by
  intro vs H Q E h
  unfold sp_number_by at h
  split at h
  · rename_i z
    obtain ⟨hc, q⟩ := h
    walk_at "w"
    refine for_pure (fun i σ H' => H' = H ∧ ∃ x, σ = [some (.str z), some (.int (numL (z.cps.toList.take i))), x]) ⟨rfl, none, rfl⟩ ?_ ?_
    · rintro i σ H1 hi ⟨rfl, x, rfl⟩
      have hm : z.cps.toList.getD i 0 ∈ z.cps.toList := by
        rw [List.getD_eq_getElem?_getD, List.getElem?_eq_getElem hi]; exact List.getElem_mem hi
      have hd := digit_find (hc _ hm)
      have hb := hc _ hm
      walk_at "n"
      walk_at "w"
      refine ⟨rfl, ?_⟩
      walk_at "w"
      refine ⟨?_, ?_⟩
      · show findS _ [z.cps.toList.getD i 0] ≠ -1
        rw [hd]; omega
      walk_at "w"
      refine ⟨rfl, some (tx [z.cps.toList.getD i 0]), ?_⟩
      rw [take_snoc hi, numL_snoc, ← hd]
      rfl
    · rintro σ H1 ⟨rfl, x, rfl⟩
      rw [List.take_length]
      exact q
  · exact h.elim
theorem rd_law_whole {K : PySem.W.Frag} : RD_law_whole K := by
  intro vs H Q E h
  unfold sp_law_whole at h
  split at h
  · walk_at "w"
    refine ⟨fun _ => ?_, fun c => absurd c (by decide)⟩
    walk_at "w"
    exact h
  · exact h.elim
theorem rd_number_of {K : PySem.W.Frag} : RD_number_of K := by
  intro vs H Q E h
  unfold sp_number_of at h
  split at h
  · rename_i z p
    obtain ⟨a, b, hT, hab, h40, q⟩ := h
    generalize hl : (z.cps.toList.drop (a - 1).toNat).take (b - a + 1).toNat = l at q
    have hll : l.length ≤ 40 := by rw [← hl, List.length_take, List.length_drop]; omega
    walk_at "w"
    refine ⟨a, b, hT, hab, h40, ?_⟩
    rw [hl]
    refine comp_map (fun i => tx [fig (l.getD i 0)]) (fun σ => ∃ x, σ = [x]) ⟨none, rfl⟩ (small_n (n := l.length) (by omega)) ?_ ?_
    · rintro i σ H1 k hi ⟨x, rfl⟩ hk
      walk_at "w"
      refine ⟨fun c => ?_, fun c => ?_⟩
      · have e : fig (l.getD i 0) = l.getD i 0 := by
          have c' : inS [l.getD i 0] [48, 49, 50, 51, 52, 53, 54, 55, 56, 57] = true := c
          rw [in_digits] at c'
          unfold fig
          rw [if_pos (of_decide_eq_true c')]
        have q2 := hk [some (tx [l.getD i 0])] ⟨_, rfl⟩
        rw [e] at q2
        exact q2
      · have e : fig (l.getD i 0) = 48 := by
          have c' : inS [l.getD i 0] [48, 49, 50, 51, 52, 53, 54, 55, 56, 57] = false := c
          rw [in_digits] at c'
          unfold fig
          rw [if_neg (of_decide_eq_false c')]
        have q2 := hk [some (tx [l.getD i 0])] ⟨_, rfl⟩
        rw [e] at q2
        exact q2
    · intro D hD
      walk_at "w"
      refine ⟨rfl, ?_⟩
      walk_at "w"
      refine ⟨_, SqL.of upd_same, ?_⟩
      have e : strsOf ((List.range l.toArray.toList.length).map fun i => tx [fig (l.getD i 0)]) = some ((List.range l.length).map fun i => (⟨#[fig (l.getD i 0)]⟩ : Str)) := by
        have := strsOf_of ((List.range l.length).map fun i => (⟨#[fig (l.getD i 0)]⟩ : Str))
        rw [List.map_map] at this
        exact this
      rw [e]
      refine ⟨joinOk_small (by rw [List.length_map, List.length_range]; show l.length * (0 + 1) ≤ 100000; omega) (fun z hz => ?_), ?_⟩
      · obtain ⟨i, _, rfl⟩ := List.mem_map.mp hz
        exact Nat.le_refl 1
      have e2 : joinS [] ((List.range l.length).map fun i => (⟨#[fig (l.getD i 0)]⟩ : Str)) = l.map fig := by
        rw [L2.join_nil, flatten_ones]
      walk_at "w"
      refine ⟨?_, ?_⟩
      · intro c hc
        have hc' : c ∈ joinS [] ((List.range l.length).map fun i => (⟨#[fig (l.getD i 0)]⟩ : Str)) := hc
        rw [e2] at hc'
        obtain ⟨d, _, rfl⟩ := List.mem_map.mp hc'
        exact fig_digit d
      · have q2 := q _ (same_new hD (.lst ((List.range l.length).map fun i => tx [fig (l.getD i 0)])))
        rw [← e2] at q2
        exact q2
  · exact h.elim
theorem rd_law_card {K : PySem.W.Frag} : RD_law_card K := by
  intro vs H Q E h
  unfold sp_law_card at h
  split at h
  · rename_i a
    obtain ⟨ns, hS, hl, q⟩ := h
    walk_at "n"; walk_at "n"
    refine for_range (n := 40) (fun i σ H' => H' = H ∧ ∃ (l : List Nat) (x2 x3 : Option V), σ = [some (.ref a), some (tx l), x2, x3] ∧ l.length = i) ⟨rfl, [], none, none, rfl, rfl⟩ ?_ ?_
    · rintro i σ H1 hi ⟨rfl, l, x2, x3, rfl, hli⟩
      refine seq_cut (fun σ' H' => H' = H1 ∧ σ' = [some (.ref a), some (tx l), some (.int (0 + i)), some (.int 0)]) (fun nx hnx => hnx _ _ ⟨rfl, rfl⟩) ?_
      rintro σ' H2 ⟨rfl, rfl⟩
      refine seq_cut (fun σ' H' => H' = H2 ∧ ∃ c : Int, σ' = [some (.ref a), some (tx l), some (.int (0 + i)), some (.int c)]) (fun nx hnx => ?_) ?_
      · walk_at "w"
        refine ⟨_, .inl hS, ?_⟩
        walk_at "w"
        refine ⟨fun c => ?_, fun c => hnx _ _ ⟨rfl, 0, rfl⟩⟩
        have c' := of_decide_eq_true c
        rw [List.length_map] at c'
        walk_at "w"
        refine ⟨_, .inl hS, ?_⟩
        rw [List.length_map]
        walk_at "n"
        have hm : 0 ≤ (0 + (i : Int)) % (ns.length : Int) ∧ (0 + (i : Int)) % (ns.length : Int) < ns.length := ⟨Int.emod_nonneg _ (by omega), Int.emod_lt_of_pos _ c'⟩
        obtain ⟨x, _, e⟩ := atI_map_lt (f := V.int) hm.1 hm.2
        walk_at "w"
        refine ⟨_, .inl hS, ?_⟩
        rw [e]
        exact hnx _ _ ⟨rfl, x, rfl⟩
      · rintro σ' H3 ⟨rfl, c, rfl⟩
        have hlen : l.length + 1 ≤ sizeLine := small_n (by omega)
        walk_at "n"
        obtain ⟨m0, m1⟩ := mixed_nn c (0 + i)
        generalize mixed c (0 + i) = m at m0 m1
        have hd : 0 ≤ m / 5 % 37 ∧ m / 5 % 37 < 37 := ⟨Int.emod_nonneg _ (by omega), Int.emod_lt_of_pos _ (by omega)⟩
        walk_at "n"; walk_at "n"
        obtain ⟨x, _, e⟩ := atI_lt (xs := SG) hd.1 hd.2
        walk_at "w"
        refine ⟨by decide, ?_⟩
        rw [e]
        walk_at "w"
        exact ⟨hlen, rfl, _, _, _, rfl, by rw [List.length_append, hli]; rfl⟩
    · rintro σ H1 ⟨rfl, l, x2, x3, rfl, hli⟩
      exact q l hli
  · exact h.elim
theorem rd_law_field {K : PySem.W.Frag} : RD_law_field K := by
  intro vs H Q E h
  unfold sp_law_field at h
  split at h
  · rename_i c k
    obtain ⟨⟨h0, h1⟩, q⟩ := h
    refine seq_cut (fun σ' H' => H' = H ∧ ∃ m : Int, (0 ≤ m ∧ m < 2147483647) ∧ σ' = [some (.int c), some (.int k), some (.int m), none, none]) (fun nx hnx => ?_) ?_
    · walk_at "w"
      exact ⟨by omega, hnx _ _ ⟨rfl, _, mixed_nn c (40 + k), rfl⟩⟩
    rintro σ' H1 ⟨rfl, m, ⟨m0, m1⟩, rfl⟩
    refine seq_cut (fun σ' H' => H' = H1 ∧ ∃ f : Int, (1 ≤ f ∧ f ≤ 36) ∧ σ' = [some (.int c), some (.int k), some (.int m), some (.int f), none]) (fun nx hnx => ?_) ?_
    · walk_at "n"; walk_at "n"
      exact hnx _ _ ⟨rfl, _, ⟨by omega, by omega⟩, rfl⟩
    rintro σ' H2 ⟨rfl, f, ⟨f0, f1⟩, rfl⟩
    refine seq_cut (fun σ' H' => H' = H2 ∧ σ' = [some (.int c), some (.int k), some (.int m), some (.int f), none]) (fun nx hnx => ?_) ?_
    · walk_at "n"; walk_at "w"
      refine ⟨fun _ => ?_, fun _ => hnx _ _ ⟨rfl, rfl⟩⟩
      walk_at "w"
      exact ⟨two_small, fun p hp => q p _ f f (same_new hp _) upd_same f0 (Int.le_refl _) f1⟩
    rintro σ' H3 ⟨rfl, rfl⟩
    refine seq_cut (fun σ' H' => H' = H3 ∧ ∃ e : Int, (f ≤ e ∧ e ≤ 36) ∧ σ' = [some (.int c), some (.int k), some (.int m), some (.int f), some (.int e)]) (fun nx hnx => ?_) ?_
    · walk_at "n"; walk_at "n"
      exact hnx _ _ ⟨rfl, _, ⟨by omega, by omega⟩, rfl⟩
    rintro σ' H4 ⟨rfl, e, ⟨e0, e1⟩, rfl⟩
    refine seq_cut (fun σ' H' => H' = H4 ∧ ∃ e : Int, (f ≤ e ∧ e ≤ 36) ∧ σ' = [some (.int c), some (.int k), some (.int m), some (.int f), some (.int e)]) (fun nx hnx => ?_) ?_
    · walk_at "n"; walk_at "w"
      exact ⟨fun _ => hnx _ _ ⟨rfl, 36, ⟨f1, by omega⟩, rfl⟩, fun _ => hnx _ _ ⟨rfl, e, ⟨e0, e1⟩, rfl⟩⟩
    rintro σ' H5 ⟨rfl, e, ⟨e0, e1⟩, rfl⟩
    walk_at "w"
    exact ⟨two_small, fun p hp => q p _ f e (same_new hp _) upd_same f0 e0 e1⟩
  · exact h.elim
theorem pow_succ_int (i : Nat) : (10 : Int) * 10 ^ i = 10 ^ (i + 1) := by rw [Int.pow_succ, Int.mul_comm]
theorem rd_law_power {K : PySem.W.Frag} : RD_law_power K := by
  intro vs H Q E h
  unfold sp_law_power at h
  split at h
  · rename_i m
    obtain ⟨⟨h0, h1⟩, q⟩ := h
    walk_at "n"; walk_at "n"
    refine for_range (n := m.toNat) (fun i σ H' => H' = H ∧ ∃ x, σ = [some (.int m), some (.int (10 ^ i)), x]) ⟨rfl, none, rfl⟩ ?_ ?_
    · rintro i σ H1 hi ⟨rfl, x, rfl⟩
      walk_at "n"
      walk_at "w"
      refine ⟨rfl, some (.int (0 + i)), ?_⟩
      rw [← pow_succ_int]
      rfl
    · rintro σ H1 ⟨rfl, x, rfl⟩
      exact q
  · exact h.elim
theorem rd_ten_to {K : PySem.W.Frag} : RD_ten_to K := by
  intro vs H Q E h
  unfold sp_ten_to at h
  split at h
  · rename_i m
    obtain ⟨⟨h0, h1⟩, q⟩ := h
    walk_at "n"; walk_at "n"
    refine for_range (n := m.toNat) (fun i σ H' => H' = H ∧ ∃ x, σ = [some (.int m), some (.int (10 ^ i)), x]) ⟨rfl, none, rfl⟩ ?_ ?_
    · rintro i σ H1 hi ⟨rfl, x, rfl⟩
      walk_at "n"
      walk_at "w"
      refine ⟨rfl, some (.int (0 + i)), ?_⟩
      rw [Int.pow_succ]
      rfl
    · rintro σ H1 ⟨rfl, x, rfl⟩
      exact q
  · exact h.elim
theorem rd_law_value {K : PySem.W.Frag} : RD_law_value K := by
  intro vs H Q E h
  unfold sp_law_value at h
  split at h
  · rename_i c n w
    obtain ⟨⟨n0, n1, w0, w1⟩, q⟩ := h
    have pw : ∀ k : Nat, k ≤ 100 → CPow 10 (k : Int) := fun k hk => by unfold CPow; omega
    refine seq_cut (fun σ' H' => H' = H ∧ σ' = [some (.int c), some (.int n), some (.int w), some (.int (n % 5)), none]) (fun nx hnx => ?_) ?_
    · walk_at "n"
      exact hnx _ _ ⟨rfl, rfl⟩
    rintro σ' H1 ⟨rfl, rfl⟩
    refine seq_cut (fun σ' H' => H' = H1 ∧ σ' = [some (.int c), some (.int n), some (.int w), some (.int (n % 5)), none]) (fun nx hnx => ?_) ?_
    · walk_at "w"
      refine ⟨fun _ => ?_, fun _ => hnx _ _ ⟨rfl, rfl⟩⟩
      walk_at "w"
      refine ⟨pw 60 (by decide), ?_⟩
      walk_at "n"
      walk_at "w"
      refine ⟨(show (0 : Int) < 2 * 10 ^ 60 - 1 by decide), ?_⟩
      walk_at "w"
      exact ⟨pw 60 (by decide), q _⟩
    rintro σ' H2 ⟨rfl, rfl⟩
    refine seq_cut (fun σ' H' => H' = H2 ∧ σ' = [some (.int c), some (.int n), some (.int w), some (.int (n % 5)), none]) (fun nx hnx => ?_) ?_
    · walk_at "w"
      refine ⟨fun _ => ?_, fun _ => hnx _ _ ⟨rfl, rfl⟩⟩
      walk_at "n"; walk_at "n"; walk_at "n"
      walk_at "w"
      refine ⟨pw 18 (by decide), ?_⟩
      walk_at "w"
      refine ⟨(show (0 : Int) < 10 ^ 18 by decide), ?_⟩
      walk_at "n"; walk_at "n"
      exact q _
    rintro σ' H3 ⟨rfl, rfl⟩
    refine seq_cut (fun σ' H' => H' = H3 ∧ σ' = [some (.int c), some (.int n), some (.int w), some (.int (n % 5)), none]) (fun nx hnx => ?_) ?_
    · walk_at "w"
      refine ⟨fun _ => ?_, fun _ => hnx _ _ ⟨rfl, rfl⟩⟩
      walk_at "n"; walk_at "n"
      exact q _
    rintro σ' H4 ⟨rfl, rfl⟩
    refine seq_cut (fun σ' H' => H' = H4 ∧ ∃ v : Int, σ' = [some (.int c), some (.int n), some (.int w), some (.int (n % 5)), some (.int v)]) (fun nx hnx => ?_) ?_
    · walk_at "n"; walk_at "n"
      walk_at "w"
      refine ⟨⟨by omega, by omega⟩, ?_⟩
      walk_at "n"; walk_at "n"
      exact hnx _ _ ⟨rfl, _, rfl⟩
    rintro σ' H5 ⟨rfl, v, rfl⟩
    walk_at "w"
    refine ⟨fun _ => q _, fun _ => ?_⟩
    walk_at "w"
    exact q _
  · exact h.elim
theorem rd_width_of {K : PySem.W.Frag} : RD_width_of K := by
  intro vs H Q E h
  unfold sp_width_of at h
  split at h
  · obtain ⟨f, e, hT, q⟩ := h
    walk_at "w"
    refine ⟨_, .inr hT, ?_⟩
    walk_at "w"
    refine ⟨_, .inr hT, ?_⟩
    exact q
  · exact h.elim
theorem pow_pos10 (n : Nat) : (0 : Int) < 10 ^ n := Int.pow_pos (by decide)
theorem cut_to {l : List Nat} {j : Int} (h0 : 0 ≤ j) (h1 : j ≤ l.length) : cutL l none (some j) = l.take j.toNat := by
  unfold cutL
  have e2 : HT.sIx l.length l.length (some j) = j.toNat := by
    have := HT.sIx_nat l.length l.length j.toNat
    rw [Int.toNat_of_nonneg h0] at this
    rw [this]; omega
  rw [e2, HT.sIx_none, List.drop_zero, Nat.sub_zero]
theorem cut_from {l : List Nat} {i : Int} (h0 : 0 ≤ i) (h1 : i ≤ l.length) : cutL l (some i) none = l.drop i.toNat := by
  unfold cutL
  have e1 : HT.sIx l.length 0 (some i) = i.toNat := by
    have := HT.sIx_nat l.length 0 i.toNat
    rw [Int.toNat_of_nonneg h0] at this
    rw [this]; omega
  rw [e1, HT.sIx_none, List.take_of_length_le]
  rw [List.length_drop]; omega
theorem punched_len {l : List Nat} {f e v : Int} (h1 : 1 ≤ f) (h2 : f ≤ e) (h3 : e ≤ 36) (h40 : l.length = 40) : (punched l f e v).length = 40 := by
  unfold punched
  rw [List.length_append, List.length_append, digs_length, List.length_take, List.length_drop]
  omega
theorem log2_small {n : Nat} (h : n < 10 ^ 40) : n.log2 < 1920 := by
  by_cases h0 : n = 0
  · subst h0; decide
  · rw [Nat.log2_lt h0]
    exact Nat.lt_of_lt_of_le h (by decide)
theorem rd_punch_in {K : PySem.W.Frag} : RD_punch_in K := by
  intro vs H Q E h
  unfold sp_punch_in at h
  split at h
  · rename_i z p v
    obtain ⟨f, e, hT, ⟨h1, h2, h3⟩, h40, q⟩ := h
    have hwi : e - f + 1 = (((e - f + 1).toNat : Nat) : Int) := by omega
    generalize hw : (e - f + 1).toNat = w at hwi
    have hw1 : 1 ≤ w ∧ w ≤ 36 := by omega
    have hr0 : 0 ≤ v % 10 ^ w := Int.emod_nonneg _ (Int.ne_of_gt (pow_pos10 w))
    have hr1 : v % 10 ^ w < 10 ^ w := Int.emod_lt_of_pos _ (pow_pos10 w)
    have hre : v % 10 ^ w = (((v % 10 ^ w).toNat : Nat) : Int) := by omega
    generalize hm : (v % 10 ^ w).toNat = m at hre
    have hml : m < 10 ^ w := by
      have : (m : Int) < ((10 ^ w : Nat) : Int) := by rw [← hre]; simpa using hr1
      omega
    have hm40 : m < 10 ^ 40 := Nat.lt_of_lt_of_le hml (Nat.pow_le_pow_right (by decide) (by omega))
    refine seq_cut (fun σ' H' => H' = H ∧ σ' = [some (.str z), some (.ref p), some (.int v), some (.int (w : Int)), none]) (fun nx hnx => ?_) ?_
    · walk_at "w"
      refine ⟨f, e, hT, hnx _ _ ⟨rfl, ?_⟩⟩
      rw [hwi]
      rfl
    rintro σ' H1 ⟨rfl, rfl⟩
    refine seq_cut (fun σ' H' => H' = H1 ∧ σ' = [some (.str z), some (.ref p), some (.int v), some (.int (w : Int)), some (tx (digs w m))]) (fun nx hnx => ?_) ?_
    · walk_at "w"
      refine ⟨⟨by omega, by omega⟩, ?_⟩
      walk_at "w"
      refine ⟨pow_pos10 _, ?_⟩
      walk_at "w"
      have e10 : v % 10 ^ (w : Int).toNat = (m : Int) := by rw [Int.toNat_natCast]; exact hre
      refine ⟨?_, ?_⟩
      · show (v % 10 ^ (w : Int).toNat).natAbs.log2 < 1920
        rw [e10]
        exact log2_small hm40
      walk_at "w"
      refine ⟨rfl, ?_⟩
      walk_at "w"
      refine ⟨padOk_small (by omega) (by omega), ?_⟩
      have ez : (Txt.zfill ⟨(strI (v % 10 ^ (w : Int).toNat)).toArray⟩ (w : Int)).cps.toList = digs w m := by
        rw [e10, strI_nat]
        exact zfill_digs hw1.1 hml
      have q2 := hnx [some (.str z), some (.ref p), some (.int v), some (.int (w : Int)), some (tx (digs w m))] H1 ⟨rfl, rfl⟩
      rw [← ez] at q2
      exact q2
    rintro σ' H2 ⟨rfl, rfl⟩
    walk_at "w"
    refine ⟨_, .inr hT, ?_⟩
    walk_at "w"
    refine ⟨small_n (by omega), ?_⟩
    rw [cut_to (by omega) (by omega)]
    walk_at "w"
    refine ⟨?_, ?_⟩
    · show (z.cps.toList.take (f - 1).toNat).length + (digs w m).length ≤ sizeLine
      rw [digs_length, List.length_take]
      exact small_n (by omega)
    walk_at "w"
    refine ⟨_, .inr hT, ?_⟩
    walk_at "w"
    refine ⟨small_n (by omega), ?_⟩
    rw [cut_from (by omega) (by omega)]
    walk_at "w"
    refine ⟨?_, ?_⟩
    · show (z.cps.toList.take (f - 1).toNat ++ digs w m).length + (z.cps.toList.drop e.toNat).length ≤ sizeLine
      rw [List.length_append, digs_length, List.length_take, List.length_drop]
      exact small_n (by omega)
    · unfold punched at q
      rw [hw, hm] at q
      exact q
  · exact h.elim
theorem rd_law_due {K : PySem.W.Frag} : RD_law_due K := by
  intro vs H Q E h
  unfold sp_law_due at h
  split at h
  · rename_i z p v
    obtain ⟨f, e, hT, ⟨h1, h2, h3⟩, h40, q⟩ := h
    generalize hl : z.cps.toList = l at *
    have ez : z = ⟨l.toArray⟩ := by rw [← hl]
    subst ez
    have hwi : e - f + 1 = (((e - f + 1).toNat : Nat) : Int) := by omega
    generalize hw : (e - f + 1).toNat = w at hwi
    have hw1 : 1 ≤ w ∧ w ≤ 36 := by omega
    have hr0 : 0 ≤ v % 10 ^ w := Int.emod_nonneg _ (Int.ne_of_gt (pow_pos10 w))
    have hre : v % 10 ^ w = (((v % 10 ^ w).toNat : Nat) : Int) := by omega
    generalize hm : (v % 10 ^ w).toNat = m at hre
    refine seq_cut (fun σ' H' => ∃ D, H D = none ∧ H' = upd H D (.lst (l.map fun c => tx [c])) ∧ σ' = [some (tx l), some (.ref p), some (.int v), some (.ref D), none, none]) (fun nx hnx => ?_) ?_
    · refine asg (comp_str l (fun R h => h) ?_)
      refine L2.comp_map (fun i => tx [l.getD i 0]) (fun σ => ∃ x, σ = [x]) ⟨none, rfl⟩ (small_n (n := l.length) (by omega)) ?_ ?_
      · rintro i σ H1 k hi ⟨x, rfl⟩ hk
        exact hk [some (tx [l.getD i 0])] ⟨_, rfl⟩
      · intro D hD
        rw [L2.range_getD l]
        exact hnx _ _ ⟨D, hD, rfl, rfl⟩
    rintro σ' H1 ⟨D, hD, rfl, rfl⟩
    have hT1 := (same_new hD (.lst (l.map fun c => tx [c]))).tup hT
    refine seq_cut (fun σ' H' => H' = upd H D (.lst (l.map fun c => tx [c])) ∧ σ' = [some (tx l), some (.ref p), some (.int v), some (.ref D), some (.int (m : Int)), none]) (fun nx hnx => ?_) ?_
    · walk_at "w"
      refine ⟨_, .inr hT1, ?_⟩
      walk_at "w"
      refine ⟨_, .inr hT1, ?_⟩
      walk_at "w"
      refine ⟨⟨by omega, by omega⟩, ?_⟩
      walk_at "w"
      refine ⟨pow_pos10 _, ?_⟩
      refine hnx _ _ ⟨rfl, ?_⟩
      have e10 : v % 10 ^ (e - f + 1).toNat = (m : Int) := by rw [hw]; exact hre
      show [some (tx l), some (.ref p), some (.int v), some (.ref D), some (.int (v % 10 ^ (e - f + 1).toNat)), none] = _
      rw [e10]
    rintro σ' H2 ⟨rfl, rfl⟩
    refine seq_cut (fun σ' H' => H' = upd H D (.lst ((l.take (f - 1).toNat ++ digs w m ++ l.drop e.toNat).map fun c => tx [c])) ∧ ∃ x4 x5, σ' = [some (tx l), some (.ref p), some (.int v), some (.ref D), x4, x5]) (fun nx hnx => ?_) ?_
    · walk_at "w"
      refine ⟨_, .inr hT1, ?_⟩
      walk_at "w"
      refine ⟨_, .inr hT1, ?_⟩
      walk_at "w"
      refine ⟨rfl, ⟨by omega, by omega, by omega, by omega⟩, ?_⟩
      have en : (e - (f - 1)).toNat = w := by omega
      refine for_pure (fun j σ H' => H' = upd H D (.lst ((l.take (e.toNat - j) ++ digs j m ++ l.drop e.toNat).map fun c => tx [c])) ∧ ∃ x5, σ = [some (tx l), some (.ref p), some (.int v), some (.ref D), some (.int ((m / 10 ^ j : Nat) : Int)), x5]) ⟨?_, none, ?_⟩ ?_ ?_
      · rw [show digs 0 m = [] from rfl, List.append_nil, Nat.sub_zero, List.take_append_drop]
      · simp
      · rintro j σ H3 hj ⟨rfl, x5, rfl⟩
        rw [en] at hj
        have hje : j + 1 ≤ e.toNat := by omega
        have hdig : 0 ≤ ((m / 10 ^ j : Nat) : Int) % 10 ∧ ((m / 10 ^ j : Nat) : Int) % 10 < 10 := ⟨Int.emod_nonneg _ (by decide), Int.emod_lt_of_pos _ (by decide)⟩
        obtain ⟨x, ex, ea⟩ := atI_lt (xs := [48, 49, 50, 51, 52, 53, 54, 55, 56, 57]) hdig.1 hdig.2
        have hx : x = 48 + m / 10 ^ j % 10 := by
          have hk : (((m / 10 ^ j : Nat) : Int) % 10).toNat = m / 10 ^ j % 10 := by omega
          rw [hk] at ex
          have hk10 : m / 10 ^ j % 10 < 10 := Nat.mod_lt _ (by decide)
          generalize m / 10 ^ j % 10 = d at ex hk10
          have : d = 0 ∨ d = 1 ∨ d = 2 ∨ d = 3 ∨ d = 4 ∨ d = 5 ∨ d = 6 ∨ d = 7 ∨ d = 8 ∨ d = 9 := by omega
          rcases this with rfl | rfl | rfl | rfl | rfl | rfl | rfl | rfl | rfl | rfl <;> (cases ex; rfl)
        walk_at "n"
        walk_at "w"
        refine ⟨by decide, ?_⟩
        rw [ea]
        walk_at "w"
        refine ⟨_, upd_same, ?_⟩
        have hix : ixN ((l.take (e.toNat - j) ++ digs j m ++ l.drop e.toNat).map fun c => tx [c]).length (e + (j : Int) * (-1) - 1) = some (e.toNat - (j + 1)) := by
          rw [List.length_map, List.length_append, List.length_append, digs_length, List.length_take, List.length_drop, ixN_lt (by omega) (by omega)]
          congr 1
          omega
        rw [hix]
        walk_at "n"
        walk_at "w"
        refine ⟨?_, some (.int (e + (j : Int) * (-1))), ?_⟩
        · rw [upd_upd]
          have hs : ((l.take (e.toNat - j) ++ digs j m ++ l.drop e.toNat).map fun c => tx [c]).set (e.toNat - (j + 1)) (tx [x]) = (l.take (e.toNat - (j + 1)) ++ digs (j + 1) m ++ l.drop e.toNat).map fun c => tx [c] := by
            rw [← List.map_set (f := fun c => tx [c])]
            congr 1
            have e3 : e.toNat - j = (e.toNat - (j + 1)) + 1 := by omega
            rw [e3, List.append_assoc, set_take (by omega), digs_front, hx, List.append_assoc]
            rfl
          rw [hs]
        · have e4 : ((m / 10 ^ (j + 1) : Nat) : Int) = ((m / 10 ^ j : Nat) : Int) / 10 := by
            rw [Nat.pow_succ, ← Nat.div_div_eq_div_mul]
            omega
          rw [e4]
          rfl
      · rintro σ H3 ⟨rfl, x5, rfl⟩
        refine hnx _ _ ⟨?_, _, _, rfl⟩
        rw [en, show e.toNat - w = (f - 1).toNat by omega]
    rintro σ' H3 ⟨rfl, x4, x5, rfl⟩
    generalize hy : l.take (f - 1).toNat ++ digs w m ++ l.drop e.toNat = ys
    have hyl : ys.length = 40 := by rw [← hy, List.length_append, List.length_append, digs_length, List.length_take, List.length_drop]; omega
    walk_at "w"
    refine ⟨rfl, ?_⟩
    walk_at "w"
    refine ⟨_, SqL.of upd_same, ?_⟩
    rw [strs_ones]
    refine ⟨joinOk_small (by rw [List.length_map]; show ys.length * (0 + 1) ≤ 100000; omega) (fun z hz => ?_), ?_⟩
    · obtain ⟨c, _, rfl⟩ := List.mem_map.mp hz
      exact Nat.le_refl 1
    · have q2 := q _ (same_new hD (.lst (ys.map fun c => tx [c])))
      have e5 : punched l f e v = ys := by
        unfold punched
        rw [hw, hm]
        exact hy
      rw [e5] at q2
      have e6 : joinS [] (ys.map fun c => (⟨#[c]⟩ : Str)) = ys := L2.join_ones ys
      show Q (tx (joinS [] (ys.map fun c => (⟨#[c]⟩ : Str)))) _
      rw [e6]
      exact q2
  · exact h.elim
theorem part_punched {l : List Nat} {f e v : Int} (h1 : 1 ≤ f) (h2 : f ≤ e) (h3 : e ≤ 36) (h40 : l.length = 40) :
    ((punched l f e v).drop (f - 1).toNat).take (e - f + 1).toNat = digs (e - f + 1).toNat (v % 10 ^ (e - f + 1).toNat).toNat := by
  unfold punched
  have hl1 : (l.take (f - 1).toNat).length = (f - 1).toNat := by rw [List.length_take]; omega
  rw [List.append_assoc, List.drop_append_of_le_length (by omega), List.drop_of_length_le (by omega), List.nil_append, List.take_append_of_le_length (by rw [digs_length]; exact Nat.le_refl _), List.take_of_length_le (by rw [digs_length]; exact Nat.le_refl _)]
theorem punched_again {l : List Nat} {f e v : Int} (h1 : 1 ≤ f) (h2 : f ≤ e) (h3 : e ≤ 36) (h40 : l.length = 40) : punched (punched l f e v) f e v = punched l f e v := by
  have hl1 : (l.take (f - 1).toNat).length = (f - 1).toNat := by rw [List.length_take]; omega
  have e1 : (punched l f e v).take (f - 1).toNat = l.take (f - 1).toNat := by
    unfold punched
    rw [List.append_assoc, List.take_append_of_le_length (by omega), List.take_of_length_le (by omega)]
  have e2 : (punched l f e v).drop e.toNat = l.drop e.toNat := by
    unfold punched
    have hl2 : (l.take (f - 1).toNat ++ digs (e - f + 1).toNat (v % 10 ^ (e - f + 1).toNat).toNat).length = e.toNat := by rw [List.length_append, digs_length, hl1]; omega
    rw [List.drop_append_of_le_length (by omega), List.drop_of_length_le (by omega), List.nil_append]
  rw [show punched (punched l f e v) f e v = (punched l f e v).take (f - 1).toNat ++ digs (e - f + 1).toNat (v % 10 ^ (e - f + 1).toNat).toNat ++ (punched l f e v).drop e.toNat from rfl, e1, e2]
  rfl
theorem numL_digs : ∀ (w n : Nat), n < 10 ^ w → numL (digs w n) = (n : Int)
  | 0, n, h => by
    have : n = 0 := by simpa using h
    subst this; rfl
  | w + 1, n, h => by
    have hd : n / 10 < 10 ^ w := by
      rw [Nat.div_lt_iff_lt_mul (by decide)]
      rw [Nat.pow_succ] at h
      exact h
    rw [digs, numL_snoc, numL_digs w (n / 10) hd]
    omega
theorem fig_id {l : List Nat} (h : ∀ c ∈ l, 48 ≤ c ∧ c ≤ 57) : l.map fig = l := by
  induction l with
  | nil => rfl
  | cons c r ih =>
    rw [List.map_cons, ih fun d hd => h d (List.mem_cons_of_mem _ hd)]
    have := h c List.mem_cons_self
    unfold fig
    rw [if_pos this]
theorem num_punched {l : List Nat} {f e v : Int} (h1 : 1 ≤ f) (h2 : f ≤ e) (h3 : e ≤ 36) (h40 : l.length = 40) :
    numL ((((punched l f e v).drop (f - 1).toNat).take (e - f + 1).toNat).map fig) = v % 10 ^ (e - f + 1).toNat := by
  generalize hw : (e - f + 1).toNat = w
  have hr0 : 0 ≤ v % 10 ^ w := Int.emod_nonneg _ (Int.ne_of_gt (pow_pos10 w))
  have hr1 : v % 10 ^ w < 10 ^ w := Int.emod_lt_of_pos _ (pow_pos10 w)
  have hp := part_punched (v := v) h1 h2 h3 h40
  rw [hw] at hp
  rw [hp, fig_id (digs_digit _ _)]
  have hre : v % 10 ^ w = (((v % 10 ^ w).toNat : Nat) : Int) := by omega
  have hml : (v % 10 ^ w).toNat < 10 ^ w := by
    have : (((v % 10 ^ w).toNat : Nat) : Int) < ((10 ^ w : Nat) : Int) := by rw [← hre]; simpa using hr1
    omega
  rw [numL_digs _ _ hml]
  exact hre.symm
theorem rd_law {K : PySem.W.Frag} : RD_law K := by
  intro vs H Q E h
  obtain ⟨a, ns, rfl, hS, h63, q⟩ := h
  walk_at "w"
  refine ⟨ns, hS, h63, fun l h40 => ?_⟩
  walk_at "w"
  refine ⟨(show 1 ≤ sizeLine by decide), fun p1 hp1 => ?_⟩
  have g1 := same_new hp1 (.lst [.int 0])
  walk_at "w"
  refine ⟨_, g1.seq hS, fun p2 hp2 => ?_⟩
  have g2 := same_new hp2 (.lst (cutV (ns.map V.int) none (some 84)))
  have hcut : cutV (ns.map V.int) none (some 84) = (ns.take 84).map V.int := by
    rw [show (84 : Int) = ((84 : Nat) : Int) from rfl, cutV_to, List.map_take]
  walk_at "w"
  refine ⟨_, _, g2 _ _ upd_same, upd_same, ?_, fun p3 hp3 => ?_⟩
  · rw [hcut, List.length_map, List.length_take, List.length_singleton]
    exact small_n (by omega)
  have g3 := same_new hp3 (.lst ([.int 0] ++ cutV (ns.map V.int) none (some 84)))
  rw [hcut]
  rw [hcut] at g2 g3 hp3
  generalize hxs : ([.int 0] ++ (ns.take 84).map V.int : List V) = xs at *
  have hxl : xs.length ≤ 64 := by rw [← hxs, List.length_append, List.length_map, List.length_take, List.length_singleton]; omega
  have hxi : ∀ (i : Nat) (x : V), xs[i]? = some x → ∃ c : Int, x = V.int c := by
    intro i x hx
    have e : xs = (0 :: ns.take 84).map V.int := by rw [← hxs]; rfl
    rw [e, List.getElem?_map] at hx
    cases e2 : (0 :: ns.take 84)[i]? with
    | none => rw [e2] at hx; cases hx
    | some c => rw [e2] at hx; cases hx; exact ⟨c, rfl⟩
  generalize hH3 : upd (upd (upd H p1 (.lst [.int 0])) p2 (.lst ((ns.take 84).map V.int))) p3 (.lst xs) = H3
  have hl3 : H3 p3 = some (.lst xs) := by rw [← hH3]; exact upd_same
  walk_at "w"
  refine ⟨⟨xs, SqL.of hl3⟩, ?_⟩
  refine for_enumL (xs := xs) (fun i σ H' => Same H3 H' ∧ ∃ (l : List Nat) (x2 x3 x4 x5 x6 x7 x8 x9 : Option V), l.length = 40 ∧ σ = [some (.ref a), some (tx l), x2, x3, x4, x5, x6, x7, x8, x9]) ⟨Same.refl _, l, none, none, none, none, none, none, none, none, h40, rfl⟩ ?_ ?_ ?_
  · rintro i σ H' _ ⟨g, _⟩
    exact g.seq (SqL.of hl3)
  · rintro i x σ H' p hx ⟨g, l, x2, x3, x4, x5, x6, x7, x8, x9, h40, rfl⟩ hp
    obtain ⟨c, rfl⟩ := hxi i x hx
    have hi : i < 64 := Nat.lt_of_lt_of_le (List.getElem?_eq_some_iff.mp hx).1 hxl
    have g4 := g.trans (same_new hp (.tup [.int i, .int c]))
    refine unpack2 (SqT.of upd_same) ?_
    generalize upd H' p (.tup [.int i, .int c]) = H4 at g4 ⊢
    refine seq_cut (fun σ' H' => Same H3 H' ∧ ∃ (pf : Addr) (f e : Int), H' pf = some (.tup [.int f, .int e]) ∧ (1 ≤ f ∧ f ≤ e ∧ e ≤ 36) ∧ σ' = [some (.ref a), some (tx l), some (.int i), some (.int c), some (.ref pf), x5, x6, x7, x8, x9]) (fun nx hnx => ?_) ?_
    · walk_at "w"
      exact ⟨⟨by omega, by omega⟩, fun pf H5 f e g5 hpf h1 h2 h3 => hnx _ _ ⟨g4.trans g5, pf, f, e, hpf, ⟨h1, h2, h3⟩, rfl⟩⟩
    rintro σ' H5 ⟨g5, pf, f, e, hpf, hfe, rfl⟩
    obtain ⟨h1, h2, h3⟩ := hfe
    refine seq_cut (fun σ' H' => H' = H5 ∧ σ' = [some (.ref a), some (tx l), some (.int i), some (.int c), some (.ref pf), some (.int (e - f + 1)), x6, x7, x8, x9]) (fun nx hnx => ?_) ?_
    · walk_at "w"
      refine ⟨_, .inr (SqT.of hpf), ?_⟩
      walk_at "w"
      refine ⟨_, .inr (SqT.of hpf), ?_⟩
      exact hnx _ _ ⟨rfl, rfl⟩
    rintro σ' H6 ⟨rfl, rfl⟩
    refine seq_cut (fun σ' H' => H' = H6 ∧ ∃ v : Int, σ' = [some (.ref a), some (tx l), some (.int i), some (.int c), some (.ref pf), some (.int (e - f + 1)), some (.int v), x7, x8, x9]) (fun nx hnx => ?_) ?_
    · walk_at "n"
      walk_at "w"
      refine ⟨⟨by omega, by omega⟩, ?_⟩
      obtain ⟨m0, m1⟩ := mixed_nn c (140 + 2 * i)
      walk_at "w"
      exact ⟨⟨m0, m1, by omega, by omega⟩, fun v => hnx _ _ ⟨rfl, v, rfl⟩⟩
    rintro σ' H7 ⟨rfl, v, rfl⟩
    have hpl : (punched l f e v).length = 40 := punched_len h1 h2 h3 h40
    refine seq_cut (fun σ' H' => Same H7 H' ∧ σ' = [some (.ref a), some (tx l), some (.int i), some (.int c), some (.ref pf), some (.int (e - f + 1)), some (.int v), some (tx (punched l f e v)), x8, x9]) (fun nx hnx => ?_) ?_
    · walk_at "w"
      exact ⟨f, e, SqT.of hpf, ⟨h1, h2, h3⟩, h40, fun H8 g8 => hnx _ _ ⟨g8, rfl⟩⟩
    rintro σ' H8 ⟨g8, rfl⟩
    replace hpf := g8 _ _ hpf
    replace g5 := g5.trans g8
    clear g8
    refine seq_cut (fun σ' H' => H' = H8 ∧ σ' = [some (.ref a), some (tx l), some (.int i), some (.int c), some (.ref pf), some (.int (e - f + 1)), some (.int v), some (tx (punched l f e v)), some (tx (punched l f e v)), x9]) (fun nx hnx => ?_) ?_
    · walk_at "w"
      exact ⟨f, e, SqT.of hpf, ⟨h1, h2, h3⟩, h40, hnx _ _ ⟨rfl, rfl⟩⟩
    rintro σ' H9 ⟨rfl, rfl⟩
    refine seq_cut (fun σ' H' => H' = H9 ∧ σ' = [some (.ref a), some (tx l), some (.int i), some (.int c), some (.ref pf), some (.int (e - f + 1)), some (.int v), some (tx (punched l f e v)), some (tx (punched l f e v)), x9]) (fun nx hnx => ?_) ?_
    · walk_at "w"
      refine ⟨fun c => absurd c (by decide), fun _ => ?_⟩
      walk_at "w"
      exact ⟨fun c => absurd c (by rw [show decide _ = true from decide_eq_true rfl]; decide), fun _ => hnx _ _ ⟨rfl, rfl⟩⟩
    rintro σ' H9 ⟨rfl, rfl⟩
    refine seq_cut (fun σ' H' => Same H9 H' ∧ σ' = [some (.ref a), some (tx l), some (.int i), some (.int c), some (.ref pf), some (.int (e - f + 1)), some (.int v), some (tx (punched l f e v)), some (tx (punched l f e v)), some (.int (v % 10 ^ (e - f + 1).toNat))]) (fun nx hnx => ?_) ?_
    · walk_at "w"
      refine ⟨f, e, SqT.of hpf, ⟨h1, h2, h3⟩, hpl, fun H10 g10 => ?_⟩
      have q2 := hnx [some (.ref a), some (tx l), some (.int i), some (.int c), some (.ref pf), some (.int (e - f + 1)), some (.int v), some (tx (punched l f e v)), some (tx (punched l f e v)), some (.int (v % 10 ^ (e - f + 1).toNat))] H10 ⟨g10, rfl⟩
      rw [← num_punched h1 h2 h3 h40] at q2
      exact q2
    rintro σ' H10 ⟨g10, rfl⟩
    replace hpf := g10 _ _ hpf
    replace g5 := g5.trans g10
    clear g10
    refine seq_cut (fun σ' H' => H' = H10 ∧ σ' = [some (.ref a), some (tx l), some (.int i), some (.int c), some (.ref pf), some (.int (e - f + 1)), some (.int v), some (tx (punched l f e v)), some (tx (punched l f e v)), some (.int (v % 10 ^ (e - f + 1).toNat))]) (fun nx hnx => ?_) ?_
    · walk_at "w"
      refine ⟨fun c => absurd c (by decide), fun _ => ?_⟩
      walk_at "w"
      refine ⟨⟨by omega, by omega⟩, ?_⟩
      walk_at "w"
      refine ⟨pow_pos10 _, ?_⟩
      walk_at "w"
      refine ⟨fun c => absurd c (by rw [show decide _ = true from decide_eq_true rfl]; decide), fun _ => ?_⟩
      walk_at "w"
      refine ⟨f, e, SqT.of hpf, ⟨h1, h2, h3⟩, hpl, ?_⟩
      rw [show (⟨(punched l f e v).toArray⟩ : Str).cps.toList = punched l f e v from rfl, punched_again h1 h2 h3 h40]
      walk_at "w"
      exact ⟨fun c => absurd c (by rw [show decide _ = true from decide_eq_true rfl]; decide), fun _ => hnx _ _ ⟨rfl, rfl⟩⟩
    rintro σ' H11 ⟨rfl, rfl⟩
    exact ⟨g5, punched l f e v, _, _, _, _, _, _, _, _, hpl, rfl⟩
  · rintro σ H' _
    exact q H'
end K05
namespace K05
open PySem PySem.Spec PyProof.Rows L2
theorem all_mk {l : PySem.W.OpenLaw} {w : World} {K : PySem.W.Frag} {h : Heap} {mg : Str → Option Value} {fa : Addr} (X : K.In h) (G : h.Ns mainGlobals mg) (hfa : mg "law" = some (.ref fa))
    {f0 : Addr} {od0 an0 : Option Addr} {sl0 : Array (Option Value)} {oc0 kV0 dc0 pm0 cd0 ct0 : Value}
    {f1 : Addr} {od1 an1 : Option Addr} {sl1 : Array (Option Value)} {oc1 kV1 dc1 pm1 cd1 ct1 : Value}
    {f2 : Addr} {od2 an2 : Option Addr} {sl2 : Array (Option Value)} {oc2 kV2 dc2 pm2 cd2 ct2 : Value}
    {f3 : Addr} {od3 an3 : Option Addr} {sl3 : Array (Option Value)} {oc3 kV3 dc3 pm3 cd3 ct3 : Value}
    {f4 : Addr} {od4 an4 : Option Addr} {sl4 : Array (Option Value)} {oc4 kV4 dc4 pm4 cd4 ct4 : Value}
    {f5 : Addr} {od5 an5 : Option Addr} {sl5 : Array (Option Value)} {oc5 kV5 dc5 pm5 cd5 ct5 : Value}
    {f6 : Addr} {od6 an6 : Option Addr} {sl6 : Array (Option Value)} {oc6 kV6 dc6 pm6 cd6 ct6 : Value}
    {f7 : Addr} {od7 an7 : Option Addr} {sl7 : Array (Option Value)} {oc7 kV7 dc7 pm7 cd7 ct7 : Value}
    {f8 : Addr} {od8 an8 : Option Addr} {sl8 : Array (Option Value)} {oc8 kV8 dc8 pm8 cd8 ct8 : Value}
    {f9 : Addr} {od9 an9 : Option Addr} {sl9 : Array (Option Value)} {oc9 kV9 dc9 pm9 cd9 ct9 : Value}
    {f10 : Addr} {od10 an10 : Option Addr} {sl10 : Array (Option Value)} {oc10 kV10 dc10 pm10 cd10 ct10 : Value}
    {f11 : Addr} {od11 an11 : Option Addr} {sl11 : Array (Option Value)} {oc11 kV11 dc11 pm11 cd11 ct11 : Value}
    {f12 : Addr} {od12 an12 : Option Addr} {sl12 : Array (Option Value)} {oc12 kV12 dc12 pm12 cd12 ct12 : Value}
    {f13 : Addr} {od13 an13 : Option Addr} {sl13 : Array (Option Value)} {oc13 kV13 dc13 pm13 cd13 ct13 : Value}
    (a0 : PySem.W.nsIn K mainGlobals "_law_mixed" = some (some (.ref f0))) (l0 : K.lookup f0 = some ⟨oc0, od0, .func (PySem.W.fnOf "_law_mixed" "_law_mixed" (defArgs s_law_mixed) (defBody s_law_mixed) (defScope s_law_mixed) .none kV0 dc0 pm0 an0 cd0 ct0), sl0⟩) (c0 : PySem.W.codeIn K cd0 "_law_mixed" = true) (k0 : PySem.W.keepIn K (.ref f0) = true)
    (a1 : PySem.W.nsIn K mainGlobals "_law_card" = some (some (.ref f1))) (l1 : K.lookup f1 = some ⟨oc1, od1, .func (PySem.W.fnOf "_law_card" "_law_card" (defArgs s_law_card) (defBody s_law_card) (defScope s_law_card) .none kV1 dc1 pm1 an1 cd1 ct1), sl1⟩) (c1 : PySem.W.codeIn K cd1 "_law_card" = true) (k1 : PySem.W.keepIn K (.ref f1) = true)
    (a2 : PySem.W.nsIn K mainGlobals "_law_field" = some (some (.ref f2))) (l2 : K.lookup f2 = some ⟨oc2, od2, .func (PySem.W.fnOf "_law_field" "_law_field" (defArgs s_law_field) (defBody s_law_field) (defScope s_law_field) .none kV2 dc2 pm2 an2 cd2 ct2), sl2⟩) (c2 : PySem.W.codeIn K cd2 "_law_field" = true) (k2 : PySem.W.keepIn K (.ref f2) = true)
    (a3 : PySem.W.nsIn K mainGlobals "_law_power" = some (some (.ref f3))) (l3 : K.lookup f3 = some ⟨oc3, od3, .func (PySem.W.fnOf "_law_power" "_law_power" (defArgs s_law_power) (defBody s_law_power) (defScope s_law_power) .none kV3 dc3 pm3 an3 cd3 ct3), sl3⟩) (c3 : PySem.W.codeIn K cd3 "_law_power" = true) (k3 : PySem.W.keepIn K (.ref f3) = true)
    (a4 : PySem.W.nsIn K mainGlobals "_law_value" = some (some (.ref f4))) (l4 : K.lookup f4 = some ⟨oc4, od4, .func (PySem.W.fnOf "_law_value" "_law_value" (defArgs s_law_value) (defBody s_law_value) (defScope s_law_value) .none kV4 dc4 pm4 an4 cd4 ct4), sl4⟩) (c4 : PySem.W.codeIn K cd4 "_law_value" = true) (k4 : PySem.W.keepIn K (.ref f4) = true)
    (a5 : PySem.W.nsIn K mainGlobals "_law_due" = some (some (.ref f5))) (l5 : K.lookup f5 = some ⟨oc5, od5, .func (PySem.W.fnOf "_law_due" "_law_due" (defArgs s_law_due) (defBody s_law_due) (defScope s_law_due) .none kV5 dc5 pm5 an5 cd5 ct5), sl5⟩) (c5 : PySem.W.codeIn K cd5 "_law_due" = true) (k5 : PySem.W.keepIn K (.ref f5) = true)
    (a6 : PySem.W.nsIn K mainGlobals "width_of" = some (some (.ref f6))) (l6 : K.lookup f6 = some ⟨oc6, od6, .func (PySem.W.fnOf "width_of" "width_of" (defArgs s_width_of) (defBody s_width_of) (defScope s_width_of) .none kV6 dc6 pm6 an6 cd6 ct6), sl6⟩) (c6 : PySem.W.codeIn K cd6 "width_of" = true) (k6 : PySem.W.keepIn K (.ref f6) = true)
    (a7 : PySem.W.nsIn K mainGlobals "ten_to" = some (some (.ref f7))) (l7 : K.lookup f7 = some ⟨oc7, od7, .func (PySem.W.fnOf "ten_to" "ten_to" (defArgs s_ten_to) (defBody s_ten_to) (defScope s_ten_to) .none kV7 dc7 pm7 an7 cd7 ct7), sl7⟩) (c7 : PySem.W.codeIn K cd7 "ten_to" = true) (k7 : PySem.W.keepIn K (.ref f7) = true)
    (a8 : PySem.W.nsIn K mainGlobals "punch_in" = some (some (.ref f8))) (l8 : K.lookup f8 = some ⟨oc8, od8, .func (PySem.W.fnOf "punch_in" "punch_in" (defArgs s_punch_in) (defBody s_punch_in) (defScope s_punch_in) .none kV8 dc8 pm8 an8 cd8 ct8), sl8⟩) (c8 : PySem.W.codeIn K cd8 "punch_in" = true) (k8 : PySem.W.keepIn K (.ref f8) = true)
    (a9 : PySem.W.nsIn K mainGlobals "number_by" = some (some (.ref f9))) (l9 : K.lookup f9 = some ⟨oc9, od9, .func (PySem.W.fnOf "number_by" "number_by" (defArgs s_number_by) (defBody s_number_by) (defScope s_number_by) .none kV9 dc9 pm9 an9 cd9 ct9), sl9⟩) (c9 : PySem.W.codeIn K cd9 "number_by" = true) (k9 : PySem.W.keepIn K (.ref f9) = true)
    (a10 : PySem.W.nsIn K mainGlobals "part_of" = some (some (.ref f10))) (l10 : K.lookup f10 = some ⟨oc10, od10, .func (PySem.W.fnOf "part_of" "part_of" (defArgs s_part_of) (defBody s_part_of) (defScope s_part_of) .none kV10 dc10 pm10 an10 cd10 ct10), sl10⟩) (c10 : PySem.W.codeIn K cd10 "part_of" = true) (k10 : PySem.W.keepIn K (.ref f10) = true)
    (a11 : PySem.W.nsIn K mainGlobals "number_of" = some (some (.ref f11))) (l11 : K.lookup f11 = some ⟨oc11, od11, .func (PySem.W.fnOf "number_of" "number_of" (defArgs s_number_of) (defBody s_number_of) (defScope s_number_of) .none kV11 dc11 pm11 an11 cd11 ct11), sl11⟩) (c11 : PySem.W.codeIn K cd11 "number_of" = true) (k11 : PySem.W.keepIn K (.ref f11) = true)
    (a12 : PySem.W.nsIn K mainGlobals "_law_whole" = some (some (.ref f12))) (l12 : K.lookup f12 = some ⟨oc12, od12, .func (PySem.W.fnOf "_law_whole" "_law_whole" (defArgs s_law_whole) (defBody s_law_whole) (defScope s_law_whole) .none kV12 dc12 pm12 an12 cd12 ct12), sl12⟩) (c12 : PySem.W.codeIn K cd12 "_law_whole" = true) (k12 : PySem.W.keepIn K (.ref f12) = true)
    (a13 : PySem.W.nsIn K mainGlobals "law" = some (some (.ref f13))) (l13 : K.lookup f13 = some ⟨oc13, od13, .func (PySem.W.fnOf "law" "law" (defArgs s_law) (defBody s_law) (defScope s_law) .none kV13 dc13 pm13 an13 cd13 ct13), sl13⟩) (c13 : PySem.W.codeIn K cd13 "law" = true) (k13 : PySem.W.keepIn K (.ref f13) = true)
    {uc0 : Value} (x0 : PySem.W.nsIn K mainGlobals "FIGURES" = some (some uc0)) (y0 : RelV (tx [48, 49, 50, 51, 52, 53, 54, 55, 56, 57]) uc0)
    (z0 : PySem.W.nsIn K mainGlobals "range" = some none)
    (z1 : PySem.W.nsIn K mainGlobals "len" = some none)
    (z2 : PySem.W.nsIn K mainGlobals "min" = some none)
    (z3 : PySem.W.nsIn K mainGlobals "str" = some none)
    (z4 : PySem.W.nsIn K mainGlobals "isinstance" = some none)
    (z5 : PySem.W.nsIn K mainGlobals "int" = some none)
    (z6 : PySem.W.nsIn K mainGlobals "bool" = some none)
    (z7 : PySem.W.nsIn K mainGlobals "enumerate" = some none) :
    ∃ fd : FuncData, (∀ (s : Shared) (v : Value), BindsTo s fd ⟨[v], []⟩ [("_law_script", v)]) ∧ ∀ base : Heap, K.In base → base.Ns mainGlobals mg → FnOk l.prog w K mg base CX0 3 fa fd ["_law_script"] (sp_law K) := by
  have e := hfa.symm.trans (PySem.W.mg_of X G a13)
  cases e
  have F0 := fun_mk (st := s_law_mixed) l0 c0 k0
  have b0 := F0.binds (ps := ["_law_cell", "_law_k"]) fun _ _ _ _ _ _ us hl => match us, hl with | [_, _], _ => rfl
  have F1 := fun_mk (st := s_law_card) l1 c1 k1
  have b1 := F1.binds (ps := ["_law_script"]) fun _ _ _ _ _ _ us hl => match us, hl with | [_], _ => rfl
  have F2 := fun_mk (st := s_law_field) l2 c2 k2
  have b2 := F2.binds (ps := ["_law_cell", "_law_k"]) fun _ _ _ _ _ _ us hl => match us, hl with | [_, _], _ => rfl
  have F3 := fun_mk (st := s_law_power) l3 c3 k3
  have b3 := F3.binds (ps := ["_law_many"]) fun _ _ _ _ _ _ us hl => match us, hl with | [_], _ => rfl
  have F4 := fun_mk (st := s_law_value) l4 c4 k4
  have b4 := F4.binds (ps := ["_law_cell", "_law_number", "_law_width"]) fun _ _ _ _ _ _ us hl => match us, hl with | [_, _, _], _ => rfl
  have F5 := fun_mk (st := s_law_due) l5 c5 k5
  have b5 := F5.binds (ps := ["_law_card_here", "_law_field_here", "_law_value_here"]) fun _ _ _ _ _ _ us hl => match us, hl with | [_, _, _], _ => rfl
  have F6 := fun_mk (st := s_width_of) l6 c6 k6
  have b6 := F6.binds (ps := ["field"]) fun _ _ _ _ _ _ us hl => match us, hl with | [_], _ => rfl
  have F7 := fun_mk (st := s_ten_to) l7 c7 k7
  have b7 := F7.binds (ps := ["power"]) fun _ _ _ _ _ _ us hl => match us, hl with | [_], _ => rfl
  have F8 := fun_mk (st := s_punch_in) l8 c8 k8
  have b8 := F8.binds (ps := ["card", "field", "value"]) fun _ _ _ _ _ _ us hl => match us, hl with | [_, _, _], _ => rfl
  have F9 := fun_mk (st := s_number_by) l9 c9 k9
  have b9 := F9.binds (ps := ["figures"]) fun _ _ _ _ _ _ us hl => match us, hl with | [_], _ => rfl
  have F10 := fun_mk (st := s_part_of) l10 c10 k10
  have b10 := F10.binds (ps := ["card", "field"]) fun _ _ _ _ _ _ us hl => match us, hl with | [_, _], _ => rfl
  have F11 := fun_mk (st := s_number_of) l11 c11 k11
  have b11 := F11.binds (ps := ["card", "field"]) fun _ _ _ _ _ _ us hl => match us, hl with | [_, _], _ => rfl
  have F12 := fun_mk (st := s_law_whole) l12 c12 k12
  have b12 := F12.binds (ps := ["_law_found"]) fun _ _ _ _ _ _ us hl => match us, hl with | [_], _ => rfl
  have F13 := fun_mk (st := s_law) l13 c13 k13
  refine ⟨PySem.W.fnOf "law" "law" (defArgs s_law) (defBody s_law) (defScope s_law) .none kV13 dc13 pm13 an13 cd13 ct13, fun s v => .of_eq rfl, fun base _ _ => ?_⟩
  have C_FIGURES : Gc mg "FIGURES" (tx [48, 49, 50, 51, 52, 53, 54, 55, 56, 57]) := ⟨_, PySem.W.mg_of X G x0, y0⟩
  have B_range : Gb mg "range" := PySem.W.mg_none_of X G z0
  have B_len : Gb mg "len" := PySem.W.mg_none_of X G z1
  have B_min : Gb mg "min" := PySem.W.mg_none_of X G z2
  have B_str : Gb mg "str" := PySem.W.mg_none_of X G z3
  have B_isinstance : Gb mg "isinstance" := PySem.W.mg_none_of X G z4
  have B_int : Gb mg "int" := PySem.W.mg_none_of X G z5
  have B_bool : Gb mg "bool" := PySem.W.mg_none_of X G z6
  have B_enumerate : Gb mg "enumerate" := PySem.W.mg_none_of X G z7
  have G_law_mixed : Gd l.prog w K mg base CX0 1 "_law_mixed" ["_law_cell", "_law_k"] (sp_law_mixed K) := ⟨_, _, ok_law_mixed  F0 len_law_mixed rd_law_mixed, PySem.W.mg_of X G a0, k0, b0⟩
  have G_law_card : Gd l.prog w K mg base CX0 2 "_law_card" ["_law_script"] (sp_law_card K) := ⟨_, _, ok_law_card G_law_mixed B_range B_len F1 len_law_card rd_law_card, PySem.W.mg_of X G a1, k1, b1⟩
  have G_law_field : Gd l.prog w K mg base CX0 2 "_law_field" ["_law_cell", "_law_k"] (sp_law_field K) := ⟨_, _, ok_law_field G_law_mixed B_min F2 len_law_field rd_law_field, PySem.W.mg_of X G a2, k2, b2⟩
  have G_law_power : Gd l.prog w K mg base CX0 1 "_law_power" ["_law_many"] (sp_law_power K) := ⟨_, _, ok_law_power B_range F3 len_law_power rd_law_power, PySem.W.mg_of X G a3, k3, b3⟩
  have G_law_value : Gd l.prog w K mg base CX0 2 "_law_value" ["_law_cell", "_law_number", "_law_width"] (sp_law_value K) := ⟨_, _, ok_law_value G_law_power F4 len_law_value rd_law_value, PySem.W.mg_of X G a4, k4, b4⟩
  have G_law_due : Gd l.prog w K mg base CX0 2 "_law_due" ["_law_card_here", "_law_field_here", "_law_value_here"] (sp_law_due K) := ⟨_, _, ok_law_due G_law_power B_range F5 len_law_due rd_law_due, PySem.W.mg_of X G a5, k5, b5⟩
  have G_width_of : Gd l.prog w K mg base CX0 1 "width_of" ["field"] (sp_width_of K) := ⟨_, _, ok_width_of  F6 len_width_of rd_width_of, PySem.W.mg_of X G a6, k6, b6⟩
  have G_ten_to : Gd l.prog w K mg base CX0 1 "ten_to" ["power"] (sp_ten_to K) := ⟨_, _, ok_ten_to B_range F7 len_ten_to rd_ten_to, PySem.W.mg_of X G a7, k7, b7⟩
  have G_punch_in : Gd l.prog w K mg base CX0 2 "punch_in" ["card", "field", "value"] (sp_punch_in K) := ⟨_, _, ok_punch_in G_width_of G_ten_to B_str F8 len_punch_in rd_punch_in, PySem.W.mg_of X G a8, k8, b8⟩
  have G_number_by : Gd l.prog w K mg base CX0 1 "number_by" ["figures"] (sp_number_by K) := ⟨_, _, ok_number_by C_FIGURES F9 len_number_by rd_number_by, PySem.W.mg_of X G a9, k9, b9⟩
  have G_part_of : Gd l.prog w K mg base CX0 1 "part_of" ["card", "field"] (sp_part_of K) := ⟨_, _, ok_part_of  F10 len_part_of rd_part_of, PySem.W.mg_of X G a10, k10, b10⟩
  have G_number_of : Gd l.prog w K mg base CX0 2 "number_of" ["card", "field"] (sp_number_of K) := ⟨_, _, ok_number_of G_part_of G_number_by C_FIGURES F11 len_number_of rd_number_of, PySem.W.mg_of X G a11, k11, b11⟩
  have G_law_whole : Gd l.prog w K mg base CX0 1 "_law_whole" ["_law_found"] (sp_law_whole K) := ⟨_, _, ok_law_whole B_isinstance B_int B_bool F12 len_law_whole rd_law_whole, PySem.W.mg_of X G a12, k12, b12⟩
  exact ok_law (P := l.prog) (w := w) (base := base) G_law_card G_law_field G_law_value G_law_mixed G_law_due G_punch_in G_number_of G_law_whole G_law_power B_enumerate B_isinstance B_str F13 len_law rd_law
theorem walk {l : PySem.W.OpenLaw} {q : Program} {loose : List Str} {XP : (Str → Option Value) → Heap → Prop} {YP : World → Heap → Prop} {d : DefRec} {K : Params → PySem.W.Frag} (hn : l.most = some 63) (hdf : d.params.defaults = [])
    (hY : ∀ (w : World) (h : Heap), YP w h → (K w.params).In h)
    (F : ∀ (w : World) (mg : Str → Option Value) (fa : Addr) (h : Heap), (K w.params).In h → h.Ns mainGlobals mg → mg d.name = some (.ref fa) →
      ∃ fd : FuncData, (∀ (s : Shared) (u : Value), BindsTo s fd ⟨[u], []⟩ [("_law_script", u)]) ∧ ∀ base : Heap, (K w.params).In base → base.Ns mainGlobals mg → FnOk l.prog w (K w.params) mg base CX0 3 fa fd ["_law_script"] (sp_law (K w.params))) :
    PySem.W.WalkO q loose XP YP l.row.toRowW d [] (fun f vs => PySem.call f vs) :=
  L2.walk_of (n := 63) (k := 3) (x := "_law_script") (CX := fun _ => CX0) (sp := fun w => sp_law (K w.params)) hn (by decide) hdf ⟨rfl, by decide, by decide⟩ hY F (fun _ _ a ns hl _ hS => ⟨a, ns, rfl, hS, hl, fun _ => rfl⟩) fun _ _ _ _ _ z => z
end K05
open PySem PySem.W PyProof.Rows
set_option maxRecDepth 100000 in
set_option maxHeartbeats 0 in
theorem PySem.Challenge.cw_cardshop_k05_punched_holds : PySem.Challenge.rw_cardshop_k05_punched.Holds := by
  w_on; o_law; k_head; (case hw => w_witness2)
  k_fill
  refine K05.walk (l := PySem.Challenge.rw_cardshop_k05_punched) rfl rfl (fun w h Y => PySem.W.kIn_of Y) ?F
  case F =>
    intro w mg fa h KX G hmg
    refine' K05.all_mk KX G hmg ?a0 ?l0 ?c0 ?k0 ?a1 ?l1 ?c1 ?k1 ?a2 ?l2 ?c2 ?k2 ?a3 ?l3 ?c3 ?k3 ?a4 ?l4 ?c4 ?k4 ?a5 ?l5 ?c5 ?k5 ?a6 ?l6 ?c6 ?k6 ?a7 ?l7 ?c7 ?k7 ?a8 ?l8 ?c8 ?k8 ?a9 ?l9 ?c9 ?k9 ?a10 ?l10 ?c10 ?k10 ?a11 ?l11 ?c11 ?k11 ?a12 ?l12 ?c12 ?k12 ?a13 ?l13 ?c13 ?k13 ?x0 ?y0 ?z0 ?z1 ?z2 ?z3 ?z4 ?z5 ?z6 ?z7
    (case a0 => k_is)
    (case l0 => k_is)
    (case c0 => k_is)
    (case k0 => k_is)
    (case a1 => k_is)
    (case l1 => k_is)
    (case c1 => k_is)
    (case k1 => k_is)
    (case a2 => k_is)
    (case l2 => k_is)
    (case c2 => k_is)
    (case k2 => k_is)
    (case a3 => k_is)
    (case l3 => k_is)
    (case c3 => k_is)
    (case k3 => k_is)
    (case a4 => k_is)
    (case l4 => k_is)
    (case c4 => k_is)
    (case k4 => k_is)
    (case a5 => k_is)
    (case l5 => k_is)
    (case c5 => k_is)
    (case k5 => k_is)
    (case a6 => k_is)
    (case l6 => k_is)
    (case c6 => k_is)
    (case k6 => k_is)
    (case a7 => k_is)
    (case l7 => k_is)
    (case c7 => k_is)
    (case k7 => k_is)
    (case a8 => k_is)
    (case l8 => k_is)
    (case c8 => k_is)
    (case k8 => k_is)
    (case a9 => k_is)
    (case l9 => k_is)
    (case c9 => k_is)
    (case k9 => k_is)
    (case a10 => k_is)
    (case l10 => k_is)
    (case c10 => k_is)
    (case k10 => k_is)
    (case a11 => k_is)
    (case l11 => k_is)
    (case c11 => k_is)
    (case k11 => k_is)
    (case a12 => k_is)
    (case l12 => k_is)
    (case c12 => k_is)
    (case k12 => k_is)
    (case a13 => k_is)
    (case l13 => k_is)
    (case c13 => k_is)
    (case k13 => k_is)
    (case x0 => k_is)
    (case y0 => exact ⟨_, rfl⟩)
    (case z0 => k_is)
    (case z1 => k_is)
    (case z2 => k_is)
    (case z3 => k_is)
    (case z4 => k_is)
    (case z5 => k_is)
    (case z6 => k_is)
    (case z7 => k_is)
#print axioms PySem.Challenge.cw_cardshop_k05_punched_holds
