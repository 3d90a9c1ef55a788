import PyProof.Rows.All
import Wide.All
import OpenK.AllK
import Wide.FinOn
import Lean
import PyProof.EqAt
import PyProof.EqKinds
import PyProof.TupleCall
import PySem.Challenge.RW_facework_k04_phrases_known
set_option Elab.async false
set_option linter.all false
set_option maxRecDepth 100000
/-! THE HAND LAYER, for ints, bools, texts, own classes, LISTS and tuples (index, slices, in, append, pop ..), calls, loops. Paste it whole ahead of your own text; what your proof does not reach may be deleted. -/
namespace L2
open PySem PySem.Spec PyProof.Rows

/-- a key: an int or a str -/
abbrev Key := Sum Int Str
def keyIs : Key → Value → Bool
  | .inl k, v => Value.isInt k v
  | .inr x, v => Value.isStrOf x v
def keyH (w : World) : Key → Int
  | .inl k => hashInt k
  | .inr x => hashStr w x
theorem keyIs_shape : ∀ {k : Key} {v : Value}, keyIs k v = true → (∃ i t, k = Sum.inl i ∧ v = Value.int i t) ∨ (∃ x t, k = Sum.inr x ∧ v = Value.str x t)
  | .inl i, v, h => by
    obtain ⟨t, e⟩ := Value.isInt_shape (k := i) (v := v) h
    exact .inl ⟨i, t, rfl, e⟩
  | .inr x, v, h => by
    obtain ⟨t, e⟩ := Value.isStrOf_shape (x := x) (v := v) h
    exact .inr ⟨x, t, rfl, e⟩
theorem keyIs_int (i : Int) (t : Tok) : keyIs (.inl i) (.int i t) = true := by simp [keyIs, Value.isInt]
theorem keyIs_str (x : Str) (t : Tok) : keyIs (.inr x) (.str x t) = true := by simp [keyIs, Value.isStrOf]
theorem key_ll (a b : Int) : decide ((Sum.inl a : Key) = Sum.inl b) = (a == b) := by
  by_cases e : a = b
  · subst e; simp
  · have h : ¬ (Sum.inl a : Key) = Sum.inl b := fun q => e (Sum.inl.inj q)
    rw [decide_eq_false h]
    exact (beq_eq_false_iff_ne.mpr e).symm
theorem key_rr (a b : Str) : decide ((Sum.inr a : Key) = Sum.inr b) = decide (a = b) := by
  by_cases e : a = b
  · subst e; simp
  · have h : ¬ (Sum.inr a : Key) = Sum.inr b := fun q => e (Sum.inr.inj q)
    rw [decide_eq_false h, decide_eq_false e]
theorem key_lr (a : Int) (b : Str) : decide ((Sum.inl a : Key) = Sum.inr b) = false := decide_eq_false (fun q => nomatch q)
theorem key_rl (a : Str) (b : Int) : decide ((Sum.inr a : Key) = Sum.inl b) = false := decide_eq_false (fun q => nomatch q)

def mixKind (prog : Program) (w : World) : PySem.KeyKind prog w Key where
  is := keyIs
  hash := keyH w
  inj := fun v a b ha hb => by
    rcases keyIs_shape ha with ⟨i, t, rfl, rfl⟩ | ⟨x, t, rfl, rfl⟩
    · rcases keyIs_shape hb with ⟨j, u, rfl, e⟩ | ⟨y, u, rfl, e⟩
      · injection e with e1 _; rw [e1]
      · exact nomatch e
    · rcases keyIs_shape hb with ⟨j, u, rfl, e⟩ | ⟨y, u, rfl, e⟩
      · exact nomatch e
      · injection e with e1 _; rw [e1]
  byValue := fun k v h => by
    rcases keyIs_shape h with ⟨i, t, rfl, rfl⟩ | ⟨x, t, rfl, rfl⟩ <;> rfl
  pyHash := fun hv h => by
    rcases keyIs_shape hv with ⟨i, t, rfl, rfl⟩ | ⟨x, t, rfl, rfl⟩
    · exact wpAny_pyHash_int h
    · exact wpAny_pyHash_str h
  eqBool := fun hu hv h => by
    rcases keyIs_shape hu with ⟨i, t, rfl, rfl⟩ | ⟨x, t, rfl, rfl⟩
    · rcases keyIs_shape hv with ⟨j, u, rfl, rfl⟩ | ⟨y, u, rfl, rfl⟩
      · rw [key_ll] at h; exact wpAny_eqBool_int h
      · rw [key_lr] at h; exact SeqAt.EqAt.int_str i t y u _ _ _ _ h
    · rcases keyIs_shape hv with ⟨j, u, rfl, rfl⟩ | ⟨y, u, rfl, rfl⟩
      · rw [key_rl] at h; exact SeqAt.EqAt.str_int x t j u _ _ _ _ h
      · rw [key_rr] at h; exact wpAny_eqBool_str h
  «strs» := fun k x t v h => by
    rcases keyIs_shape h with ⟨i, u, rfl, e⟩ | ⟨y, u, rfl, e⟩
    · exact nomatch e
    · injection e with e1 _
      subst e1
      cases v <;> rfl

theorem mixKind_is (prog : Program) (w : World) (k : Key) (v : Value) : (mixKind prog w).is k v = keyIs k v := rfl
theorem mixKind_int (prog : Program) (w : World) (i : Int) (t : Tok) : (mixKind prog w).is (.inl i) (.int i t) = true := keyIs_int i t
theorem mixKind_str (prog : Program) (w : World) (x : Str) (t : Tok) : (mixKind prog w).is (.inr x) (.str x t) = true := keyIs_str x t
end L2

namespace L2
open PySem PySem.Spec PyProof.Rows

/-- a value, without the heap -/
inductive V where
  | non | bl (b : Bool) | int (i : Int) | str (x : Str) | byt (b : Array UInt8) | flt (b : UInt64) | ref (a : Addr) | ty (n : String)
  deriving DecidableEq

def RelV : V → Value → Prop
  | .non, u => u = Value.none
  | .bl b, u => u = Value.bool b
  | .int i, u => ∃ t, u = Value.int i t
  | .str x, u => ∃ t, u = Value.str x t
  | .byt b, u => ∃ t, u = Value.bytes b t
  | .flt b, u => ∃ t, u = Value.float b t
  | .ref a, u => u = Value.ref a
  | .ty n, u => u = Value.type n

abbrev Vals : List V → List Value → Prop := Paired RelV
theorem Vals.length {xs : List V} {us : List Value} (r : Vals xs us) : xs.length = us.length := Paired.length r
theorem Vals.get : ∀ {xs : List V} {us : List Value} {i : Nat} {x : V}, Vals xs us → xs[i]? = some x → ∃ u, us[i]? = some u ∧ RelV x u
  | _, _, _, _, .nil, e => by simp at e
  | _, _, 0, _, .cons r _, e => by simp at e; subst e; exact ⟨_, rfl, r⟩
  | _, _, i + 1, x, .cons _ t, e => by
    obtain ⟨u, h1, h2⟩ := Vals.get (i := i) (x := x) t (by simpa using e)
    exact ⟨u, by simpa using h1, h2⟩
theorem Vals.set {x : V} {u : Value} (r : RelV x u) : ∀ {xs : List V} {us : List Value} (i : Nat), Vals xs us → Vals (xs.set i x) (us.set i u)
  | _, _, _, .nil => .nil
  | _, _, 0, .cons _ t => .cons r t
  | _, _, i + 1, .cons q t => .cons q (Vals.set r i t)
theorem Vals.append : ∀ {xs ys : List V} {us ws : List Value}, Vals xs us → Vals ys ws → Vals (xs ++ ys) (us ++ ws)
  | _, _, _, _, .nil, s => s
  | _, _, _, _, .cons r t, s => .cons r (Vals.append t s)
theorem Vals.take : ∀ {xs : List V} {us : List Value} (n : Nat), Vals xs us → Vals (xs.take n) (us.take n)
  | _, _, 0, _ => .nil
  | _, _, _ + 1, .nil => .nil
  | _, _, n + 1, .cons r t => .cons r (Vals.take n t)
theorem Vals.drop : ∀ {xs : List V} {us : List Value} (n : Nat), Vals xs us → Vals (xs.drop n) (us.drop n)
  | _, _, 0, r => r
  | _, _, _ + 1, .nil => .nil
  | _, _, n + 1, .cons _ t => Vals.drop n t
theorem Vals.none_of : ∀ {xs : List V} {us : List Value} {i : Nat}, Vals xs us → xs[i]? = none → us[i]? = none := fun {xs us i} r e => by
  have h1 := r.length
  have h2 : xs.length ≤ i := List.getElem?_eq_none_iff.mp e
  exact List.getElem?_eq_none_iff.mpr (by omega)

def RelO : Option V → Option Value → Prop
  | some v, some u => RelV v u
  | none, none => True
  | _, _ => False
def KV {κ : Type} : List (κ × V) → List (κ × Value) → Prop := Paired fun (p : κ × V) (q : κ × Value) => p.1 = q.1 ∧ RelV p.2 q.2

/-- a key of a dict (00_mix): an int or a text -/
def kV : Key → V
  | .inl i => .int i
  | .inr x => .str x

/-- what stands at a tracked address -/
inductive HO where
  /-- a list -/
  | lst (xs : List V)
  /-- a tuple (never changes) -/
  | tup (xs : List V)
  /-- a dict whose keys are ints and texts; one whose keys are tuples of ints and texts (the empty one is both) -/
  | dK (kvs : List (Key × V)) | dT (kvs : List (List Key × V))
  /-- a set of ints: its members, its size -/
  | set (S : Int → Bool) (n : Nat)
  /-- an instance of the class at C, its dict at dx, its attributes -/
  | ins (C dx : Addr) (fs : List (Str × V))
  /-- the dict of the instance at x -/
  | own (x : Addr)
  /-- the dict of an exception -/
  | xd (fs : List (Str × V))
  /-- a bound method, f of x -/
  | met (f x : Addr)
  /-- a range object lo, lo + 1, .. below hi -/
  | rng (lo hi : Int)
  /-- a thing that is known to the object (the script; a dict while a loop walks it): read, never written while it is so -/
  | frz (o : Obj) (u : HO)
  /-- a code object's table -/
  | tbl (ps : Array Value)
  /-- any other thing, by what is true of its one object (a def of one's own: SetO a S n := HO.ext fun h => ..) -/
  | ext (φ : Heap → Prop)

abbrev Hp := Addr → Option HO
def upd (H : Hp) (a : Addr) (o : HO) : Hp := fun b => if b = a then some o else H b
theorem upd_same {H : Hp} {a : Addr} {o : HO} : upd H a o a = some o := by unfold upd; rw [if_pos rfl]
theorem upd_ne {H : Hp} {a b : Addr} {o : HO} (h : b ≠ a) : upd H a o b = H b := by unfold upd; rw [if_neg h]
theorem upd_upd {H : Hp} {a : Addr} {o u : HO} : upd (upd H a o) a u = upd H a u := by
  funext b; unfold upd; split <;> rfl
/-- two objects of different content stand apart -/
theorem ne_of {H : Hp} {a b : Addr} {o u : HO} (h : H a = some o) (h' : H b = some u) (d : o ≠ u) : a ≠ b := by
  intro e; subst e; rw [h] at h'; exact d (Option.some.inj h')
theorem ne_of_none {H : Hp} {a b : Addr} {o : HO} (h : H a = some o) (h' : H b = none) : a ≠ b := by
  intro e; subst e; rw [h] at h'; cases h'

section
variable (P : Program) (w : World)
def ObjOk (H : Hp) (h : Heap) (a : Addr) : HO → Prop
  | .lst xs => xs.length ≤ sizeLine ∧ ∃ (its : List Value) (n : Nat), Vals xs its ∧ h.get? a = some { cls := .type "list", data := .seq its.toArray n }
  | .tup xs => xs.length ≤ sizeLine ∧ ∃ its : List Value, Vals xs its ∧ IsTup h a its.toArray
  | .dK kvs => kvs.length ≤ sizeLine ∧ (a == sysModules) = false ∧ ∃ vs, KV kvs vs ∧ h.DictOf (mixKind P w) a vs
  | .dT kvs => kvs.length ≤ sizeLine ∧ (a == sysModules) = false ∧ ∃ xs : List (List Key × Addr × Value),
      Paired (fun (p : List Key × V) (q : List Key × Addr × Value) => p.1 = q.1 ∧ H q.2.1 = some (.tup (p.1.map kV)) ∧ RelV p.2 q.2.2) kvs xs ∧
      ∃ o es ep, h.get? a = some o ∧ o.ExactDict ∧ o.data = .dict es ep ∧ es.toList = xs.map (entryOfKey (tupleKind (mixKind P w))) ∧ (xs.map (·.1)).Nodup
  | .set S n => h.SetOf (intKind P w) a S n
  | .ins C dx fs => H dx = some (.own a) ∧ fs.length ≤ 1000 ∧ dx ≠ a ∧ h.get? a = some (PySem.W.instObj C dx) ∧
      ∃ mA, h.Ns1 dx mA ∧ (∀ f, RelO (fs.lookup f) (mA f)) ∧ PySem.Within mA (fs.map (·.1))
  | .own _ => ∃ o, h.get? a = some o
  | .xd fs => ∃ mA, h.Ns1 a mA ∧ ∀ f, RelO (fs.lookup f) (mA f)
  | .rng lo hi => ∃ t u v, h.get? a = some { cls := .type "range", data := .fields #[.int lo t, .int hi u, .int 1 v] }
  | .frz o u => h.get? a = some o ∧ ObjOk H h a u
  | .tbl ps => h.get? a = some { cls := .none, data := .fields ps }
  | .met f x => h.get? a = some (PySem.W.methodObj (.ref f) (.ref x))
  | .ext φ => φ h ∧ (∃ o, h.get? a = some o) ∧ ∀ h1 h2 : Heap, φ h1 → (∀ o, h1.get? a = some o → h2.get? a = some o) → φ h2
/-- the abstract heap is held -/
def HOk (H : Hp) (h : Heap) : Prop := ∀ a o, H a = some o → ObjOk P w H h a o
end

section
variable {P : Program} {w : World} {H H' : Hp} {h h' : Heap} {a : Addr} {o : HO}
theorem ObjOk.lt (x : ObjOk P w H h a o) : a < h.objs.size := by
  cases o with
  | lst xs => obtain ⟨_, _, _, _, e⟩ := x; exact Heap.lt_size e
  | tup xs => obtain ⟨_, _, _, p⟩ := x; exact p.lt
  | dK kvs => obtain ⟨_, _, _, _, o, _, _, e, _⟩ := x; exact Heap.lt_size e
  | dT kvs => obtain ⟨_, _, _, _, o, _, _, e, _⟩ := x; exact Heap.lt_size e
  | set S n => obtain ⟨o, _, _, _, e, _⟩ := x; exact Heap.lt_size e
  | ins C dx fs => obtain ⟨_, _, _, e, _⟩ := x; exact Heap.lt_size e
  | own y => obtain ⟨_, e⟩ := x; exact Heap.lt_size e
  | xd fs => obtain ⟨_, ⟨_, _, _, e, _⟩, _⟩ := x; exact Heap.lt_size e
  | rng lo hi => obtain ⟨_, _, _, e⟩ := x; exact Heap.lt_size e
  | frz ob u => obtain ⟨e, _⟩ := x; exact Heap.lt_size e
  | tbl ps => exact Heap.lt_size (show h.get? a = some _ from x)
  | met f y => exact Heap.lt_size (show h.get? a = some _ from x)
  | ext φ => obtain ⟨_, ⟨_, e⟩, _⟩ := x; exact Heap.lt_size e
theorem Paired.mapP {α β : Type} {F G : α → β → Prop} : ∀ {l₁ : List α} {l₂ : List β}, Paired F l₁ l₂ → (∀ a b, F a b → G a b) → Paired G l₁ l₂
  | _, _, .nil, _ => .nil
  | _, _, .cons r t, f => .cons (f _ _ r) (Paired.mapP t f)
theorem Paired.imp' {α β : Type} {F G : α → β → Prop} (f : ∀ a b, F a b → G a b) {l₁ : List α} {l₂ : List β} (r : Paired F l₁ l₂) : Paired G l₁ l₂ := Paired.mapP r f
/-- what an object's description leans on: its own object, its own dict, the tuples -/
theorem ObjOk.stay (x : ObjOk P w H h a o) (k : ∀ b u, (b = a ∨ H b = some (.own a)) → h.get? b = some u → h'.get? b = some u)
    (ho : ∀ b, H b = some (.own a) → H' b = some (.own a)) (ht : ∀ b xs, H b = some (.tup xs) → H' b = some (.tup xs)) : ObjOk P w H' h' a o := by
  induction o with
  | lst xs => obtain ⟨z, its, n, r, e⟩ := x; exact ⟨z, its, n, r, k _ _ (.inl rfl) e⟩
  | tup xs => obtain ⟨z, its, r, ob, e, c⟩ := x; exact ⟨z, its, r, ob, k _ _ (.inl rfl) e, c⟩
  | dK kvs => obtain ⟨z, y, vs, r, ob, es, ep, e, c⟩ := x; exact ⟨z, y, vs, r, ob, es, ep, k _ _ (.inl rfl) e, c⟩
  | dT kvs =>
    obtain ⟨z, y, xs, r, ob, es, ep, e, c⟩ := x
    exact ⟨z, y, xs, Paired.mapP r fun p q z => ⟨z.1, ht _ _ z.2.1, z.2.2⟩, ob, es, ep, k _ _ (.inl rfl) e, c⟩
  | set S n => obtain ⟨ob, es, ep, t, e, c⟩ := x; exact ⟨ob, es, ep, t, k _ _ (.inl rfl) e, c⟩
  | ins C dx fs =>
    obtain ⟨d, z, ne, e, mA, ⟨od, es, ep, e2, c⟩, r⟩ := x
    exact ⟨ho _ d, z, ne, k _ _ (.inl rfl) e, mA, ⟨od, es, ep, k _ _ (.inr d) e2, c⟩, r⟩
  | own y => obtain ⟨ob, e⟩ := x; exact ⟨ob, k _ _ (.inl rfl) e⟩
  | xd fs => obtain ⟨mA, ⟨od, es, ep, e, c⟩, r⟩ := x; exact ⟨mA, ⟨od, es, ep, k _ _ (.inl rfl) e, c⟩, r⟩
  | rng lo hi => obtain ⟨t, u, v, e⟩ := x; exact ⟨t, u, v, k _ _ (.inl rfl) e⟩
  | frz ob u ih => obtain ⟨e, q⟩ := x; exact ⟨k _ _ (.inl rfl) e, ih q⟩
  | tbl ps =>
    have e : h.get? a = some { cls := .none, data := .fields ps } := x
    show h'.get? a = some { cls := .none, data := .fields ps }
    exact k a _ (.inl rfl) e
  | met f y =>
    have e : h.get? a = some (PySem.W.methodObj (.ref f) (.ref y)) := x
    show h'.get? a = some (PySem.W.methodObj (.ref f) (.ref y))
    exact k a _ (.inl rfl) e
  | ext φ => obtain ⟨p, ⟨o, e⟩, st⟩ := x; exact ⟨st _ _ p fun o q => k _ _ (.inl rfl) q, ⟨o, k _ _ (.inl rfl) e⟩, st⟩
theorem HOk.lt (x : HOk P w H h) (e : H a = some o) : a < h.objs.size := (x a o e).lt
theorem HOk.fresh (x : HOk P w H h) (e : h.objs.size ≤ a) : H a = none := by
  cases q : H a with
  | none => rfl
  | some u => exact absurd (Nat.lt_of_lt_of_le (x.lt q) e) (Nat.lt_irrefl _)
/-- every object of the heap is kept -/
theorem HOk.kept (x : HOk P w H h) (k : ∀ b u, h.get? b = some u → h'.get? b = some u) : HOk P w H h' := fun a o e =>
  (x a o e).stay (fun b u _ q => k b u q) (fun _ q => q) fun _ _ q => q
/-- a new object is laid and tracked -/
theorem HOk.laid (x : HOk P w H h) (k : ∀ b u, h.get? b = some u → h'.get? b = some u) (hp : h.objs.size ≤ a) (new : ObjOk P w (upd H a o) h' a o) : HOk P w (upd H a o) h' := fun b u e => by
  have hn := x.fresh hp
  by_cases hb : b = a
  · subst hb; rw [upd_same] at e; cases e; exact new
  · rw [upd_ne hb] at e
    exact (x b u e).stay (fun c v _ q => k c v q) (fun c q => by rw [upd_ne (ne_of_none q hn)]; exact q) fun c xs q => by rw [upd_ne (ne_of_none q hn)]; exact q
end

/-- what may be read as u: it is u, or a known u -/
def Rd (H : Hp) (a : Addr) (u : HO) : Prop := H a = some u ∨ ∃ o, H a = some (.frz o u)
theorem Rd.of {H : Hp} {a : Addr} {u : HO} (h : H a = some u) : Rd H a u := .inl h
theorem Rd.ok {P : Program} {w : World} {H : Hp} {h : Heap} {a : Addr} {u : HO} (r : Rd H a u) (x : HOk P w H h) : ObjOk P w H h a u := by
  rcases r with r | ⟨o, r⟩
  · exact x a u r
  · obtain ⟨_, q⟩ := x a _ r
    exact q
/-- what may be written -/
def Mut : Option HO → Prop
  | some (.lst _) => True
  | some (.dK _) => True
  | some (.dT _) => True
  | some (.set _ _) => True
  | some (.ins _ _ _) => True
  | some (.ext _) => True
  | _ => False
section
variable {P : Program} {w : World} {H : Hp} {h h' : Heap} {x e : Addr} {o' : HO}
/-- the object at e is changed: x itself, or the dict of the instance x -/
theorem HOk.write (ok : HOk P w H h) (mu : Mut (H x)) (he : e = x ∨ H e = some (.own x)) (k : ∀ b u, b ≠ e → h.get? b = some u → h'.get? b = some u) (heo : ∃ u, h'.get? e = some u)
    (new : ObjOk P w (upd H x o') h' x o') : HOk P w (upd H x o') h' := fun b u q => by
  have nown : ∀ c y, H c = some (.own y) → c ≠ x := fun c y r z => by subst z; rw [r] at mu; exact mu
  have ntup : ∀ c xs, H c = some (.tup xs) → c ≠ x := fun c xs r z => by subst z; rw [r] at mu; exact mu
  by_cases hb : b = x
  · subst hb; rw [upd_same] at q; cases q; exact new
  · rw [upd_ne hb] at q
    by_cases hbe : b = e
    · have q' : H b = some (.own x) := by
        rcases he with z | z
        · exact absurd (hbe.trans z) hb
        · rw [hbe]; exact z
      rw [q] at q'; cases q'
      obtain ⟨v, hv⟩ := heo
      exact ⟨v, by rw [hbe]; exact hv⟩
    · refine (ok b u q).stay (fun c v hc r => k c v ?_ r) (fun c r => by rw [upd_ne (nown c b r)]; exact r) fun c xs r => by rw [upd_ne (ntup c xs r)]; exact r
      rcases hc with rfl | hc
      · exact hbe
      · rintro rfl
        rcases he with z | z
        · exact nown c b hc z
        · rw [hc] at z; cases z; exact hb rfl
end

/-! ### kept unless tracked; of the frames at fs (the callers') the slots may change (an exception that passes writes there); of the records at ex (iterators) nothing is said -/
structure Un (fs ex : List Addr) (H H' : Hp) (h h' : Heap) : Prop where
  keep : ∀ b o, h.get? b = some o → H b = none → b ∉ fs → b ∉ ex → h'.get? b = some o
  slot : ∀ b o, h.get? b = some o → H b = none → b ∈ fs → b ∉ ex → ∃ sl, h'.get? b = some { o with slots := sl }
  free : ∀ b o, h.get? b = some o → H b = none → b ∉ ex → H' b = none
  there : ∀ b o, h.get? b = some o → b ∉ ex → ∃ o', h'.get? b = some o'
  tups : ∀ b xs, H b = some (.tup xs) → H' b = some (.tup xs)
  frzs : ∀ b o u, H b = some (.frz o u) → H' b = some (.frz o u)
  tbls : ∀ b ps, H b = some (.tbl ps) → ∃ more, H' b = some (.tbl (ps ++ more))
section
variable {fs fs' ex ex' : List Addr} {H H1 H2 : Hp} {h h1 h2 h' : Heap} {a x e : Addr} {o : HO}
theorem Un.any (u : Un fs ex H H1 h h1) {b : Addr} {ob : Obj} (q : h.get? b = some ob) (n : H b = none) (hx : b ∉ ex) : ∃ sl, h1.get? b = some { ob with slots := sl } := by
  by_cases hb : b ∈ fs
  · exact u.slot b ob q n hb hx
  · exact ⟨ob.slots, u.keep b ob q n hb hx⟩
theorem Un.trans (a : Un fs ex H H1 h h1) (b : Un fs ex H1 H2 h1 h2) : Un fs ex H H2 h h2 where
  keep := fun c ob q n hc hx => b.keep c ob (a.keep c ob q n hc hx) (a.free c ob q n hx) hc hx
  slot := fun c ob q n hc hx => by
    obtain ⟨sl, e1⟩ := a.slot c ob q n hc hx
    obtain ⟨sl', e2⟩ := b.slot c _ e1 (a.free c ob q n hx) hc hx
    exact ⟨sl', e2⟩
  free := fun c ob q n hx => by
    obtain ⟨o', e1⟩ := a.there c ob q hx
    exact b.free c o' e1 (a.free c ob q n hx) hx
  there := fun c ob q hx => by
    obtain ⟨o', e1⟩ := a.there c ob q hx
    exact b.there c o' e1 hx
  tups := fun c xs q => b.tups c xs (a.tups c xs q)
  frzs := fun c ob xs q => b.frzs c ob xs (a.frzs c ob xs q)
  tbls := fun c ps q => by
    obtain ⟨m1, e1⟩ := a.tbls c ps q
    obtain ⟨m2, e2⟩ := b.tbls c _ e1
    exact ⟨m1 ++ m2, by rw [e2, Array.append_assoc]⟩
theorem Un.kept (k : ∀ b u, h.get? b = some u → h'.get? b = some u) : Un fs ex H H h h' :=
  ⟨fun b ob q _ _ _ => k b ob q, fun b ob q _ _ _ => ⟨ob.slots, k b ob q⟩, fun _ _ _ n _ => n, fun b ob q _ => ⟨ob, k b ob q⟩, fun _ _ q => q, fun _ _ _ q => q, fun _ ps q => ⟨#[], by rw [q]; simp⟩⟩
theorem Un.refl : Un fs ex H H h h := Un.kept fun _ _ q => q
theorem Un.laid (k : ∀ b u, h.get? b = some u → h'.get? b = some u) (hp : h.objs.size ≤ a) (hn : H a = none) : Un fs ex H (upd H a o) h h' where
  keep := fun b u q _ _ _ => k b u q
  slot := fun b u q _ _ _ => ⟨u.slots, k b u q⟩
  free := fun b u q n _ => by rw [upd_ne (Nat.ne_of_lt (Nat.lt_of_lt_of_le (Heap.lt_size q) hp))]; exact n
  there := fun b u q _ => ⟨u, k b u q⟩
  tups := fun b xs q => by rw [upd_ne (ne_of_none q hn)]; exact q
  frzs := fun b u xs q => by rw [upd_ne (ne_of_none q hn)]; exact q
  tbls := fun b ps q => ⟨#[], by rw [upd_ne (ne_of_none q hn), q]; simp⟩
theorem Un.write (mu : Mut (H x)) (he : e = x ∨ H e = some (.own x)) (k : ∀ b u, b ≠ e → h.get? b = some u → h'.get? b = some u) (heo : ∃ u, h'.get? e = some u) : Un fs ex H (upd H x o) h h' := by
  have hx : ∀ b, H b = none → b ≠ x := fun b n z => by subst z; rw [n] at mu; exact mu
  have hb : ∀ b, H b = none → b ≠ e := fun b n z => by
    subst z
    rcases he with r | r
    · exact hx b n r
    · rw [n] at r; cases r
  have hm : ∀ b u, H b = some u → ¬ Mut (some u) → b ≠ x := fun b u q nm z => by subst z; rw [q] at mu; exact nm mu
  refine ⟨fun b u q n _ _ => k b u (hb b n) q, fun b u q n _ _ => ⟨u.slots, k b u (hb b n) q⟩, fun b u q n _ => by rw [upd_ne (hx b n)]; exact n, fun b u q _ => ?_,
    fun b xs q => by rw [upd_ne (hm b _ q fun z => z)]; exact q, fun b u xs q => by rw [upd_ne (hm b _ q fun z => z)]; exact q, fun b ps q => ⟨#[], by rw [upd_ne (hm b _ q fun z => z), q]; simp⟩⟩
  by_cases hbe : b = e
  · subst hbe; exact heo
  · exact ⟨u, k b u hbe q⟩
theorem Un.mono (u : Un fs ex H H1 h h1) (hs : ∀ b ∈ fs, b ∈ fs') (hx : ∀ b ∈ ex, b ∈ ex') : Un fs' ex' H H1 h h1 :=
  ⟨fun b ob q n hb he => u.keep b ob q n (fun z => hb (hs b z)) fun z => he (hx b z), fun _ _ q n _ he => u.any q n fun z => he (hx _ z), fun b ob q n he => u.free b ob q n fun z => he (hx b z), fun b ob q he => u.there b ob q fun z => he (hx b z), u.tups, u.frzs, u.tbls⟩
end

/-! ### the heap without what is tracked -/
def trk (h : Heap) (H : Hp) : List Addr := (List.range h.objs.size).filter fun a => (H a).isSome
def hidT (h : Heap) (H : Hp) : Heap := PySem.W.hideAll h (trk h H)
theorem hidT_size (h : Heap) (H : Hp) : (hidT h H).objs.size = h.objs.size := PySem.W.hideAll_size _ _
theorem hidT_get {h : Heap} {H : Hp} {b : Addr} {o : Obj} (e : h.get? b = some o) (n : H b = none) : (hidT h H).get? b = some o :=
  PySem.W.hideAll_get _ e fun hm => by
    have q : (H b).isSome = true := (List.mem_filter.mp hm).2
    rw [n] at q; simp at q
theorem of_hidT {h : Heap} {H : Hp} {b : Addr} {o : Obj} (e : (hidT h H).get? b = some o) : h.get? b = some o ∧ H b = none := by
  have e' : h.get? b = some o := PySem.W.of_hideAll (trk h H) e
  refine ⟨e', ?_⟩
  cases q : H b with
  | none => rfl
  | some x =>
    have hm : b ∈ trk h H := List.mem_filter.mpr ⟨List.mem_range.mpr (Heap.lt_size e'), by simp [q]⟩
    have z : (hidT h H).get? b = none := PySem.W.hideAll_none (trk h H) hm
    rw [z] at e; cases e

/-! ### OpenK's ledger, filled with every new object but one -/
def allNews (g h : Heap) (L : Addr) : List (Addr × Obj) := (List.range h.objs.size).filterMap fun a => if a = L ∨ (g.get? a).isSome = true then none else (h.get? a).map fun o => (a, o)
theorem mem_allNews {g h : Heap} {L a : Addr} {o : Obj} (h1 : a ≠ L) (h2 : g.get? a = none) (h3 : h.get? a = some o) : (a, o) ∈ allNews g h L :=
  List.mem_filterMap.mpr ⟨a, List.mem_range.mpr (Heap.lt_size h3), by simp [h1, h2, h3]⟩
theorem of_mem_allNews {g h : Heap} {L : Addr} {p : Addr × Obj} (hp : p ∈ allNews g h L) : p.1 ≠ L ∧ g.get? p.1 = none ∧ h.get? p.1 = some p.2 := by
  obtain ⟨b, _, e⟩ := List.mem_filterMap.mp hp
  split at e
  · cases e
  · rename_i hn
    cases q : h.get? b with
    | none => rw [q] at e; simp at e
    | some u =>
      rw [q] at e
      simp only [Option.map_some, Option.some.injEq] at e
      subst e
      refine ⟨fun z => hn (.inl z), ?_, q⟩
      show g.get? b = none
      cases r : g.get? b with
      | none => rfl
      | some v => exact (hn (.inr (by simp [r]))).elim
def rest (g h : Heap) (L d : Addr) : List (Addr × Obj) := (allNews g h L).filter fun p => decide (p.1 ≠ d)
theorem rest_ne {g h : Heap} {L d : Addr} : ∀ p ∈ rest g h L d, p.1 ≠ d := fun p hp => of_decide_eq_true (List.mem_filter.mp hp).2
theorem mem_rest {g h : Heap} {L d a : Addr} {o : Obj} (h1 : a ≠ L) (h2 : g.get? a = none) (h3 : h.get? a = some o) (h4 : a ≠ d) : (a, o) ∈ rest g h L d :=
  List.mem_filter.mpr ⟨mem_allNews h1 h2 h3, decide_eq_true h4⟩
theorem news_all {g h : Heap} {L : Addr} : News g L h (allNews g h L) := fun p hp => let ⟨a, b, c⟩ := of_mem_allNews hp; ⟨c, a, b⟩
theorem news_at {g h : Heap} {L d : Addr} {o : Obj} (h1 : d ≠ L) (h2 : g.get? d = none) (h3 : h.get? d = some o) : News g L h ((d, o) :: rest g h L d) := fun p hp => by
  rcases List.mem_cons.mp hp with rfl | hp
  · exact ⟨h3, h1, h2⟩
  · exact news_all p (List.mem_filter.mp hp).1
/-- behind a rule that changed d alone: all else but the frame is kept -/
theorem kept_of_news {g h h' : Heap} {L d : Addr} {m : Str → Option Value} (k : ∀ b o, g.get? b = some o → h.get? b = some o) (F : Fr g L h' m) (N : News g L h' (rest g h L d)) :
    ∀ b o, b ≠ L → b ≠ d → h.get? b = some o → h'.get? b = some o := fun b o h1 h2 e => by
  cases q : g.get? b with
  | some u =>
    have := k b u q
    rw [e] at this; cases this
    exact F.keep b _ q
  | none => exact (N (b, o) (mem_rest h1 q e h2)).1
end L2

namespace L2
open PySem PySem.Spec PyProof.Rows

/-- the module's facts, over the base: the heap at the law's entry without what is tracked there -/
structure Mod (K : PySem.W.Frag) (mg : Str → Option Value) (base : Heap) : Prop where
  kin : K.In base
  glob : base.Ns mainGlobals mg
  blt : ∃ mb, base.Ns builtinsNs mb ∧ ∀ x : Str, x ≠ "__name__" → mb x = bootBuiltins x
  nolimit : base.NoLimit

/-- the context: a def's body (or a comprehension's block) running. base: fixed through the whole law; s₀, H₀: the entry; outer: the frames whose slots others may change (a def's callers); stack: all frames that run;
   ex: iterators that were made ahead of the entry and are walked here (a comprehension's); fn: the names whose cells were made at the entry (a def: all; a comprehension's block: its own); calm: not within an except suite; pn: pins that every state bears; xe: what is wanted of an exception that leaves the code -/
structure Cx where
  prog : Program
  w : World
  K : PySem.W.Frag
  mg : Str → Option Value
  base : Heap
  A : Around
  N : List Str
  s₀ : Shared
  H₀ : Hp
  env : Env
  outer : List Env
  stack : List Env
  ex : List Addr
  fn : Str → Bool
  calm : Bool
  pn : List (Addr × Obj)
  xe : Value → Shared → Prop
/-- the callers' frames -/
def frs (l : List Env) : List Addr := l.filterMap (·.frame)
abbrev Cx.fs (X : Cx) : List Addr := frs X.outer

def Vis (sc : Scope) (x : Str) : Prop := sc.names.lookup x = some .local ∨ sc.names.lookup x = some .cell ∨ sc.names.lookup x = some .free
def Loc (sc : Scope) (x : Str) : Prop := sc.names.lookup x = some .local ∨ sc.names.lookup x = some .cell
def Look (env : Env) (h : Heap) (m : Str → Option Value) (x : Str) (u : Value) : Prop :=
  (env.kindOf x = some .local ∧ m x = some u) ∨ ((env.kindOf x = some .cell ∨ env.kindOf x = some .free) ∧ ∃ c, env.cells.lookup x = some c ∧ h.IsCell c (some u))

structure Cx.Ok (X : Cx) : Prop where
  mod : Mod X.K X.mg X.base
  kind : X.env.scope.kind = .function
  glob : X.env.globals = mainGlobals
  blt : X.env.builtins = builtinsNs
  above : X.s₀.heap.objs.size ≤ X.env.locals
  inj : ∀ x y c, X.env.cells.lookup x = some c → X.env.cells.lookup y = some c → x = y
  has : ∀ x, (X.env.kindOf x = some .cell ∨ X.env.kindOf x = some .free) → ∃ c, X.env.cells.lookup x = some c
  cab : ∀ x c, X.fn x = true → X.env.cells.lookup x = some c → X.s₀.heap.objs.size ≤ c
  hd : X.calm = true → X.A.handled = none
  frames : X.A.frames = some X.stack
  stk : X.stack = X.outer ∨ (X.stack = X.env :: X.outer ∧ X.env.frame = some X.env.locals)
  exf : ∀ b ∈ X.ex, b ≠ X.env.locals ∧ ∀ x c, X.env.cells.lookup x = some c → c ≠ b
  bs : ∀ b o, X.base.get? b = some o → X.s₀.heap.get? b = some o ∧ X.H₀ b = none
  bsz : X.base.objs.size ≤ X.s₀.heap.objs.size
  noex : ∀ b o, X.base.get? b = some o → b ∉ X.ex
  exfs : ∀ b ∈ X.ex, b ∉ X.fs
  funs : X.s₀.heap.FunFrames X.base X.outer
  frf : ∀ b ∈ X.fs, X.H₀ b = none

structure Inv (X : Cx) (pins : List (Addr × Obj)) (σ : List (Option V)) (H : Hp) (s : Shared) : Prop where
  ok : X.Ok
  os : s.os = X.s₀.os
  bare : AllBare s.gens
  base : Un X.fs X.ex X.H₀ H X.s₀.heap s.heap
  loc : ∃ m, s.heap.Ns X.env.locals m ∧ ∀ (i : Nat) (x : Str) (v : V), X.N[i]? = some x → σ[i]? = some (some v) → Vis X.env.scope x → ∃ u, RelV v u ∧ Look X.env s.heap m x u
  cell : ∀ x c, X.env.cells.lookup x = some c → ∃ v, s.heap.IsCell c v
  free : H X.env.locals = none
  freeC : ∀ x c, X.env.cells.lookup x = some c → H c = none
  pin : ∀ p ∈ X.pn ++ pins, s.heap.get? p.1 = some p.2 ∧ H p.1 = none ∧ p.1 ≠ X.env.locals ∧ p.1 ∉ X.fs ∧ ∀ v, p.2.data ≠ .cell v
  hok : HOk X.prog X.w H s.heap
  len : σ.length = X.N.length

section
variable {X : Cx} {pins : List (Addr × Obj)} {σ : List (Option V)} {H H' : Hp} {s : Shared} {h' : Heap}

theorem Cx.Ok.nofr (ok : X.Ok) {b : Addr} {o : Obj} (e : X.base.get? b = some o) : b ∉ X.fs := fun hb => by
  have := (ok.funs.mem hb).1
  rw [e] at this; cases this
theorem Inv.bs (I : Inv X pins σ H s) : ∀ b o, X.base.get? b = some o → s.heap.get? b = some o ∧ H b = none := fun b o e =>
  ⟨I.base.keep b o (I.ok.bs b o e).1 (I.ok.bs b o e).2 (I.ok.nofr e) (I.ok.noex b o e), I.base.free b o (I.ok.bs b o e).1 (I.ok.bs b o e).2 (I.ok.noex b o e)⟩
theorem Inv.bk (I : Inv X pins σ H s) : ∀ b o, X.base.get? b = some o → s.heap.get? b = some o := fun b o e => (I.bs b o e).1
theorem Inv.mod (I : Inv X pins σ H s) : Mod X.K X.mg X.base := I.ok.mod
theorem Inv.kIn (I : Inv X pins σ H s) : X.K.In s.heap := I.ok.mod.kin.keeps I.bk
theorem Inv.nolimit (I : Inv X pins σ H s) : s.heap.NoLimit := I.ok.mod.nolimit.keeps I.bk
/-- the frame over the base: for OpenK's rules (K.In X.base is I.mod.kin) -/
theorem Inv.fr (I : Inv X pins σ H s) : ∃ m, Fr X.base X.env.locals s.heap m :=
  let ⟨m, hn, _⟩ := I.loc
  ⟨m, hn, I.bk, Nat.le_trans I.ok.bsz I.ok.above⟩
theorem Inv.lt (I : Inv X pins σ H s) : X.env.locals < s.heap.objs.size := let ⟨_, hn, _⟩ := I.loc; hn.lt
theorem Inv.sz (I : Inv X pins σ H s) : X.s₀.heap.objs.size ≤ s.heap.objs.size := Nat.le_trans I.ok.above (Nat.le_of_lt I.lt)
theorem Inv.nofs (I : Inv X pins σ H s) {a : Addr} (h : s.heap.objs.size ≤ a) : a ∉ X.fs := fun hb => by
  obtain ⟨_, o, ho, _⟩ := I.ok.funs.mem hb
  exact absurd (Nat.lt_of_lt_of_le (Heap.lt_size ho) (Nat.le_trans I.sz h)) (Nat.lt_irrefl _)
theorem Inv.cne (I : Inv X pins σ H s) : ∀ x c, X.env.cells.lookup x = some c → c ≠ X.env.locals := fun x c e z => by
  obtain ⟨v, o, ho, hd⟩ := I.cell x c e
  obtain ⟨m, ⟨o', es, ep, ho', hd', _⟩, _⟩ := I.loc
  rw [z, ho'] at ho; cases ho; rw [hd'] at hd; cases hd
theorem Inv.funs (I : Inv X pins σ H s) : s.heap.FunFrames X.base X.outer := by
  have all : ∀ (l : List Env), (∀ b ∈ frs l, b ∈ X.fs) → X.s₀.heap.FunFrames X.base l → s.heap.FunFrames X.base l := by
    intro l
    induction l with
    | nil => intro _ _; trivial
    | cons env r ih =>
      intro hs hl
      obtain ⟨hk, ⟨L, o, hf, hn, ho, hd⟩, hr⟩ := hl
      have hL : L ∈ X.fs := hs L (by unfold frs; rw [List.filterMap_cons, hf]; exact List.mem_cons_self)
      obtain ⟨sl, e⟩ := I.base.slot L o ho (I.ok.frf L hL) hL fun z => I.ok.exfs L z hL
      exact ⟨hk, ⟨L, _, hf, hn, e, hd⟩, ih (fun b hb => hs b (by unfold frs; rw [List.filterMap_cons, hf]; exact List.mem_cons_of_mem _ hb)) hr⟩
  exact all X.outer (fun _ hb => hb) I.ok.funs

/-- the frames that run, for a call -/
theorem Inv.stack (I : Inv X pins σ H s) : s.heap.FunFrames X.base X.stack := by
  rcases I.ok.stk with e | ⟨e, hf⟩
  · rw [e]; exact I.funs
  · rw [e]
    obtain ⟨m, hn, _⟩ := I.loc
    refine .cons (by rw [I.ok.kind]; decide) hf hn ?_ I.funs
    exact Heap.get?_none_of_le (Nat.le_trans I.ok.bsz I.ok.above)
theorem Inv.stkSub (I : Inv X pins σ H s) : ∀ b ∈ frs X.stack, b ∈ X.env.locals :: X.fs := fun b hb => by
  rcases I.ok.stk with e | ⟨e, hf⟩
  · rw [e] at hb; exact List.mem_cons_of_mem _ hb
  · rw [e] at hb
    unfold frs at hb
    rw [List.filterMap_cons, hf] at hb
    exact hb
theorem Inv.stkFree (I : Inv X pins σ H s) : ∀ b ∈ frs X.stack, H b = none := fun b hb => by
  rcases List.mem_cons.mp (I.stkSub b hb) with e | hb
  · rw [e]; exact I.free
  · obtain ⟨_, o, ho, _⟩ := I.ok.funs.mem hb
    exact I.base.free b o ho (I.ok.frf b hb) fun z => I.ok.exfs b z hb

/-- THE STEP: the untracked objects but the frame and the records at ch are kept (the callers' frames up to slots), the frame's map is kept, the new abstract heap is held -/
theorem Inv.step {g' : Array GenState} {t' : Nat} {d' : Drawn} {ch : List Addr} (I : Inv X pins σ H s)
    (hch : ∀ b ∈ ch, (b ∈ X.ex ∨ X.s₀.heap.objs.size ≤ b) ∧ b ≠ X.env.locals ∧ (∀ x c, X.env.cells.lookup x = some c → c ≠ b) ∧ ∀ p ∈ X.pn ++ pins, p.1 ≠ b)
    (keep : ∀ b o, b ≠ X.env.locals → b ∉ X.fs → b ∉ ch → s.heap.get? b = some o → H b = none → h'.get? b = some o)
    (slot : ∀ b o, b ≠ X.env.locals → b ∈ X.fs → b ∉ ch → s.heap.get? b = some o → H b = none → ∃ sl, h'.get? b = some { o with slots := sl }) (free : ∀ b o, b ∉ ch → s.heap.get? b = some o → H b = none → H' b = none)
    (there : ∀ b o, b ∉ ch → s.heap.get? b = some o → ∃ o', h'.get? b = some o')
    (tups : ∀ b xs, H b = some (.tup xs) → H' b = some (.tup xs)) (frzs : ∀ b o u, H b = some (.frz o u) → H' b = some (.frz o u)) (tbls : ∀ b ps, H b = some (.tbl ps) → ∃ more, H' b = some (.tbl (ps ++ more)))
    (ns : ∀ m, s.heap.Ns X.env.locals m → h'.Ns X.env.locals m) (hok : HOk X.prog X.w H' h') (hg : AllBare g') :
    Inv X pins σ H' { s with heap := h', gens := g', drawn := d', toks := t' } := by
  have neL : ∀ b o, X.s₀.heap.get? b = some o → b ≠ X.env.locals := fun b o e => Nat.ne_of_lt (Nat.lt_of_lt_of_le (Heap.lt_size e) I.ok.above)
  have neC : ∀ b o, X.s₀.heap.get? b = some o → b ∉ X.ex → b ∉ ch := fun b o e hx hb => by
    rcases (hch b hb).1 with z | z
    · exact hx z
    · exact absurd (Nat.lt_of_lt_of_le (Heap.lt_size e) z) (Nat.lt_irrefl _)
  have cellK : ∀ x c, X.env.cells.lookup x = some c → ∀ v, s.heap.IsCell c v → h'.IsCell c v := fun x c e v ⟨o, ho, hd⟩ => by
    have nch : c ∉ ch := fun z => (hch c z).2.2.1 x c e rfl
    by_cases hc : c ∈ X.fs
    · obtain ⟨sl, q⟩ := slot c o (I.cne x c e) hc nch ho (I.freeC x c e)
      exact ⟨_, q, hd⟩
    · exact ⟨o, keep c o (I.cne x c e) hc nch ho (I.freeC x c e), hd⟩
  refine ⟨I.ok, I.os, hg, ⟨fun b o e n hb hx => ?_, fun b o e n hb hx => ?_, fun b o e n hx => ?_, fun b o e hx => ?_, fun b xs e => tups b xs (I.base.tups b xs e), fun b o xs e => frzs b o xs (I.base.frzs b o xs e), fun b ps e => ?_⟩, ?_, fun x c e => ?_, ?_, fun x c e => ?_, fun p hp => ?_, hok, I.len⟩
  · exact keep b o (neL b o e) hb (neC b o e hx) (I.base.keep b o e n hb hx) (I.base.free b o e n hx)
  · obtain ⟨sl, e1⟩ := I.base.slot b o e n hb hx
    obtain ⟨sl', e2⟩ := slot b _ (neL b o e) hb (neC b o e hx) e1 (I.base.free b o e n hx)
    exact ⟨sl', e2⟩
  · obtain ⟨o', e1⟩ := I.base.there b o e hx
    exact free b o' (neC b o e hx) e1 (I.base.free b o e n hx)
  · obtain ⟨o', e1⟩ := I.base.there b o e hx
    exact there b o' (neC b o e hx) e1
  · obtain ⟨m1, e1⟩ := I.base.tbls b ps e
    obtain ⟨m2, e2⟩ := tbls b _ e1
    exact ⟨m1 ++ m2, by rw [e2, Array.append_assoc]⟩
  · obtain ⟨m, hn, hl⟩ := I.loc
    refine ⟨m, ns m hn, fun i x v e1 e2 e3 => ?_⟩
    obtain ⟨u, r, l⟩ := hl i x v e1 e2 e3
    refine ⟨u, r, ?_⟩
    rcases l with l | ⟨k, c, e, z⟩
    · exact .inl l
    · exact .inr ⟨k, c, e, cellK x c e _ z⟩
  · obtain ⟨v, z⟩ := I.cell x c e
    exact ⟨v, cellK x c e v z⟩
  · obtain ⟨m, ⟨o, _, _, ho, _⟩, _⟩ := I.loc
    exact free _ o (fun z => (hch _ z).2.1 rfl) ho I.free
  · obtain ⟨v, o, ho, hd⟩ := I.cell x c e
    exact free c o (fun z => (hch c z).2.2.1 x c e rfl) ho (I.freeC x c e)
  · obtain ⟨e, n, ne, nf, d⟩ := I.pin p hp
    have nch : p.1 ∉ ch := fun z => (hch p.1 z).2.2.2 p hp rfl
    exact ⟨keep p.1 p.2 ne nf nch e n, free p.1 p.2 nch e n, ne, nf, d⟩
/-- .. where the frame's own object is kept too -/
theorem Inv.un {t' : Nat} (I : Inv X pins σ H s) (u : Un X.fs [] H H' s.heap h') (hok : HOk X.prog X.w H' h') : Inv X pins σ H' { s with heap := h', toks := t' } := by
  obtain ⟨m, ⟨o, es, ep, ho, r⟩, _⟩ := id I.loc
  obtain ⟨sl, hL⟩ := u.any ho I.free (by simp)
  exact I.step (g' := s.gens) (d' := s.drawn) (ch := []) (fun _ z => nomatch z) (fun b o _ hb _ e n => u.keep b o e n hb (by simp)) (fun b o _ hb _ e n => u.slot b o e n hb (by simp)) (fun b o _ e n => u.free b o e n (by simp)) (fun b o _ e => u.there b o e (by simp)) u.tups u.frzs u.tbls (fun m' hm => by
    obtain ⟨o', es', ep', ho', r'⟩ := hm
    rw [ho] at ho'; cases ho'
    exact ⟨_, es', ep', hL, r'⟩) hok I.bare
/-- behind a call (or a comprehension's block): the slots of this frame may have changed too, the records at ch may have turned -/
theorem Inv.call {g' : Array GenState} {t' : Nat} {d' : Drawn} {ch : List Addr} (I : Inv X pins σ H s) (u : Un (frs X.stack) ch H H' s.heap h') (hok : HOk X.prog X.w H' h') (hg : AllBare g')
    (hch : ∀ b ∈ ch, (b ∈ X.ex ∨ X.s₀.heap.objs.size ≤ b) ∧ b ≠ X.env.locals ∧ (∀ x c, X.env.cells.lookup x = some c → c ≠ b) ∧ ∀ p ∈ X.pn ++ pins, p.1 ≠ b) :
    Inv X pins σ H' { s with heap := h', gens := g', drawn := d', toks := t' } := by
  obtain ⟨m, ⟨o, es, ep, ho, r⟩, _⟩ := id I.loc
  obtain ⟨sl, hL⟩ := u.any ho I.free fun z => (hch _ z).2.1 rfl
  exact I.step (ch := ch) hch (fun b o hL hb hc e n => u.keep b o e n (fun z => (List.mem_cons.mp (I.stkSub b z)).elim hL hb) hc) (fun b o _ _ hc e n => u.any e n hc) (fun b o hc e n => u.free b o e n hc) (fun b o hc e => u.there b o e hc) u.tups u.frzs u.tbls (fun m' hm => by
    obtain ⟨o', es', ep', ho', r'⟩ := hm
    rw [ho] at ho'; cases ho'
    exact ⟨_, es', ep', hL, r'⟩) hok hg
/-- an untracked record of ours (an iterator) has turned -/
theorem Inv.turned {t' : Nat} {it : Addr} (I : Inv X pins σ H s) (k : ∀ b o, b ≠ it → s.heap.get? b = some o → h'.get? b = some o) (hn : H it = none) (hL : it ≠ X.env.locals)
    (h1 : it ∈ X.ex ∨ X.s₀.heap.objs.size ≤ it) (h2 : ∀ x c, X.env.cells.lookup x = some c → c ≠ it) (h3 : ∀ p ∈ X.pn ++ pins, p.1 ≠ it) : Inv X pins σ H { s with heap := h', toks := t' } := by
  have nit : ∀ b u, H b = some u → b ≠ it := fun b u e z => by rw [z, hn] at e; cases e
  refine I.step (g' := s.gens) (d' := s.drawn) (ch := [it]) (fun b hb => ?_) (fun b o _ _ hc e _ => k b o (fun z => hc (by simp [z])) e) (fun b o _ _ hc e _ => ⟨o.slots, k b o (fun z => hc (by simp [z])) e⟩) (fun _ _ _ _ n => n)
    (fun b o hc e => ⟨o, k b o (fun z => hc (by simp [z])) e⟩) (fun _ _ e => e) (fun _ _ _ e => e) (fun b ps e => ⟨#[], by rw [e]; simp⟩) (fun m hm => ?_) (fun b u e => ?_) I.bare
  · have e : b = it := by simpa using hb
    subst e
    exact ⟨h1, hL, h2, h3⟩
  · obtain ⟨o, es, ep, ho, r⟩ := hm
    exact ⟨o, es, ep, k _ o (Ne.symm hL) ho, r⟩
  · refine (I.hok b u e).stay (fun c v hc q => k c v ?_ q) (fun _ q => q) fun _ _ q => q
    rcases hc with z | z
    · rw [z]; exact nit b u e
    · exact nit c _ z
theorem Inv.tok (I : Inv X pins σ H s) (t : Nat) : Inv X pins σ H { s with toks := t } := I.un (h' := s.heap) (t' := t) Un.refl I.hok
/-- all objects kept -/
theorem Inv.kept {t' : Nat} (I : Inv X pins σ H s) (k : ∀ b u, s.heap.get? b = some u → h'.get? b = some u) : Inv X pins σ H { s with heap := h', toks := t' } := I.un (Un.kept k) (I.hok.kept k)
/-- a new object laid and tracked -/
theorem Inv.laid {a : Addr} {o : HO} {t' : Nat} (I : Inv X pins σ H s) (k : ∀ b u, s.heap.get? b = some u → h'.get? b = some u) (hp : s.heap.objs.size ≤ a) (new : ObjOk X.prog X.w (upd H a o) h' a o) :
    Inv X pins σ (upd H a o) { s with heap := h', toks := t' } := I.un (Un.laid k hp (I.hok.fresh hp)) (I.hok.laid k hp new)
/-- an object written -/
theorem Inv.write {x e : Addr} {o : HO} {t' : Nat} (I : Inv X pins σ H s) (mu : Mut (H x)) (he : e = x ∨ H e = some (.own x)) (k : ∀ b u, b ≠ e → s.heap.get? b = some u → h'.get? b = some u) (heo : ∃ u, h'.get? e = some u)
    (new : ObjOk X.prog X.w (upd H x o) h' x o) : Inv X pins σ (upd H x o) { s with heap := h', toks := t' } := I.un (Un.write mu he k heo) (I.hok.write mu he k heo new)
/-- forgetting slots, pins -/
theorem Inv.weak {σ' : List (Option V)} (I : Inv X pins σ H s) (hl : σ'.length = σ.length) (w : ∀ (i : Nat) v, σ'[i]? = some (some v) → σ[i]? = some (some v)) : Inv X pins σ' H s :=
  ⟨I.ok, I.os, I.bare, I.base, let ⟨m, hn, hl'⟩ := I.loc; ⟨m, hn, fun i x v e1 e2 e3 => hl' i x v e1 (w i v e2) e3⟩, I.cell, I.free, I.freeC, I.pin, I.hok, hl.trans I.len⟩
theorem Inv.pins_of {pins' : List (Addr × Obj)} (I : Inv X pins σ H s) (h : ∀ p ∈ pins', s.heap.get? p.1 = some p.2 ∧ H p.1 = none ∧ p.1 ≠ X.env.locals ∧ p.1 ∉ X.fs ∧ ∀ v, p.2.data ≠ .cell v) : Inv X pins' σ H s :=
  ⟨I.ok, I.os, I.bare, I.base, I.loc, I.cell, I.free, I.freeC, fun p hp => (List.mem_append.mp hp).elim (fun z => I.pin p (List.mem_append_left _ z)) (h p), I.hok, I.len⟩

theorem nodup_ix {N : List Str} (hN : N.Nodup) {i j : Nat} {x : Str} (a : N[i]? = some x) (b : N[j]? = some x) : i = j := by
  obtain ⟨h1, e1⟩ := List.getElem?_eq_some_iff.mp a
  obtain ⟨h2, e2⟩ := List.getElem?_eq_some_iff.mp b
  exact (List.getElem_inj hN).mp (e1.trans e2.symm)

/-- a name is stored; what changed -/
theorem store_ok2 {M : Model} {A : Around} {E : Value → Shared → Prop} {i : Nat} {x : Str} {v : V} {u : Value} {Q : Unit → Shared → Prop} (I : Inv X pins σ H s) (hN : X.N.Nodup) (hi : X.N[i]? = some x) (hx : Loc X.env.scope x) (r : RelV v u)
    (h : ∀ s', Inv X pins (σ.set i (some v)) H s' → (∃ a, Heap.SameBut a s.heap s'.heap ∧ (a = X.env.locals ∨ X.env.cells.lookup x = some a)) → Q () s') (hf : X.fn x = true ∨ X.env.scope.names.lookup x = some .local := by first | exact .inl rfl | exact .inr rfl | assumption) : wpAny M A (storeName X.env x u) Q E s := by
  obtain ⟨m, hn, hl⟩ := id I.loc
  have hcls : (X.env.scope.kind == .class || (X.env.scope.kind == .module && X.env.locals != X.env.globals)) = false := by rw [I.ok.kind]; rfl
  have hiσ : i < σ.length := by rw [I.len]; exact (List.getElem?_eq_some_iff.mp hi).1
  have cne := I.cne
  have tracked : ∀ {a : Addr} {h' : Heap}, (∃ o, s.heap.get? a = some o ∧ H a = none) → Heap.SameBut a s.heap h' → HOk X.prog X.w H h' := fun {a h'} ha hs b ob e => by
    obtain ⟨_, _, hfree⟩ := ha
    refine (I.hok b ob e).stay (fun c w' hc q => (hs.2 c ?_).trans q) (fun _ q => q) fun _ _ q => q
    rintro rfl
    rcases hc with rfl | hc
    · rw [hfree] at e; cases e
    · rw [hfree] at hc; cases hc
  rcases hx with hk | hk
  · refine wpAny_storeName_local hk hn (fun h' hn' hs => ?_) hcls
    obtain ⟨oL, _, _, hoL, _⟩ := id hn
    refine h _ ⟨I.ok, I.os, I.bare, ⟨fun b o e n hb hx => ?_, fun b o e n hb hx => ?_, I.base.free, fun b o e hx => ?_, I.base.tups, I.base.frzs, I.base.tbls⟩, ⟨_, hn', fun j y v' e1 e2 e3 => ?_⟩, fun y c e => ?_, I.free, I.freeC, fun p hp => ?_, tracked ⟨oL, hoL, I.free⟩ hs, by simpa using I.len⟩ ⟨_, hs, .inl rfl⟩
    · exact (hs.2 b (Nat.ne_of_lt (Nat.lt_of_lt_of_le (Heap.lt_size e) I.ok.above))).trans (I.base.keep b o e n hb hx)
    · obtain ⟨sl, e1⟩ := I.base.slot b o e n hb hx
      exact ⟨sl, (hs.2 b (Nat.ne_of_lt (Nat.lt_of_lt_of_le (Heap.lt_size e) I.ok.above))).trans e1⟩
    · obtain ⟨o', e1⟩ := I.base.there b o e hx
      exact ⟨o', (hs.2 b (Nat.ne_of_lt (Nat.lt_of_lt_of_le (Heap.lt_size e) I.ok.above))).trans e1⟩
    · by_cases hj : j = i
      · subst hj
        rw [hi] at e1; cases e1
        rw [List.getElem?_set_self hiσ] at e2
        cases e2
        exact ⟨u, r, .inl ⟨hk, by simp⟩⟩
      · rw [List.getElem?_set_ne (Ne.symm hj)] at e2
        obtain ⟨u', r', q⟩ := hl j y v' e1 e2 e3
        refine ⟨u', r', ?_⟩
        rcases q with ⟨k, e⟩ | ⟨k, c, e, z⟩
        · refine .inl ⟨k, ?_⟩
          have : y ≠ x := fun e => hj (nodup_ix hN e1 (e ▸ hi))
          simp [this, e]
        · exact .inr ⟨k, c, e, z.sameBut hs (cne y c e)⟩
    · obtain ⟨w', z⟩ := I.cell y c e
      exact ⟨w', z.sameBut hs (cne y c e)⟩
    · obtain ⟨e, n, ne, nf, d⟩ := I.pin p hp
      exact ⟨(hs.2 p.1 ne).trans e, n, ne, nf, d⟩
  · have hfn : X.fn x = true := by
      rcases hf with z | z
      · exact z
      · rw [z] at hk; cases hk
    obtain ⟨c, hc⟩ := I.ok.has x (.inl hk)
    obtain ⟨w', z⟩ := I.cell x c hc
    refine wpAny_storeName_cell I.ok.kind hk hc z (fun h' hc' hs => ?_)
    obtain ⟨oc, hoc, hocd⟩ := id z
    refine h { s with heap := h' } ⟨I.ok, I.os, I.bare, ⟨fun b o e n hb hx => ?_, fun b o e n hb hx => ?_, I.base.free, fun b o e hx => ?_, I.base.tups, I.base.frzs, I.base.tbls⟩, ⟨m, hn.sameBut hs (Ne.symm (cne x c hc)), fun j y v' e1 e2 e3 => ?_⟩, fun y c' e => ?_, I.free, I.freeC, fun p hp => ?_, tracked ⟨oc, hoc, I.freeC x c hc⟩ hs, by simpa using I.len⟩ ⟨c, hs, .inr hc⟩
    · exact (hs.2 b (Nat.ne_of_lt (Nat.lt_of_lt_of_le (Heap.lt_size e) (I.ok.cab x c hfn hc)))).trans (I.base.keep b o e n hb hx)
    · obtain ⟨sl, e1⟩ := I.base.slot b o e n hb hx
      exact ⟨sl, (hs.2 b (Nat.ne_of_lt (Nat.lt_of_lt_of_le (Heap.lt_size e) (I.ok.cab x c hfn hc)))).trans e1⟩
    · obtain ⟨o', e1⟩ := I.base.there b o e hx
      exact ⟨o', (hs.2 b (Nat.ne_of_lt (Nat.lt_of_lt_of_le (Heap.lt_size e) (I.ok.cab x c hfn hc)))).trans e1⟩
    · by_cases hj : j = i
      · subst hj
        rw [hi] at e1; cases e1
        rw [List.getElem?_set_self hiσ] at e2
        cases e2
        exact ⟨u, r, .inr ⟨.inl hk, c, hc, hc'⟩⟩
      · rw [List.getElem?_set_ne (Ne.symm hj)] at e2
        obtain ⟨u', r', q⟩ := hl j y v' e1 e2 e3
        refine ⟨u', r', ?_⟩
        rcases q with q | ⟨k, c', e, z'⟩
        · exact .inl q
        · refine .inr ⟨k, c', e, z'.sameBut hs ?_⟩
          rintro rfl
          exact hj (nodup_ix hN e1 (I.ok.inj _ _ _ e hc ▸ hi))
    · by_cases hcc : c' = c
      · subst hcc; exact ⟨_, hc'⟩
      · obtain ⟨w2, z2⟩ := I.cell y c' e
        exact ⟨w2, z2.sameBut hs hcc⟩
    · obtain ⟨e, n, ne, nf, d⟩ := I.pin p hp
      refine ⟨(hs.2 p.1 ?_).trans e, n, ne, nf, d⟩
      intro q
      rw [q, hoc] at e
      have q' : oc = p.2 := Option.some.inj e
      exact d w' (by rw [← q']; exact hocd)
theorem store_ok {M : Model} {A : Around} {E : Value → Shared → Prop} {i : Nat} {x : Str} {v : V} {u : Value} {Q : Unit → Shared → Prop} (I : Inv X pins σ H s) (hN : X.N.Nodup) (hi : X.N[i]? = some x) (hx : Loc X.env.scope x) (r : RelV v u)
    (h : ∀ s', Inv X pins (σ.set i (some v)) H s' → Q () s') (hf : X.fn x = true ∨ X.env.scope.names.lookup x = some .local := by first | exact .inl rfl | exact .inr rfl | assumption) : wpAny M A (storeName X.env x u) Q E s :=
  store_ok2 I hN hi hx r (fun s' I' _ => h s' I') hf
/-- behind a call or a block, the state as it is -/
theorem Inv.call' {s' : Shared} {ch : List Addr} (I : Inv X pins σ H s) (ho : s'.os = s.os) (u : Un (frs X.stack) ch H H' s.heap s'.heap) (hok : HOk X.prog X.w H' s'.heap) (hg : AllBare s'.gens)
    (hch : ∀ b ∈ ch, (b ∈ X.ex ∨ X.s₀.heap.objs.size ≤ b) ∧ b ≠ X.env.locals ∧ (∀ x c, X.env.cells.lookup x = some c → c ≠ b) ∧ ∀ p ∈ X.pn ++ pins, p.1 ≠ b) : Inv X pins σ H' s' := by
  obtain ⟨h', g', d', t', o'⟩ := s'
  have e : o' = s.os := ho
  subst e
  exact I.call (g' := g') (t' := t') (d' := d') u hok hg hch
end

/-! ### the judgements -/
/-- an exception: its class, its own dict's address (where it has one), the abstract heap behind it -/
abbrev XK := Value → Option Addr → Hp → Prop
abbrev St := List (Option V)
abbrev VK := V → Hp → Prop
/-- an expression's reading; a test's; an argument list's -/
abbrev TE := St → Hp → VK → Prop
abbrev TT := St → Hp → (Bool → Hp → Prop) → Prop
abbrev TA := St → Hp → (List V → Hp → Prop) → Prop
/-- what is wanted behind a statement -/
structure Ends where
  nx : St → Hp → Prop
  rt : VK
  bk : St → Hp → Prop := fun _ _ => False
  ct : St → Hp → Prop := fun _ _ => False
abbrev TS := Ends → St → Hp → Prop

def EP (X : Cx) (pins : List (Addr × Obj)) (σ : St) (Q : VK) (u : Value) (s' : Shared) : Prop := ∃ v H', Inv X pins σ H' s' ∧ RelV v u ∧ Q v H'
def TP (X : Cx) (pins : List (Addr × Obj)) (σ : St) (Q : Bool → Hp → Prop) (b : Bool) (s' : Shared) : Prop := ∃ H', Inv X pins σ H' s' ∧ Q b H'
def AP (X : Cx) (pins : List (Addr × Obj)) (σ : St) (Q : List V → Hp → Prop) (us : List Value) (s' : Shared) : Prop := ∃ vs H', Inv X pins σ H' s' ∧ Vals vs us ∧ Q vs H'
def SP (X : Cx) (pins : List (Addr × Obj)) (D : Ends) (f : Flow) (s' : Shared) : Prop :=
  match f with
  | .next => ∃ σ' H', Inv X pins σ' H' s' ∧ D.nx σ' H'
  | .brk => ∃ σ' H', Inv X pins σ' H' s' ∧ D.bk σ' H'
  | .cont => ∃ σ' H', Inv X pins σ' H' s' ∧ D.ct σ' H'
  | .ret u => ∃ v σ' H', Inv X pins σ' H' s' ∧ RelV v u ∧ D.rt v H'

def PE (X : Cx) (e : Expr) (t : TE) : Prop :=
  ∀ (pins : List (Addr × Obj)) (s : Shared) (σ : St) (H : Hp) (Q : VK), Inv X pins σ H s → t σ H Q → wpAny (model X.prog X.w) X.A (eval e X.env) (EP X pins σ Q) X.xe s
def PT (X : Cx) (e : Expr) (t : TT) : Prop :=
  ∀ (pins : List (Addr × Obj)) (s : Shared) (σ : St) (H : Hp) (Q : Bool → Hp → Prop), Inv X pins σ H s → t σ H Q → wpAny (model X.prog X.w) X.A (isTrue e X.env (eval e X.env)) (TP X pins σ Q) X.xe s
/-- a test whatever its 'whole' is (and, or) -/
def PW (X : Cx) (e : Expr) (t : TT) : Prop :=
  ∀ (whole : Sem Value) (pins : List (Addr × Obj)) (s : Shared) (σ : St) (H : Hp) (Q : Bool → Hp → Prop), Inv X pins σ H s → t σ H Q → wpAny (model X.prog X.w) X.A (isTrue e X.env whole) (TP X pins σ Q) X.xe s
theorem PW.pt {X : Cx} {e : Expr} {t : TT} (h : PW X e t) : PT X e t := h _
/-- an argument list (no star), from the left -/
def PA (X : Cx) (es : List Expr) (t : TA) : Prop :=
  ∀ (pos : Pos) (pins : List (Addr × Obj)) (s : Shared) (σ : St) (H : Hp) (Q : List V → Hp → Prop), Inv X pins σ H s → t σ H Q → wpAny (model X.prog X.w) X.A (spliced (backTo pos (starEach es X.env))) (AP X pins σ Q) X.xe s
def PS (X : Cx) (st : Stmt) (t : TS) : Prop :=
  ∀ (pins : List (Addr × Obj)) (s : Shared) (σ : St) (H : Hp) (D : Ends), Inv X pins σ H s → t D σ H → wpAny (model X.prog X.w) X.A (exec st X.env) (SP X pins D) X.xe s
def PSs (X : Cx) (st : List Stmt) (t : TS) : Prop :=
  ∀ (pins : List (Addr × Obj)) (s : Shared) (σ : St) (H : Hp) (D : Ends), Inv X pins σ H s → t D σ H → wpAny (model X.prog X.w) X.A (execs st X.env) (SP X pins D) X.xe s
/-- weaken the end -/
theorem thn {α : Type} {t : Sem α} {Q Q' : α → Shared → Prop} {M : Model} {A : Around} {E : Value → Shared → Prop} {s : Shared} (h : wpAny M A t Q E s) (hQ : ∀ a s, Q a s → Q' a s) : wpAny M A t Q' E s := wpAny_mono h hQ fun _ _ x => x
end L2

namespace L2
open PySem PySem.Spec PyProof.Rows
section
variable {X : Cx}

/-- two expressions in a row -/
theorem bin {a b : Expr} {ta tb : TE} (ha : PE X a ta) (hb : PE X b tb) {pins : List (Addr × Obj)} {s : Shared} {σ : St} {H : Hp} {R : V → V → Hp → Prop} (I : Inv X pins σ H s) (h : ta σ H fun x H1 => tb σ H1 fun y H2 => R x y H2)
    {α : Type} {Q : α → Shared → Prop} {f : Value → Value → Sem α}
    (hf : ∀ v u s2 x y H2, Inv X pins σ H2 s2 → RelV x v → RelV y u → R x y H2 → wpAny (model X.prog X.w) X.A (f v u) Q X.xe s2) :
    wpAny (model X.prog X.w) X.A (eval a X.env) (fun v s₁ => wpAny (model X.prog X.w) X.A (eval b X.env) (fun u s₂ => wpAny (model X.prog X.w) X.A (f v u) Q X.xe s₂) X.xe s₁) X.xe s := by
  refine thn (ha pins s σ H _ I h) fun v s1 ⟨x, H1, I1, r1, q1⟩ => ?_
  refine thn (hb pins s1 σ H1 _ I1 q1) fun u s2 ⟨y, H2, I2, r2, q2⟩ => ?_
  exact hf v u s2 x y H2 I2 r1 r2 q2

/-! ### names and constants -/
def tVar (i : Nat) : TE := fun σ H Q => ∃ v, σ[i]? = some (some v) ∧ Q v H
def tC (v : V) : TE := fun _ H Q => Q v H
theorem pe_var {i : Nat} {x : Str} {pos : Pos} (hN : X.N[i]? = some x) (hv : Vis X.env.scope x) (hd : (x == ("__debug__" : Str)) = false := by decide) (hcd : (x == ("__classdict__" : Str)) = false := by decide) : PE X (.Name x pos) (tVar i) := by
  intro pins s σ H Q I h
  obtain ⟨v, e, h⟩ := h
  obtain ⟨m, hn, hl⟩ := I.loc
  obtain ⟨u, r, l⟩ := hl i x v hN e hv
  have fin : EP X pins σ Q u s := ⟨v, H, I, r, h⟩
  rcases l with ⟨hk, hm⟩ | ⟨hk, c, hc, hcell⟩
  · exact wpAny_Name (wpAny_loadName_local I.ok.kind hk hn hm fin) hd
  · rcases hk with hk | hk
    · exact wpAny_Name (wpAny_loadName_cell I.ok.kind hk hc hcell fin) hd
    · exact wpAny_Name (wpAny_loadName_free I.ok.kind hk hc hcell fin hcd) hd
theorem pe_int {i j pos} : PE X (.Constant (.int i) j pos) (tC (.int i)) := fun _ _ _ H _ I h => wpAny_Constant_int ⟨.int i, H, I.tok _, ⟨_, rfl⟩, h⟩
theorem pe_bl {b j pos} : PE X (.Constant (.bool b) j pos) (tC (.bl b)) := fun _ _ _ H _ I h => Constant_bool ⟨.bl b, H, I, rfl, h⟩
theorem pe_non {j pos} : PE X (.Constant .none j pos) (tC .non) := fun _ _ _ H _ I h => Constant_none ⟨.non, H, I, rfl, h⟩
theorem pe_str {x j pos} : PE X (.Constant (.str x) j pos) (tC (.str x)) := fun _ _ _ H _ I h => Calls.Constant_str ⟨.str x, H, I.tok _, ⟨_, rfl⟩, h⟩

/-- a global name of the def -/
def Gl (X : Cx) (x : Str) : Prop := X.env.kindOf x = some .globalImplicit
theorem ld_glob {E : Value → Shared → Prop} {pins : List (Addr × Obj)} {s : Shared} {σ : St} {H : Hp} {x : Str} {u : Value} {pos : Pos} {Q : Value → Shared → Prop} (I : Inv X pins σ H s) (hg : Gl X x) (hm : X.mg x = some u) (h : Q u s)
    (hd : (x == ("__debug__" : Str)) = false := by decide) : wpAny (model X.prog X.w) X.A (eval (.Name x pos) X.env) Q E s :=
  Calls.Name_function_global I.ok.kind hg (Calls.loadGlobal_global (by rw [I.ok.glob]; exact I.mod.glob.keeps I.bk) hm h) hd
theorem ld_blt {E : Value → Shared → Prop} {pins : List (Addr × Obj)} {s : Shared} {σ : St} {H : Hp} {x : Str} {u : Value} {pos : Pos} {Q : Value → Shared → Prop} (I : Inv X pins σ H s) (hg : Gl X x) (hm : X.mg x = none) (hv : bootBuiltins x = some u) (h : Q u s)
    (hn : x ≠ "__name__" := by decide) (hd : (x == ("__debug__" : Str)) = false := by decide) : wpAny (model X.prog X.w) X.A (eval (.Name x pos) X.env) Q E s := by
  obtain ⟨mb, h1, h2⟩ := I.mod.blt
  exact Calls.Name_function_global I.ok.kind hg (Calls.loadGlobal_builtin (by rw [I.ok.glob]; exact I.mod.glob.keeps I.bk) hm (by rw [I.ok.blt]; exact h1.keeps I.bk) ((h2 x hn).trans hv) h) hd
/-- a module's constant, a class, a function, as a value -/
theorem pe_glob {x : Str} {v : V} {u : Value} {pos : Pos} (hg : Gl X x) (hm : X.mg x = some u) (r : RelV v u) (hd : (x == ("__debug__" : Str)) = false := by decide) : PE X (.Name x pos) (tC v) :=
  fun _ _ _ H _ I h => ld_glob I hg hm ⟨v, H, I, r, h⟩ hd
theorem pe_bltn {x : Str} {v : V} {u : Value} {pos : Pos} (hg : Gl X x) (hm : X.mg x = none) (hv : bootBuiltins x = some u) (r : RelV v u) (hn : x ≠ "__name__" := by decide) (hd : (x == ("__debug__" : Str)) = false := by decide) : PE X (.Name x pos) (tC v) :=
  fun _ _ _ H _ I h => ld_blt I hg hm hv ⟨v, H, I, r, h⟩ hn hd

/-! ### arithmetic -/
/-- two ints -/
def t2I (ta tb : TE) (k : Int → Int → Hp → Prop) : St → Hp → Prop := fun σ H => ta σ H fun x H1 => tb σ H1 fun y H2 => ∃ i j, x = .int i ∧ y = .int j ∧ k i j H2
def tAdd (ta tb : TE) : TE := fun σ H Q => t2I ta tb (fun i j H2 => Q (.int (i + j)) H2) σ H
def tSub (ta tb : TE) : TE := fun σ H Q => t2I ta tb (fun i j H2 => Q (.int (i - j)) H2) σ H
/-- the left factor below 2^64 -/
def tMul (ta tb : TE) : TE := fun σ H Q => t2I ta tb (fun i j H2 => (-(2 ^ 64) < i ∧ i < 2 ^ 64) ∧ Q (.int (i * j)) H2) σ H
variable {a b : Expr} {ta tb : TE} {pos : Pos}
theorem pe_add (ha : PE X a ta) (hb : PE X b tb) : PE X (.BinOp a .Add b pos) (tAdd ta tb) := by
  intro pins s σ H Q I h
  refine wpAny_BinOp (bin ha hb I h fun v u s2 x y H2 I2 rx ry q => ?_)
  obtain ⟨i, j, rfl, rfl, q⟩ := q
  obtain ⟨t, rfl⟩ := rx
  obtain ⟨t', rfl⟩ := ry
  exact add_int ⟨.int _, H2, I2.tok _, ⟨_, rfl⟩, q⟩
theorem pe_sub (ha : PE X a ta) (hb : PE X b tb) : PE X (.BinOp a .Sub b pos) (tSub ta tb) := by
  intro pins s σ H Q I h
  refine wpAny_BinOp (bin ha hb I h fun v u s2 x y H2 I2 rx ry q => ?_)
  obtain ⟨i, j, rfl, rfl, q⟩ := q
  obtain ⟨t, rfl⟩ := rx
  obtain ⟨t', rfl⟩ := ry
  exact sub_int ⟨.int _, H2, I2.tok _, ⟨_, rfl⟩, q⟩
theorem pe_mul (ha : PE X a ta) (hb : PE X b tb) : PE X (.BinOp a .Mult b pos) (tMul ta tb) := by
  intro pins s σ H Q I h
  refine wpAny_BinOp (bin ha hb I h fun v u s2 x y H2 I2 rx ry q => ?_)
  obtain ⟨i, j, rfl, rfl, ⟨q1, q2⟩, q⟩ := q
  obtain ⟨t, rfl⟩ := rx
  obtain ⟨t', rfl⟩ := ry
  exact mul_int ⟨.int _, H2, I2.tok _, ⟨_, rfl⟩, q⟩ (.of_left (intBits_le_64 q1 q2))

/-! ### comparisons -/
def PC (X : Cx) (op : CmpOp) (a b : Expr) (t : TE) : Prop :=
  ∀ (pins : List (Addr × Obj)) (s : Shared) (σ : St) (H : Hp) (Q : VK), Inv X pins σ H s → t σ H Q →
    wpAny (model X.prog X.w) X.A (eval a X.env) (fun v s₁ => wpAny (model X.prog X.w) X.A (eval b X.env) (fun u s₂ => wpAny (model X.prog X.w) X.A (compareOp op v u) (EP X pins σ Q) X.xe s₂) X.xe s₁) X.xe s
theorem nobehind (b : Expr) {op : CmpOp} (h : op ≠ .In) (h2 : op ≠ .NotIn) : behindInMarks op b = false := by
  have e1 : (op == CmpOp.In) = false := by cases op <;> first | rfl | exact absurd rfl h
  have e2 : (op == CmpOp.NotIn) = false := by cases op <;> first | rfl | exact absurd rfl h2
  cases b <;> simp [behindInMarks, e1, e2]
def tCmp (p : Int → Int → Bool) (ta tb : TE) : TE := fun σ H Q => t2I ta tb (fun i j H2 => Q (.bl (p i j)) H2) σ H
abbrev tLt : TE → TE → TE := tCmp fun i j => decide (i < j)
abbrev tLe : TE → TE → TE := tCmp fun i j => decide (i ≤ j)
abbrev tGt : TE → TE → TE := tCmp fun i j => decide (j < i)
abbrev tGe : TE → TE → TE := tCmp fun i j => decide (j ≤ i)
abbrev tEqI : TE → TE → TE := tCmp fun i j => decide (i = j)
abbrev tNeI : TE → TE → TE := tCmp fun i j => !decide (i = j)
/-- a comparison of two ints, by its rule -/
theorem pc_int {op : CmpOp} {p : Int → Int → Bool} (ha : PE X a ta) (hb : PE X b tb)
    (rule : ∀ (i j : Int) (t u : Tok) (Q : Value → Shared → Prop) (s : Shared), Q (.bool (p i j)) s → wpAny (model X.prog X.w) X.A (compareOp op (.int i t) (.int j u)) Q X.xe s) : PC X op a b (tCmp p ta tb) := by
  intro pins s σ H Q I h
  refine bin ha hb I h fun v u s2 x y H2 I2 rx ry q => ?_
  obtain ⟨i, j, rfl, rfl, q⟩ := q
  obtain ⟨t, rfl⟩ := rx
  obtain ⟨t', rfl⟩ := ry
  exact rule i j t t' _ s2 ⟨.bl _, H2, I2, rfl, q⟩
theorem pc_lt (ha : PE X a ta) (hb : PE X b tb) : PC X .Lt a b (tLt ta tb) := pc_int ha hb fun _ _ _ _ _ _ h => lt_int h
theorem pc_le (ha : PE X a ta) (hb : PE X b tb) : PC X .LtE a b (tLe ta tb) := pc_int ha hb fun _ _ _ _ _ _ h => le_int h
theorem pc_gt (ha : PE X a ta) (hb : PE X b tb) : PC X .Gt a b (tGt ta tb) := pc_int ha hb fun _ _ _ _ _ _ h => gt_int h
theorem pc_ge (ha : PE X a ta) (hb : PE X b tb) : PC X .GtE a b (tGe ta tb) := pc_int ha hb fun _ _ _ _ _ _ h => ge_int h
theorem pc_eqI (ha : PE X a ta) (hb : PE X b tb) : PC X .Eq a b (tEqI ta tb) := pc_int ha hb fun _ _ _ _ _ _ h => eq_int (by rw [Bool.beq_eq_decide_eq]; exact h)
theorem pc_neI (ha : PE X a ta) (hb : PE X b tb) : PC X .NotEq a b (tNeI ta tb) := pc_int ha hb fun _ _ _ _ _ _ h => ne_int (by rw [bne, Bool.beq_eq_decide_eq]; exact h)
/-- is None -/
def tIsN (ta : TE) : TE := fun σ H Q => ta σ H fun x H1 => Q (.bl (decide (x = .non))) H1
def tNotN (ta : TE) : TE := fun σ H Q => ta σ H fun x H1 => Q (.bl (!decide (x = .non))) H1
theorem RelV.none_iff {x : V} {v : Value} (r : RelV x v) : (v == Value.none) = decide (x = .non) := by
  cases x with
  | non => cases r; rfl
  | bl _ => cases r; rfl
  | int _ => obtain ⟨t, rfl⟩ := r; rfl
  | str _ => obtain ⟨t, rfl⟩ := r; rfl
  | byt _ => obtain ⟨t, rfl⟩ := r; rfl
  | flt _ => obtain ⟨t, rfl⟩ := r; rfl
  | ref _ => cases r; rfl
  | ty _ => cases r; rfl
theorem pc_isN {j pos'} (ha : PE X a ta) : PC X .Is a (.Constant .none j pos') (tIsN ta) := by
  intro pins s σ H Q I h
  refine thn (ha pins s σ H _ I h) fun v s1 ⟨x, H1, I1, r1, q1⟩ => ?_
  exact Constant_none (is_none_gen ⟨.bl _, H1, I1, by rw [r1.none_iff]; rfl, q1⟩)
theorem pc_notN {j pos'} (ha : PE X a ta) : PC X .IsNot a (.Constant .none j pos') (tNotN ta) := by
  intro pins s σ H Q I h
  refine thn (ha pins s σ H _ I h) fun v s1 ⟨x, H1, I1, r1, q1⟩ => ?_
  exact Constant_none (isnot_none_gen ⟨.bl _, H1, I1, by rw [r1.none_iff]; rfl, q1⟩)
/-- a comparison as a value, as a test -/
def tB (t : TE) : TT := fun σ H Q => t σ H fun x H1 => ∃ c, x = .bl c ∧ Q c H1
theorem pe_cmp {op : CmpOp} {t : TE} (h : PC X op a b t) (h1 : behindInMarks op b = false := by first | exact nobehind _ (by decide) (by decide) | rfl) : PE X (.Compare a [op] [b] pos) t := fun pins s σ H Q I hw => wpAny_Compare1 (h pins s σ H Q I hw) h1
theorem pt_cmp {op : CmpOp} {t : TE} (h : PC X op a b t) (h1 : behindInMarks op b = false := by first | exact nobehind _ (by decide) (by decide) | rfl) : PT X (.Compare a [op] [b] pos) (tB t) := by
  intro pins s σ H Q I hw
  refine wpAny_isTrue_Compare1 (thn (h pins s σ H _ I hw) fun v s1 h1 => thn h1 fun u s2 h2 => thn h2 fun c s3 ⟨x, H1, I1, r1, q1⟩ => ?_) h1
  obtain ⟨d, rfl, q⟩ := q1
  cases r1
  exact wpAny_truthy_bool ⟨H1, I1, q⟩
/-- an expression whose value is a bool, as a test -/
theorem pt_val {e : Expr} {t : TE} (h : PE X e t) (he : ∀ whole, isTrue e X.env whole = (do let v ← whole; standAt e.pos; holding [v] (truthy v)) := by intro _; rfl) : PT X e (tB t) := by
  intro pins s σ H Q I hw
  refine isTrue_plain (thn (h pins s σ H _ I hw) fun v s1 ⟨x, H1, I1, r1, q1⟩ => ?_) (he _)
  obtain ⟨d, rfl, q⟩ := q1
  cases r1
  exact wpAny_truthy_bool ⟨H1, I1, q⟩

/-! ### and, or, not -/
variable {tA tB' : TT} {rest : List Expr}
def tAnd (t u : TT) : TT := fun σ H Q => t σ H fun c H1 => if c = true then u σ H1 Q else Q false H1
def tOr (t u : TT) : TT := fun σ H Q => t σ H fun c H1 => if c = true then Q true H1 else u σ H1 Q
def tNot (t : TT) : TT := fun σ H Q => t σ H fun c H1 => Q (!c) H1
theorem pw_and1 (ha : PT X a tA) : PW X (.BoolOp .And [a] pos) tA := by
  intro wh pins s σ H Q I h
  refine isTrue_and (thn (ha pins s σ H Q I h) fun c s1 e => ?_)
  cases c with
  | true => exact isTrue_and_nil e
  | false => exact e
theorem pw_or1 (ha : PT X a tA) : PW X (.BoolOp .Or [a] pos) tA := by
  intro wh pins s σ H Q I h
  refine isTrue_or (thn (ha pins s σ H Q I h) fun c s1 e => ?_)
  cases c with
  | false => exact isTrue_or_nil e
  | true => exact e
theorem pw_and (ha : PT X a tA) (hb : PW X (.BoolOp .And (b :: rest) pos) tB') : PW X (.BoolOp .And (a :: b :: rest) pos) (tAnd tA tB') := by
  intro wh pins s σ H Q I h
  refine isTrue_and (thn (ha pins s σ H _ I h) fun c s1 ⟨H1, I1, q1⟩ => ?_)
  cases c with
  | true => exact hb wh pins s1 σ H1 Q I1 q1
  | false => exact ⟨H1, I1, q1⟩
theorem pw_or (ha : PT X a tA) (hb : PW X (.BoolOp .Or (b :: rest) pos) tB') : PW X (.BoolOp .Or (a :: b :: rest) pos) (tOr tA tB') := by
  intro wh pins s σ H Q I h
  refine isTrue_or (thn (ha pins s σ H _ I h) fun c s1 ⟨H1, I1, q1⟩ => ?_)
  cases c with
  | true => exact ⟨H1, I1, q1⟩
  | false => exact hb wh pins s1 σ H1 Q I1 q1
theorem pt_not (ha : PT X a tA) : PT X (.UnaryOp .Not a pos) (tNot tA) := by
  intro pins s σ H Q I h
  exact isTrue_not (ha pins s σ H (fun c H1 => Q (!c) H1) I h)
/-- .. as values (bools) -/
def tAndV (ta tb : TE) : TE := fun σ H Q => ta σ H fun x H1 => ∃ c, x = .bl c ∧ if c = true then tb σ H1 Q else Q (.bl false) H1
def tOrV (ta tb : TE) : TE := fun σ H Q => ta σ H fun x H1 => ∃ c, x = .bl c ∧ if c = true then Q (.bl true) H1 else tb σ H1 Q
def tNotV (ta : TE) : TE := fun σ H Q => ta σ H fun x H1 => ∃ c, x = .bl c ∧ Q (.bl (!c)) H1
theorem pe_one {op} {t : TE} (h : PE X a t) : PE X (.BoolOp op [a] pos) t := fun pins s σ H Q I hw => BoolOp_one (h pins s σ H Q I hw)
theorem pe_and (ha : PE X a ta) (hb : PE X (.BoolOp .And (b :: rest) pos) tb) : PE X (.BoolOp .And (a :: b :: rest) pos) (tAndV ta tb) := by
  intro pins s σ H Q I h
  refine BoolOp_and (thn (ha pins s σ H _ I h) fun v s1 ⟨x, H1, I1, r1, q1⟩ => ?_)
  obtain ⟨c, rfl, q1⟩ := q1
  cases r1
  refine wpAny_truthy_bool ?_
  cases c with
  | true => exact hb pins s1 σ H1 Q I1 q1
  | false => exact ⟨.bl false, H1, I1, rfl, q1⟩
theorem pe_or (ha : PE X a ta) (hb : PE X (.BoolOp .Or (b :: rest) pos) tb) : PE X (.BoolOp .Or (a :: b :: rest) pos) (tOrV ta tb) := by
  intro pins s σ H Q I h
  refine BoolOp_or (thn (ha pins s σ H _ I h) fun v s1 ⟨x, H1, I1, r1, q1⟩ => ?_)
  obtain ⟨c, rfl, q1⟩ := q1
  cases r1
  refine wpAny_truthy_bool ?_
  cases c with
  | false => exact hb pins s1 σ H1 Q I1 q1
  | true => exact ⟨.bl true, H1, I1, rfl, q1⟩
theorem pe_not (ha : PE X a ta) : PE X (.UnaryOp .Not a pos) (tNotV ta) := by
  intro pins s σ H Q I h
  refine UnaryOp_ (thn (ha pins s σ H _ I h) fun v s1 ⟨x, H1, I1, r1, q1⟩ => ?_)
  obtain ⟨c, rfl, q1⟩ := q1
  cases r1
  exact not_of (wpAny_truthy_bool ⟨.bl (!c), H1, I1, rfl, q1⟩)
/-- a if t else b -/
def tIf (t : TT) (ta tb : TE) : TE := fun σ H Q => t σ H fun c H1 => if c = true then ta σ H1 Q else tb σ H1 Q
theorem pe_ifExp {c : Expr} (hc : PT X c tA) (ha : PE X a ta) (hb : PE X b tb) : PE X (.IfExp c a b pos) (tIf tA ta tb) := by
  intro pins s σ H Q I h
  refine wpAny_IfExp (thn (hc pins s σ H _ I h) fun d s1 ⟨H1, I1, q1⟩ => ?_)
  cases d with
  | true => exact ha pins s1 σ H1 Q I1 q1
  | false => exact hb pins s1 σ H1 Q I1 q1
end
end L2

namespace L2
open PySem PySem.Spec PyProof.Rows

/-! ### a list, a tuple that is read: tracked, frozen, or an object of the module -/
def SqL (K : PySem.W.Frag) (H : Hp) (a : Addr) (xs : List V) : Prop :=
  Rd H a (.lst xs) ∨
    ∃ (o : Obj) (its : Array Value) (n : Nat), K.lookup a = some o ∧ o.cls = .type "list" ∧ o.dict = none ∧ o.data = .seq its n ∧ its.size ≤ sizeLine ∧ Vals xs its.toList
def SqT (K : PySem.W.Frag) (H : Hp) (a : Addr) (xs : List V) : Prop :=
  Rd H a (.tup xs) ∨
    ∃ (o : Obj) (its : Array Value) (n : Nat), K.lookup a = some o ∧ o.cls = .type "tuple" ∧ o.data = .seq its n ∧ its.size ≤ sizeLine ∧ Vals xs its.toList
def absV : Value → Option V
  | .none => some .non
  | .bool b => some (.bl b)
  | .int i _ => some (.int i)
  | .str x _ => some (.str x)
  | .bytes b _ => some (.byt b)
  | .float b _ => some (.flt b)
  | .ref a => some (.ref a)
  | .type n => some (.ty n)
  | _ => none
theorem RelV.abs {x : V} {u : Value} (r : RelV x u) : absV u = some x := by
  cases x with
  | non => cases r; rfl
  | bl _ => cases r; rfl
  | int _ => obtain ⟨t, rfl⟩ := r; rfl
  | str _ => obtain ⟨t, rfl⟩ := r; rfl
  | byt _ => obtain ⟨t, rfl⟩ := r; rfl
  | flt _ => obtain ⟨t, rfl⟩ := r; rfl
  | ref _ => cases r; rfl
  | ty _ => cases r; rfl
theorem RelV.inj {x y : V} {u : Value} (r : RelV x u) (q : RelV y u) : x = y := Option.some.inj (r.abs.symm.trans q.abs)
theorem Vals.inj : ∀ {xs ys : List V} {us : List Value}, Vals xs us → Vals ys us → xs = ys
  | _, _, _, .nil, .nil => rfl
  | _, _, _, .cons r t, .cons r' t' => by rw [r.inj r', Vals.inj t t']
section
variable {X : Cx} {pins : List (Addr × Obj)} {σ : St} {H : Hp} {s : Shared} {a : Addr} {xs ys : List V}
theorem SqL.of {K : PySem.W.Frag} (h : H a = some (.lst xs)) : SqL K H a xs := .inl (.inl h)
theorem SqT.of {K : PySem.W.Frag} (h : H a = some (.tup xs)) : SqT K H a xs := .inl (.inl h)
theorem Inv.list (I : Inv X pins σ H s) (h : SqL X.K H a xs) : ∃ its : List Value, Vals xs its ∧ PlainL s.heap a its.toArray ∧ xs.length ≤ sizeLine := by
  rcases h with h | ⟨o, its, n, hk, hc, hd, hs, hz, r⟩
  · obtain ⟨z, its, n, r, e⟩ := h.ok I.hok
    exact ⟨its, r, ⟨_, n, e, rfl, rfl, rfl⟩, z⟩
  · refine ⟨its.toList, r, ⟨o, n, I.kIn a o hk, hc, hd, by simpa using hs⟩, ?_⟩
    have e := r.length
    simp only [Array.length_toList] at e
    omega
theorem Inv.tuple (I : Inv X pins σ H s) (h : SqT X.K H a xs) : ∃ its : List Value, Vals xs its ∧ IsTup s.heap a its.toArray ∧ xs.length ≤ sizeLine := by
  rcases h with h | ⟨o, its, n, hk, hc, hs, hz, r⟩
  · obtain ⟨z, its, r, p⟩ := h.ok I.hok
    exact ⟨its, r, p, z⟩
  · refine ⟨its.toList, r, ⟨o, I.kIn a o hk, hc, n, by simpa using hs⟩, ?_⟩
    have e := r.length
    simp only [Array.length_toList] at e
    omega
theorem Inv.list_inj (I : Inv X pins σ H s) (h : SqL X.K H a xs) (h' : SqL X.K H a ys) : xs = ys := by
  obtain ⟨its, r, ⟨o, n, e, _, _, d⟩, _⟩ := I.list h
  obtain ⟨its', r', ⟨o', n', e', _, _, d'⟩, _⟩ := I.list h'
  rw [e] at e'; cases e'
  rw [d] at d'
  injection d' with d1 _
  have : its = its' := by simpa using congrArg Array.toList d1
  subst this
  exact r.inj r'
theorem Inv.tuple_inj (I : Inv X pins σ H s) (h : SqT X.K H a xs) (h' : SqT X.K H a ys) : xs = ys := by
  obtain ⟨its, r, ⟨o, e, _, n, d⟩, _⟩ := I.tuple h
  obtain ⟨its', r', ⟨o', e', _, n', d'⟩, _⟩ := I.tuple h'
  rw [e] at e'; cases e'
  rw [d] at d'
  injection d' with d1 _
  have : its = its' := by simpa using congrArg Array.toList d1
  subst this
  exact r.inj r'
end

/-! ### another wish about exceptions -/
abbrev Cx.wish (X : Cx) (E : Value → Shared → Prop) : Cx := { X with xe := E }
/-- no exception leaves -/
abbrev Cx.nox (X : Cx) : Cx := X.wish fun _ _ => False
theorem Cx.Ok.wish {X : Cx} (ok : X.Ok) (E : Value → Shared → Prop) : (X.wish E).Ok :=
  ⟨ok.mod, ok.kind, ok.glob, ok.blt, ok.above, ok.inj, ok.has, ok.cab, ok.hd, ok.frames, ok.stk, ok.exf, ok.bs, ok.bsz, ok.noex, ok.exfs, ok.funs, ok.frf⟩
theorem Cx.Ok.unwish {X : Cx} {E : Value → Shared → Prop} (ok : (X.wish E).Ok) : X.Ok :=
  ⟨ok.mod, ok.kind, ok.glob, ok.blt, ok.above, ok.inj, ok.has, ok.cab, ok.hd, ok.frames, ok.stk, ok.exf, ok.bs, ok.bsz, ok.noex, ok.exfs, ok.funs, ok.frf⟩
section
variable {X : Cx} {pins : List (Addr × Obj)} {σ : St} {H : Hp} {s : Shared} {E : Value → Shared → Prop}
theorem Inv.wish (I : Inv X pins σ H s) (E : Value → Shared → Prop) : Inv (X.wish E) pins σ H s := ⟨I.ok.wish E, I.os, I.bare, I.base, I.loc, I.cell, I.free, I.freeC, I.pin, I.hok, I.len⟩
theorem Inv.unwish (I : Inv (X.wish E) pins σ H s) : Inv X pins σ H s := ⟨I.ok.unwish, I.os, I.bare, I.base, I.loc, I.cell, I.free, I.freeC, I.pin, I.hok, I.len⟩
theorem SP.unwish {D : Ends} {f : Flow} {s' : Shared} (h : SP (X.wish E) pins D f s') : SP X pins D f s' := by
  cases f with
  | next => obtain ⟨σ', H', I, q⟩ := h; exact ⟨σ', H', I.unwish, q⟩
  | brk => obtain ⟨σ', H', I, q⟩ := h; exact ⟨σ', H', I.unwish, q⟩
  | cont => obtain ⟨σ', H', I, q⟩ := h; exact ⟨σ', H', I.unwish, q⟩
  | ret u => obtain ⟨v, σ', H', I, r, q⟩ := h; exact ⟨v, σ', H', I.unwish, r, q⟩
theorem PE.nox {e : Expr} {t : TE} (h : PE X.nox e t) : PE X e t := fun pins s σ H Q I hw =>
  wpAny_mono (h pins s σ H Q (I.wish _) hw) (fun _ _ ⟨v, H', I', r, q⟩ => ⟨v, H', I'.unwish, r, q⟩) fun _ _ z => False.elim z
theorem PT.nox {e : Expr} {t : TT} (h : PT X.nox e t) : PT X e t := fun pins s σ H Q I hw =>
  wpAny_mono (h pins s σ H Q (I.wish _) hw) (fun _ _ ⟨H', I', q⟩ => ⟨H', I'.unwish, q⟩) fun _ _ z => False.elim z
theorem PSs.nox {st : List Stmt} {t : TS} (h : PSs X.nox st t) : PSs X st t := fun pins s σ H D I hw =>
  wpAny_mono (h pins s σ H D (I.wish _) hw) (fun _ _ q => q.unwish) fun _ _ z => False.elim z
end

/-! ### blocks and small statements -/
section
variable {X : Cx} {st : Stmt} {rest : List Stmt} {t u : TS} {e : Expr} {te : TE} {pos : Pos}
def tNext : TS := fun D σ H => D.nx σ H
def tSeq (t u : TS) : TS := fun D σ H => t { D with nx := u D } σ H
theorem pss_nil : PSs X [] tNext := fun _ _ σ H _ I h => wpAny_execs_nil ⟨σ, H, I, h⟩
theorem pss_cons (h1 : PS X st t) (h2 : PSs X rest u) : PSs X (st :: rest) (tSeq t u) := by
  intro pins s σ H D I h
  refine wpAny_execs_cons (thn (h1 pins s σ H { D with nx := u D } I h) fun f s1 q => ?_)
  cases f with
  | next =>
    obtain ⟨σ', H', I', q⟩ := q
    exact h2 pins s1 σ' H' D I' q
  | ret v => exact q
  | brk => exact q
  | cont => exact q
theorem pss_one (h1 : PS X st t) : PSs X [st] t := by
  intro pins s σ H D I h
  refine wpAny_execs_cons (thn (h1 pins s σ H D I h) fun f s1 q => ?_)
  cases f with
  | next => exact wpAny_execs_nil q
  | ret v => exact q
  | brk => exact q
  | cont => exact q
def tBreak : TS := fun D σ H => D.bk σ H
def tCont : TS := fun D σ H => D.ct σ H
theorem ps_pass : PS X (.Pass pos) tNext := fun _ _ σ H _ I h => wpAny_Pass ⟨σ, H, I, h⟩
theorem ps_break : PS X (.Break pos) tBreak := fun _ _ σ H _ I h => wpAny_Break ⟨σ, H, I, h⟩
theorem ps_continue : PS X (.Continue pos) tCont := fun _ _ σ H _ I h => wpAny_Continue ⟨σ, H, I, h⟩
/-- in a def's body nothing is shown -/
theorem Inv.quiet {pins : List (Addr × Obj)} {σ : St} {H : Hp} {s : Shared} (I : Inv X pins σ H s) : interactive X.env = false := by simp [interactive, I.ok.kind]
/-- a docstring -/
theorem ps_doc {x j pos pos'} : PS X (.Expr (.Constant (.str x) j pos) pos') tNext := fun _ s σ H _ I h => wpAny_Expr (Calls.Constant_str (show SP X _ _ .next { s with toks := s.toks + 1 } from ⟨σ, H, I.tok _, h⟩)) I.quiet
/-- an expression whose value is dropped -/
def tDrop (te : TE) : TS := fun D σ H => te σ H fun _ H1 => D.nx σ H1
theorem ps_expr (he : PE X e te) (hs : swapsWith e none pos.line X.env = pure false := by rfl) : PS X (.Expr e pos) (tDrop te) := by
  intro pins s σ H D I h
  exact wpAny_Expr_any (thn (he pins s σ H _ I h) fun v s1 ⟨x, H1, I1, r1, q1⟩ => ⟨σ, H1, I1, q1⟩) I.quiet hs
def tRet (te : TE) : TS := fun D σ H => te σ H D.rt
theorem ps_ret (he : PE X e te) : PS X (.Return (some e) pos) (tRet te) := by
  intro pins s σ H D I h
  exact wpAny_Return_some (thn (he pins s σ H _ I h) fun v s1 ⟨x, H1, I1, r1, q1⟩ => ⟨x, σ, H1, I1, r1, q1⟩)
def tRetN : TS := fun D _ H => D.rt .non H
theorem ps_retN : PS X (.Return none pos) tRetN := fun _ _ σ H _ I h => wpAny_Return_none ⟨.non, σ, H, I, rfl, h⟩
def tIfS (c : TT) (t u : TS) : TS := fun D σ H => c σ H fun b H1 => if b = true then t D σ H1 else u D σ H1
theorem ps_if {c : Expr} {a b : List Stmt} {tc : TT} (hc : PT X c tc) (ha : PSs X a t) (hb : PSs X b u) : PS X (.If c a b pos) (tIfS tc t u) := by
  intro pins s σ H D I h
  refine wpAny_If (thn (hc pins s σ H _ I h) fun d s1 ⟨H1, I1, q1⟩ => ?_)
  cases d with
  | true => exact ha pins s1 σ H1 D I1 q1
  | false => exact hb pins s1 σ H1 D I1 q1
/-- code that the proof never comes to -/
def tNever : TS := fun _ _ _ => False
theorem ps_never : PS X st tNever := fun _ _ _ _ _ _ h => h.elim
theorem pss_never {sts : List Stmt} : PSs X sts tNever := fun _ _ _ _ _ _ h => h.elim
end

/-! ### targets -/
abbrev TG := V → St → Hp → (St → Hp → Prop) → Prop
abbrev TGs := List V → St → Hp → (St → Hp → Prop) → Prop
def PG (X : Cx) (target : Expr) (t : TG) : Prop :=
  ∀ (pins : List (Addr × Obj)) (s : Shared) (σ : St) (H : Hp) (v : V) (u : Value) (Q : St → Hp → Prop), Inv X pins σ H s → RelV v u → t v σ H Q →
    wpAny (model X.prog X.w) X.A (assign target X.env u) (fun _ s' => ∃ σ' H', Inv X pins σ' H' s' ∧ Q σ' H') X.xe s
/-- several targets, one after another -/
def PGs (X : Cx) (ts : List Expr) (t : TGs) : Prop :=
  ∀ (pins : List (Addr × Obj)) (s : Shared) (σ : St) (H : Hp) (vs : List V) (us : List Value) (Q : St → Hp → Prop), Inv X pins σ H s → Vals vs us → t vs σ H Q →
    wpAny (model X.prog X.w) X.A (assignInOrder ((assignEach ts X.env).map (·.2)) us) (fun _ s' => ∃ σ' H', Inv X pins σ' H' s' ∧ Q σ' H') X.xe s
/-- o[i] = v, by values -/
abbrev TSet := V → V → V → Hp → (Hp → Prop) → Prop
def PSet (X : Cx) (t : TSet) : Prop :=
  ∀ (pins : List (Addr × Obj)) (s : Shared) (σ : St) (H : Hp) (o i v : V) (ov iv u : Value) (Q : Hp → Prop), Inv X pins σ H s → RelV o ov → RelV i iv → RelV v u → t o i v H Q →
    wpAny (model X.prog X.w) X.A (setItem ov iv u) (fun _ s' => ∃ H', Inv X pins σ H' s' ∧ Q H') X.xe s
/-- a op= b, by values -/
abbrev TIp := V → V → Hp → VK → Prop
def PIp (X : Cx) (op : Operator) (t : TIp) : Prop :=
  ∀ (pins : List (Addr × Obj)) (s : Shared) (σ : St) (H : Hp) (x y : V) (v u : Value) (Q : VK), Inv X pins σ H s → RelV x v → RelV y u → t x y H Q →
    wpAny (model X.prog X.w) X.A (inplaceOp op v u) (EP X pins σ Q) X.xe s
section
variable {X : Cx} {pos : Pos}
def gName (i : Nat) : TG := fun v σ H Q => Q (σ.set i (some v)) H
theorem pg_name {i : Nat} {x : Str} (hN : X.N.Nodup) (hi : X.N[i]? = some x) (hx : Loc X.env.scope x) (hf : X.fn x = true ∨ X.env.scope.names.lookup x = some .local := by first | exact .inl rfl | exact .inr rfl | assumption) : PG X (.Name x pos) (gName i) := by
  intro pins s σ H v u Q I r h
  exact wpAny_assign_Name (store_ok I hN hi hx r (fun s' I' => ⟨_, H, I', h⟩) hf)
def gNil : TGs := fun vs σ H Q => vs = [] ∧ Q σ H
def gCons (t : TG) (u : TGs) : TGs := fun vs σ H Q => ∃ v r, vs = v :: r ∧ t v σ H fun σ' H' => u r σ' H' Q
theorem pgs_nil : PGs X [] gNil := by
  intro pins s σ H vs us Q I r h
  obtain ⟨e, h⟩ := h
  subst e
  cases r
  exact assignInOrder_nil ⟨σ, H, I, h⟩
theorem pgs_cons {e : Expr} {es : List Expr} {t : TG} {u : TGs} (h1 : PG X e t) (h2 : PGs X es u)
    (hs : (assignEach (e :: es) X.env).map (·.2) = assign e X.env :: (assignEach es X.env).map (·.2) := by rfl) : PGs X (e :: es) (gCons t u) := by
  intro pins s σ H vs us Q I r h
  obtain ⟨v, vr, e1, h⟩ := h
  subst e1
  cases r with
  | cons r rr =>
    rw [hs]
    refine assignInOrder_cons (thn (h1 pins s σ H _ _ _ I r h) fun _ s1 ⟨σ1, H1, I1, q1⟩ => ?_)
    exact h2 pins s1 σ1 H1 _ _ Q I1 rr q1
/-- (a, b, ..) = a tuple of that length -/
def gTup (K : PySem.W.Frag) (n : Nat) (t : TGs) : TG := fun v σ H Q => ∃ a xs, v = .ref a ∧ SqT K H a xs ∧ xs.length = n ∧ t xs σ H Q
theorem pg_tup {es : List Expr} {k : Nat} {t : TGs} {n : Nat} (hc : X.calm = true) (h : PGs X es t)
    (hn : (assignEach es X.env).length = n := by rfl) (hst : (assignEach es X.env).findIdx? (·.1) = none := by rfl) : PG X (.Tuple es k pos) (gTup X.K n t) := by
  intro pins s σ H v u Q I r hw
  obtain ⟨a, xs, e1, hq, hl, hw⟩ := hw
  subst e1
  cases r
  obtain ⟨its, rv, ht, hz⟩ := I.tuple hq
  refine assign_Tuple_tuple (I.ok.hd hc) ht (by simp [hn, ← hl, rv.length]) hst fun h' hx => ?_
  have I1 : Inv X pins σ H { s with heap := h' } := I.kept (t' := s.toks) fun b o e => hx b o (Nat.ne_of_lt (Heap.lt_size e)) e
  exact h pins _ σ H xs _ Q I1 (by simpa using rv) hw
/-- o[i] = .. -/
def gSub (to ti : TE) (t : TSet) : TG := fun v σ H Q => to σ H fun o H1 => ti σ H1 fun i H2 => t o i v H2 fun H3 => Q σ H3
theorem pg_sub {o i : Expr} {to ti : TE} {t : TSet} (ho : PE X o to) (hi : PE X i ti) (hs : PSet X t)
    (ha : ∀ v, assign (.Subscript o i pos) X.env v = (do
      let ov ← holding [v] (eval o X.env)
      let iv ← holding [v, ov] (eval i X.env)
      standAt pos
      holding [v, ov, iv] (setItem ov iv v)
      release [v, ov, iv] []) := by intro _; rfl) : PG X (.Subscript o i pos) (gSub to ti t) := by
  intro pins s σ H v u Q I r h
  rw [ha]
  refine wpAny_bind (wpAny_holding (thn (ho pins s σ H _ I h) fun ov s1 ⟨x, H1, I1, r1, q1⟩ => ?_))
  refine wpAny_bind (wpAny_holding (thn (hi pins s1 σ H1 _ I1 q1) fun iv s2 ⟨y, H2, I2, r2, q2⟩ => ?_))
  refine wpAny_bind (wpAny_standAt (wpAny_bind (wpAny_holding (thn (hs pins s2 σ H2 x y v ov iv u _ I2 r1 r2 r q2) fun _ s3 ⟨H3, I3, q3⟩ => ?_))))
  exact wpAny_release ⟨σ, H3, I3, q3⟩
/-- target = value -/
def tAsg (te : TE) (g : TG) : TS := fun D σ H => te σ H fun x H1 => g x σ H1 D.nx
theorem ps_asg {tg e : Expr} {te : TE} {g : TG} (he : PE X e te) (hg : PG X tg g) (hs : swapsWithSole [tg] e pos.line X.env = pure false := by rfl) (hw : swappedStores [tg] e X.env = pure none := by rfl)
    (h1 : (assignEach [tg] X.env).map (·.2) = [assign tg X.env] := by rfl) : PS X (.Assign [tg] e pos) (tAsg te g) := by
  intro pins s σ H D I h
  refine wpAny_Assign_stores (thn (he pins s σ H _ I h) fun v s1 ⟨x, H1, I1, r1, q1⟩ => ?_) hs hw
  rw [h1]
  exact thn (hg pins s1 σ H1 x v _ I1 r1 q1) fun _ s2 q => q
/-- name = value -/
theorem ps_set {i : Nat} {x : Str} {e : Expr} {te : TE} {pos' : Pos} (hN : X.N.Nodup) (hi : X.N[i]? = some x) (hx : Loc X.env.scope x) (he : PE X e te) (hs : swapsWith e (some (.Name x pos')) pos.line X.env = pure false := by rfl) (hf : X.fn x = true ∨ X.env.scope.names.lookup x = some .local := by first | exact .inl rfl | exact .inr rfl | assumption) :
    PS X (.Assign [.Name x pos'] e pos) (tAsg te (gName i)) := by
  intro pins s σ H D I h
  refine wpAny_Assign_Name (thn (he pins s σ H _ I h) fun v s1 ⟨y, H1, I1, r1, q1⟩ => ?_) hs
  exact store_ok I1 hN hi hx r1 (fun s2 I2 => ⟨_, H1, I2, q1⟩) hf
/-- a, b = x, y with plain local names: stored from the right; the pair itself is not tracked (the opening rows as in PyProof/Rows/TupAssign.lean:23) -/
def tPar (i j : Nat) (ta : TA) : TS := fun D σ H => ta σ H fun vs H1 => ∃ v w, vs = [v, w] ∧ D.nx ((σ.set i (some v)).set j (some w)) H1
theorem ps_par {i j : Nat} {x y : Str} {a b : Expr} {ta : TA} {px py pt : Pos} {kt k2 pt2} (hc : X.calm = true) (hN : X.N.Nodup) (hi : X.N[i]? = some x) (hj : X.N[j]? = some y) (hij : i ≠ j)
    (hx : X.env.scope.names.lookup x = some .local) (hy : X.env.scope.names.lookup y = some .local) (ha : PA X [a, b] ta)
    (hw : swappedStores [.Tuple [.Name x px, .Name y py] kt pt] (.Tuple [a, b] k2 pt2) X.env = pure (some [x, y]))
    (hs : swapsWithSole [.Tuple [.Name x px, .Name y py] kt pt] (.Tuple [a, b] k2 pt2) pos.line X.env = pure false := by rfl) :
    PS X (.Assign [.Tuple [.Name x px, .Name y py] kt pt] (.Tuple [a, b] k2 pt2) pos) (tPar i j ta) := by
  intro pins s σ H D I h
  rw [exec_Assign_arm]
  refine wpAny_bind (wpAny_standAt ?_)
  rw [hs]
  refine wpAny_bind (wpAny_pure ?_)
  rw [if_neg (by decide)]
  refine wpAny_bind (Tuple_ (thn (ha _ pins s σ H _ I h) fun us s1 ⟨vs, H1, I1, r1, q1⟩ => ?_))
  obtain ⟨v, w, e1, q1⟩ := q1
  subst e1
  obtain ⟨u1, u2, rfl, rv, rw'⟩ : ∃ u1 u2, us = [u1, u2] ∧ RelV v u1 ∧ RelV w u2 := by
    cases r1 with
    | cons p q =>
      cases q with
      | cons p' q' =>
        cases q'
        exact ⟨_, _, rfl, p, p'⟩
  refine wpAny_newObj_type ?_ (by show 2 ≤ sizeLine; decide)
  have I2 : Inv X pins σ H1 { s1 with heap := s1.heap.push { cls := .type "tuple", data := .seq [u1, u2].toArray } } := I1.kept (t' := s1.toks) fun b o e => Heap.get?_push_of_some _ e
  rw [hw]
  refine wpAny_bind (wpAny_pure ?_)
  show wpAny (model X.prog X.w) X.A (do rule "assign.swapped-stores"; let items ← unpackItems (.ref s1.heap.objs.size) 2 none; assignInOrder [fun v => bindName X.env y v, fun v => bindName X.env x v] items.reverse; pure Flow.next) _ _ _
  refine wpAny_bind (wpAny_rule (wpAny_bind (unpackItems_tuple (items := #[u1, u2]) (I.ok.hd hc) (IsTup.new s1.heap _) fun h' hx' => ?_)))
  have I3 := I2.kept (h' := h') (t' := s1.toks) fun b o e => hx' b o (Nat.ne_of_lt (Heap.lt_size e)) e
  show wpAny _ _ (assignInOrder [fun v => bindName X.env y v, fun v => bindName X.env x v] [u2, u1] >>= fun _ => pure Flow.next) _ _ _
  refine wpAny_bind (assignInOrder_cons (wpAny_bindName (store_ok I3 hN hj (.inl hy) rw' (fun s2 I4 => ?_) (.inr hy))))
  refine assignInOrder_cons (wpAny_bindName (store_ok I4 hN hi (.inl hx) rv (fun s3 I5 => assignInOrder_nil (wpAny_pure ?_)) (.inr hx)))
  rw [List.set_comm _ _ (Ne.symm hij)] at I5
  exact ⟨_, H1, I5, q1⟩
/-- name op= e -/
def tAug (i : Nat) (te : TE) (ti : TIp) : TS := fun D σ H => ∃ x, σ[i]? = some (some x) ∧ te σ H fun y H1 => ti x y H1 fun z H2 => D.nx (σ.set i (some z)) H2
theorem ps_aug {i : Nat} {x : Str} {e : Expr} {te : TE} {op : Operator} {ti : TIp} {pos' : Pos} (hN : X.N.Nodup) (hi : X.N[i]? = some x) (hx : Loc X.env.scope x) (he : PE X e te) (ho : PIp X op ti) (hf : X.fn x = true ∨ X.env.scope.names.lookup x = some .local := by first | exact .inl rfl | exact .inr rfl | assumption) :
    PS X (.AugAssign (.Name x pos') op e pos) (tAug i te ti) := by
  intro pins s σ H D I h
  obtain ⟨v, e1, h⟩ := h
  obtain ⟨m, hn, hl⟩ := I.loc
  have vis : Vis X.env.scope x := by rcases hx with k | k; exact .inl k; exact .inr (.inl k)
  obtain ⟨u, r, l⟩ := hl i x v hi e1 vis
  refine wpAny_AugAssign_Name ?_
  have go : wpAny (model X.prog X.w) X.A (eval e X.env) (fun w s₂ => wpAny (model X.prog X.w) X.A (inplaceOp op u w) (fun r s₃ => wpAny (model X.prog X.w) X.A (storeName X.env x r) (fun _ => SP X pins D .next) X.xe s₃) X.xe s₂) X.xe s := by
    refine thn (he pins s σ H _ I h) fun w s1 ⟨y, H1, I1, r1, q1⟩ => ?_
    refine thn (ho pins s1 σ H1 v y u w _ I1 r r1 q1) fun z s2 ⟨zv, H2, I2, r2, q2⟩ => ?_
    exact store_ok I2 hN hi hx r2 (fun s3 I3 => ⟨_, H2, I3, q2⟩) hf
  rcases l with ⟨hk, hm⟩ | ⟨hk, c, hc, hcell⟩
  · exact wpAny_loadName_local I.ok.kind hk hn hm go
  · rcases hk with hk | hk
    · exact wpAny_loadName_cell I.ok.kind hk hc hcell go
    · rcases hx with k | k
      · have : X.env.scope.names.lookup x = some .free := hk
        rw [k] at this; cases this
      · have : X.env.scope.names.lookup x = some .free := hk
        rw [k] at this; cases this
/-- o[i] op= e -/
def tAugS (to ti te : TE) (tget : V → V → Hp → VK → Prop) (tip : TIp) (tset : TSet) : TS := fun D σ H => to σ H fun o H1 => ti σ H1 fun i H2 => tget o i H2 fun x H3 => te σ H3 fun y H4 => tip x y H4 fun z H5 => tset o i z H5 fun H6 => D.nx σ H6
/-- o[i], by values -/
def PGet (X : Cx) (t : V → V → Hp → VK → Prop) : Prop :=
  ∀ (pins : List (Addr × Obj)) (s : Shared) (σ : St) (H : Hp) (o i : V) (ov iv : Value) (Q : VK), Inv X pins σ H s → RelV o ov → RelV i iv → t o i H Q →
    wpAny (model X.prog X.w) X.A (getItem ov iv) (EP X pins σ Q) X.xe s
theorem ps_augS {o i e : Expr} {to ti te : TE} {tget : V → V → Hp → VK → Prop} {tip : TIp} {tset : TSet} {op : Operator} {tpos : Pos} (ho : PE X o to) (hi : PE X i ti) (hg : PGet X tget) (he : PE X e te) (hp : PIp X op tip) (hs : PSet X tset)
    (ha : ∀ ov iv new, augStore i ov iv new = (do holding [new, ov, iv] (setItem ov iv new); release [new, ov, iv] []; pure .next) := by intros; rfl) : PS X (.AugAssign (.Subscript o i tpos) op e pos) (tAugS to ti te tget tip tset) := by
  intro pins s σ H D I h
  refine wpAny_AugAssign_SubscriptAny (thn (ho pins s σ H _ I h) fun ov s1 ⟨x1, H1, I1, r1, q1⟩ => ?_) ha
  refine thn (hi pins s1 σ H1 _ I1 q1) fun iv s2 ⟨x2, H2, I2, r2, q2⟩ => ?_
  refine thn (hg pins s2 σ H2 x1 x2 ov iv _ I2 r1 r2 q2) fun old s3 ⟨x3, H3, I3, r3, q3⟩ => ?_
  refine thn (he pins s3 σ H3 _ I3 q3) fun v s4 ⟨x4, H4, I4, r4, q4⟩ => ?_
  refine thn (hp pins s4 σ H4 x3 x4 old v _ I4 r3 r4 q4) fun new s5 ⟨x5, H5, I5, r5, q5⟩ => ?_
  exact thn (hs pins s5 σ H5 x1 x2 x5 ov iv new _ I5 r1 r2 r5 q5) fun _ s6 ⟨H6, I6, q6⟩ => ⟨σ, H6, I6, q6⟩
/-- ints -/
def ipI (f : Int → Int → Int) : TIp := fun x y H Q => ∃ i j, x = .int i ∧ y = .int j ∧ Q (.int (f i j)) H
theorem ip_add : PIp X .Add (ipI fun i j => i + j) := by
  intro pins s σ H x y v u Q I r1 r2 h
  obtain ⟨i, j, e1, e2, q⟩ := h
  subst e1; subst e2
  obtain ⟨t, rfl⟩ := r1
  obtain ⟨t', rfl⟩ := r2
  exact iadd_int ⟨.int _, H, I.tok _, ⟨_, rfl⟩, q⟩
theorem ip_sub : PIp X .Sub (ipI fun i j => i - j) := by
  intro pins s σ H x y v u Q I r1 r2 h
  obtain ⟨i, j, e1, e2, q⟩ := h
  subst e1; subst e2
  obtain ⟨t, rfl⟩ := r1
  obtain ⟨t', rfl⟩ := r2
  exact isub_int ⟨.int _, H, I.tok _, ⟨_, rfl⟩, q⟩
end

/-! ### while -/
section
variable {X : Cx} {pos : Pos}
/-- the invariant W with its measure -/
def tWhile (c : TT) (tb : TS) : TS := fun D σ H => ∃ W : Nat → St → Hp → Prop, (∃ m, W m σ H) ∧ ∀ m σ H, W m σ H →
  c σ H fun b H1 => if b = true then ∃ N : St → Hp → Prop, (∀ σ' H', N σ' H' → ∃ m', m' < m ∧ W m' σ' H') ∧ tb { D with nx := N, ct := N, bk := D.nx } σ H1 else D.nx σ H1
theorem ps_while {c : Expr} {body : List Stmt} {tc : TT} {tb : TS} (hp : PassesOwn (model X.prog X.w) X.A X.env X.xe) (hc : PT X c tc) (hb : PSs X body tb) : PS X (.While c body [] pos) (tWhile tc tb) := by
  intro pins s σ H D I h
  obtain ⟨W, ⟨m0, w0⟩, turn⟩ := h
  refine wpAny_While (codeAny_whileLoop (fun n s' => ∃ σ' H', Inv X pins σ' H' s' ∧ W n σ' H') ?_ m0 ⟨σ, H, I, w0⟩)
  rintro n s1 ⟨σ1, H1, I1, w1⟩
  refine wpAny_passesOwn hp (thn (hc pins s1 σ1 H1 _ I1 (turn n σ1 H1 w1)) fun b s2 ⟨H2, I2, q2⟩ => ?_)
  cases b with
  | true =>
    obtain ⟨N, hN, q2⟩ := q2
    rw [if_pos rfl]
    refine wpAny_passesOwn hp (thn (hb pins s2 σ1 H2 _ I2 q2) fun f s3 q3 => ?_)
    cases f with
    | next =>
      obtain ⟨σ3, H3, I3, n3⟩ := q3
      obtain ⟨m', hm, w3⟩ := hN σ3 H3 n3
      exact ⟨m', hm, σ3, H3, I3, w3⟩
    | cont =>
      obtain ⟨σ3, H3, I3, n3⟩ := q3
      obtain ⟨m', hm, w3⟩ := hN σ3 H3 n3
      exact ⟨m', hm, σ3, H3, I3, w3⟩
    | brk => exact q3
    | ret v => exact q3
  | false =>
    rw [if_neg Bool.false_ne_true]
    exact wpAny_execs_nil ⟨σ1, H2, I2, q2⟩
end

/-! ### what a loop or a comprehension walks -/
/-- at turn i: it yields x (the heap may grow), or it stops -/
structure It where
  go : Nat → Hp → Prop
  yld : Nat → Hp → V → Hp → Prop
  stop : Nat → Hp → Prop
/-- the iterator's own objects may turn: they are not the frame's, not pinned, younger than the entry (or a comprehension's own) -/
def FpOk (X : Cx) (pins : List (Addr × Obj)) (H : Hp) (b : Addr) : Prop :=
  H b = none ∧ b ≠ X.env.locals ∧ b ∉ X.fs ∧ (b ∈ X.ex ∨ X.s₀.heap.objs.size ≤ b) ∧ (∀ x c, X.env.cells.lookup x = some c → c ≠ b) ∧ ∀ p ∈ X.pn ++ pins, p.1 ≠ b
theorem Inv.fpOk {X : Cx} {pins : List (Addr × Obj)} {σ : St} {H H' : Hp} {s : Shared} {b : Addr} (I : Inv X pins σ H s) (hb : s.heap.objs.size ≤ b) (hn : H' b = none) : FpOk X pins H' b := by
  refine ⟨hn, Nat.ne_of_gt (Nat.lt_of_lt_of_le I.lt hb), I.nofs hb, .inr (Nat.le_trans I.sz hb), fun x c e z => ?_, fun p hp z => ?_⟩
  · obtain ⟨v, q⟩ := I.cell x c e
    exact absurd (Nat.lt_of_lt_of_le q.lt (by rw [z]; exact hb)) (Nat.lt_irrefl _)
  · exact absurd (Nat.lt_of_lt_of_le (Heap.lt_size (I.pin p hp).1) (by rw [z]; exact hb)) (Nat.lt_irrefl _)
structure Turn (P : Program) (w : World) (K : PySem.W.Frag) (tg : Expr) (J : It) (fp : List Addr) (it : Addr) (tn : Nat → Heap → Prop) : Prop where
  mem : it ∈ fp
  obj : ∀ i h, tn i h → ∀ b ∈ fp, ∃ o, h.get? b = some o ∧ ∀ v, o.data ≠ .cell v
  keep : ∀ i h h', tn i h → (∀ b ∈ fp, ∀ o, h.get? b = some o → h'.get? b = some o) → tn i h'
  item : ∀ (X : Cx), X.prog = P → X.w = w → X.K = K → X.calm = true → ∀ (i : Nat) (pins : List (Addr × Obj)) (s : Shared) (σ : St) (H : Hp) (E : Value → Shared → Prop), Inv X pins σ H s → (∀ b ∈ fp, FpOk X pins H b) → tn i s.heap → J.go i H →
    wpAny (model P w) X.A (pyNext (.ref it)) (fun r s1 => ∃ u, r = some u ∧
      wpAny (model P w) X.A (letOwnedTupleGo tg (.ref it) u) (fun _ s2 => ∃ x H', Inv X pins σ H' s2 ∧ RelV x u ∧ J.yld i H x H' ∧ tn (i + 1) s2.heap ∧ ∀ b ∈ fp, H' b = none) E s1) E s
  done : ∀ (X : Cx), X.prog = P → X.w = w → X.K = K → X.calm = true → ∀ (i : Nat) (pins : List (Addr × Obj)) (s : Shared) (σ : St) (H : Hp) (E : Value → Shared → Prop), Inv X pins σ H s → (∀ b ∈ fp, FpOk X pins H b) → tn i s.heap → J.stop i H →
    wpAny (model P w) X.A (pyNext (.ref it)) (fun r s1 => r = none ∧ Inv X pins σ H s1) E s
  self : ∀ (A : Around) (i : Nat) (s : Shared) (Q : Value → Shared → Prop) (E : Value → Shared → Prop), tn i s.heap → Q (.ref it) s → wpAny (model P w) A (pyIter (.ref it)) Q E s
abbrev TI := St → Hp → (It → Hp → Prop) → Prop
/-- an iterator has come -/
def PIE (X : Cx) (pins : List (Addr × Obj)) (σ : St) (tg : Expr) (R : It → Hp → Prop) (itv : Value) (s2 : Shared) : Prop :=
  ∃ (it : Addr) (fp : List Addr) (tn : Nat → Heap → Prop) (J : It) (H' : Hp), itv = .ref it ∧ Inv X pins σ H' s2 ∧ Turn X.prog X.w X.K tg J fp it tn ∧ tn 0 s2.heap ∧ (∀ b ∈ fp, FpOk X pins H' b) ∧ R J H'
def PI (X : Cx) (tg iter : Expr) (wi : TI) : Prop :=
  ∀ (pins : List (Addr × Obj)) (s : Shared) (σ : St) (H : Hp) (R : It → Hp → Prop), Inv X pins σ H s → wi σ H R →
    wpAny (model X.prog X.w) X.A (eval iter X.env) (fun v s1 => wpAny (model X.prog X.w) X.A (pyIter v) (PIE X pins σ tg R) X.xe s1) X.xe s

/-- the step ahead of the store is nothing for an iterator that keeps no tuple -/
theorem go_of {M : Model} {A : Around} {E : Value → Shared → Prop} {s : Shared} {tg : Expr} {it : Addr} {u : Value} {o : Obj} {n : String} {vs : Array Value} {Q : Unit → Shared → Prop} (ho : s.heap.get? it = some o) (hc : o.cls = .type n) (hd : o.data = .fields vs)
    (hn : ["enumerate", "zip", "dict_itemiterator", "dict_reverseitemiterator", "odict_iterator", "itertools.zip_longest", "itertools.pairwise"].contains n = false) (hQ : Q () s) : wpAny M A (letOwnedTupleGo tg (.ref it) u) Q E s := by
  unfold letOwnedTupleGo
  cases tg <;> first
    | exact wpAny_pure hQ
    | (cases u <;> first
        | exact wpAny_pure hQ
        | (refine wpAny_bind (wpAny_load ho ?_)
           rw [hc, hd]
           show wpAny M A (if (["enumerate", "zip", "dict_itemiterator", "dict_reverseitemiterator", "odict_iterator", "itertools.zip_longest", "itertools.pairwise"].contains n && vs[0]? == some (rawInt _)) = true then _ else _) Q E s
           rw [if_neg (by intro h; rw [hn, Bool.false_and] at h; cases h)]
           exact wpAny_pure hQ))

/-- the list at a, as it stands at each turn (a loop may append to it) -/
def Itl (K : PySem.W.Frag) (a : Addr) : It :=
  ⟨fun i H => ∃ xs x, SqL K H a xs ∧ xs[i]? = some x, fun i H x H' => H' = H ∧ ∀ xs, SqL K H a xs → xs[i]? = some x, fun i H => ∃ xs, SqL K H a xs ∧ xs.length ≤ i⟩
def Itt (K : PySem.W.Frag) (a : Addr) : It :=
  ⟨fun i H => ∃ xs x, SqT K H a xs ∧ xs[i]? = some x, fun i H x H' => H' = H ∧ ∀ xs, SqT K H a xs → xs[i]? = some x, fun i H => ∃ xs, SqT K H a xs ∧ xs.length ≤ i⟩
/-- lo, lo + 1, .. (n of them) -/
def Itr (lo : Int) (n : Nat) : It := ⟨fun i _ => i < n, fun i H x H' => H' = H ∧ x = .int (lo + i), fun i _ => n ≤ i⟩
theorem turn_list {P : Program} {w : World} {K : PySem.W.Frag} {tg : Expr} (a it : Addr) : Turn P w K tg (Itl K a) [it] it (fun i h => h.IsListIter it a i) where
  mem := by simp
  obj := fun i h st b hb => by
    have e : b = it := by simpa using hb
    subst e
    obtain ⟨o, e, c, d⟩ := st
    exact ⟨o, e, fun v z => by rw [d] at z; cases z⟩
  keep := fun i h h' st k => st.at fun o e => k it (by simp) o e
  item := by
    intro X hP hw hK hc i pins s σ H E I hf st hg
    subst hP hw hK
    obtain ⟨xs, x, hq, hx⟩ := hg
    obtain ⟨its, rv, p, hz⟩ := I.list hq
    obtain ⟨u, hu, ru⟩ := rv.get hx
    obtain ⟨f0, f1, f2, f3, f4, f5⟩ := hf it (by simp)
    refine wpAny_pyNext_list_item st p.isList (x := u) (by simpa using hu) fun h' st' sb => ?_
    have I1 : Inv X pins σ H { s with heap := h' } := I.turned (t' := s.toks) (fun b o hb e => (sb.2 b hb).trans e) f0 f1 f3 f4 f5
    obtain ⟨o, e, c, d⟩ := id st'
    exact ⟨u, rfl, go_of (s := { s with heap := h' }) e c d (by decide) ⟨x, H, I1, ru, ⟨rfl, fun ys hy => by rw [I.list_inj hy hq]; exact hx⟩, st', fun b hb => (hf b hb).1⟩⟩
  done := by
    intro X hP hw hK hc i pins s σ H E I hf st hg
    subst hP hw hK
    obtain ⟨xs, hq, hx⟩ := hg
    obtain ⟨its, rv, p, hz⟩ := I.list hq
    obtain ⟨f0, f1, f2, f3, f4, f5⟩ := hf it (by simp)
    have hl := rv.length
    exact wpAny_pyNext_list_end (I.ok.hd hc) st p.isList (by simp; omega) fun h' eb => ⟨rfl, I.turned (t' := s.toks) (fun b o hb e => eb b o hb e) f0 f1 f3 f4 f5⟩
  self := fun _ _ _ _ _ st h => wpAny_pyIter_listiter st h
theorem turn_tuple {P : Program} {w : World} {K : PySem.W.Frag} {tg : Expr} (a it : Addr) : Turn P w K tg (Itt K a) [it] it (fun i h => h.IsTupleIter it a i) where
  mem := by simp
  obj := fun i h st b hb => by
    have e : b = it := by simpa using hb
    subst e
    obtain ⟨o, e, c, d⟩ := st
    exact ⟨o, e, fun v z => by rw [d] at z; cases z⟩
  keep := fun i h h' st k => st.at fun o e => k it (by simp) o e
  item := by
    intro X hP hw hK hc i pins s σ H E I hf st hg
    subst hP hw hK
    obtain ⟨xs, x, hq, hx⟩ := hg
    obtain ⟨its, rv, p, hz⟩ := I.tuple hq
    obtain ⟨u, hu, ru⟩ := rv.get hx
    obtain ⟨f0, f1, f2, f3, f4, f5⟩ := hf it (by simp)
    refine wpAny_pyNext_tuple_item st (show s.heap.IsTuple a its.toArray from p) (x := u) (by simpa using hu) fun h' st' sb => ?_
    have I1 : Inv X pins σ H { s with heap := h' } := I.turned (t' := s.toks) (fun b o hb e => (sb.2 b hb).trans e) f0 f1 f3 f4 f5
    obtain ⟨o, e, c, d⟩ := id st'
    exact ⟨u, rfl, go_of (s := { s with heap := h' }) e c d (by decide) ⟨x, H, I1, ru, ⟨rfl, fun ys hy => by rw [I.tuple_inj hy hq]; exact hx⟩, st', fun b hb => (hf b hb).1⟩⟩
  done := by
    intro X hP hw hK hc i pins s σ H E I hf st hg
    subst hP hw hK
    obtain ⟨xs, hq, hx⟩ := hg
    obtain ⟨its, rv, p, hz⟩ := I.tuple hq
    obtain ⟨f0, f1, f2, f3, f4, f5⟩ := hf it (by simp)
    have hl := rv.length
    exact wpAny_pyNext_tuple_end (I.ok.hd hc) st (show s.heap.IsTuple a its.toArray from p) (by simp; omega) fun h' eb => ⟨rfl, I.turned (t' := s.toks) (fun b o hb e => eb b o hb e) f0 f1 f3 f4 f5⟩
  self := fun _ _ _ _ _ st h => wpAny_pyIter_tupleiter st h
theorem turn_range {P : Program} {w : World} {K : PySem.W.Frag} {tg : Expr} (it : Addr) (lo : Int) (n : Nat) : Turn P w K tg (Itr lo n) [it] it (fun i h => IsRangeIter h it (lo + (i : Nat) * 1) ((n : Int) - (i : Nat)) 1) where
  mem := by simp
  obj := fun i h st b hb => by
    have e : b = it := by simpa using hb
    subst e
    exact ⟨_, st, fun v z => by
      have z' : Data.fields _ = Data.cell v := z
      cases z'⟩
  keep := fun i h h' st k => k it (by simp) _ st
  item := by
    intro X hP hw hK hc i pins s σ H E I hf st hg
    subst hP hw hK
    obtain ⟨f0, f1, f2, f3, f4, f5⟩ := hf it (by simp)
    have W := Walks.range (prog := X.prog) (w := X.w) (I.ok.hd hc) it lo 1 n
    refine W.item i s _ _ hg st fun v h' tk hv st' kk => ?_
    obtain ⟨t, rfl⟩ := hv
    have I1 : Inv X pins σ H { s with heap := h', toks := tk } := I.turned (fun b o hb e => kk b o (by simpa using hb) e) f0 f1 f3 f4 f5
    refine ⟨_, rfl, go_of (s := { s with heap := h', toks := tk }) (n := "range_iterator") st' rfl rfl (by decide) ⟨.int (lo + i), H, I1, ⟨t, ?_⟩, ⟨rfl, rfl⟩, st', fun b hb => (hf b hb).1⟩⟩
    rw [Int.mul_one]
  done := by
    intro X hP hw hK hc i pins s σ H E I hf st hg
    subst hP hw hK
    obtain ⟨f0, f1, f2, f3, f4, f5⟩ := hf it (by simp)
    exact wpAny_pyNext_range_end (I.ok.hd hc) st (by have : n ≤ i := hg; omega) fun h' eb => ⟨rfl, I.turned (t' := s.toks) (fun b o hb e => eb b o hb e) f0 f1 f3 f4 f5⟩
  self := fun _ _ _ _ _ st h => wpAny_pyIter_rangeiter st h
end L2

namespace L2
open PySem PySem.Spec PyProof.Rows
section
variable {X : Cx} {tg : Expr}
def iList (K : PySem.W.Frag) (tl : TE) : TI := fun σ H R => tl σ H fun x H1 => ∃ a, x = .ref a ∧ (∃ xs, SqL K H1 a xs) ∧ R (Itl K a) H1
def iTup (K : PySem.W.Frag) (tl : TE) : TI := fun σ H R => tl σ H fun x H1 => ∃ a, x = .ref a ∧ (∃ xs, SqT K H1 a xs) ∧ R (Itt K a) H1
theorem pi_list {l : Expr} {tl : TE} (hl : PE X l tl) : PI X tg l (iList X.K tl) := by
  intro pins s σ H R I h
  refine thn (hl pins s σ H _ I h) fun v s1 ⟨x, H1, I1, r1, q1⟩ => ?_
  obtain ⟨a, e, ⟨xs, hq⟩, q⟩ := q1
  subst e
  cases r1
  obtain ⟨its, rv, p, hz⟩ := I1.list hq
  refine wpAny_pyIter_list p.isList ?_
  refine ⟨s1.heap.objs.size, [s1.heap.objs.size], _, _, H1, rfl, I1.kept (t' := s1.toks) fun b o e => Heap.get?_push_of_some _ e, turn_list a _, ⟨_, Heap.get?_push_size _ rfl, rfl, rfl⟩, fun b hb => ?_, q⟩
  have e : b = s1.heap.objs.size := by simpa using hb
  subst e
  exact I1.fpOk (Nat.le_refl _) (I1.hok.fresh (Nat.le_refl _))
theorem pi_tup {l : Expr} {tl : TE} (hl : PE X l tl) : PI X tg l (iTup X.K tl) := by
  intro pins s σ H R I h
  refine thn (hl pins s σ H _ I h) fun v s1 ⟨x, H1, I1, r1, q1⟩ => ?_
  obtain ⟨a, e, ⟨xs, hq⟩, q⟩ := q1
  subst e
  cases r1
  obtain ⟨its, rv, p, hz⟩ := I1.tuple hq
  refine wpAny_pyIter_tuple (show s1.heap.IsTuple a its.toArray from p) ?_
  refine ⟨s1.heap.objs.size, [s1.heap.objs.size], _, _, H1, rfl, I1.kept (t' := s1.toks) fun b o e => Heap.get?_push_of_some _ e, turn_tuple a _, ⟨_, Heap.get?_push_size _ rfl, rfl, rfl⟩, fun b hb => ?_, q⟩
  have e : b = s1.heap.objs.size := by simpa using hb
  subst e
  exact I1.fpOk (Nat.le_refl _) (I1.hok.fresh (Nat.le_refl _))
/-- a range object just made, walked -/
theorem range_it {pins : List (Addr × Obj)} {σ : St} {H : Hp} {s : Shared} {R : It → Hp → Prop} {E : Value → Shared → Prop} {lo hi : Int} {t u v : Tok} {tk : Nat} (I : Inv X pins σ H s) (h1 : -(2 ^ 62) ≤ lo) (h2 : lo < 2 ^ 62) (h3 : -(2 ^ 62) ≤ hi) (h4 : hi < 2 ^ 62)
    (q : R (Itr lo (hi - lo).toNat) H) : wpAny (model X.prog X.w) X.A (pyIter (.ref s.heap.objs.size)) (PIE X pins σ tg R) E { s with heap := s.heap.push { cls := .type "range", data := .fields #[.int lo t, .int hi u, .int 1 v] }, toks := tk } := by
  refine wpAny_pyIter_range (IsRange.new ..) (small_one h1 h2 h3 h4) ?_
  have I1 : Inv X pins σ H { s with heap := s.heap.push { cls := .type "range", data := .fields #[.int lo t, .int hi u, .int 1 v] }, toks := tk } := I.kept fun b o e => Heap.get?_push_of_some _ e
  refine ⟨(s.heap.push { cls := .type "range", data := .fields #[.int lo t, .int hi u, .int 1 v] }).objs.size, [(s.heap.push { cls := .type "range", data := .fields #[.int lo t, .int hi u, .int 1 v] }).objs.size], _, _, H, rfl,
    I1.kept (t' := tk) fun b o e => Heap.get?_push_of_some _ e, turn_range _ lo (hi - lo).toNat, ?_, fun b hb => ?_, q⟩
  · have e1 : lo + ((0 : Nat) : Int) * 1 = lo := by simp
    have e2 : (((hi - lo).toNat : Nat) : Int) - ((0 : Nat) : Int) = Builtin.Range.rangeSize lo hi 1 := by rw [rangeSize_one]; split <;> omega
    show IsRangeIter _ _ (lo + ((0 : Nat) : Int) * 1) ((((hi - lo).toNat : Nat) : Int) - ((0 : Nat) : Int)) 1
    rw [e1, e2]
    exact Heap.get?_push_size _ rfl
  · have e : b = (s.heap.push { cls := .type "range", data := .fields #[.int lo t, .int hi u, .int 1 v] }).objs.size := by simpa using hb
    subst e
    exact I1.fpOk (Nat.le_refl _) (I1.hok.fresh (Nat.le_refl _))
def iRng1 (ta : TA) : TI := fun σ H R => ta σ H fun vs H1 => ∃ j : Int, vs = [.int j] ∧ -(2 ^ 62) ≤ j ∧ j < 2 ^ 62 ∧ R (Itr 0 j.toNat) H1
def iRng2 (ta : TA) : TI := fun σ H R => ta σ H fun vs H1 => ∃ i j : Int, vs = [.int i, .int j] ∧ (-(2 ^ 62) ≤ i ∧ i < 2 ^ 62 ∧ -(2 ^ 62) ≤ j ∧ j < 2 ^ 62) ∧ R (Itr i (j - i).toNat) H1
theorem pi_range1 {a : Expr} {ta : TA} {p pos : Pos} (hg : Gl X "range") (hm : X.mg "range" = none) (ha : PA X [a] ta) (hs : starEach [a] X.env = [(false, eval a X.env)] := by rfl) : PI X tg (.Call (.Name "range" p) [a] [] pos) (iRng1 ta) := by
  intro pins s σ H R I h
  refine Call_ (ld_blt I hg hm boot_range (PyProof.Rows.callWith_type1 (thn (ha pos pins s σ H _ I h) fun us s1 ⟨vs, H1, I1, r1, q1⟩ => ?_) hs rfl))
  obtain ⟨j, e, q1, q2, q⟩ := q1
  subst e
  cases r1 with
  | cons r rr =>
    cases rr
    obtain ⟨t, rfl⟩ := r
    exact call_range_1 (range_it I1 (by omega) (by omega) q1 q2 (by simpa using q))
theorem pi_range2 {a b : Expr} {ta : TA} {p pos : Pos} (hg : Gl X "range") (hm : X.mg "range" = none) (ha : PA X [a, b] ta) (hs : starEach [a, b] X.env = [(false, eval a X.env), (false, eval b X.env)] := by rfl) (hs2 : starEach [b] X.env = [(false, eval b X.env)] := by rfl) :
    PI X tg (.Call (.Name "range" p) [a, b] [] pos) (iRng2 ta) := by
  intro pins s σ H R I h
  refine Call_ (ld_blt I hg hm boot_range (PyProof.Rows.callWith_type1 (thn (ha pos pins s σ H _ I h) fun us s1 ⟨vs, H1, I1, r1, q1⟩ => ?_) (by rw [hs, hs2]) (by rw [hs2]; rfl)))
  obtain ⟨i, j, e, ⟨q1, q2, q3, q4⟩, q⟩ := q1
  subst e
  cases r1 with
  | cons r rr =>
    cases rr with
    | cons r' rr =>
      cases rr
      obtain ⟨t, rfl⟩ := r
      obtain ⟨t', rfl⟩ := r'
      exact call_range_2 (range_it I1 q1 q2 q3 q4 q)

/-! ### for -/
/-- W: the invariant by the turn and a measure; N: what the body is to reach -/
def tFor (wi : TI) (g : TG) (tb : TS) : TS := fun D σ H => wi σ H fun J H1 => ∃ W : Nat → Nat → St → Hp → Prop, (∃ m, W 0 m σ H1) ∧ ∀ i m σ H, W i m σ H →
  (J.stop i H ∧ D.nx σ H) ∨ (J.go i H ∧ ∃ N : St → Hp → Prop, (∀ σ' H', N σ' H' → ∃ m', m' < m ∧ W (i + 1) m' σ' H') ∧ ∀ x H', J.yld i H x H' → g x σ H' fun σ2 H2 => tb { D with nx := N, ct := N, bk := D.nx } σ2 H2)
/-- the records at fp as they stand -/
def pinsAt (fp : List Addr) (h : Heap) : List (Addr × Obj) := fp.filterMap fun b => (h.get? b).map fun o => (b, o)
theorem mem_pinsAt {fp : List Addr} {h : Heap} {b : Addr} {o : Obj} (hb : b ∈ fp) (e : h.get? b = some o) : (b, o) ∈ pinsAt fp h := List.mem_filterMap.mpr ⟨b, hb, by rw [e]; rfl⟩
theorem of_pinsAt {fp : List Addr} {h : Heap} {p : Addr × Obj} (hp : p ∈ pinsAt fp h) : p.1 ∈ fp ∧ h.get? p.1 = some p.2 := by
  obtain ⟨b, hb, e⟩ := List.mem_filterMap.mp hp
  cases q : h.get? b with
  | none => rw [q] at e; cases e
  | some o =>
    rw [q] at e
    have e' : (b, o) = p := Option.some.inj e
    subst e'
    exact ⟨hb, q⟩
theorem Inv.pinned {pins : List (Addr × Obj)} {σ : St} {H : Hp} {s : Shared} {fp : List Addr} (I : Inv X pins σ H s) (hf : ∀ b ∈ fp, FpOk X pins H b) (ho : ∀ b ∈ fp, ∃ o, s.heap.get? b = some o ∧ ∀ v, o.data ≠ .cell v) : Inv X (pins ++ pinsAt fp s.heap) σ H s :=
  I.pins_of fun p hp => (List.mem_append.mp hp).elim (fun z => I.pin p (List.mem_append_right _ z)) fun z => by
    obtain ⟨hb, e⟩ := of_pinsAt z
    obtain ⟨f0, f1, f2, _⟩ := hf p.1 hb
    obtain ⟨o, e', d⟩ := ho p.1 hb
    rw [e] at e'; cases e'
    exact ⟨e, f0, f1, f2, d⟩
theorem Inv.unpinned {pins pl : List (Addr × Obj)} {σ : St} {H : Hp} {s : Shared} (I : Inv X (pins ++ pl) σ H s) : Inv X pins σ H s := I.pins_of fun p hp => I.pin p (List.mem_append_right _ (List.mem_append_left _ hp))
theorem ps_for {iter : Expr} {body : List Stmt} {wi : TI} {g : TG} {tb : TS} {pos : Pos} (hp : PassesOwn (model X.prog X.w) X.A X.env X.xe) (hc : X.calm = true) (hi : PI X tg iter wi) (hg : PG X tg g) (hb : PSs X body tb)
    (hs : ∀ x, foldedSetIterable iter X.env x = pure x := by intro _; rfl) : PS X (.For tg iter body [] pos) (tFor wi g tb) := by
  intro pins s σ H D I h
  refine wpAny_For (thn (hi pins s σ H _ I h) fun v s1 h1 => thn h1 fun itv s2 h2 => ?_) hs
  obtain ⟨it, fp, tn, J, H2, e, I2, T, st2, f2, W, ⟨m0, w0⟩, turn⟩ := h2
  subst e
  -- what stays true of the iterator's objects through the loop
  have stat : ∀ {H' : Hp}, (∀ b ∈ fp, H' b = none) → ∀ b ∈ fp, FpOk X pins H' b := fun hn b hb => ⟨hn b hb, (f2 b hb).2⟩
  refine codeAny_forLoop_any (fun n s' => ∃ i σ' H', Inv X pins σ' H' s' ∧ tn i s'.heap ∧ (∀ b ∈ fp, H' b = none) ∧ W i n σ' H') ?_ m0 ⟨0, σ, H2, I2, st2, fun b hb => (f2 b hb).1, w0⟩
  rintro n s3 ⟨i, σ3, H3, I3, st3, fr3, w3⟩
  rcases turn i n σ3 H3 w3 with ⟨stop, qn⟩ | ⟨go, N, hN, step⟩
  · refine wpAny_passesOwn hp (thn (T.done X rfl rfl rfl hc i pins s3 σ3 H3 X.xe I3 (stat fr3) st3 stop) fun r s4 ⟨hr, I4⟩ => ?_)
    subst hr
    exact wpAny_execs_nil ⟨σ3, H3, I4, qn⟩
  · refine wpAny_passesOwn hp (thn (T.item X rfl rfl rfl hc i pins s3 σ3 H3 X.xe I3 (stat fr3) st3 go) fun r s4 ⟨u, hr, h4⟩ => ?_)
    subst hr
    refine wpAny_passesOwn hp (thn h4 fun _ s5 ⟨x, H5, I5, r5, y5, st5, fr5⟩ => ?_)
    have I5' := I5.pinned (stat fr5) (T.obj _ _ st5)
    refine wpAny_passesOwn hp (thn (hg _ s5 σ3 H5 x u _ I5' r5 (step x H5 y5)) fun _ s6 ⟨σ6, H6, I6, q6⟩ => ?_)
    refine wpAny_passesOwn hp (thn (hb _ s6 σ6 H6 _ I6 q6) fun f s7 q7 => ?_)
    have again : ∀ {σ7 : St} {H7 : Hp}, Inv X (pins ++ pinsAt fp s5.heap) σ7 H7 s7 → N σ7 H7 → ∃ m, m < n ∧ ∃ i σ' H', Inv X pins σ' H' s7 ∧ tn i s7.heap ∧ (∀ b ∈ fp, H' b = none) ∧ W i m σ' H' := fun {σ7 H7} I7 n7 => by
      obtain ⟨m', hm, w7⟩ := hN σ7 H7 n7
      refine ⟨m', hm, i + 1, σ7, H7, I7.unpinned, T.keep _ _ _ st5 fun b hb o e => (I7.pin (b, o) (List.mem_append_right _ (List.mem_append_right _ (mem_pinsAt hb e)))).1, fun b hb => ?_, w7⟩
      obtain ⟨o, e, d⟩ := T.obj _ _ st5 b hb
      exact (I7.pin (b, o) (List.mem_append_right _ (List.mem_append_right _ (mem_pinsAt hb e)))).2.1
    cases f with
    | next => obtain ⟨σ7, H7, I7, n7⟩ := q7; exact again I7 n7
    | cont => obtain ⟨σ7, H7, I7, n7⟩ := q7; exact again I7 n7
    | brk => obtain ⟨σ7, H7, I7, q7⟩ := q7; exact ⟨σ7, H7, I7.unpinned, q7⟩
    | ret v => obtain ⟨x7, σ7, H7, I7, r7, q7⟩ := q7; exact ⟨x7, σ7, H7, I7.unpinned, r7, q7⟩
end

/-! ### the forms one uses -/
/-- over a list that the body leaves as it is -/
theorem for_list {K : PySem.W.Frag} {a : Addr} {xs : List V} {g : TG} {tb : TS} {D : Ends} {σ : St} {H : Hp} (Pv : Nat → St → Hp → Prop) (h0 : Pv 0 σ H) (hl : ∀ i σ H, i ≤ xs.length → Pv i σ H → SqL K H a xs)
    (hs : ∀ i x σ H, xs[i]? = some x → Pv i σ H → g x σ H fun σ2 H2 => tb { D with nx := Pv (i + 1), ct := Pv (i + 1), bk := D.nx } σ2 H2) (hd : ∀ σ H, Pv xs.length σ H → D.nx σ H) :
    ∃ W : Nat → Nat → St → Hp → Prop, (∃ m, W 0 m σ H) ∧ ∀ i m σ H, W i m σ H →
      ((Itl K a).stop i H ∧ D.nx σ H) ∨ ((Itl K a).go i H ∧ ∃ N : St → Hp → Prop, (∀ σ' H', N σ' H' → ∃ m', m' < m ∧ W (i + 1) m' σ' H') ∧ ∀ x H', (Itl K a).yld i H x H' → g x σ H' fun σ2 H2 => tb { D with nx := N, ct := N, bk := D.nx } σ2 H2) := by
  refine ⟨fun i m σ H => m = xs.length - i ∧ i ≤ xs.length ∧ Pv i σ H, ⟨xs.length, by simp, Nat.zero_le _, h0⟩, ?_⟩
  rintro i m σ H ⟨rfl, hi, p⟩
  have q := hl i σ H hi p
  by_cases hlt : i < xs.length
  · refine .inr ⟨⟨xs, xs[i], q, by simp [hlt]⟩, Pv (i + 1), fun σ' H' p' => ⟨xs.length - (i + 1), by omega, rfl, hlt, p'⟩, fun x H' y => ?_⟩
    obtain ⟨e, y⟩ := y
    subst e
    exact hs i x σ _ (y xs q) p
  · have e : i = xs.length := by omega
    subst e
    exact .inl ⟨⟨xs, q, Nat.le_refl _⟩, hd σ H p⟩
theorem for_tup {K : PySem.W.Frag} {a : Addr} {xs : List V} {g : TG} {tb : TS} {D : Ends} {σ : St} {H : Hp} (Pv : Nat → St → Hp → Prop) (h0 : Pv 0 σ H) (hl : ∀ i σ H, i ≤ xs.length → Pv i σ H → SqT K H a xs)
    (hs : ∀ i x σ H, xs[i]? = some x → Pv i σ H → g x σ H fun σ2 H2 => tb { D with nx := Pv (i + 1), ct := Pv (i + 1), bk := D.nx } σ2 H2) (hd : ∀ σ H, Pv xs.length σ H → D.nx σ H) :
    ∃ W : Nat → Nat → St → Hp → Prop, (∃ m, W 0 m σ H) ∧ ∀ i m σ H, W i m σ H →
      ((Itt K a).stop i H ∧ D.nx σ H) ∨ ((Itt K a).go i H ∧ ∃ N : St → Hp → Prop, (∀ σ' H', N σ' H' → ∃ m', m' < m ∧ W (i + 1) m' σ' H') ∧ ∀ x H', (Itt K a).yld i H x H' → g x σ H' fun σ2 H2 => tb { D with nx := N, ct := N, bk := D.nx } σ2 H2) := by
  refine ⟨fun i m σ H => m = xs.length - i ∧ i ≤ xs.length ∧ Pv i σ H, ⟨xs.length, by simp, Nat.zero_le _, h0⟩, ?_⟩
  rintro i m σ H ⟨rfl, hi, p⟩
  have q := hl i σ H hi p
  by_cases hlt : i < xs.length
  · refine .inr ⟨⟨xs, xs[i], q, by simp [hlt]⟩, Pv (i + 1), fun σ' H' p' => ⟨xs.length - (i + 1), by omega, rfl, hlt, p'⟩, fun x H' y => ?_⟩
    obtain ⟨e, y⟩ := y
    subst e
    exact hs i x σ _ (y xs q) p
  · have e : i = xs.length := by omega
    subst e
    exact .inl ⟨⟨xs, q, Nat.le_refl _⟩, hd σ H p⟩
theorem for_range {lo : Int} {n : Nat} {g : TG} {tb : TS} {D : Ends} {σ : St} {H : Hp} (Pv : Nat → St → Hp → Prop) (h0 : Pv 0 σ H)
    (hs : ∀ i σ H, i < n → Pv i σ H → g (.int (lo + i)) σ H fun σ2 H2 => tb { D with nx := Pv (i + 1), ct := Pv (i + 1), bk := D.nx } σ2 H2) (hd : ∀ σ H, Pv n σ H → D.nx σ H) :
    ∃ W : Nat → Nat → St → Hp → Prop, (∃ m, W 0 m σ H) ∧ ∀ i m σ H, W i m σ H →
      ((Itr lo n).stop i H ∧ D.nx σ H) ∨ ((Itr lo n).go i H ∧ ∃ N : St → Hp → Prop, (∀ σ' H', N σ' H' → ∃ m', m' < m ∧ W (i + 1) m' σ' H') ∧ ∀ x H', (Itr lo n).yld i H x H' → g x σ H' fun σ2 H2 => tb { D with nx := N, ct := N, bk := D.nx } σ2 H2) := by
  refine ⟨fun i m σ H => m = n - i ∧ i ≤ n ∧ Pv i σ H, ⟨n, by simp, Nat.zero_le _, h0⟩, ?_⟩
  rintro i m σ H ⟨rfl, hi, p⟩
  by_cases hlt : i < n
  · refine .inr ⟨hlt, Pv (i + 1), fun σ' H' p' => ⟨n - (i + 1), by omega, rfl, hlt, p'⟩, fun x H' y => ?_⟩
    obtain ⟨e, y⟩ := y
    subst e y
    exact hs i σ _ hlt p
  · have e : i = n := by omega
    subst e
    exact .inl ⟨Nat.le_refl _, hd σ H p⟩
/-- while, by a word and a measure of the state -/
theorem while_by {c : TT} {tb : TS} {D : Ends} {σ : St} {H : Hp} (Pv : St → Hp → Prop) (μ : St → Hp → Nat) (h0 : Pv σ H)
    (hs : ∀ σ H, Pv σ H → c σ H fun b H1 => if b = true then tb { D with nx := fun σ' H' => Pv σ' H' ∧ μ σ' H' < μ σ H, ct := fun σ' H' => Pv σ' H' ∧ μ σ' H' < μ σ H, bk := D.nx } σ H1 else D.nx σ H1)
    (mono : ∀ σ H Q Q', (∀ b H1, Q b H1 → Q' b H1) → c σ H Q → c σ H Q') : tWhile c tb D σ H := by
  refine ⟨fun m σ H => m = μ σ H ∧ Pv σ H, ⟨_, rfl, h0⟩, ?_⟩
  rintro m σ H ⟨rfl, p⟩
  refine mono σ H _ _ (fun b H1 q => ?_) (hs σ H p)
  cases b with
  | true => exact ⟨_, fun σ' H' ⟨p', l⟩ => ⟨_, l, rfl, p'⟩, q⟩
  | false => exact q
end L2

namespace L2
open PySem PySem.Spec PyProof.Rows

abbrev R2 := V → V → Hp → VK → Prop
/-- a two-place operation on values: f is binaryOp op, inplaceOp op or compareOp op -/
def OpR (X : Cx) (f : Value → Value → Sem Value) (r : R2) : Prop :=
  ∀ (pins : List (Addr × Obj)) (s : Shared) (σ : St) (H : Hp) (x y : V) (v u : Value) (Q : VK), Inv X pins σ H s → RelV x v → RelV y u → r x y H Q →
    wpAny (model X.prog X.w) X.A (f v u) (EP X pins σ Q) X.xe s
/-- a one-place operation -/
def UnR (X : Cx) (f : Value → Sem Value) (r : V → Hp → VK → Prop) : Prop :=
  ∀ (pins : List (Addr × Obj)) (s : Shared) (σ : St) (H : Hp) (x : V) (v : Value) (Q : VK), Inv X pins σ H s → RelV x v → r x H Q →
    wpAny (model X.prog X.w) X.A (f v) (EP X pins σ Q) X.xe s
/-- a call of a value that is known (a builtin, a type) with values -/
def CallR (X : Cx) (f : Value) (r : List V → Hp → VK → Prop) : Prop :=
  ∀ (pins : List (Addr × Obj)) (s : Shared) (σ : St) (H : Hp) (xs : List V) (us : List Value) (Q : VK), Inv X pins σ H s → Vals xs us → r xs H Q →
    wpAny (model X.prog X.w) X.A (call f us) (EP X pins σ Q) X.xe s
/-- a value's truth -/
def TruR (X : Cx) (r : V → Hp → (Bool → Hp → Prop) → Prop) : Prop :=
  ∀ (pins : List (Addr × Obj)) (s : Shared) (σ : St) (H : Hp) (x : V) (v : Value) (Q : Bool → Hp → Prop), Inv X pins σ H s → RelV x v → r x H Q →
    wpAny (model X.prog X.w) X.A (truthy v) (TP X pins σ Q) X.xe s

def tOp (r : R2) (ta tb : TE) : TE := fun σ H Q => ta σ H fun x H1 => tb σ H1 fun y H2 => r x y H2 Q
def tUn (r : V → Hp → VK → Prop) (ta : TE) : TE := fun σ H Q => ta σ H fun x H1 => r x H1 Q
/-- ints in, under C, and a value out -/
def rI (C : Int → Int → Prop) (g : Int → Int → V) : R2 := fun x y H Q => ∃ i j, x = .int i ∧ y = .int j ∧ C i j ∧ Q (g i j) H
def rI0 (g : Int → Int → V) : R2 := fun x y H Q => ∃ i j, x = .int i ∧ y = .int j ∧ Q (g i j) H
def rU (g : Int → V) : V → Hp → VK → Prop := fun x H Q => ∃ i, x = .int i ∧ Q (g i) H

section
variable {X : Cx} {a b c : Expr} {ta tb tc : TE} {pos : Pos}

theorem binT (ha : PE X a ta) (hb : PE X b tb) {pins : List (Addr × Obj)} {s : Shared} {σ : St} {H : Hp} {R : V → V → Hp → Prop} (I : Inv X pins σ H s)
    (h : ta σ H fun x H1 => tb σ H1 fun y H2 => R x y H2) {Q : Value → Shared → Prop} {f : Value → Value → Sem Value}
    (hf : ∀ v u s2 x y H2, Inv X pins σ H2 s2 → RelV x v → RelV y u → R x y H2 → wpAny (model X.prog X.w) X.A (f v u) Q X.xe s2) :
    wpAny (model X.prog X.w) X.A (eval a X.env) (fun v s₁ => wpAny (model X.prog X.w) X.A (eval b X.env) (fun u s₂ => wpAny (model X.prog X.w) X.A (f v u) Q X.xe s₂) X.xe s₁) X.xe s := by
  refine thn (ha pins s σ H _ I h) fun v s1 ⟨x, H1, I1, r1, q1⟩ => ?_
  refine thn (hb pins s1 σ H1 _ I1 q1) fun u s2 ⟨y, H2, I2, r2, q2⟩ => ?_
  exact hf v u s2 x y H2 I2 r1 r2 q2

theorem pe_op {op : Operator} {r : R2} (ho : OpR X (binaryOp op) r) (ha : PE X a ta) (hb : PE X b tb) : PE X (.BinOp a op b pos) (tOp r ta tb) := by
  intro pins s σ H Q I h
  exact wpAny_BinOp (binT ha hb I h fun v u s2 x y H2 I2 rx ry q => ho pins s2 σ H2 x y v u Q I2 rx ry q)
theorem pe_un {op : UnaryOp} {r : V → Hp → VK → Prop} (ho : UnR X (unaryOp op) r) (ha : PE X a ta) : PE X (.UnaryOp op a pos) (tUn r ta) := by
  intro pins s σ H Q I h
  exact UnaryOp_ (thn (ha pins s σ H _ I h) fun v s1 ⟨x, H1, I1, r1, q1⟩ => ho pins s1 σ H1 x v Q I1 r1 q1)
/-- a op= e at a name: the name's slot i -/
theorem augR {op : Operator} {r : R2} (ho : OpR X (inplaceOp op) r) {pins : List (Addr × Obj)} {s : Shared} {σ : St} {H : Hp} {x y : V} {v u : Value} {Q : VK} (I : Inv X pins σ H s)
    (rx : RelV x v) (ry : RelV y u) (q : r x y H Q) : wpAny (model X.prog X.w) X.A (inplaceOp op v u) (EP X pins σ Q) X.xe s := ho pins s σ H x y v u Q I rx ry q

/-! ### ints -/
theorem opI {f : Value → Value → Sem Value} {C : Int → Int → Prop} {g : Int → Int → Int}
    (rule : ∀ (i j : Int) (t u : Tok) (s : Shared) (Q : Value → Shared → Prop) (E : Value → Shared → Prop), C i j → Q (.int (g i j) s.toks) { s with toks := s.toks + 1 } → wpAny (model X.prog X.w) X.A (f (.int i t) (.int j u)) Q E s) :
    OpR X f (rI C fun i j => .int (g i j)) := by
  intro pins s σ H x y v u Q I rx ry h
  obtain ⟨i, j, rfl, rfl, hc, q⟩ := h
  obtain ⟨t, rfl⟩ := rx
  obtain ⟨t', rfl⟩ := ry
  exact rule i j t t' s _ _ hc ⟨.int (g i j), H, I.tok _, ⟨_, rfl⟩, q⟩
theorem opI0 {f : Value → Value → Sem Value} {g : Int → Int → Int}
    (rule : ∀ (i j : Int) (t u : Tok) (s : Shared) (Q : Value → Shared → Prop) (E : Value → Shared → Prop), Q (.int (g i j) s.toks) { s with toks := s.toks + 1 } → wpAny (model X.prog X.w) X.A (f (.int i t) (.int j u)) Q E s) :
    OpR X f (rI0 fun i j => .int (g i j)) := by
  intro pins s σ H x y v u Q I rx ry h
  obtain ⟨i, j, rfl, rfl, q⟩ := h
  obtain ⟨t, rfl⟩ := rx
  obtain ⟨t', rfl⟩ := ry
  exact rule i j t t' s _ _ ⟨.int (g i j), H, I.tok _, ⟨_, rfl⟩, q⟩
theorem opB0 {f : Value → Value → Sem Value} {g : Int → Int → Bool}
    (rule : ∀ (i j : Int) (t u : Tok) (s : Shared) (Q : Value → Shared → Prop) (E : Value → Shared → Prop), Q (.bool (g i j)) s → wpAny (model X.prog X.w) X.A (f (.int i t) (.int j u)) Q E s) :
    OpR X f (rI0 fun i j => .bl (g i j)) := by
  intro pins s σ H x y v u Q I rx ry h
  obtain ⟨i, j, rfl, rfl, q⟩ := h
  obtain ⟨t, rfl⟩ := rx
  obtain ⟨t', rfl⟩ := ry
  exact rule i j t t' s _ _ ⟨.bl (g i j), H, I, rfl, q⟩

def CDiv (i j : Int) : Prop := 0 < j ∧ j < 1073741824
def CDivN (i j : Int) : Prop := j ≠ 0 ∧ j.natAbs < 1073741824
def CPow (i j : Int) : Prop := 0 ≤ j ∧ j ≤ 1000000 ∧ i.natAbs < 2 ^ 64
def CMul (i j : Int) : Prop := (-(2 ^ 64) < i ∧ i < 2 ^ 64) ∨ (-(2 ^ 64) < j ∧ j < 2 ^ 64)
theorem CMul.ok {i j : Int} (h : CMul i j) : IntMulOk i j := by
  rcases h with ⟨h1, h2⟩ | ⟨h1, h2⟩
  · exact .of_left (intBits_le_64 h1 h2)
  · exact .of_right (intBits_le_64 h1 h2)
theorem two_pow_nn (k : Nat) : (0 : Int) ≤ 2 ^ k := by
  rw [two_pow_cast]
  exact Int.natCast_nonneg _

theorem op_add : OpR X (binaryOp .Add) (rI0 fun i j => .int (i + j)) := opI0 fun _ _ _ _ _ _ _ q => add_int q
theorem op_sub : OpR X (binaryOp .Sub) (rI0 fun i j => .int (i - j)) := opI0 fun _ _ _ _ _ _ _ q => sub_int q
theorem op_mul : OpR X (binaryOp .Mult) (rI CMul fun i j => .int (i * j)) := opI fun _ _ _ _ _ _ _ hc q => mul_int q hc.ok
/-- // by a positive divisor -/
theorem op_fdiv : OpR X (binaryOp .FloorDiv) (rI CDiv fun i j => .int (i / j)) := opI fun i j _ _ _ _ _ hc q => by
  have h1 : (0 : Int) < j := hc.1
  have h2 : j < 1073741824 := hc.2
  exact floordiv_int (by omega) (by rw [Int.fdiv_eq_ediv_of_nonneg i (by omega)]; exact q) (.inl (PyProof.noPylong_small (by omega)))
theorem op_fdivN : OpR X (binaryOp .FloorDiv) (rI CDivN fun i j => .int (i.fdiv j)) := opI fun _ _ _ _ _ _ _ hc q => floordiv_int hc.1 q (.inl (PyProof.noPylong_small hc.2))
/-- % by a positive divisor of any size -/
theorem op_mod : OpR X (binaryOp .Mod) (rI (fun _ j => 0 < j) fun i j => .int (i % j)) := opI fun i j _ _ _ _ _ hc q => by
  have h1 : (0 : Int) < j := hc
  exact mod_int' (by omega) (by rw [Int.fmod_eq_emod_of_nonneg i (by omega)]; exact q)
theorem op_modN : OpR X (binaryOp .Mod) (rI (fun _ j => j ≠ 0) fun i j => .int (i.fmod j)) := opI fun _ _ _ _ _ _ _ hc q => mod_int' hc q
theorem op_pow : OpR X (binaryOp .Pow) (rI CPow fun i j => .int (i ^ j.toNat)) := opI fun _ _ _ _ _ _ _ hc q => pow_int_small hc.1 hc.2.1 hc.2.2 q
theorem op_shl : OpR X (binaryOp .LShift) (rI CPow fun i j => .int (i * 2 ^ j.toNat)) := opI fun _ _ _ _ _ _ _ hc q => lshift_int_small hc.1 hc.2.1 hc.2.2 q
theorem op_shr : OpR X (binaryOp .RShift) (rI (fun _ j => 0 ≤ j) fun i j => .int (i / 2 ^ j.toNat)) := opI fun i j _ _ _ _ _ hc q =>
  rshift_int hc (by rw [Int.fdiv_eq_ediv_of_nonneg i (two_pow_nn _)]; exact q)
theorem op_and : OpR X (binaryOp .BitAnd) (rI0 fun i j => .int (Builtin.bitAnd i j)) := opI0 fun _ _ _ _ _ _ _ q => and_int q
theorem op_or : OpR X (binaryOp .BitOr) (rI0 fun i j => .int (Builtin.bitOr i j)) := opI0 fun _ _ _ _ _ _ _ q => or_int q
theorem op_xor : OpR X (binaryOp .BitXor) (rI0 fun i j => .int (Builtin.bitXor i j)) := opI0 fun _ _ _ _ _ _ _ q => xor_int q

theorem iop_add : OpR X (inplaceOp .Add) (rI0 fun i j => .int (i + j)) := opI0 fun _ _ _ _ _ _ _ q => iadd_int q
theorem iop_sub : OpR X (inplaceOp .Sub) (rI0 fun i j => .int (i - j)) := opI0 fun _ _ _ _ _ _ _ q => isub_int q
theorem iop_mul : OpR X (inplaceOp .Mult) (rI CMul fun i j => .int (i * j)) := opI fun _ _ _ _ _ _ _ hc q => imul_int q hc.ok
theorem iop_fdiv : OpR X (inplaceOp .FloorDiv) (rI CDiv fun i j => .int (i / j)) := opI fun i j _ _ _ _ _ hc q => by
  have h1 : (0 : Int) < j := hc.1
  have h2 : j < 1073741824 := hc.2
  exact ifloordiv_int (by omega) (by rw [Int.fdiv_eq_ediv_of_nonneg i (by omega)]; exact q) (.inl (PyProof.noPylong_small (by omega)))
theorem iop_mod : OpR X (inplaceOp .Mod) (rI (fun _ j => 0 < j) fun i j => .int (i % j)) := opI fun i j _ _ _ _ _ hc q => by
  have h1 : (0 : Int) < j := hc
  exact imod_int (by omega) (by rw [Int.fmod_eq_emod_of_nonneg i (by omega)]; exact q)
theorem iop_shl : OpR X (inplaceOp .LShift) (rI CPow fun i j => .int (i * 2 ^ j.toNat)) := opI fun _ _ _ _ _ _ _ hc q => ilshift_int_small hc.1 hc.2.1 hc.2.2 q
theorem iop_shr : OpR X (inplaceOp .RShift) (rI (fun _ j => 0 ≤ j) fun i j => .int (i / 2 ^ j.toNat)) := opI fun i j _ _ _ _ _ hc q =>
  irshift_int hc (by rw [Int.fdiv_eq_ediv_of_nonneg i (two_pow_nn _)]; exact q)
theorem iop_and : OpR X (inplaceOp .BitAnd) (rI0 fun i j => .int (Builtin.bitAnd i j)) := opI0 fun _ _ _ _ _ _ _ q => iand_int q
theorem iop_or : OpR X (inplaceOp .BitOr) (rI0 fun i j => .int (Builtin.bitOr i j)) := opI0 fun _ _ _ _ _ _ _ q => ior_int q
theorem iop_xor : OpR X (inplaceOp .BitXor) (rI0 fun i j => .int (Builtin.bitXor i j)) := opI0 fun _ _ _ _ _ _ _ q => ixor_int q

theorem unI {f : Value → Sem Value} {g : Int → Int}
    (rule : ∀ (i : Int) (t : Tok) (s : Shared) (Q : Value → Shared → Prop) (E : Value → Shared → Prop), Q (.int (g i) s.toks) { s with toks := s.toks + 1 } → wpAny (model X.prog X.w) X.A (f (.int i t)) Q E s) :
    UnR X f (rU fun i => .int (g i)) := by
  intro pins s σ H x v Q I rx h
  obtain ⟨i, rfl, q⟩ := h
  obtain ⟨t, rfl⟩ := rx
  exact rule i t s _ _ ⟨.int (g i), H, I.tok _, ⟨_, rfl⟩, q⟩
theorem un_neg : UnR X (unaryOp .USub) (rU fun i => .int (-i)) := unI fun _ _ _ _ _ q => neg_int q
theorem un_inv : UnR X (unaryOp .Invert) (rU fun i => .int (Builtin.bitNot i)) := unI fun _ _ _ _ _ q => invert_int q

/-! ### bools among ints: n += (a < b) -/
theorem op_add_ib : OpR X (binaryOp .Add) (fun x y H Q => ∃ i k, x = .int i ∧ y = .bl k ∧ Q (.int (i + b2i k)) H) := by
  intro pins s σ H x y v u Q I rx ry h
  obtain ⟨i, k, rfl, rfl, q⟩ := h
  obtain ⟨t, rfl⟩ := rx
  cases ry
  exact add_int_bool ⟨.int (i + b2i k), H, I.tok _, ⟨_, rfl⟩, q⟩
end

/-! ### comparisons -/
/-- the scalars that == tells apart as data does -/
def scal : V → V → Bool
  | .non, .non => true | .non, .int _ => true | .int _, .non => true | .non, .bl _ => true | .bl _, .non => true | .non, .str _ => true | .str _, .non => true
  | .int _, .int _ => true | .bl _, .bl _ => true | .str _, .str _ => true | .byt _, .byt _ => true
  | .int _, .str _ => true | .str _, .int _ => true | .bl _, .str _ => true | .str _, .bl _ => true
  | _, _ => false
def rEq : R2 := fun x y H Q => scal x y = true ∧ Q (.bl (decide (x = y))) H
def rNe : R2 := fun x y H Q => scal x y = true ∧ Q (.bl (!decide (x = y))) H

theorem dec_int {i j : Int} : decide (V.int i = V.int j) = (i == j) := by
  rw [Bool.eq_iff_iff]
  simp
theorem dec_bl {i j : Bool} : decide (V.bl i = V.bl j) = (i == j) := by
  rw [Bool.eq_iff_iff]
  simp
theorem dec_str {i j : Str} : decide (V.str i = V.str j) = (i == j) := by
  rw [Bool.eq_iff_iff]
  simp
theorem dec_byt {i j : Array UInt8} : decide (V.byt i = V.byt j) = (i.toList == j.toList) := by
  rw [Bool.eq_iff_iff]
  cases i
  cases j
  simp

section
variable {X : Cx} {a b c : Expr} {ta tb tc : TE} {pos : Pos}
theorem fin_bl {pins : List (Addr × Obj)} {σ : St} {H : Hp} {s : Shared} {Q : VK} {k k' : Bool} (I : Inv X pins σ H s) (q : Q (.bl k) H) (e : k = k') : EP X pins σ Q (.bool k') s := by
  subst e
  exact ⟨.bl k, H, I, rfl, q⟩
theorem op_eq : OpR X (compareOp .Eq) rEq := by
  intro pins s σ H x y v u Q I rx ry h
  obtain ⟨hs, q⟩ := h
  cases x with
  | non =>
    cases rx
    cases y with
    | non => cases ry; exact PySem.EqNone.eq_none_none (fin_bl I q (by simp))
    | bl j => cases ry; exact PySem.EqNone.eq_none_bool (fin_bl I q (by simp))
    | int j => obtain ⟨t', rfl⟩ := ry; exact PySem.EqNone.eq_none_int (fin_bl I q (by simp))
    | str j => obtain ⟨t', rfl⟩ := ry; exact PySem.EqNone.eq_none_str (fin_bl I q (by simp))
    | _ => exact absurd (show false = true from hs) Bool.false_ne_true
  | bl i =>
    cases rx
    cases y with
    | non => cases ry; exact PySem.EqNone.eq_bool_none (fin_bl I q (by simp))
    | bl j => cases ry; exact eq_bool (fin_bl I q dec_bl)
    | str j => obtain ⟨t', rfl⟩ := ry; exact PySem.EqMixed.eq_bool_str (fin_bl I q (by simp))
    | _ => exact absurd (show false = true from hs) Bool.false_ne_true
  | int i =>
    obtain ⟨t, rfl⟩ := rx
    cases y with
    | non => cases ry; exact PySem.EqNone.eq_int_none (fin_bl I q (by simp))
    | int j => obtain ⟨t', rfl⟩ := ry; exact eq_int (fin_bl I q dec_int)
    | str j => obtain ⟨t', rfl⟩ := ry; exact PySem.EqMixed.eq_int_str (fin_bl I q (by simp))
    | _ => exact absurd (show false = true from hs) Bool.false_ne_true
  | str i =>
    obtain ⟨t, rfl⟩ := rx
    cases y with
    | non => cases ry; exact PySem.EqNone.eq_str_none (fin_bl I q (by simp))
    | bl j => cases ry; exact PySem.EqMixed.eq_str_bool (fin_bl I q (by simp))
    | int j => obtain ⟨t', rfl⟩ := ry; exact PySem.EqMixed.eq_str_int (fin_bl I q (by simp))
    | str j => obtain ⟨t', rfl⟩ := ry; exact eq_str (fin_bl I q dec_str)
    | _ => exact absurd (show false = true from hs) Bool.false_ne_true
  | byt i =>
    obtain ⟨t, rfl⟩ := rx
    cases y with
    | byt j => obtain ⟨t', rfl⟩ := ry; exact PySem.W.eq_bytes (fin_bl I q dec_byt)
    | _ => exact absurd (show false = true from hs) Bool.false_ne_true
  | _ => cases y <;> exact absurd (show false = true from hs) Bool.false_ne_true
theorem op_ne : OpR X (compareOp .NotEq) rNe := by
  intro pins s σ H x y v u Q I rx ry h
  obtain ⟨hs, q⟩ := h
  cases x with
  | non =>
    cases rx
    cases y with
    | non => cases ry; exact PySem.EqNone.ne_none_none (fin_bl I q (by simp))
    | bl j => cases ry; exact PySem.EqNone.ne_none_bool (fin_bl I q (by simp))
    | int j => obtain ⟨t', rfl⟩ := ry; exact PySem.EqNone.ne_none_int (fin_bl I q (by simp))
    | str j => obtain ⟨t', rfl⟩ := ry; exact PySem.EqNone.ne_none_str (fin_bl I q (by simp))
    | _ => exact absurd (show false = true from hs) Bool.false_ne_true
  | bl i =>
    cases rx
    cases y with
    | non => cases ry; exact PySem.EqNone.ne_bool_none (fin_bl I q (by simp))
    | bl j => cases ry; exact ne_bool (fin_bl I q (congrArg not dec_bl))
    | str j => obtain ⟨t', rfl⟩ := ry; exact PySem.EqMixed.ne_bool_str (fin_bl I q (by simp))
    | _ => exact absurd (show false = true from hs) Bool.false_ne_true
  | int i =>
    obtain ⟨t, rfl⟩ := rx
    cases y with
    | non => cases ry; exact PySem.EqNone.ne_int_none (fin_bl I q (by simp))
    | int j => obtain ⟨t', rfl⟩ := ry; exact ne_int (fin_bl I q (congrArg not dec_int))
    | str j => obtain ⟨t', rfl⟩ := ry; exact PySem.EqMixed.ne_int_str (fin_bl I q (by simp))
    | _ => exact absurd (show false = true from hs) Bool.false_ne_true
  | str i =>
    obtain ⟨t, rfl⟩ := rx
    cases y with
    | non => cases ry; exact PySem.EqNone.ne_str_none (fin_bl I q (by simp))
    | bl j => cases ry; exact PySem.EqMixed.ne_str_bool (fin_bl I q (by simp))
    | int j => obtain ⟨t', rfl⟩ := ry; exact PySem.EqMixed.ne_str_int (fin_bl I q (by simp))
    | str j => obtain ⟨t', rfl⟩ := ry; exact ne_str (fin_bl I q (congrArg not dec_str))
    | _ => exact absurd (show false = true from hs) Bool.false_ne_true
  | byt i =>
    obtain ⟨t, rfl⟩ := rx
    cases y with
    | byt j => obtain ⟨t', rfl⟩ := ry; exact PySem.W.ne_bytes (fin_bl I q (congrArg not dec_byt))
    | _ => exact absurd (show false = true from hs) Bool.false_ne_true
  | _ => cases y <;> exact absurd (show false = true from hs) Bool.false_ne_true

theorem op_lt : OpR X (compareOp .Lt) (rI0 fun i j => .bl (decide (i < j))) := opB0 fun _ _ _ _ _ _ _ q => lt_int q
theorem op_le : OpR X (compareOp .LtE) (rI0 fun i j => .bl (decide (i ≤ j))) := opB0 fun _ _ _ _ _ _ _ q => le_int q
theorem op_gt : OpR X (compareOp .Gt) (rI0 fun i j => .bl (decide (j < i))) := opB0 fun _ _ _ _ _ _ _ q => gt_int q
theorem op_ge : OpR X (compareOp .GtE) (rI0 fun i j => .bl (decide (j ≤ i))) := opB0 fun _ _ _ _ _ _ _ q => ge_int q
theorem op_lt_str : OpR X (compareOp .Lt) (fun x y H Q => ∃ i j, x = .str i ∧ y = .str j ∧ Q (.bl (decide (i.cps.toList < j.cps.toList))) H) := by
  intro pins s σ H x y v u Q I rx ry h
  obtain ⟨i, j, rfl, rfl, q⟩ := h
  obtain ⟨t, rfl⟩ := rx
  obtain ⟨t', rfl⟩ := ry
  exact lt_str (fin_bl I q rfl)
/-- the one string within the other -/
theorem op_in_str : OpR X (compareOp .In) (fun x y H Q => ∃ i j, x = .str i ∧ y = .str j ∧ Q (.bl (!(Builtin.Str.occurrences j i 0 j.length 1).isEmpty)) H) := by
  intro pins s σ H x y v u Q I rx ry h
  obtain ⟨i, j, rfl, rfl, q⟩ := h
  obtain ⟨t, rfl⟩ := rx
  obtain ⟨t', rfl⟩ := ry
  exact in_str (fin_bl I q rfl)

/-- is None, is not None: the right side a value none -/
theorem op_isN : OpR X (compareOp .Is) (fun x y H Q => y = .non ∧ Q (.bl (decide (x = .non))) H) := by
  intro pins s σ H x y v u Q I rx ry h
  obtain ⟨rfl, q⟩ := h
  cases ry
  refine is_none_gen (fin_bl I q ?_)
  cases x <;> first
    | (cases rx; rfl)
    | (obtain ⟨t, rfl⟩ := rx; rfl)
theorem op_notN : OpR X (compareOp .IsNot) (fun x y H Q => y = .non ∧ Q (.bl (!decide (x = .non))) H) := by
  intro pins s σ H x y v u Q I rx ry h
  obtain ⟨rfl, q⟩ := h
  cases ry
  refine isnot_none_gen (fin_bl I q ?_)
  cases x <;> first
    | (cases rx; rfl)
    | (obtain ⟨t, rfl⟩ := rx; rfl)

theorem op_notin_str : OpR X (compareOp .NotIn) (fun x y H Q => ∃ i j, x = .str i ∧ y = .str j ∧ Q (.bl (!(!(Builtin.Str.occurrences j i 0 j.length 1).isEmpty))) H) := by
  intro pins s σ H x y v u Q I rx ry h
  obtain ⟨i, j, rfl, rfl, q⟩ := h
  obtain ⟨t, rfl⟩ := rx
  obtain ⟨t', rfl⟩ := ry
  exact notIn_str (fin_bl I q rfl)
/-- is, is not of two objects that are tracked lists or instances -/
def isObj : HO → Bool
  | .lst _ => true
  | .ins _ _ _ => true
  | _ => false
theorem obj_there {pins : List (Addr × Obj)} {s : Shared} {σ : St} {H : Hp} {a : Addr} {o : HO} (I : Inv X pins σ H s) (h : H a = some o) (p : isObj o = true) : ∃ ob, s.heap.get? a = some ob ∧ ob.cls ≠ .type "tuple" := by
  cases o with
  | lst xs =>
    obtain ⟨_, its, n, _, e⟩ : xs.length ≤ sizeLine ∧ ∃ (its : List Value) (n : Nat), Vals xs its ∧ s.heap.get? a = some { cls := .type "list", data := .seq its.toArray n } := I.hok a _ h
    exact ⟨_, e, (by show Value.type "list" ≠ .type "tuple"; decide +kernel)⟩
  | ins C dx fs =>
    have x := I.hok a _ h
    obtain ⟨_, _, _, e, _⟩ := x
    exact ⟨_, e, (by show Value.ref C ≠ .type "tuple"; exact fun z => by cases z)⟩
  | _ => exact absurd (show false = true from p) Bool.false_ne_true
theorem op_is_ref : OpR X (compareOp .Is) (fun x y H Q => ∃ a b oa ob, x = .ref a ∧ y = .ref b ∧ H a = some oa ∧ isObj oa = true ∧ H b = some ob ∧ isObj ob = true ∧ Q (.bl (decide (a = b))) H) := by
  intro pins s σ H x y v u Q I rx ry h
  obtain ⟨a, b, oa, ob, rfl, rfl, ha, pa, hb, pb, q⟩ := h
  cases rx
  cases ry
  obtain ⟨o1, e1, n1⟩ := obj_there I ha pa
  obtain ⟨o2, e2, _⟩ := obj_there I hb pb
  by_cases z : a = b
  · subst z
    exact wpAny_is_ref_self (fin_bl I q (by simp))
  · exact wpAny_is_ref_other z e1 e2 n1 (fin_bl I q (by simp [z]))
theorem op_isnot_ref : OpR X (compareOp .IsNot) (fun x y H Q => ∃ a b oa ob, x = .ref a ∧ y = .ref b ∧ H a = some oa ∧ isObj oa = true ∧ H b = some ob ∧ isObj ob = true ∧ Q (.bl (!decide (a = b))) H) := by
  intro pins s σ H x y v u Q I rx ry h
  obtain ⟨a, b, oa, ob, rfl, rfl, ha, pa, hb, pb, q⟩ := h
  cases rx
  cases ry
  obtain ⟨o1, e1, n1⟩ := obj_there I ha pa
  obtain ⟨o2, e2, _⟩ := obj_there I hb pb
  by_cases z : a = b
  · subst z
    exact wpAny_isNot_ref_self (fin_bl I q (by simp))
  · exact wpAny_isNot_ref_other z e1 e2 n1 (fin_bl I q (by simp [z]))

/-- two rules for one operation: by cases -/
theorem OpR.or {f : Value → Value → Sem Value} {r r' : R2} (h : OpR X f r) (h' : OpR X f r') : OpR X f (fun x y H Q => r x y H Q ∨ r' x y H Q) := by
  intro pins s σ H x y v u Q I rx ry q
  rcases q with q | q
  · exact h pins s σ H x y v u Q I rx ry q
  · exact h' pins s σ H x y v u Q I rx ry q

theorem nomark (b : Expr) {op : CmpOp} (h : op ≠ .In := by decide) (h2 : op ≠ .NotIn := by decide) : behindInMarks op b = false := by
  have e1 : (op == CmpOp.In) = false := by cases op <;> first | rfl | exact absurd rfl h
  have e2 : (op == CmpOp.NotIn) = false := by cases op <;> first | rfl | exact absurd rfl h2
  cases b <;> simp [behindInMarks, e1, e2]
/-- a comparison as a value; hm: nomark b, or (for in, not in) by with_unfolding_all rfl -/
theorem pe_cmpR {op : CmpOp} {r : R2} (ho : OpR X (compareOp op) r) (ha : PE X a ta) (hb : PE X b tb) (hm : behindInMarks op b = false) : PE X (.Compare a [op] [b] pos) (tOp r ta tb) := by
  intro pins s σ H Q I h
  exact wpAny_Compare1 (binT ha hb I h fun v u s2 x y H2 I2 rx ry q => ho pins s2 σ H2 x y v u Q I2 rx ry q) hm
/-- a reading of a value as a test -/
def tTest (t : TE) : TT := fun σ H Q => t σ H fun x H' => ∃ k, x = .bl k ∧ Q k H'
theorem pt_cmpR {op : CmpOp} {r : R2} (ho : OpR X (compareOp op) r) (ha : PE X a ta) (hb : PE X b tb) (hm : behindInMarks op b = false) : PT X (.Compare a [op] [b] pos) (tTest (tOp r ta tb)) := by
  intro pins s σ H Q I h
  refine wpAny_isTrue_Compare1 (thn (ha pins s σ H _ I h) fun v s1 ⟨x, H1, I1, r1, q1⟩ => thn (hb pins s1 σ H1 _ I1 q1) fun u s2 ⟨y, H2, I2, r2, q2⟩ =>
    thn (ho pins s2 σ H2 x y v u _ I2 r1 r2 q2) fun c s3 ⟨z, H3, I3, r3, k, e, q3⟩ => ?_) hm
  subst e
  cases r3
  exact wpAny_truthy_bool ⟨H3, I3, q3⟩
/-- a op1 b op2 c -/
def tChain (r r' : R2) (ta tb tc : TE) : TE := fun σ H Q => ta σ H fun x H1 => tb σ H1 fun y H2 => r x y H2 fun z H3 => ∃ k, z = .bl k ∧
  (if k = true then tc σ H3 fun w' H4 => r' y w' H4 Q else Q (.bl false) H3)
theorem pe_chain {op op' : CmpOp} {r r' : R2} (ho : OpR X (compareOp op) r) (ho' : OpR X (compareOp op') r') (ha : PE X a ta) (hb : PE X b tb) (hc : PE X c tc)
    (hm : lastMarks [op, op'] [b, c] = false := by with_unfolding_all rfl) : PE X (.Compare a [op, op'] [b, c] pos) (tChain r r' ta tb tc) := by
  intro pins s σ H Q I h
  refine Compare_chain (thn (ha pins s σ H _ I h) fun v s1 ⟨x, H1, I1, r1, q1⟩ => chain_link (thn (hb pins s1 σ H1 _ I1 q1) fun u s2 ⟨y, H2, I2, r2, q2⟩ =>
    thn (ho pins s2 σ H2 x y v u _ I2 r1 r2 q2) fun d s3 ⟨z, H3, I3, r3, k, e, q3⟩ => ?_)) hm
  subst e
  cases r3
  refine wpAny_truthy_bool ?_
  cases k with
  | false => exact ite_ff ⟨.bl false, H3, I3, rfl, q3⟩
  | true => exact ite_tt (chain_last (thn (hc pins s3 σ H3 _ I3 q3) fun w' s4 ⟨z', H4, I4, r4, q4⟩ => ho' pins s4 σ H4 y z' u w' Q I4 r2 r4 q4))
theorem pt_chain {op op' : CmpOp} {r r' : R2} (ho : OpR X (compareOp op) r) (ho' : OpR X (compareOp op') r') (ha : PE X a ta) (hb : PE X b tb) (hc : PE X c tc)
    (hm : lastMarks [op, op'] [b, c] = false := by with_unfolding_all rfl) : PT X (.Compare a [op, op'] [b, c] pos) (tTest (tChain r r' ta tb tc)) := by
  intro pins s σ H Q I h
  refine isTrue_chain (thn (ha pins s σ H _ I h) fun v s1 ⟨x, H1, I1, r1, q1⟩ => test_link (thn (hb pins s1 σ H1 _ I1 q1) fun u s2 ⟨y, H2, I2, r2, q2⟩ =>
    thn (ho pins s2 σ H2 x y v u _ I2 r1 r2 q2) fun d s3 ⟨z, H3, I3, r3, k, e, q3⟩ => ?_)) hm
  subst e
  cases r3
  refine wpAny_truthy_bool ?_
  cases k with
  | false =>
    obtain ⟨k', e', q'⟩ := q3
    cases e'
    exact ite_ff ⟨H3, I3, q'⟩
  | true =>
    refine ite_tt (test_last (thn (hc pins s3 σ H3 _ I3 q3) fun w' s4 ⟨z', H4, I4, r4, q4⟩ => thn (ho' pins s4 σ H4 y z' u w' _ I4 r2 r4 q4) fun d' s5 ⟨z2, H5, I5, r5, k2, e2, q5⟩ => ?_))
    subst e2
    cases r5
    exact wpAny_truthy_bool ⟨H5, I5, q5⟩

/-! ### truth -/
/-- a value's truth by the abstract heap -/
def TruV (K : PySem.W.Frag) (x : V) (H : Hp) (k : Bool) : Prop :=
  match x with
  | .non => k = false
  | .bl b => k = b
  | .int i => k = (i != 0)
  | .str y => y.length ≤ sizeLine ∧ k = ((y.length : Int) != 0)
  | .byt y => y.size ≤ sizeLine ∧ k = ((y.size : Int) != 0)
  | .ref p => (∃ xs, SqL K H p xs ∧ k = !xs.isEmpty) ∨ (∃ xs, SqT K H p xs ∧ k = !xs.isEmpty) ∨ ∃ kvs, H p = some (.dK kvs) ∧ k = !kvs.isEmpty
  | _ => False
theorem isEmpty_kv {κ : Type} {kvs : List (κ × V)} {vs : List (κ × Value)} (r : KV kvs vs) : (!vs.isEmpty) = !kvs.isEmpty := by
  cases r <;> rfl
theorem isEmpty_of {xs : List V} {its : List Value} (r : Vals xs its) : (!its.toArray.isEmpty) = !xs.isEmpty := by
  cases r <;> simp
theorem line63 : (sizeLine : Nat) < 2 ^ 63 := by rw [sizeLine_eq]; decide
theorem tru_ok : TruR X (fun x H Q => ∃ k, TruV X.K x H k ∧ Q k H) := by
  intro pins s σ H x v Q I rx h
  obtain ⟨k, e, q⟩ := h
  have hl := line63
  have hs : sizeLine = 16777216 := sizeLine_eq
  cases x with
  | non =>
    cases rx
    have e' : k = false := e
    subst e'
    exact truthy_none ⟨H, I, q⟩
  | bl b =>
    cases rx
    have e' : k = b := e
    subst e'
    exact wpAny_truthy_bool ⟨H, I, q⟩
  | int i =>
    obtain ⟨t, rfl⟩ := rx
    have e' : k = (i != 0) := e
    subst e'
    exact PySem.P.truthy_int ⟨H, I, q⟩
  | str y =>
    obtain ⟨t, rfl⟩ := rx
    obtain ⟨hy, e'⟩ : y.length ≤ sizeLine ∧ k = ((y.length : Int) != 0) := e
    subst e'
    exact PySem.P.truthy_str (by omega) ⟨H, I.tok _, q⟩
  | byt y =>
    obtain ⟨t, rfl⟩ := rx
    obtain ⟨hy, e'⟩ : y.size ≤ sizeLine ∧ k = ((y.size : Int) != 0) := e
    subst e'
    exact PySem.W.truthy_bytes (by omega) ⟨H, I.tok _, q⟩
  | ref p =>
    cases rx
    have e' : (∃ xs, SqL X.K H p xs ∧ k = !xs.isEmpty) ∨ (∃ xs, SqT X.K H p xs ∧ k = !xs.isEmpty) ∨ ∃ kvs, H p = some (.dK kvs) ∧ k = !kvs.isEmpty := e
    rcases e' with ⟨xs, hx, e'⟩ | ⟨xs, hx, e'⟩ | ⟨kvs, hx, e'⟩
    · subst e'
      obtain ⟨its, r, pl, hz⟩ := I.list hx
      have hlen := r.length
      exact wpAny_truthy_list pl.isList (by simp only [List.size_toArray]; omega) ⟨H, I.tok _, by rw [isEmpty_of r]; exact q⟩
    · subst e'
      obtain ⟨its, r, pl, hz⟩ := I.tuple hx
      have hlen := r.length
      exact truthy_tuple pl (by simp only [List.size_toArray]; omega) ⟨H, I.tok _, by rw [isEmpty_of r]; exact q⟩
    · subst e'
      obtain ⟨hz, hS, vs, r, m⟩ : kvs.length ≤ sizeLine ∧ (p == sysModules) = false ∧ ∃ vs, KV kvs vs ∧ s.heap.DictOf (mixKind X.prog X.w) p vs := I.hok p _ hx
      have hlen : kvs.length = vs.length := Paired.length r
      exact wpAny_truthy_dict hS m (by omega) ⟨H, I.tok _, by rw [isEmpty_kv r]; exact q⟩
  | _ => exact (show False from e).elim
/-- any expression whose test is its value's truth (a name, a call, a subscript, a field ..: he by fun _ => rfl) -/
theorem pt_truth (ha : PE X a ta) (he : ∀ whole, isTrue a X.env whole = (do let v ← whole; standAt a.pos; holding [v] (truthy v))) :
    PT X a (fun σ H Q => ta σ H fun x H' => ∃ k, TruV X.K x H' k ∧ Q k H') := by
  intro pins s σ H Q I h
  exact isTrue_plain (thn (ha pins s σ H _ I h) fun v s1 ⟨x, H1, I1, r1, q1⟩ => tru_ok pins s1 σ H1 x v Q I1 r1 q1) (he _)

/-! ### strs and bytes -/
theorem pe_byt {x : List UInt8} {k : Nat} : PE X (.Constant (.bytes x) k pos) (fun _ H Q => Q (.byt x.toArray) H) := fun _ _ _ H _ I h => PySem.W.Constant_bytes ⟨.byt x.toArray, H, I.tok _, ⟨_, rfl⟩, h⟩
theorem op_add_str : OpR X (binaryOp .Add) (fun x y H Q => ∃ i j, x = .str i ∧ y = .str j ∧ i.length + j.length ≤ sizeLine ∧ Q (.str (i ++ j)) H) := by
  intro pins s σ H x y v u Q I rx ry h
  obtain ⟨i, j, rfl, rfl, hz, q⟩ := h
  obtain ⟨t, rfl⟩ := rx
  obtain ⟨t', rfl⟩ := ry
  exact add_str (fun t' tk => ⟨.str (i ++ j), H, I.tok _, ⟨_, rfl⟩, q⟩) hz
theorem iop_add_str : OpR X (inplaceOp .Add) (fun x y H Q => ∃ i j, x = .str i ∧ y = .str j ∧ i.length + j.length ≤ sizeLine ∧ Q (.str (i ++ j)) H) := by
  intro pins s σ H x y v u Q I rx ry h
  obtain ⟨i, j, rfl, rfl, hz, q⟩ := h
  obtain ⟨t, rfl⟩ := rx
  obtain ⟨t', rfl⟩ := ry
  exact iadd_str (fun t' tk => ⟨.str (i ++ j), H, I.tok _, ⟨_, rfl⟩, q⟩) hz
theorem op_add_byt : OpR X (binaryOp .Add) (fun x y H Q => ∃ i j, x = .byt i ∧ y = .byt j ∧ i.size + j.size ≤ 16777216 ∧ Q (.byt (i ++ j)) H) := by
  intro pins s σ H x y v u Q I rx ry h
  obtain ⟨i, j, rfl, rfl, hz, q⟩ := h
  obtain ⟨t, rfl⟩ := rx
  obtain ⟨t', rfl⟩ := ry
  exact PySem.W.KBy.add_bytes hz (fun t' tk => ⟨.byt (i ++ j), H, I.tok _, ⟨_, rfl⟩, q⟩)

def PlainIxT (b : Expr) : Prop := ∀ o i, subscripted b false o i = operate [o, i] (getItem o i)
/-- s[i], 0 ≤ i < len -/
theorem pe_item_str (ha : PE X a ta) (hb : PE X b tb) (hs : PlainIxT b) :
    PE X (.Subscript a b pos) (tOp (fun x y H Q => ∃ z i c, x = .str z ∧ y = .int i ∧ 0 ≤ i ∧ i < 2 ^ 63 ∧ i < z.length ∧ z.cps[i.toNat]? = some c ∧ Q (.str ⟨#[c]⟩) H) ta tb) := by
  intro pins s σ H Q I h
  refine Subscript_ (binT ha hb I h fun v u s2 x y H2 I2 rx ry q => ?_)
  obtain ⟨z, i, c, rfl, rfl, h0, h63, h1, hc, q⟩ := q
  obtain ⟨t, rfl⟩ := rx
  obtain ⟨t', rfl⟩ := ry
  have e : seqIndex? i z.length = some i.toNat := PySem.StrLaws.seqIndex_nonneg h0 h1
  exact tail_any (typeIs_str s2 z t) slot_str_getitem.lookup (getItem_str (c := c) (by
    have e1 : decide (i < -(2 ^ 63 : Int)) = false := decide_eq_false (by omega)
    have e2 : decide (i ≥ 2 ^ 63) = false := decide_eq_false (by omega)
    rw [e1, e2] <;> rfl) (by rw [e]; exact hc) ⟨.str ⟨#[c]⟩, H2, I2.tok _, ⟨_, rfl⟩, q⟩) (hs _ _)
/-- b[i], 0 ≤ i < len -/
theorem pe_item_byt (ha : PE X a ta) (hb : PE X b tb) (hs : PlainIxT b) :
    PE X (.Subscript a b pos) (tOp (fun x y H Q => ∃ (z : List UInt8) (i : Int), x = .byt z.toArray ∧ y = .int i ∧ z.length ≤ sizeLine ∧ 0 ≤ i ∧ i < z.length ∧ Q (.int ((z.getD i.toNat 0).toNat : Nat)) H) ta tb) := by
  intro pins s σ H Q I h
  refine Subscript_ (binT ha hb I h fun v u s2 x y H2 I2 rx ry q => ?_)
  obtain ⟨z, i, rfl, rfl, hz, h0, h1, q⟩ := q
  obtain ⟨t, rfl⟩ := rx
  obtain ⟨t', rfl⟩ := ry
  have hl : sizeLine = 16777216 := sizeLine_eq
  exact tail_any (PySem.W.typeIs_bytes s2 z.toArray t) PySem.W.FB.slot_bytes_getitem.lookup (PySem.W.getItem_bytes (by omega) h0 h1 ⟨.int ((z.getD i.toNat 0).toNat : Nat), H2, I2.tok _, ⟨_, rfl⟩, q⟩) (hs _ _)

/-! ### scalar builtins, by CallR -/
theorem vals1 {x : V} {us : List Value} (r : Vals [x] us) : ∃ u, us = [u] ∧ RelV x u := by
  cases r with
  | cons r1 r2 => cases r2; exact ⟨_, rfl, r1⟩
theorem vals2 {x y : V} {us : List Value} (r : Vals [x, y] us) : ∃ u w', us = [u, w'] ∧ RelV x u ∧ RelV y w' := by
  cases r with
  | cons r1 r2 =>
    cases r2 with
    | cons r3 r4 => cases r4; exact ⟨_, _, rfl, r1, r3⟩
theorem call_abs : CallR X (.builtin "abs") (fun xs H Q => ∃ i, xs = [.int i] ∧ Q (.int (if i < 0 then -i else i)) H) := by
  intro pins s σ H xs us Q I r h
  obtain ⟨i, rfl, q⟩ := h
  obtain ⟨u, rfl, t, rfl⟩ := vals1 r
  exact call_abs_int fun u tk => ⟨.int (if i < 0 then -i else i), H, I.tok _, ⟨_, rfl⟩, q⟩
theorem call_max2 (hc : X.calm = true) : CallR X (.builtin "max") (fun xs H Q => ∃ i j, xs = [.int i, .int j] ∧ Q (.int (if j > i then j else i)) H) := by
  intro pins s σ H xs us Q I r h
  obtain ⟨i, j, rfl, q⟩ := h
  obtain ⟨u, w', rfl, ⟨t, rfl⟩, ⟨t', rfl⟩⟩ := vals2 r
  refine max_two_ints (I.ok.hd hc) fun h' tk k => ⟨_, H, I.kept k, ?_, q⟩
  by_cases hj : j > i
  · rw [if_pos hj, if_pos hj]; exact ⟨_, rfl⟩
  · rw [if_neg hj, if_neg hj]; exact ⟨_, rfl⟩
theorem call_min2 (hc : X.calm = true) : CallR X (.builtin "min") (fun xs H Q => ∃ i j, xs = [.int i, .int j] ∧ Q (.int (if j < i then j else i)) H) := by
  intro pins s σ H xs us Q I r h
  obtain ⟨i, j, rfl, q⟩ := h
  obtain ⟨u, w', rfl, ⟨t, rfl⟩, ⟨t', rfl⟩⟩ := vals2 r
  refine min_two_ints (I.ok.hd hc) fun h' tk k => ⟨_, H, I.kept k, ?_, q⟩
  by_cases hj : j < i
  · rw [if_pos hj, if_pos hj]; exact ⟨_, rfl⟩
  · rw [if_neg hj, if_neg hj]; exact ⟨_, rfl⟩
theorem call_int1 : CallR X (.type "int") (fun xs H Q => (∃ i, xs = [.int i] ∧ Q (.int i) H) ∨ ∃ k, xs = [.bl k] ∧ Q (.int (if k then 1 else 0)) H) := by
  intro pins s σ H xs us Q I r h
  rcases h with ⟨i, rfl, q⟩ | ⟨k, rfl, q⟩
  · obtain ⟨u, rfl, t, rfl⟩ := vals1 r
    exact call_int_int ⟨.int i, H, I, ⟨_, rfl⟩, q⟩
  · obtain ⟨u, rfl, r1⟩ := vals1 r
    cases r1
    exact call_int_bool ⟨.int (if k then 1 else 0), H, I.tok _, ⟨_, rfl⟩, q⟩
theorem call_bool1 : CallR X (.type "bool") (fun xs H Q => (∃ i, xs = [.int i] ∧ Q (.bl (i != 0)) H) ∨ ∃ k, xs = [.bl k] ∧ Q (.bl k) H) := by
  intro pins s σ H xs us Q I r h
  rcases h with ⟨i, rfl, q⟩ | ⟨k, rfl, q⟩
  · obtain ⟨u, rfl, t, rfl⟩ := vals1 r
    exact call_bool_int ⟨.bl (i != 0), H, I, rfl, q⟩
  · obtain ⟨u, rfl, r1⟩ := vals1 r
    cases r1
    exact call_bool_bool ⟨.bl k, H, I, rfl, q⟩
theorem call_str_int : CallR X (.type "str") (fun xs H Q => ∃ i, xs = [.int i] ∧ i.natAbs.log2 < 1920 ∧ Q (.str (toString i)) H) := by
  intro pins s σ H xs us Q I r h
  obtain ⟨i, rfl, hz, q⟩ := h
  obtain ⟨u, rfl, t, rfl⟩ := vals1 r
  exact PySem.P.str_of_int hz ⟨.str _, H, I.tok _, ⟨_, rfl⟩, q⟩
theorem call_ord : CallR X (.builtin "ord") (fun xs H Q => ∃ x, xs = [.str x] ∧ x.length = 1 ∧ Q (.int (x.cps.getD 0 0 : Nat)) H) := by
  intro pins s σ H xs us Q I r h
  obtain ⟨x, rfl, hz, q⟩ := h
  obtain ⟨u, rfl, t, rfl⟩ := vals1 r
  exact ord_of_one hz ⟨.int _, H, I.tok _, ⟨_, rfl⟩, q⟩
theorem call_chr : CallR X (.builtin "chr") (fun xs H Q => ∃ i, xs = [.int i] ∧ 0 ≤ i ∧ i ≤ 1114111 ∧ Q (.str ⟨#[i.toNat]⟩) H) := by
  intro pins s σ H xs us Q I r h
  obtain ⟨i, rfl, h0, h1, q⟩ := h
  obtain ⟨u, rfl, t, rfl⟩ := vals1 r
  exact chr_of_range h0 h1 ⟨.str _, H, I.tok _, ⟨_, rfl⟩, q⟩
/-- len of a str, a bytes, a list, a tuple -/
def LenV (K : PySem.W.Frag) (x : V) (H : Hp) (n : Nat) : Prop :=
  match x with
  | .str y => y.length ≤ sizeLine ∧ n = y.length
  | .byt y => y.size ≤ sizeLine ∧ n = y.size
  | .ref p => (∃ xs, SqL K H p xs ∧ n = xs.length) ∨ ∃ xs, SqT K H p xs ∧ n = xs.length
  | _ => False
theorem call_len : CallR X (.builtin "len") (fun xs H Q => ∃ x n, xs = [x] ∧ LenV X.K x H n ∧ Q (.int n) H) := by
  intro pins s σ H xs us Q I r h
  obtain ⟨x, n, rfl, e, q⟩ := h
  obtain ⟨u, rfl, rx⟩ := vals1 r
  have hl := line63
  have hs : sizeLine = 16777216 := sizeLine_eq
  cases x with
  | str y =>
    obtain ⟨t, rfl⟩ := rx
    obtain ⟨hy, e'⟩ : y.length ≤ sizeLine ∧ n = y.length := e
    subst e'
    exact len_str (by omega) ⟨.int _, H, I.tok _, ⟨_, rfl⟩, q⟩
  | byt y =>
    obtain ⟨t, rfl⟩ := rx
    obtain ⟨hy, e'⟩ : y.size ≤ sizeLine ∧ n = y.size := e
    subst e'
    exact PySem.W.len_bytes (by omega) ⟨.int _, H, I.tok _, ⟨_, rfl⟩, q⟩
  | ref p =>
    cases rx
    have e' : (∃ xs, SqL X.K H p xs ∧ n = xs.length) ∨ ∃ xs, SqT X.K H p xs ∧ n = xs.length := e
    rcases e' with ⟨xs, hx, e'⟩ | ⟨xs, hx, e'⟩
    · subst e'
      obtain ⟨its, r', pl, hz⟩ := I.list hx
      have hlen := r'.length
      exact Calls.call_len_list pl.isList (by simp only [List.size_toArray]; omega) ⟨.int xs.length, H, I.tok _, ⟨_, by simp only [List.size_toArray]; rw [hlen]⟩, q⟩
    · subst e'
      obtain ⟨its, r', pl, hz⟩ := I.tuple hx
      have hlen := r'.length
      exact len_tuple pl (by simp only [List.size_toArray]; omega) ⟨.int xs.length, H, I.tok _, ⟨_, by simp only [List.size_toArray]; rw [hlen]⟩, q⟩
  | _ => exact (show False from e).elim
/-- divmod: a new tuple -/
theorem call_divmod : CallR X (.builtin "divmod") (fun xs H Q => ∃ i j, xs = [.int i, .int j] ∧ CDiv i j ∧ ∀ p, H p = none → Q (.ref p) (upd H p (.tup [.int (i / j), .int (i % j)]))) := by
  intro pins s σ H xs us Q I r h
  obtain ⟨i, j, rfl, ⟨h1, h2⟩, q⟩ := h
  obtain ⟨u, w', rfl, ⟨t, rfl⟩, ⟨t', rfl⟩⟩ := vals2 r
  refine divmod_int (by omega) ?_ (.inl (PyProof.noPylong_small (by omega)))
  rw [Int.fdiv_eq_ediv_of_nonneg i (by omega), Int.fmod_eq_emod_of_nonneg i (by omega)]
  have hn : H s.heap.objs.size = none := I.hok.fresh (Nat.le_refl _)
  refine ⟨.ref s.heap.objs.size, _, ?_, rfl, q _ hn⟩
  refine I.laid (fun b o e => Heap.get?_push_of_some _ e) (Nat.le_refl _) ⟨by simp only [List.length_cons, List.length_nil]; rw [sizeLine_eq]; decide, [.int (i / j) s.toks, .int (i % j) (s.toks + 1)], .cons ⟨_, rfl⟩ (.cons ⟨_, rfl⟩ .nil), ?_⟩
  exact ⟨_, Heap.get?_push_size s.heap rfl, rfl, 0, rfl⟩
end
end L2

namespace L2
open PySem PySem.Spec PyProof.Rows

/-! ### an instance, its attributes a map -/
structure ObjM (h : Heap) (x dx C : Addr) (mA : Str → Option Value) : Prop where
  obj : h.get? x = some (PySem.W.instObj C dx)
  ns : h.Ns1 dx mA
  ne : dx ≠ x

theorem lookIn_ns {h : Heap} {dx : Addr} {mA : Str → Option Value} (n : h.Ns1 dx mA) : ∃ od, h.get? dx = some od ∧ ∀ name, PySem.W.lookIn name od = some (mA name) := by
  obtain ⟨o, es, ep, ho, hd, hk, _, hm⟩ := n
  refine ⟨o, ho, fun name => ?_⟩
  have e := hm name
  unfold nsFind findBy at e
  rw [← Array.find?_toList] at e
  unfold PySem.W.lookIn
  rw [hd]
  dsimp only
  split
  · rename_i y q
    rw [q] at e
    exact congrArg some e
  · rename_i q
    rw [q] at e
    have a : es.toList.any (·.refKey) = false := by
      rw [List.any_eq_false]
      intro y hy
      obtain ⟨z, t, hkey⟩ := hk y (Array.mem_toList_iff.mp hy)
      simp [DictEntry.refKey, hkey]
    have a' : ¬ es.toList.any (·.refKey) = true := by rw [a]; exact Bool.false_ne_true
    rw [if_neg a']
    exact congrArg some e

theorem ObjM.look {h : Heap} {x dx C : Addr} {mA : Str → Option Value} (I : ObjM h x dx C mA) : ∃ od, PySem.W.InstAt h x (PySem.W.instObj C dx) C (some od) ∧ ∀ name, PySem.W.lookIn name od = some (mA name) :=
  let ⟨od, ho, hl⟩ := lookIn_ns I.ns
  ⟨od, ⟨I.obj, rfl, rfl, ho⟩, hl⟩

section
variable {prog : Program} {w : World} {A : Around} {E : Value → Shared → Prop} {s : Shared} {K : PySem.W.Frag} {x dx C f : Addr} {mA : Str → Option Value} {name : Str} {v : Value}

theorem get_map {expr : Bool} {Q : Value → Shared → Prop} (X : K.In s.heap) (I : ObjM s.heap x dx C mA) (hg : PySem.W.plainGet K C name = true) (hh : PySem.W.hasDictIn K C = true)
    (ha : PySem.W.findIn K (.ref C) name = some none) (hv : mA name = some v) (hv' : PySem.W.handedIn v = true) (h : Q v { s with toks := s.toks + 1 }) :
    wpAny (model prog w) A (getAttr (.ref x) name expr) Q E s := by
  obtain ⟨od, J, hl⟩ := I.look
  exact PySem.W.get_value X J (PySem.W.plainGet_of hg).1 (PySem.W.findObj_own hh ha rfl (by rw [hl, hv])) hv' h

theorem get_const {expr : Bool} {a : Value} {Q : Value → Shared → Prop} (X : K.In s.heap) (I : ObjM s.heap x dx C mA) (hg : PySem.W.plainGet K C name = true) (hh : PySem.W.hasDictIn K C = true)
    (ha : PySem.W.findIn K (.ref C) name = some (some a)) (hn : PySem.W.specialIn K a "__get__" = some none) (hc : PySem.W.copiedNames.contains name = false) (hv : mA name = none) (hv' : PySem.W.handedIn a = true)
    (h : Q a { s with toks := s.toks + 1 }) : wpAny (model prog w) A (getAttr (.ref x) name expr) Q E s := by
  obtain ⟨od, J, hl⟩ := I.look
  exact PySem.W.get_value X J (PySem.W.plainGet_of hg).1 (PySem.W.findObj_cls hh ha hn hv' hc (by rw [hl, hv])) hv' h

theorem get_meth {pl : Sem Bool} {Q : Value × List Value → Shared → Prop} (X : K.In s.heap) (I : ObjM s.heap x dx C mA) (hg : PySem.W.plainGet K C name = true)
    (hf : PySem.W.findIn K (.ref C) name = some (some (.ref f))) (ht : PySem.W.isFn K (.ref f) = true) (hv : mA name = none) (h : Q (.ref f, [.ref x]) s) :
    wpAny (model prog w) A (getMethod (.ref x) name pl) Q E s := by
  obtain ⟨od, J, hl⟩ := I.look
  exact PySem.W.method_fn X J (PySem.W.plainGet_of hg).1 (PySem.W.plainGet_of hg).2 hf (beq_iff_eq.mp ht) (by show (PySem.W.lookIn name od).map (·.isSome) = some false; rw [hl, hv]; rfl) h

theorem set_map {ns : List Str} {Q : Unit → Shared → Prop} (X : K.In s.heap) (I : ObjM s.heap x dx C mA)
    (hs : PySem.W.findIn K (.ref C) "__setattr__" = some (some (.builtin "object.__setattr__"))) (hp : PySem.W.plainOver K C = true) (ht : PySem.W.takerIn K C name = some none) (hh : PySem.W.hasDictIn K C = true)
    (hw : PySem.Within mA ns) (hsz : ns.length ≤ sizeLine)
    (h : ∀ h', ObjM h' x dx C (fun y => if y = name then some v else mA y) → Heap.SameBut dx s.heap h' → Q () { s with heap := h', toks := s.toks + 2 }) :
    wpAny (model prog w) A (setAttr (.ref x) name v) Q E s := by
  obtain ⟨od, J, hl⟩ := I.look
  refine PySem.W.set_plain X J hs (PySem.W.osa_open (s := { s with toks := s.toks + 1 }) (r := none) X J hp ht fun b => ?_)
  obtain ⟨cd, hc, hd'⟩ := PySem.W.any_some hh
  have hx : s.heap.get? x = some ⟨.ref C, some dx, .plain, #[]⟩ := I.obj
  refine wpAny_bind (wpAny_pure (wpAny_bind (wpAny_bind (wpAny_loadPart hx (wpAny_bind (PySem.W.Looks.here (s := { s with toks := s.toks + 1 }) (PySem.W.looks_clsIn X hc) ?_))))))
  rw [hd']
  refine wpAny_pure (a := some dx) (wpAny_bind (wpAny_pure (wpAny_bind ?_)))
  refine wpAny_nsSet1 (s := { s with toks := s.toks + 1 }) I.ns fun h' hn2 hs2 => ?_
  obtain ⟨oD, esD, epD, hoD, hdD, hcD⟩ := hn2.count (PySem.Within.cons name v hw)
  refine wpAny_bind (wpAny_lookBehind hoD (by rw [hdD]; exact pastItsLine_dict (Nat.le_trans hcD (by rw [List.length_cons]; omega))) ?_)
  exact wpAny_pure (h _ ⟨(hs2.2 _ (Ne.symm I.ne)).trans I.obj, hn2, I.ne⟩ hs2)

/-- C(..): the dict at the heap's end, the instance behind it; then its __init__ -/
theorem make_map {R : Result → Shared → Prop} {vs : List Value} {kw : List (Str × Value)} (X : K.In s.heap) (hm : PySem.W.makesIn K C = true)
    (hi : PySem.W.findIn K (.ref C) "__init__" = some (some (.ref f))) (hf : PySem.W.typeIn K (.ref f) = some (.type "function"))
    (h : codeAny (model prog w) (A.under (.builtin "type.__call__" ⟨.ref C :: vs, kw⟩)) (.call (.ref f) ⟨.ref (s.heap.objs.size + 1) :: vs, kw⟩) (PySem.W.InitBack (s.heap.objs.size + 1) R)
      { s with heap := (s.heap.push PySem.W.emptyDict).push (PySem.W.instObj C s.heap.objs.size) }) :
    codeAny (model prog w) A (.call (.ref C) ⟨vs, kw⟩) R s := by
  obtain ⟨hh, g, d, t, os⟩ := s
  exact PySem.W.make_core (PySem.W.makes_of X hm) (PySem.W.looks_findIn X hi) (fun self => PySem.W.bind_fn X self hf) (.inl rfl) h
/-- C() where there is no __init__ but object's -/
theorem make_map0 {R : Result → Shared → Prop} (X : K.In s.heap) (hm : PySem.W.makesIn K C = true)
    (hi : PySem.W.findIn K (.ref C) "__init__" = some (some (.builtin "object.__init__")))
    (hb : ∀ self, PySem.W.Looks (model prog w) s.heap (bindSpecial (.builtin "object.__init__") self) (.builtin "object.__init__", [self]))
    (h : codeAny (model prog w) (A.under (.builtin "type.__call__" ⟨[.ref C], []⟩)) (.call (.builtin "object.__init__") ⟨[.ref (s.heap.objs.size + 1)], []⟩) (PySem.W.InitBack (s.heap.objs.size + 1) R)
      { s with heap := (s.heap.push PySem.W.emptyDict).push (PySem.W.instObj C s.heap.objs.size) }) :
    codeAny (model prog w) A (.call (.ref C) ⟨[], []⟩) R s := by
  obtain ⟨hh, g, d, t, os⟩ := s
  exact PySem.W.make_core (PySem.W.makes_of X hm) (PySem.W.looks_findIn X hi) hb (.inr ⟨rfl, rfl⟩) h
end

/-! ### the attributes as a list of pairs -/
def putF (f : Str) (v : V) : List (Str × V) → List (Str × V)
  | [] => [(f, v)]
  | (g, x) :: r => if g = f then (g, v) :: r else (g, x) :: putF f v r
theorem lookup_putF (f g : Str) (v : V) : ∀ fs : List (Str × V), (putF f v fs).lookup g = if g = f then some v else fs.lookup g
  | [] => by
    show List.lookup g [(f, v)] = _
    by_cases h : g = f
    · have hb : (g == f) = true := beq_iff_eq.mpr h
      simp only [List.lookup, hb, if_pos h]
    · have hb : (g == f) = false := beq_eq_false_iff_ne.mpr h
      simp only [List.lookup, hb, if_neg h]
  | (k, x) :: r => by
    have ih := lookup_putF f g v r
    rw [show putF f v ((k, x) :: r) = (if k = f then (k, v) :: r else (k, x) :: putF f v r) from rfl]
    by_cases hk : k = f
    · rw [if_pos hk]
      by_cases h : g = k
      · have hb : (g == k) = true := beq_iff_eq.mpr h
        simp only [List.lookup, hb, if_pos (h.trans hk)]
      · have hb : (g == k) = false := beq_eq_false_iff_ne.mpr h
        simp only [List.lookup, hb, if_neg (fun e : g = f => h (e.trans hk.symm))]
    · rw [if_neg hk]
      by_cases h : g = k
      · have hb : (g == k) = true := beq_iff_eq.mpr h
        simp only [List.lookup, hb, if_neg (fun e : g = f => hk (h.symm.trans e))]
      · have hb : (g == k) = false := beq_eq_false_iff_ne.mpr h
        simp only [List.lookup, hb]
        exact ih
theorem keys_putF (f : Str) (v : V) : ∀ fs : List (Str × V), f ∈ (putF f v fs).map (·.1) ∧ ∀ g, g ∈ fs.map (·.1) → g ∈ (putF f v fs).map (·.1)
  | [] => ⟨by simp [putF], fun g h => by simp at h⟩
  | (k, x) :: r => by
    obtain ⟨i1, i2⟩ := keys_putF f v r
    rw [show putF f v ((k, x) :: r) = (if k = f then (k, v) :: r else (k, x) :: putF f v r) from rfl]
    by_cases hk : k = f
    · rw [if_pos hk]
      subst hk
      exact ⟨by simp, fun g h => by simpa using h⟩
    · rw [if_neg hk]
      refine ⟨?_, fun g h => ?_⟩
      · rw [List.map_cons]
        exact List.mem_cons_of_mem _ i1
      · rw [List.map_cons] at h ⊢
        rcases List.mem_cons.mp h with e | e
        · exact List.mem_cons.mpr (.inl e)
        · exact List.mem_cons_of_mem _ (i2 g e)
theorem length_putF (f : Str) (v : V) : ∀ fs : List (Str × V), (putF f v fs).length ≤ fs.length + 1
  | [] => by simp [putF]
  | (k, x) :: r => by
    have ih := length_putF f v r
    rw [show putF f v ((k, x) :: r) = (if k = f then (k, v) :: r else (k, x) :: putF f v r) from rfl]
    by_cases hk : k = f
    · rw [if_pos hk, List.length_cons, List.length_cons]; omega
    · rw [if_neg hk, List.length_cons, List.length_cons]; omega

theorem RelO.some_of {v : V} {o : Option Value} (r : RelO (some v) o) : ∃ u, o = some u ∧ RelV v u := by
  cases o with
  | none => exact (show False from r).elim
  | some u => exact ⟨u, rfl, r⟩
theorem RelO.none_of {o : Option Value} (r : RelO none o) : o = none := by
  cases o with
  | none => rfl
  | some u => exact (show False from r).elim
theorem handed_of {v : V} {u : Value} (r : RelV v u) : PySem.W.handedIn u = true := by
  cases v with
  | non => cases (show u = Value.none from r); rfl
  | bl b => cases (show u = Value.bool b from r); rfl
  | int i => obtain ⟨t, e⟩ := (show ∃ t, u = Value.int i t from r); cases e; rfl
  | str x => obtain ⟨t, e⟩ := (show ∃ t, u = Value.str x t from r); cases e; rfl
  | byt b => obtain ⟨t, e⟩ := (show ∃ t, u = Value.bytes b t from r); cases e; rfl
  | flt b => obtain ⟨t, e⟩ := (show ∃ t, u = Value.float b t from r); cases e; rfl
  | ref a => cases (show u = Value.ref a from r); rfl
  | ty n => cases (show u = Value.type n from r); rfl

section
variable {P : Program} {w : World} {H H' : Hp} {h h' : Heap} {a C dx : Addr} {fs fs' : List (Str × V)}
theorem ins_get (hok : HOk P w H h) (e : H a = some (.ins C dx fs)) : ∃ mA, ObjM h a dx C mA ∧ (∀ f, RelO (fs.lookup f) (mA f)) ∧ PySem.Within mA (fs.map (·.1)) ∧ fs.length ≤ 1000 ∧ H dx = some (.own a) := by
  obtain ⟨d, z, ne, ob, mA, n, r, q⟩ := (show ObjOk P w H h a (.ins C dx fs) from hok a _ e)
  exact ⟨mA, ⟨ob, n, ne⟩, r, q, z, d⟩
end

/-! ### what of the text a class must have -/
structure Cls (K : PySem.W.Frag) (C : Addr) : Prop where
  pg : PySem.W.plainGet K C Str.empty = true
  hd : PySem.W.hasDictIn K C = true
  po : PySem.W.plainOver K C = true
  sa : PySem.W.findIn K (.ref C) "__setattr__" = some (some (.builtin "object.__setattr__"))
theorem Cls.get {K : PySem.W.Frag} {C : Addr} (c : Cls K C) (f : Str) : PySem.W.plainGet K C f = true := c.pg
/-- no class of it has the name -/
def NoAttr (K : PySem.W.Frag) (C : Addr) (f : Str) : Prop := PySem.W.findIn K (.ref C) f = some none
theorem NoAttr.taker {K : PySem.W.Frag} {C : Addr} {f : Str} (n : NoAttr K C f) : PySem.W.takerIn K C f = some none := by
  unfold PySem.W.takerIn
  rw [show PySem.W.findIn K (.ref C) f = some none from n]
  rfl
/-- a constant of the class -/
structure Con (K : PySem.W.Frag) (C : Addr) (f : Str) (v : V) (u : Value) : Prop where
  at_ : PySem.W.findIn K (.ref C) f = some (some u)
  rel : RelV v u
  get : PySem.W.specialIn K u "__get__" = some none
  cp : PySem.W.copiedNames.contains f = false
/-- a method: a plain def of the class or of one above it -/
structure Meth (K : PySem.W.Frag) (C : Addr) (m : Str) (f : Addr) : Prop where
  at_ : PySem.W.findIn K (.ref C) m = some (some (.ref f))
  fn : PySem.W.isFn K (.ref f) = true
  kp : PySem.W.keepIn K (.ref f) = true

section
variable {X : Cx} {pins : List (Addr × Obj)} {σ : St} {H : Hp} {s : Shared} {a C dx : Addr} {fs : List (Str × V)} {f : Str} {v : V} {A : Around} {E : Value → Shared → Prop}

theorem getattr_ok {b : Bool} {Q : Value → Shared → Prop} (I : Inv X pins σ H s) (e : H a = some (.ins C dx fs)) (c : Cls X.K C) (n : NoAttr X.K C f) (l : fs.lookup f = some v)
    (h : ∀ u s', Inv X pins σ H s' → RelV v u → Q u s') : wpAny (model X.prog X.w) A (getAttr (.ref a) f b) Q E s := by
  obtain ⟨mA, O, r, _, _, _⟩ := ins_get I.hok e
  obtain ⟨u, hu, ru⟩ := RelO.some_of (v := v) (o := mA f) (by rw [← l]; exact r f)
  exact get_map I.kIn O (c.get f) c.hd n hu (handed_of ru) (h u _ (I.tok _) ru)

theorem getcon_ok {b : Bool} {u : Value} {Q : Value → Shared → Prop} (I : Inv X pins σ H s) (e : H a = some (.ins C dx fs)) (c : Cls X.K C) (k : Con X.K C f v u) (l : fs.lookup f = none)
    (h : ∀ s', Inv X pins σ H s' → Q u s') : wpAny (model X.prog X.w) A (getAttr (.ref a) f b) Q E s := by
  obtain ⟨mA, O, r, _, _, _⟩ := ins_get I.hok e
  have hn : mA f = none := RelO.none_of (by rw [← l]; exact r f)
  exact get_const I.kIn O (c.get f) c.hd k.at_ k.get k.cp hn (handed_of k.rel) (h _ (I.tok _))

theorem getmeth_ok {m : Str} {g : Addr} {pl : Sem Bool} {Q : Value × List Value → Shared → Prop} (I : Inv X pins σ H s) (e : H a = some (.ins C dx fs)) (c : Cls X.K C) (k : Meth X.K C m g) (l : fs.lookup m = none)
    (h : Q (.ref g, [.ref a]) s) : wpAny (model X.prog X.w) A (getMethod (.ref a) m pl) Q E s := by
  obtain ⟨mA, O, r, _, _, _⟩ := ins_get I.hok e
  have hn : mA m = none := RelO.none_of (by rw [← l]; exact r m)
  exact get_meth I.kIn O (c.get m) k.at_ k.fn hn h

theorem setattr_ok {y : V} {u : Value} {Q : Unit → Shared → Prop} (I : Inv X pins σ H s) (e : H a = some (.ins C dx fs)) (c : Cls X.K C) (n : NoAttr X.K C f) (hl : fs.length < 1000) (ry : RelV y u)
    (h : ∀ s', Inv X pins σ (upd H a (.ins C dx (putF f y fs))) s' → Q () s') : wpAny (model X.prog X.w) A (setAttr (.ref a) f u) Q E s := by
  obtain ⟨mA, O, r, wi, _, ho⟩ := ins_get I.hok e
  have hz : (fs.map (·.1)).length ≤ sizeLine := by rw [List.length_map, sizeLine_eq]; omega
  refine set_map I.kIn O c.sa c.po n.taker c.hd wi hz fun h' O' sb => h _ ?_
  have hd : ∃ o, h'.get? dx = some o := let ⟨o, _, _, e', _⟩ := O'.ns; ⟨o, e'⟩
  refine I.write (x := a) (e := dx) (by rw [e]; exact True.intro) (.inr ho) (fun b q hb z => (sb.2 b hb).trans z) hd ?_
  refine ⟨by rw [upd_ne O.ne]; exact ho, ?_, O.ne, O'.obj, _, O'.ns, fun g => ?_, fun g hg => ?_⟩
  · have := length_putF f y fs; omega
  · show RelO ((putF f y fs).lookup g) (if g = f then some u else mA g)
    rw [lookup_putF]
    by_cases q : g = f
    · rw [if_pos q, if_pos q]; exact ry
    · rw [if_neg q, if_neg q]; exact r g
  · by_cases q : g = f
    · rw [q]; exact (keys_putF f y fs).1
    · refine (keys_putF f y fs).2 g (wi g fun z => hg ?_)
      show (if g = f then some u else mA g) = none
      rw [if_neg q]; exact z

/-- a new instance, tracked, without attributes -/
theorem Inv.made (I : Inv X pins σ H s) : Inv X pins σ (upd (upd H s.heap.objs.size (.own (s.heap.objs.size + 1))) (s.heap.objs.size + 1) (.ins C s.heap.objs.size []))
    { s with heap := (s.heap.push PySem.W.emptyDict).push (PySem.W.instObj C s.heap.objs.size) } := by
  have e1 : (s.heap.push PySem.W.emptyDict).get? s.heap.objs.size = some PySem.W.emptyDict := Heap.get?_push_size s.heap rfl
  have e2 : ((s.heap.push PySem.W.emptyDict).push (PySem.W.instObj C s.heap.objs.size)).get? (s.heap.objs.size + 1) = some (PySem.W.instObj C s.heap.objs.size) := by
    have := Heap.get?_push_size (s.heap.push PySem.W.emptyDict) (o := PySem.W.instObj C s.heap.objs.size) rfl
    rwa [Heap.size_push] at this
  have e3 : (s.heap.push PySem.W.emptyDict).Ns s.heap.objs.size (fun _ => none) := ⟨PySem.W.emptyDict, #[], _, e1, rfl, (fun e he => absurd he (by simp)), fun _ => rfl⟩
  have I1 := I.laid (a := s.heap.objs.size) (o := .own (s.heap.objs.size + 1)) (h' := s.heap.push PySem.W.emptyDict) (t' := s.toks) (fun b u q => Heap.get?_push_of_some _ q) (Nat.le_refl _) ⟨_, e1⟩
  refine I1.laid (a := s.heap.objs.size + 1) (o := .ins C s.heap.objs.size []) (t' := s.toks) (fun b u q => Heap.get?_push_of_some _ q) (Nat.le_of_eq (Heap.size_push _ _)) ?_
  have ne : s.heap.objs.size ≠ s.heap.objs.size + 1 := Nat.ne_of_lt (Nat.lt_succ_self _)
  refine ⟨by rw [upd_ne ne, upd_same], Nat.zero_le _, ne, e2, fun _ => none, (Heap.Ns1.of_empty e3).at fun o q => Heap.get?_push_of_some _ q, fun _ => True.intro, fun y hy => absurd rfl hy⟩

/-- e.f where nothing but the object is asked: through attributeBase (super) and the last hold -/
theorem attr_of {prog : Program} {w : World} {env : Env} {e : Expr} {f : Str} {pos : Pos} {s : Shared} {Q : Value → Shared → Prop} (hb : attributeBase e f env (eval e env) = eval e env)
    (h : wpAny (model prog w) A (eval e env) (fun o s₁ => wpAny (model prog w) A (getAttr o f true) Q E s₁) E s) : wpAny (model prog w) A (eval (.Attribute e f pos) env) Q E s :=
  Attribute_any_ h (by rw [arm_eval_Attribute, hb])
end

/-! ### readings and rules -/
/-- e.f, an attribute of the instance -/
def tFld (K : PySem.W.Frag) (ta : TE) (f : Str) : TE := fun σ H Q => ta σ H fun x H1 => ∃ a C dx fs v, x = .ref a ∧ H1 a = some (.ins C dx fs) ∧ Cls K C ∧ NoAttr K C f ∧ fs.lookup f = some v ∧ Q v H1
/-- e.f, a constant of the class -/
def tCon (K : PySem.W.Frag) (ta : TE) (f : Str) : TE := fun σ H Q => ta σ H fun x H1 => ∃ a C dx fs v u, x = .ref a ∧ H1 a = some (.ins C dx fs) ∧ Cls K C ∧ Con K C f v u ∧ fs.lookup f = none ∧ Q v H1
/-- e.f = value -/
def sFld (K : PySem.W.Frag) (ta tv : TE) (f : Str) : TS := fun D σ H => tv σ H fun y H1 => ta σ H1 fun x H2 => ∃ a C dx fs, x = .ref a ∧ H2 a = some (.ins C dx fs) ∧ Cls K C ∧ NoAttr K C f ∧ fs.length < 1000 ∧
  D.nx σ (upd H2 a (.ins C dx (putF f y fs)))
/-- an augmented operator on two values -/
def InOp (X : Cx) (op : Operator) (rd : V → V → Hp → VK → Prop) : Prop :=
  ∀ (pins : List (Addr × Obj)) (s : Shared) (σ : St) (H : Hp) (x y : V) (u v : Value) (Q : VK), Inv X pins σ H s → RelV x u → RelV y v → rd x y H Q → wpAny (model X.prog X.w) X.A (inplaceOp op u v) (EP X pins σ Q) X.xe s
/-- e.f op= value -/
def sFldAug (K : PySem.W.Frag) (ta tv : TE) (rd : V → V → Hp → VK → Prop) (f : Str) : TS := fun D σ H => ta σ H fun x H1 => ∃ a C dx fs v, x = .ref a ∧ H1 a = some (.ins C dx fs) ∧ Cls K C ∧ NoAttr K C f ∧ fs.lookup f = some v ∧
  tv σ H1 fun y H2 => rd v y H2 fun z H3 => ∃ dx' fs', H3 a = some (.ins C dx' fs') ∧ fs'.length < 1000 ∧ D.nx σ (upd H3 a (.ins C dx' (putF f z fs')))

section
variable {X : Cx} {o e value : Expr} {f : Str} {pos pos' tpos : Pos} {ta tv : TE}
theorem pe_fld (he : PE X e ta) (hb : attributeBase e f X.env (eval e X.env) = eval e X.env) : PE X (.Attribute e f pos) (tFld X.K ta f) := by
  intro pins s σ H Q I h
  refine attr_of hb (thn (he pins s σ H _ I h) fun u s1 ⟨x, H1, I1, rx, a, C, dx, fs, v, ex, ea, c, n, l, q⟩ => ?_)
  subst ex
  obtain rfl : u = Value.ref a := rx
  exact getattr_ok I1 ea c n l fun u' s2 I2 ru => ⟨v, H1, I2, ru, q⟩
theorem pe_con (he : PE X e ta) (hb : attributeBase e f X.env (eval e X.env) = eval e X.env) : PE X (.Attribute e f pos) (tCon X.K ta f) := by
  intro pins s σ H Q I h
  refine attr_of hb (thn (he pins s σ H _ I h) fun u s1 ⟨x, H1, I1, rx, a, C, dx, fs, v, u0, ex, ea, c, k, l, q⟩ => ?_)
  subst ex
  obtain rfl : u = Value.ref a := rx
  exact getcon_ok I1 ea c k l fun s2 I2 => ⟨v, H1, I2, k.rel, q⟩
theorem ps_fld (ha : PE X o ta) (hv : PE X value tv) (hs : swapsWith value (some (.Attribute o f pos')) pos.line X.env = pure false) : PS X (.Assign [.Attribute o f pos'] value pos) (sFld X.K ta tv f) := by
  intro pins s σ H D I h
  refine plainObj_wpAny_Assign_Attribute (thn (hv pins s σ H _ I h) fun u s1 ⟨y, H1, I1, ry, q⟩ => thn (ha pins s1 σ H1 _ I1 q) fun ov s2 ⟨x, H2, I2, rx, a, C, dx, fs, ex, ea, c, n, l, q2⟩ => ?_) hs
  subst ex
  obtain rfl : ov = Value.ref a := rx
  exact setattr_ok I2 ea c n l ry fun s3 I3 => ⟨σ, _, I3, q2⟩
theorem ps_fldaug {op : Operator} {rd : V → V → Hp → VK → Prop} (ha : PE X o ta) (hv : PE X value tv) (hop : InOp X op rd) : PS X (.AugAssign (.Attribute o f tpos) op value pos) (sFldAug X.K ta tv rd f) := by
  intro pins s σ H D I h
  refine wpAny_AugAssign_AttributeAny (thn (ha pins s σ H _ I h) fun ov s1 ⟨x, H1, I1, rx, a, C, dx, fs, v, ex, ea, c, n, l, q⟩ => ?_)
  subst ex
  obtain rfl : ov = Value.ref a := rx
  refine getattr_ok I1 ea c n l fun u s2 I2 ru => thn (hv pins s2 σ H1 _ I2 q) fun w3 s3 ⟨y, H2, I3, ry, q3⟩ => thn (hop pins s3 σ H2 v y u w3 _ I3 ru ry q3) fun w4 s4 ⟨z, H3, I4, rz, dx', fs', ea', l', q4⟩ => ?_
  exact setattr_ok I4 ea' c n l' rz fun s5 I5 => ⟨σ, _, I5, q4⟩
def rAdd : V → V → Hp → VK → Prop := fun x y H Q => ∃ i j, x = .int i ∧ y = .int j ∧ Q (.int (i + j)) H
def rSub : V → V → Hp → VK → Prop := fun x y H Q => ∃ i j, x = .int i ∧ y = .int j ∧ Q (.int (i - j)) H
theorem in_add : InOp X .Add rAdd := by
  rintro pins s σ H x y u v Q I rx ry ⟨i, j, rfl, rfl, q⟩
  obtain ⟨t, rfl⟩ := (show ∃ t, u = Value.int i t from rx)
  obtain ⟨t', rfl⟩ := (show ∃ t', v = Value.int j t' from ry)
  exact PyProof.Rows.iadd_int ⟨.int (i + j), H, I.tok _, ⟨_, rfl⟩, q⟩
theorem in_sub : InOp X .Sub rSub := by
  rintro pins s σ H x y u v Q I rx ry ⟨i, j, rfl, rfl, q⟩
  obtain ⟨t, rfl⟩ := (show ∃ t, u = Value.int i t from rx)
  obtain ⟨t', rfl⟩ := (show ∃ t', v = Value.int j t' from ry)
  exact PyProof.Rows.isub_int ⟨.int (i - j), H, I.tok _, ⟨_, rfl⟩, q⟩

/-- what is between an instance and its method: the tree of a method call -/
theorem methcall_of {pl : Sem Bool} {m : Str} {apos : Pos} {args : List Expr} {pins : List (Addr × Obj)} {s : Shared} {σ : St} {H : Hp} {Q : Value → Shared → Prop} {te : TE} (he : PE X e te) (I : Inv X pins σ H s)
    (h : te σ H fun x H1 => ∃ a C dx fs g, x = .ref a ∧ H1 a = some (.ins C dx fs) ∧ Cls X.K C ∧ Meth X.K C m g ∧ fs.lookup m = none ∧
      ∀ s1, Inv X pins σ H1 s1 → wpAny (model X.prog X.w) X.A (callWith pos (.ref g) [.ref a] (backTo pos (starEach args X.env)) (backToKw pos (keywordEach [] X.env))) Q X.xe s1)
    (ht : eval (.Call (.Attribute e m apos) args [] pos) X.env = (do
      let ov ← eval e X.env
      standAt apos.atName
      let (f, first) ← holding [ov] (getMethod ov m pl)
      callWith pos f first (backTo pos (starEach args X.env)) (backToKw pos (keywordEach [] X.env)))) :
    wpAny (model X.prog X.w) X.A (eval (.Call (.Attribute e m apos) args [] pos) X.env) Q X.xe s := by
  refine PySem.W.methodCall_KW (pl := pl) (thn (he pins s σ H _ I h) fun u s1 ⟨x, H1, I1, rx, a, C, dx, fs, g, ex, ea, c, k, l, q⟩ => ?_) ht
  subst ex
  obtain rfl : u = Value.ref a := rx
  exact getmeth_ok I1 ea c k l (q s1 I1)
end

/-! ### isinstance -/
section
variable {X : Cx} {pins : List (Addr × Obj)} {σ : St} {H : Hp} {s : Shared} {A : Around} {E : Value → Shared → Prop} {Q : Value → Shared → Prop} {c : Value} {b : Bool}
/-- the type of a value, as the fragment's deciders take it; for an instance its class -/
inductive TyOf (K : PySem.W.Frag) (H : Hp) : V → Value → Prop where
  | non : TyOf K H .non (.type "NoneType")
  | bl (x : Bool) : TyOf K H (.bl x) (.type "bool")
  | int (i : Int) : TyOf K H (.int i) (.type "int")
  | str (x : Str) : TyOf K H (.str x) (.type "str")
  | flt (x : UInt64) : TyOf K H (.flt x) (.type "float")
  | lst {a : Addr} {xs : List V} (e : H a = some (.lst xs)) : TyOf K H (.ref a) (.type "list")
  | frz {a : Addr} {o : Obj} {xs : List V} (e : H a = some (.frz o (.lst xs))) : TyOf K H (.ref a) (.type "list")
  | tup {a : Addr} {xs : List V} (e : H a = some (.tup xs)) : TyOf K H (.ref a) (.type "tuple")
  | dK {a : Addr} {kvs : List (Key × V)} (e : H a = some (.dK kvs)) : TyOf K H (.ref a) (.type "dict")
  | dT {a : Addr} {kvs : List (List Key × V)} (e : H a = some (.dT kvs)) : TyOf K H (.ref a) (.type "dict")
  | ins {a C dx : Addr} {fs : List (Str × V)} (e : H a = some (.ins C dx fs)) (cl : Cls K C) (ha : PySem.W.findIn K (.ref C) "__class__" = some (some (.builtin "object.__class__")))
      (hn : PySem.W.specialIn K (.builtin "object.__class__") "__get__" = some (some (.builtin "getset_descriptor.__get__"))) (htk : PySem.W.takesIn K (.builtin "object.__class__") = some true)
      (hm : PySem.W.mroIn K C (.type "object") = some true) : TyOf K H (.ref a) (.ref C)
/-- isinstance(x, c) for one class c, a built-in or an own one: kitOne's answer -/
theorem isinst_ok {x : V} {u t : Value} (I : Inv X pins σ H s) (rx : RelV x u) (ty : TyOf X.K H x t) (e : PySem.W.kitOne X.K t c = some b) (h : ∀ tk, Q (.bool b) { s with toks := tk }) :
    wpAny (model X.prog X.w) A (call (.builtin "isinstance") [u, c]) Q E s := by
  cases ty with
  | non => cases (show u = Value.none from rx); exact PySem.W.kia_one PySem.W.kitx_none I.kIn True.intro e (fun z => nomatch z) h
  | bl y => cases (show u = Value.bool y from rx); exact PySem.W.kia_one PySem.W.kitx_bool I.kIn True.intro e (fun z => nomatch z) h
  | int i => obtain ⟨t, q⟩ := (show ∃ t, u = Value.int i t from rx); cases q; exact PySem.W.kia_one PySem.W.kitx_int I.kIn True.intro e (fun z => nomatch z) h
  | str y => obtain ⟨t, q⟩ := (show ∃ t, u = Value.str y t from rx); cases q; exact PySem.W.kia_one PySem.W.kitx_str I.kIn True.intro e (fun z => nomatch z) h
  | flt y => obtain ⟨t, q⟩ := (show ∃ t, u = Value.float y t from rx); cases q; exact PySem.W.kia_one PySem.W.kitx_float I.kIn True.intro e (fun z => nomatch z) h
  | @lst a xs ea =>
    cases (show u = Value.ref a from rx)
    obtain ⟨_, _, n, _, h1⟩ := (show ObjOk X.prog X.w H s.heap a (.lst xs) from I.hok a _ ea)
    exact PySem.W.kia_one PySem.W.kitx_list I.kIn ⟨_, h1, rfl⟩ e (fun z => nomatch z) h
  | @frz a ob xs ea =>
    cases (show u = Value.ref a from rx)
    obtain ⟨_, _, _, n, _, h1⟩ := (show ObjOk X.prog X.w H s.heap a (.frz ob (.lst xs)) from I.hok a _ ea)
    exact PySem.W.kia_one PySem.W.kitx_list I.kIn ⟨_, h1, rfl⟩ e (fun z => nomatch z) h
  | @tup a xs ea =>
    cases (show u = Value.ref a from rx)
    obtain ⟨_, _, _, p⟩ := (show ObjOk X.prog X.w H s.heap a (.tup xs) from I.hok a _ ea)
    obtain ⟨o, h1, h2, _⟩ := p
    exact PySem.W.kia_one PySem.W.kitx_tuple I.kIn ⟨o, h1, h2⟩ e (fun z => nomatch z) h
  | @dK a kvs ea =>
    cases (show u = Value.ref a from rx)
    obtain ⟨_, _, vs, _, p⟩ := (show ObjOk X.prog X.w H s.heap a (.dK kvs) from I.hok a _ ea)
    obtain ⟨o, es, ep, h1, h2, _⟩ := p
    exact PySem.W.kia_one PySem.W.kitx_dict I.kIn ⟨o, h1, h2.1⟩ e (fun z => nomatch z) h
  | @dT a kvs ea =>
    cases (show u = Value.ref a from rx)
    obtain ⟨_, _, xs, _, o, es, ep, h1, h2, _⟩ := (show ObjOk X.prog X.w H s.heap a (.dT kvs) from I.hok a _ ea)
    exact PySem.W.kia_one PySem.W.kitx_dict I.kIn ⟨o, h1, h2.1⟩ e (fun z => nomatch z) h
  | @ins a C dx fs ea cl ha hn htk hm =>
    cases (show u = Value.ref a from rx)
    obtain ⟨mA, O, _⟩ := ins_get I.hok ea
    obtain ⟨od, J, _⟩ := O.look
    exact PySem.W.kia_one (PySem.W.kitx_own (cl.get _) cl.hd ha hn htk hm) I.kIn J e (fun z => nomatch z) h
end
end L2

namespace L2
open PySem PySem.Spec PyProof.Rows

/-! ### room -/
structure Room (k : Nat) (A : Around) : Prop where
  hd : A.handled = none
  dp : A.depth + 3 * k + 5 < recursionLimit
  un : A.units + 16 * k + 200 < cLine
theorem Room.mono {j k : Nat} {A : Around} (r : Room k A) (h : j ≤ k) : Room j A := ⟨r.hd, by have := r.dp; omega, by have := r.un; omega⟩
theorem Room.deeper {k : Nat} {A : Around} (r : Room (k + 1) A) (env : Env) : Room k (A.deeper env) :=
  ⟨r.hd, by have := r.dp; show A.depth + 1 + 3 * k + 5 < _; omega, by have := r.un; show A.units + 3 + 16 * k + 200 < _; omega⟩
theorem Room.in1 {k : Nat} {A : Around} (r : Room (k + 1) A) : Room k A.in1 :=
  ⟨r.hd, by have := r.dp; show A.depth + 3 * k + 5 < _; omega, by have := r.un; show A.units + 1 + 16 * k + 200 < _; omega⟩
theorem make_depth {A : Around} {C : Addr} {us : List Value} {kw : List (Str × Value)} : (A.under (.builtin "type.__call__" ⟨.ref C :: us, kw⟩)).depth = A.depth + 1 := by
  first | rfl | simp [Around.under, Code.weight, Code.isCreation, Code.isGuard, Code.isCaller, Code.frames, Code.isFrame, guardIds]
theorem make_units {A : Around} {C : Addr} {us : List Value} {kw : List (Str × Value)} : (A.under (.builtin "type.__call__" ⟨.ref C :: us, kw⟩)).units = A.units + 1 := by
  first | rfl | simp [Around.under, Code.cUnits, Code.frames, Code.isFrame]
theorem Room.make {k : Nat} {A : Around} (r : Room (k + 1) A) (C : Addr) (us : List Value) (kw : List (Str × Value)) : Room k (A.under (.builtin "type.__call__" ⟨.ref C :: us, kw⟩)) :=
  ⟨r.hd, by have := r.dp; rw [make_depth]; omega, by have := r.un; rw [make_units]; omega⟩
theorem Room.depth {k : Nat} {A : Around} (r : Room k A) : A.depth < recursionLimit := by have := r.dp; omega
theorem Room.units {k : Nat} {A : Around} (r : Room k A) : A.units + 64 < cLine := by have := r.un; omega
theorem Room.units0 {k : Nat} {A : Around} (r : Room k A) : A.units < cLine := by have := r.un; omega

/-! ### argument lists and displays -/
def tNil : TA := fun _ H Q => Q [] H
def tCons (ta : TE) (tr : TA) : TA := fun σ H Q => ta σ H fun x H1 => tr σ H1 fun xs H2 => Q (x :: xs) H2
section
variable {X : Cx} {e : Expr} {es : List Expr} {te : TE} {t : TA} {pos : Pos}
theorem pa_nil : PA X [] tNil := fun _ _ _ _ H Q I h => Calls.spliced_nil ⟨[], H, I, .nil, h⟩
theorem pa_cons (ha : PE X e te) (hr : PA X es t) (hs : starEach (e :: es) X.env = (false, eval e X.env) :: starEach es X.env := by rfl) : PA X (e :: es) (tCons te t) := by
  intro pos pins s σ H Q I h
  rw [hs]
  show wpAny _ _ (spliced ((false, eval e X.env) :: backTo pos (starEach es X.env))) _ _ s
  refine Calls.spliced_cons (thn (ha pins s σ H _ I h) fun u s1 ⟨x, H1, I1, r1, q1⟩ => ?_)
  exact thn (hr pos pins s1 σ H1 _ I1 q1) fun us s2 ⟨xs, H2, I2, r2, q2⟩ => ⟨x :: xs, H2, I2, .cons r1 r2, q2⟩

/-- a tuple, a list of written items -/
def tTup (t : TA) : TE := fun σ H Q => t σ H fun xs H1 => xs.length ≤ sizeLine ∧ ∀ p, H1 p = none → Q (.ref p) (upd H1 p (.tup xs))
def tLst (t : TA) : TE := fun σ H Q => t σ H fun xs H1 => xs.length ≤ sizeLine ∧ ∀ p, H1 p = none → Q (.ref p) (upd H1 p (.lst xs))
theorem pe_tup {x1} (h : PA X es t) : PE X (.Tuple es x1 pos) (tTup t) := by
  intro pins s σ H Q I hq
  refine wpAny_Tuple_spliced (thn (h pos pins s σ H _ I hq) fun us s1 ⟨xs, H1, I1, r, z, q⟩ => ⟨by rw [← r.length]; exact z, ?_⟩)
  have hf : H1 s1.heap.objs.size = none := I1.hok.fresh (Nat.le_refl _)
  refine ⟨.ref s1.heap.objs.size, upd H1 s1.heap.objs.size (.tup xs), I1.laid (t' := s1.toks) (fun b u e => Heap.get?_push_of_some _ e) (Nat.le_refl _) ?_, rfl, q _ hf⟩
  exact ⟨z, us, r, ⟨_, Heap.get?_push_size _ rfl, rfl, _, rfl⟩⟩
theorem pe_lst (h : PA X es t) : PE X (.List es pos) (tLst t) := by
  intro pins s σ H Q I hq
  refine wpAny_List_spliced (thn (h pos pins s σ H _ I hq) fun us s1 ⟨xs, H1, I1, r, z, q⟩ => ⟨by rw [← r.length]; exact z, ?_⟩)
  have hf : H1 s1.heap.objs.size = none := I1.hok.fresh (Nat.le_refl _)
  refine ⟨.ref s1.heap.objs.size, upd H1 s1.heap.objs.size (.lst xs), I1.laid (t' := s1.toks) (fun b u e => Heap.get?_push_of_some _ e) (Nat.le_refl _) ?_, rfl, q _ hf⟩
  exact ⟨z, us, 0, r, Heap.get?_push_size _ rfl⟩
end

/-! ### what a def promises -/
/-- a def's promise: the bound arguments in the parameters' order, the heap, the wanted end, the wanted exception -/
abbrev Sp := List V → Hp → VK → XK → Prop
/-- how an exception lies behind a call (file 08 gives it): the callers' frames, abstract heap and state ahead of the call, the wish, the exception, the state -/
abbrev CXT := List Env → Hp → Shared → XK → Value → Shared → Prop

/-- the state at a call -/
structure Env0 (P : Program) (w : World) (K : PySem.W.Frag) (mg : Str → Option Value) (base : Heap) (A : Around) (outer : List Env) (s : Shared) (H : Hp) : Prop where
  frames : A.frames = some outer
  mod : Mod K mg base
  bs : ∀ b o, base.get? b = some o → s.heap.get? b = some o ∧ H b = none
  bsz : base.objs.size ≤ s.heap.objs.size
  funs : s.heap.FunFrames base outer
  frf : ∀ b ∈ frs outer, H b = none
  hok : HOk P w H s.heap
  bare : AllBare s.gens
/-- a call's end -/
def CE (outer : List Env) (P : Program) (w : World) (H : Hp) (s : Shared) (Q : VK) (u : Value) (s' : Shared) : Prop :=
  ∃ v H', s'.os = s.os ∧ AllBare s'.gens ∧ Un (frs outer) [] H H' s.heap s'.heap ∧ HOk P w H' s'.heap ∧ RelV v u ∧ Q v H'
def CR (CX : CXT) (outer : List Env) (P : Program) (w : World) (H : Hp) (s : Shared) (Q : VK) (E : XK) (r : Result) (s' : Shared) : Prop :=
  match r with
  | .ok (.ret u) => CE outer P w H s Q u s'
  | .ok _ => False
  | .error e => CX outer H s E e s'
structure FnOk (P : Program) (w : World) (K : PySem.W.Frag) (mg : Str → Option Value) (base : Heap) (CX : CXT) (k : Nat) (f : Addr) (fd : FuncData) (ps : List Str) (sp : Sp) : Prop where
  len : ∀ vs H Q E, sp vs H Q E → vs.length = ps.length
  run : ∀ (A : Around) (outer : List Env) (s : Shared) (H : Hp) (args : Args) (us : List Value) (vs : List V) (Q : VK) (E : XK), Room k A → Env0 P w K mg base A outer s H → BindsTo s fd args (ps.zip us) → Vals vs us → sp vs H Q E →
    codeAny (model P w) A (.call (.ref f) args) (CR CX outer P w H s Q E) s
theorem FnOk.mono {P : Program} {w : World} {K : PySem.W.Frag} {mg : Str → Option Value} {base : Heap} {CX : CXT} {j k : Nat} {f : Addr} {fd : FuncData} {ps : List Str} {sp : Sp} (F : FnOk P w K mg base CX j f fd ps sp) (h : j ≤ k) :
    FnOk P w K mg base CX k f fd ps sp := ⟨F.len, fun A outer s H args us vs Q E hr => F.run A outer s H args us vs Q E (hr.mono h)⟩
/-- a weaker promise -/
theorem FnOk.imp {P : Program} {w : World} {K : PySem.W.Frag} {mg : Str → Option Value} {base : Heap} {CX : CXT} {k : Nat} {f : Addr} {fd : FuncData} {ps : List Str} {sp sp' : Sp} (F : FnOk P w K mg base CX k f fd ps sp)
    (h : ∀ vs H Q E, sp' vs H Q E → sp vs H Q E) : FnOk P w K mg base CX k f fd ps sp' :=
  ⟨fun vs H Q E q => F.len vs H Q E (h _ _ _ _ q), fun A outer s H args us vs Q E hr he hb hv hs => F.run A outer s H args us vs Q E hr he hb hv (h _ _ _ _ hs)⟩

theorem Env0.make {P : Program} {w : World} {K : PySem.W.Frag} {mg : Str → Option Value} {base : Heap} {A : Around} {outer : List Env} {s : Shared} {H : Hp} (e : Env0 P w K mg base A outer s H) (C : Addr) (us : List Value) (kw : List (Str × Value)) :
    Env0 P w K mg base (A.under (.builtin "type.__call__" ⟨.ref C :: us, kw⟩)) outer s H := ⟨by first | exact e.frames | (simpa [Around.under, Code.envs, Code.isFrame, pushEnvs] using e.frames), e.mod, e.bs, e.bsz, e.funs, e.frf, e.hok, e.bare⟩
theorem Env0.in1 {P : Program} {w : World} {K : PySem.W.Frag} {mg : Str → Option Value} {base : Heap} {A : Around} {outer : List Env} {s : Shared} {H : Hp} (e : Env0 P w K mg base A outer s H) :
    Env0 P w K mg base A.in1 outer s H := ⟨e.frames, e.mod, e.bs, e.bsz, e.funs, e.frf, e.hok, e.bare⟩

section
variable {X : Cx} {pins : List (Addr × Obj)} {σ : St} {H : Hp} {s s' : Shared}
/-- from a body: what a callee wants -/
theorem Inv.env0 (I : Inv X pins σ H s) : Env0 X.prog X.w X.K X.mg X.base X.A X.stack s H :=
  ⟨I.ok.frames, I.ok.mod, I.bs, Nat.le_trans I.ok.bsz I.sz, I.stack, I.stkFree, I.hok, I.bare⟩
/-- behind a call -/
theorem Inv.after {Q : VK} {u : Value} (I : Inv X pins σ H s) (h : CE X.stack X.prog X.w H s Q u s') : EP X pins σ Q u s' := by
  obtain ⟨v, H', os, bare, un, hok, r, q⟩ := h
  obtain ⟨hh, g, d, t, os'⟩ := s'
  obtain rfl : os' = s.os := os
  exact ⟨v, H', I.call (h' := hh) (g' := g) (d' := d) (t' := t) (ch := []) un hok bare (fun b z => absurd z (by simp)), r, q⟩
end

/-! ### calls -/
/-- f(..): the written arguments, then the defaults dvs; E: what is wanted of an exception -/
def tCall (sp : Sp) (dvs : List V) (E : XK) (t : TA) : TE := fun σ H Q => t σ H fun vs H1 => sp (vs ++ dvs) H1 Q E
/-- o.m(..) of an instance of the class at C -/
def tMeth (C : Addr) (m : Str) (sp : Sp) (dvs : List V) (E : XK) (ta : TE) (t : TA) : TE := fun σ H Q => ta σ H fun x H1 => ∃ a dx fs, x = .ref a ∧ H1 a = some (.ins C dx fs) ∧ fs.lookup m = none ∧
  t σ H1 fun vs H2 => sp (x :: (vs ++ dvs)) H2 Q E
/-- C(..): a new instance and its dict, then __init__ -/
def tMake (C : Addr) (sp : Sp) (dvs : List V) (E : XK) (t : TA) : TE := fun σ H Q => t σ H fun vs H1 => ∀ x dx, H1 x = none → H1 dx = none → dx ≠ x →
  sp (.ref x :: (vs ++ dvs)) (upd (upd H1 dx (.own x)) x (.ins C dx [])) (fun v H2 => v = .non ∧ Q (.ref x) H2) E

/-- how the parameters are bound: us the positional arguments, kw the keywords' values by name, ds the defaults that fill up -/
def Binds (K : PySem.W.Frag) (fd : FuncData) (ps : List Str) (ds : List Value) : Prop :=
  ∀ (s : Shared) (us : List Value), K.In s.heap → (us ++ ds).length = ps.length → BindsTo s fd ⟨us, []⟩ (ps.zip (us ++ ds))
/-- every parameter is given -/
theorem Binds.all {K : PySem.W.Frag} {fd : FuncData} {ps : List Str} (h : ∀ us : List Value, us.length = ps.length → bindArgs fd ⟨us, []⟩ = pure (ps.zip us)) : Binds K fd ps [] := fun s us _ hl => by
  rw [List.append_nil] at hl ⊢
  exact .of_eq (h us hl)

/-- an exception of a callee reaches what this body wants of exceptions -/
def Passes (CX : CXT) (X : Cx) (E : XK) : Prop := ∀ (pins : List (Addr × Obj)) (σ : St) (H : Hp) (s : Shared) (e : Value) (s' : Shared), Inv X pins σ H s → CX X.stack H s E e s' → X.xe e s'

section
variable {X : Cx} {CX : CXT} {k : Nat} {f C : Addr} {fd : FuncData} {ps : List Str} {sp : Sp} {dvs : List V} {ds : List Value} {E : XK} {x m : Str} {p pos apos : Pos} {e o : Expr} {es : List Expr} {ta : TE} {t : TA}

/-- the callee runs -/
theorem run_fn {pins : List (Addr × Obj)} {σ : St} {H : Hp} {s : Shared} {Q : VK} {us : List Value} {vs : List V} (F : FnOk X.prog X.w X.K X.mg X.base CX k f fd ps sp) (hr : Room k X.A) (hb : Binds X.K fd ps ds) (hd : Vals dvs ds) (hx : Passes CX X E)
    (I : Inv X pins σ H s) (r : Vals vs us) (h : sp (vs ++ dvs) H Q E) : wpAny (model X.prog X.w) X.A (call (.ref f) us) (EP X pins σ Q) X.xe s := by
  have r2 : Vals (vs ++ dvs) (us ++ ds) := r.append hd
  have hl : (us ++ ds).length = ps.length := by rw [← r2.length]; exact F.len _ _ _ _ h
  refine wpAny_call (codeAny_mono (F.run X.A X.stack s H ⟨us, []⟩ (us ++ ds) (vs ++ dvs) Q E hr I.env0 (hb s us I.kIn hl) r2 h) fun r s' hq => ?_)
  cases r with
  | error e => exact hx pins σ H s e s' I hq
  | ok fl =>
    cases fl with
    | ret u => exact I.after hq
    | next => exact False.elim hq
    | brk => exact False.elim hq
    | cont => exact False.elim hq

theorem pe_call (F : FnOk X.prog X.w X.K X.mg X.base CX k f fd ps sp) (hr : Room k X.A) (hg : Gl X x) (hm : X.mg x = some (.ref f)) (hk : PySem.W.keepIn X.K (.ref f) = true) (hb : Binds X.K fd ps ds) (hd : Vals dvs ds) (hx : Passes CX X E)
    (ha : PA X (e :: es) t) (hdb : (x == ("__debug__" : Str)) = false := by decide) (he : starEach (e :: es) X.env = (false, eval e X.env) :: starEach es X.env := by rfl) (hpl : (backTo pos (starEach es X.env)).any (·.1) = false := by rfl) :
    PE X (.Call (.Name x p) (e :: es) [] pos) (tCall sp dvs E t) := by
  intro pins s σ H Q I h
  refine wpAny_Call_Name_kw (ld_glob I hg hm ?_ hdb)
  refine PySem.W.callWith_K (h₀ := X.base) I.ok.mod.kin hk (thn (ha pos pins s σ H _ I h) fun us s1 ⟨vs, H1, I1, r, q⟩ => ⟨I1.kIn, ?_⟩) he hpl
  exact run_fn F hr hb hd hx I1 r q
theorem pe_call0 (F : FnOk X.prog X.w X.K X.mg X.base CX k f fd ps sp) (hr : Room k X.A) (hg : Gl X x) (hm : X.mg x = some (.ref f)) (hk : PySem.W.keepIn X.K (.ref f) = true) (hb : Binds X.K fd ps ds) (hd : Vals dvs ds) (hx : Passes CX X E)
    (hdb : (x == ("__debug__" : Str)) = false := by decide) : PE X (.Call (.Name x p) [] [] pos) (tCall sp dvs E tNil) := by
  intro pins s σ H Q I h
  refine wpAny_Call_Name_kw (ld_glob I hg hm ?_ hdb)
  exact PySem.W.callWith_K0 I.kIn hk (run_fn (us := []) F hr hb hd hx I .nil h)

/-- o.m(e, ..) -/
theorem pe_meth {pl : Sem Bool} (he : PE X o ta) (c : Cls X.K C) (hm : Meth X.K C m f) (F : FnOk X.prog X.w X.K X.mg X.base CX k f fd ps sp) (hr : Room k X.A) (hb : Binds X.K fd ps ds) (hd : Vals dvs ds) (hx : Passes CX X E) (ha : PA X (e :: es) t)
    (hst : starEach (e :: es) X.env = (false, eval e X.env) :: starEach es X.env := by rfl) (hpl : (backTo pos (starEach es X.env)).any (·.1) = false := by rfl)
    (ht : eval (.Call (.Attribute o m apos) (e :: es) [] pos) X.env = (do
      let ov ← eval o X.env
      standAt apos.atName
      let (f, first) ← holding [ov] (getMethod ov m pl)
      callWith pos f first (backTo pos (starEach (e :: es) X.env)) (backToKw pos (keywordEach [] X.env))) := by rfl) :
    PE X (.Call (.Attribute o m apos) (e :: es) [] pos) (tMeth C m sp dvs E ta t) := by
  intro pins s σ H Q I h
  refine PySem.W.methodCall_KW (pl := pl) (thn (he pins s σ H _ I h) fun u s1 ⟨x, H1, I1, rx, a, dx, fs, ex, ea, l, q⟩ => ?_) ht
  subst ex
  obtain rfl : u = Value.ref a := rx
  refine getmeth_ok I1 ea c hm l ?_
  refine PySem.W.callWith_K (first := [.ref a]) (h₀ := X.base) I.ok.mod.kin hm.kp (thn (ha pos pins s1 σ H1 _ I1 q) fun us s2 ⟨vs, H2, I2, r, q2⟩ => ⟨I2.kIn, ?_⟩) hst hpl
  exact run_fn (us := .ref a :: us) (vs := .ref a :: vs) F hr hb hd hx I2 (.cons rfl r) q2
/-- o.m() -/
theorem pe_meth0 {pl : Sem Bool} (he : PE X o ta) (c : Cls X.K C) (hm : Meth X.K C m f) (F : FnOk X.prog X.w X.K X.mg X.base CX k f fd ps sp) (hr : Room k X.A) (hb : Binds X.K fd ps ds) (hd : Vals dvs ds) (hx : Passes CX X E)
    (ht : eval (.Call (.Attribute o m apos) [] [] pos) X.env = (do
      let ov ← eval o X.env
      standAt apos.atName
      let (f, first) ← holding [ov] (getMethod ov m pl)
      callWith pos f first (backTo pos (starEach [] X.env)) (backToKw pos (keywordEach [] X.env))) := by rfl) :
    PE X (.Call (.Attribute o m apos) [] [] pos) (tMeth C m sp dvs E ta tNil) := by
  intro pins s σ H Q I h
  refine PySem.W.methodCall_KW (pl := pl) (thn (he pins s σ H _ I h) fun u s1 ⟨x, H1, I1, rx, a, dx, fs, ex, ea, l, q⟩ => ?_) ht
  subst ex
  obtain rfl : u = Value.ref a := rx
  refine getmeth_ok I1 ea c hm l ?_
  exact PySem.W.callWith_K0 (first := [.ref a]) I1.kIn hm.kp (run_fn (us := [.ref a]) (vs := [.ref a]) F hr hb hd hx I1 (.cons rfl .nil) q)

/-- what a class must have to be made -/
structure Mk (K : PySem.W.Frag) (C f : Addr) : Prop where
  makes : PySem.W.makesIn K C = true
  init : PySem.W.findIn K (.ref C) "__init__" = some (some (.ref f))
  fn : PySem.W.isFn K (.ref f) = true
  kp : PySem.W.keepIn K (.ref C) = true

theorem run_make {pins : List (Addr × Obj)} {σ : St} {H : Hp} {s : Shared} {Q : VK} {us : List Value} {vs : List V} (M : Mk X.K C f) (F : FnOk X.prog X.w X.K X.mg X.base CX k f fd ps sp) (hr : Room (k + 1) X.A) (hb : Binds X.K fd ps ds) (hd : Vals dvs ds)
    (hx : Passes CX X E) (I : Inv X pins σ H s) (r : Vals vs us)
    (h : ∀ x dx, H x = none → H dx = none → dx ≠ x → sp (.ref x :: (vs ++ dvs)) (upd (upd H dx (.own x)) x (.ins C dx [])) (fun v H2 => v = .non ∧ Q (.ref x) H2) E) :
    wpAny (model X.prog X.w) X.A (call (.ref C) us) (EP X pins σ Q) X.xe s := by
  have hq := h (s.heap.objs.size + 1) s.heap.objs.size (I.hok.fresh (Nat.le_succ _)) (I.hok.fresh (Nat.le_refl _)) (Nat.ne_of_lt (Nat.lt_succ_self _))
  have I2 := Inv.made (C := C) I
  have r2 : Vals (V.ref (s.heap.objs.size + 1) :: (vs ++ dvs)) (Value.ref (s.heap.objs.size + 1) :: (us ++ ds)) := .cons rfl (r.append hd)
  have hl : (Value.ref (s.heap.objs.size + 1) :: us ++ ds).length = ps.length := by
    have e := r2.length
    rw [F.len _ _ _ _ hq] at e
    exact e.symm
  refine wpAny_call (make_map (f := f) I.kIn M.makes M.init (beq_iff_eq.mp M.fn) (codeAny_mono (F.run _ X.stack _ _ ⟨Value.ref (s.heap.objs.size + 1) :: us, []⟩ (Value.ref (s.heap.objs.size + 1) :: (us ++ ds)) _ _ E (hr.make C us [])
    (I2.env0.make C us []) (hb _ (Value.ref (s.heap.objs.size + 1) :: us) I2.kIn hl) r2 hq) fun r s' hq' => ?_))
  cases r with
  | error e => exact hx pins σ _ _ e s' I2 hq'
  | ok fl =>
    cases fl with
    | ret u =>
      obtain ⟨v, H', I3, rv, ev, q3⟩ := I2.after hq'
      subst ev
      exact ⟨rv, ⟨V.ref (s.heap.objs.size + 1), H', I3, rfl, q3⟩⟩
    | next => exact False.elim hq'
    | brk => exact False.elim hq'
    | cont => exact False.elim hq'
theorem pe_make (M : Mk X.K C f) (F : FnOk X.prog X.w X.K X.mg X.base CX k f fd ps sp) (hr : Room (k + 1) X.A) (hg : Gl X x) (hm : X.mg x = some (.ref C)) (hb : Binds X.K fd ps ds) (hd : Vals dvs ds) (hx : Passes CX X E)
    (ha : PA X (e :: es) t) (hdb : (x == ("__debug__" : Str)) = false := by decide) (he : starEach (e :: es) X.env = (false, eval e X.env) :: starEach es X.env := by rfl) (hpl : (backTo pos (starEach es X.env)).any (·.1) = false := by rfl) :
    PE X (.Call (.Name x p) (e :: es) [] pos) (tMake C sp dvs E t) := by
  intro pins s σ H Q I h
  refine wpAny_Call_Name_kw (ld_glob I hg hm ?_ hdb)
  refine PySem.W.callWith_K (h₀ := X.base) I.ok.mod.kin M.kp (thn (ha pos pins s σ H _ I h) fun us s1 ⟨vs, H1, I1, r, q⟩ => ⟨I1.kIn, ?_⟩) he hpl
  exact run_make M F hr hb hd hx I1 r q
theorem pe_make0 (M : Mk X.K C f) (F : FnOk X.prog X.w X.K X.mg X.base CX k f fd ps sp) (hr : Room (k + 1) X.A) (hg : Gl X x) (hm : X.mg x = some (.ref C)) (hb : Binds X.K fd ps ds) (hd : Vals dvs ds) (hx : Passes CX X E)
    (hdb : (x == ("__debug__" : Str)) = false := by decide) : PE X (.Call (.Name x p) [] [] pos) (tMake C sp dvs E tNil) := by
  intro pins s σ H Q I h
  refine wpAny_Call_Name_kw (ld_glob I hg hm ?_ hdb)
  exact PySem.W.callWith_K0 I.kIn M.kp (run_make (us := []) M F hr hb hd hx I .nil h)
end

/-! ### keywords -/
/-- the values of the keywords, from the left -/
def PK (X : Cx) (kws : List Keyword) (t : TA) : Prop :=
  ∀ (pos : Pos) (pins : List (Addr × Obj)) (s : Shared) (σ : St) (H : Hp) (Q : List V → Hp → Prop), Inv X pins σ H s → t σ H Q → wpAny (model X.prog X.w) X.A (evalAll ((backToKw pos (keywordEach kws X.env)).map (·.2))) (AP X pins σ Q) X.xe s
section
variable {X : Cx} {CX : CXT} {k : Nat} {f C : Addr} {fd : FuncData} {ps ks : List Str} {sp : Sp} {E : XK} {x m : Str} {p pos apos kpos : Pos} {e o : Expr} {es : List Expr} {kws : List Keyword} {te ta : TE} {t tk : TA} {nm : Option Str}
theorem pk_nil : PK X [] tNil := fun _ _ _ _ H Q I h => wpAny_evalAll_nil ⟨[], H, I, .nil, h⟩
theorem pk_cons (ha : PE X e te) (hr : PK X kws t) : PK X (⟨nm, e, kpos⟩ :: kws) (tCons te t) := by
  intro pos pins s σ H Q I h
  show wpAny _ _ (evalAll ((do let v ← eval e X.env; standAt pos; pure v) :: (backToKw pos (keywordEach kws X.env)).map (·.2))) _ _ s
  refine wpAny_evalAll_cons (wpAny_bind (thn (ha pins s σ H _ I h) fun u s1 ⟨x, H1, I1, r1, q1⟩ => wpAny_bind (wpAny_standAt (wpAny_pure ?_))))
  exact thn (hr pos pins s1 σ H1 _ I1 q1) fun us s2 ⟨xs, H2, I2, r2, q2⟩ => ⟨x :: xs, H2, I2, .cons r1 r2, q2⟩

/-- how a call with keywords binds: g puts the positional values us and the keywords' values ws (names ks) in the parameters' order, defaults among them -/
structure KBinds (K : PySem.W.Frag) (fd : FuncData) (ps ks : List Str) (g : List Value → List Value → List Value) (gV : List V → List V → List V) : Prop where
  to : ∀ (s : Shared) (us ws : List Value), K.In s.heap → (g us ws).length = ps.length → BindsTo s fd ⟨us, ks.zip ws⟩ (ps.zip (g us ws))
  rel : ∀ {vs : List V} {us : List Value} {zs : List V} {ws : List Value}, Vals vs us → Vals zs ws → Vals (gV vs zs) (g us ws)
def tCallK (sp : Sp) (gV : List V → List V → List V) (E : XK) (t tk : TA) : TE := fun σ H Q => t σ H fun vs H1 => tk σ H1 fun zs H2 => sp (gV vs zs) H2 Q E
variable {g : List Value → List Value → List Value} {gV : List V → List V → List V}
theorem run_fnk {pins : List (Addr × Obj)} {σ : St} {H : Hp} {s : Shared} {Q : VK} {us ws : List Value} {vs zs : List V} (F : FnOk X.prog X.w X.K X.mg X.base CX k f fd ps sp) (hr : Room k X.A) (hb : KBinds X.K fd ps ks g gV) (hx : Passes CX X E)
    (I : Inv X pins σ H s) (r : Vals vs us) (rz : Vals zs ws) (h : sp (gV vs zs) H Q E) : wpAny (model X.prog X.w) X.A (call (.ref f) us (ks.zip ws)) (EP X pins σ Q) X.xe s := by
  have r2 := hb.rel r rz
  have hl : (g us ws).length = ps.length := by rw [← r2.length]; exact F.len _ _ _ _ h
  refine wpAny_call (codeAny_mono (F.run X.A X.stack s H ⟨us, ks.zip ws⟩ (g us ws) (gV vs zs) Q E hr I.env0 (hb.to s us ws I.kIn hl) r2 h) fun r s' hq => ?_)
  cases r with
  | error e => exact hx pins σ H s e s' I hq
  | ok fl =>
    cases fl with
    | ret u => exact I.after hq
    | next => exact False.elim hq
    | brk => exact False.elim hq
    | cont => exact False.elim hq
/-- f(e, .., k = v, ..) -/
theorem pe_callK (F : FnOk X.prog X.w X.K X.mg X.base CX k f fd ps sp) (hr : Room k X.A) (hg : Gl X x) (hm : X.mg x = some (.ref f)) (hk : PySem.W.keepIn X.K (.ref f) = true) (hb : KBinds X.K fd ps ks g gV) (hx : Passes CX X E)
    (ha : PA X (e :: es) t) (hkw : PK X kws tk) (hall : (backToKw pos (keywordEach kws X.env)).all (·.1.isSome) = true := by rfl) (hks : (backToKw pos (keywordEach kws X.env)).filterMap (·.1) = ks := by rfl)
    (hdb : (x == ("__debug__" : Str)) = false := by decide) (he : starEach (e :: es) X.env = (false, eval e X.env) :: starEach es X.env := by rfl)
    (hpl : ((backTo pos (starEach (e :: es) X.env)).any (·.1) || (backToKw pos (keywordEach kws X.env)).any (·.1.isNone)) = false := by rfl) :
    PE X (.Call (.Name x p) (e :: es) kws pos) (tCallK sp gV E t tk) := by
  intro pins s σ H Q I h
  refine wpAny_Call_Name_kw (ld_glob I hg hm ?_ hdb)
  refine PySem.W.callWith_KW (h₀ := X.base) I.ok.mod.kin hk hall (thn (ha pos pins s σ H _ I h) fun us s1 ⟨vs, H1, I1, r, q⟩ => ?_) hpl he
  refine thn (hkw pos pins s1 σ H1 _ I1 q) fun ws s2 ⟨zs, H2, I2, rz, q2⟩ => ⟨I2.kIn, ?_⟩
  rw [hks]
  exact run_fnk F hr hb hx I2 r rz q2
end

/-! ### a def's body keeps its promise -/
/-- names: the parameters first -/
structure FnScope (N P : List Str) (sc : Scope) : Prop where
  kind : sc.kind = .function
  co : sc.isCoroutine = false
  gen : sc.isGenerator = false
  nd : N.Nodup
  pre : N.take P.length = P
  par : ∀ x ∈ P, sc.names.lookup x = some .local ∨ sc.names.lookup x = some .cell
  nofree : ∀ y ∈ sc.names, y.2 ≠ .free

theorem bindL_out {kindOf : Str → Option NameKind} {x : Str} : ∀ {binds : List (Str × Value)} {m : Str → Option Value}, (∀ v, (x, v) ∉ binds) → bindL kindOf binds m x = m x
  | [], _, _ => rfl
  | (n, v) :: r, m, h => by
    unfold bindL
    rw [bindL_out fun w hw => h w (List.mem_cons_of_mem _ hw)]
    split
    · have : x ≠ n := by rintro rfl; exact h v List.mem_cons_self
      simp [this]
    · rfl
theorem bindC_out {kindOf : Str → Option NameKind} {x : Str} : ∀ {binds : List (Str × Value)} {m : Str → Option Value}, (∀ v, (x, v) ∉ binds) → bindC kindOf binds m x = m x
  | [], _, _ => rfl
  | (n, v) :: r, m, h => by
    unfold bindC
    rw [bindC_out fun w hw => h w (List.mem_cons_of_mem _ hw)]
    split
    · rfl
    · have : x ≠ n := by rintro rfl; exact h v List.mem_cons_self
      simp [this]
theorem bindL_get {kindOf : Str → Option NameKind} {x : Str} {v : Value} : ∀ {P : List Str} {vs : List Value} {i : Nat} {m : Str → Option Value}, P.Nodup → P[i]? = some x → vs[i]? = some v → kindOf x = some .local →
    bindL kindOf (P.zip vs) m x = some v
  | [], _, _, _, _, h, _, _ => by simp at h
  | _ :: _, [], _, _, _, _, h, _ => by simp at h
  | p :: P, w :: vs, 0, m, nd, h1, h2, hk => by
    simp at h1 h2; subst h1; subst h2
    show bindL kindOf ((p, w) :: P.zip vs) m p = _
    unfold bindL
    rw [bindL_out fun v hv => (List.nodup_cons.mp nd).1 (List.of_mem_zip hv).1, if_pos hk]
    simp
  | p :: P, w :: vs, i + 1, m, nd, h1, h2, hk => by
    show bindL kindOf ((p, w) :: P.zip vs) m x = _
    unfold bindL
    exact bindL_get (i := i) (List.nodup_cons.mp nd).2 (by simpa using h1) (by simpa using h2) hk
theorem bindC_get {kindOf : Str → Option NameKind} {x : Str} {v : Value} : ∀ {P : List Str} {vs : List Value} {i : Nat} {m : Str → Option Value}, P.Nodup → P[i]? = some x → vs[i]? = some v → kindOf x ≠ some .local →
    bindC kindOf (P.zip vs) m x = some v
  | [], _, _, _, _, h, _, _ => by simp at h
  | _ :: _, [], _, _, _, _, h, _ => by simp at h
  | p :: P, w :: vs, 0, m, nd, h1, h2, hk => by
    simp at h1 h2; subst h1; subst h2
    show bindC kindOf ((p, w) :: P.zip vs) m p = _
    unfold bindC
    rw [bindC_out fun v hv => (List.nodup_cons.mp nd).1 (List.of_mem_zip hv).1, if_neg hk]
    simp
  | p :: P, w :: vs, i + 1, m, nd, h1, h2, hk => by
    show bindC kindOf ((p, w) :: P.zip vs) m x = _
    unfold bindC
    exact bindC_get (i := i) (List.nodup_cons.mp nd).2 (by simpa using h1) (by simpa using h2) hk

/-- the names' values at the entry -/
def start (N : List Str) (vs : List V) : St := vs.map some ++ List.replicate (N.length - vs.length) none

/-- the context of a def's body, at its entry; an exception leaves the frame, then lies as CX says -/
def cxOf (CX : CXT) (P : Program) (w : World) (K : PySem.W.Frag) (mg : Str → Option Value) (base : Heap) (N : List Str) (qual : Str) (scope : Scope) (f : Addr) (cd : Value) (A : Around) (outer : List Env) (s : Shared) (H : Hp) (E : XK) : Cx where
  prog := P
  w := w
  K := K
  mg := mg
  base := base
  A := A.deeper (envOfC qual scope s.heap.objs.size f cd)
  N := N
  s₀ := s
  H₀ := H
  env := envOfC qual scope s.heap.objs.size f cd
  outer := outer
  stack := envOfC qual scope s.heap.objs.size f cd :: outer
  ex := []
  calm := true
  fn := fun _ => true
  pn := []
  xe := fun e s' => wpAny (model P w) (A.deeper (envOfC qual scope s.heap.objs.size f cd)) (leaving (envOfC qual scope s.heap.objs.size f cd) e) (fun _ s'' => CX outer H s E e s'') (fun e' s'' => CX outer H s E e' s'') s'

theorem cell_has {sc : Scope} {n : Nat} {x : Str} (h : sc.names.lookup x = some .cell) : ∃ c, (cellsFrom n sc.names []).lookup x = some c := by
  have q := PySem.W.cellsFrom_some sc.names n [] (.inl h)
  exact Option.isSome_iff_exists.mp q

theorem inv_start {CX : CXT} {P : Program} {w : World} {K : PySem.W.Frag} {mg : Str → Option Value} {base : Heap} {N ps : List Str} {qual : Str} {scope : Scope} {f : Addr} {cd : Value} {A : Around} {outer : List Env} {s s1 : Shared} {H : Hp} {E : XK} {us : List Value} {vs : List V}
    (S : FnScope N ps scope) (hd : A.handled = none) (e0 : Env0 P w K mg base A outer s H) (hl : vs.length = ps.length) (r : Vals vs us)
    (x : InCallC s s.heap.objs.size (bindL (envOfC qual scope s.heap.objs.size f cd).kindOf (ps.zip us) fun _ => none) (cellsFrom (s.heap.objs.size + 1) scope.names []) (bindC (envOfC qual scope s.heap.objs.size f cd).kindOf (ps.zip us) fun _ => none) s1) :
    Inv (cxOf CX P w K mg base N qual scope f cd A outer s H E) [] (start N vs) H s1 := by
  have hpl : ps.length ≤ N.length := by have := congrArg List.length S.pre; rw [List.length_take] at this; omega
  obtain ⟨h1, tk, rfl, hk⟩ := x.done
  have noA : ∀ b : Addr, b ∉ (cxOf CX P w K mg base N qual scope f cd A outer s H E).ex := fun b z => absurd (show b ∈ ([] : List Addr) from z) (by simp)
  refine ⟨⟨e0.mod, S.kind, rfl, rfl, Nat.le_refl _, fun y z c h1 h2 => ?_, fun y hy => ?_, fun y c _ h => ?_, fun _ => hd, Around.frames_deeper e0.frames, .inr ⟨rfl, rfl⟩, fun b z => absurd z (noA b), e0.bs, e0.bsz, fun b _ _ => noA b, fun b z => absurd z (noA b), e0.funs, e0.frf⟩,
    rfl, e0.bare, Un.kept hk, ⟨_, x.toInCall.ns, fun i y v h1 h2 h3 => ?_⟩, fun y c h => ⟨_, x.cell y c h⟩, e0.hok.fresh (Nat.le_refl _), fun y c h => ?_, fun p hp => absurd (show p ∈ ([] : List (Addr × Obj)) from hp) (by simp), e0.hok.kept hk, ?_⟩
  · exact name_of_addr x.apart (PySem.mem_of_lookup h1) (PySem.mem_of_lookup h2)
  · have hy : scope.names.lookup y = some .cell ∨ scope.names.lookup y = some .free := hy
    rcases hy with hy | hy
    · exact cell_has hy
    · exact absurd rfl (S.nofree _ (PySem.mem_of_lookup hy))
  · exact Nat.le_of_lt (x.above y c (PySem.mem_of_lookup h))
  · have hi : i < vs.length := by
      unfold start at h2
      by_cases hi : i < vs.length
      · exact hi
      · rw [List.getElem?_append_right (by simpa using hi)] at h2
        rw [List.getElem?_replicate] at h2
        split at h2 <;> cases h2
    have ha : vs[i]? = some v := by
      unfold start at h2
      rw [List.getElem?_append_left (by simpa using hi), List.getElem?_map] at h2
      cases e : vs[i]? with
      | none => rw [e] at h2; cases h2
      | some a => rw [e] at h2; cases h2; rfl
    obtain ⟨u, hu, rv⟩ := r.get ha
    have hp : ps[i]? = some y := by
      rw [← S.pre, List.getElem?_take_of_lt (by omega)]; exact h1
    have ndP : ps.Nodup := by rw [← S.pre]; exact S.nd.sublist (List.take_sublist _ _)
    refine ⟨u, rv, ?_⟩
    rcases S.par y (List.mem_of_getElem? hp) with k | k
    · exact .inl ⟨k, bindL_get ndP hp hu k⟩
    · obtain ⟨c, e⟩ := cell_has (n := s.heap.objs.size + 1) k
      refine .inr ⟨.inl k, c, e, ?_⟩
      have q := x.cell y c e
      rw [bindC_get ndP hp hu (by show scope.names.lookup y ≠ _; rw [k]; decide)] at q
      exact q
  · exact e0.hok.fresh (Nat.le_of_lt (x.above y c (PySem.mem_of_lookup h)))
  · unfold start
    show _ = N.length
    rw [List.length_append, List.length_map, List.length_replicate]
    omega

/-- THE RULE: a def (or a method) of the text, by its body. The body's reading t is chosen for each entry; it is run at the parameters' values -/
theorem fn_of {CX : CXT} {P : Program} {w : World} {K : PySem.W.Frag} {mg : Str → Option Value} {base : Heap} {k : Nat} {f : Addr} {name qual : Str} {params : Arguments} {body : List Stmt} {scope : Scope} {dV kV doc pm cdv ct oc : Value} {an od : Option Addr}
    {osl : Array (Option Value)} {N ps : List Str} {sp : Sp} (lk : K.lookup f = some ⟨oc, od, .func (PySem.W.fnOf name qual params body scope dV kV doc pm an cdv ct), osl⟩) (hcd : PySem.W.codeIn K cdv qual = true) (S : FnScope N ps scope)
    (len : ∀ vs H Q E, sp vs H Q E → vs.length = ps.length)
    (hbody : ∀ (A : Around) (outer : List Env) (s : Shared) (H : Hp) (vs : List V) (Q : VK) (E : XK), Room k (A.deeper (envOfC qual scope s.heap.objs.size f cdv)) → sp vs H Q E →
      ∃ t, PSs (cxOf CX P w K mg base N qual scope f cdv A outer s H E) body t ∧ t { nx := fun _ H' => Q .non H', rt := Q } (start N vs) H) :
    FnOk P w K mg base CX (k + 1) f (PySem.W.fnOf name qual params body scope dV kV doc pm an cdv ct) ps sp := by
  refine ⟨len, fun A outer s H args us vs Q E hr e0 hb r hsp => ?_⟩
  have hl := len _ _ _ _ hsp
  have KX : K.In s.heap := e0.mod.kin.keeps fun b o e => (e0.bs b o e).1
  have lim : s.heap.NoLimit := e0.mod.nolimit.keeps fun b o e => (e0.bs b o e).1
  have hkind : ∀ y ∈ ps.zip us, scope.names.lookup y.1 = some .local ∨ (scope.names.lookup y.1 = some .cell ∧ ((cellsFrom (s.heap.objs.size + 1) scope.names []).lookup y.1).isSome = true) := fun ⟨n, v⟩ hy => by
    rcases S.par n (List.of_mem_zip hy).1 with q | q
    · exact .inl q
    · exact .inr ⟨q, PySem.W.cellsFrom_some _ _ _ (.inl q)⟩
  refine codeAny_call_function hr.depth (KX _ _ lk) rfl S.co S.gen rfl (PySem.W.codeRec_of KX hcd) (hb _ _ _ _ ?_)
  refine wpAny_newFunctionEnv_cells S.kind hkind fun env he s1 x => ?_
  subst he
  refine ⟨lim.keeps x.toInCall.keep, codeAny_func ?_⟩
  obtain ⟨t, ht, hq⟩ := hbody A outer s H vs Q E (hr.deeper _) hsp
  have I : Inv (cxOf CX P w K mg base N qual scope f cdv A outer s H E) [] (start N vs) H s1 := inv_start S hr.hd e0 hl r x
  refine wpAny_mono (ht [] s1 (start N vs) H _ I hq) (fun fl s' hs => ?_) fun e s' hs => hs
  have fin : ∀ {σ' : St} {H' : Hp} {v : V} {u : Value}, Inv (cxOf CX P w K mg base N qual scope f cdv A outer s H E) [] σ' H' s' → RelV v u → Q v H' → CE outer P w H s Q u s' :=
    fun {σ' H' v u} J rv q => ⟨v, H', J.os, J.bare, J.base, J.hok, rv, q⟩
  cases fl with
  | ret u =>
    obtain ⟨v, σ', H', J, rv, q⟩ := hs
    exact fin J rv q
  | next =>
    obtain ⟨σ', H', J, q⟩ := hs
    exact fin (v := V.non) (u := Value.none) J rfl q
  | brk =>
    obtain ⟨_, _, _, q⟩ := hs
    exact False.elim q
  | cont =>
    obtain ⟨_, _, _, q⟩ := hs
    exact False.elim q
end L2

namespace L2
open PySem PySem.Spec PyProof.Rows
section
variable {X : Cx} {x : Str} {p pos : Pos} {e : Expr} {es : List Expr} {t : TA} {id T : String} {r : List V → Hp → VK → Prop}

def tCB (r : List V → Hp → VK → Prop) (t : TA) : TE := fun σ H Q => t σ H fun vs H1 => r vs H1 Q
/-- f(e, ..), f a built-in function -/
theorem pe_callB (hc : CallR X (.builtin id) r) (hg : Gl X x) (hm : X.mg x = none) (hv : bootBuiltins x = some (.builtin id)) (ha : PA X (e :: es) t) (hn : x ≠ "__name__" := by decide) (hdb : (x == ("__debug__" : Str)) = false := by decide)
    (he : starEach (e :: es) X.env = (false, eval e X.env) :: starEach es X.env := by rfl) (hpl : (backTo pos (starEach es X.env)).any (·.1) = false := by rfl) : PE X (.Call (.Name x p) (e :: es) [] pos) (tCB r t) := by
  intro pins s σ H Q I h
  refine wpAny_Call_Name_kw (ld_blt I hg hm hv ?_ hn hdb)
  exact PyProof.Rows.callWith_builtin1 (thn (ha pos pins s σ H _ I h) fun us s1 ⟨vs, H1, I1, r1, q1⟩ => hc pins s1 σ H1 vs us Q I1 r1 q1) he hpl
/-- T(e, ..), T a built-in type -/
theorem pe_callTy (hc : CallR X (.type T) r) (hg : Gl X x) (hm : X.mg x = none) (hv : bootBuiltins x = some (.type T)) (ha : PA X (e :: es) t) (hn : x ≠ "__name__" := by decide) (hdb : (x == ("__debug__" : Str)) = false := by decide)
    (he : starEach (e :: es) X.env = (false, eval e X.env) :: starEach es X.env := by rfl) (hpl : (backTo pos (starEach es X.env)).any (·.1) = false := by rfl) : PE X (.Call (.Name x p) (e :: es) [] pos) (tCB r t) := by
  intro pins s σ H Q I h
  refine wpAny_Call_Name_kw (ld_blt I hg hm hv ?_ hn hdb)
  exact PyProof.Rows.callWith_type1 (thn (ha pos pins s σ H _ I h) fun us s1 ⟨vs, H1, I1, r1, q1⟩ => hc pins s1 σ H1 vs us Q I1 r1 q1) he hpl
/-- T() -/
theorem pe_callTy0 (hc : CallR X (.type T) r) (hg : Gl X x) (hm : X.mg x = none) (hv : bootBuiltins x = some (.type T)) (hn : x ≠ "__name__" := by decide) (hdb : (x == ("__debug__" : Str)) = false := by decide) :
    PE X (.Call (.Name x p) [] [] pos) (tCB r tNil) := by
  intro pins s σ H Q I h
  refine wpAny_Call_Name_kw (ld_blt I hg hm hv ?_ hn hdb)
  exact PyProof.Rows.callWith_type0 (hc pins s σ H [] [] Q I .nil h)
end
end L2

namespace HT
open PySem PyProof.Rows

/-- t < u of tuples of ints -/
def lexLt : List Int → List Int → Bool
  | [], [] => false
  | [], _ :: _ => true
  | _ :: _, [] => false
  | x :: xs, y :: ys => if x = y then lexLt xs ys else decide (x < y)
theorem lexLt_cons (x y : Int) (xs ys : List Int) : lexLt (x :: xs) (y :: ys) = if x = y then lexLt xs ys else decide (x < y) := rfl
theorem lexLt_nil_nil : lexLt [] [] = false := rfl
theorem lexLt_nil_cons (y : Int) (ys : List Int) : lexLt [] (y :: ys) = true := rfl
theorem lexLt_cons_nil (x : Int) (xs : List Int) : lexLt (x :: xs) [] = false := rfl

theorem eqAt_int (A : Around) (s : Shared) (a : Int) (t : Tok) (c : Int) (u : Tok) : ∃ e, SeqAt.EqAt A s (.int a t) (.int c u) e ∧ (e = true ↔ a = c) :=
  ⟨(a == c), SeqAt.EqAt.int_int a t c u, by simp⟩
theorem rcLt_int (A : Around) (s : Shared) (a : Int) (t : Tok) (c : Int) (u : Tok) (prog : Program) (w : World) (E : Value → Shared → Prop) (Q : Value → Shared → Prop) (h : Q (.bool (decide (a < c))) s) :
    wpAny (model prog w) A (richCompare .Lt (.int a t) (.int c u)) Q E s :=
  (PyProof.Rows.lt_int h : wpAny (model prog w) A (compareOp .Lt (.int a t) (.int c u)) Q E s)

section
open PySem.SeqAt
open PySem.AutoSeq1 (wpAny_loadPart')
open PySem.MeetsSeq PySem.MeetsSeq2 PySem.MeetsSeq3

theorem tuple_lt_ints (l b : Addr) (items items2 : Array Value) (n n2 : Nat) (dd dd2 : Option Addr) (sl sl2 : Array (Option Value)) (ns ms : List Int) (hi : IntsAre items.toList ns) (hj : IntsAre items2.toList ms) :
    Meets (Builtin.«tuple.__lt__» ⟨[.ref l, .ref b], []⟩)
      (fun _ R s => s.heap.get? l = some { cls := .type "tuple", dict := dd, data := .seq items n, slots := sl } ∧ s.heap.get? b = some { cls := .type "tuple", dict := dd2, data := .seq items2 n2, slots := sl2 } ∧
        R (.ok (.ret (.bool (lexLt ns ms)))) s) :=
  .of_wp fun prog w A R s h => by
    obtain ⟨hp, g, d, tk, os⟩ := s; obtain ⟨hl, hb, h⟩ := h
    have f2 := AutoSeq1.sub_tuple_tuple
    have z1 : items.size = ns.length := by rw [← hi.length]; simp
    have z2 : items2.size = ms.length := by rw [← hj.length]; simp
    wp_walk using wpAny_loadPart' hl, wpAny_loadPart' hb, wpAny_forIn_list _ (fun rest b s' => b.1 = none ∧ s' = ⟨hp, g, d, tk, os⟩ ∧ ∃ (vs ws : List Value) (ns' ms' : List Int), rest = vs.zip ws ∧
      IntsAre vs ns' ∧ IntsAre ws ms' ∧ ns'.length + items2.size = ms'.length + items.size ∧ R (.ok (.ret (.bool (lexLt ns' ms')))) ⟨hp, g, d, tk, os⟩) _
    case turn =>
      rintro ⟨y, x⟩ rest b s' ⟨hb', rfl, vs, ws, ns', ms', hz, hvi, hwi, hlen, hR⟩
      cases hvi with
      | nil => rw [List.zip_nil_left] at hz; cases hz
      | cons a t hvi' =>
        cases hwi with
        | nil => rw [List.zip_nil_right] at hz; cases hz
        | cons c u hwi' =>
          rw [List.zip_cons_cons] at hz
          injection hz with hyx hrest
          injection hyx with hy hx
          subst hy hx
          rw [lexLt_cons] at hR
          simp only [List.length_cons] at hlen
          obtain ⟨e, he, hiff⟩ := eqAt_int A.in1 ⟨hp, g, d, tk, os⟩ a t c u
          refine wpAny_bind (he prog w _ _ ?_)
          cases e with
          | true =>
            rw [if_pos (hiff.mp rfl)] at hR
            wp_walk
            exact ⟨rfl, rfl, _, _, _, _, hrest, hvi', hwi', by omega, hR⟩
          | false =>
            rw [if_neg (fun q => absurd (hiff.mpr q) Bool.false_ne_true)] at hR
            have hri := rcLt_int A.in1 ⟨hp, g, d, tk, os⟩ a t c u prog w
            wp_walk using hri
            exact ⟨_, rfl, by simpa using hR⟩
    case fin =>
      rintro ⟨b1, b2⟩ s' ⟨hb', rfl, vs, ws, ns', ms', hz, hvi, hwi, hlen, hR⟩
      simp only at hb'
      subst hb'
      have hv : lexLt ns' ms' = decide (items.size < items2.size) := by
        cases hvi with
        | nil =>
          cases hwi with
          | nil =>
            simp only [List.length_nil] at hlen
            rw [lexLt_nil_nil]
            exact (decide_eq_false (by omega)).symm
          | cons c u hw =>
            simp only [List.length_nil, List.length_cons] at hlen
            rw [lexLt_nil_cons]
            exact (decide_eq_true (by omega)).symm
        | cons a t hv =>
          cases hwi with
          | nil =>
            simp only [List.length_nil, List.length_cons] at hlen
            rw [lexLt_cons_nil]
            exact (decide_eq_false (by omega)).symm
          | cons c u hw =>
            rw [List.zip_cons_cons] at hz
            cases hz
      rw [hv] at hR
      wp_walk
      exact ⟨_, rfl, by simpa [Builtin.Tuple.tupleCompareSizes] using hR⟩
    case h =>
      exact ⟨rfl, rfl, items.toList, items2.toList, ns, ms, rfl, hi, hj, by omega, h⟩
end

section
variable {prog : Program} {w : World} {A : Around} {E : Value → Shared → Prop} {s : Shared}

theorem lt_tupInts {l b : Addr} {items items2 : Array Value} {ns ms : List Int} {Q : Value → Shared → Prop} (hl : IsTup s.heap l items) (hb : IsTup s.heap b items2) (hi : IntsAre items.toList ns) (hj : IntsAre items2.toList ms)
    (hu : A.units < cLine) (h : Q (.bool (lexLt ns ms)) s) : wpAny (model prog w) A (compareOp .Lt (.ref l) (.ref b)) Q E s := by
  obtain ⟨⟨cls, dd, data, sl⟩, ho, hc, n, hd⟩ := id hl
  obtain ⟨⟨cls2, dd2, data2, sl2⟩, ho2, hc2, n2, hd2⟩ := id hb
  simp only at hc hd hc2 hd2
  subst hc hd hc2 hd2
  exact richCompare_meets_room (op := .Lt) ⟨_, ho, rfl⟩ ⟨_, ho2, rfl⟩ PySem.F.slot_tuple_lt PySem.F.entry_tuple_lt (PySem.F.args_tuple_lt_2 _ _) (tuple_lt_ints l b items items2 n n2 dd dd2 sl sl2 ns ms hi hj)
    ⟨ho, ho2, show Value.bool (lexLt ns ms) ≠ Value.notImplemented ∧ Q (.bool (lexLt ns ms)) s from ⟨(fun x => nomatch x), h⟩⟩ hu

/-- t + u, t not empty -/
theorem cat_tup {t b : Addr} {vs ws : List Value} {Q : Value → Shared → Prop} (ht : IsTup s.heap t vs.toArray) (hb : IsTup s.heap b ws.toArray) (hv : vs ≠ [])
    (h1 : ws = [] → Q (.ref t) s) (h2 : ws ≠ [] → Q (.ref s.heap.objs.size) { s with heap := s.heap.push { cls := .type "tuple", data := .seq (vs ++ ws).toArray } })
    (hsz : vs.length + ws.length ≤ sizeLine) : wpAny (model prog w) A (binaryOp .Add (.ref t) (.ref b)) Q E s := by
  obtain ⟨⟨cls, dd, data, sl⟩, ho, hc, n, hd⟩ := id ht
  obtain ⟨⟨cls2, dd2, data2, sl2⟩, ho2, hc2, n2, hd2⟩ := id hb
  simp only at hc hd hc2 hd2
  subst hc hd hc2 hd2
  have e : vs.toArray ++ ws.toArray = (vs ++ ws).toArray := by simp
  by_cases hw : ws = []
  · exact concat_meets ⟨_, ho, rfl⟩ ⟨_, ho2, rfl⟩ noFill_tuple_add seq_tuple_add PySem.F.slot_tuple_add PySem.F.entry_tuple_add (PySem.F.args_tuple_add_2 _ _)
      (tuple_addW1 t b vs.toArray ws.toArray n n2 dd dd2 sl sl2 (by simpa using hv) (by simp [hw])) ⟨ho, ho2, h1 hw⟩
  · refine concat_meets ⟨_, ho, rfl⟩ ⟨_, ho2, rfl⟩ noFill_tuple_add seq_tuple_add PySem.F.slot_tuple_add PySem.F.entry_tuple_add (PySem.F.args_tuple_add_2 _ _)
      (tuple_addW2 t b vs.toArray ws.toArray n n2 dd dd2 sl sl2 (by simpa using hv) (by simpa using hw) (by rw [List.size_toArray, List.size_toArray]; exact hsz)) ⟨ho, ho2, ?_⟩
    rw [e]
    exact h2 hw

/-! ### t[a:b], not the whole -/
/-- a slice's bound as a place among n (d where it is left out) -/
def sIx (n d : Nat) : Option Int → Nat
  | none => d
  | some v => if v < 0 then (v + (n : Int)).toNat else min v.toNat n
theorem sIx_none (n d : Nat) : sIx n d none = d := rfl
theorem sIx_nat (n d k : Nat) : sIx n d (some (k : Int)) = min k n := by
  show (if (k : Int) < 0 then ((k : Int) + (n : Int)).toNat else min (k : Int).toNat n) = min k n
  rw [if_neg (by omega), Int.toNat_natCast]
theorem sIx_le (n d : Nat) (hd : d ≤ n) (o : Option Int) : sIx n d o ≤ n := by
  cases o with
  | none => exact hd
  | some v =>
    show (if v < 0 then (v + (n : Int)).toNat else min v.toNat n) ≤ n
    by_cases hv : v < 0
    · rw [if_pos hv]; omega
    · rw [if_neg hv]; exact Nat.min_le_right _ _
theorem clip_eq (v : Int) (n d : Nat) : (if v < 0 then max (v + (n : Int)) 0 else min v (n : Int)) = ((sIx n d (some v) : Nat) : Int) := by
  show (if v < 0 then max (v + (n : Int)) 0 else min v (n : Int)) = (((if v < 0 then (v + (n : Int)).toNat else min v.toNat n) : Nat) : Int)
  by_cases hv : v < 0
  · simp only [if_pos hv]; omega
  · simp only [if_neg hv]; omega
theorem adjust_gen (lo hi : Option Int) (n : Nat) : Builtin.Slice.sliceAdjust lo hi 1 (n : Int) = (((sIx n 0 lo : Nat) : Int), ((sIx n n hi : Nat) : Int)) := by
  have h1 : ¬ ((1 : Int) < 0) := by omega
  unfold Builtin.Slice.sliceAdjust
  simp only [h1, if_false]
  refine Prod.ext ?_ ?_
  · cases lo with
    | none => rfl
    | some v => exact clip_eq v n 0
  · cases hi with
    | none => rfl
    | some v => exact clip_eq v n n
theorem places_gen (i j : Nat) : Builtin.Slice.slicePlaces (i : Int) (j : Int) 1 = j - i := by
  unfold Builtin.Slice.slicePlaces
  have h1 : (1 : Int) > 0 := by omega
  simp only [h1, if_true, Int.ediv_one]
  split <;> omega
theorem slicePart_ {v : Value} {o : Option Int} {Q : Option Int → Shared → Prop} (p : IsPart v o) (h : Q o s) : wpAny (model prog w) A (Builtin.Slice.slicePartIndex v) Q E s := by
  cases p with
  | none => exact slicePart_none h
  | int i t => exact slicePart_int h
theorem sliceApplied_gen {sl : Addr} {vl vu : Value} {lo hi : Option Int} {n : Nat} {Q : Int × Int × Nat → Shared → Prop} (hs : s.heap.IsSliceOf sl vl vu .none) (pl : IsPart vl lo) (pu : IsPart vu hi)
    (h : Q (((sIx n 0 lo : Nat) : Int), 1, sIx n n hi - sIx n 0 lo) s) : wpAny (model prog w) A (Builtin.Slice.sliceApplied (.ref sl) (pure (n : Int))) Q E s := by
  obtain ⟨os, hos, hcs, hds⟩ := id hs
  unfold Builtin.Slice.sliceApplied Builtin.Slice.sliceFields
  refine wpAny_bind (wpAny_bind (wpAny_field hos hds (x := vl) rfl (wpAny_bind (wpAny_field hos hds (x := vu) rfl (wpAny_bind (wpAny_field hos hds (x := .none) rfl (wpAny_pure ?_)))))))
  refine wpAny_bind (slicePart_none ?_)
  show wpAny _ _ (if ((1 : Int) == 0) = true then _ else _) _ _ s
  rw [if_neg (by decide)]
  refine wpAny_bind (slicePart_ pl (wpAny_bind (slicePart_ pu (wpAny_bind (wpAny_pure ?_)))))
  show wpAny _ _ (match Builtin.Slice.sliceAdjust lo hi 1 (n : Int) with | (lo, hi) => pure (lo, (1 : Int), Builtin.Slice.slicePlaces lo hi 1)) _ _ s
  rw [adjust_gen lo hi n]
  show wpAny _ _ (pure (((sIx n 0 lo : Nat) : Int), (1 : Int), Builtin.Slice.slicePlaces ((sIx n 0 lo : Nat) : Int) ((sIx n n hi : Nat) : Int) 1)) _ _ s
  rw [places_gen]
  exact wpAny_pure h
theorem pick_gen (xs : Array Value) (i k : Nat) : ((List.range k).filterMap fun (m : Nat) => xs[((i : Int) + (m : Int) * 1).toNat]?).toArray = ((xs.toList.drop i).take k).toArray := by
  have e : (fun (m : Nat) => xs[((i : Int) + (m : Int) * 1).toNat]?) = fun m => xs[i + m]? := by
    funext m
    have : ((i : Int) + (m : Int) * 1).toNat = i + m := by omega
    rw [this]
  rw [e]
  have := pick_run xs i k
  rw [List.filterMap_map] at this
  have e2 : ((fun x => xs[x]?) ∘ fun x => i + x) = fun m => xs[i + m]? := rfl
  rw [e2] at this
  rw [this]

theorem getItem_tuple_cut {t sl : Addr} {items : Array Value} {vl vu : Value} {lo hi : Option Int} {Q : Value → Shared → Prop} (ht : IsTup s.heap t items) (hs : s.heap.IsSliceOf sl vl vu .none) (pl : IsPart vl lo) (pu : IsPart vu hi)
    (hw : ¬ (sIx items.size 0 lo = 0 ∧ sIx items.size items.size hi = items.size))
    (h : Q (.ref s.heap.objs.size) { s with heap := s.heap.push { cls := .type "tuple", data := .seq ((items.toList.drop (sIx items.size 0 lo)).take (sIx items.size items.size hi - sIx items.size 0 lo)).toArray } })
    (hsz : items.size ≤ sizeLine) : wpAny (model prog w) A (getItem (.ref t) (.ref sl)) Q E s := by
  have htake : sizeOk (.seq ((items.toList.drop (sIx items.size 0 lo)).take (sIx items.size items.size hi - sIx items.size 0 lo)).toArray) := by
    show ((items.toList.drop (sIx items.size 0 lo)).take (sIx items.size items.size hi - sIx items.size 0 lo)).toArray.size ≤ sizeLine
    rw [List.size_toArray, List.length_take, List.length_drop, Array.length_toList]
    omega
  have hj : sIx items.size items.size hi ≤ items.size := sIx_le _ _ (Nat.le_refl _) hi
  obtain ⟨os, hos, hcs, hds⟩ := id hs
  have hTs : s.TypeIs (.ref sl) "slice" := ⟨os, hos, hcs⟩
  unfold getItem
  try with_reducible refine wpAny_holding ?_
  first | refine wpAny_bind (wpAny_pure ?_) | skip
  refine wpAny_bind (wpAny_sequenceKey ht.typeIs (by decide) ?_)
  refine wpAny_bind (wpAny_callSpecial?_slot (name := Str.ofString "__getitem__") ht.typeIs PyProof.Rows.slot_tuple_getitem
    (wpAny_call_entry PyProof.Rows.slot_tuple_getitem ht.typeIs entry_tuple_getitem ?_ (args_tuple_getitem _ _)))
  show wpAny _ _ (Builtin.Tuple.tupleItemsOf (.ref t) >>= _) _ _ s
  refine wpAny_bind (tupleItemsOf_ ht ?_)
  refine wpAny_bind (wpAny_typeOf hTs ?_)
  rw [if_pos (by decide)]
  refine wpAny_bind (sliceApplied_gen hs pl pu ?_)
  have hno : ¬ ((((sIx items.size 0 lo : Nat) : Int) == 0 && (1 : Int) == 1 && (sIx items.size items.size hi - sIx items.size 0 lo) == items.size) = true) := by
    intro q
    rw [Bool.and_eq_true, Bool.and_eq_true] at q
    have q1 : ((sIx items.size 0 lo : Nat) : Int) = 0 := eq_of_beq q.1.1
    have q2 : sIx items.size items.size hi - sIx items.size 0 lo = items.size := eq_of_beq q.2
    exact hw ⟨by omega, by omega⟩
  show wpAny _ _ (if (((sIx items.size 0 lo : Nat) : Int) == 0 && (1 : Int) == 1 && (sIx items.size items.size hi - sIx items.size 0 lo) == items.size) = true then _ else _) _ _ s
  rw [if_neg hno, pick_gen]
  first
    | exact wpAny_bind (m := Builtin.Tuple.tupleExact _) (wpAny_newObj_type (wpAny_pure ⟨_, rfl, wpAny_pure h⟩) htake)
    | exact wpAny_bind (m := Builtin.Tuple.tupleExact _) (wpAny_newObj_type (wpAny_bind (wpAny_pure (wpAny_pure ⟨_, rfl, wpAny_pure h⟩))) htake)
    | exact wpAny_bind (wpAny_bind (m := Builtin.Tuple.tupleExact _) (wpAny_newObj_type (wpAny_pure (wpAny_pure ⟨_, rfl, wpAny_pure h⟩)) htake))
    | exact wpAny_bind (wpAny_bind (m := Builtin.Tuple.tupleExact _) (wpAny_newObj_type (wpAny_pure ⟨_, rfl, wpAny_pure h⟩) htake))
end
end HT

namespace L2
open PySem PySem.Spec PyProof.Rows

/-! ### the parts of a slice -/
abbrev TO := St → Hp → (Option Int → Hp → Prop) → Prop
/-- a slice's part (left out, or an int) -/
def PO (X : Cx) (e : Option Expr) (t : TO) : Prop :=
  ∀ (pins : List (Addr × Obj)) (s : Shared) (σ : St) (H : Hp) (Q : Option Int → Hp → Prop), Inv X pins σ H s → t σ H Q →
    wpAny (model X.prog X.w) X.A (evalPart e X.env) (fun u s' => ∃ o H', Inv X pins σ H' s' ∧ IsPart u o ∧ Q o H') X.xe s
def tNoPart : TO := fun _ H Q => Q none H
def tPart (t : TE) : TO := fun σ H Q => t σ H fun x H1 => ∃ i, x = .int i ∧ Q (some i) H1

theorem intsAre_of {ns : List Int} : ∀ {us : List Value}, Vals (ns.map V.int) us → IntsAre us ns := by
  induction ns with
  | nil => intro us r; rw [List.map_nil] at r; cases r; exact .nil
  | cons n ns ih =>
    intro us r
    rw [List.map_cons] at r
    cases r with
    | cons r1 r2 =>
      obtain ⟨t, e⟩ := r1
      subst e
      exact .cons n t (ih r2)

section
variable {X : Cx} {e : Expr} {te : TE} {lo hi : Option Expr} {tl th : TO} {pos p2 : Pos}

theorem po_none : PO X none tNoPart := by
  intro pins s σ H Q I h
  rw [evalPart_none]
  exact wpAny_pure ⟨none, H, I, .none, h⟩
theorem po_some (h : PE X e te) : PO X (some e) (tPart te) := by
  intro pins s σ H Q I hw
  rw [evalPart_some]
  refine thn (h pins s σ H _ I hw) fun u s1 ⟨x, H1, I1, r1, q1⟩ => ?_
  obtain ⟨i, rfl, q⟩ := q1
  obtain ⟨t, rfl⟩ := r1
  exact ⟨some i, H1, I1, .int i t, q⟩

/-- what a slice of a value is, by values: the slice object stands at sl -/
def SlR (X : Cx) (r : V → Option Int → Option Int → Hp → VK → Prop) : Prop :=
  ∀ (pins : List (Addr × Obj)) (s : Shared) (σ : St) (H : Hp) (x : V) (v vl vu : Value) (lo hi : Option Int) (sl : Addr) (Q : VK), Inv X pins σ H s → RelV x v → s.heap.IsSliceOf sl vl vu .none → IsPart vl lo → IsPart vu hi → r x lo hi H Q →
    ∃ T id, typeLookup (.type T) "__getitem__" = pure (some (.builtin id)) ∧ s.TypeIs v T ∧ wpAny (model X.prog X.w) X.A (getItem v (.ref sl)) (EP X pins σ Q) X.xe s
theorem SlR.or {r r' : V → Option Int → Option Int → Hp → VK → Prop} (h : SlR X r) (h' : SlR X r') : SlR X (fun x lo hi H Q => r x lo hi H Q ∨ r' x lo hi H Q) := by
  intro pins s σ H x v vl vu lo hi sl Q I rx hs pl pu q
  rcases q with q | q
  · exact h pins s σ H x v vl vu lo hi sl Q I rx hs pl pu q
  · exact h' pins s σ H x v vl vu lo hi sl Q I rx hs pl pu q
def tSl (r : V → Option Int → Option Int → Hp → VK → Prop) (te : TE) (tl th : TO) : TE := fun σ H Q => te σ H fun x H1 => tl σ H1 fun l H2 => th σ H2 fun u H3 => r x l u H3 Q
/-- a[lo:hi], any a -/
theorem pe_slice {r : V → Option Int → Option Int → Hp → VK → Prop} (hr : SlR X r) (he : PE X e te) (hl : PO X lo tl) (hu : PO X hi th) : PE X (.Subscript e (.Slice lo hi none p2) pos) (tSl r te tl th) := by
  intro pins s σ H Q I h
  refine Subscript_ (thn (he pins s σ H _ I h) fun v s1 ⟨x, H1, I1, r1, q1⟩ => ?_)
  refine wpAny_Slice (thn (hl pins s1 σ H1 _ I1 q1) fun vl s2 ⟨l, H2, I2, pl, q2⟩ => thn (hu pins s2 σ H2 _ I2 q2) fun vu s3 ⟨u, H3, I3, pu, q3⟩ => ?_)
  rw [evalPart_none]
  refine wpAny_pure ?_
  have I4 : Inv X pins σ H3 { s3 with heap := s3.heap.push { cls := .type "slice", data := .fields #[vl, vu, .none] } } := I3.kept (t' := s3.toks) fun b ob q => Heap.get?_push_of_some _ q
  obtain ⟨T, id, hT, ht, hg⟩ := hr pins { s3 with heap := s3.heap.push { cls := .type "slice", data := .fields #[vl, vu, .none] } } σ H3 x v vl vu l u s3.heap.objs.size Q I4 r1 (Heap.IsSliceOf.new ..) pl pu q3
  show wpAny (model X.prog X.w) X.A (subscriptTail e (.Slice lo hi none p2) v (.ref s3.heap.objs.size)) (EP X pins σ Q) X.xe { s3 with heap := s3.heap.push { cls := .type "slice", data := .fields #[vl, vu, .none] } }
  exact tail_any (ops := [.ref s3.heap.objs.size, v]) ht hT hg (by with_unfolding_all rfl)

/-- the items of xs[lo:hi] -/
def cutV (xs : List V) (lo hi : Option Int) : List V := (xs.drop (HT.sIx xs.length 0 lo)).take (HT.sIx xs.length xs.length hi - HT.sIx xs.length 0 lo)
theorem cutV_length (xs : List V) (lo hi : Option Int) : (cutV xs lo hi).length ≤ xs.length := by
  unfold cutV
  rw [List.length_take, List.length_drop]
  omega
/-- t[lo:hi], not the whole of it (the whole would be t itself) -/
def rSlT (K : PySem.W.Frag) : V → Option Int → Option Int → Hp → VK → Prop := fun x lo hi H Q => ∃ a xs, x = .ref a ∧ SqT K H a xs ∧
  ¬ (HT.sIx xs.length 0 lo = 0 ∧ HT.sIx xs.length xs.length hi = xs.length) ∧ ∀ p, H p = none → Q (.ref p) (upd H p (.tup (cutV xs lo hi)))
theorem sl_tup : SlR X (rSlT X.K) := by
  intro pins s σ H x v vl vu lo hi sl Q I rx hs pl pu h
  obtain ⟨a, xs, rfl, hx, hw, q⟩ := h
  cases rx
  obtain ⟨its, r, ht, hz⟩ := I.tuple hx
  have hlen : its.toArray.size = xs.length := by rw [List.size_toArray]; exact r.length.symm
  refine ⟨"tuple", _, PyProof.Rows.slot_tuple_getitem.lookup, ht.typeIs, ?_⟩
  refine HT.getItem_tuple_cut ht hs pl pu (by rw [hlen]; exact hw) ?_ (by rw [hlen]; exact hz)
  rw [hlen]
  refine ⟨.ref s.heap.objs.size, _, I.laid (t' := s.toks) (o := .tup (cutV xs lo hi)) (fun b ob q => Heap.get?_push_of_some _ q) (Nat.le_refl _) ?_, rfl, q _ (I.hok.fresh (Nat.le_refl _))⟩
  exact ⟨Nat.le_trans (cutV_length xs lo hi) hz, _, (r.drop (HT.sIx xs.length 0 lo)).take (HT.sIx xs.length xs.length hi - HT.sIx xs.length 0 lo), IsTup.new _ _⟩

/-! ### t < u, t + u -/
def rLtT (K : PySem.W.Frag) : R2 := fun x y H Q => ∃ a b ns ms, x = .ref a ∧ y = .ref b ∧ SqT K H a (ns.map V.int) ∧ SqT K H b (ms.map V.int) ∧ Q (.bl (HT.lexLt ns ms)) H
theorem op_ltT (hu : X.A.units < cLine) : OpR X (compareOp .Lt) (rLtT X.K) := by
  intro pins s σ H x y v u Q I rx ry h
  obtain ⟨a, b, ns, ms, rfl, rfl, ha, hb, q⟩ := h
  cases rx
  cases ry
  obtain ⟨its, r1, p1, _⟩ := I.tuple ha
  obtain ⟨its2, r2, p2, _⟩ := I.tuple hb
  have i1 : IntsAre its.toArray.toList ns := intsAre_of r1
  have i2 : IntsAre its2.toArray.toList ms := intsAre_of r2
  exact HT.lt_tupInts p1 p2 i1 i2 hu ⟨.bl (HT.lexLt ns ms), H, I, rfl, q⟩
/-- t + u, t not empty: u empty gives t itself -/
def rCatT (K : PySem.W.Frag) : R2 := fun x y H Q => ∃ a b xs ys, x = .ref a ∧ y = .ref b ∧ SqT K H a xs ∧ SqT K H b ys ∧ xs ≠ [] ∧ xs.length + ys.length ≤ sizeLine ∧
  (ys = [] → Q (.ref a) H) ∧ (ys ≠ [] → ∀ p, H p = none → Q (.ref p) (upd H p (.tup (xs ++ ys))))
theorem Vals.nil_iff {xs : List V} {us : List Value} (r : Vals xs us) : us = [] ↔ xs = [] := by
  cases r with
  | nil => simp
  | cons _ _ => simp
theorem op_catT : OpR X (binaryOp .Add) (rCatT X.K) := by
  intro pins s σ H x y v u Q I rx ry h
  obtain ⟨a, b, xs, ys, rfl, rfl, ha, hb, hx, hz, q1, q2⟩ := h
  cases rx
  cases ry
  obtain ⟨its, r1, p1, _⟩ := I.tuple ha
  obtain ⟨its2, r2, p2, _⟩ := I.tuple hb
  refine HT.cat_tup p1 p2 (fun z => hx (r1.nil_iff.mp z)) (fun z => ⟨.ref a, H, I, rfl, q1 (r2.nil_iff.mp z)⟩) (fun z => ?_) (by rw [← r1.length, ← r2.length]; exact hz)
  refine ⟨.ref s.heap.objs.size, _, I.laid (t' := s.toks) (o := .tup (xs ++ ys)) (fun b ob q => Heap.get?_push_of_some _ q) (Nat.le_refl _) ?_, rfl, q2 (fun w => z (r2.nil_iff.mpr w)) _ (I.hok.fresh (Nat.le_refl _))⟩
  exact ⟨by rw [List.length_append]; exact hz, _, r1.append r2, IsTup.new _ _⟩
/-- tuple(t) -/
theorem call_tupleT : CallR X (.type "tuple") (fun xs H Q => ∃ a ys, xs = [.ref a] ∧ SqT X.K H a ys ∧ Q (.ref a) H) := by
  intro pins s σ H xs us Q I r h
  obtain ⟨a, ys, rfl, ha, q⟩ := h
  obtain ⟨u, rfl, ru⟩ := vals1 r
  cases ru
  obtain ⟨its, _, p1, _⟩ := I.tuple ha
  exact call_tuple_same (items := its.toArray) p1 ⟨.ref a, H, I, rfl, q⟩
end
end L2

namespace L2
open PySem PySem.Spec PyProof.Rows

/-! ### places -/
/-- the place that an index of any sign means -/
def ixN (n : Nat) (i : Int) : Option Nat := if 0 ≤ i then (if i < n then some i.toNat else none) else if -(n : Int) ≤ i then some (i + n).toNat else none
def atI {α : Type} (xs : List α) (i : Int) : Option α := (ixN xs.length i).bind fun j => xs[j]?
theorem ixN_seq {n : Nat} {i : Int} {j : Nat} (h : ixN n i = some j) : seqIndex? i n = some j ∧ j < n ∧ -(n : Int) ≤ i ∧ i < n := by
  unfold ixN at h
  by_cases h0 : 0 ≤ i
  · rw [if_pos h0] at h
    by_cases h1 : i < n
    · rw [if_pos h1] at h
      have e : i.toNat = j := Option.some.inj h
      exact ⟨by rw [seqIndex_of h0 h1, e], by omega, by omega, h1⟩
    · rw [if_neg h1] at h; cases h
  · rw [if_neg h0] at h
    by_cases h1 : -(n : Int) ≤ i
    · rw [if_pos h1] at h
      have e : (i + n).toNat = j := Option.some.inj h
      exact ⟨by rw [seqIndex_neg (by omega) h1, e], by omega, h1, by omega⟩
    · rw [if_neg h1] at h; cases h
theorem atI_get {α : Type} {xs : List α} {i : Int} {v : α} (h : atI xs i = some v) : ∃ j, seqIndex? i xs.length = some j ∧ xs[j]? = some v ∧ j < xs.length ∧ -(xs.length : Int) ≤ i ∧ i < xs.length := by
  unfold atI at h
  cases e : ixN xs.length i with
  | none => rw [e] at h; cases h
  | some j =>
    rw [e] at h
    obtain ⟨h1, h2, h3, h4⟩ := ixN_seq e
    exact ⟨j, h1, h, h2, h3, h4⟩
theorem atI_nat {α : Type} {xs : List α} {j : Nat} {v : α} (h : xs[j]? = some v) : atI xs (j : Int) = some v := by
  have hj : j < xs.length := (List.getElem?_eq_some_iff.mp h).1
  have e : ixN xs.length (j : Int) = some j := by
    unfold ixN
    rw [if_pos (by omega), if_pos (by omega)]; simp
  unfold atI; rw [e]; exact h
theorem atI_last {α : Type} (xs : List α) (v : α) : atI (xs ++ [v]) (-1) = some v := by
  have hl : (xs ++ [v]).length = xs.length + 1 := by simp
  have e : ixN (xs ++ [v]).length (-1) = some xs.length := by
    unfold ixN
    rw [hl, if_neg (by decide), if_pos (by omega)]
    congr 1
    omega
  unfold atI
  rw [e]
  show (xs ++ [v])[xs.length]? = some v
  simp

/-! ### what may be subscripted -/
/-- what stands as an index of a plain subscript -/
def PlainIx (b : Expr) : Prop := ∀ o i, subscripted b false o i = operate [o, i] (getItem o i)
/-- a subscript by values -/
def IxR (X : Cx) (r : R2) : Prop :=
  ∀ (value slice : Expr) (pins : List (Addr × Obj)) (s : Shared) (σ : St) (H : Hp) (x y : V) (v u : Value) (Q : VK), Inv X pins σ H s → RelV x v → RelV y u → r x y H Q →
    subscripted slice false v u = operate [v, u] (getItem v u) → wpAny (model X.prog X.w) X.A (subscriptTail value slice v u) (EP X pins σ Q) X.xe s
/-- a call of a builtin's method by values: the receiver, the arguments -/
def MtR (X : Cx) (id : String) (r : V → List V → Hp → VK → Prop) : Prop :=
  ∀ (pins : List (Addr × Obj)) (s : Shared) (σ : St) (H : Hp) (x : V) (xs : List V) (v : Value) (us : List Value) (Q : VK), Inv X pins σ H s → RelV x v → Vals xs us → r x xs H Q →
    wpAny (model X.prog X.w) X.A (call (.builtin id) (v :: us)) (EP X pins σ Q) X.xe s
section
variable {X : Cx} {a b : Expr} {ta tb : TE} {pos : Pos}
theorem IxR.or {r r' : R2} (h : IxR X r) (h' : IxR X r') : IxR X (fun x y H Q => r x y H Q ∨ r' x y H Q) := by
  intro value slice pins s σ H x y v u Q I rx ry q hs
  rcases q with q | q
  · exact h value slice pins s σ H x y v u Q I rx ry q hs
  · exact h' value slice pins s σ H x y v u Q I rx ry q hs
theorem MtR.or {id : String} {r r' : V → List V → Hp → VK → Prop} (h : MtR X id r) (h' : MtR X id r') : MtR X id (fun x xs H Q => r x xs H Q ∨ r' x xs H Q) := by
  intro pins s σ H x xs v us Q I rx rs q
  rcases q with q | q
  · exact h pins s σ H x xs v us Q I rx rs q
  · exact h' pins s σ H x xs v us Q I rx rs q
/-- a[b] -/
theorem pe_ix {r : R2} (hr : IxR X r) (ha : PE X a ta) (hb : PE X b tb) (hs : PlainIx b) : PE X (.Subscript a b pos) (tOp r ta tb) := by
  intro pins s σ H Q I h
  exact Subscript_ (binT ha hb I h fun v u s2 x y H2 I2 rx ry q => hr a b pins s2 σ H2 x y v u Q I2 rx ry q (hs _ _))

def rIxL (K : PySem.W.Frag) : R2 := fun x y H Q => ∃ p xs i v, x = .ref p ∧ y = .int i ∧ SqL K H p xs ∧ atI xs i = some v ∧ Q v H
def rIxT (K : PySem.W.Frag) : R2 := fun x y H Q => ∃ p xs i v, x = .ref p ∧ y = .int i ∧ SqT K H p xs ∧ atI xs i = some v ∧ Q v H
def rIxS : R2 := fun x y H Q => ∃ z i c, x = .str z ∧ y = .int i ∧ z.length ≤ sizeLine ∧ atI z.cps.toList i = some c ∧ Q (.str ⟨#[c]⟩) H
theorem ix_list : IxR X (rIxL X.K) := by
  intro value slice pins s σ H x y v u Q I rx ry h hs
  obtain ⟨p, xs, i, z, rfl, rfl, hq, he, q⟩ := h
  cases rx
  obtain ⟨t, rfl⟩ := ry
  obtain ⟨its, r, pl, hz⟩ := I.list hq
  obtain ⟨j, h1, h2, h3, h4, h5⟩ := atI_get he
  obtain ⟨w, ew, rw'⟩ := r.get h2
  have hl := r.length
  have hn := line63
  have fin : EP X pins σ Q w s := ⟨z, H, I, rw', q⟩
  by_cases h0 : 0 ≤ i
  · have hj : i.toNat = j := by
      rw [seqIndex_of h0 h5] at h1
      exact Option.some.inj h1
    exact item_listR pl.isList h0 (by omega) (by rw [hj]; simpa using ew) fin hs
  · have hj : (i + (its.toArray.size : Int)).toNat = j := by
      rw [seqIndex_neg (by omega) h4] at h1
      rw [List.size_toArray, ← hl]
      exact Option.some.inj h1
    exact subscriptTail_builtinR (x := w) pl.isList.typeIs slot_list_getitem.lookup
      (wpAny_getItem_list_neg (Q := fun r s' => r = w ∧ EP X pins σ Q r s') pl.isList (by omega) (by rw [List.size_toArray] <;> omega) (by omega) (by rw [hj]; simpa using ew) ⟨rfl, fin⟩) hs
theorem ix_tup : IxR X (rIxT X.K) := by
  intro value slice pins s σ H x y v u Q I rx ry h hs
  obtain ⟨p, xs, i, z, rfl, rfl, hq, he, q⟩ := h
  cases rx
  obtain ⟨t, rfl⟩ := ry
  obtain ⟨its, r, pl, hz⟩ := I.tuple hq
  obtain ⟨j, h1, h2, h3, h4, h5⟩ := atI_get he
  obtain ⟨w, ew, rw'⟩ := r.get h2
  have hl := r.length
  have hn := line63
  have fin : EP X pins σ Q w s := ⟨z, H, I, rw', q⟩
  exact subscriptTail_builtinR (x := w) pl.typeIs slot_tuple_getitem.lookup
    (getItem_tuple (j := j) (Q := fun r s' => r = w ∧ EP X pins σ Q r s') pl (by omega) (by omega) (by rw [List.size_toArray, ← hl]; exact h1) (by simpa using ew) ⟨rfl, fin⟩) hs
theorem ix_str : IxR X rIxS := by
  intro value slice pins s σ H x y v u Q I rx ry h hs
  obtain ⟨z, i, c, rfl, rfl, hz, he, q⟩ := h
  obtain ⟨t, rfl⟩ := rx
  obtain ⟨t', rfl⟩ := ry
  obtain ⟨j, h1, h2, h3, h4, h5⟩ := atI_get he
  have hl : z.cps.toList.length = z.length := by simp [Str.length]
  rw [hl] at h1 h4 h5
  have hn := line63
  exact tail_any (typeIs_str s z t) slot_str_getitem.lookup (getItem_str (c := c) (by
    have e1 : decide (i < -(2 ^ 63 : Int)) = false := decide_eq_false (by omega)
    have e2 : decide (i ≥ 2 ^ 63) = false := decide_eq_false (by omega)
    rw [e1, e2, Bool.or_false]) (by rw [h1]; simpa using h2) ⟨.str ⟨#[c]⟩, H, I.tok _, ⟨_, rfl⟩, q⟩) hs
/-- list, tuple or str -/
def rIx (K : PySem.W.Frag) : R2 := fun x y H Q => rIxL K x y H Q ∨ rIxT K x y H Q ∨ rIxS x y H Q
theorem ix_seq : IxR X (rIx X.K) := ix_list.or (ix_tup.or ix_str)

/-! ### xs[i] = v, any sign -/
/-- the list's object behind a store -/
theorem mapSeq_set (its : List Value) (n j : Nat) (u : Value) : Obj.mapSeq (·.setIfInBounds j u) { cls := .type "list", data := .seq its.toArray n } = { cls := .type "list", data := .seq (its.set j u).toArray n } := by
  simp [Obj.mapSeq]
theorem Inv.lst {pins : List (Addr × Obj)} {σ : St} {H : Hp} {s : Shared} {p : Addr} {xs : List V} (I : Inv X pins σ H s) (h : H p = some (.lst xs)) :
    ∃ (its : List Value) (n : Nat), Vals xs its ∧ s.heap.get? p = some { cls := .type "list", data := .seq its.toArray n } ∧ xs.length ≤ sizeLine := by
  obtain ⟨z, its, n, r, e⟩ := I.hok p _ h
  exact ⟨its, n, r, e, z⟩
/-- the list at p is written by an update of its object -/
theorem Inv.lstUpd {pins : List (Addr × Obj)} {σ : St} {H : Hp} {s : Shared} {p : Addr} {xs ys : List V} {its its' : List Value} {n n' : Nat} {f : Obj → Obj} (I : Inv X pins σ H s) (h : H p = some (.lst xs))
    (ho : s.heap.get? p = some { cls := .type "list", data := .seq its.toArray n }) (hf : f { cls := .type "list", data := .seq its.toArray n } = { cls := .type "list", data := .seq its'.toArray n' }) (r : Vals ys its') (hz : ys.length ≤ sizeLine) (t : Nat) :
    Inv X pins σ (upd H p (.lst ys)) { s with heap := s.heap.update p f, toks := t } := by
  have e : (s.heap.update p f).get? p = some { cls := .type "list", data := .seq its'.toArray n' } := by
    rw [Heap.get?_update_self f ho (by rw [hf] <;> rfl), hf]
  refine I.write (x := p) (e := p) (by rw [h]; trivial) (.inl rfl) (fun b u hb q => (Heap.get?_update_other _ _ (Ne.symm hb)).trans q) ⟨_, e⟩ ?_
  exact ⟨hz, its', n', r, e⟩
def rSetL : V → V → V → Hp → (Hp → Prop) → Prop := fun o i v H Q => ∃ p xs k j, o = .ref p ∧ i = .int k ∧ H p = some (.lst xs) ∧ ixN xs.length k = some j ∧ Q (upd H p (.lst (xs.set j v)))
theorem set_list : PSet X rSetL := by
  intro pins s σ H o i v ov iv u Q I ro ri rv h
  obtain ⟨p, xs, k, j, rfl, rfl, hp, hj, q⟩ := h
  cases ro
  obtain ⟨t, rfl⟩ := ri
  obtain ⟨its, n, r, ho, hz⟩ := I.lst hp
  obtain ⟨h1, h2, h3, h4⟩ := ixN_seq hj
  have hl := r.length
  have hn := line63
  have I' : Inv X pins σ (upd H p (.lst (xs.set j v))) { s with heap := s.heap.update p (Obj.mapSeq (·.setIfInBounds j u)) } :=
    I.lstUpd hp ho (mapSeq_set its n j u) (r.set rv j) (by rw [List.length_set]; exact hz) s.toks
  by_cases h0 : 0 ≤ k
  · have hk : k.toNat = j := by
      rw [seqIndex_of h0 h4] at h1
      exact Option.some.inj h1
    exact PySem.W.ki_setAt ho h0 (by omega) (by rw [List.size_toArray, ← hl]; exact h4) (by rw [hk]; exact ⟨_, I', q⟩)
  · have hk : (k + (its.toArray.size : Int)).toNat = j := by
      rw [seqIndex_neg (by omega) h3] at h1
      rw [List.size_toArray, ← hl]
      exact Option.some.inj h1
    exact PySem.W.ki_setBack ho (by omega) (by rw [List.size_toArray, ← hl]; exact h3) (by omega) (by rw [hk]; exact ⟨_, I', q⟩)

/-! ### slices -/
theorem slice_bounds (lo hi : Option Int) (n : Nat) : (sliceBounds lo hi none n).1 = ((HT.sIx n 0 lo : Nat) : Int) ∧ (sliceBounds lo hi none n).2.1 = ((HT.sIx n n hi : Nat) : Int) ∧ (sliceBounds lo hi none n).2.2 = 1 := by
  refine ⟨?_, ?_, rfl⟩
  · cases lo with
    | none => simp [sliceBounds, HT.sIx]
    | some i =>
      simp only [sliceBounds, HT.sIx, Option.getD_none, show (1 : Int) > 0 by decide, if_true]
      by_cases h : i < 0
      · simp only [h, if_true] <;> omega
      · simp only [h, if_false] <;> omega
  · cases hi with
    | none => simp [sliceBounds, HT.sIx]
    | some i =>
      simp only [sliceBounds, HT.sIx, Option.getD_none, show (1 : Int) > 0 by decide, if_true]
      by_cases h : i < 0
      · simp only [h, if_true] <;> omega
      · simp only [h, if_false] <;> omega
theorem slicePick_cut (its : List Value) (lo hi : Option Int) : slicePick its.toArray lo hi none = ((its.drop (HT.sIx its.length 0 lo)).take (HT.sIx its.length its.length hi - HT.sIx its.length 0 lo)).toArray := by
  obtain ⟨h1, h2, h3⟩ := slice_bounds lo hi its.toArray.size
  unfold slicePick
  rw [h1, h2, h3]
  simp only [sliceRange_one, pick_run, List.size_toArray] <;> rfl
/-- xs[lo:hi] of a list: a new list -/
def rSlL (K : PySem.W.Frag) : V → Option Int → Option Int → Hp → VK → Prop := fun x lo hi H Q => ∃ a xs, x = .ref a ∧ SqL K H a xs ∧ ∀ p, H p = none → Q (.ref p) (upd H p (.lst (cutV xs lo hi)))
theorem sl_list : SlR X (rSlL X.K) := by
  intro pins s σ H x v vl vu lo hi sl Q I rx hs pl pu h
  obtain ⟨a, xs, rfl, hx, q⟩ := h
  cases rx
  obtain ⟨its, r, ht, hz⟩ := I.list hx
  have hlen := r.length
  refine ⟨"list", _, slot_list_getitem.lookup, ht.isList.typeIs, ?_⟩
  refine wpAny_getItem_list_slice ht.isList hs pl pu .none (by simp) ?_ (by rw [List.size_toArray] <;> omega)
  rw [slicePick_cut, ← hlen]
  refine ⟨.ref s.heap.objs.size, _, I.laid (t' := s.toks) (o := .lst (cutV xs lo hi)) (fun b ob q => Heap.get?_push_of_some _ q) (Nat.le_refl _) ?_, rfl, q _ (I.hok.fresh (Nat.le_refl _))⟩
  exact ⟨Nat.le_trans (cutV_length xs lo hi) hz, _, 0, (r.drop (HT.sIx xs.length 0 lo)).take (HT.sIx xs.length xs.length hi - HT.sIx xs.length 0 lo), Heap.get?_push_size _ rfl⟩

/-! ### in, not in: flat items -/
def flatV : V → Bool
  | .non => true
  | .bl _ => true
  | .int _ => true
  | .str _ => true
  | _ => false
/-- == of flat values -/
def eqV : V → V → Bool
  | .non, .non => true
  | .bl a, .bl b => a == b
  | .bl a, .int b => (if a then 1 else 0) == b
  | .int a, .bl b => a == (if b then 1 else 0)
  | .int a, .int b => a == b
  | .str a, .str b => a == b
  | _, _ => false
theorem eqAt_V {A : Around} {s : Shared} {y x : V} {u v : Value} (ry : RelV y u) (rx : RelV x v) (fy : flatV y = true) (fx : flatV x = true) : SeqAt.EqAt A s u v (eqV y x) := by
  cases y with
  | non =>
    cases ry
    cases x with
    | non => cases rx; exact SeqAt.EqAt.same _
    | bl b => cases rx; exact SeqAt.EqAt.none_bool b
    | int b => obtain ⟨t, rfl⟩ := rx; exact SeqAt.EqAt.none_int b t
    | str b => obtain ⟨t, rfl⟩ := rx; exact SeqAt.EqAt.none_str b t
    | _ => exact absurd (show false = true from fx) Bool.false_ne_true
  | bl a =>
    cases ry
    cases x with
    | non => cases rx; exact SeqAt.EqAt.bool_none a
    | bl b => cases rx; exact SeqAt.EqAt.bool_bool a b
    | int b => obtain ⟨t, rfl⟩ := rx; exact SeqAt.EqAt.bool_int a b t
    | str b => obtain ⟨t, rfl⟩ := rx; exact SeqAt.EqAt.bool_str a b t
    | _ => exact absurd (show false = true from fx) Bool.false_ne_true
  | int a =>
    obtain ⟨t', rfl⟩ := ry
    cases x with
    | non => cases rx; exact SeqAt.EqAt.int_none a t'
    | bl b => cases rx; exact SeqAt.EqAt.int_bool a t' b
    | int b => obtain ⟨t, rfl⟩ := rx; exact SeqAt.EqAt.int_int a t' b t
    | str b => obtain ⟨t, rfl⟩ := rx; exact SeqAt.EqAt.int_str a t' b t
    | _ => exact absurd (show false = true from fx) Bool.false_ne_true
  | str a =>
    obtain ⟨t', rfl⟩ := ry
    cases x with
    | non => cases rx; exact SeqAt.EqAt.str_none a t'
    | bl b => cases rx; exact SeqAt.EqAt.str_bool a t' b
    | int b => obtain ⟨t, rfl⟩ := rx; exact SeqAt.EqAt.str_int a t' b t
    | str b => obtain ⟨t, rfl⟩ := rx; exact SeqAt.EqAt.str_str a t' b t
    | _ => exact absurd (show false = true from fx) Bool.false_ne_true
  | _ => exact absurd (show false = true from fy) Bool.false_ne_true
/-- the items' answers, read off the values (a value's own answer does not lean on its token) -/
def eqU (x : V) (u : Value) : Bool := match u with
  | .none => eqV .non x
  | .bool b => eqV (.bl b) x
  | .int i _ => eqV (.int i) x
  | .str z _ => eqV (.str z) x
  | _ => false
theorem eqU_of {x y : V} {u : Value} (r : RelV y u) (f : flatV y = true) : eqU x u = eqV y x := by
  cases y with
  | non => cases r; rfl
  | bl b => cases r; rfl
  | int i => obtain ⟨t, rfl⟩ := r; rfl
  | str z => obtain ⟨t, rfl⟩ := r; rfl
  | _ => exact absurd (show false = true from f) Bool.false_ne_true
theorem any_eqU {x : V} : ∀ {xs : List V} {us : List Value}, Vals xs us → xs.all flatV = true → us.any (eqU x) = xs.any fun y => eqV y x
  | _, _, .nil, _ => rfl
  | y :: xs, u :: us, .cons r t, f => by
    rw [List.all_cons, Bool.and_eq_true] at f
    rw [List.any_cons, List.any_cons, eqU_of r f.1, any_eqU t f.2]
theorem mem_eqAt {A : Around} {s : Shared} {x : V} {v : Value} (rx : RelV x v) (fx : flatV x = true) : ∀ {xs : List V} {us : List Value}, Vals xs us → xs.all flatV = true → ∀ u ∈ us, SeqAt.EqAt A s u v (eqU x u)
  | _, _, .nil, _ => fun u hu => by cases hu
  | y :: xs, u :: us, .cons r t, f => fun u' hu => by
    rw [List.all_cons, Bool.and_eq_true] at f
    rcases List.mem_cons.mp hu with rfl | hu
    · rw [eqU_of r f.1]; exact eqAt_V r rx f.1 fx
    · exact mem_eqAt rx fx t f.2 u' hu
def inV (x : V) (xs : List V) : Bool := xs.any fun y => eqV y x
/-- x in a list or tuple of flat items -/
def rIn (K : PySem.W.Frag) (neg : Bool) : R2 := fun x y H Q => ∃ p xs, y = .ref p ∧ (SqL K H p xs ∨ SqT K H p xs) ∧ flatV x = true ∧ xs.all flatV = true ∧ Q (.bl (if neg then !inV x xs else inV x xs)) H
theorem op_in_seq : OpR X (compareOp .In) (rIn X.K false) := by
  intro pins s σ H x y v u Q I rx ry h
  obtain ⟨p, xs, rfl, hq, fx, fs, q⟩ := h
  cases ry
  rcases hq with hq | hq
  · obtain ⟨its, r, pl, hz⟩ := I.list hq
    refine SeqAt.in_listAt (eqU x) pl.isList (fun w hw => mem_eqAt rx fx r fs w (by simpa using hw)) ⟨.bl _, H, I, rfl, ?_⟩
    rw [show its.toArray.any (eqU x) = its.any (eqU x) by simp, any_eqU r fs]
    exact q
  · obtain ⟨its, r, pl, hz⟩ := I.tuple hq
    refine SeqAt.in_tupleAt (eqU x) pl (fun w hw => mem_eqAt rx fx r fs w (by simpa using hw)) ⟨.bl _, H, I, rfl, ?_⟩
    rw [show its.toArray.any (eqU x) = its.any (eqU x) by simp, any_eqU r fs]
    exact q
theorem op_notIn_seq : OpR X (compareOp .NotIn) (rIn X.K true) := by
  intro pins s σ H x y v u Q I rx ry h
  obtain ⟨p, xs, rfl, hq, fx, fs, q⟩ := h
  cases ry
  rcases hq with hq | hq
  · obtain ⟨its, r, pl, hz⟩ := I.list hq
    refine SeqAt.notIn_listAt (eqU x) pl.isList (fun w hw => mem_eqAt rx fx r fs w (by simpa using hw)) ⟨.bl _, H, I, rfl, ?_⟩
    rw [show its.toArray.any (eqU x) = its.any (eqU x) by simp, any_eqU r fs]
    exact q
  · obtain ⟨its, r, pl, hz⟩ := I.tuple hq
    refine SeqAt.notIn_tupleAt (eqU x) pl (fun w hw => mem_eqAt rx fx r fs w (by simpa using hw)) ⟨.bl _, H, I, rfl, ?_⟩
    rw [show its.toArray.any (eqU x) = its.any (eqU x) by simp, any_eqU r fs]
    exact q
theorem op_notIn_str : OpR X (compareOp .NotIn) (fun x y H Q => ∃ i j, x = .str i ∧ y = .str j ∧ Q (.bl (!(!(Builtin.Str.occurrences j i 0 j.length 1).isEmpty))) H) := by
  intro pins s σ H x y v u Q I rx ry h
  obtain ⟨i, j, rfl, rfl, q⟩ := h
  obtain ⟨t, rfl⟩ := rx
  obtain ⟨t', rfl⟩ := ry
  exact notIn_str ⟨.bl _, H, I, rfl, q⟩

/-! ### len, list(x), tuple(x) of any list or tuple that is read -/
theorem call_len_seq : CallR X (.builtin "len") (fun xs H Q => ∃ p ys, xs = [.ref p] ∧ (SqL X.K H p ys ∨ SqT X.K H p ys) ∧ Q (.int ys.length) H) := by
  intro pins s σ H xs us Q I r h
  obtain ⟨p, ys, rfl, hq, q⟩ := h
  obtain ⟨u, rfl, rx⟩ := vals1 r
  cases rx
  have hn := line63
  rcases hq with hq | hq
  · obtain ⟨its, r', pl, hz⟩ := I.list hq
    have hlen := r'.length
    exact Calls.call_len_list pl.isList (by simp only [List.size_toArray] <;> omega) ⟨.int ys.length, H, I.tok _, ⟨s.toks + 1, by rw [List.size_toArray, hlen]⟩, q⟩
  · obtain ⟨its, r', pl, hz⟩ := I.tuple hq
    have hlen := r'.length
    exact len_tuple pl (by simp only [List.size_toArray] <;> omega) ⟨.int ys.length, H, I.tok _, ⟨s.toks + 1, by rw [List.size_toArray, hlen]⟩, q⟩
theorem call_len_str : CallR X (.builtin "len") (fun xs H Q => ∃ z, xs = [.str z] ∧ z.length ≤ sizeLine ∧ Q (.int z.length) H) := by
  intro pins s σ H xs us Q I r h
  obtain ⟨z, rfl, hz, q⟩ := h
  obtain ⟨u, rfl, t, rfl⟩ := vals1 r
  have hn := line63
  exact len_str (by omega) ⟨.int z.length, H, I.tok _, ⟨_, rfl⟩, q⟩
theorem CallR.or {f : Value} {r r' : List V → Hp → VK → Prop} (h : CallR X f r) (h' : CallR X f r') : CallR X f (fun xs H Q => r xs H Q ∨ r' xs H Q) := by
  intro pins s σ H xs us Q I rs q
  rcases q with q | q
  · exact h pins s σ H xs us Q I rs q
  · exact h' pins s σ H xs us Q I rs q
theorem call_list_of : CallR X (.type "list") (fun xs H Q => ∃ p ys, xs = [.ref p] ∧ (SqL X.K H p ys ∨ SqT X.K H p ys) ∧ ∀ l, H l = none → Q (.ref l) (upd H l (.lst ys))) := by
  intro pins s σ H xs us Q I r h
  obtain ⟨p, ys, rfl, hq, q⟩ := h
  obtain ⟨u, rfl, rx⟩ := vals1 r
  cases rx
  have fin : ∀ (its : List Value), Vals ys its → ys.length ≤ sizeLine → ∀ (h' : Heap) (c' : Nat), (∀ b o', s.heap.get? b = some o' → h'.get? b = some o') →
      h'.get? s.heap.objs.size = some { cls := .type "list", dict := none, data := .seq its.toArray c', slots := #[] } → EP X pins σ Q (.ref s.heap.objs.size) { s with heap := h' } := fun its r' hz h' c' kp e =>
    ⟨.ref s.heap.objs.size, _, I.laid (t' := s.toks) kp (Nat.le_refl _) (show ObjOk X.prog X.w _ h' _ (.lst ys) from ⟨hz, its, c', r', e⟩), rfl, q _ (I.hok.fresh (Nat.le_refl _))⟩
  rcases hq with hq | hq
  · obtain ⟨its, r', pl, hz⟩ := I.list hq
    have hlen := r'.length
    obtain ⟨o, ho, hc, n, hd⟩ := pl.isList
    exact call_list_seq p (.inl rfl) ho hc hd (fun h' c' kp e => fin its r' hz h' c' kp e) (by simp only [List.size_toArray] <;> omega)
  · obtain ⟨its, r', pl, hz⟩ := I.tuple hq
    have hlen := r'.length
    obtain ⟨o, ho, hc, n, hd⟩ := pl
    exact call_list_seq p (.inr rfl) ho hc hd (fun h' c' kp e => fin its r' hz h' c' kp e) (by simp only [List.size_toArray] <;> omega)
theorem call_tuple_of : CallR X (.type "tuple") (fun xs H Q => ∃ p ys, xs = [.ref p] ∧ ((SqL X.K H p ys ∧ ∀ l, H l = none → Q (.ref l) (upd H l (.tup ys))) ∨ (SqT X.K H p ys ∧ Q (.ref p) H))) := by
  intro pins s σ H xs us Q I r h
  obtain ⟨p, ys, rfl, h⟩ := h
  obtain ⟨u, rfl, rx⟩ := vals1 r
  cases rx
  rcases h with ⟨hq, q⟩ | ⟨hq, q⟩
  · obtain ⟨its, r', pl, hz⟩ := I.list hq
    have hlen := r'.length
    refine call_tuple_list pl.isList (fun h' kp => ?_) (by simp only [List.size_toArray] <;> omega)
    have I1 : Inv X pins σ H { s with heap := h' } := I.kept (t' := s.toks) kp
    have I2 : Inv X pins σ (upd H h'.objs.size (.tup ys)) { s with heap := h'.push { cls := .type "tuple", data := .seq its.toArray } } :=
      I1.laid (t' := s.toks) (fun b o e => Heap.get?_push_of_some _ e) (Nat.le_refl _) (show ObjOk X.prog X.w _ _ _ (.tup ys) from ⟨hz, its, r', IsTup.new _ _⟩)
    exact ⟨.ref h'.objs.size, _, I2, rfl, q _ (I1.hok.fresh (Nat.le_refl _))⟩
  · obtain ⟨its, r', pl, hz⟩ := I.tuple hq
    exact call_tuple_same pl ⟨.ref p, H, I, rfl, q⟩

/-! ### the call of a builtin's method: o.m(..) -/
/-- the value is of that builtin type -/
def tyV (K : PySem.W.Frag) (T : String) (x : V) (H : Hp) : Prop := match x with
  | .str _ => T = "str"
  | .int _ => T = "int"
  | .ref p => (T = "list" ∧ ∃ xs, SqL K H p xs) ∨ (T = "tuple" ∧ ∃ o, K.lookup p = some o ∧ o.cls = .type "tuple" ∧ o.dict = none) ∨
      (T = "dict" ∧ ((∃ kvs, H p = some (.dK kvs)) ∨ ∃ kvs, H p = some (.dT kvs))) ∨ (T = "set" ∧ ∃ S n, H p = some (.set S n))
  | _ => False
theorem tyV_is {pins : List (Addr × Obj)} {σ : St} {H : Hp} {s : Shared} {T : String} {x : V} {v : Value} (I : Inv X pins σ H s) (r : RelV x v) (ty : tyV X.K T x H) :
    s.TypeIs v T ∧ ∀ a, v = .ref a → ∃ ob, s.heap.get? a = some ob ∧ ob.dict = none := by
  cases x with
  | str z =>
    obtain ⟨t, rfl⟩ := r
    cases (show T = "str" from ty)
    exact ⟨typeIs_str s z t, fun _ e => nomatch e⟩
  | int i =>
    obtain ⟨t, rfl⟩ := r
    cases (show T = "int" from ty)
    exact ⟨typeIs_int s i t, fun _ e => nomatch e⟩
  | ref p =>
    cases r
    rcases ty with ⟨rfl, xs, hq⟩ | ⟨rfl, o, hk, hc, hd⟩ | ⟨rfl, hk⟩ | ⟨rfl, S, n, hk⟩
    · obtain ⟨its, _, pl, _⟩ := I.list hq
      refine ⟨pl.isList.typeIs, fun a e => ?_⟩
      cases e
      obtain ⟨o, n, e, c, hd, _⟩ := pl
      exact ⟨o, e, hd⟩
    · refine ⟨⟨o, I.kIn p o hk, hc⟩, fun a e => ?_⟩
      cases e
      exact ⟨o, I.kIn _ o hk, hd⟩
    · have z : ∃ o, s.heap.get? p = some o ∧ o.ExactDict := by
        rcases hk with ⟨kvs, hk⟩ | ⟨kvs, hk⟩
        · obtain ⟨_, _, _, _, o, _, _, e, ex, _⟩ := I.hok p _ hk
          exact ⟨o, e, ex⟩
        · obtain ⟨_, _, _, _, o, _, _, e, ex, _⟩ := I.hok p _ hk
          exact ⟨o, e, ex⟩
      obtain ⟨o, e, ex⟩ := z
      refine ⟨⟨o, e, ex.1⟩, fun a e2 => ?_⟩
      cases e2
      exact ⟨o, e, ex.2.1⟩
    · obtain ⟨o, _, _, _, e, ex, _⟩ := I.hok p _ hk
      refine ⟨⟨o, e, ex.1⟩, fun a e2 => ?_⟩
      cases e2
      exact ⟨o, e, ex.2.1⟩
  | _ => exact False.elim ty
def tBM0 (K : PySem.W.Frag) (T : String) (r : V → List V → Hp → VK → Prop) (to : TE) : TE := fun σ H Q => to σ H fun x H1 => tyV K T x H1 ∧ r x [] H1 Q
def tBM (K : PySem.W.Frag) (T : String) (r : V → List V → Hp → VK → Prop) (to : TE) (t : TA) : TE := fun σ H Q => to σ H fun x H1 => tyV K T x H1 ∧ t σ H1 fun xs H2 => r x xs H2 Q
variable {o e : Expr} {es : List Expr} {to : TE} {t : TA} {name : Str} {apos cpos : Pos} {T id : String} {r : V → List V → Hp → VK → Prop}
theorem pe_bm0 (pa : PlainAttrs T) (slot : Slot T name id) (hty : typeOf (.builtin id) = pure (.type "method_descriptor")) (hm : MtR X id r) (ho : PE X o to)
    (hbase : attributeBase o name X.env (eval o X.env) = eval o X.env := by rfl) (hline : (apos.endLine == cpos.line) = true := by rfl) : PE X (.Call (.Attribute o name apos) [] [] cpos) (tBM0 X.K T r to) := by
  intro pins s σ H Q I h
  refine wpAny_Call_method0_late hbase hline (thn (ho pins s σ H _ I h) fun v s1 ⟨x, H1, I1, r1, ty, q1⟩ => ?_)
  obtain ⟨h1, h2⟩ := tyV_is I1 r1 ty
  exact ⟨T, id, pa, slot, hty, h1, h2, Calls.callWith_builtin rfl (PySem.evalArgs_none (hm pins s1 σ H1 x [] v [] Q I1 r1 .nil q1))⟩
theorem pe_bm (pa : PlainAttrs T) (slot : Slot T name id) (hty : typeOf (.builtin id) = pure (.type "method_descriptor")) (hm : MtR X id r) (ho : PE X o to) (ha : PA X (e :: es) t)
    (hbase : attributeBase o name X.env (eval o X.env) = eval o X.env := by rfl)
    (hfew : ((backTo cpos (starEach (e :: es) X.env)).all (fun x => !x.1) && (backToKw cpos (keywordEach [] X.env)).all (fun x => x.1.isSome)
      && decide ((e :: es).length + ([] : List Keyword).length + (if ([] : List Keyword).isEmpty then 0 else 1) < 30)) = true := by rfl)
    (hline : (apos.endLine == cpos.line) = true := by rfl) (hs : starEach (e :: es) X.env = (false, eval e X.env) :: starEach es X.env := by rfl) (hplain : (backTo cpos (starEach es X.env)).any (·.1) = false := by rfl) :
    PE X (.Call (.Attribute o name apos) (e :: es) [] cpos) (tBM X.K T r to t) := by
  intro pins s σ H Q I h
  refine wpAny_Call_method_late hbase hfew hline rfl (thn (ho pins s σ H _ I h) fun v s1 ⟨x, H1, I1, r1, ty, q1⟩ => ?_)
  obtain ⟨h1, h2⟩ := tyV_is I1 r1 ty
  refine ⟨T, id, pa, slot, hty, h1, h2, ?_⟩
  have hA := ha cpos pins s1 σ H1 _ I1 q1
  rw [hs] at hA ⊢
  refine Calls.callWith_builtin (by show (false || (backTo cpos (starEach es X.env)).any (·.1)) = false; rw [hplain] <;> rfl) (Calls.evalArgs_plain ?_)
  exact thn hA fun us s2 ⟨vs, H2, I2, r2, q2⟩ => hm pins s2 σ H2 x vs v us Q I2 r1 r2 q2
/- xs.append(e), list.index on a module's tuple .. are MtR facts of 06m -/
end
end L2

namespace L2
open PySem PySem.Spec PyProof.Rows

def MtM (X : Cx) (id : String) (r : V → List V → Hp → VK → Prop) : Prop :=
  ∀ (pins : List (Addr × Obj)) (s : Shared) (σ : St) (H : Hp) (x : V) (xs : List V) (v : Value) (us : List Value) (Q : VK), Inv X pins σ H s → RelV x v → Vals xs us → r x xs H Q →
    wpAny (model X.prog X.w) X.A (call (.builtin id) (v :: us)) (EP X pins σ Q) X.xe s

/-! ### lists of values -/
theorem Vals.one : ∀ {x : V} {us : List Value}, Vals [x] us → ∃ u, us = [u] ∧ RelV x u
  | _, _, .cons r .nil => ⟨_, rfl, r⟩
theorem Vals.two : ∀ {x y : V} {us : List Value}, Vals [x, y] us → ∃ u v, us = [u, v] ∧ RelV x u ∧ RelV y v
  | _, _, _, .cons r (.cons q .nil) => ⟨_, _, rfl, r, q⟩
theorem Vals.zero : ∀ {us : List Value}, Vals [] us → us = []
  | _, .nil => rfl
theorem Vals.dropLast {xs : List V} {us : List Value} (h : Vals xs us) : Vals xs.dropLast us.dropLast := by
  induction h with
  | nil => exact .nil
  | cons r t ih =>
    cases t with
    | nil => exact .nil
    | cons q t' => exact .cons r ih
theorem Vals.eraseIdx : ∀ {xs : List V} {us : List Value} (i : Nat), Vals xs us → Vals (xs.eraseIdx i) (us.eraseIdx i)
  | _, _, _, .nil => .nil
  | _, _, 0, .cons _ t => t
  | _, _, i + 1, .cons r t => .cons r (Vals.eraseIdx i t)
theorem Vals.reverse {xs : List V} {us : List Value} (h : Vals xs us) : Vals xs.reverse us.reverse := by
  induction h with
  | nil => exact .nil
  | cons r t ih => rw [List.reverse_cons, List.reverse_cons]; exact Vals.append ih (.cons r .nil)
theorem Vals.rep {xs : List V} {us : List Value} (h : Vals xs us) : ∀ k : Nat, Vals (List.replicate k xs).flatten (List.replicate k us).flatten
  | 0 => .nil
  | k + 1 => by
    rw [List.replicate_succ, List.replicate_succ, List.flatten_cons, List.flatten_cons]
    exact Vals.append h (Vals.rep h k)
theorem erase_last {α : Type} (l : List α) : l.eraseIdx (l.length - 1) = l.dropLast := by
  induction l with
  | nil => rfl
  | cons a r ih =>
    cases r with
    | nil => rfl
    | cons b r =>
      have e : (a :: b :: r).length - 1 = ((b :: r).length - 1) + 1 := by
        have h1 : (a :: b :: r).length = r.length + 2 := rfl
        have h2 : (b :: r).length = r.length + 1 := rfl
        omega
      rw [e, List.eraseIdx_cons_succ, ih]
      all_goals rfl
theorem len_erase {α : Type} : ∀ (l : List α) (i : Nat), (l.eraseIdx i).length ≤ l.length
  | [], _ => Nat.le_refl _
  | _ :: _, 0 => Nat.le_succ _
  | _ :: r, i + 1 => Nat.succ_le_succ (len_erase r i)
theorem foldl_rep (its : List Value) : ∀ (k : Nat) (acc : List Value),
    List.foldl (fun x1 x2 => x1 ++ x2) acc.toArray (List.replicate k its.toArray) = (acc ++ (List.replicate k its).flatten).toArray
  | 0, acc => by simp
  | k + 1, acc => by
    have e : acc.toArray ++ its.toArray = (acc ++ its).toArray := by simp
    have e2 : (acc ++ its) ++ (List.replicate k its).flatten = acc ++ (List.replicate (k + 1) its).flatten := by
      rw [List.replicate_succ, List.flatten_cons, List.append_assoc]
    rw [← e2, ← foldl_rep its k (acc ++ its), ← e, List.replicate_succ, List.foldl_cons]

section
variable {X : Cx} {pins : List (Addr × Obj)} {σ : St} {H : Hp} {s : Shared} {l b : Addr} {xs ys zs : List V}

/-! ### the two steps: a tracked list is rewritten, a new list is laid -/
theorem Inv.lset {its its' : List Value} {n : Nat} {f : Array Value → Array Value} {t' : Nat} (I : Inv X pins σ H s) (hH : H l = some (.lst xs))
    (e : s.heap.get? l = some { cls := .type "list", data := .seq its.toArray n }) (hf : f its.toArray = its'.toArray) (hv : Vals ys its') (hz : ys.length ≤ sizeLine) :
    Inv X pins σ (upd H l (.lst ys)) { s with heap := s.heap.update l (Obj.mapSeq f), toks := t' } := by
  have q := PySem.IsL.update e f
  rw [hf] at q
  refine I.write (x := l) (e := l) (by rw [hH]; exact trivial) (.inl rfl) (fun b' u hb hu => (Heap.get?_update_other s.heap (Obj.mapSeq f) (Ne.symm hb)).trans hu) ⟨_, q⟩ ?_
  exact ⟨hz, its', _, hv, q⟩
theorem Inv.lnew {its : List Value} {t' : Nat} (I : Inv X pins σ H s) (hv : Vals ys its) (hz : ys.length ≤ sizeLine) :
    Inv X pins σ (upd H s.heap.objs.size (.lst ys)) { s with heap := s.heap.push { cls := .type "list", data := .seq its.toArray }, toks := t' } :=
  I.laid (fun _ _ q => Heap.get?_push_of_some _ q) (Nat.le_refl _) ⟨hz, its, 0, hv, Heap.get?_push_size _ rfl⟩
theorem Inv.fresh (I : Inv X pins σ H s) : H s.heap.objs.size = none := I.hok.fresh (Nat.le_refl _)
theorem Inv.lstM (I : Inv X pins σ H s) (hH : H l = some (.lst xs)) : xs.length ≤ sizeLine ∧ ∃ (its : List Value) (n : Nat), Vals xs its ∧ xs.length = its.length ∧ s.heap.get? l = some { cls := .type "list", data := .seq its.toArray n } := by
  obtain ⟨z, its, n, r, e⟩ := I.hok l _ hH
  exact ⟨z, its, n, r, r.length, e⟩

theorem notLongL {n : Nat} (h : n ≤ sizeLine) : Builtin.List.listTooLong n = false := by
  unfold Builtin.List.listTooLong
  exact decide_eq_false (by omega)
end

section
variable {X : Cx}

/-! ### methods -/
def rAppend : V → List V → Hp → VK → Prop := fun x vs H Q => ∃ l xs y, x = .ref l ∧ vs = [y] ∧ H l = some (.lst xs) ∧ xs.length < sizeLine ∧ Q .non (upd H l (.lst (xs ++ [y])))
theorem mt_append : MtM X "list.append" rAppend := by
  intro pins s σ H x vs v us Q I rx rv h
  obtain ⟨l, xs, y, rfl, rfl, hH, hz, q⟩ := h
  cases rx
  obtain ⟨u, rfl, ru⟩ := rv.one
  obtain ⟨z, its, n, r, hl, e⟩ := I.lstM hH
  refine call_meets F.slot_list_append ⟨_, e, rfl⟩ F.entry_list_append (F.args_list_append_2 _ _) (PySem.list_append l its.toArray n u (by rw [List.size_toArray]; omega)) ⟨e, ?_⟩
  refine ⟨.non, _, I.lset (its' := its ++ [u]) hH e (by simp) (r.append (.cons ru .nil)) ?_, rfl, q⟩
  rw [List.length_append, List.length_singleton]
  omega

def rExtend : V → List V → Hp → VK → Prop := fun x vs H Q => ∃ l b xs zs, x = .ref l ∧ vs = [.ref b] ∧ H l = some (.lst xs) ∧ H b = some (.lst zs) ∧ xs.length + zs.length ≤ sizeLine ∧ Q .non (upd H l (.lst (xs ++ zs)))
theorem mt_extend : MtM X "list.extend" rExtend := by
  intro pins s σ H x vs v us Q I rx rv h
  obtain ⟨l, b, xs, zs, rfl, rfl, hH, hB, hz, q⟩ := h
  cases rx
  obtain ⟨u, rfl, ru⟩ := rv.one
  cases ru
  obtain ⟨z, its, n, r, hl, e⟩ := I.lstM hH
  obtain ⟨z2, its2, n2, r2, hl2, e2⟩ := I.lstM hB
  have hsz : its.toArray.size + its2.toArray.size ≤ sizeLine := by rw [List.size_toArray, List.size_toArray]; omega
  have hlong : ¬ (!its.toArray.isEmpty && Builtin.List.listTooLong (its.toArray.size + its2.toArray.size)) = true := by
    rw [notLongL hsz, Bool.and_false]
    exact Bool.false_ne_true
  refine call_meets F.slot_list_extend ⟨_, e, rfl⟩ F.entry_list_extend (F.args_list_extend_2 _ _)
    (AutoSeq1.list_extend_list_list_0 l its.toArray n b its2.toArray n2 hlong (by rw [List.size_toArray]; omega) (by omega)) ⟨e, e2, ?_⟩
  refine ⟨.non, _, I.lset (its' := its ++ its2) hH e (by simp) (r.append r2) ?_, rfl, q⟩
  rw [List.length_append]
  omega

def rPop : V → List V → Hp → VK → Prop := fun x vs H Q => ∃ l xs y, x = .ref l ∧ vs = [] ∧ H l = some (.lst xs) ∧ xs[xs.length - 1]? = some y ∧ Q y (upd H l (.lst xs.dropLast))
theorem mt_pop : MtM X "list.pop" rPop := by
  intro pins s σ H x vs v us Q I rx rv h
  obtain ⟨l, xs, y, rfl, rfl, hH, hy, q⟩ := h
  cases rx
  have hus := rv.zero
  subst hus
  obtain ⟨z, its, n, r, hl, e⟩ := I.lstM hH
  obtain ⟨u, hu, ru⟩ := r.get hy
  have hy' : its.toArray[its.toArray.size - 1]? = some u := by
    show its.toArray[its.length - 1]? = some u
    rw [← Array.getElem?_toList, ← hl]
    exact hu
  refine call_meets F.slot_list_pop ⟨_, e, rfl⟩ F.entry_list_pop (F.args_list_pop_1 _) (MeetsSeq.list_pop_last l its.toArray n u hy' (by rw [List.size_toArray]; omega)) ⟨e, ?_⟩
  refine ⟨y, _, I.lset (its' := its.dropLast) hH e ?_ r.dropLast ?_, ru, q⟩
  · show its.toArray.eraseIdxIfInBounds (its.toArray.size - 1) = its.dropLast.toArray
    rw [List.size_toArray, List.eraseIdxIfInBounds_toArray, erase_last]
  · rw [List.length_dropLast]
    omega

def rPopAt : V → List V → Hp → VK → Prop := fun x vs H Q => ∃ l xs i k y, x = .ref l ∧ vs = [.int i] ∧ H l = some (.lst xs) ∧ -(2 ^ 63) ≤ i ∧ i < 2 ^ 63 ∧ seqIndex? i xs.length = some k ∧ xs[k]? = some y ∧ Q y (upd H l (.lst (xs.eraseIdx k)))
theorem mt_popAt : MtM X "list.pop" rPopAt := by
  intro pins s σ H x vs v us Q I rx rv h
  obtain ⟨l, xs, i, k, y, rfl, rfl, hH, h1, h2, hk, hy, q⟩ := h
  cases rx
  obtain ⟨u, rfl, ru⟩ := rv.one
  obtain ⟨t, rfl⟩ := ru
  obtain ⟨z, its, n, r, hl, e⟩ := I.lstM hH
  obtain ⟨w, hw, rw'⟩ := r.get hy
  refine call_meets F.slot_list_pop ⟨_, e, rfl⟩ F.entry_list_pop (F.args_list_pop_2 _ _)
    (MeetsSeq.list_pop_at l its.toArray n i t k w (fitsIndex_both h1 h2) (by rw [List.size_toArray, ← hl]; exact hk) (by rw [← Array.getElem?_toList]; exact hw) (by rw [List.size_toArray]; omega)) ⟨e, ?_⟩
  refine ⟨y, _, I.lset (its' := its.eraseIdx k) hH e ?_ (r.eraseIdx k) ?_, rw', q⟩
  · show its.toArray.eraseIdxIfInBounds k = (its.eraseIdx k).toArray
    rw [List.eraseIdxIfInBounds_toArray]
  · have := len_erase xs k
    omega

def rReverse : V → List V → Hp → VK → Prop := fun x vs H Q => ∃ l xs, x = .ref l ∧ vs = [] ∧ H l = some (.lst xs) ∧ Q .non (upd H l (.lst xs.reverse))
theorem mt_reverse : MtM X "list.reverse" rReverse := by
  intro pins s σ H x vs v us Q I rx rv h
  obtain ⟨l, xs, rfl, rfl, hH, q⟩ := h
  cases rx
  have hus := rv.zero
  subst hus
  obtain ⟨z, its, n, r, hl, e⟩ := I.lstM hH
  refine call_meets F.slot_list_reverse ⟨_, e, rfl⟩ F.entry_list_reverse (F.args_list_reverse_1 _) (AutoSeq1.list_reverse_list_0 l its.toArray n (by rw [List.size_toArray]; omega)) ⟨e, ?_⟩
  refine ⟨.non, _, I.lset (its' := its.reverse) hH e (by simp) r.reverse ?_, rfl, q⟩
  rw [List.length_reverse]
  omega

def rClear : V → List V → Hp → VK → Prop := fun x vs H Q => ∃ l xs, x = .ref l ∧ vs = [] ∧ H l = some (.lst xs) ∧ Q .non (upd H l (.lst []))
theorem mt_clear : MtM X "list.clear" rClear := by
  intro pins s σ H x vs v us Q I rx rv h
  obtain ⟨l, xs, rfl, rfl, hH, q⟩ := h
  cases rx
  have hus := rv.zero
  subst hus
  obtain ⟨z, its, n, r, hl, e⟩ := I.lstM hH
  refine call_meets F.slot_list_clear ⟨_, e, rfl⟩ F.entry_list_clear (F.args_list_clear_1 _) (AutoSeq1.list_clear_list_0 l its.toArray n (by rw [List.size_toArray]; omega)) ⟨e, ?_⟩
  exact ⟨.non, _, I.lset (its' := []) (ys := []) hH e rfl .nil (Nat.zero_le _), rfl, q⟩

/-! ### list + list, list += list, list * int -/
def rCat : R2 := fun x y H Q => ∃ l b xs zs, x = .ref l ∧ y = .ref b ∧ H l = some (.lst xs) ∧ H b = some (.lst zs) ∧ xs.length + zs.length ≤ sizeLine ∧ ∀ p, H p = none → Q (.ref p) (upd H p (.lst (xs ++ zs)))
theorem op_cat : OpR X (binaryOp .Add) rCat := by
  intro pins s σ H x y v u Q I rx ry h
  obtain ⟨l, b, xs, zs, rfl, rfl, hH, hB, hz, q⟩ := h
  cases rx
  cases ry
  obtain ⟨z, its, n, r, hl, e⟩ := I.lstM hH
  obtain ⟨z2, its2, n2, r2, hl2, e2⟩ := I.lstM hB
  refine PySem.P.add_list e e2 ?_ (by rw [List.size_toArray, List.size_toArray]; omega)
  have ea : its.toArray ++ its2.toArray = (its ++ its2).toArray := by simp
  rw [ea]
  exact ⟨.ref _, _, I.lnew (t' := s.toks) (r.append r2) (by rw [List.length_append]; omega), rfl, q _ I.fresh⟩
/-- a list times an int (a negative one is nothing) -/
def rRep : R2 := fun x y H Q => ∃ l k xs, x = .ref l ∧ y = .int k ∧ H l = some (.lst xs) ∧ -(2 ^ 63) ≤ k ∧ k < 2 ^ 63 ∧ xs.length * k.toNat ≤ sizeLine ∧
  ∀ p, H p = none → Q (.ref p) (upd H p (.lst (List.replicate k.toNat xs).flatten))
theorem len_rep {α : Type} (xs : List α) (k : Nat) : (List.replicate k xs).flatten.length = k * xs.length := by
  induction k with
  | zero => simp
  | succ k ih => rw [List.replicate_succ, List.flatten_cons, List.length_append, ih, Nat.succ_mul, Nat.add_comm]
theorem op_rep : OpR X (binaryOp .Mult) rRep := by
  intro pins s σ H x y v u Q I rx ry h
  obtain ⟨l, k, xs, rfl, rfl, hH, h1, h2, hz, q⟩ := h
  cases rx
  obtain ⟨t, rfl⟩ := ry
  obtain ⟨z, its, n, r, hl, e⟩ := I.lstM hH
  have hlen : its.toArray.size * k.toNat ≤ sizeLine := by rw [List.size_toArray, ← hl]; exact hz
  have hcap : ¬ its.toArray.size * k.toNat > (2 ^ 63 - 1) / 8 := by
    have : (sizeLine : Nat) ≤ (2 ^ 63 - 1) / 8 := by decide
    omega
  have hfit : ¬ (!Builtin.List.listFitsIndex k) = true := by
    rw [fitsIndex_both h1 h2]
    exact Bool.false_ne_true
  have hlong : ¬ Builtin.List.listTooLong (its.toArray.size * k.toNat) = true := by
    rw [notLongL hlen]
    exact Bool.false_ne_true
  have hnew : List.foldl (fun x1 x2 => x1 ++ x2) #[] (List.replicate (if its.toArray.isEmpty = true then 0 else k.toNat) its.toArray) = (List.replicate k.toNat its).flatten.toArray := by
    have f0 : ∀ m : Nat, List.foldl (fun x1 x2 => x1 ++ x2) #[] (List.replicate m its.toArray) = (List.replicate m its).flatten.toArray := fun m => by
      have := foldl_rep its m []
      rw [List.nil_append] at this
      exact this
    rw [f0]
    cases its with
    | nil => simp
    | cons a r' => rw [if_neg (by simp)]
  refine wpAny_binaryOp_repeat_ref (T := "list") (U := "int") (by decide) ⟨_, e, rfl⟩ (fun s' => typeIs_int s' k t) noFill_list_mul F.fills_int_mul F.slot_int_rmul repeat_list F.slot_int_index.lookup
    (call_meets F.slot_int_rmul (typeIs_int s k t) F.entry_int_rmul (F.args_int_rmul_2 _ _) (int___rmul___int_list k t l its.toArray n)
      ⟨e, rfl, ⟨_, e, rfl⟩, call_meets F.slot_list_mul ⟨_, e, rfl⟩ F.entry_list_mul (F.args_list_mul_2 _ _) (AutoListH.list___mul___list_int_3 l its.toArray n k t hfit hcap hlong) ⟨e, ?_⟩⟩)
  rw [hnew]
  exact ⟨.ref _, _, I.lnew (t' := s.toks) (r.rep k.toNat) (by rw [len_rep, Nat.mul_comm]; exact hz), rfl, q _ I.fresh⟩

/-! ### del xs[i] -/
theorem del_list {pins : List (Addr × Obj)} {s : Shared} {σ : St} {H : Hp} {l : Addr} {xs : List V} {i : Int} {t : Tok} {k : Nat} {Q : Unit → Shared → Prop} (I : Inv X pins σ H s) (hH : H l = some (.lst xs))
    (h1 : -(2 ^ 63) ≤ i) (h2 : i < 2 ^ 63) (hk : seqIndex? i xs.length = some k) (h : ∀ s', Inv X pins σ (upd H l (.lst (xs.eraseIdx k))) s' → Q () s') :
    wpAny (model X.prog X.w) X.A (delItem (.ref l) (.int i t)) Q X.xe s := by
  obtain ⟨z, its, n, r, hl, e⟩ := I.lstM hH
  refine PySem.P.delItem_list (k := k) e (fitsIndex_both h1 h2) (by rw [List.size_toArray, ← hl]; exact hk) (h _ ?_) (by rw [List.size_toArray]; omega)
  refine I.lset (its' := its.eraseIdx k) (t' := s.toks) hH e ?_ (r.eraseIdx k) ?_
  · show its.toArray.eraseIdxIfInBounds k = (its.eraseIdx k).toArray
    rw [List.eraseIdxIfInBounds_toArray]
  · have := len_erase xs k
    omega
end

/-! ### xs[a:b] = ys -/
section
variable {prog : Program} {w : World} {A : Around} {E : Value → Shared → Prop} {s : Shared}
theorem splice_eq (its its2 : List Value) (a c : Nat) : its.toArray.extract 0 a ++ its2.toArray ++ its.toArray.extract c its.toArray.size = (its.take a ++ its2 ++ its.drop c).toArray := by
  apply Array.toList_inj.mp
  first
    | (simp
       exact List.take_of_length_le (by simp))
    | simp [List.take_of_length_le]
    | simp
theorem bounds_run {a c n : Nat} (hac : a ≤ c) (hc : c ≤ n) : sliceBounds (some (a : Int)) (some (c : Int)) none n = ((a : Int), (c : Int), 1) := by
  simp only [sliceBounds, Option.getD_none]
  have h1 : ¬ ((a : Int) < 0) := by omega
  have h2 : ¬ ((c : Int) < 0) := by omega
  simp only [h1, h2, if_false, show (1 : Int) > 0 by decide, if_true]
  congr 1
  · omega
  · congr 1; omega
set_option maxRecDepth 100000 in
/-- list.__setitem__ with a slice of step one and another list -/
theorem setItem_slice {l b sl : Addr} {items new : Array Value} {n n2 : Nat} {vl vu : Value} {a c : Nat} {Q : Unit → Shared → Prop}
    (e : s.heap.get? l = some { cls := .type "list", data := .seq items n }) (e2 : s.heap.get? b = some { cls := .type "list", data := .seq new n2 }) (hne : l ≠ b)
    (hs : s.heap.IsSliceOf sl vl vu .none) (pl : IsPart vl (some (a : Int))) (pu : IsPart vu (some (c : Int))) (hac : a ≤ c) (hc : c ≤ items.size)
    (hsz : items.size + new.size ≤ sizeLine) (h : Q () { s with heap := s.heap.update l (Obj.mapSeq fun xs => xs.extract 0 a ++ new ++ xs.extract c xs.size) }) :
    wpAny (model prog w) A (setItem (.ref l) (.ref sl) (.ref b)) Q E s := by
  have hl : s.heap.IsList l items := PySem.IsL.isList e
  have hb : s.heap.IsList b new := PySem.IsL.isList e2
  obtain ⟨os, hos, hcs, hds⟩ := id hs
  have hTs : s.TypeIs (.ref sl) "slice" := ⟨os, hos, hcs⟩
  have hstep : ¬ ((rawPart none == rawInt 0) = true) := Bool.false_ne_true
  have hsame : Builtin.List.listSameRef (.ref l) (.ref b) = false := by
    unfold Builtin.List.listSameRef
    exact beq_eq_false_iff_ne.mpr hne
  have hmax : (max (a : Int) (c : Int)).toNat = c := by omega
  have hz' : ((fun xs : Array Value => xs.extract 0 a ++ new ++ xs.extract c xs.size) items).size ≤ sizeLine + 1 := by
    simp only [Array.size_append, Array.size_extract]
    omega
  unfold setItem
  try with_reducible refine wpAny_holding ?_
  first | refine wpAny_bind (wpAny_pure ?_) | skip
  refine wpAny_bind (wpAny_sequenceKey hl.typeIs (by decide) ?_)
  refine wpAny_bind (wpAny_callSpecial?_slot (name := Str.ofString "__setitem__") hl.typeIs slot_list_setitem
    (wpAny_call_entry slot_list_setitem hl.typeIs entry_list_setitem ?_ (args_list_setitem _ _ _)))
  show wpAny _ _ (Builtin.List.listSubscript? (.ref sl) >>= _) _ _ s
  refine wpAny_bind ?_
  unfold Builtin.List.listSubscript?
  refine wpAny_bind (wpAny_specialOf hTs slice_no_index ?_)
  simp only [Option.isNone_none, if_true]
  refine wpAny_pure ?_
  show wpAny _ _ (typeOf (.ref sl) >>= _) _ _ s
  refine wpAny_bind (wpAny_typeOf hTs ?_)
  first
    | rw [if_neg (by decide)]
    | refine PySem.W.KFB.if_not (by decide) ?_
  rw [listSliceParts_eq]
  refine wpAny_bind (wpAny_bind (wpAny_field hos hds (x := .none) rfl (wpAny_bind (wpAny_listPart .none ?_))))
  rw [if_neg hstep]
  refine wpAny_bind (wpAny_field hos hds (x := vl) rfl (wpAny_bind (wpAny_listPart pl ?_)))
  refine wpAny_bind (wpAny_field hos hds (x := vu) rfl (wpAny_bind (wpAny_listPart pu (wpAny_pure ?_))))
  first
    | simp only [hsame, Bool.false_eq_true, if_false]
    | refine PySem.W.KFB.if_not hsame ?_
    | (dsimp only
       rw [if_neg (by rw [hsame]; exact Bool.false_ne_true)])
  refine wpAny_bind (m := Builtin.List.listAllItems (.ref b) "must assign iterable to extended slice") ?_
  unfold Builtin.List.listAllItems
  refine wpAny_bind (wpAny_typeOf hb.typeIs ?_)
  first
    | refine PySem.W.KFB.if_so (by decide) ?_
    | rw [if_pos (by decide)]
    | simp only [beq_self_eq_true, Bool.true_or, if_true]
  unfold Builtin.List.listItems
  refine wpAny_bind (wpAny_seqItems e2 rfl (wpAny_pure ?_))
  refine wpAny_bind (wpAny_bind (wpAny_seqItems e rfl (wpAny_pure ?_)))
  refine wpAny_bind (wpAny_of_eq ((sliceIndices_raw (some (a : Int)) (some (c : Int)) none items.size (by simp)).trans (congrArg (pure : Int × Int × Int → Sem (Int × Int × Int)) (bounds_run hac hc))) ?_)
  show wpAny _ _ (if ((1 : Int) == 1) = true then _ else _) _ _ s
  rw [if_pos (by decide)]
  refine wpAny_bind (wpAny_rule ?_)
  first
    | simp only [notLongL hsz, Bool.false_eq_true, if_false]
    | refine PySem.W.KFB.if_not (notLongL hsz) ?_
  first | refine wpAny_bind (wpAny_pure ?_) | skip
  show wpAny _ _ (updateSeq l (fun xs => xs.extract 0 ((a : Int)).toNat ++ new ++ xs.extract (max (a : Int) (c : Int)).toNat xs.size) >>= _) _ _ s
  rw [hmax, Int.toNat_natCast]
  refine wpAny_bind (wpAny_updateSeq (hz := Nat.le_trans (Nat.le_add_right _ _) hsz) (_hz' := hz') e rfl ?_)
  refine wpAny_bind (wpAny_letGo ?_)
  first
    | exact wpAny_bind (wpAny_pure (wpAny_pure ⟨.none, rfl, wpAny_pure h⟩))
    | exact wpAny_pure ⟨.none, rfl, wpAny_pure h⟩
end

section
variable {X : Cx}
/-- xs[a:c] = ys of another list, at the value level: sl is the slice object that was just made -/
theorem set_slice {pins : List (Addr × Obj)} {s : Shared} {σ : St} {H : Hp} {l b sl : Addr} {xs ys : List V} {a c : Int} {vl vu : Value} {Q : Unit → Shared → Prop} (I : Inv X pins σ H s)
    (hH : H l = some (.lst xs)) (hB : H b = some (.lst ys)) (hne : l ≠ b) (hs : s.heap.IsSliceOf sl vl vu .none) (ra : RelV (.int a) vl) (rc : RelV (.int c) vu) (h0 : 0 ≤ a) (hac : a ≤ c) (hc : c ≤ xs.length)
    (hz : xs.length + ys.length ≤ sizeLine) (h : ∀ s', Inv X pins σ (upd H l (.lst (xs.take a.toNat ++ ys ++ xs.drop c.toNat))) s' → Q () s') :
    wpAny (model X.prog X.w) X.A (setItem (.ref l) (.ref sl) (.ref b)) Q X.xe s := by
  obtain ⟨ta, rfl⟩ := ra
  obtain ⟨tc, rfl⟩ := rc
  obtain ⟨z, its, n, r, hl, e⟩ := I.lstM hH
  obtain ⟨z2, its2, n2, r2, hl2, e2⟩ := I.lstM hB
  obtain ⟨a', rfl⟩ := Int.eq_ofNat_of_zero_le h0
  obtain ⟨c', rfl⟩ := Int.eq_ofNat_of_zero_le (Int.le_trans h0 hac)
  simp only [Int.toNat_natCast] at h
  refine setItem_slice (a := a') (c := c') e e2 hne hs (.int _ _) (.int _ _) (by omega) (by rw [List.size_toArray]; omega) (by rw [List.size_toArray, List.size_toArray]; omega) (h _ ?_)
  refine I.lset (its' := its.take a' ++ its2 ++ its.drop c') (t' := s.toks) hH e ?_ (Vals.append (Vals.append (r.take _) r2) (r.drop _)) ?_
  · exact splice_eq its its2 a' c'
  · rw [List.length_append, List.length_append, List.length_take, List.length_drop]
    omega
end
end L2

namespace Att
open PySem PySem.W PySem.Calls PyProof.Rows

/-! ### the script -/
theorem ints_of_wellAll {P : Params} {h : Heap} : ∀ (ns : List Int) (vs : List Value), WellAll P h vs (ns.map WData.int) → IntsAre vs ns := by
  intro ns
  induction ns with
  | nil =>
    intro vs w
    rw [List.map_nil] at w
    cases w
    exact .nil
  | cons n ns ih =>
    intro vs w
    rw [List.map_cons] at w
    cases w with
    | cons a b =>
      cases a
      exact .cons _ _ (ih _ b)

theorem script_of {l : OpenLaw} {n : Nat} (hn : l.most = some n) {P : Params} {h : Heap} {args : List WData} {vals : List Value}
    (hpre : l.row.toRowW.claim.pre args = true) (hwl : WellAll P h vals args) :
    ∃ a vs ns, vals = [Value.ref a] ∧ args = [WData.list (ns.map WData.int)] ∧ h.get? a = some { cls := .type "list", data := .seq vs.toArray } ∧ IntsAre vs ns ∧ ns.length ≤ n := by
  have hsh : WShape.hasAll [] args [.list .int] = true := (pre_splitW hpre).1
  have hc : l.pre.holds [] { args := args } = true := (pre_splitW hpre).2
  obtain ⟨d, r, rfl, h1, h2⟩ := hasAllW_cons hsh
  obtain rfl := hasAllW_nil h2
  obtain ⟨xs, rfl, h3⟩ := hasW_list h1
  obtain ⟨ns, rfl⟩ := items_int h3
  have hlen : ns.length ≤ n := by
    unfold OpenLaw.pre at hc
    have h4 : (WTm.not (.lt (.lit (.int (n : Int))) (.len (.arg 0)))).holds [] { args := [.list (ns.map .int)] } = true := by
      have h4 := (holds_andW hc).1
      rw [hn] at h4
      exact h4
    have h5 := condW_of h4 (w_not (w_lt w_lit (w_len_list (w_arg rfl))))
    rw [List.length_map] at h5
    refine Nat.le_of_not_lt fun q => ?_
    have q' : (n : Int) < ((ns.length : Nat) : Int) := by omega
    first
      | (rw [decide_eq_true q'] at h5; exact absurd h5 (by decide))
      | (simp at h5; omega)
  cases hwl with
  | cons w1 w2 =>
    cases w2
    cases w1 with
    | list ho hall => exact ⟨_, _, ns, rfl, rfl, ho, ints_of_wellAll ns _ hall, hlen⟩

theorem post_true (l : OpenLaw) (args : List WData) : l.row.toRowW.claim.post args (.bool true) args = true :=
  postW_of (r := l.row.toRowW) (X := (true == true))
    (show WShape.has [] (.bool true) .bool = true by first | rfl | decide | simp [WShape.has, WShape.arms, WShape.armsAll])
    (show (WTm.eq .res (.lit (.bool true))).value [] { args := args, res := some (.bool true), after := args } = some (.bool (true == true)) from w_eq_bool (w_res rfl) w_lit) rfl

/-! ### the attachment: holds_open's last premise (the goal 'hc' behind k_head) from a wpAny of the law's body -/
theorem attach {l : OpenLaw} {n : Nat} {q : Program} {loose : List Str} {XP : (Str → Option Value) → Heap → Prop} {YP : World → Heap → Prop} {d : DefRec} {x : Str}
    (hn : l.most = some n) (hdf : d.params.defaults = [])
    (hbind : ∀ pm cd doc v : Value, bindArgs (docDef d.name d.params d.body d.scope pm cd doc) ⟨[v], []⟩ = pure [(x, v)])
    (hx : d.scope.names.lookup x = some .local ∨ d.scope.names.lookup x = some .cell)
    (hk : d.scope.kind = .function) (hco : d.scope.isCoroutine = false) (hgen : d.scope.isGenerator = false)
    (body : ∀ (w : World) (s₀ s₁ s : Shared) (mg mb : Str → Option Value) (fa : Addr) (o : Obj) (pm cd doc : Value) (a : Addr) (vs : List Value) (ns : List Int),
      Ground q loose [] XP w s₀ mg mb s₁.heap → YP w s₁.heap →
      s₁.heap.get? fa = some o → o.data = .func (docDef d.name d.params d.body d.scope pm cd doc) → s₁.heap.CodeRec cd d.name → mg d.name = some (.ref fa) →
      s₁.heap.get? a = some { cls := .type "list", data := .seq vs.toArray } → IntsAre vs ns → ns.length ≤ n →
      s.gens = #[] → s.os = s₁.os →
      Fr s₁.heap s₁.heap.objs.size s.heap (bindL (envOfC d.name d.scope s₁.heap.objs.size fa cd).kindOf [(x, .ref a)] fun _ => none) →
      Cl s₁.heap.objs.size (cellsFrom (s₁.heap.objs.size + 1) d.scope.names []) s.heap (bindC (envOfC d.name d.scope s₁.heap.objs.size fa cd).kindOf [(x, .ref a)] fun _ => none) →
      wpAny (model l.prog w) (callerA.deeper (envOfC d.name d.scope s₁.heap.objs.size fa cd)) (execs d.body (envOfC d.name d.scope s₁.heap.objs.size fa cd))
        (fun f s' => f = .ret (.bool true) ∧ OldK s₁.heap s'.heap ∧ s'.os = s₁.os ∧ AllBare s'.gens) (fun _ _ => False) s) :
    WalkO q loose XP YP l.row.toRowW d [] (fun f vs => PySem.call f vs) := by
  intro w s₀ s₁ mg mb G Y fa o pm cd doc dV kV ho hd hcd hD hmg hg args vals as hpre hlay hrd hwl hlo
  obtain rfl : dV = .none := Dflts.none hD hdf
  obtain rfl : kV = .none := Dflts.noKw hD
  obtain ⟨a, vs, ns, rfl, rfl, hobj, hints, hlen⟩ := script_of hn hpre hwl
  refine enter_call ?_
  refine call_cells_ret (o := o) (by rw [depth_caller]; decide) ho (fd_plain hd) G.T.nolimit hcd (hbind pm cd doc (.ref a)) (fun y hy => ?_) (fun h₁ tk F X => ?_) hco hgen hk
  · obtain rfl : y = (x, Value.ref a) := List.mem_singleton.mp hy
    rcases hx with e | e
    · exact .inl e
    · exact .inr ⟨e, cellsFrom_some _ _ _ (.inl e)⟩
  · refine wpAny_mono (body w s₀ s₁ { s₁ with heap := h₁, toks := tk } mg mb fa o pm cd doc a vs ns G Y ho (fd_plain hd) hcd hmg hobj hints hlen hg rfl F X) (fun f s' hq => ?_) (fun _ _ hq => hq)
    obtain ⟨rfl, h2, h3, h4⟩ := hq
    exact ⟨.inl ⟨.bool true, .bool true, [], rfl, fun _ => rfl, .bool true, post_true l _, fun _ => ⟨List.Pairwise.nil, fun _ hm => (nomatch hm)⟩⟩, h2, h3, h4⟩

/-- the same from a codeAny of the CALL (for a layer whose function contracts speak of calls) -/
theorem attach_call {l : OpenLaw} {n : Nat} {q : Program} {loose : List Str} {XP : (Str → Option Value) → Heap → Prop} {YP : World → Heap → Prop} {d : DefRec}
    (hn : l.most = some n) (hdf : d.params.defaults = [])
    (call : ∀ (w : World) (s₀ s₁ : Shared) (mg mb : Str → Option Value) (fa : Addr) (o : Obj) (pm cd doc : Value) (a : Addr) (vs : List Value) (ns : List Int),
      Ground q loose [] XP w s₀ mg mb s₁.heap → YP w s₁.heap →
      s₁.heap.get? fa = some o → o.data = .func (docDef d.name d.params d.body d.scope pm cd doc) → s₁.heap.CodeRec cd d.name → mg d.name = some (.ref fa) →
      s₁.heap.get? a = some { cls := .type "list", data := .seq vs.toArray } → IntsAre vs ns → ns.length ≤ n → s₁.gens = #[] →
      codeAny (model l.prog w) callerA (.call (.ref fa) ⟨[.ref a], []⟩) (fun r s' => r = .ok (.ret (.bool true)) ∧ OldK s₁.heap s'.heap ∧ s'.os = s₁.os ∧ AllBare s'.gens) s₁) :
    WalkO q loose XP YP l.row.toRowW d [] (fun f vs => PySem.call f vs) := by
  intro w s₀ s₁ mg mb G Y fa o pm cd doc dV kV ho hd hcd hD hmg hg args vals as hpre hlay hrd hwl hlo
  obtain rfl : dV = .none := Dflts.none hD hdf
  obtain rfl : kV = .none := Dflts.noKw hD
  obtain ⟨a, vs, ns, rfl, rfl, hobj, hints, hlen⟩ := script_of hn hpre hwl
  refine enter_call (codeAny_mono (call w s₀ s₁ mg mb fa o pm cd doc a vs ns G Y ho (fd_plain hd) hcd hmg hobj hints hlen hg) fun r s' hq => ?_)
  obtain ⟨rfl, h2, h3, h4⟩ := hq
  exact ⟨.inl ⟨.bool true, .bool true, [], rfl, fun _ => rfl, .bool true, post_true l _, fun _ => ⟨List.Pairwise.nil, fun _ hm => (nomatch hm)⟩⟩, h2, h3, h4⟩

/-- the same where the top left finished generators (o_head chose holds_openN): nothing may have changed at all and no generator may be left -/
theorem attachN {l : OpenLaw} {n : Nat} {q : Program} {loose : List Str} {XP : (Str → Option Value) → Heap → Prop} {YP : World → Heap → Prop} {d : DefRec} {x : Str}
    (hn : l.most = some n) (hdf : d.params.defaults = [])
    (hbind : ∀ pm cd doc v : Value, bindArgs (docDef d.name d.params d.body d.scope pm cd doc) ⟨[v], []⟩ = pure [(x, v)])
    (hx : d.scope.names.lookup x = some .local ∨ d.scope.names.lookup x = some .cell)
    (hk : d.scope.kind = .function) (hco : d.scope.isCoroutine = false) (hgen : d.scope.isGenerator = false)
    (body : ∀ (w : World) (s₀ s₁ s : Shared) (mg mb : Str → Option Value) (fa : Addr) (o : Obj) (pm cd doc : Value) (a : Addr) (vs : List Value) (ns : List Int),
      Ground q loose [] XP w s₀ mg mb s₁.heap → YP w s₁.heap →
      s₁.heap.get? fa = some o → o.data = .func (docDef d.name d.params d.body d.scope pm cd doc) → s₁.heap.CodeRec cd d.name → mg d.name = some (.ref fa) →
      s₁.heap.get? a = some { cls := .type "list", data := .seq vs.toArray } → IntsAre vs ns → ns.length ≤ n →
      s.gens = #[] → s.os = s₁.os →
      Fr s₁.heap s₁.heap.objs.size s.heap (bindL (envOfC d.name d.scope s₁.heap.objs.size fa cd).kindOf [(x, .ref a)] fun _ => none) →
      Cl s₁.heap.objs.size (cellsFrom (s₁.heap.objs.size + 1) d.scope.names []) s.heap (bindC (envOfC d.name d.scope s₁.heap.objs.size fa cd).kindOf [(x, .ref a)] fun _ => none) →
      wpAny (model l.prog w) (callerA.deeper (envOfC d.name d.scope s₁.heap.objs.size fa cd)) (execs d.body (envOfC d.name d.scope s₁.heap.objs.size fa cd))
        (fun f s' => f = .ret (.bool true) ∧ (∀ b o, s₁.heap.get? b = some o → s'.heap.get? b = some o) ∧ s'.os = s₁.os ∧ s'.gens = #[]) (fun _ _ => False) s) :
    WalkN q loose XP YP l.row.toRowW d [] (fun f vs => PySem.call f vs) := by
  intro w s₀ s₁ mg mb G Y fa o pm cd doc dV kV ho hd hcd hD hmg hg args vals as hpre hlay hrd hwl hlo
  obtain rfl : dV = .none := Dflts.none hD hdf
  obtain rfl : kV = .none := Dflts.noKw hD
  obtain ⟨a, vs, ns, rfl, rfl, hobj, hints, hlen⟩ := script_of hn hpre hwl
  refine enter_callW ?_
  refine call_cells_ret (o := o) (by rw [depth_caller]; decide) ho (fd_plain hd) G.T.nolimit hcd (hbind pm cd doc (.ref a)) (fun y hy => ?_) (fun h₁ tk F X => ?_) hco hgen hk
  · obtain rfl : y = (x, Value.ref a) := List.mem_singleton.mp hy
    rcases hx with e | e
    · exact .inl e
    · exact .inr ⟨e, cellsFrom_some _ _ _ (.inl e)⟩
  · refine wpAny_mono (body w s₀ s₁ { s₁ with heap := h₁, toks := tk } mg mb fa o pm cd doc a vs ns G Y ho (fd_plain hd) hcd hmg hobj hints hlen hg rfl F X) (fun f s' hq => ?_) (fun _ _ hq => hq)
    obtain ⟨rfl, h2, h3, h4⟩ := hq
    exact ⟨.inl ⟨.bool true, .bool true, [], rfl, fun _ => rfl, .bool true, post_true l _, fun _ => ⟨List.Pairwise.nil, fun _ hm => (nomatch hm)⟩⟩, h2, h3, h4⟩

/-! ### rules over ANY heap (no ledger) from facts about the written part K: the library's own take a ledger (News) for what they write -/
section
variable {prog : Program} {w : World} {A : Around} {E : Value → Shared → Prop} {s : Shared} {K : Frag}

/-- a def of the module, or a method (qual 'C.m'), entered: the frame is the next address; cells behind it -/
theorem call_fn {R : Result → Shared → Prop} {name qual : Str} {params : Arguments} {body : List Stmt} {scope : Scope} {dV kV doc pm cdv ct oc : Value} {an od : Option Addr} {osl : Array (Option Value)} {f : Addr} {args : Args} {binds : List (Str × Value)}
    (X : K.In s.heap) (hlim : s.heap.NoLimit) (ho : K.lookup f = some ⟨oc, od, .func (fnOf name qual params body scope dV kV doc pm an cdv ct), osl⟩) (hcd : codeIn K cdv qual = true) (hroom : A.depth < recursionLimit)
    (hbind : BindsTo s (fnOf name qual params body scope dV kV doc pm an cdv ct) args binds)
    (hkind : (binds.all fun y => scope.names.lookup y.1 == some .local || scope.names.lookup y.1 == some .cell) = true)
    (h : ∀ s₁, InCallC s s.heap.objs.size (bindL (envOfC qual scope s.heap.objs.size f cdv).kindOf binds fun _ => none) (cellsFrom (s.heap.objs.size + 1) scope.names [])
        (bindC (envOfC qual scope s.heap.objs.size f cdv).kindOf binds fun _ => none) s₁ →
      wpAny (model prog w) (A.deeper (envOfC qual scope s.heap.objs.size f cdv)) (execs body (envOfC qual scope s.heap.objs.size f cdv))
        (fun fl s' => R (.ok (.ret (match fl with | .ret v => v | _ => .none))) s')
        (fun e s' => wpAny (model prog w) (A.deeper (envOfC qual scope s.heap.objs.size f cdv)) (leaving (envOfC qual scope s.heap.objs.size f cdv) e) (fun _ s'' => R (.error e) s'') (fun e' s'' => R (.error e') s'') s') s₁)
    (hco : scope.isCoroutine = false) (hgen : scope.isGenerator = false) (hk : scope.kind = .function) : codeAny (model prog w) A (.call (.ref f) args) R s := by
  refine codeAny_call_function hroom (X _ _ ho) rfl hco hgen rfl (codeRec_of X hcd) (hbind _ _ _ _ ?_)
  refine wpAny_newFunctionEnv_cells hk (kindsX hkind _) fun env he s₁ x => ?_
  subst he
  exact ⟨hlim.keeps x.toInCall.keep, codeAny_func (h s₁ x)⟩

/-- C(..): dict at size, instance at size + 1, then __init__ -/
theorem make_obj {R : Result → Shared → Prop} {C fI : Addr} {rest : List Value} {kw : List (Str × Value)}
    (X : K.In s.heap) (hm : makesIn K C = true) (hi : findIn K (.ref C) "__init__" = some (some (.ref fI))) (hf : isFn K (.ref fI) = true)
    (h : codeAny (model prog w) (A.under (.builtin "type.__call__" ⟨.ref C :: rest, kw⟩)) (.call (.ref fI) ⟨.ref (s.heap.objs.size + 1) :: rest, kw⟩) (InitBack (s.heap.objs.size + 1) R)
      { s with heap := (s.heap.push emptyDict).push (instObj C s.heap.objs.size) }) : codeAny (model prog w) A (.call (.ref C) ⟨rest, kw⟩) R s := by
  obtain ⟨hh, g, d, t, os⟩ := s
  exact make_core (makes_of X hm) (looks_findIn X hi) (fun self => bind_fn X self (beq_iff_eq.mp hf)) (.inl rfl) h

/-- x.name where the instance's dict holds the name and the class does not -/
theorem get_field {x C : Addr} {ox : Obj} {es : List DictEntry} {n : Nat} {name : Str} {expr : Bool} {v : Value} {Q : Value → Shared → Prop}
    (X : K.In s.heap) (I : PySem.W.InstAt s.heap x ox C (some (dictOf es n))) (hg : plainGet K C name = true) (hh : hasDictIn K C = true) (ha : findIn K (.ref C) name = some none)
    (hl : getL name es = some (some v)) (hv : handedIn v = true) (h : Q v { s with toks := s.toks + 1 }) : wpAny (model prog w) A (getAttr (.ref x) name expr) Q E s :=
  get_value X I (plainGet_of hg).1 (findObj_own hh ha rfl hl) hv h

/-- x.m(..): the method found in the class -/
theorem get_method {x C f : Addr} {ox : Obj} {es : List DictEntry} {n : Nat} {name : Str} {pl : Sem Bool} {Q : Value × List Value → Shared → Prop}
    (X : K.In s.heap) (I : PySem.W.InstAt s.heap x ox C (some (dictOf es n))) (hg : plainGet K C name = true) (hf : findIn K (.ref C) name = some (some (.ref f))) (ht : isFn K (.ref f) = true)
    (hl : getL name es = some none) (h : Q (.ref f, [.ref x]) s) : wpAny (model prog w) A (getMethod (.ref x) name pl) Q E s :=
  method_fn X I (plainGet_of hg).1 (plainGet_of hg).2 hf (beq_iff_eq.mp ht) (by show (lookIn name (dictOf es n)).map _ = _; rw [lookIn_dict, hl]; rfl) h

/-! the whole heap as the ledger: makes every rule that writes through a ledger a rule over any heap -/
def noObjs (h : Heap) : Heap := { h with objs := #[] }
theorem noObjs_get (h : Heap) (b : Addr) : (noObjs h).get? b = none := by
  cases e : (noObjs h).get? b with
  | none => rfl
  | some o => exact absurd (Heap.lt_size e) (Nat.not_lt_zero _)
def ledger (h : Heap) (L d : Addr) : List (Addr × Obj) := (List.range h.objs.size).filterMap fun a => if a = L ∨ a = d then none else (h.get? a).map fun o => (a, o)
theorem mem_ledger {h : Heap} {L d a : Addr} {o : Obj} : (a, o) ∈ ledger h L d ↔ a ≠ L ∧ a ≠ d ∧ h.get? a = some o := by
  unfold ledger
  rw [List.mem_filterMap]
  constructor
  · rintro ⟨b, _, e⟩
    split at e
    · cases e
    · rename_i hb
      obtain ⟨o', ho, e'⟩ := Option.map_eq_some_iff.mp e
      cases e'
      exact ⟨fun q => hb (.inl q), fun q => hb (.inr q), ho⟩
  · rintro ⟨n1, n2, ho⟩
    refine ⟨a, List.mem_range.mpr (Heap.lt_size ho), ?_⟩
    rw [if_neg (show ¬ (a = L ∨ a = d) from fun q => q.elim n1 n2), ho] <;> rfl
theorem news_ledger {h : Heap} {L d : Addr} {od : Obj} (hne : d ≠ L) (ho : h.get? d = some od) : News (noObjs h) L h ([] ++ (d, od) :: ledger h L d) := by
  rintro ⟨a, o⟩ hp
  rcases List.mem_cons.mp hp with e | hp
  · cases e
    exact ⟨ho, hne, noObjs_get _ _⟩
  · obtain ⟨n1, n2, e⟩ := mem_ledger.mp hp
    exact ⟨e, n1, noObjs_get _ _⟩
theorem fr_all {h : Heap} {L : Addr} {m : Str → Option Value} (n : h.Ns L m) : Fr (noObjs h) L h m :=
  ⟨n, fun b o e => (by rw [noObjs_get] at e; cases e), Nat.zero_le _⟩
/-- Upd of the head entry (for append_K, setItem_K ..) -/
theorem upd_ledger {h : Heap} {L d : Addr} {o o' : Obj} : Upd d o o' ((d, o) :: ledger h L d) ((d, o') :: ledger h L d) :=
  .head fun ⟨_, _⟩ hp => (mem_ledger.mp hp).2.1

/-- x.name = v over any heap: L is any namespace of the heap (the frame's, say): its map stays, its object is not told; all else but the dict stays -/
theorem set_field {x C dx L : Addr} {ox : Obj} {m : Str → Option Value} {es es' : List DictEntry} {n n' : Nat} {name : Str} {v : Value} {Q : Unit → Shared → Prop}
    (X : K.In s.heap) (I : PySem.W.InstAt s.heap x ox C (some (dictOf es n))) (hd : ox.dict = some dx) (hL : s.heap.Ns L m) (hne : dx ≠ L)
    (hs : findIn K (.ref C) "__setattr__" = some (some (.builtin "object.__setattr__"))) (hp : plainOver K C = true) (ht : takerIn K C name = some none) (hh : hasDictIn K C = true) (hl : (getL name es).isSome = true)
    (e : (putL name (PyData.keyHash w.params name) (.str name (s.toks + 1)) v es, putN name es n) = (es', n')) (hz : es'.length ≤ 1000)
    (h : ∀ h' : Heap, h'.Ns L m → h'.get? dx = some (dictOf es' n') → (∀ b o, b ≠ dx → b ≠ L → s.heap.get? b = some o → h'.get? b = some o) → Q () { s with heap := h', toks := s.toks + 2 }) :
    wpAny (model prog w) A (setAttr (.ref x) name v) Q E s := by
  obtain ⟨e1, e2⟩ := Prod.mk.inj e
  have hdx : s.heap.get? dx = some (dictOf es n) := by
    have := I.dict
    rw [hd] at this
    exact this
  refine set_plain X I hs (osa_dict (s := { s with toks := s.toks + 1 }) (h₀ := noObjs s.heap) (L := L) (m := m) (od := dictOf es n) (od' := dictOf es' n') (es := es') (n := n') (pre := []) (post := ledger s.heap L dx)
    (fr_all hL) (news_ledger hne hdx) X I hd hp ht hh hl (fun _ q => nomatch q) (fun ⟨_, _⟩ q => (mem_ledger.mp q).2.1) (by rw [putName_dict, e1, e2]) rfl hz fun h' F' N' => ?_)
  exact h h' F'.ns (N'.get (List.Mem.head _)) fun b o n1 n2 ho => N'.get (List.Mem.tail _ (mem_ledger.mpr ⟨n2, n1, ho⟩))
end
end Att

namespace L2
open PySem PySem.Spec PyProof.Rows

theorem vals_ints : ∀ {vs : List Value} {ns : List Int}, IntsAre vs ns → Vals (ns.map V.int) vs
  | _, _, .nil => .nil
  | _, _, .cons n t h => .cons ⟨t, rfl⟩ (vals_ints h)

/-- nothing is tracked but the script, known to the object (or it is an object of the module) -/
def Only (H : Hp) : Prop := ∀ b, H b = none ∨ ∃ o xs, H b = some (.frz o (.lst xs))

/-- THE HEAD: the law's promise, at the heap behind the top. F, the promise of the law's def, may use that base is part of the heap (so K.In base, base.Ns mainGlobals mg stand in Mod) -/
theorem law_call {P : Program} {w : World} {K : PySem.W.Frag} {mg mb : Str → Option Value} {CX : CXT} {k : Nat} {fa a : Addr} {fd : FuncData} {x : Str} {sp : Sp} {s₁ : Shared} {vs : List Value} {ns : List Int}
    (KX : K.In s₁.heap) (hns : s₁.heap.Ns mainGlobals mg) (hb : s₁.heap.Ns builtinsNs mb) (hbb : ∀ x : Str, x ≠ "__name__" → mb x = bootBuiltins x) (hlim : s₁.heap.NoLimit) (hg : s₁.gens = #[])
    (ha : s₁.heap.get? a = some { cls := .type "list", data := .seq vs.toArray }) (hi : IntsAre vs ns) (hl : ns.length ≤ sizeLine) (hr : Room k callerA)
    (F : ∀ base : Heap, K.In base → base.Ns mainGlobals mg → FnOk P w K mg base CX k fa fd [x] sp) (hbind : ∀ (s : Shared) (u : Value), BindsTo s fd ⟨[u], []⟩ [(x, u)])
    (hsp : ∀ H : Hp, Only H → SqL K H a (ns.map V.int) → sp [.ref a] H (fun v _ => v = .bl true) fun _ _ _ => False)
    (hCX : ∀ H e s', CX [] H s₁ (fun _ _ _ => False) e s' → False) :
    codeAny (model P w) callerA (.call (.ref fa) ⟨[.ref a], []⟩) (fun r s' => r = .ok (.ret (.bool true)) ∧ OldK s₁.heap s'.heap ∧ s'.os = s₁.os ∧ AllBare s'.gens) s₁ := by
  have rv := vals_ints hi
  have lenV := hi.length
  -- from an abstract heap in which nothing but the script may be tracked
  have core : ∀ H : Hp, Only H → SqL K H a (ns.map V.int) → HOk P w H s₁.heap → (∀ b, H b ≠ none → b = a) → (H a ≠ none → K.lookup a = none) →
      codeAny (model P w) callerA (.call (.ref fa) ⟨[.ref a], []⟩) (fun r s' => r = .ok (.ret (.bool true)) ∧ OldK s₁.heap s'.heap ∧ s'.os = s₁.os ∧ AllBare s'.gens) s₁ := by
    intro H hO hS hok hA hK
    have base_of : ∀ {b : Addr} {o : Obj}, s₁.heap.get? b = some o → H b = none → (hidT s₁.heap H).get? b = some o := fun e n => hidT_get e n
    have noA : ∀ {b : Addr} {o : Obj} {es : Array DictEntry} {ep : Nat}, s₁.heap.get? b = some o → o.data = .dict es ep → H b = none := fun {b o es ep} e d => by
      cases q : H b with
      | none => rfl
      | some u =>
        have e' : b = a := hA b (by rw [q]; simp)
        subst e'
        rw [ha] at e; cases e
        have d' : Data.seq vs.toArray _ = Data.dict es ep := d
        cases d'
    have nsK : ∀ {b : Addr} {m : Str → Option Value}, s₁.heap.Ns b m → (hidT s₁.heap H).Ns b m := fun {b m} ⟨o, es, ep, e, d, r⟩ => ⟨o, es, ep, base_of e (noA e d), d, r⟩
    have hKb : K.In (hidT s₁.heap H) := fun b o e => base_of (KX b o e) (by
      cases q : H b with
      | none => rfl
      | some u =>
        have e' : b = a := hA b (by rw [q]; simp)
        subst e'
        rw [hK (by rw [q]; simp)] at e; cases e)
    have hM : Mod K mg (hidT s₁.heap H) := ⟨hKb, nsK hns, ⟨mb, nsK hb, hbb⟩, let ⟨mc, h1, h2⟩ := hlim; ⟨mc, nsK h1, h2⟩⟩
    have e0 : Env0 P w K mg (hidT s₁.heap H) callerA [] s₁ H := ⟨rfl, hM, fun b o e => of_hidT e, Nat.le_of_eq (hidT_size _ _), trivial, fun b hb => absurd (show b ∈ ([] : List Addr) from hb) (by simp), hok, .of_eq hg⟩
    refine codeAny_mono ((F _ hKb (nsK hns)).run callerA [] s₁ H ⟨[.ref a], []⟩ [.ref a] [.ref a] _ _ hr e0 (hbind s₁ (.ref a)) (.cons rfl .nil) (hsp H hO hS)) fun r s' h => ?_
    cases r with
    | error e => exact (hCX H e s' h).elim
    | ok fl =>
      cases fl with
      | next => exact False.elim h
      | brk => exact False.elim h
      | cont => exact False.elim h
      | ret u =>
        obtain ⟨v, H', os, bare, un, hok', r', q⟩ := h
        have q' : v = .bl true := q
        subst q'
        obtain rfl : u = Value.bool true := r'
        refine ⟨rfl, OldK.of_keep fun b o e => ?_, os, bare⟩
        cases q : H b with
        | none => exact un.keep b o e q (by intro z; exact absurd (show b ∈ ([] : List Addr) from z) (by simp)) (by simp)
        | some u =>
          rcases hO b with z | ⟨ob, xs, z⟩
          · rw [q] at z; cases z
          · have z2 := un.frzs b ob _ z
            obtain ⟨e1, _⟩ := hok b _ z
            obtain ⟨e2, _⟩ := hok' b _ z2
            rw [e] at e1; cases e1
            exact e2
  cases hk : K.lookup a with
  | some o =>
    -- the script is one of the module's own objects
    have e := KX a o hk
    rw [ha] at e
    cases e
    refine core (fun _ => none) (fun _ => .inl rfl) (.inr ⟨_, vs.toArray, _, hk, rfl, rfl, rfl, by rw [List.size_toArray, lenV]; exact hl, by simpa using rv⟩) (fun b u z => by have z' : (none : Option HO) = some u := z; cases z') (fun b z => absurd rfl z) fun z => absurd rfl z
  | none =>
    refine core (fun b => if b = a then some (.frz { cls := .type "list", data := .seq vs.toArray } (.lst (ns.map V.int))) else none) (fun b => ?_) (.inl (.inr ⟨{ cls := .type "list", data := .seq vs.toArray }, if_pos rfl⟩)) (fun b u z => ?_) (fun b z => ?_) fun _ => hk
    · by_cases hb : b = a
      · exact .inr ⟨_, _, if_pos hb⟩
      · exact .inl (if_neg hb)
    · by_cases hb : b = a
      · have z' := (if_pos hb).symm.trans z
        cases z'
        subst hb
        exact ⟨ha, by rw [List.length_map]; exact hl, vs, _, rv, ha⟩
      · have z' := (if_neg hb).symm.trans z
        cases z'
    · by_cases hb : b = a
      · exact hb
      · exact absurd (if_neg hb) z
end L2

namespace L2
open PySem PySem.Spec PyProof.Rows

abbrev KOf {K : PySem.W.Frag} {h : Heap} (_ : K.In h) : PySem.W.Frag := K

/-- the goal that k_head leaves (case hc), from the law's promise. F gives the function object fd (K's own) once, then the promise over every base -/
theorem walk_of {l : PySem.W.OpenLaw} {n k : Nat} {q : Program} {loose : List Str} {XP : (Str → Option Value) → Heap → Prop} {YP : World → Heap → Prop} {d : DefRec} {K : Params → PySem.W.Frag} {CX : World → CXT} {sp : World → Sp} {x : Str}
    (hn : l.most = some n) (hn2 : n ≤ sizeLine) (hdf : d.params.defaults = []) (hr : Room k callerA)
    (hY : ∀ (w : World) (h : Heap), YP w h → (K w.params).In h)
    (F : ∀ (w : World) (mg : Str → Option Value) (fa : Addr) (h : Heap), (K w.params).In h → h.Ns mainGlobals mg → mg d.name = some (.ref fa) →
      ∃ fd : FuncData, (∀ (s : Shared) (u : Value), BindsTo s fd ⟨[u], []⟩ [(x, u)]) ∧
        ∀ base : Heap, (K w.params).In base → base.Ns mainGlobals mg → FnOk l.prog w (K w.params) mg base (CX w) k fa fd [x] (sp w))
    (hsp : ∀ (w : World) (H : Hp) (a : Addr) (ns : List Int), ns.length ≤ n → Only H → SqL (K w.params) H a (ns.map V.int) → sp w [.ref a] H (fun v _ => v = .bl true) fun _ _ _ => False)
    (hCX : ∀ (w : World) (H : Hp) (s : Shared) (e : Value) (s' : Shared), CX w [] H s (fun _ _ _ => False) e s' → False) :
    PySem.W.WalkO q loose XP YP l.row.toRowW d [] (fun f vs => PySem.call f vs) := by
  refine Att.attach_call hn hdf fun w s₀ s₁ mg mb fa o pm cd doc a vs ns G Y ho hd hcd hmg hobj hints hlen hg => ?_
  have KX := hY w _ Y
  obtain ⟨fd, hb, hF⟩ := F w mg fa _ KX G.T.g hmg
  exact law_call KX G.T.g G.T.b G.T.builtins G.T.nolimit hg hobj hints (Nat.le_trans hlen hn2) hr hF hb (fun H hO hS => hsp w H a ns hlen hO hS) fun H e s' => hCX w H s₁ e s'
/-- the same where the promise hangs on the written part alone: (sp := My.sp_law), no hole under a binder -/
theorem walk_ofK {l : PySem.W.OpenLaw} {n k : Nat} {q : Program} {loose : List Str} {XP : (Str → Option Value) → Heap → Prop} {YP : World → Heap → Prop} {d : DefRec} {K : Params → PySem.W.Frag} {CX : CXT} {sp : PySem.W.Frag → Sp} {x : Str}
    (hn : l.most = some n) (hn2 : n ≤ sizeLine) (hdf : d.params.defaults = []) (hr : Room k callerA)
    (hY : ∀ (w : World) (h : Heap), YP w h → (K w.params).In h)
    (F : ∀ (w : World) (mg : Str → Option Value) (fa : Addr) (h : Heap), (K w.params).In h → h.Ns mainGlobals mg → mg d.name = some (.ref fa) →
      ∃ fd : FuncData, (∀ (s : Shared) (u : Value), BindsTo s fd ⟨[u], []⟩ [(x, u)]) ∧
        ∀ base : Heap, (K w.params).In base → base.Ns mainGlobals mg → FnOk l.prog w (K w.params) mg base CX k fa fd [x] (sp (K w.params)))
    (hsp : ∀ (K : PySem.W.Frag) (H : Hp) (a : Addr) (ns : List Int), ns.length ≤ n → Only H → SqL K H a (ns.map V.int) → sp K [.ref a] H (fun v _ => v = .bl true) fun _ _ _ => False)
    (hCX : ∀ (H : Hp) (s : Shared) (e : Value) (s' : Shared), CX [] H s (fun _ _ _ => False) e s' → False) :
    PySem.W.WalkO q loose XP YP l.row.toRowW d [] (fun f vs => PySem.call f vs) :=
  walk_of (K := K) (CX := fun _ => CX) (sp := fun w => sp (K w.params)) hn hn2 hdf hr hY F (fun w H a ns h1 h2 h3 => hsp (K w.params) H a ns h1 h2 h3) fun _ H s e s' => hCX H s e s'
end L2

/- THE LAST THEOREM (shape; LID, My.* are yours):
   My.Adr: a structure of the addresses that your layer names (classes, functions); My.Txt K t: a structure (Prop) of the equations over K;
   My.txt_mk : {K} {implicit addresses ..} (e1 : nsIn K mainGlobals "law" = some (some (.ref f))) (e2 : K.lookup f = some ⟨oc, od, .func (fnOf "law" "law" params body scope dV kV doc pm an cdv ct), sl⟩) (e3 : codeIn K cdv "law" = true) .. : ∃ t, My.Txt K t

set_option maxRecDepth 100000 in
set_option maxHeartbeats 0 in
theorem PySem.Challenge.cw_LID_holds : PySem.Challenge.rw_LID.Holds := by
  w_on; o_law; k_head; (case hw => w_witness2)
  k_fill
  refine L2.walk_of (l := PySem.Challenge.rw_LID) (n := 63) (k := 40) (x := "script") (CX := fun w => ..) (sp := fun _ => My.sp_law) rfl (by decide) rfl ⟨rfl, by decide, by decide⟩ (fun w h Y => PySem.W.kIn_of Y) ?F ?S ?C
  case F =>
    intro w mg fa h KX G hmg
    have T : ∃ t, My.Txt (L2.KOf KX) t := by
      dsimp only [L2.KOf]                          -- K must stand as «<heap const> w.params» for k_is
      refine' My.txt_mk ?e1 ?e2 ?e3 ..
      (case e1 => PySem.W.k_is)                    -- in the order: a name -> its address -> its object -> its parts
      (case e2 => PySem.W.k_is)
      ..
    obtain ⟨t, T⟩ := T
    have e0 := hmg.symm.trans (PySem.W.mg_of KX G T.law)
    cases e0                                       -- fa is the law's own address
    exact ⟨_, fun s u => .of_eq rfl, fun base kb nb => My.law_fn T kb nb⟩     -- if «.of_eq rfl» comes too early: refine' ⟨_, ?b, fun base kb nb => My.law_fn T kb nb⟩; exact fun s u => .of_eq rfl
  case S => exact fun w H a ns hl hO hS => ..
  case C => exact ..
(the tactic k_is has no namespace: write k_is) -/

/-! SHORT WORDS over the layer: a def of the text, its body, what a loop and a test want. -/
namespace L2
open PySem PySem.Spec PyProof.Rows

/-! ### the text by places -/
/-- the j-th statement of a class's body -/
def inClass (s : Stmt) (j : Nat) : Stmt := match s with
  | .ClassDef _ _ _ body _ _ _ _ _ _ _ => body.getD j (.Pass ⟨0, 0, 0, 0⟩)
  | _ => .Pass ⟨0, 0, 0, 0⟩
def defArgs (s : Stmt) : Arguments := match s with
  | .FunctionDef _ a _ _ _ _ _ _ _ _ => a
  | _ => { posonlyargs := [], args := [], vararg := none, kwonlyargs := [], kw_defaults := [], kwarg := none, defaults := [] }
def defBody (s : Stmt) : List Stmt := match s with
  | .FunctionDef _ _ b _ _ _ _ _ _ _ => b
  | _ => []
def defScope (s : Stmt) : Scope := match s with
  | .FunctionDef _ _ _ _ _ _ sc _ _ _ => sc
  | _ => { kind := .function, names := [], isGenerator := false, isCoroutine := false }

/-! ### no exception leaves a def -/
abbrev CX0 : CXT := fun _ _ _ _ _ _ => False
abbrev E0 : XK := fun _ _ _ => False
theorem pass0 {X : Cx} : Passes CX0 X E0 := fun _ _ _ _ _ _ _ h => h.elim

/-! ### a def (or method) of the text as it stands behind the top -/
structure Fun (K : PySem.W.Frag) (x qual : Str) (st : Stmt) (f : Addr) (fd : FuncData) : Prop where
  ex : ∃ (oc : Value) (od : Option Addr) (kV doc pm : Value) (an : Option Addr) (cdv ct : Value) (osl : Array (Option Value)),
    fd = PySem.W.fnOf x qual (defArgs st) (defBody st) (defScope st) .none kV doc pm an cdv ct ∧ K.lookup f = some ⟨oc, od, .func fd, osl⟩ ∧ PySem.W.codeIn K cdv qual = true
  kp : PySem.W.keepIn K (.ref f) = true
section
variable {P : Program} {w : World} {K : PySem.W.Frag} {mg : Str → Option Value} {base : Heap}
/-- THE RULE for a def: its body as a term of rules, and the reading of that term -/
theorem Fun.ok {x qual : Str} {st : Stmt} {f : Addr} {fd : FuncData} {N ps : List Str} {k : Nat} {sp : Sp} (F : Fun K x qual st f fd) (S : FnScope N ps (defScope st)) (len : ∀ vs H Q E, sp vs H Q E → vs.length = ps.length)
    (hbody : ∀ (cdv : Value) (A : Around) (outer : List Env) (s : Shared) (H : Hp) (vs : List V) (Q : VK) (E : XK), Room k (A.deeper (envOfC qual (defScope st) s.heap.objs.size f cdv)) → sp vs H Q E →
      ∃ t, PSs (cxOf CX0 P w K mg base N qual (defScope st) f cdv A outer s H E).nox (defBody st) t ∧ t { nx := fun _ H' => Q .non H', rt := Q } (start N vs) H) : FnOk P w K mg base CX0 (k + 1) f fd ps sp := by
  obtain ⟨oc, od, kV, doc, pm, an, cdv, ct, osl, rfl, lk, hcd⟩ := F.ex
  refine fn_of lk hcd S len fun A outer s H vs Q E hr hsp => ?_
  obtain ⟨t, h, q⟩ := hbody cdv A outer s H vs Q E hr hsp
  exact ⟨t, h.nox, q⟩
/-- how its arguments bind (no defaults): h is «fun _ _ _ _ _ _ us hl => match us, hl with | [_, _], _ => rfl», one _ a parameter -/
theorem Fun.binds {x qual : Str} {st : Stmt} {f : Addr} {fd : FuncData} {ps : List Str} (F : Fun K x qual st f fd)
    (h : ∀ (kV doc pm : Value) (an : Option Addr) (cdv ct : Value) (us : List Value), us.length = ps.length → bindArgs (PySem.W.fnOf x qual (defArgs st) (defBody st) (defScope st) .none kV doc pm an cdv ct) ⟨us, []⟩ = pure (ps.zip us)) : Binds K fd ps [] := by
  obtain ⟨oc, od, kV, doc, pm, an, cdv, ct, osl, rfl, lk, hcd⟩ := F.ex
  exact .all (h kV doc pm an cdv ct)
theorem fun_mk {x qual : Str} {st : Stmt} {f : Addr} {oc : Value} {od an : Option Addr} {osl : Array (Option Value)} {kV doc pm cdv ct : Value} (l : K.lookup f = some ⟨oc, od, .func (PySem.W.fnOf x qual (defArgs st) (defBody st) (defScope st) .none kV doc pm an cdv ct), osl⟩)
    (c : PySem.W.codeIn K cdv qual = true) (k : PySem.W.keepIn K (.ref f) = true) : Fun K x qual st f (PySem.W.fnOf x qual (defArgs st) (defBody st) (defScope st) .none kV doc pm an cdv ct) := ⟨⟨oc, od, kV, doc, pm, an, cdv, ct, osl, rfl, l, c⟩, k⟩
end
theorem hu_of {A : Around} {k : Nat} (hr : Room k A) : A.units + 1 < cLine := Nat.lt_of_le_of_lt (Nat.add_le_add_left (by decide : 1 ≤ 64) _) hr.units
theorem small1000 {n : Nat} (h : n ≤ 1000) : n < sizeLine := Nat.lt_of_le_of_lt h (by decide)

/-! ### expressions in short: the name that stands in the i-th slot -/
section
variable {X : Cx}
theorem pv (i : Nat) {x : Str} {pos : Pos} (hN : X.N[i]? = some x := by rfl) (hv : Vis X.env.scope x := by first | exact Or.inl rfl | exact Or.inr (Or.inl rfl) | exact Or.inr (Or.inr rfl)) (hd : (x == ("__debug__" : Str)) = false := by decide)
    (hcd : (x == ("__classdict__" : Str)) = false := by decide) : PE X (.Name x pos) (tVar i) := pe_var hN hv hd hcd
end

/-! ### tests -/
theorem iteF {A B : Prop} (h : B) : if false = true then A else B := by
  rw [if_neg Bool.false_ne_true]
  exact h
theorem iteT {A B : Prop} (h : A) : if true = true then A else B := by
  rw [if_pos rfl]
  exact h
theorem ite2 {c A B : Prop} [Decidable c] (h1 : c → A) (h2 : ¬ c → B) : if c then A else B := by
  by_cases h : c
  · rw [if_pos h]
    exact h1 h
  · rw [if_neg h]
    exact h2 h
theorem iteNS {c A B : Prop} [Decidable c] (hc : c) (h : B) : if (!decide c) = true then A else B := by
  rw [decide_eq_true hc]
  exact iteF h

/-! ### heaps -/
/-- all that was tracked is as it was -/
def Same (H H' : Hp) : Prop := ∀ b o, H b = some o → H' b = some o
theorem Same.refl (H : Hp) : Same H H := fun _ _ h => h
theorem Same.trans {H H1 H2 : Hp} (a : Same H H1) (b : Same H1 H2) : Same H H2 := fun c o h => b c o (a c o h)
theorem Same.free {H H' : Hp} (e : Same H H') {l : Addr} (h : H' l = Option.none) : H l = Option.none := by
  cases q : H l with
  | none => rfl
  | some o =>
    rw [e l o q] at h
    cases h
theorem Same.seq {K : PySem.W.Frag} {H H' : Hp} {a : Addr} {xs : List V} (e : Same H H') (h : SqL K H a xs) : SqL K H' a xs := by
  rcases h with (h | ⟨o, h⟩) | h
  · exact .inl (.inl (e _ _ h))
  · exact .inl (.inr ⟨o, e _ _ h⟩)
  · exact .inr h

end L2

set_option Elab.async false
set_option linter.all false
set_option maxRecDepth 100000
namespace L2
open PySem PySem.Spec PyProof.Rows
/-! ### comprehensions: a list comprehension's block in a context of its own -/
def closL (cells : List (Str × Addr)) : List (Str × NameKind) → List (Str × Addr) → List (Str × Addr)
  | [], acc => acc
  | (n, k) :: r, acc => if k == .free then (match cells.lookup n with | some c => closL cells r ((n, c) :: acc) | none => closL cells r acc) else closL cells r acc
theorem closL_forIn {env : Env} : ∀ (names : List (Str × NameKind)) (acc : List (Str × Addr)), (∀ p ∈ names, p.2 = .free → ∃ c, env.cells.lookup p.1 = some c) →
    (forIn names acc fun (x : Str × NameKind) (r : List (Str × Addr)) => (if (x.2 == NameKind.free) = true then (do let a ← cellOf env x.1; pure (ForInStep.yield ((x.1, a) :: r))) else pure (ForInStep.yield r) : Sem (ForInStep (List (Str × Addr))))) = pure (closL env.cells names acc) := by
  intro names
  induction names with
  | nil => intro acc _; rfl
  | cons p r ih =>
    intro acc h
    obtain ⟨n, k⟩ := p
    rw [List.forIn_cons]
    cases hk : k == NameKind.free with
    | false =>
      simp only [hk, Bool.false_eq_true, if_false, pure_bind, closL]
      exact ih acc fun q hq => h q (List.mem_cons_of_mem _ hq)
    | true =>
      have e : k = .free := by simpa using hk
      obtain ⟨c, hc⟩ := h (n, k) List.mem_cons_self e
      simp only [hk, if_true, closL, cellOf, hc, pure_bind]
      exact ih _ fun q hq => h q (List.mem_cons_of_mem _ hq)
theorem closL_eq {scope : Scope} {env : Env} (h : ∀ p ∈ scope.names, p.2 = .free → ∃ c, env.cells.lookup p.1 = some c) : closureFor scope env = pure (closL env.cells scope.names []) := by
  have q := closL_forIn (env := env) scope.names [] h
  simp only [closureFor]
  first
    | exact q
    | (rw [← q]; simp)
    | simpa using q
theorem closL_look {cells : List (Str × Addr)} : ∀ (names : List (Str × NameKind)) (acc : List (Str × Addr)) (y : Str) (c : Addr), (closL cells names acc).lookup y = some c → cells.lookup y = some c ∨ acc.lookup y = some c := by
  intro names
  induction names with
  | nil => intro acc y c h; exact .inr h
  | cons p r ih =>
    intro acc y c h
    obtain ⟨n, k⟩ := p
    unfold closL at h
    split at h
    · split at h
      · rename_i c' hc
        rcases ih _ y c h with q | q
        · exact .inl q
        · rw [List.lookup_cons] at q
          cases e : y == n with
          | true =>
            rw [e] at q
            have e' : y = n := by simpa using e
            subst e'
            have q' : some c' = some c := q
            rw [← q']; exact .inl hc
          | false => rw [e] at q; exact .inr q
      · exact ih _ y c h
    · exact ih _ y c h
theorem closL_acc {cells : List (Str × Addr)} : ∀ (names : List (Str × NameKind)) (acc : List (Str × Addr)) (y : Str), (∃ c, acc.lookup y = some c) → ∃ c, (closL cells names acc).lookup y = some c := by
  intro names
  induction names with
  | nil => intro acc y h; exact h
  | cons p r ih =>
    intro acc y h
    obtain ⟨n, k⟩ := p
    unfold closL
    split
    · split
      · refine ih _ y ?_
        rw [List.lookup_cons]
        cases e : y == n with
        | true => exact ⟨_, rfl⟩
        | false => exact h
      · exact ih _ y h
    · exact ih _ y h
theorem closL_has {cells : List (Str × Addr)} : ∀ (names : List (Str × NameKind)) (acc : List (Str × Addr)) (y : Str), (y, NameKind.free) ∈ names → (∃ c, cells.lookup y = some c) → ∃ c, (closL cells names acc).lookup y = some c := by
  intro names
  induction names with
  | nil => intro acc y h _; cases h
  | cons p r ih =>
    intro acc y h hc
    obtain ⟨n, k⟩ := p
    unfold closL
    rcases List.mem_cons.mp h with e | h
    · cases e
      obtain ⟨c, hc⟩ := hc
      simp only [beq_self_eq_true, if_true, hc]
      exact closL_acc _ _ _ ⟨c, by rw [List.lookup_cons, beq_self_eq_true]⟩
    · split
      · split
        · exact ih _ y h hc
        · exact ih _ y h hc
      · exact ih _ y h hc

/-- the context of a comprehension's block -/
def cxComp (X : Cx) (N' : List Str) (scope : Scope) (C : Addr) (s₀ : Shared) (H₀ : Hp) (ex : List Addr) : Cx :=
  { X with N := N', s₀ := s₀, H₀ := H₀, env := compEnvC scope (closL X.env.cells scope.names []) C X.env, outer := X.stack, stack := X.stack, ex := ex, fn := fun _ => false, xe := fun _ _ => False }

/-- the tests of a comprehension -/
def PTs (X : Cx) (ifs : List Expr) (t : TT) : Prop :=
  ∀ (pins : List (Addr × Obj)) (s : Shared) (σ : St) (H : Hp) (Q : Bool → Hp → Prop), Inv X pins σ H s → t σ H Q →
    wpAny (model X.prog X.w) X.A (forIn ifs true fun c r => if r = true then do let ok ← isTrue c X.env (eval c X.env); pure (ForInStep.yield ok) else pure (ForInStep.yield r)) (TP X pins σ Q) X.xe s
def tTrue : TT := fun _ H Q => Q true H
theorem pts_nil {X : Cx} : PTs X [] tTrue := fun _ _ _ H _ I h => wpAny_tests_nil ⟨H, I, h⟩
theorem pts_one {X : Cx} {c : Expr} {t : TT} (h : PT X c t) : PTs X [c] t := fun pins s σ H Q I q => wpAny_tests_one (h pins s σ H Q I q)

section
variable {prog : Program} {w : World} {A : Around} {R : Result → Shared → Prop} {s : Shared}
theorem compLoop_go {elt target iter : Expr} {ifs : List Expr} {scope : Scope} {pos : Pos} {it acc : Value} {env : Env} (I : Nat → Shared → Prop)
    (turn : ∀ n s, I n s → wpAny (model prog w) A (pyNext it) (fun r s₁ => match r with
      | none => R (.ok .next) s₁
      | some v => wpAny (model prog w) A (letOwnedTupleGo target it v) (fun _ s₀ => wpAny (model prog w) A (assign target env v) (fun _ s₂ =>
          wpAny (model prog w) A (forIn ifs true fun c r => if r = true then do let ok ← isTrue c env (eval c env); pure (ForInStep.yield ok) else pure (ForInStep.yield r)) (fun ok s₃ =>
            if ok = true then wpAny (model prog w) A (eval elt env) (fun x s₄ =>
              wpAny (model prog w) A (call (.builtin "list.append") [acc, x]) (fun _ s₅ => ∃ m, m < n ∧ I m s₅) (fun _ _ => False) s₄) (fun _ _ => False) s₃
            else ∃ m, m < n ∧ I m s₃) (fun _ _ => False) s₂) (fun _ _ => False) s₀) (fun _ _ => False) s₁) (fun _ _ => False) s)
    (n : Nat) (h : I n s) :
    codeAny (model prog w) A (.compLoop (.ListComp elt [⟨target, iter, ifs, 0⟩] scope pos) 0 it acc env) R s := by
  refine codeAny_loop rfl I (fun n s hI => ?_) n h
  show wpAny _ A ((compTurn (.ListComp elt [⟨target, iter, ifs, 0⟩] scope pos) 0 it acc env).onRaise (fun x => do noteFrame x env; theTreesLotGoes x)) _ _ s
  refine wpAny_noted ?_
  rw [compTurn_list]
  refine wpAny_bind (wpAny_standAt (wpAny_bind (wpAny_mono (turn n s hI) (fun r s₁ h₁ => ?_) fun _ _ h' => h'.elim)))
  cases r with
  | none => exact wpAny_pure h₁
  | some v =>
    refine wpAny_bind (wpAny_mono h₁ (fun _ s₀ h₀ => ?_) fun _ _ h' => h'.elim)
    refine wpAny_bind (wpAny_mono h₀ (fun _ s₂ h₂ => wpAny_bind (wpAny_mono h₂ (fun ok s₃ h₃ => ?_) fun _ _ h' => h'.elim)) fun _ _ h' => h'.elim)
    cases ok with
    | false => exact wpAny_pure ⟨rfl, h₃⟩
    | true =>
      exact wpAny_bind (wpAny_bind (wpAny_mono h₃ (fun x s₄ h₄ => wpAny_bind (wpAny_mono h₄ (fun _ s₅ h₅ => wpAny_pure (wpAny_pure ⟨rfl, h₅⟩)) fun _ _ h' => h'.elim)) fun _ _ h' => h'.elim))
end

/-- what a comprehension's scope is: the target's name is its first, the others are names of the def (cells there) -/
structure CompScope (X : Cx) (x : Str) (frees : List Str) (idx : List Nat) (scope : Scope) : Prop where
  kind : scope.kind = .function
  nocell : ∀ y ∈ scope.names, y.2 ≠ .cell
  loc : ∀ y ∈ scope.names, y.2 = .local → scope.names.lookup y.1 = some .local
  tgt : scope.names.lookup x = some .local
  nd : (x :: frees).Nodup
  fr : ∀ y ∈ scope.names, y.2 = .free → X.env.kindOf y.1 = some .cell ∨ X.env.kindOf y.1 = some .free
  ix : ∀ (j : Nat) (y : Str), frees[j]? = some y → ∃ k, idx[j]? = some k ∧ X.N[k]? = some y
  len : idx.length = frees.length
  cl : ∀ y ∈ frees, (y, NameKind.free) ∈ scope.names
def outs (σ : St) (idx : List Nat) : St := idx.map fun k => (σ[k]?).join
/-- the word of a comprehension: W by the turn, a measure, the items so far -/
def CompW (J : It) (tt : TT) (te : TE) (σ' : St) (Q : VK) (H1 : Hp) : Prop := ∃ W : Nat → Nat → List V → Hp → Prop, (∃ m, W 0 m [] H1) ∧ ∀ i m vs H2, W i m vs H2 →
  vs.length < sizeLine ∧ ((J.stop i H2 ∧ ∀ l, H2 l = none → Q (.ref l) (upd H2 l (.lst vs))) ∨
    (J.go i H2 ∧ ∀ x H3, J.yld i H2 x H3 → tt (some x :: σ') H3 fun b H4 => if b = true then te (some x :: σ') H4 fun v H5 => ∃ m', m' < m ∧ W (i + 1) m' (vs ++ [v]) H5 else ∃ m', m' < m ∧ W (i + 1) m' vs H4))
def tComp (idx : List Nat) (wi : TI) (tt : TT) (te : TE) : TE := fun σ H Q => wi σ H fun J H1 => CompW J tt te (outs σ idx) Q H1

theorem Vals.snoc {xs : List V} {us : List Value} {x : V} {u : Value} (h : Vals xs us) (r : RelV x u) : Vals (xs ++ [x]) (us ++ [u]) := Vals.append h (.cons r .nil)

theorem mem_of_lookup' {α β : Type} [BEq α] [LawfulBEq α] : ∀ {l : List (α × β)} {x : α} {b : β}, l.lookup x = some b → (x, b) ∈ l
  | [], _, _, h => by simp at h
  | (n, k) :: r, x, b, h => by
    rw [List.lookup_cons] at h
    cases e : x == n with
    | true =>
      rw [e] at h
      have e' : x = n := by simpa using e
      have h' : k = b := Option.some.inj h
      subst e' h'
      exact List.mem_cons_self
    | false => rw [e] at h; exact List.mem_cons_of_mem _ (mem_of_lookup' h)

theorem relabel_free {scope : Scope} {env : Env} {y : Str} (h : (relabel scope env).names.lookup y = some .cell ∨ (relabel scope env).names.lookup y = some .free) (hc : ∀ y ∈ scope.names, y.2 ≠ .cell) : (y, NameKind.free) ∈ scope.names := by
  have q : ∃ k, (y, k) ∈ (relabel scope env).names ∧ (k = .cell ∨ k = .free) := by
    rcases h with h | h
    · exact ⟨_, mem_of_lookup' h, .inl rfl⟩
    · exact ⟨_, mem_of_lookup' h, .inr rfl⟩
  obtain ⟨k, hm, hk⟩ := q
  obtain ⟨⟨n, k'⟩, hm', e⟩ := List.mem_map.mp hm
  dsimp only at e
  split at e
  · rename_i hf
    cases e
    have : k' = .free := by
      simp only [Bool.and_eq_true, beq_iff_eq] at hf
      exact hf.1.1
    subst this
    exact hm'
  · cases e
    rcases hk with rfl | rfl
    · exact absurd rfl (hc _ hm')
    · exact hm'
end L2

set_option Elab.async false
set_option linter.all false
set_option maxRecDepth 100000
namespace L2
open PySem PySem.Spec PyProof.Rows
theorem lookup_relabel_free {env : Env} : ∀ {names : List (Str × NameKind)} {x : Str}, names.lookup x = some .free →
    ((names.map fun (n, k) => if (k == NameKind.free && env.scope.kind == .function && env.kindOf n == some .cell) then (n, NameKind.cell) else (n, k)).lookup x = some .cell ∨
     (names.map fun (n, k) => if (k == NameKind.free && env.scope.kind == .function && env.kindOf n == some .cell) then (n, NameKind.cell) else (n, k)).lookup x = some .free)
  | [], _, h => by simp at h
  | (n, k) :: r, x, h => by
    have ih := @lookup_relabel_free env r x
    rw [List.map_cons]
    cases hx : x == n with
    | true =>
      simp only [List.lookup_cons, hx] at h
      have hk : k = .free := Option.some.inj h
      subst hk
      by_cases hc : (NameKind.free == NameKind.free && env.scope.kind == .function && env.kindOf n == some .cell) = true
      · left
        simp only [hc, if_true, List.lookup_cons, hx]
      · right
        simp only [hc, if_false, List.lookup_cons, hx, Bool.false_eq_true]
    | false =>
      simp only [List.lookup_cons, hx] at h
      by_cases hc : (k == NameKind.free && env.scope.kind == .function && env.kindOf n == some .cell) = true
      · simp only [hc, if_true, List.lookup_cons, hx]; exact ih h
      · simp only [hc, if_false, List.lookup_cons, hx, Bool.false_eq_true]; exact ih h

theorem Inv.track {X : Cx} {pins : List (Addr × Obj)} {σ : St} {H : Hp} {s : Shared} {D : Addr} {vs : List V} {its : List Value} {k : Nat} (I : Inv X pins σ H s) (hD : H D = none) (hz : vs.length ≤ sizeLine) (hv : Vals vs its)
    (e : s.heap.get? D = some { cls := .type "list", data := .seq its.toArray k }) (h1 : D ∈ X.ex ∨ X.s₀.heap.objs.size ≤ D) (h2 : D ≠ X.env.locals) (h3 : ∀ x c, X.env.cells.lookup x = some c → c ≠ D) (h4 : ∀ p ∈ X.pn ++ pins, p.1 ≠ D) :
    Inv X pins σ (upd H D (.lst vs)) s := by
  obtain ⟨hh, g, d, t, o⟩ := s
  have nD : ∀ b u, H b = some u → b ≠ D := fun b u q z => by rw [z, hD] at q; cases q
  refine I.step (g' := g) (d' := d) (t' := t) (h' := hh) (ch := [D]) (fun b hb => ?_) (fun b o _ _ _ q _ => q) (fun b o _ _ _ q _ => ⟨o.slots, q⟩) (fun b o hb q n => ?_) (fun b o _ q => ⟨o, q⟩)
    (fun b xs q => by rw [upd_ne (nD b _ q)]; exact q) (fun b o u q => by rw [upd_ne (nD b _ q)]; exact q) (fun b ps q => ⟨#[], by rw [upd_ne (nD b _ q), q]; simp⟩) (fun m q => q) (fun b u q => ?_) I.bare
  · have z : b = D := by simpa using hb
    subst z
    exact ⟨h1, h2, h3, h4⟩
  · rw [upd_ne (by simpa using hb)]; exact n
  · by_cases z : b = D
    · subst z
      rw [upd_same] at q; cases q
      exact ⟨hz, its, k, hv, e⟩
    · rw [upd_ne z] at q
      exact (I.hok b u q).stay (fun _ _ _ q => q) (fun c q => by rw [upd_ne (nD c _ q)]; exact q) fun c xs q => by rw [upd_ne (nD c _ q)]; exact q

theorem pe_lcomp {X : Cx} {elt iter : Expr} {x : Str} {px pos : Pos} {ifs : List Expr} {scope : Scope} {frees : List Str} {idx : List Nat} {wi : TI} {tt : TT} {te : TE}
    (hc : X.calm = true) (S : CompScope X x frees idx scope) (hfl : ∀ y ∈ frees, scope.names.lookup y = some .free) (hi : PI X (.Name x px) iter wi)
    (ht : ∀ C s₀ H₀ ex, PTs (cxComp X (x :: frees) scope C s₀ H₀ ex) ifs tt) (he : ∀ C s₀ H₀ ex, PE (cxComp X (x :: frees) scope C s₀ H₀ ex) elt te)
    (hs : ∀ v, foldedSetIterable iter X.env v = pure v := by intro _; rfl) : PE X (.ListComp elt [⟨.Name x px, iter, ifs, 0⟩] scope pos) (tComp idx wi tt te) := by
  intro pins s σ H Q I h
  rw [eval_ListComp]
  have hclos := closL_eq (scope := scope) (env := X.env) fun p hp hf => I.ok.has p.1 (S.fr p hp hf)
  refine wpAny_comprehension_free (use := none) rfl hs hclos S.kind S.loc (thn (hi pins s σ H _ I h) fun v s1 h1 => thn h1 fun itv s2 h2 => ?_)
  obtain ⟨it, fp, tn, J, H2, rfl, I2, T, st2, f2, W, ⟨m0, w0⟩, turn⟩ := h2
  refine wpAny_newObj_type (wpAny_newFunctionEnv S.nocell (by intro y hy; simp at hy) (fun h₁ hns₁ hsb₁ => ?_) S.kind)
  dsimp only at hns₁ hsb₁ ⊢
  generalize hH2 : s2.heap.push { cls := .type "list", dict := none, data := .seq ([] : List Value).toArray } = G2 at hns₁ hsb₁ ⊢
  have hCe : G2.objs.size = s2.heap.objs.size + 1 := by rw [← hH2, Heap.size_push]
  generalize hC : G2.objs.size = C at hns₁ hsb₁ hCe ⊢
  have hCle : s2.heap.objs.size ≤ C := by omega
  have hDC : s2.heap.objs.size ≠ C := by omega
  have below : ∀ b, b < s2.heap.objs.size → b ≠ C := fun b hb => by omega
  have old : ∀ b o, s2.heap.get? b = some o → h₁.get? b = some o := fun b o e => hsb₁.extBut b o (below b (Heap.lt_size e)) (Heap.get?_push_of_some _ (hH2 ▸ Heap.get?_push_of_some _ e))
  have hacc : ∃ k, h₁.get? s2.heap.objs.size = some { cls := .type "list", data := .seq ([] : List Value).toArray k } := ⟨_, hsb₁.extBut _ _ hDC (Heap.get?_push_of_some _ (hH2 ▸ Heap.get?_push_size _ rfl))⟩
  have look : ∀ y c, (closL X.env.cells scope.names []).lookup y = some c → X.env.cells.lookup y = some c := fun y c e => by
    rcases closL_look _ _ y c e with q | q
    · exact q
    · cases q
  have fpD : ∀ b ∈ fp, b < s2.heap.objs.size := fun b hb => by
    obtain ⟨o, e, _⟩ := T.obj _ _ st2 b hb
    exact Heap.lt_size e
  have ok' : (cxComp X (x :: frees) scope C s2 H2 fp).Ok := {
    mod := I2.ok.mod
    kind := S.kind
    glob := I2.ok.glob
    blt := I2.ok.blt
    above := hCle
    inj := fun y z c e1 e2 => I2.ok.inj y z c (look y c e1) (look z c e2)
    has := fun y hy => by
      have q := relabel_free (scope := scope) (env := X.env) hy S.nocell
      exact closL_has _ _ y q (I2.ok.has y (S.fr _ q rfl))
    cab := fun y c hf => by cases hf
    hd := I2.ok.hd
    frames := I2.ok.frames
    stk := .inl rfl
    exf := fun b hb => ⟨below b (fpD b hb), fun y c e => (f2 b hb).2.2.2.2.1 y c (look y c e)⟩
    bs := I2.bs
    bsz := Nat.le_trans I2.ok.bsz I2.sz
    noex := fun b o e hb => by
      rcases (f2 b hb).2.2.2.1 with z | z
      · exact I2.ok.noex b o e z
      · exact absurd (Nat.lt_of_lt_of_le (Heap.lt_size e) (Nat.le_trans I2.ok.bsz z)) (Nat.lt_irrefl _)
    exfs := fun b hb hf => by
      rcases List.mem_cons.mp (I2.stkSub b hf) with z | z
      · exact (f2 b hb).2.1 z
      · exact (f2 b hb).2.2.1 z
    funs := I2.stack
    frf := I2.stkFree }
  have Dfs : s2.heap.objs.size ∉ frs X.stack := fun hb => by
    rcases List.mem_cons.mp (I2.stkSub _ hb) with z | z
    · have q := I2.lt
      rw [← z] at q
      exact Nat.lt_irrefl _ q
    · exact I2.nofs (Nat.le_refl _) z
  have Dcell : ∀ y c, X.env.cells.lookup y = some c → c ≠ s2.heap.objs.size := fun y c e z => by
    obtain ⟨v, q⟩ := I2.cell y c e
    have q' := q.lt
    rw [z] at q'
    exact Nat.lt_irrefl _ q'
  have Dpin : ∀ p ∈ X.pn ++ pins, p.1 ≠ s2.heap.objs.size := fun p hp z => by
    have q' := Heap.lt_size (I2.pin p hp).1
    rw [z] at q'
    exact Nat.lt_irrefl _ q'
  have I3 : Inv (cxComp X (x :: frees) scope C s2 H2 fp) pins (none :: outs σ idx) H2 { s2 with heap := h₁, toks := s2.toks + ([] : List (Str × Value)).length } := {
    ok := ok'
    os := rfl
    bare := I2.bare
    base := Un.kept old
    loc := by
      refine ⟨_, hns₁, fun i y v e1 e2 e3 => ?_⟩
      cases i with
      | zero => cases e2
      | succ j =>
        have e1' : frees[j]? = some y := e1
        have e2' : (outs σ idx)[j]? = some (some v) := e2
        obtain ⟨k, hk, hN⟩ := S.ix j y e1'
        have hy : y ∈ frees := List.mem_of_getElem? e1'
        have e4 : σ[k]? = some (some v) := by
          unfold outs at e2'
          rw [List.getElem?_map, hk] at e2'
          have e5 : (σ[k]?).join = some v := Option.some.inj e2'
          cases q : σ[k]? with
          | none => rw [q] at e5; cases e5
          | some o => rw [q] at e5; exact congrArg some e5
        obtain ⟨m, hn, hl⟩ := I2.loc
        have kin := S.fr _ (S.cl y hy) rfl
        have vis : Vis X.env.scope y := by
          rcases kin with z | z
          · exact .inr (.inl z)
          · exact .inr (.inr z)
        obtain ⟨u, r, l⟩ := hl k y v hN e4 vis
        refine ⟨u, r, .inr ⟨lookup_relabel_free (env := X.env) (hfl y hy), ?_⟩⟩
        rcases l with ⟨z, _⟩ | ⟨_, c, ec, ic⟩
        · rcases kin with z' | z'
          · have z'' : X.env.kindOf y = some .cell := z'
            rw [z] at z''; cases z''
          · have z'' : X.env.kindOf y = some .free := z'
            rw [z] at z''; cases z''
        · obtain ⟨c', ec'⟩ := closL_has (cells := X.env.cells) scope.names [] y (S.cl y hy) ⟨c, ec⟩
          have : c' = c := Option.some.inj ((look y c' ec').symm.trans ec)
          subst this
          obtain ⟨o, ho, hd⟩ := ic
          exact ⟨c', ec', o, old _ _ ho, hd⟩
    cell := fun y c e => by
      obtain ⟨v, o, ho, hd⟩ := I2.cell y c (look y c e)
      exact ⟨v, o, old _ _ ho, hd⟩
    free := I2.hok.fresh hCle
    freeC := fun y c e => I2.freeC y c (look y c e)
    pin := fun p hp => by
      obtain ⟨e, n, ne, nf, d⟩ := I2.pin p hp
      refine ⟨old _ _ e, n, below _ (Heap.lt_size e), fun hb => ?_, d⟩
      rcases List.mem_cons.mp (I2.stkSub _ hb) with z | z
      · exact ne z
      · exact nf z
    hok := I2.hok.kept old
    len := by simp [cxComp, outs, S.len] }
  have fok : ∀ {pp : List (Addr × Obj)} {H' : Hp}, (∀ b ∈ fp, H' b = none) → (∀ p ∈ pp, p.1 = s2.heap.objs.size) → ∀ b ∈ fp, FpOk (cxComp X (x :: frees) scope C s2 H2 fp) (pins ++ pp) H' b := fun {pp H'} hn hp b hb => by
    obtain ⟨_, f1, f2', f3, f4, f5⟩ := f2 b hb
    refine ⟨hn b hb, below b (fpD b hb), fun hf => ?_, .inl hb, fun y c e => f4 y c (look y c e), fun p hpp z => ?_⟩
    · rcases List.mem_cons.mp (I2.stkSub b hf) with z | z
      · exact f1 z
      · exact f2' z
    · have hpp' : p ∈ X.pn ++ (pins ++ pp) := hpp
      rw [← List.append_assoc] at hpp'
      rcases List.mem_append.mp hpp' with q | q
      · exact f5 p q z
      · have q' := fpD b hb
        rw [← z, hp p q] at q'
        exact Nat.lt_irrefl _ q'
  have loop : ∀ s3 : Shared, s3 = { s2 with heap := h₁, toks := s2.toks + ([] : List (Str × Value)).length } →
      codeAny (model X.prog X.w) X.A (.compLoop (.ListComp elt [⟨.Name x px, iter, ifs, 0⟩] scope pos) 0 (.ref it) (.ref s2.heap.objs.size) (compEnvC scope (closL X.env.cells scope.names []) C X.env))
        (compPost (model X.prog X.w) X.A X.xe none (EP X pins σ Q) (.ref s2.heap.objs.size) C) s3 := by
    rintro s3 rfl
    obtain ⟨k0, hacc⟩ := hacc
    refine compLoop_go (fun n s' => ∃ i o vs H' its k, Inv (cxComp X (x :: frees) scope C s2 H2 fp) pins (o :: outs σ idx) H' s' ∧ tn i s'.heap ∧ (∀ b ∈ fp, H' b = none) ∧ H' s2.heap.objs.size = none ∧
      s'.heap.get? s2.heap.objs.size = some { cls := .type "list", data := .seq its.toArray k } ∧ Vals vs its ∧ W i n vs H') ?_ m0
      ⟨0, none, [], H2, [], k0, I3, T.keep _ _ _ st2 fun b _ o e => old b o e, fun b hb => (f2 b hb).1, I2.hok.fresh (Nat.le_refl _), hacc, .nil, w0⟩
    rintro n s' ⟨i, o, vs, H', its, k, I', st', fr', hD', hg', hv', w'⟩
    obtain ⟨hlen, alt⟩ := turn i n vs H' w'
    have IP : Inv (cxComp X (x :: frees) scope C s2 H2 fp) (pins ++ [(s2.heap.objs.size, { cls := .type "list", data := .seq its.toArray k })]) (o :: outs σ idx) H' s' :=
      I'.pins_of fun p hp => (List.mem_append.mp hp).elim (fun z => I'.pin p (List.mem_append_right _ z)) fun z => by
        have z' : p = (s2.heap.objs.size, { cls := .type "list", data := .seq its.toArray k }) := by simpa using z
        subst z'
        exact ⟨hg', hD', hDC, Dfs, fun v q => by cases q⟩
    have FP := fok (pp := [(s2.heap.objs.size, { cls := .type "list", data := .seq its.toArray k })]) fr' (fun p hp => by
      have z' : p = (s2.heap.objs.size, { cls := .type "list", data := .seq its.toArray k }) := by simpa using hp
      rw [z'])
    rcases alt with ⟨stop, qn⟩ | ⟨go, step⟩
    · refine thn (T.done (cxComp X (x :: frees) scope C s2 H2 fp) rfl rfl rfl hc i _ s' _ H' (fun _ _ => False) IP FP st' stop) fun r s4 ⟨hr, I4⟩ => ?_
      subst hr
      obtain ⟨m4, hn4, _⟩ := id I4.loc
      refine ⟨m4, hn4, fun h' hsb => ?_⟩
      have gD : s4.heap.get? s2.heap.objs.size = some { cls := .type "list", data := .seq its.toArray k } := (I4.pin (s2.heap.objs.size, _) (List.mem_append_right _ (List.mem_append_right _ (List.mem_singleton.mpr rfl)))).1
      have hx : ∀ b o, b ≠ C → s4.heap.get? b = some o → h'.get? b = some o := fun b o hb e => (hsb.2 b hb).trans e
      have J1 : Inv X pins σ H' { s4 with heap := h' } := by
        refine I2.call' (ch := fp) I4.os ⟨fun b o e n hb hx' => ?_, fun b o e n hb hx' => ?_, I4.base.free, fun b o e hx' => ?_, I4.base.tups, I4.base.frzs, I4.base.tbls⟩ (fun b u e => ?_) I4.bare fun b hb => ?_
        · exact hx b o (below b (Heap.lt_size e)) (I4.base.keep b o e n hb hx')
        · obtain ⟨sl, q⟩ := I4.base.slot b o e n hb hx'
          exact ⟨sl, hx b _ (below b (Heap.lt_size e)) q⟩
        · obtain ⟨o', q⟩ := I4.base.there b o e hx'
          exact ⟨o', hx b _ (below b (Heap.lt_size e)) q⟩
        · refine (I4.hok b u e).stay (fun c v hcc q => hx c v ?_ q) (fun _ q => q) fun _ _ q => q
          rintro rfl
          rcases hcc with z | z
          · rw [← z] at e
            have := I4.free
            rw [show H' c = none from this] at e; cases e
          · have := I4.free
            rw [show H' c = none from this] at z; cases z
        · obtain ⟨_, f1, f2', f3, f4, f5⟩ := f2 b hb
          exact ⟨f3, f1, f4, f5⟩
      refine ⟨.ref s2.heap.objs.size, upd H' s2.heap.objs.size (.lst vs), J1.track hD' (Nat.le_of_lt hlen) hv' (hx _ _ hDC gD) (.inr I2.sz) (fun z => by have q := I2.lt; rw [← z] at q; exact Nat.lt_irrefl _ q) Dcell Dpin, rfl, qn _ hD'⟩
    · refine thn (T.item (cxComp X (x :: frees) scope C s2 H2 fp) rfl rfl rfl hc i _ s' _ H' (fun _ _ => False) IP FP st' go) fun r s4 ⟨u, hr, h4⟩ => ?_
      subst hr
      refine thn h4 fun _ s5 ⟨xv, H5, I5, r5, y5, st5, fr5⟩ => ?_
      have I5' := I5.pinned (fok (pp := [(s2.heap.objs.size, { cls := .type "list", data := .seq its.toArray k })]) fr5 (fun p hp => by
        have z' : p = (s2.heap.objs.size, { cls := .type "list", data := .seq its.toArray k }) := by simpa using hp
        rw [z'])) (T.obj _ _ st5)
      refine wpAny_assign_Name (store_ok (i := 0) (X := cxComp X (x :: frees) scope C s2 H2 fp) I5' S.nd rfl (.inl (lookup_relabel_local S.tgt)) r5 (fun s6 I6 => ?_) (.inr (lookup_relabel_local S.tgt)))
      have q6 := step xv H5 y5
      refine thn (ht C s2 H2 fp _ s6 _ H5 _ I6 q6) fun b s7 ⟨H7, I7, q7⟩ => ?_
      have keepT : ∀ {s8 : Shared} {σ8 : St} {H8 : Hp}, Inv (cxComp X (x :: frees) scope C s2 H2 fp) ((pins ++ [(s2.heap.objs.size, { cls := .type "list", data := .seq its.toArray k })]) ++ pinsAt fp s5.heap) σ8 H8 s8 →
          tn (i + 1) s8.heap ∧ (∀ b ∈ fp, H8 b = none) ∧ H8 s2.heap.objs.size = none ∧ s8.heap.get? s2.heap.objs.size = some { cls := .type "list", data := .seq its.toArray k } := fun {s8 σ8 H8} I8 => by
        refine ⟨T.keep _ _ _ st5 fun b hb o e => (I8.pin (b, o) (List.mem_append_right _ (List.mem_append_right _ (mem_pinsAt hb e)))).1, fun b hb => ?_, ?_, ?_⟩
        · obtain ⟨o, e, d⟩ := T.obj _ _ st5 b hb
          exact (I8.pin (b, o) (List.mem_append_right _ (List.mem_append_right _ (mem_pinsAt hb e)))).2.1
        · exact (I8.pin (s2.heap.objs.size, _) (List.mem_append_right _ (List.mem_append_left _ (List.mem_append_right _ (List.mem_singleton.mpr rfl))))).2.1
        · exact (I8.pin (s2.heap.objs.size, _) (List.mem_append_right _ (List.mem_append_left _ (List.mem_append_right _ (List.mem_singleton.mpr rfl))))).1
      cases b with
      | false =>
        rw [if_neg Bool.false_ne_true] at q7 ⊢
        obtain ⟨m', hm, w7⟩ := q7
        obtain ⟨a1, a2, a3, a4⟩ := keepT I7
        exact ⟨m', hm, i + 1, some xv, vs, H7, its, k, I7.unpinned.unpinned, a1, a2, a3, a4, hv', w7⟩
      | true =>
        rw [if_pos rfl] at q7 ⊢
        refine thn (he C s2 H2 fp _ s7 _ H7 _ I7 q7) fun u8 s8 ⟨v8, H8, I8, r8, m', hm, w8⟩ => ?_
        obtain ⟨a1, a2, a3, a4⟩ := keepT I8
        refine wpAny_list_append_plain (items := its.toArray) ⟨k, a4⟩ (fun h9 pl sb => ?_) (by rw [List.size_toArray, ← hv'.length]; exact Nat.le_of_lt hlen)
        obtain ⟨k9, e9⟩ := pl
        have ne : ∀ b ∈ fp, b ≠ s2.heap.objs.size := fun b hb => Nat.ne_of_lt (fpD b hb)
        have I9 : Inv (cxComp X (x :: frees) scope C s2 H2 fp) pins (some xv :: outs σ idx) H8 { s8 with heap := h9 } :=
          I8.unpinned.unpinned.turned (t' := s8.toks) (fun b o hb e => (sb.2 b hb).trans e) a3 hDC (.inr (Nat.le_refl _)) (fun y c e => Dcell y c (look y c e)) Dpin
        refine ⟨m', hm, i + 1, some xv, vs ++ [v8], H8, its ++ [u8], k9, I9, T.keep _ _ _ a1 fun b hb o e => (sb.2 b (ne b hb)).trans e, a2, a3, ?_, hv'.snoc r8, w8⟩
        rw [List.push_toArray] at e9
        exact e9
  exact codeAny_compStart_list (loop _ rfl) (T.self _ 0 _ _ _ (T.keep _ _ _ st2 fun b _ o e => old b o e) (loop _ rfl))
end L2

set_option Elab.async false
set_option linter.all false
set_option maxRecDepth 100000
namespace L2
open PySem PySem.Spec PyProof.Rows
/-! ### a text walked sign by sign -/
def Its (x : Str) : It := ⟨fun i _ => i < x.cps.size, fun i H v H' => H' = H ∧ ∃ c, x.cps[i]? = some c ∧ v = .str ⟨#[c]⟩, fun i _ => i = x.cps.size⟩
theorem turn_str {P : Program} {w : World} {K : PySem.W.Frag} {tg : Expr} (it : Addr) (x : Str) (t : Tok) (ty : String) (hty : ty = "str_ascii_iterator" ∨ ty = "str_iterator") :
    Turn P w K tg (Its x) [it] it (fun i h => h.IsStrIter it ty x t i) where
  mem := by simp
  obj := fun i h st b hb => by
    have e : b = it := by simpa using hb
    subst e
    obtain ⟨o, e, c, d⟩ := st
    exact ⟨o, e, fun v z => by rw [d] at z; cases z⟩
  keep := fun i h h' st k => by
    obtain ⟨o, e, r⟩ := st
    exact ⟨o, k it (by simp) o e, r⟩
  item := by
    intro X hP hw hK hc i pins s σ H E I hf st hg
    subst hP hw hK
    obtain ⟨f0, f1, f2, f3, f4, f5⟩ := hf it (by simp)
    have go : ∀ W : Walks X.prog X.w X.A it [it] [it] x.cps.size (SignAt x) (fun i h => h.IsStrIter it ty x t i), wpAny (model X.prog X.w) X.A (pyNext (.ref it)) (fun r s1 => ∃ u, r = some u ∧
        wpAny (model X.prog X.w) X.A (letOwnedTupleGo tg (.ref it) u) (fun _ s2 => ∃ v H', Inv X pins σ H' s2 ∧ RelV v u ∧ (Its x).yld i H v H' ∧ s2.heap.IsStrIter it ty x t (i + 1) ∧ ∀ b ∈ [it], H' b = none) E s1) E s := fun W => by
      refine W.item i s _ _ hg st fun v h' tk hv st' kk => ?_
      obtain ⟨c, u, hcx, rfl⟩ := hv
      have I1 : Inv X pins σ H { s with heap := h', toks := tk } := I.turned (fun b o hb e => kk b o (by simpa using hb) e) f0 f1 f3 f4 f5
      obtain ⟨o, e, hcl, d⟩ := id st'
      refine ⟨_, rfl, go_of (s := { s with heap := h', toks := tk }) (n := ty) e hcl d ?_ ⟨.str ⟨#[c]⟩, H, I1, ⟨u, rfl⟩, ⟨rfl, c, hcx, rfl⟩, st', fun b hb => (hf b hb).1⟩⟩
      rcases hty with rfl | rfl <;> decide
    rcases hty with rfl | rfl
    · exact go (Walks.strAscii (I.ok.hd hc) it x t)
    · exact go (Walks.strWide (I.ok.hd hc) it x t)
  done := by
    intro X hP hw hK hc i pins s σ H E I hf st hg
    subst hP hw hK
    obtain ⟨f0, f1, f2, f3, f4, f5⟩ := hf it (by simp)
    have hg' : i = x.cps.size := hg
    subst hg'
    rcases hty with rfl | rfl
    · exact (Walks.strAscii (prog := X.prog) (w := X.w) (I.ok.hd hc) it x t).done s _ _ st fun h' tk kk => ⟨rfl, I.turned (fun b o hb e => kk b o (by simpa using hb) e) f0 f1 f3 f4 f5⟩
    · exact (Walks.strWide (prog := X.prog) (w := X.w) (I.ok.hd hc) it x t).done s _ _ st fun h' tk kk => ⟨rfl, I.turned (fun b o hb e => kk b o (by simpa using hb) e) f0 f1 f3 f4 f5⟩
  self := fun _ _ _ _ _ st h => by
    rcases hty with rfl | rfl
    · exact wpAny_pyIter_striter_ascii st h
    · exact wpAny_pyIter_striter_wide st h
def iStr (tl : TE) : TI := fun σ H R => tl σ H fun v H1 => ∃ x, v = .str x ∧ R (Its x) H1
theorem pi_str {X : Cx} {tg l : Expr} {tl : TE} (hl : PE X l tl) : PI X tg l (iStr tl) := by
  intro pins s σ H R I h
  refine thn (hl pins s σ H _ I h) fun v s1 ⟨y, H1, I1, r1, q1⟩ => ?_
  obtain ⟨x, e, q⟩ := q1
  subst e
  obtain ⟨t, rfl⟩ := r1
  have go : ∀ (ty : String) (o : Obj), (ty = "str_ascii_iterator" ∨ ty = "str_iterator") → (s1.heap.push o).IsStrIter s1.heap.objs.size ty x t 0 → PIE X pins σ tg R (.ref s1.heap.objs.size) { s1 with heap := s1.heap.push o } := fun ty o hty st => by
    refine ⟨s1.heap.objs.size, [s1.heap.objs.size], _, _, H1, rfl, I1.kept (t' := s1.toks) fun b o e => Heap.get?_push_of_some _ e, turn_str _ x t ty hty, st, fun b hb => ?_, q⟩
    have e : b = s1.heap.objs.size := by simpa using hb
    subst e
    exact I1.fpOk (Nat.le_refl _) (I1.hok.fresh (Nat.le_refl _))
  cases ha : x.cps.all (· < 128)
  · exact wpAny_pyIter_wide ha (go "str_iterator" _ (.inr rfl) ⟨_, Heap.get?_push_size _ rfl, rfl, rfl⟩)
  · exact wpAny_pyIter_ascii ha (go "str_ascii_iterator" _ (.inl rfl) ⟨_, Heap.get?_push_size _ rfl, rfl, rfl⟩)

section
variable {X : Cx}
/-! ### all([..]) of a list of bools -/
theorem boolsAre_of : ∀ {bs : List Bool} {us : List Value}, Vals (bs.map V.bl) us → LSm.BoolsAre us bs := by
  intro bs
  induction bs with
  | nil => intro us h; cases h; exact .nil
  | cons b r ih =>
    intro us h
    cases h with
    | cons h1 h2 =>
      cases (show _ = Value.bool b from h1)
      exact .cons b (ih h2)
theorem call_all (hc : X.calm = true) : CallR X (.builtin "all") (fun xs H Q => ∃ (p : Addr) (bs : List Bool), xs = [.ref p] ∧ SqL X.K H p (bs.map V.bl) ∧ Q (.bl (bs.all id)) H) := by
  intro pins s σ H xs us Q I r h
  obtain ⟨p, bs, rfl, hq, q⟩ := h
  obtain ⟨u, rfl, rx⟩ := vals1 r
  cases rx
  obtain ⟨its, r', pl, hz⟩ := I.list hq
  have hl := pl.isList
  have hb := boolsAre_of r'
  have hlt : p < s.heap.objs.size := by obtain ⟨_, e, _⟩ := hl; exact Heap.lt_size e
  refine call_all_walk (wpAny_pyIter_list hl ?_)
  refine ⟨s.heap.objs.size, [s.heap.objs.size, p], [s.heap.objs.size], its.toArray.size, _, _, fun i => (bs[i]?).getD true, rfl, Walks.list (A := X.A.in1) (I.ok.hd hc) _ p (Nat.ne_of_lt hlt) its.toArray,
    ⟨⟨_, Heap.get?_push_size _ rfl, rfl, rfl⟩, hl.push _⟩, fun i v s' Q' E' hP hQ => ?_, fun h' tk hk => ?_⟩
  · obtain ⟨b, e, rfl⟩ := hb.get i v (by simpa using hP)
    simp only [e, Option.getD_some] at hQ
    exact wpAny_truthy_bool hQ
  · have e : ((List.range its.toArray.size).all fun i => (bs[i]?).getD true) = bs.all id := by
      rw [List.size_toArray, hb.length]; exact LSm.range_all bs
    rw [e]
    exact ⟨.bl (bs.all id), H, I.kept (LSm.kept_iter hk), rfl, q⟩
/-! ### isinstance -/
theorem call_isi : CallR X (.builtin "isinstance") (fun xs H Q => ∃ x t T b, xs = [x, .ty T] ∧ TyOf X.K H x t ∧ PySem.W.kitOne X.K t (.type T) = some b ∧ Q (.bl b) H) := by
  intro pins s σ H xs us Q I r h
  obtain ⟨x, t, T, b, rfl, ty, e, q⟩ := h
  obtain ⟨u, w', rfl, rx, ry⟩ := vals2 r
  cases (show w' = Value.type T from ry)
  exact isinst_ok I rx ty e fun tk => ⟨.bl b, H, I.tok tk, rfl, q⟩
/-! ### slices of texts -/
theorem sl_str : SlR X (fun x lo hi H Q => ∃ z, x = .str z ∧ z.length ≤ sizeLine ∧ Q (.str (Txt.slice z lo hi)) H) := by
  intro pins s σ H x v vl vu lo hi sl Q I rx hs pl pu h
  obtain ⟨z, rfl, hz, q⟩ := h
  obtain ⟨t, rfl⟩ := rx
  refine ⟨"str", _, F.slot_str_getitem.lookup, typeIs_str _ _ _, ?_⟩
  have fin : ∀ l u : Option (Int × Tok), vl = partValue l → vu = partValue u → l.map (·.1) = lo → u.map (·.1) = hi → wpAny (model X.prog X.w) X.A (getItem (.str z t) (.ref sl)) (EP X pins σ Q) X.xe s := fun l u e1 e2 e3 e4 => by
    subst e1 e2 e3 e4
    refine wpAny_getItem_str_slice (l := l) (u := u) (st := none) hs rfl (post_val_or_str ⟨Nat.le_trans (Txt.slice_le z _ _) hz, fun t' k => ⟨.str _, H, I.tok k, ⟨t', rfl⟩, q⟩⟩)
  cases pl <;> cases pu <;> first
    | exact fin none none rfl rfl rfl rfl
    | exact fin none (some (_, _)) rfl rfl rfl rfl
    | exact fin (some (_, _)) none rfl rfl rfl rfl
    | exact fin (some (_, _)) (some (_, _)) rfl rfl rfl rfl
/-! ### str methods -/
theorem mt_startswith : MtR X "str.startswith" (fun x xs H Q => ∃ z y, x = .str z ∧ xs = [.str y] ∧ Q (.bl (Txt.startswith z y)) H) := by
  intro pins s σ H x xs v us Q I rx rs h
  obtain ⟨z, y, rfl, rfl, q⟩ := h
  obtain ⟨t, rfl⟩ := rx
  obtain ⟨u, rfl, t', rfl⟩ := vals1 rs
  exact SC.startswith ⟨.bl _, H, I, rfl, q⟩
theorem vals_strValues : ∀ l : List (Str × Tok), Vals ((l.map (·.1)).map V.str) (strValues l)
  | [] => .nil
  | (x, t) :: r => .cons ⟨t, rfl⟩ (vals_strValues r)
theorem mt_split : MtR X "str.split" (fun x xs H Q => ∃ z y, x = .str z ∧ xs = [.str y] ∧ z.length ≤ sizeLine ∧ 1 ≤ y.length ∧ (Txt.split z y).length ≤ sizeLine ∧ ∀ l, H l = none → Q (.ref l) (upd H l (.lst ((Txt.split z y).map V.str)))) := by
  intro pins s σ H x xs v us Q I rx rs h
  obtain ⟨z, y, rfl, rfl, hz, hy, hn, q⟩ := h
  obtain ⟨t, rfl⟩ := rx
  obtain ⟨u, rfl, t', rfl⟩ := vals1 rs
  have hy' : (y.length == 0) = false := by simp; omega
  have fin : ∀ (l : List (Str × Tok)) (k : Nat), l.map (·.1) = Txt.split z y → EP X pins σ Q (.ref s.heap.objs.size) { s with toks := k, heap := s.heap.push { cls := .type "list", data := .seq (strValues l).toArray } } := fun l k e => by
    have hv := vals_strValues l
    rw [e] at hv
    refine ⟨.ref s.heap.objs.size, _, I.lnew (t' := k) hv (by rw [List.length_map]; exact hn), rfl, q _ I.fresh⟩
  cases h1 : (decide (z.length < y.length) || decide (Builtin.Str.strKind z < Builtin.Str.strKind y))
  · cases hf : (Builtin.Str.occurrences z y 0 z.length (z.length + 1)).isEmpty
    · have e : Txt.split z y = Builtin.Str.partsBetween z (Builtin.Str.occurrences z y 0 z.length (z.length + 1)) y.length := (if_neg (ne_true_of_eq_false h1)).trans (if_neg (ne_true_of_eq_false hf))
      refine call_meets F.slot_str_split (typeIs_str _ _ _) F.entry_str_split (F.args_str_split_2 _ _) (meets_str_split_sep z y t t' h1 hy' hf hz (by rw [← e]; exact hn)) ?_
      show EP X pins σ Q _ { s with toks := _, heap := s.heap.push { cls := .type "list", data := .seq (strsFrom s.toks (Builtin.Str.partsBetween z (Builtin.Str.occurrences z y 0 z.length (z.length + 1)) y.length)).toArray } }
      rw [strsFrom_eq]
      exact fin (numbered s.toks _) _ ((numbered_texts _ _).trans e.symm)
    · exact call_meets F.slot_str_split (typeIs_str _ _ _) F.entry_str_split (F.args_str_split_2 _ _) (meets_str_split_not_found z y t t' h1 hy' hf) (fin [(z, t)] s.toks ((if_neg (ne_true_of_eq_false h1)).trans (if_pos hf)).symm)
  · exact call_meets F.slot_str_split (typeIs_str _ _ _) F.entry_str_split (F.args_str_split_2 _ _) (meets_str_split_cannot_occur z y t t' h1) (fin [(z, t)] s.toks (if_pos h1).symm)
/-! ### is, is not of bools -/
theorem op_isB : OpR X (compareOp .Is) (fun x y H Q => ∃ b c, x = .bl b ∧ y = .bl c ∧ Q (.bl (b == c)) H) := by
  intro pins s σ H x y v u Q I rx ry h
  obtain ⟨b, c, rfl, rfl, q⟩ := h
  cases rx
  cases ry
  exact is_bool ⟨.bl _, H, I, rfl, q⟩
theorem op_isnotB : OpR X (compareOp .IsNot) (fun x y H Q => ∃ b c, x = .bl b ∧ y = .bl c ∧ Q (.bl (b != c)) H) := by
  intro pins s σ H x y v u Q I rx ry h
  obtain ⟨b, c, rfl, rfl, q⟩ := h
  cases rx
  cases ry
  exact isnot_bool ⟨.bl _, H, I, rfl, q⟩
/-! ### a tuple is no text -/
theorem op_eq_tupstr (hu : X.A.units < cLine) : OpR X (compareOp .Eq) (fun x y H Q => ∃ a xs z, x = .ref a ∧ y = .str z ∧ SqT X.K H a xs ∧ Q (.bl false) H) := by
  intro pins s σ H x y v u Q I rx ry h
  obtain ⟨a, xs, z, rfl, rfl, hq, q⟩ := h
  cases rx
  obtain ⟨t, rfl⟩ := ry
  obtain ⟨its, r, ht, hz⟩ := I.tuple hq
  exact SeqAt.RcAt.tuple_str z t (show s.heap.IsTuple a its.toArray from ht) hu _ _ _ _ ⟨.bl false, H, I, rfl, q⟩
/-! ### the call of a function that stands in a slot -/
theorem pe_callV {CX : CXT} {k : Nat} {f : Addr} {fd : FuncData} {ps : List Str} {sp : Sp} {E : XK} {x : Str} {p pos : Pos} {e : Expr} {es : List Expr} {t : TA} {i : Nat}
    (F : FnOk X.prog X.w X.K X.mg X.base CX k f fd ps sp) (hr : Room k X.A) (hN : X.N[i]? = some x) (hv : Vis X.env.scope x) (hk : PySem.W.keepIn X.K (.ref f) = true) (hb : Binds X.K fd ps []) (hx : Passes CX X E)
    (ha : PA X (e :: es) t) (hdb : (x == ("__debug__" : Str)) = false := by decide) (hcd : (x == ("__classdict__" : Str)) = false := by decide) (he : starEach (e :: es) X.env = (false, eval e X.env) :: starEach es X.env := by rfl) (hpl : (backTo pos (starEach es X.env)).any (·.1) = false := by rfl) :
    PE X (.Call (.Name x p) (e :: es) [] pos) (fun σ H Q => σ[i]? = some (some (.ref f)) ∧ tCall sp [] E t σ H Q) := by
  intro pins s σ H Q I h
  obtain ⟨hi, h⟩ := h
  refine wpAny_Call_Name_kw ?_
  refine wpAny_mono (pe_var (pos := p) hN hv hdb hcd pins s σ H (fun v H1 => v = .ref f ∧ H1 = H) I ⟨_, hi, rfl, rfl⟩) (fun u s1 ⟨v, H1, I1, r1, e1, e2⟩ => ?_) (fun _ _ z => z)
  subst e1 e2
  cases r1
  refine PySem.W.callWith_K (h₀ := X.base) I1.ok.mod.kin hk (thn (ha pos pins s1 σ H1 _ I1 h) fun us s2 ⟨vs, H2, I2, r, q⟩ => ⟨I2.kIn, ?_⟩) he hpl
  exact run_fn F hr hb .nil hx I2 r q
end
end L2

set_option Elab.async false
set_option linter.all false
set_option maxRecDepth 100000
namespace L2
open PySem PySem.Spec PyProof.Rows
def compOk (osc : Scope) (N : List Str) (x : Str) (frees : List Str) (idx : List Nat) (scope : Scope) : Bool :=
  scope.kind == .function && (scope.names.all (fun y => y.2 != .cell) && (scope.names.all (fun y => y.2 != .local || scope.names.lookup y.1 == some .local) && (scope.names.all (fun y => y.2 != .free || (osc.names.lookup y.1 == some .cell || osc.names.lookup y.1 == some .free)) &&
  (scope.names.lookup x == some .local && (decide (x :: frees).Nodup && (idx.length == frees.length && ((idx.zip frees).all (fun p => N[p.1]? == some p.2) && frees.all (fun y => scope.names.lookup y == some .free))))))))
theorem zip_get {α β : Type} : ∀ {l : List α} {r : List β} {j : Nat} {y : β}, l.length = r.length → r[j]? = some y → ∃ k, l[j]? = some k ∧ (k, y) ∈ l.zip r
  | [], [], j, y, _, h => by simp at h
  | a :: l, b :: r, 0, y, _, h => by
    simp at h; subst h
    exact ⟨a, rfl, by simp⟩
  | a :: l, b :: r, j + 1, y, e, h => by
    obtain ⟨k, h1, h2⟩ := zip_get (l := l) (r := r) (j := j) (y := y) (by simpa using e) (by simpa using h)
    exact ⟨k, by simpa using h1, by rw [List.zip_cons_cons]; exact List.mem_cons_of_mem _ h2⟩
theorem compOk_scope {X : Cx} {osc : Scope} {N : List Str} {x : Str} {frees : List Str} {idx : List Nat} {scope : Scope} (h : compOk osc N x frees idx scope = true) (ho : X.env.scope = osc) (hN : X.N = N) :
    CompScope X x frees idx scope ∧ ∀ y ∈ frees, scope.names.lookup y = some .free := by
  unfold compOk at h
  simp only [Bool.and_eq_true, List.all_eq_true, Bool.or_eq_true, bne_iff_ne, beq_iff_eq, decide_eq_true_eq] at h
  obtain ⟨h1, h2, h3, h4, h5, h6, h7, h8, h9⟩ := h
  have fl : ∀ y ∈ frees, scope.names.lookup y = some .free := fun y hy => h9 y hy
  refine ⟨⟨h1, h2, fun y hy e => ?_, h5, h6, fun y hy e => ?_, fun j y hj => ?_, h7, fun y hy => mem_of_lookup' (fl y hy)⟩, fl⟩
  · rcases h3 y hy with q | q
    · exact absurd e q
    · exact q
  · have q : osc.names.lookup y.1 = some .cell ∨ osc.names.lookup y.1 = some .free := by
      rcases h4 y hy with q | q
      · exact absurd e q
      · exact q
    rw [← ho] at q
    exact q
  · obtain ⟨k, e1, e2⟩ := zip_get h7 hj
    exact ⟨k, e1, by rw [hN]; exact h8 (k, y) e2⟩
theorem pe_lc {X : Cx} {elt iter : Expr} {x : Str} {px pos : Pos} {ifs : List Expr} {scope : Scope} {wi : TI} {tt : TT} {te : TE} (osc : Scope) (N : List Str) (frees : List Str) (idx : List Nat)
    (hk : compOk osc N x frees idx scope = true) (hi : PI X (.Name x px) iter wi)
    (ht : ∀ C s₀ H₀ ex, PTs (cxComp X (x :: frees) scope C s₀ H₀ ex) ifs tt) (he : ∀ C s₀ H₀ ex, PE (cxComp X (x :: frees) scope C s₀ H₀ ex) elt te)
    (ho : X.env.scope = osc := by rfl) (hN : X.N = N := by rfl) (hc : X.calm = true := by rfl) (hs : ∀ v, foldedSetIterable iter X.env v = pure v := by intro _; rfl) : PE X (.ListComp elt [⟨.Name x px, iter, ifs, 0⟩] scope pos) (tComp idx wi tt te) := by
  obtain ⟨S, fl⟩ := compOk_scope (X := X) hk ho hN
  exact pe_lcomp hc S fl hi ht he hs
/-- what a turn of n, the i-th, hands on -/
def Nx (n i : Nat) (p : Prop) : Prop := ∃ m', m' < n - i ∧ m' = n - (i + 1) ∧ i + 1 ≤ n ∧ p
theorem nx {n i : Nat} {p : Prop} (h : i < n) (q : p) : Nx n i p := ⟨n - (i + 1), by omega, rfl, h, q⟩
/-- over a text -/
theorem comp_str {x : Str} {tt : TT} {te : TE} {σ' : St} {Q : VK} {H : Hp} (Pv : Nat → List V → Hp → Prop) (h0 : Pv 0 [] H) (hlen : ∀ i vs H2, i ≤ x.cps.size → Pv i vs H2 → vs.length < sizeLine)
    (hs : ∀ i vs H2 c, i < x.cps.size → x.cps[i]? = some c → Pv i vs H2 → tt (some (.str ⟨#[c]⟩) :: σ') H2 fun b H4 => if b = true then te (some (.str ⟨#[c]⟩) :: σ') H4 fun v H5 => Nx x.cps.size i (Pv (i + 1) (vs ++ [v]) H5) else Nx x.cps.size i (Pv (i + 1) vs H4))
    (hd : ∀ vs H2, Pv x.cps.size vs H2 → ∀ l, H2 l = none → Q (.ref l) (upd H2 l (.lst vs))) : CompW (Its x) tt te σ' Q H := by
  refine ⟨fun i m vs H => m = x.cps.size - i ∧ i ≤ x.cps.size ∧ Pv i vs H, ⟨x.cps.size, by simp, Nat.zero_le _, h0⟩, ?_⟩
  rintro i m vs H2 ⟨rfl, hi, p⟩
  refine ⟨hlen i vs H2 hi p, ?_⟩
  by_cases hlt : i < x.cps.size
  · refine .inr ⟨hlt, ?_⟩
    rintro v H3 ⟨rfl, c, hc, rfl⟩
    exact hs i vs H3 c hlt hc p
  · have e : i = x.cps.size := by omega
    subst e
    exact .inl ⟨rfl, hd vs H2 p⟩
/-- over a range -/
theorem comp_range {lo : Int} {n : Nat} {tt : TT} {te : TE} {σ' : St} {Q : VK} {H : Hp} (Pv : Nat → List V → Hp → Prop) (h0 : Pv 0 [] H) (hlen : ∀ i vs H2, i ≤ n → Pv i vs H2 → vs.length < sizeLine)
    (hs : ∀ i vs H2, i < n → Pv i vs H2 → tt (some (.int (lo + i)) :: σ') H2 fun b H4 => if b = true then te (some (.int (lo + i)) :: σ') H4 fun v H5 => Nx n i (Pv (i + 1) (vs ++ [v]) H5) else Nx n i (Pv (i + 1) vs H4))
    (hd : ∀ vs H2, Pv n vs H2 → ∀ l, H2 l = none → Q (.ref l) (upd H2 l (.lst vs))) : CompW (Itr lo n) tt te σ' Q H := by
  refine ⟨fun i m vs H => m = n - i ∧ i ≤ n ∧ Pv i vs H, ⟨n, by simp, Nat.zero_le _, h0⟩, ?_⟩
  rintro i m vs H2 ⟨rfl, hi, p⟩
  refine ⟨hlen i vs H2 hi p, ?_⟩
  by_cases hlt : i < n
  · refine .inr ⟨hlt, ?_⟩
    rintro v H3 ⟨rfl, rfl⟩
    exact hs i vs H3 hlt p
  · have e : i = n := by omega
    subst e
    exact .inl ⟨Nat.le_refl _, hd vs H2 p⟩
end L2

set_option Elab.async false
set_option linter.all false
set_option maxRecDepth 100000
namespace L2
open PySem PySem.Spec PyProof.Rows
/-! ### a dict of the module, its keys texts -/
def EntryIs (w : World) (p : Str × V) (e : DictEntry) : Prop := e.hash = hashStr w p.1 ∧ (∃ t, e.key = .str p.1 t) ∧ RelV p.2 e.val
def StrDict (K : PySem.W.Frag) (w : World) (a : Addr) (fs : List (Str × V)) : Prop :=
  (a == sysModules) = false ∧ ∃ o es ep, K.lookup a = some o ∧ o.ExactDict ∧ o.data = .dict es ep ∧ Paired (EntryIs w) fs es.toList
theorem entries_find {w : World} {P : Program} : ∀ {fs : List (Str × V)} {es : List DictEntry} (k : Str), Paired (EntryIs w) fs es → RelO (fs.lookup k) ((es.find? fun e => (strKind P w).is k e.key).map (·.val))
  | _, _, k, .nil => trivial
  | _, _, k, .cons (a := p) (b := e) h t => by
    obtain ⟨h1, ⟨t', h2⟩, h3⟩ := h
    have ih := entries_find (P := P) k t
    obtain ⟨x, v⟩ := p
    rw [List.lookup_cons, List.find?_cons]
    have q : (strKind P w).is k e.key = (k == x) := by
      show Value.isStrOf k e.key = _
      rw [h2]
      show Value.isStrOf k (.str x t') = _
      rw [Bool.eq_iff_iff]
      simp [Value.isStrOf]
      first | done | (constructor <;> intro z <;> first | exact z | exact z.symm)
    rw [q]
    cases k == x with
    | true => exact h3
    | false => exact ih
section
variable {X : Cx} {pins : List (Addr × Obj)} {σ : St} {H : Hp} {s : Shared}
theorem Inv.strDict {a : Addr} {fs : List (Str × V)} (I : Inv X pins σ H s) (d : StrDict X.K X.w a fs) : ∃ f, s.heap.MapOf (strKind X.prog X.w) a f ∧ ∀ k, RelO (fs.lookup k) (f k) := by
  obtain ⟨_, o, es, ep, h1, h2, h3, h4⟩ := d
  refine ⟨fun k => findBy (strKind X.prog X.w).is es k, ⟨o, es, ep, I.kIn _ _ h1, h2, h3, fun e he => ?_, fun k => rfl⟩, fun k => ?_⟩
  · have key : ∀ {fs : List (Str × V)} {l : List DictEntry}, Paired (EntryIs X.w) fs l → e ∈ l → ∃ k, (strKind X.prog X.w).is k e.key = true ∧ e.hash = (strKind X.prog X.w).hash k := by
      intro fs l p
      induction p with
      | nil => intro hm; cases hm
      | @cons p e' l₁ l₂ h t ih =>
        intro hm
        rcases List.mem_cons.mp hm with rfl | hm
        · obtain ⟨q1, ⟨t', q2⟩, _⟩ := h
          refine ⟨p.1, ?_, q1⟩
          show Value.isStrOf p.1 e.key = true
          rw [q2]
          simp [Value.isStrOf]
        · exact ih hm
    exact key h4 (Array.mem_toList_iff.mpr he)
  · have q := entries_find (P := X.prog) k h4
    show RelO (fs.lookup k) ((Array.find? (fun e => (strKind X.prog X.w).is k e.key) es).map (·.val))
    rw [← Array.find?_toList]
    exact q
theorem op_in_dict : OpR X (compareOp .In) (fun x y H Q => ∃ z a fs, x = .str z ∧ y = .ref a ∧ StrDict X.K X.w a fs ∧ Q (.bl (fs.lookup z).isSome) H) := by
  intro pins s σ H x y v u Q I rx ry h
  obtain ⟨z, a, fs, rfl, rfl, d, q⟩ := h
  obtain ⟨t, rfl⟩ := rx
  cases ry
  obtain ⟨f, hm, hf⟩ := I.strDict d
  refine wpAny_in_of (knd := strKind X.prog X.w) (k := z) (by show Value.isStrOf z (.str z t) = true; simp [Value.isStrOf]) d.1 hm ?_
  have e : (f z).isSome = (fs.lookup z).isSome := by
    have := hf z
    cases h1 : fs.lookup z with
    | none => rw [h1] at this; rw [RelO.none_of this]; rfl
    | some v => rw [h1] at this; obtain ⟨u, e, _⟩ := RelO.some_of this; rw [e]; rfl
  rw [e]
  exact ⟨.bl _, H, I.tok _, rfl, q⟩
theorem ix_dict : IxR X (fun x y H Q => ∃ z a fs v, x = .ref a ∧ y = .str z ∧ StrDict X.K X.w a fs ∧ fs.lookup z = some v ∧ Q v H) := by
  intro value slice pins s σ H x y v u Q I rx ry h hs
  obtain ⟨z, a, fs, r, rfl, rfl, d, hl, q⟩ := h
  cases rx
  obtain ⟨t, rfl⟩ := ry
  obtain ⟨f, hm, hf⟩ := I.strDict d
  have := hf z
  rw [hl] at this
  obtain ⟨w', e, rw'⟩ := RelO.some_of this
  exact tail_any (ops := [.ref a, .str z t]) hm.typeIs PySem.F.slot_dict_getitem.lookup (wpAny_getItem_of (knd := strKind X.prog X.w) (k := z) (by show Value.isStrOf z (.str z t) = true; simp [Value.isStrOf]) hm e ⟨r, H, I.tok _, rw', q⟩) hs
/-- a call of what an expression gives: f one of the defs of the text -/
theorem pe_callE {CX : CXT} {func : Expr} {tf : TE} {pos : Pos} {e : Expr} {es : List Expr} {t : TA} {E : XK} (ok : Addr → Sp → Prop)
    (hok : ∀ f sp, ok f sp → ∃ k fd ps, FnOk X.prog X.w X.K X.mg X.base CX k f fd ps sp ∧ Room k X.A ∧ PySem.W.keepIn X.K (.ref f) = true ∧ Binds X.K fd ps []) (hf : PE X func tf) (hx : Passes CX X E)
    (ha : PA X (e :: es) t) (hev : eval (.Call func (e :: es) [] pos) X.env = (do callWith pos (← eval func X.env) [] (backTo pos (starEach (e :: es) X.env)) (backToKw pos (keywordEach [] X.env))) := by rfl)
    (he : starEach (e :: es) X.env = (false, eval e X.env) :: starEach es X.env := by rfl) (hpl : (backTo pos (starEach es X.env)).any (·.1) = false := by rfl) :
    PE X (.Call func (e :: es) [] pos) (fun σ H Q => tf σ H fun x H1 => ∃ f sp, x = .ref f ∧ ok f sp ∧ tCall sp [] E t σ H1 Q) := by
  intro pins s σ H Q I h
  refine Call_ (thn (hf pins s σ H _ I h) fun u s1 ⟨x, H1, I1, r1, f, sp, ex, hfo, q⟩ => ?_) hev
  subst ex
  cases r1
  obtain ⟨k, fd, ps, F, hr, hk, hb⟩ := hok f sp hfo
  refine PySem.W.callWith_K (h₀ := X.base) I1.ok.mod.kin hk (thn (ha pos pins s1 σ H1 _ I1 q) fun us s2 ⟨vs, H2, I2, r, q2⟩ => ⟨I2.kIn, ?_⟩) he hpl
  exact run_fn F hr hb .nil hx I2 r q2
end
end L2

set_option Elab.async false
set_option linter.all false
set_option maxRecDepth 100000
namespace L2
open PySem PySem.Spec PyProof.Rows
theorem noFill_tuple_mul : fillsNumberSlot (.type "tuple") "mul" = pure false :=
  PySem.fillsNumberSlot_seq (id := "tuple.__mul__") (r := some (.builtin "tuple.__rmul__")) PySem.F.slot_tuple_mul.lookup (by decide +kernel) PySem.F.slot_tuple_rmul.lookup (by decide +kernel)
theorem repeat_tuple : seqRepeat? (.type "tuple") = pure (some (.builtin "tuple.__mul__")) := by
  unfold seqRepeat?
  rw [PySem.seqSlot_of (T := "tuple") (name := "__mul__") (id := "tuple.__mul__") PySem.F.slot_tuple_mul.lookup (by decide +kernel), PySem.seqSlot_of (T := "tuple") (name := "__rmul__") (id := "tuple.__rmul__") PySem.F.slot_tuple_rmul.lookup (by decide +kernel)]
  rfl
theorem int_rmul_tuple (a : Int) (t : Tok) (l : Addr) (items : Array Value) (n : Nat) (dd : Option Addr) (sl : Array (Option Value)) :
    Meets (Builtin.«int.__rmul__» ⟨[.int a t, .ref l], []⟩) (fun _ R s => s.heap.get? l = some { cls := .type "tuple", dict := dd, data := .seq items n, slots := sl } ∧ R (.ok (.ret Value.notImplemented)) s) :=
  .of_wp fun prog w A R s h => by obtain ⟨hp, g, d, tk, os⟩ := s; obtain ⟨hl, h⟩ := h; have f1 := PySem.F.sub_int_tuple; wp_walk using wpAny_loadPart' hl; exact ⟨_, rfl, h⟩
theorem tuple_mul (l : Addr) (items : Array Value) (n : Nat) (dd : Option Addr) (sl : Array (Option Value)) (k : Nat) (u : Tok) (hk : 2 ≤ k) (hk2 : k ≤ 1000) (he : items.isEmpty = false) (hz : items.size * k ≤ 100000) :
    Meets (Builtin.«tuple.__mul__» ⟨[.ref l, .int (k : Int) u], []⟩) (fun _ R s => s.heap.get? l = some { cls := .type "tuple", dict := dd, data := .seq items n, slots := sl } ∧
      R (.ok (.ret (Value.ref s.heap.objs.size))) { s with heap := s.heap.push { cls := Value.type "tuple", data := Data.seq (List.foldl (fun x1 x2 => x1 ++ x2) #[] (List.replicate (k : Int).toNat items)) }, toks := s.toks }) :=
  .of_wp fun prog w A R s h => by
    obtain ⟨hp, g, d, tk, os⟩ := s; obtain ⟨hl, h⟩ := h
    have f1 := AutoSeq1.idx_int
    have f2 := AutoSeq1.sub_tuple_tuple
    have hs : ((items.size : Int) * (k : Int)) ≤ 100000 := by
      have q : ((items.size * k : Nat) : Int) ≤ ((100000 : Nat) : Int) := Int.ofNat_le.mpr hz
      rw [Int.natCast_mul] at q
      exact q
    have c1 : (decide ((k : Int) < -2 ^ 63) || decide ((k : Int) ≥ 2 ^ 63)) = false := by
      rw [decide_eq_false (by omega), decide_eq_false (by omega)]; rfl
    have c2 : (items.isEmpty || (k : Int) == 1) = false := by
      rw [he, Bool.false_or]
      exact beq_false_of_ne (by omega)
    have c3 : (decide ((k : Int) ≤ 0) || items.isEmpty) = false := by
      rw [he, decide_eq_false (by omega)]; rfl
    have c4 : decide ((items.size : Int) * (k : Int) > (2 ^ 63 - 1) / 8) = false := decide_eq_false (by omega)
    have c5 : Builtin.Tuple.tupleTooMany ((items.size : Int) * (k : Int)) = false := by
      unfold Builtin.Tuple.tupleTooMany
      have : (100000 : Int) ≤ ((sizeLine : Nat) : Int) := by decide
      exact decide_eq_false (by omega)
    wp_walk using wpAny_loadPart' hl
    refine wpAny_ite_false (decide_eq_false (by rw [c1]; exact Bool.false_ne_true)) ?_
    wp_walk using wpAny_loadPart' hl
    refine wpAny_ite_false (decide_eq_false (by rw [c2]; exact Bool.false_ne_true)) ?_
    refine wpAny_ite_false (decide_eq_false (by rw [c3]; exact Bool.false_ne_true)) ?_
    refine wpAny_ite_false c4 ?_
    refine wpAny_ite_false (decide_eq_false (by rw [c5]; exact Bool.false_ne_true)) ?_
    have hsz : (List.foldl (fun x1 x2 => x1 ++ x2) #[] (List.replicate (k : Int).toNat items)).size ≤ sizeLine := by
      have q := foldl_rep items.toList (k : Int).toNat []
      have e : (List.foldl (fun x1 x2 => x1 ++ x2) #[] (List.replicate (k : Int).toNat items)) = (List.replicate k items.toList).flatten.toArray := by simpa using q
      rw [e, List.size_toArray, len_rep, Array.length_toList]
      have : (100000 : Nat) ≤ sizeLine := by decide
      have z := Nat.mul_comm k items.size
      omega
    wp_walk
    refine wpAny_ite_false (decide_eq_false (Nat.not_lt.mpr hsz)) ?_
    wp_walk
    exact ⟨_, rfl, h⟩
section
variable {X : Cx}
/-- t * k, k a number from 2 on -/
theorem op_repT : OpR X (binaryOp .Mult) (fun x y H Q => ∃ (a : Addr) (xs : List V) (k : Nat), x = .ref a ∧ y = .int k ∧ SqT X.K H a xs ∧ xs ≠ [] ∧ 2 ≤ k ∧ k ≤ 1000 ∧ xs.length * k ≤ 100000 ∧ ∀ p, H p = none → Q (.ref p) (upd H p (.tup (List.replicate k xs).flatten))) := by
  intro pins s σ H x y v u Q I rx ry h
  obtain ⟨a, xs, k, rfl, rfl, hq, hne, hk, hk2, hz, q⟩ := h
  cases rx
  obtain ⟨t, rfl⟩ := ry
  obtain ⟨its, r, ht, hzz⟩ := I.tuple hq
  obtain ⟨⟨cls, dd, data, sl⟩, ho, hc, n, hd⟩ := id ht
  simp only at hc hd
  subst hc hd
  have hl := r.length
  have he : its.toArray.isEmpty = false := by
    cases its with
    | nil => rw [List.length_nil] at hl; exact absurd (List.length_eq_zero_iff.mp hl) hne
    | cons b c => rfl
  refine wpAny_binaryOp_repeat_ref (T := "tuple") (U := "int") (by decide) ⟨_, ho, rfl⟩ (fun s' => typeIs_int s' k t) noFill_tuple_mul PySem.F.fills_int_mul PySem.F.slot_int_rmul repeat_tuple PySem.F.slot_int_index.lookup
    (call_meets PySem.F.slot_int_rmul (typeIs_int s k t) PySem.F.entry_int_rmul (PySem.F.args_int_rmul_2 _ _) (int_rmul_tuple k t a its.toArray n dd sl)
      ⟨ho, rfl, ⟨_, ho, rfl⟩, call_meets PySem.F.slot_tuple_mul ⟨_, ho, rfl⟩ PySem.F.entry_tuple_mul (PySem.F.args_tuple_mul_2 _ _) (tuple_mul a its.toArray n dd sl k t hk hk2 he (by rw [List.size_toArray, ← hl]; exact hz)) ⟨ho, ?_⟩⟩)
  have e : (List.foldl (fun x1 x2 => x1 ++ x2) #[] (List.replicate (k : Int).toNat its.toArray)) = (List.replicate k its).flatten.toArray := by
    have q := foldl_rep its (k : Int).toNat []
    simpa using q
  rw [e]
  have hlen : (List.replicate k xs).flatten.length ≤ sizeLine := by
    rw [len_rep]
    have : (100000 : Nat) ≤ sizeLine := by decide
    have z := Nat.mul_comm k xs.length
    omega
  have I2 : Inv X pins σ (upd H s.heap.objs.size (.tup (List.replicate k xs).flatten)) { s with heap := s.heap.push { cls := .type "tuple", data := .seq (List.replicate k its).flatten.toArray } } :=
    I.laid (t' := s.toks) (fun b o e => Heap.get?_push_of_some _ e) (Nat.le_refl _) (show ObjOk X.prog X.w _ _ _ (.tup (List.replicate k xs).flatten) from ⟨hlen, _, r.rep k, IsTup.new _ _⟩)
  exact ⟨.ref s.heap.objs.size, _, I2, rfl, q _ I.fresh⟩
/-- xs[i], by values -/
theorem get_list : PGet X (fun x y H Q => ∃ (p : Addr) (xs : List V) (i : Nat) (v : V), x = .ref p ∧ y = .int i ∧ SqL X.K H p xs ∧ xs[i]? = some v ∧ Q v H) := by
  intro pins s σ H o i ov iv Q I ro ri h
  obtain ⟨p, xs, k, v, rfl, rfl, hq, hv, q⟩ := h
  cases ro
  obtain ⟨t, rfl⟩ := ri
  obtain ⟨its, r, pl, hz⟩ := I.list hq
  obtain ⟨w, ew, rw'⟩ := r.get hv
  have hn := line63
  have hl := r.length
  have hk : k < xs.length := by
    rcases Nat.lt_or_ge k xs.length with z | z
    · exact z
    · rw [List.getElem?_eq_none_iff.mpr z] at hv; cases hv
  exact wpAny_getItem_list pl.isList (by omega) (by omega) (by simpa using ew) ⟨v, H, I, rw', q⟩
end
end L2

set_option Elab.async false
set_option linter.all false
set_option maxRecDepth 100000
namespace Fw
open PySem PySem.Spec PyProof.Rows L2
/-! ### lists of signs cut at a sign -/
def splL (c : Nat) : List Nat → List (List Nat)
  | [] => [[]]
  | a :: r => if a = c then [] :: splL c r else match splL c r with
    | p :: ps => (a :: p) :: ps
    | [] => [[a]]
theorem splL_ne (c : Nat) : ∀ l, splL c l ≠ []
  | [] => by simp [splL]
  | a :: r => by
    unfold splL
    split
    · simp
    · split <;> simp
theorem splL_free {c : Nat} : ∀ {l : List Nat}, c ∉ l → splL c l = [l]
  | [], _ => rfl
  | a :: r, h => by
    have h1 : a ≠ c := fun e => h (by simp [e])
    have h2 : c ∉ r := fun e => h (List.mem_cons_of_mem _ e)
    unfold splL
    rw [if_neg h1, splL_free h2]
theorem splL_app {c : Nat} : ∀ {l : List Nat} (r : List Nat), c ∉ l → splL c (l ++ c :: r) = l :: splL c r
  | [], r, _ => by simp [splL]
  | a :: l, r, h => by
    have h1 : a ≠ c := fun e => h (by simp [e])
    have h2 : c ∉ l := fun e => h (List.mem_cons_of_mem _ e)
    rw [List.cons_append]
    conv => lhs; unfold splL
    rw [if_neg h1, splL_app r h2]
theorem splL_join (c : Nat) : ∀ (ps : List Str), ps ≠ [] → (∀ p ∈ ps, c ∉ p.cps.toList) → splL c (Str.join ⟨#[c]⟩ ps).cps.toList = ps.map (·.cps.toList)
  | [], h, _ => absurd rfl h
  | [p], _, hf => by
    show splL c p.cps.toList = [p.cps.toList]
    exact splL_free (hf p (by simp))
  | p :: q :: r, _, hf => by
    have ih := splL_join c (q :: r) (by simp) fun x hx => hf x (List.mem_cons_of_mem _ hx)
    show splL c (p ++ ⟨#[c]⟩ ++ Str.join ⟨#[c]⟩ (q :: r)).cps.toList = _
    have e : (p ++ ⟨#[c]⟩ ++ Str.join ⟨#[c]⟩ (q :: r)).cps.toList = p.cps.toList ++ c :: (Str.join ⟨#[c]⟩ (q :: r)).cps.toList := by
      show ((p.cps ++ #[c]) ++ (Str.join ⟨#[c]⟩ (q :: r)).cps).toList = _
      simp
    rw [e, splL_app _ (hf p (by simp)), ih]
    rfl
theorem cnt_nn (c : Nat) : ∀ l, (0 : Int) ≤ cnt c l
  | [] => Int.le_refl 0
  | n :: r => by
    have := cnt_nn c r
    rw [cnt_cons]
    split <;> omega
theorem split_eq (x : Str) (c : Nat) : (Txt.split x ⟨#[c]⟩).map (·.cps.toList) = splL c x.cps.toList := by
  have h1 := StrLaws.join_split x ⟨#[c]⟩
  have h2 := StrLaws.split_free x c
  by_cases e : Txt.split x ⟨#[c]⟩ = []
  · exfalso
    have := split_len x c
    rw [e] at this
    have h3 := cnt_nn c x.cps.toList
    simp at this
    omega
  · have := splL_join c _ e h2
    rw [h1] at this
    exact this.symm
theorem slice1 (x : Str) (h : 1 ≤ x.length) : Txt.slice x (some 1) none = ⟨(x.cps.toList.drop 1).toArray⟩ := by
  have q := slice_closes_fromL (x := x) (i := 1) (b := x.length) (by omega) (by omega) rfl
  have q' := eq_of_beq q
  rw [q']
  have e : ((x.length : Int) - 1).toNat = (x.cps.toList.drop 1).length := by
    rw [List.length_drop]
    show _ = x.cps.toList.length - 1
    have : x.cps.toList.length = x.length := by simp [Str.length]
    omega
  have e2 : ((x.cps.toList.drop (1 : Int).toNat).take ((x.length : Int) - 1).toNat) = x.cps.toList.drop 1 := by
    rw [e]
    show (x.cps.toList.drop 1).take (x.cps.toList.drop 1).length = _
    exact List.take_length
  first
    | exact congrArg (fun l => (⟨l.toArray⟩ : Str)) e2
    | (rw [e2])
/-! ### the sorts of words -/
def smallS : Str := "abcdefghijklmnopqrstuvwxyz"
def greatS : Str := "ABCDEFGHIJKLMNOPQRSTUVWXYZ"
def keptL : List Str := ["num", "fun", "call", "let", "ring", "case", "make", "pick", "plus", "minus", "times", "less", "if", "kind", "record", "face", "hide", "val", "part", "maker", "apply", "main"]
def inS (y : Str) (c : Nat) : Bool := decide (c ∈ y.cps.toList)
def allS (z y : Str) : Bool := z.cps.toList.all (inS y)
def okLen (z : Str) : Bool := decide (1 ≤ z.length) && decide (z.length ≤ 8)
def smallB (z : Str) : Bool := okLen z && allS z smallS
def nameB (z : Str) : Bool := smallB z && !decide (z ∈ keptL)
def restS (z : Str) : Str := ⟨(z.cps.toList.drop 1).toArray⟩
def greatB (z : Str) : Bool := okLen z && (inS greatS (z.cps.toList.getD 0 0) && allS (restS z) smallS)
def pathB (z : Str) : Bool := match splL 46 z.cps.toList with
  | [a, b] => greatB ⟨a.toArray⟩ && nameB ⟨b.toArray⟩
  | _ => false
def varB (z : Str) : Bool := decide (z.cps.toList.head? = some 63) && smallB (restS z)
def leafB (z : Str) : Bool := decide (z = "num") || varB z || nameB z || pathB z
def headB (z : Str) : Bool := nameB z || pathB z

theorem len_toList (z : Str) : z.cps.toList.length = z.length := by simp [Str.length]
theorem str_ext {a b : Str} (h : a.cps.toList = b.cps.toList) : a = b := by
  cases a; cases b
  simp only [Str.mk.injEq]
  exact Array.toList_inj.mp h
theorem small_range {c : Nat} (h : inS smallS c = true) : 97 ≤ c ∧ c ≤ 122 := by
  have h' : c ∈ smallS.cps.toList := of_decide_eq_true h
  have : ∀ d ∈ smallS.cps.toList, 97 ≤ d ∧ d ≤ 122 := by decide +kernel
  exact this c h'
theorem great_range {c : Nat} (h : inS greatS c = true) : 65 ≤ c ∧ c ≤ 90 := by
  have h' : c ∈ greatS.cps.toList := of_decide_eq_true h
  have : ∀ d ∈ greatS.cps.toList, 65 ≤ d ∧ d ≤ 90 := by decide +kernel
  exact this c h'
theorem smallS_len : smallS.length = 26 := by decide +kernel
theorem greatS_len : greatS.length = 26 := by decide +kernel
/-- a word of small letters, in other words -/
structure IsLet (z : Str) (n : Nat) : Prop where
  len : z.length = n
  all : allS z smallS = true
theorem IsLet.mem {z : Str} {n : Nat} (h : IsLet z n) {c : Nat} (hc : c ∈ z.cps.toList) : 97 ≤ c ∧ c ≤ 122 :=
  small_range (List.all_eq_true.mp h.all c hc)
theorem isLet_nil : IsLet "" 0 := ⟨by decide +kernel, by decide +kernel⟩
theorem cps_app (a b : Str) : (a ++ b).cps.toList = a.cps.toList ++ b.cps.toList := by
  show (a.cps ++ b.cps).toList = _
  simp
theorem len_app (a b : Str) : (a ++ b).length = a.length + b.length := by
  rw [← len_toList, cps_app, List.length_append, len_toList, len_toList]
theorem isLet_snoc {z : Str} {n : Nat} {c : Nat} (h : IsLet z n) (hc : c ∈ smallS.cps.toList) : IsLet (z ++ ⟨#[c]⟩) (n + 1) := by
  refine ⟨by rw [len_app, h.len]; rfl, ?_⟩
  unfold allS
  rw [cps_app, List.all_append]
  have := h.all
  unfold allS at this
  rw [this]
  simp [inS, hc]
theorem allS_app {a b y : Str} : allS (a ++ b) y = (allS a y && allS b y) := by
  unfold allS
  rw [cps_app, List.all_append]
/-! small names -/
theorem kept_q : ∀ k ∈ keptL, nameB (k ++ "q") = true := by decide +kernel
theorem small_name {z : Str} {n : Nat} (h : IsLet z n) (h1 : 1 ≤ n) (h2 : n ≤ 8) (hk : z ∉ keptL) : nameB z = true := by
  unfold nameB smallB okLen
  rw [h.len, h.all, decide_eq_true h1, decide_eq_true h2, decide_eq_false hk]
  rfl
theorem name_let {z : Str} (h : nameB z = true) : ∃ n, IsLet z n ∧ 1 ≤ n ∧ n ≤ 8 ∧ z ∉ keptL := by
  unfold nameB smallB okLen at h
  simp only [Bool.and_eq_true, decide_eq_true_eq, Bool.not_eq_true', decide_eq_false_iff_not] at h
  exact ⟨z.length, ⟨rfl, h.1.2⟩, h.1.1.1, h.1.1.2, h.2⟩
/-! great names -/
theorem great_mk {c : Nat} {z : Str} {n : Nat} (hc : c ∈ greatS.cps.toList) (h : IsLet z n) (h2 : n ≤ 7) : greatB (⟨#[c]⟩ ++ z) = true := by
  have e : (⟨#[c]⟩ ++ z : Str).cps.toList = c :: z.cps.toList := by rw [cps_app]; rfl
  have er : restS (⟨#[c]⟩ ++ z) = z := by
    apply str_ext
    unfold restS
    rw [e]
    simp
  have el : (⟨#[c]⟩ ++ z : Str).length = n + 1 := by rw [len_app, h.len]; show 1 + n = n + 1; omega
  unfold greatB okLen
  rw [el, er, e, h.all]
  simp [inS, hc]
  omega
theorem great_parts {z : Str} (h : greatB z = true) : ∃ c r, z.cps.toList = c :: r ∧ 65 ≤ c ∧ c ≤ 90 ∧ (∀ d ∈ r, 97 ≤ d ∧ d ≤ 122) ∧ r.length ≤ 7 := by
  unfold greatB okLen at h
  simp only [Bool.and_eq_true, decide_eq_true_eq] at h
  obtain ⟨⟨h1, h2⟩, h3, h4⟩ := h
  cases e : z.cps.toList with
  | nil => rw [← len_toList, e] at h1; simp at h1
  | cons c r =>
    rw [e] at h3
    have h3' : inS greatS c = true := h3
    refine ⟨c, r, rfl, (great_range h3').1, (great_range h3').2, fun d hd => ?_, ?_⟩
    · unfold allS restS at h4
      rw [e] at h4
      exact small_range (List.all_eq_true.mp h4 d (by simpa using hd))
    · rw [← len_toList, e] at h2
      simp at h2
      omega
/-! what a word with no dot, with a first sign that is none is not -/
theorem path_nodot {z : Str} (h : 46 ∉ z.cps.toList) : pathB z = false := by
  unfold pathB
  rw [splL_free h]
theorem var_first {z : Str} (h : z.cps.toList.head? ≠ some 63) : varB z = false := by
  unfold varB
  rw [decide_eq_false h]
  rfl
theorem name_not {z : Str} {c : Nat} (hc : c ∈ z.cps.toList) (h : ¬ (97 ≤ c ∧ c ≤ 122)) : nameB z = false := by
  cases e : nameB z with
  | false => rfl
  | true =>
    obtain ⟨n, hl, _⟩ := name_let e
    exact absurd (hl.mem hc) h
theorem num_toList : ("num" : Str).cps.toList = [110, 117, 109] := by decide +kernel
theorem great_not {z : Str} (h : greatB z = true) : leafB z = false ∧ headB z = false := by
  obtain ⟨c, r, e, h1, h2, h3, h4⟩ := great_parts h
  have n1 : nameB z = false := name_not (c := c) (by rw [e]; simp) (by omega)
  have n2 : pathB z = false := path_nodot (by
    rw [e]
    intro hm
    rcases List.mem_cons.mp hm with q | q
    · omega
    · have := h3 _ q; omega)
  have n3 : varB z = false := var_first (by rw [e]; simp; omega)
  have n4 : decide (z = ("num" : Str)) = false := decide_eq_false (fun q => by
    rw [q, num_toList] at e
    cases e
    omega)
  unfold leafB headB
  rw [n1, n2, n3, n4]
  exact ⟨rfl, rfl⟩
theorem var_mk {z : Str} {n : Nat} (h : IsLet z n) (h1 : 1 ≤ n) (h2 : n ≤ 8) : varB ("?" ++ z) = true := by
  have e : ("?" ++ z : Str).cps.toList = 63 :: z.cps.toList := by rw [cps_app]; rfl
  have er : restS ("?" ++ z) = z := by
    apply str_ext
    unfold restS
    rw [e]
    simp
  unfold varB smallB okLen
  rw [er, e, h.len, h.all, decide_eq_true h1, decide_eq_true h2]
  simp
theorem var_not {z : Str} (h : varB z = true) : headB z = false := by
  unfold varB at h
  simp only [Bool.and_eq_true, decide_eq_true_eq] at h
  obtain ⟨h1, h2⟩ := h
  cases e : z.cps.toList with
  | nil => rw [e] at h1; cases h1
  | cons c r =>
    rw [e] at h1
    cases h1
    have n1 : nameB z = false := name_not (c := 63) (by rw [e]; simp) (by omega)
    have n2 : pathB z = false := path_nodot (by
      rw [e]
      intro hm
      rcases List.mem_cons.mp hm with q | q
      · omega
      · unfold smallB allS restS at h2
        rw [e] at h2
        simp only [Bool.and_eq_true] at h2
        have := small_range (List.all_eq_true.mp h2.2 46 (by simpa using q))
        omega)
    unfold headB
    rw [n1, n2]
    rfl
theorem path_mk {g z : Str} (hg : greatB g = true) (hz : nameB z = true) : pathB (g ++ "." ++ z) = true := by
  obtain ⟨c, r, e, h1, h2, h3, h4⟩ := great_parts hg
  obtain ⟨n, hl, _⟩ := name_let hz
  have eg : (g ++ "." ++ z : Str).cps.toList = g.cps.toList ++ 46 :: z.cps.toList := by
    rw [cps_app, cps_app]
    simp
    rfl
  have g46 : 46 ∉ g.cps.toList := by
    rw [e]
    intro hm
    rcases List.mem_cons.mp hm with q | q
    · omega
    · have := h3 _ q; omega
  have z46 : 46 ∉ z.cps.toList := fun hm => by have := hl.mem hm; omega
  unfold pathB
  rw [eg, splL_app _ g46, splL_free z46]
  show (greatB ⟨g.cps.toList.toArray⟩ && nameB ⟨z.cps.toList.toArray⟩) = true
  have a : (⟨g.cps.toList.toArray⟩ : Str) = g := str_ext (by simp)
  have b : (⟨z.cps.toList.toArray⟩ : Str) = z := str_ext (by simp)
  rw [a, b, hg, hz]
  rfl
theorem kept_not : ∀ k ∈ keptL.drop 1, leafB k = false ∧ headB k = false := by decide +kernel
theorem num_not : headB "num" = false ∧ leafB "num" = true := by decide +kernel
theorem arrow_not : leafB "->" = false ∧ headB "->" = false := by decide +kernel
end Fw

set_option Elab.async false
set_option linter.all false
set_option maxRecDepth 100000
namespace Fw
open PySem PySem.Spec PyProof.Rows L2
/-! ### things -/
inductive T where
  | int (i : Int)
  | str (x : Str)
  | tup (l : List T)
mutual
def T.sz : T → Nat
  | .int _ => 1
  | .str _ => 1
  | .tup l => 1 + szs l
def szs : List T → Nat
  | [] => 0
  | t :: r => t.sz + szs r
end
theorem sz_pos : ∀ t : T, 1 ≤ t.sz
  | .int _ => by simp [T.sz]
  | .str _ => by simp [T.sz]
  | .tup l => by simp [T.sz]
theorem szs_app : ∀ (a b : List T), szs (a ++ b) = szs a + szs b
  | [], b => by simp [szs]
  | t :: r, b => by simp [szs, szs_app r b, Nat.add_assoc]
theorem len_szs : ∀ l : List T, l.length ≤ szs l
  | [] => by simp [szs]
  | t :: r => by
    have := len_szs r
    have := sz_pos t
    simp [szs]
    omega
mutual
inductive Rep (H : Hp) : V → T → Prop where
  | int (i : Int) : Rep H (.int i) (.int i)
  | str (x : Str) (h : x.length ≤ 100000) : Rep H (.str x) (.str x)
  | tup {a : Addr} {vs : List V} {ts : List T} (h : H a = some (.tup vs)) (r : Reps H vs ts) : Rep H (.ref a) (.tup ts)
inductive Reps (H : Hp) : List V → List T → Prop where
  | nil : Reps H [] []
  | cons {v : V} {t : T} {vs : List V} {ts : List T} (r : Rep H v t) (q : Reps H vs ts) : Reps H (v :: vs) (t :: ts)
end
mutual
theorem Rep.mono {H H' : Hp} (e : ∀ b xs, H b = some (.tup xs) → H' b = some (.tup xs)) : ∀ {v : V} {t : T}, Rep H v t → Rep H' v t
  | _, _, .int i => .int i
  | _, _, .str x h => .str x h
  | _, _, .tup h r => .tup (e _ _ h) (Reps.mono e r)
theorem Reps.mono {H H' : Hp} (e : ∀ b xs, H b = some (.tup xs) → H' b = some (.tup xs)) : ∀ {vs : List V} {ts : List T}, Reps H vs ts → Reps H' vs ts
  | _, _, .nil => .nil
  | _, _, .cons r q => .cons (Rep.mono e r) (Reps.mono e q)
end
theorem Rep.same {H H' : Hp} (e : Same H H') {v : V} {t : T} (r : Rep H v t) : Rep H' v t := r.mono fun b xs h => e b _ h
theorem Reps.same {H H' : Hp} (e : Same H H') {vs : List V} {ts : List T} (r : Reps H vs ts) : Reps H' vs ts := r.mono fun b xs h => e b _ h
theorem Reps.length {H : Hp} : ∀ {vs : List V} {ts : List T}, Reps H vs ts → vs.length = ts.length
  | _, _, .nil => rfl
  | _, _, .cons _ q => congrArg (· + 1) q.length
theorem Reps.append {H : Hp} : ∀ {vs ws : List V} {ts us : List T}, Reps H vs ts → Reps H ws us → Reps H (vs ++ ws) (ts ++ us)
  | _, _, _, _, .nil, q => q
  | _, _, _, _, .cons r p, q => .cons r (Reps.append p q)
theorem Reps.snoc_inv {H : Hp} {vs : List V} {ts : List T} (r : Reps H vs ts) (h : vs ≠ []) : ∃ ws us v t, vs = ws ++ [v] ∧ ts = us ++ [t] ∧ Reps H ws us ∧ Rep H v t := by
  induction vs generalizing ts with
  | nil => exact absurd rfl h
  | cons v vs ih =>
    cases r with
    | @cons _ t _ ts' r q =>
      by_cases e : vs = []
      · subst e
        cases q
        exact ⟨[], [], v, t, rfl, rfl, .nil, r⟩
      · obtain ⟨ws, us, v', t', rfl, rfl, q1, q2⟩ := ih q e
        exact ⟨v :: ws, t :: us, v', t', rfl, rfl, .cons r q1, q2⟩
theorem Same.tups {H H' : Hp} (e : Same H H') : ∀ b xs, H b = some (.tup xs) → H' b = some (.tup xs) := fun b xs h => e b _ h
theorem same_new {H : Hp} {p : Addr} (h : H p = none) (o : HO) : Same H (upd H p o) := fun b u q => by rw [upd_ne (ne_of_none q h)]; exact q
/-! ### things that fit, by what stands within them -/
section
variable (kids : T → Option (List T))
inductive Good : T → Prop where
  | mk {t : T} {l : List T} (h : kids t = some l) (q : ∀ k ∈ l, Good k) : Good t
inductive Bad : T → Prop where
  | none {t : T} (h : kids t = none) : Bad t
  | kid {t : T} {l : List T} {k : T} (h : kids t = some l) (m : k ∈ l) (q : Bad k) : Bad t
end
/-! ### the sorts of words, of things -/
def onStr (f : Str → Bool) : T → Bool
  | .str z => f z
  | _ => false
def kidsK : T → Option (List T)
  | .int _ => none
  | .str z => if leafB z = true then some [] else none
  | .tup [] => none
  | .tup (h :: r) => if r.length = 2 ∧ onStr (fun z => decide (z = "->")) h = true then some r else if (1 ≤ r.length ∧ r.length ≤ 3) ∧ onStr headB h = true then some r else none
theorem kidsK_str (z : Str) : kidsK (.str z) = if leafB z = true then some [] else none := rfl
theorem kidsK_cons (h : T) (r : List T) : kidsK (.tup (h :: r)) = if r.length = 2 ∧ onStr (fun z => decide (z = "->")) h = true then some r else if (1 ≤ r.length ∧ r.length ≤ 3) ∧ onStr headB h = true then some r else none := rfl
theorem kidsK_dec {t : T} {l : List T} (h : kidsK t = some l) : szs l < t.sz := by
  cases t with
  | int i => cases h
  | str z =>
    rw [kidsK_str] at h
    by_cases e : leafB z = true
    · rw [if_pos e] at h
      cases h
      simp [szs, T.sz]
    · rw [if_neg e] at h
      cases h
  | tup ts =>
    cases ts with
    | nil => cases h
    | cons a r =>
      have e : l = r := by
        rw [kidsK_cons] at h
        by_cases e : r.length = 2 ∧ onStr (fun z => decide (z = "->")) a = true
        · rw [if_pos e] at h
          exact (Option.some.inj h).symm
        · rw [if_neg e] at h
          by_cases e' : (1 ≤ r.length ∧ r.length ≤ 3) ∧ onStr headB a = true
          · rw [if_pos e'] at h
            exact (Option.some.inj h).symm
          · rw [if_neg e'] at h
            cases h
      subst e
      have := sz_pos a
      simp [szs, T.sz]
      omega
/-! ### a def of the text that is there, with its promise -/
def Has (P : Program) (w : World) (K : PySem.W.Frag) (mg : Str → Option Value) (base : Heap) (k : Nat) (x : Str) (ps : List Str) (sp : Sp) : Prop :=
  ∃ f fd, FnOk P w K mg base CX0 k f fd ps sp ∧ Binds K fd ps [] ∧ PySem.W.keepIn K (.ref f) = true ∧ mg x = some (.ref f)
theorem Has.mono {P : Program} {w : World} {K : PySem.W.Frag} {mg : Str → Option Value} {base : Heap} {j k : Nat} {x : Str} {ps : List Str} {sp : Sp} (h : Has P w K mg base j x ps sp) (q : j ≤ k) : Has P w K mg base k x ps sp := by
  obtain ⟨f, fd, h1, h2⟩ := h
  exact ⟨f, fd, h1.mono q, h2⟩
theorem pcall {X : Cx} {k j : Nat} {x : Str} {ps : List Str} {sp : Sp} {p pos : Pos} {e : Expr} {es : List Expr} {t : TA} (h : Has X.prog X.w X.K X.mg X.base k x ps sp) (hr : Room j X.A) (hkj : k ≤ j) (hg : Gl X x) (ha : PA X (e :: es) t)
    (hdb : (x == ("__debug__" : Str)) = false := by decide) (he : starEach (e :: es) X.env = (false, eval e X.env) :: starEach es X.env := by rfl) (hpl : (backTo pos (starEach es X.env)).any (·.1) = false := by rfl) :
    PE X (.Call (.Name x p) (e :: es) [] pos) (tCall sp [] E0 t) := by
  obtain ⟨f, fd, h1, h2, h3, h4⟩ := h
  exact pe_call h1 (hr.mono hkj) hg h4 h3 h2 .nil pass0 ha hdb he hpl
theorem pcall0 {X : Cx} {k j : Nat} {x : Str} {ps : List Str} {sp : Sp} {p pos : Pos} (h : Has X.prog X.w X.K X.mg X.base k x ps sp) (hr : Room j X.A) (hkj : k ≤ j) (hg : Gl X x)
    (hdb : (x == ("__debug__" : Str)) = false := by decide) : PE X (.Call (.Name x p) [] [] pos) (tCall sp [] E0 tNil) := by
  obtain ⟨f, fd, h1, h2, h3, h4⟩ := h
  exact pe_call0 h1 (hr.mono hkj) hg h4 h3 h2 .nil pass0 hdb
def spT (f : T → Bool) : Sp := fun vs H Q _ => ∃ v t, vs = [v] ∧ Rep H v t ∧ ∀ H', Same H H' → Q (.bl (f t)) H'
def spWithin (kids : T → Option (List T)) : Sp := fun vs H Q _ => ∃ v t, vs = [v] ∧ Rep H v t ∧ (kids t = none → ∀ H', Same H H' → Q .non H') ∧
  ∀ l, kids t = some l → ∀ H' p ws, Same H H' → H p = none → H' p = some (.lst ws) → Reps H' ws l → Q (.ref p) H'
def spFits (kids : T → Option (List T)) : Sp := fun vs H Q _ => ∃ v t b, vs = [v] ∧ Rep H v t ∧ t.sz ≤ 100000 ∧ ((b = true ∧ Good kids t) ∨ (b = false ∧ Bad kids t)) ∧ ∀ H', Same H H' → Q (.bl b) H'
def spAllFit (kids : T → Option (List T)) (g : Addr) : Sp := fun vs H Q _ => ∃ v t b, vs = [v, .ref g] ∧ Rep H v t ∧ t.sz ≤ 100000 ∧ ((b = true ∧ Good kids t) ∨ (b = false ∧ Bad kids t)) ∧ ∀ H', Same H H' → Q (.bl b) H'
def spAllOf : Sp := fun vs H Q _ => ∃ x y, vs = [.str x, .str y] ∧ x.length ≤ 100000 ∧ ∀ H', Same H H' → Q (.bl (allS x y)) H'
end Fw
namespace Fw
open PySem PySem.Spec PyProof.Rows L2
def tyT : T → Value
  | .int _ => .type "int"
  | .str _ => .type "str"
  | .tup _ => .type "tuple"
def isStrT : T → Bool
  | .str _ => true
  | _ => false
def isTupT : T → Bool
  | .tup _ => true
  | _ => false
theorem rep_ty {K : PySem.W.Frag} {H : Hp} {v : V} {t : T} (r : Rep H v t) : TyOf K H v (tyT t) := by
  cases r with
  | int i => exact .int i
  | str x h => exact .str x
  | tup h q => exact .tup h
theorem kit_str (K : PySem.W.Frag) (t : T) : PySem.W.kitOne K (tyT t) (.type "str") = some (isStrT t) := by
  cases t with
  | int i => first | rfl | (with_unfolding_all rfl) | kernel_rfl
  | str x => first | rfl | (with_unfolding_all rfl) | kernel_rfl
  | tup l => first | rfl | (with_unfolding_all rfl) | kernel_rfl
theorem kit_tup (K : PySem.W.Frag) (t : T) : PySem.W.kitOne K (tyT t) (.type "tuple") = some (isTupT t) := by
  cases t with
  | int i => first | rfl | (with_unfolding_all rfl) | kernel_rfl
  | str x => first | rfl | (with_unfolding_all rfl) | kernel_rfl
  | tup l => first | rfl | (with_unfolding_all rfl) | kernel_rfl
/-- what of the text's names the defs ask -/
structure Gb (K : PySem.W.Frag) (mg : Str → Option Value) : Prop where
  len : mg "len" = none
  all : mg "all" = none
  isi : mg "isinstance" = none
  str : mg "str" = none
  tuple : mg "tuple" = none
  list : mg "list" = none
  range : mg "range" = none
  small : ∃ t, mg "SMALL_LETTERS" = some (.str smallS t)
  great : ∃ t, mg "GREAT_LETTERS" = some (.str greatS t)
  most : ∃ t, mg "MOST_LETTERS" = some (.int 8 t)
  kept : ∃ a, mg "KEPT" = some (.ref a) ∧ ∀ H, SqT K H a (keptL.map V.str)
theorem tt1 {σ : L2.St} {H : Hp} {Q : Bool → Hp → Prop} (h : Q true H) : tTrue σ H Q := h
theorem small {n : Nat} (h : n ≤ 1000000) : n ≤ sizeLine := Nat.le_trans h (by decide)
theorem small' {n : Nat} (h : n ≤ 1000000) : n < sizeLine := Nat.lt_of_le_of_lt h (by decide)
theorem eqV_str (a b : Str) : eqV (.str a) (.str b) = decide (a = b) := by
  show (a == b) = _
  rw [Bool.eq_iff_iff]
  simp
theorem inV_str (z : Str) : ∀ l : List Str, inV (.str z) (l.map V.str) = decide (z ∈ l)
  | [] => by simp [inV]
  | a :: r => by
    have ih := inV_str z r
    unfold inV at ih ⊢
    rw [List.map_cons, List.any_cons, ih, eqV_str, Bool.eq_iff_iff]
    simp only [Bool.or_eq_true, decide_eq_true_eq, List.mem_cons]
    constructor
    · rintro (h | h)
      · exact .inl h.symm
      · exact .inr h
    · rintro (h | h)
      · exact .inl h.symm
      · exact .inr h
theorem flat_strs : ∀ l : List Str, (l.map V.str).all flatV = true
  | [] => rfl
  | a :: r => by rw [List.map_cons, List.all_cons, flat_strs r]; rfl
end Fw

set_option Elab.async false
set_option linter.all false
set_option maxRecDepth 100000
namespace Fw
open PySem PySem.Spec PyProof.Rows L2
theorem dot_eq : (Str.ofString "." : Str) = ⟨#[46]⟩ := by decide +kernel
theorem qm_eq : (Str.ofString "?" : Str) = ⟨#[63]⟩ := by decide +kernel
theorem starts_qm (z : Str) : Txt.startswith z "?" = decide (z.cps.toList.head? = some 63) := by
  rw [qm_eq]
  unfold Txt.startswith
  obtain ⟨a⟩ := z
  obtain ⟨l⟩ := a
  cases l with
  | nil => rfl
  | cons c r =>
    simp [Builtin.Str.subAt, Str.length, Nat.all]
    rw [Bool.eq_iff_iff]
    simp
theorem smallB_lo {z : Str} (h : ¬ 1 ≤ z.length) : smallB z = false := by
  unfold smallB okLen
  rw [decide_eq_false h]
  rfl
theorem smallB_hi {z : Str} (h : ¬ z.length ≤ 8) : smallB z = false := by
  unfold smallB okLen
  rw [decide_eq_false h]
  simp
theorem smallB_in {z : Str} (h1 : 1 ≤ z.length) (h2 : z.length ≤ 8) : smallB z = allS z smallS := by
  unfold smallB okLen
  rw [decide_eq_true h1, decide_eq_true h2]
  simp
theorem greatB_lo {z : Str} (h : ¬ 1 ≤ z.length) : greatB z = false := by
  unfold greatB okLen
  rw [decide_eq_false h]
  rfl
theorem greatB_hi {z : Str} (h : ¬ z.length ≤ 8) : greatB z = false := by
  unfold greatB okLen
  rw [decide_eq_false h]
  simp
theorem greatB_in {z : Str} (h1 : 1 ≤ z.length) (h2 : z.length ≤ 8) : greatB z = (inS greatS (z.cps.toList.getD 0 0) && allS (restS z) smallS) := by
  unfold greatB okLen
  rw [decide_eq_true h1, decide_eq_true h2]
  simp
theorem rest_slice {z : Str} (h : 1 ≤ z.length) : Txt.slice z (some 1) none = restS z := slice1 z h
theorem rest_len (z : Str) : (restS z).length ≤ z.length := by
  rw [← len_toList, ← len_toList]
  unfold restS
  simp
theorem first_at {z : Str} (h : 1 ≤ z.length) : atI z.cps.toList (0 : Int) = some (z.cps.toList.getD 0 0) := by
  refine atI_nat (j := 0) ?_
  have : 0 < z.cps.toList.length := by rw [len_toList]; omega
  rw [List.getElem?_eq_getElem this]
  simp [List.getD_eq_getElem?_getD, List.getElem?_eq_getElem this]
theorem cut1 (vs : List V) : cutV vs (some 1) none = vs.drop 1 := by
  unfold cutV
  rw [HT.sIx_none]
  have e : HT.sIx vs.length 0 (some 1) = min 1 vs.length := HT.sIx_nat vs.length 0 1
  rw [e]
  cases vs with
  | nil => rfl
  | cons a r =>
    have : min 1 (a :: r).length = 1 := by simp
    rw [this]
    simp
theorem cut1_not {vs : List V} (h : vs ≠ []) : ¬ (HT.sIx vs.length 0 (some 1) = 0 ∧ HT.sIx vs.length vs.length none = vs.length) := by
  have e : HT.sIx vs.length 0 (some 1) = min 1 vs.length := HT.sIx_nat vs.length 0 1
  rw [e]
  have : 0 < vs.length := List.length_pos_iff.mpr h
  omega
theorem pathB_two {z a b : Str} (h : Txt.split z "." = [a, b]) : pathB z = (greatB a && nameB b) := by
  have q := split_eq z 46
  rw [← dot_eq, h] at q
  unfold pathB
  rw [← q]
  show (greatB ⟨a.cps.toList.toArray⟩ && nameB ⟨b.cps.toList.toArray⟩) = _
  have e1 : (⟨a.cps.toList.toArray⟩ : Str) = a := str_ext (by simp)
  have e2 : (⟨b.cps.toList.toArray⟩ : Str) = b := str_ext (by simp)
  rw [e1, e2]
theorem pathB_other {z : Str} (h : (Txt.split z ".").length ≠ 2) : pathB z = false := by
  have q := split_eq z 46
  rw [← dot_eq] at q
  have q2 := congrArg List.length q
  rw [List.length_map] at q2
  unfold pathB
  split
  · rename_i a b e
    rw [e] at q2
    exact absurd q2 h
  · rfl
theorem split_short (z : Str) : (Txt.split z ".").length ≤ z.length + 1 := by
  have := split_weight z "." (by decide +kernel)
  omega
end Fw

set_option Elab.async false
set_option linter.all false
set_option maxRecDepth 100000
namespace Fw
open PySem PySem.Spec PyProof.Rows L2
/-! ### readings that come to one value, the heap but growing -/
def Ev (t : TE) (σ : L2.St) (H : Hp) (v : V) : Prop := ∀ Q : VK, (∀ H', Same H H' → Q v H') → t σ H Q
def Tst (t : TT) (σ : L2.St) (H : Hp) (c : Bool) : Prop := ∀ Q : Bool → Hp → Prop, (∀ H', Same H H' → Q c H') → t σ H Q
section
variable {ta tb tc : TE} {t u : TT} {σ : L2.St} {H : Hp} {v x y z : V} {c c1 c2 : Bool} {K : PySem.W.Frag}
theorem ev_var {i : Nat} (h : σ[i]? = some (some v)) : Ev (tVar i) σ H v := fun Q q => ⟨v, h, q H (Same.refl H)⟩
theorem ev_c : Ev (tC v) σ H v := fun Q q => q H (Same.refl H)
theorem ev_and (h1 : Ev ta σ H (.bl c1)) (h2 : c1 = true → ∀ H', Same H H' → Ev tb σ H' (.bl c2)) : Ev (tAndV ta tb) σ H (.bl (c1 && c2)) := fun Q q => h1 _ fun H' e => ⟨c1, rfl, by
  cases c1 with
  | true => exact iteT (h2 rfl H' e Q fun H2 e2 => q H2 (e.trans e2))
  | false => exact iteF (q H' e)⟩
theorem ev_or (h1 : Ev ta σ H (.bl c1)) (h2 : c1 = false → ∀ H', Same H H' → Ev tb σ H' (.bl c2)) : Ev (tOrV ta tb) σ H (.bl (c1 || c2)) := fun Q q => h1 _ fun H' e => ⟨c1, rfl, by
  cases c1 with
  | false => exact iteF (h2 rfl H' e Q fun H2 e2 => q H2 (e.trans e2))
  | true => exact iteT (q H' e)⟩
theorem ev_not (h1 : Ev ta σ H (.bl c)) : Ev (tNotV ta) σ H (.bl (!c)) := fun Q q => h1 _ fun H' e => ⟨c, rfl, q H' e⟩
theorem ts_b (h : Ev ta σ H (.bl c)) : Tst (tB ta) σ H c := fun Q q => h _ fun H' e => ⟨c, rfl, q H' e⟩
theorem ts_t (h : Ev ta σ H (.bl c)) : Tst (tTest ta) σ H c := fun Q q => h _ fun H' e => ⟨c, rfl, q H' e⟩
theorem ts_and (h1 : Tst t σ H c1) (h2 : c1 = true → ∀ H', Same H H' → Tst u σ H' c2) : Tst (tAnd t u) σ H (c1 && c2) := fun Q q => h1 _ fun H' e => by
  cases c1 with
  | true => exact iteT (h2 rfl H' e Q fun H2 e2 => q H2 (e.trans e2))
  | false => exact iteF (q H' e)
theorem ts_or (h1 : Tst t σ H c1) (h2 : c1 = false → ∀ H', Same H H' → Tst u σ H' c2) : Tst (tOr t u) σ H (c1 || c2) := fun Q q => h1 _ fun H' e => by
  cases c1 with
  | false => exact iteF (h2 rfl H' e Q fun H2 e2 => q H2 (e.trans e2))
  | true => exact iteT (q H' e)
theorem ts_not (h1 : Tst t σ H c) : Tst (tNot t) σ H (!c) := fun Q q => h1 _ fun H' e => q H' e
theorem ev_op {r : R2} (h1 : Ev ta σ H x) (h2 : ∀ H', Same H H' → Ev tb σ H' y) (h3 : ∀ H' Q, Same H H' → Q z H' → r x y H' Q) : Ev (tOp r ta tb) σ H z := fun Q q => h1 _ fun H1 e1 => h2 H1 e1 _ fun H2 e2 => h3 H2 Q (e1.trans e2) (q H2 (e1.trans e2))
theorem ev_if (h : Tst t σ H c) (h1 : c = true → ∀ H', Same H H' → Ev ta σ H' v) (h2 : c = false → ∀ H', Same H H' → Ev tb σ H' v) : Ev (tIf t ta tb) σ H v := fun Q q => h _ fun H' e => by
  cases c with
  | true => exact iteT (h1 rfl H' e Q fun H2 e2 => q H2 (e.trans e2))
  | false => exact iteF (h2 rfl H' e Q fun H2 e2 => q H2 (e.trans e2))
/-- a test by a value, then the two ways -/
theorem st_if {tst : TT} {a b : TS} {D : Ends} (h : Tst tst σ H c) (h1 : c = true → ∀ H', Same H H' → a D σ H') (h2 : c = false → ∀ H', Same H H' → b D σ H') : tIfS tst a b D σ H := h _ fun H' e => by
  cases c with
  | true => exact iteT (h1 rfl H' e)
  | false => exact iteF (h2 rfl H' e)
/-- ints compared -/
theorem ev_eqI {i j : Int} (h1 : Ev ta σ H (.int i)) (h2 : ∀ H', Same H H' → Ev tb σ H' (.int j)) : Ev (tOp rEq ta tb) σ H (.bl (decide (i = j))) :=
  ev_op h1 h2 fun H' Q e q => ⟨rfl, by rw [dec_int, Bool.beq_eq_decide_eq]; exact q⟩
theorem ev_chain {i j k : Int} {ta tb tc : TE} (h1 : Ev ta σ H (.int i)) (h2 : ∀ H', Same H H' → Ev tb σ H' (.int j)) (h3 : ∀ H', Same H H' → Ev tc σ H' (.int k)) :
    Ev (tChain (rI0 fun i j => .bl (decide (i ≤ j))) (rI0 fun i j => .bl (decide (i ≤ j))) ta tb tc) σ H (.bl (decide (i ≤ j) && decide (j ≤ k))) := fun Q q => h1 _ fun H1 e1 => h2 H1 e1 _ fun H2 e2 => ⟨i, j, rfl, rfl, _, rfl, by
  cases hc : decide (i ≤ j) with
  | true =>
    rw [hc, Bool.true_and] at q
    exact iteT (h3 H2 (e1.trans e2) _ fun H3 e3 => ⟨j, k, rfl, rfl, q H3 ((e1.trans e2).trans e3)⟩)
  | false =>
    rw [hc, Bool.false_and] at q
    exact iteF (q H2 (e1.trans e2))⟩
theorem same_seqT {H H' : Hp} {a : Addr} {xs : List V} (e : Same H H') (h : SqT K H a xs) : SqT K H' a xs := by
  rcases h with (h | ⟨o, h⟩) | h
  · exact .inl (.inl (e _ _ h))
  · exact .inl (.inr ⟨o, e _ _ h⟩)
  · exact .inr h
theorem ev_lenT {a : Addr} {vs : List V} (h : Ev ta σ H (.ref a)) (s : SqT K H a vs) : Ev (tCB (fun xs H Q => ∃ p ys, xs = [.ref p] ∧ (SqL K H p ys ∨ SqT K H p ys) ∧ Q (.int ys.length) H) (tCons ta tNil)) σ H (.int vs.length) :=
  fun Q q => h _ fun H' e => ⟨a, vs, rfl, .inr (same_seqT e s), q H' e⟩
theorem ev_lenL {a : Addr} {vs : List V} (h : Ev ta σ H (.ref a)) (s : SqL K H a vs) : Ev (tCB (fun xs H Q => ∃ p ys, xs = [.ref p] ∧ (SqL K H p ys ∨ SqT K H p ys) ∧ Q (.int ys.length) H) (tCons ta tNil)) σ H (.int vs.length) :=
  fun Q q => h _ fun H' e => ⟨a, vs, rfl, .inl (e.seq s), q H' e⟩
theorem ev_lenS {z : Str} (h : Ev ta σ H (.str z)) (s : z.length ≤ 100000) : Ev (tCB (fun xs H Q => ∃ z, xs = [.str z] ∧ z.length ≤ sizeLine ∧ Q (.int z.length) H) (tCons ta tNil)) σ H (.int z.length) :=
  fun Q q => h _ fun H' e => ⟨z, rfl, small (by omega), q H' e⟩
theorem ev_ixT {a : Addr} {vs : List V} {i : Int} (h1 : Ev ta σ H (.ref a)) (h2 : ∀ H', Same H H' → Ev tb σ H' (.int i)) (s : SqT K H a vs) (hv : atI vs i = some v) : Ev (tOp (rIxT K) ta tb) σ H v :=
  ev_op h1 h2 fun H' Q e q => ⟨a, vs, i, v, rfl, rfl, same_seqT e s, hv, q⟩
theorem ev_ixL {a : Addr} {vs : List V} {i : Int} (h1 : Ev ta σ H (.ref a)) (h2 : ∀ H', Same H H' → Ev tb σ H' (.int i)) (s : SqL K H a vs) (hv : atI vs i = some v) : Ev (tOp (rIxL K) ta tb) σ H v :=
  ev_op h1 h2 fun H' Q e q => ⟨a, vs, i, v, rfl, rfl, e.seq s, hv, q⟩
theorem ev_isi {T' : String} {t : T} {f : T → Bool} (h : Ev ta σ H v) (r : Rep H v t) (hk : ∀ t, PySem.W.kitOne K (tyT t) (.type T') = some (f t)) :
    Ev (tCB (fun xs H Q => ∃ x t T b, xs = [x, .ty T] ∧ TyOf K H x t ∧ PySem.W.kitOne K t (.type T) = some b ∧ Q (.bl b) H) (tCons ta (tCons (tC (.ty T')) tNil))) σ H (.bl (f t)) :=
  fun Q q => h _ fun H' e => ⟨v, _, T', _, rfl, rep_ty (r.same e), hk t, q H' e⟩
/-- a def that asks one thing -/
theorem ev_spT {f : T → Bool} {t : T} (h : Ev ta σ H v) (r : Rep H v t) : Ev (tCall (spT f) [] E0 (tCons ta tNil)) σ H (.bl (f t)) := fun Q q => h _ fun H' e => ⟨v, t, rfl, r.same e, fun H2 e2 => q H2 (e.trans e2)⟩
theorem Same.both {H H1 H2 : Hp} (a : Same H H1) (b : Same H1 H2) : Same H H2 := a.trans b
end
/-- == of a thing and a text -/
theorem eq_thing {K : PySem.W.Frag} {H : Hp} {v : V} {t : T} {z : Str} {Q : VK} (r : Rep H v t) (q : Q (.bl (onStr (fun x => decide (x = z)) t)) H) :
    rEq v (.str z) H Q ∨ ∃ a xs y, v = .ref a ∧ (V.str z) = .str y ∧ SqT K H a xs ∧ Q (.bl false) H := by
  cases r with
  | int i => exact .inl ⟨rfl, by rw [decide_eq_false (by intro e; cases e)]; exact q⟩
  | str x h => exact .inl ⟨rfl, by rw [dec_str, Bool.beq_eq_decide_eq]; exact q⟩
  | tup h r => exact .inr ⟨_, _, _, rfl, rfl, SqT.of h, q⟩
theorem ev_eqT {K : PySem.W.Frag} {ta tb : TE} {σ : L2.St} {H : Hp} {v : V} {t : T} {z : Str} (h1 : Ev ta σ H v) (r : Rep H v t) (h2 : ∀ H', Same H H' → Ev tb σ H' (.str z)) :
    Ev (tOp (fun x y H Q => rEq x y H Q ∨ ∃ a xs z, x = .ref a ∧ y = .str z ∧ SqT K H a xs ∧ Q (.bl false) H) ta tb) σ H (.bl (onStr (fun x => decide (x = z)) t)) :=
  ev_op h1 h2 fun H' Q e q => eq_thing (r.same e) q
end Fw

set_option Elab.async false
set_option linter.all false
set_option maxRecDepth 100000
namespace L2
open PySem PySem.Spec PyProof.Rows
theorem mt_stripC {X : Cx} : MtR X "str.strip" (fun x xs H Q => ∃ z y, x = V.str z ∧ xs = [.str y] ∧ z.length ≤ sizeLine ∧ Q (.str (Txt.stripChars z y)) H) := by
  intro pins s σ H x xs v us Q I rx rs h
  obtain ⟨z, y, rfl, rfl, hz, q⟩ := h
  obtain ⟨t, rfl⟩ := rx
  obtain ⟨u, rfl, ru⟩ := vals1 rs
  obtain ⟨t', rfl⟩ := ru
  exact SCL.stripChars (fun t2 k _ => ⟨.str (Txt.stripChars z y), H, I.tok k, ⟨t2, rfl⟩, q⟩) hz
end L2
namespace Fw
open PySem PySem.Spec PyProof.Rows L2
theorem empty_len {x : Str} (h : x.length = 0) : x = "" := by
  obtain ⟨c⟩ := x
  have e : c = #[] := Array.eq_empty_of_size_eq_zero h
  rw [e]
  decide +kernel
theorem tw_all {α : Type} (p : α → Bool) : ∀ l : List α, l.all p = true → l.takeWhile p = l
  | [], _ => rfl
  | a :: r, h => by
    rw [List.all_cons, Bool.and_eq_true] at h
    rw [List.takeWhile_cons, if_pos h.1, tw_all p r h.2]
theorem tw_len {α : Type} (p : α → Bool) : ∀ l : List α, l.all p = false → (l.takeWhile p).length < l.length
  | [], h => by cases h
  | a :: r, h => by
    rw [List.takeWhile_cons]
    by_cases c : p a = true
    · rw [if_pos c]
      rw [List.all_cons, c, Bool.true_and] at h
      exact Nat.succ_lt_succ (tw_len p r h)
    · rw [if_neg c]
      exact Nat.succ_pos _
theorem tw_drop {α : Type} (p : α → Bool) : ∀ l : List α, l.all p = false → (l.drop (l.takeWhile p).length).all p = false
  | [], h => by cases h
  | a :: r, h => by
    rw [List.takeWhile_cons]
    by_cases c : p a = true
    · rw [if_pos c]
      rw [List.all_cons, c, Bool.true_and] at h
      exact tw_drop p r h
    · rw [if_neg c]
      exact h
theorem strip_len (x y : Str) : (Txt.stripChars x y).length = 0 ↔ allS x y = true := by
  have hn : x.cps.toList.length = x.length := len_toList x
  have ep : ∀ c, y.cps.contains c = inS y c := fun c => by
    unfold inS
    rw [← Array.contains_toList]
    exact List.contains_eq_mem c y.cps.toList
  have ef : (fun c => y.cps.contains c) = inS y := funext ep
  unfold Txt.stripChars Txt.stripBy stripSame stripped stripHi stripLo
  simp only [if_true]
  have ef' : y.cps.contains = inS y := ef
  rw [ef']
  have ea : allS x y = x.cps.toList.all (inS y) := rfl
  rw [ea]
  generalize x.cps.toList = l at hn
  by_cases h : l.all (inS y) = true
  · rw [tw_all _ l h, List.drop_eq_nil_of_le (Nat.le_refl _)]
    refine ⟨fun _ => h, fun _ => ?_⟩
    show (if (l.length == 0 && x.length - 0 == x.length) = true then x else Builtin.Str.strSub x l.length (x.length - 0)).length = 0
    by_cases hc : (l.length == 0 && x.length - 0 == x.length) = true
    · rw [if_pos hc]
      rw [Bool.and_eq_true, beq_iff_eq, beq_iff_eq] at hc
      omega
    · rw [if_neg hc]
      show (x.cps.extract l.length (x.length - 0)).size = 0
      rw [Array.size_extract]
      omega
  · have h' : l.all (inS y) = false := by simpa using h
    have a1 := tw_len _ l h'
    have a2 := tw_drop _ l h'
    rw [← List.all_reverse] at a2
    have a3 := tw_len _ _ a2
    rw [List.length_reverse, List.length_drop] at a3
    refine ⟨fun hz => ?_, fun h2 => absurd h2 h⟩
    exfalso
    split at hz
    · omega
    · have hz' : (x.cps.extract (List.takeWhile (inS y) l).length (x.length - (List.takeWhile (inS y) (List.drop (List.takeWhile (inS y) l).length l).reverse).length)).size = 0 := hz
      rw [Array.size_extract] at hz'
      have hs : x.cps.size = x.length := rfl
      omega
theorem strip_is (x y : Str) : decide (V.str (Txt.stripChars x y) = V.str "") = allS x y := by
  have h := strip_len x y
  by_cases c : allS x y = true
  · rw [c]
    exact decide_eq_true (congrArg V.str (empty_len (h.mpr c)))
  · have c' : allS x y = false := by simpa using c
    rw [c']
    refine decide_eq_false fun e => c (h.mp ?_)
    injection e with e'
    rw [e']
    decide +kernel
end Fw

set_option Elab.async false
set_option linter.all false
set_option maxRecDepth 100000
namespace Fw
open PySem PySem.Spec PyProof.Rows L2
def top (i : Nat) : Stmt := PySem.Challenge.pw_facework_k04_phrases_known.main.body.getD i (.Pass ⟨0, 0, 0, 0⟩)
section
variable {P : Program} {w : World} {K : PySem.W.Frag} {mg : Str → Option Value} {base : Heap} {f : Addr} {fd : FuncData}
abbrev s_all_of : Stmt := top 5
theorem sc_all_of : FnScope ["text", "signs"] ["text", "signs"] (defScope s_all_of) := ⟨rfl, rfl, rfl, by decide +kernel, rfl, by decide +kernel, by decide +kernel⟩
theorem ok_all_of (F : Fun K "all_of" "all_of" s_all_of f fd) (G : Gb K mg) : FnOk P w K mg base CX0 1 f fd ["text", "signs"] spAllOf := by
  refine F.ok sc_all_of (fun vs H Q E h => ?_) (fun cdv A outer s H vs Q E hr h => ?_)
  · obtain ⟨x, y, rfl, _⟩ := h
    rfl
  obtain ⟨x, y, rfl, hx, q⟩ := h
  refine ⟨_, pss_one (ps_ret (pe_cmpR op_eq (pe_bm PySem.F.plainAttrs_str PySem.F.slot_str_strip PySem.F.type_str_strip mt_stripC (pv 0) (pa_cons (pv 1) pa_nil)) pe_str (nomark _))), ?_⟩
  refine ⟨_, rfl, rfl, _, rfl, x, y, rfl, rfl, small (by omega), rfl, ?_⟩
  rw [strip_is]
  exact q H (Same.refl H)
abbrev s_is_small : Stmt := top 6
theorem sc_is_small : FnScope ["thing"] ["thing"] (defScope s_is_small) := ⟨rfl, rfl, rfl, by decide +kernel, rfl, by decide +kernel, by decide +kernel⟩
theorem ok_is_small (F : Fun K "is_small" "is_small" s_is_small f fd) (G : Gb K mg) (h1 : Has P w K mg base 1 "all_of" ["text", "signs"] spAllOf) : FnOk P w K mg base CX0 2 f fd ["thing"] (spT (onStr smallB)) := by
  refine F.ok sc_is_small (fun vs H Q E h => ?_) (fun cdv A outer s H vs Q E hr h => ?_)
  · obtain ⟨v, t, rfl, _⟩ := h
    rfl
  obtain ⟨v, t, rfl, rt, q⟩ := h
  obtain ⟨t1, hsm⟩ := G.small
  obtain ⟨t2, hmo⟩ := G.most
  refine ⟨_, pss_one (ps_ret (pe_and (pe_callB call_isi rfl G.isi boot_isinstance (pa_cons (pv 0) (pa_cons (pe_bltn (v := .ty "str") rfl G.str boot_str rfl) pa_nil)))
    (pe_and (pe_chain op_le op_le pe_int (pe_callB call_len_str rfl G.len PySem.boot_len (pa_cons (pv 0) pa_nil)) (pe_glob (v := .int 8) rfl hmo ⟨_, rfl⟩))
      (pe_one (pcall h1 hr (by decide) rfl (pa_cons (pv 0) (pa_cons (pe_glob (v := .str smallS) rfl hsm ⟨_, rfl⟩) pa_nil))))))), ?_⟩
  refine ⟨_, rfl, _, _, _, _, rfl, rep_ty rt, kit_str K t, _, rfl, ?_⟩
  cases rt with
  | int i => exact iteF (q H (Same.refl H))
  | tup h r => exact iteF (q H (Same.refl H))
  | str z hz =>
    have q' : ∀ H', Same H H' → Q (.bl (smallB z)) H' := q
    refine iteT ⟨_, rfl, z, rfl, small (by omega), 1, z.length, rfl, rfl, _, rfl, ?_⟩
    refine ite2 (fun c => ?_) (fun c => ?_)
    · have c1 : (1 : Int) ≤ z.length := of_decide_eq_true c
      refine ⟨_, _, rfl, rfl, _, rfl, ?_⟩
      refine ite2 (fun d => ?_) (fun d => ?_)
      · have d1 : (z.length : Int) ≤ 8 := of_decide_eq_true d
        rw [smallB_in (by omega) (by omega)] at q'
        exact ⟨_, rfl, z, smallS, rfl, hz, q'⟩
      · have d1 : ¬ (z.length : Int) ≤ 8 := of_decide_eq_false (Bool.eq_false_iff.mpr d)
        rw [smallB_hi (by omega)] at q'
        exact q' H (Same.refl H)
    · have c1 : ¬ (1 : Int) ≤ z.length := of_decide_eq_false (Bool.eq_false_iff.mpr c)
      rw [smallB_lo (by omega)] at q'
      exact ⟨_, rfl, iteF (q' H (Same.refl H))⟩
abbrev s_is_name : Stmt := top 7
theorem sc_is_name : FnScope ["thing"] ["thing"] (defScope s_is_name) := ⟨rfl, rfl, rfl, by decide +kernel, rfl, by decide +kernel, by decide +kernel⟩
theorem ok_is_name (F : Fun K "is_name" "is_name" s_is_name f fd) (G : Gb K mg) (h1 : Has P w K mg base 2 "is_small" ["thing"] (spT (onStr smallB))) : FnOk P w K mg base CX0 3 f fd ["thing"] (spT (onStr nameB)) := by
  refine F.ok sc_is_name (fun vs H Q E h => ?_) (fun cdv A outer s H vs Q E hr h => ?_)
  · obtain ⟨v, t, rfl, _⟩ := h
    rfl
  obtain ⟨v, t, rfl, rt, q⟩ := h
  obtain ⟨a, hke, hkt⟩ := G.kept
  refine ⟨_, pss_one (ps_ret (pe_and (pcall h1 hr (by decide) rfl (pa_cons (pv 0) pa_nil)) (pe_one (pe_cmpR op_notIn_seq (pv 0) (pe_glob (v := .ref a) rfl hke rfl) (by with_unfolding_all rfl))))), ?_⟩
  refine ⟨_, rfl, v, t, rfl, rt, fun H' e => ⟨_, rfl, ?_⟩⟩
  cases rt with
  | int i => exact iteF (q H' e)
  | tup h r => exact iteF (q H' e)
  | str z hz =>
    have q' : ∀ H', Same H H' → Q (.bl (nameB z)) H' := q
    show if smallB z = true then _ else _
    cases hs : smallB z with
    | false =>
      unfold nameB at q'
      rw [hs] at q'
      exact iteF (q' H' e)
    | true =>
      unfold nameB at q'
      rw [hs] at q'
      refine iteT ⟨_, rfl, a, keptL.map V.str, rfl, .inr (hkt H'), rfl, flat_strs _, ?_⟩
      rw [if_pos rfl, inV_str]
      exact q' H' e
abbrev s_is_great : Stmt := top 8
theorem sc_is_great : FnScope ["thing"] ["thing"] (defScope s_is_great) := ⟨rfl, rfl, rfl, by decide +kernel, rfl, by decide +kernel, by decide +kernel⟩
theorem ok_is_great (F : Fun K "is_great" "is_great" s_is_great f fd) (G : Gb K mg) (h1 : Has P w K mg base 1 "all_of" ["text", "signs"] spAllOf) : FnOk P w K mg base CX0 2 f fd ["thing"] (spT (onStr greatB)) := by
  refine F.ok sc_is_great (fun vs H Q E h => ?_) (fun cdv A outer s H vs Q E hr h => ?_)
  · obtain ⟨v, t, rfl, _⟩ := h
    rfl
  obtain ⟨v, t, rfl, rt, q⟩ := h
  obtain ⟨t1, hsm⟩ := G.small
  obtain ⟨t2, hmo⟩ := G.most
  obtain ⟨t3, hgr⟩ := G.great
  refine ⟨_, pss_cons (ps_if (PW.pt (pw_or (pt_not (pt_val (pe_callB call_isi rfl G.isi boot_isinstance (pa_cons (pv 0) (pa_cons (pe_bltn (v := .ty "str") rfl G.str boot_str rfl) pa_nil)))))
      (pw_or1 (pt_not (pt_chain op_le op_le pe_int (pe_callB call_len_str rfl G.len PySem.boot_len (pa_cons (pv 0) pa_nil)) (pe_glob (v := .int 8) rfl hmo ⟨_, rfl⟩)))))) (pss_one (ps_ret pe_bl)) pss_nil)
    (pss_one (ps_ret (pe_and (pe_cmpR op_in_str (pe_ix ix_str (pv 0) pe_int (fun _ _ => rfl)) (pe_glob (v := .str greatS) rfl hgr ⟨_, rfl⟩) (by with_unfolding_all rfl))
      (pe_one (pcall h1 hr (by decide) rfl (pa_cons (pe_slice sl_str (pv 0) (po_some pe_int) po_none) (pa_cons (pe_glob (v := .str smallS) rfl hsm ⟨_, rfl⟩) pa_nil))))))), ?_⟩
  refine ⟨_, rfl, _, _, _, _, rfl, rep_ty rt, kit_str K t, _, rfl, ?_⟩
  cases rt with
  | int i => exact iteT (iteT (q H (Same.refl H)))
  | tup h r => exact iteT (iteT (q H (Same.refl H)))
  | str z hz =>
    have q' : ∀ H', Same H H' → Q (.bl (greatB z)) H' := q
    refine iteF ⟨_, rfl, z, rfl, small (by omega), 1, z.length, rfl, rfl, _, rfl, ?_⟩
    refine ite2 (fun c => ?_) (fun c => ?_)
    · have c1 : (1 : Int) ≤ z.length := of_decide_eq_true c
      refine ⟨_, _, rfl, rfl, _, rfl, ?_⟩
      refine ite2 (fun d => ?_) (fun d => ?_)
      · have d1 : ¬ (z.length : Int) ≤ 8 := of_decide_eq_false (by simpa using d)
        rw [greatB_hi (by omega)] at q'
        exact q' H (Same.refl H)
      · have d1 : (z.length : Int) ≤ 8 := of_decide_eq_true (by simpa using d)
        rw [greatB_in (by omega) (by omega)] at q'
        refine ⟨_, rfl, z, 0, _, rfl, rfl, small (by omega), first_at (by omega), _, _, rfl, rfl, _, rfl, ?_⟩
        rw [StrLaws.found_one]
        show if inS greatS (z.cps.toList.getD 0 0) = true then _ else _
        cases hg : inS greatS (z.cps.toList.getD 0 0) with
        | false =>
          rw [hg] at q'
          exact iteF (q' H (Same.refl H))
        | true =>
          rw [hg, Bool.true_and] at q'
          refine iteT ⟨_, rfl, 1, rfl, z, rfl, small (by omega), ?_⟩
          have rl := rest_len z
          refine ⟨restS z, smallS, ?_, by omega, q'⟩
          rw [rest_slice (by omega)]
          rfl
    · have c1 : ¬ (1 : Int) ≤ z.length := of_decide_eq_false (Bool.eq_false_iff.mpr c)
      rw [greatB_lo (by omega)] at q'
      exact ⟨_, rfl, iteT (q' H (Same.refl H))⟩
abbrev s_is_path : Stmt := top 9
theorem sc_is_path : FnScope ["thing", "sides"] ["thing"] (defScope s_is_path) := ⟨rfl, rfl, rfl, by decide +kernel, rfl, by decide +kernel, by decide +kernel⟩
theorem ok_is_path (F : Fun K "is_path" "is_path" s_is_path f fd) (G : Gb K mg) (h1 : Has P w K mg base 3 "is_name" ["thing"] (spT (onStr nameB))) (h2 : Has P w K mg base 2 "is_great" ["thing"] (spT (onStr greatB))) : FnOk P w K mg base CX0 4 f fd ["thing"] (spT (onStr pathB)) := by
  refine F.ok sc_is_path (fun vs H Q E h => ?_) (fun cdv A outer s H vs Q E hr h => ?_)
  · obtain ⟨v, t, rfl, _⟩ := h
    rfl
  obtain ⟨v, t, rfl, rt, q⟩ := h
  refine ⟨_, pss_cons (ps_if (pt_not (pt_val (pe_callB call_isi rfl G.isi boot_isinstance (pa_cons (pv 0) (pa_cons (pe_bltn (v := .ty "str") rfl G.str boot_str rfl) pa_nil))))) (pss_one (ps_ret pe_bl)) pss_nil)
    (pss_cons (ps_set (i := 1) sc_is_path.nd rfl (Or.inl rfl) (pe_bm PySem.F.plainAttrs_str PySem.F.slot_str_split PySem.F.type_str_split mt_split (pv 0) (pa_cons pe_str pa_nil)))
      (pss_one (ps_ret (pe_and (pe_cmpR op_eq (pe_callB call_len_seq rfl G.len PySem.boot_len (pa_cons (pv 1) pa_nil)) pe_int (nomark _))
        (pe_and (pcall h2 hr (by decide) rfl (pa_cons (pe_ix ix_list (pv 1) pe_int (fun _ _ => rfl)) pa_nil))
          (pe_one (pcall h1 hr (by decide) rfl (pa_cons (pe_ix ix_list (pv 1) pe_int (fun _ _ => rfl)) pa_nil)))))))), ?_⟩
  refine ⟨_, rfl, _, _, _, _, rfl, rep_ty rt, kit_str K t, _, rfl, ?_⟩
  cases rt with
  | int i => exact iteT (q H (Same.refl H))
  | tup h r => exact iteT (q H (Same.refl H))
  | str z hz =>
    have q' : ∀ H', Same H H' → Q (.bl (pathB z)) H' := q
    have sl := split_short z
    refine iteF ⟨_, rfl, rfl, z, ".", rfl, rfl, small (by omega), by decide +kernel, small (by omega), fun l hl => ?_⟩
    have g1 := same_new hl (.lst ((Txt.split z ".").map V.str))
    refine ⟨_, rfl, l, _, rfl, .inl (SqL.of upd_same), rfl, _, rfl, ?_⟩
    refine ite2 (fun c => ?_) (fun c => ?_)
    · have c1 : (Txt.split z ".").length = 2 := by
        have := of_decide_eq_true c
        injection this with e
        rw [List.length_map] at e
        omega
      obtain ⟨a, b, e⟩ : ∃ a b, Txt.split z "." = [a, b] := by
        match hh : Txt.split z ".", c1 with
        | [a, b], _ => exact ⟨a, b, rfl⟩
      have la : a.length ≤ z.length := part_short (y := ".") (by rw [e]; simp)
      have lb : b.length ≤ z.length := part_short (y := ".") (by rw [e]; simp)
      rw [pathB_two e] at q'
      refine ⟨_, rfl, l, _, 0, .str a, rfl, rfl, SqL.of upd_same, atI_nat (j := 0) (by rw [e]; rfl), .str a, .str a, rfl, .str a (by omega), fun H2 e2 => ⟨_, rfl, ?_⟩⟩
      show if greatB a = true then _ else _
      cases hg : greatB a with
      | false =>
        rw [hg] at q'
        exact iteF (q' H2 (g1.trans e2))
      | true =>
        rw [hg, Bool.true_and] at q'
        refine iteT ⟨_, rfl, l, _, 1, .str b, rfl, rfl, SqL.of (e2 _ _ upd_same), atI_nat (j := 1) (by rw [e]; rfl), .str b, .str b, rfl, .str b (by omega), fun H3 e3 => q' H3 (g1.trans (e2.trans e3))⟩
    · have c1 : (Txt.split z ".").length ≠ 2 := fun e => c (by rw [List.length_map, e]; rfl)
      rw [pathB_other c1] at q'
      exact q' _ g1
end
theorem atH {vs : List V} {v : V} {ws : List V} (h : vs = v :: ws) : atI vs (0 : Int) = some v := by subst h; exact atI_nat (j := 0) rfl
section
variable {P : Program} {w : World} {K : PySem.W.Frag} {mg : Str → Option Value} {base : Heap} {f : Addr} {fd : FuncData}
abbrev s_all_fit : Stmt := top 16
theorem sc_all_fit : FnScope ["thing", "within", "waiting", "inner"] ["thing", "within"] (defScope s_all_fit) := ⟨rfl, rfl, rfl, by decide +kernel, rfl, by decide +kernel, by decide +kernel⟩
theorem ok_all_fit {kids : T → Option (List T)} (dec : ∀ {t l}, kids t = some l → szs l < t.sz) {g : Addr} {gd : FuncData} {k : Nat} (F : Fun K "all_fit" "all_fit" s_all_fit f fd) (G : Gb K mg) (hg : FnOk P w K mg base CX0 k g gd ["thing"] (spWithin kids)) (kg : PySem.W.keepIn K (.ref g) = true) (bg : Binds K gd ["thing"] []) :
    FnOk P w K mg base CX0 (k + 1) f fd ["thing", "within"] (spAllFit kids g) := by
  refine F.ok sc_all_fit (fun vs H Q E h => ?_) (fun cdv A outer s H vs Q E hr h => ?_)
  · obtain ⟨v, t, b, rfl, _⟩ := h
    rfl
  obtain ⟨v, t, b, rfl, rt, hsz, hb, q⟩ := h
  refine ⟨_, pss_cons (ps_set (i := 2) sc_all_fit.nd rfl (Or.inl rfl) (pe_lst (pa_cons (pv 0) pa_nil)))
    (pss_cons (ps_while PassesOwn.never (pt_cmpR op_gt (pe_callB call_len_seq rfl G.len PySem.boot_len (pa_cons (pv 2) pa_nil)) pe_int (nomark _))
      (pss_cons (ps_set (i := 3) sc_all_fit.nd rfl (Or.inl rfl) (pe_callV (i := 1) hg hr rfl (Or.inl rfl) kg bg pass0 (pa_cons (pe_bm0 PySem.F.plainAttrs_list PySem.F.slot_list_pop PySem.F.type_list_pop mt_pop (pv 2)) pa_nil)))
      (pss_cons (ps_if (pt_cmpR op_isN (pv 3) pe_non (nomark _)) (pss_one (ps_ret pe_bl)) pss_nil)
      (pss_one (ps_expr (pe_bm PySem.F.plainAttrs_list PySem.F.slot_list_extend PySem.F.type_list_extend mt_extend (pv 2) (pa_cons (pv 3) pa_nil)))))))
    (pss_one (ps_ret pe_bl))), ?_⟩
  refine ⟨_, rfl, small (by show 1 ≤ 1000000; decide), fun l hl => ?_⟩
  refine ⟨fun m σ H' => ∃ (o : Option V) (vs : List V) (ts : List T), σ = [some v, some (.ref g), some (.ref l), o] ∧ H' l = some (.lst vs) ∧ Reps H' vs ts ∧ m = szs ts ∧ szs ts ≤ 100000 ∧ (∀ c u, c ≠ l → H c = some u → H' c = some u) ∧
      ((b = true ∧ ∀ t ∈ ts, Good kids t) ∨ (b = false ∧ ∃ t ∈ ts, Bad kids t)), ⟨szs [t], none, [v], [t], rfl, upd_same, .cons (rt.same (same_new hl _)) .nil, rfl, by simpa [szs] using hsz, fun c u hc e => by rw [upd_ne hc]; exact e, ?_⟩, ?_⟩
  · rcases hb with ⟨h1, h2⟩ | ⟨h1, h2⟩
    · exact .inl ⟨h1, fun t' ht' => by rw [List.mem_singleton.mp ht']; exact h2⟩
    · exact .inr ⟨h1, t, List.mem_singleton.mpr rfl, h2⟩
  rintro m σ H1 ⟨o, vs, ts, rfl, hl1, hr1, rfl, hs1, hk1, alt⟩
  refine ⟨_, rfl, l, vs, rfl, .inl (SqL.of hl1), _, _, rfl, rfl, _, rfl, ?_⟩
  refine ite2 (fun c => ?_) (fun c => ?_)
  · have c1 : (0 : Int) < vs.length := of_decide_eq_true c
    have ne : vs ≠ [] := fun e => by rw [e] at c1; simp at c1
    obtain ⟨ws, us, v', t', rfl, rfl, hws, hv'⟩ := hr1.snoc_inv ne
    have tupsU : ∀ b xs, H1 b = some (.tup xs) → (upd H1 l (.lst (ws ++ [v']).dropLast)) b = some (.tup xs) := fun b xs h => by
      rw [upd_ne (ne_of h hl1 (by intro z; cases z))]; exact h
    have sameH : ∀ {H2 : Hp}, Same (upd H1 l (.lst (ws ++ [v']).dropLast)) H2 → ∀ c u, c ≠ l → H c = some u → H2 c = some u := fun {H2} e c u hc h => e c u (by rw [upd_ne hc]; exact hk1 c u hc h)
    refine ⟨_, fun _ _ h => h, ?_⟩
    refine ⟨rfl, _, rfl, .inl ⟨rfl, _, SqL.of hl1⟩, l, ws ++ [v'], v', rfl, rfl, hl1, by simp, v', t', rfl, hv'.mono tupsU, fun hn H2 e2 => ?_, fun kl hkl H2 p zs e2 hp hp2 hr2 => ?_⟩
    · refine ⟨_, rfl, rfl, _, rfl, ?_⟩
      refine iteT ?_
      rcases alt with ⟨h1, h2⟩ | ⟨h1, h2⟩
      · have := h2 t' (by simp)
        cases this with
        | mk h _ => rw [hn] at h; cases h
      · subst h1
        exact q H2 fun c u h => sameH e2 c u (ne_of_none h hl) h
    · refine ⟨_, rfl, rfl, _, rfl, ?_⟩
      refine iteF ?_
      have hl2 : H2 l = some (.lst ws) := by
        have := e2 l _ upd_same
        rw [this, List.dropLast_concat]
      have hpl : p ≠ l := fun z => by
        rw [z, upd_same] at hp; cases hp
      have hlen : ws.length + zs.length ≤ 100000 := by
        have l1 := len_szs us
        have l2 := len_szs kl
        have l3 := hws.length
        have l4 := hr2.length
        have l5 := dec hkl
        rw [szs_app] at hs1
        simp [szs] at hs1
        omega
      refine ⟨_, rfl, .inl ⟨rfl, _, SqL.of hl2⟩, _, rfl, l, p, ws, zs, rfl, rfl, hl2, hp2, small (by omega), ?_⟩
      have tups2 : ∀ b xs, H2 b = some (.tup xs) → (upd H2 l (.lst (ws ++ zs))) b = some (.tup xs) := fun b xs h => by
        rw [upd_ne (ne_of h hl2 (by intro z; cases z))]; exact h
      have dk := dec hkl
      refine ⟨szs (us ++ kl), by rw [szs_app, szs_app]; simp [szs]; omega, some (.ref p), ws ++ zs, us ++ kl, rfl, upd_same, ((hws.mono tupsU).same e2 |>.append hr2).mono tups2, rfl, by rw [szs_app]; rw [szs_app] at hs1; simp [szs] at hs1; omega,
        fun c u hc h => by rw [upd_ne hc]; exact sameH e2 c u hc h, ?_⟩
      rcases alt with ⟨h1, h2⟩ | ⟨h1, t2, h2, h3⟩
      · refine .inl ⟨h1, fun t3 ht3 => ?_⟩
        rcases List.mem_append.mp ht3 with z | z
        · exact h2 t3 (by simp [z])
        · have := h2 t' (by simp)
          cases this with
          | mk h q3 =>
            rw [hkl] at h; cases h
            exact q3 t3 z
      · refine .inr ⟨h1, ?_⟩
        rcases List.mem_append.mp h2 with z | z
        · exact ⟨t2, List.mem_append_left _ z, h3⟩
        · have e : t2 = t' := List.mem_singleton.mp z
          subst e
          cases h3 with
          | none h => rw [hkl] at h; cases h
          | @kid _ l' k' h m q3 =>
            rw [hkl] at h; cases h
            exact ⟨k', List.mem_append_right _ m, q3⟩
  · have c1 : ¬ (0 : Int) < vs.length := of_decide_eq_false (Bool.eq_false_iff.mpr c)
    have e : vs = [] := List.length_eq_zero_iff.mp (by omega)
    subst e
    cases hr1
    rcases alt with ⟨h1, h2⟩ | ⟨h1, t2, h2, _⟩
    · subst h1
      exact q H1 fun c u h => hk1 c u (ne_of_none h hl) h
    · cases h2
def hdB (f : T → Bool) : List T → Bool
  | h :: _ => f h
  | [] => false
theorem leaf_eq (z : Str) : (decide (z = "num") || (varB z || (nameB z || pathB z))) = leafB z := by
  unfold leafB
  simp only [Bool.or_assoc]
end
/-! ### the law's own draws: a list of ints that is used up -/
def StOk (H : Hp) (st : Addr) : Prop := ∃ ns : List Int, ns ≠ [] ∧ ns.length ≤ 100 ∧ H st = some (.lst (ns.map V.int))
def Grow (st : Addr) (H H' : Hp) : Prop := (∀ b o, b ≠ st → H b = some o → H' b = some o) ∧ StOk H' st
theorem Grow.refl {st : Addr} {H : Hp} (h : StOk H st) : Grow st H H := ⟨fun _ _ _ e => e, h⟩
theorem Grow.trans {st : Addr} {H H1 H2 : Hp} (a : Grow st H H1) (b : Grow st H1 H2) : Grow st H H2 := ⟨fun c o hc e => b.1 c o hc (a.1 c o hc e), b.2⟩
theorem Grow.ok {st : Addr} {H H' : Hp} (a : Grow st H H') : StOk H' st := a.2
theorem StOk.same {st : Addr} {H H' : Hp} (h : StOk H st) (e : Same H H') : StOk H' st := by
  obtain ⟨ns, h1, h2, h3⟩ := h
  exact ⟨ns, h1, h2, e _ _ h3⟩
theorem grow_same {st : Addr} {H H' : Hp} (h : StOk H st) (e : Same H H') : Grow st H H' := ⟨fun b o _ q => e b o q, h.same e⟩
theorem grow_new {st p : Addr} {H : Hp} {o : HO} (h : StOk H st) (hp : H p = none) : Grow st H (upd H p o) := grow_same h (same_new hp o)
theorem grow_set {st : Addr} {H : Hp} {ns : List Int} (h1 : ns ≠ []) (h2 : ns.length ≤ 100) : Grow st H (upd H st (.lst (ns.map V.int))) := ⟨fun b o hb e => by rw [upd_ne hb]; exact e, ns, h1, h2, upd_same⟩
theorem StOk.ne_tup {st b : Addr} {H : Hp} {xs : List V} (h : StOk H st) (e : H b = some (.tup xs)) : b ≠ st := by
  obtain ⟨ns, _, _, h3⟩ := h
  exact ne_of e h3 (by intro z; cases z)
theorem Grow.tups {st : Addr} {H H' : Hp} (a : Grow st H H') (h : StOk H st) : ∀ b xs, H b = some (.tup xs) → H' b = some (.tup xs) := fun b xs e => a.1 b _ (h.ne_tup e) e
theorem Rep.grow {st : Addr} {H H' : Hp} {v : V} {t : T} (r : Rep H v t) (a : Grow st H H') (h : StOk H st) : Rep H' v t := r.mono (a.tups h)
theorem Reps.grow {st : Addr} {H H' : Hp} {vs : List V} {ts : List T} (r : Reps H vs ts) (a : Grow st H H') (h : StOk H st) : Reps H' vs ts := r.mono (a.tups h)
theorem ix0 (k : Nat) : ixN (k + 1) 0 = some 0 := by
  unfold ixN
  rw [if_pos (by omega), if_pos (by omega)]
  rfl
theorem sq0 (k : Nat) : seqIndex? 0 (k + 1) = some 0 := (ixN_seq (ix0 k)).1
def spNext : Sp := fun vs H Q _ => ∃ (st : Addr) (m : Int), vs = [.ref st, .int m] ∧ StOk H st ∧ 0 < m ∧ m < 1000000 ∧ ∀ (d : Int) H', 0 ≤ d → d < m → Grow st H H' → Q (.int d) H'
section
variable {P : Program} {w : World} {K : PySem.W.Frag} {mg : Str → Option Value} {base : Heap} {f : Addr} {fd : FuncData}
abbrev s_next : Stmt := top 30
theorem sc_next : FnScope ["_law_state", "_law_many", "_law_digit"] ["_law_state", "_law_many"] (defScope s_next) := ⟨rfl, rfl, rfl, by decide +kernel, rfl, by decide +kernel, by decide +kernel⟩
theorem ok_next (F : Fun K "_law_next" "_law_next" s_next f fd) (ml : mg "len" = none) : FnOk P w K mg base CX0 1 f fd ["_law_state", "_law_many"] spNext := by
  refine F.ok sc_next (fun vs H Q E h => ?_) (fun cdv A outer s H vs Q E hr h => ?_)
  · obtain ⟨st, m, rfl, _⟩ := h
    rfl
  obtain ⟨st, m, rfl, hs, m0, m1, q⟩ := h
  obtain ⟨ns, hne, hle, hst⟩ := id hs
  refine ⟨_, pss_cons (ps_if (pt_cmpR op_gt (pe_callB call_len_seq rfl ml PySem.boot_len (pa_cons (pv 0) pa_nil)) pe_int (nomark _))
      (pss_cons (ps_set (i := 2) sc_next.nd rfl (Or.inl rfl) (pe_op op_mod (pe_ix ix_list (pv 0) pe_int (fun _ _ => rfl)) (pv 1)))
      (pss_cons (ps_asg (pe_op op_fdiv (pe_ix ix_list (pv 0) pe_int (fun _ _ => rfl)) (pv 1)) (pg_sub (pv 0) pe_int set_list))
      (pss_cons (ps_if (pt_cmpR op_in_seq (pe_ix ix_list (pv 0) pe_int (fun _ _ => rfl)) (pe_tup (pa_cons pe_int (pa_cons (pe_un un_neg pe_int) pa_nil))) (by with_unfolding_all rfl))
        (pss_one (ps_expr (pe_bm PySem.F.plainAttrs_list PySem.F.slot_list_pop PySem.F.type_list_pop mt_popAt (pv 0) (pa_cons pe_int pa_nil)))) pss_nil)
      (pss_one (ps_ret (pv 2)))))) pss_nil)
    (pss_cons (ps_asg (pe_op op_mod (pe_op op_add (pe_op op_mul (pe_ix ix_list (pv 0) pe_int (fun _ _ => rfl)) pe_int) pe_int) (pe_op op_sub (pe_op op_pow pe_int pe_int) pe_int)) (pg_sub (pv 0) pe_int set_list))
    (pss_one (ps_ret (pe_op op_mod (pe_op op_fdiv (pe_ix ix_list (pv 0) pe_int (fun _ _ => rfl)) pe_int) (pv 1))))), ?_⟩
  cases ns with
  | nil => exact absurd rfl hne
  | cons n r =>
    refine ⟨_, rfl, st, _, rfl, .inl (SqL.of hst), _, _, rfl, rfl, _, rfl, ?_⟩
    refine ite2 (fun c => ?_) (fun c => ?_)
    · have c1 : (1 : Int) < (((n :: r).map V.int).length : Nat) := of_decide_eq_true c
      have hr0 : r ≠ [] := fun e => by rw [e] at c1; simp at c1
      refine ⟨_, rfl, st, _, 0, .int n, rfl, rfl, SqL.of hst, atI_nat (j := 0) rfl, _, rfl, n, m, rfl, rfl, m0, ?_⟩
      refine ⟨_, rfl, st, _, 0, .int n, rfl, rfl, SqL.of hst, atI_nat (j := 0) rfl, _, rfl, n, m, rfl, rfl, ⟨m0, by omega⟩, ?_⟩
      refine ⟨_, rfl, st, _, 0, 0, rfl, rfl, hst, by rw [List.length_map]; exact ix0 _, ?_⟩
      have g1 : Grow st H (upd H st (.lst ((n / m :: r).map V.int))) := grow_set (by simp) (by simpa using hle)
      refine ⟨_, rfl, st, _, 0, .int (n / m), rfl, rfl, SqL.of upd_same, atI_nat (j := 0) rfl, 1, rfl, small (by show 2 ≤ 1000000; decide), fun p hp => ?_⟩
      have g2 : Grow st _ (upd (upd H st (.lst ((n / m :: r).map V.int))) p (.tup [.int 0, .int (-1)])) := grow_new g1.ok hp
      refine ⟨p, [.int 0, .int (-1)], rfl, .inr (SqT.of upd_same), rfl, rfl, _, rfl, ?_⟩
      have hd0 : 0 ≤ n % m := Int.emod_nonneg _ (by omega)
      have hd1 : n % m < m := Int.emod_lt_of_pos _ m0
      have hst2 : (upd (upd H st (.lst ((n / m :: r).map V.int))) p (.tup [.int 0, .int (-1)])) st = some (.lst ((n / m :: r).map V.int)) := (same_new hp _) _ _ upd_same
      refine ite2 (fun c2 => ?_) (fun c2 => ?_)
      · refine ⟨_, rfl, .inl ⟨rfl, _, SqL.of hst2⟩, st, _, 0, 0, .int (n / m), rfl, rfl, hst2, by decide, by decide, ?_, rfl, ?_⟩
        · rw [List.length_map]
          exact sq0 _
        · refine ⟨_, rfl, q _ _ hd0 hd1 ((g1.trans g2).trans ?_)⟩
          exact grow_set (ns := r) hr0 (by simp at hle; omega)
      · exact ⟨_, rfl, q _ _ hd0 hd1 (g1.trans g2)⟩
    · refine ⟨_, rfl, st, _, 0, .int n, rfl, rfl, SqL.of hst, atI_nat (j := 0) rfl, _, _, rfl, rfl, .inr ⟨by decide, by decide⟩, _, _, rfl, rfl, _, _, rfl, rfl, ⟨by decide, by decide, by decide⟩, _, _, rfl, rfl, _, _, rfl, rfl, (by show (0 : Int) < 2 ^ 61 - 1; decide), ?_⟩
      refine ⟨_, rfl, st, _, 0, 0, rfl, rfl, hst, by rw [List.length_map]; exact ix0 _, ?_⟩
      have g1 : ∀ x, Grow st H (upd H st (.lst ((x :: r).map V.int))) := fun x => grow_set (by simp) (by simpa using hle)
      refine ⟨_, rfl, st, _, 0, .int _, rfl, rfl, SqL.of upd_same, atI_nat (j := 0) rfl, _, _, rfl, rfl, ⟨by decide, by decide⟩, _, rfl, _, _, rfl, rfl, m0, ?_⟩
      exact q _ _ (Int.emod_nonneg _ (by omega)) (Int.emod_lt_of_pos _ m0) (g1 _)
end
def spDrawn (K : PySem.W.Frag) : Sp := fun vs H Q _ => ∃ (a : Addr) (ns : List Int), vs = [.ref a] ∧ SqL K H a (ns.map V.int) ∧ ns.length ≤ 63 ∧ ∀ p H', Same H H' → H p = none → StOk H' p → Q (.ref p) H'
def spKept : Sp := fun vs H Q _ => vs = [] ∧ ∀ p H', Same H H' → H p = none → H' p = some (.lst (keptL.map V.str)) → Q (.ref p) H'
def spLetters : Sp := fun vs H Q _ => ∃ (st : Addr) (n : Nat), vs = [.ref st, .int n] ∧ StOk H st ∧ n ≤ 8 ∧ ∀ z H', IsLet z n → Grow st H H' → Q (.str z) H'
def spStr (p : Str → Prop) : Sp := fun vs H Q _ => ∃ (st : Addr), vs = [.ref st] ∧ StOk H st ∧ ∀ z H', p z → z.length ≤ 100 → Grow st H H' → Q (.str z) H'
def spInt : Sp := fun vs H Q _ => ∃ (st : Addr), vs = [.ref st] ∧ StOk H st ∧ ∀ (i : Int) H', -(10 ^ 30) < i → i < 10 ^ 30 → Grow st H H' → Q (.int i) H'
/-- an item of a list at a drawn place -/
theorem at_any {α : Type} {xs : List α} {d : Int} (h0 : 0 ≤ d) (h1 : d < xs.length) : ∃ v, atI xs d = some v ∧ v ∈ xs := by
  have hd : d.toNat < xs.length := by omega
  refine ⟨xs[d.toNat], ?_, List.getElem_mem hd⟩
  have e : ((d.toNat : Nat) : Int) = d := by omega
  have q := atI_nat (xs := xs) (j := d.toNat) (v := xs[d.toNat]) (List.getElem?_eq_getElem hd)
  rw [e] at q
  exact q
theorem at_small {d : Int} (h0 : 0 ≤ d) (h1 : d < 26) : ∃ c, atI smallS.cps.toList d = some c ∧ c ∈ smallS.cps.toList :=
  at_any h0 (by rw [len_toList, smallS_len]; exact h1)
theorem at_great {d : Int} (h0 : 0 ≤ d) (h1 : d < 26) : ∃ c, atI greatS.cps.toList d = some c ∧ c ∈ greatS.cps.toList :=
  at_any h0 (by rw [len_toList, greatS_len]; exact h1)
theorem head_name {z : Str} (h : nameB z = true) : headB z = true := by unfold headB; rw [h]; rfl
theorem head_path {z : Str} (h : pathB z = true) : headB z = true := by unfold headB; rw [h]; simp
theorem leaf_var {z : Str} (h : varB z = true) : leafB z = true := by unfold leafB; rw [h]; simp
theorem leaf_name {z : Str} (h : nameB z = true) : leafB z = true := by unfold leafB; rw [h]; simp
theorem leaf_path {z : Str} (h : pathB z = true) : leafB z = true := by unfold leafB; rw [h]; simp
theorem kept_split : Txt.split ("num fun call let ring case make pick plus minus times less if kind record face" ++ " hide val part maker apply main") " " = keptL := by decide +kernel
theorem kept_len8 : ∀ k ∈ keptL, k.length ≤ 20 := by decide +kernel
theorem smallS_le : smallS.length ≤ 1000 := by rw [smallS_len]; decide
theorem greatS_le : greatS.length ≤ 1000 := by rw [greatS_len]; decide
theorem Grow.at_ {st p : Addr} {H H' : Hp} {o : HO} (a : Grow st H H') (h : StOk H st) (hp : ∀ ns, o ≠ .lst (List.map V.int ns)) (e : H p = some o) : H' p = some o := by
  obtain ⟨ns, _, _, h3⟩ := h
  exact a.1 p o (ne_of e h3 (hp ns)) e
section
variable {P : Program} {w : World} {K : PySem.W.Frag} {mg : Str → Option Value} {base : Heap} {f : Addr} {fd : FuncData}
abbrev s_drawn : Stmt := top 31
theorem sc_drawn : FnScope ["_law_script", "_law_seed", "_law_cell"] ["_law_script"] (defScope s_drawn) := ⟨rfl, rfl, rfl, by decide +kernel, rfl, by decide +kernel, by decide +kernel⟩
theorem ok_drawn (F : Fun K "_law_drawn" "_law_drawn" s_drawn f fd) (ml : mg "len" = none) : FnOk P w K mg base CX0 1 f fd ["_law_script"] (spDrawn K) := by
  refine F.ok sc_drawn (fun vs H Q E h => ?_) (fun cdv A outer s H vs Q E hr h => ?_)
  · obtain ⟨a, ns, rfl, _⟩ := h
    rfl
  obtain ⟨a, ns, rfl, hS, h63, q⟩ := h
  refine ⟨_, pss_cons (ps_set (i := 1) sc_drawn.nd rfl (Or.inl rfl) pe_int)
    (pss_cons (ps_for PassesOwn.never rfl (pi_list (pv 0)) (pg_name (i := 2) sc_drawn.nd rfl (Or.inl rfl)) (pss_one (ps_set (i := 1) sc_drawn.nd rfl (Or.inl rfl)
      (pe_op op_mod (pe_op op_add (pe_op op_add (pe_op op_mul (pv 1) pe_int) (pe_op op_mod (pv 2) (pe_op op_pow pe_int pe_int))) pe_int) (pe_op op_sub (pe_op op_pow pe_int pe_int) pe_int)))))
    (pss_cons (ps_if (PW.pt (pw_and (pt_cmpR op_gt (pe_callB call_len_seq rfl ml PySem.boot_len (pa_cons (pv 0) pa_nil)) pe_int (nomark _)) (pw_and1 (pt_cmpR op_eq (pe_op op_mod (pe_ix ix_list (pv 0) pe_int (fun _ _ => rfl)) pe_int) pe_int (nomark _)))))
      (pss_one (ps_ret (pe_op op_cat (pe_op op_cat (pe_lst (pa_cons (pe_op op_fdiv (pe_ix ix_list (pv 0) pe_int (fun _ _ => rfl)) pe_int) pa_nil)) (pe_slice sl_list (pv 0) (po_some pe_int) (po_some pe_int))) (pe_lst (pa_cons (pv 1) pa_nil))))) pss_nil)
    (pss_one (ps_ret (pe_lst (pa_cons (pv 1) pa_nil)))))), ?_⟩
  refine ⟨_, rfl, a, rfl, ⟨_, hS⟩, for_list (xs := ns.map V.int) (fun i σ H' => H' = H ∧ ∃ (x : Int) (o : Option V), σ = [some (.ref a), some (.int x), o]) ⟨rfl, 1000003, none, rfl⟩ ?_ ?_ ?_⟩
  · rintro i σ H' _ ⟨rfl, _⟩
    exact hS
  · rintro i x σ H' hx ⟨rfl, y, o, rfl⟩
    rw [List.getElem?_map] at hx
    cases hn : ns[i]? with
    | none => rw [hn] at hx; cases hx
    | some n =>
      rw [hn] at hx
      cases hx
      refine ⟨_, rfl, _, _, rfl, rfl, .inr ⟨by decide, by decide⟩, _, rfl, _, _, rfl, rfl, ⟨by decide, by decide, by decide⟩, _, _, rfl, rfl, (by show (0 : Int) < 10 ^ 30; decide), _, _, rfl, rfl, _, _, rfl, rfl, _, _, rfl, rfl, ⟨by decide, by decide, by decide⟩, _, _, rfl, rfl, _, _, rfl, rfl, (by show (0 : Int) < 2 ^ 61 - 1; decide), ?_⟩
      exact ⟨rfl, _, _, rfl⟩
  · rintro σ H' ⟨rfl, x, o, rfl⟩
    have last : ∀ H1 D, Same H' H1 → D.rt = Q → tRet (tLst (tCons (tVar 1) tNil)) D [some (.ref a), some (.int x), o] H1 := fun H1 D e hD => by
      refine ⟨_, rfl, small (by show 1 ≤ 1000000; decide), fun p hp => ?_⟩
      rw [hD]
      exact q p _ (e.trans (same_new hp _)) (e.free hp) ⟨[x], by simp, by simp, upd_same⟩
    refine ⟨_, rfl, a, _, rfl, .inl hS, _, _, rfl, rfl, _, rfl, ?_⟩
    refine ite2 (fun c => ?_) (fun c => ?_)
    · have c1 : (0 : Int) < ((ns.map V.int).length : Nat) := of_decide_eq_true c
      cases ns with
      | nil => simp at c1
      | cons n r =>
        refine ⟨_, rfl, a, _, 0, .int n, rfl, rfl, hS, atI_nat (j := 0) rfl, _, _, rfl, rfl, (by show (0 : Int) < 2; decide), rfl, _, rfl, ?_⟩
        refine ite2 (fun c2 => ?_) (fun c2 => ?_)
        · refine ⟨_, rfl, a, _, 0, .int n, rfl, rfl, hS, atI_nat (j := 0) rfl, _, _, rfl, rfl, ⟨by decide, by decide⟩, small (by show 1 ≤ 1000000; decide), fun p1 hp1 => ?_⟩
          have e1 := same_new hp1 (.lst [V.int (n / 2)])
          refine ⟨_, rfl, 1, rfl, 63, rfl, a, _, rfl, e1.seq hS, fun p2 hp2 => ?_⟩
          have e2 := same_new hp2 (.lst (cutV ((n :: r).map V.int) (some 1) (some 63)))
          obtain ⟨ms, hms⟩ : ∃ ms : List Int, cutV ((n :: r).map V.int) (some 1) (some 63) = ms.map V.int := by
            unfold cutV
            rw [← List.map_drop, ← List.map_take]
            exact ⟨_, rfl⟩
          have hml : ms.length ≤ 63 := by
            have := cutV_length ((n :: r).map V.int) (some 1) (some 63)
            rw [hms, List.length_map, List.length_map] at this
            omega
          refine ⟨p1, p2, _, _, rfl, rfl, e2 _ _ upd_same, upd_same, ?_, fun p3 hp3 => ?_⟩
          · rw [hms, List.length_map]
            exact small (by simp; omega)
          have e3 := same_new hp3 (.lst ([V.int (n / 2)] ++ cutV ((n :: r).map V.int) (some 1) (some 63)))
          refine ⟨_, rfl, small (by show 1 ≤ 1000000; decide), fun p4 hp4 => ?_⟩
          have e4 := same_new hp4 (.lst [V.int x])
          refine ⟨p3, p4, _, _, rfl, rfl, e4 _ _ upd_same, upd_same, ?_, fun p5 hp5 => ?_⟩
          · rw [hms]
            exact small (by simp; omega)
          refine q p5 _ (e1.trans (e2.trans (e3.trans (e4.trans (same_new hp5 _))))) ((e1.trans (e2.trans (e3.trans e4))).free hp5) ⟨n / 2 :: (ms ++ [x]), by simp, by simp; omega, ?_⟩
          rw [upd_same, hms]
          simp
        · exact last _ _ (Same.refl _) rfl
    · exact last _ _ (Same.refl _) rfl
abbrev s_kept : Stmt := top 32
theorem sc_kept : FnScope ["_law_words"] [] (defScope s_kept) := ⟨rfl, rfl, rfl, by decide +kernel, rfl, by decide +kernel, by decide +kernel⟩
theorem ok_kept (F : Fun K "_law_kept" "_law_kept" s_kept f fd) : FnOk P w K mg base CX0 1 f fd [] spKept := by
  refine F.ok sc_kept (fun vs H Q E h => ?_) (fun cdv A outer s H vs Q E hr h => ?_)
  · obtain ⟨rfl, _⟩ := h
    rfl
  obtain ⟨rfl, q⟩ := h
  refine ⟨_, pss_cons (ps_set (i := 0) sc_kept.nd rfl (Or.inl rfl) pe_str) (pss_one (ps_ret (pe_bm PySem.F.plainAttrs_str PySem.F.slot_str_split PySem.F.type_str_split mt_split (pe_op op_add_str (pv 0) pe_str) (pa_cons pe_str pa_nil)))), ?_⟩
  refine ⟨_, rfl, _, _, rfl, rfl, small (by decide +kernel), rfl, _, " ", rfl, rfl, small (by decide +kernel), by decide +kernel, ?_, fun l hl => ?_⟩
  · rw [kept_split]
    exact small (by decide +kernel)
  · rw [kept_split]
    exact q l _ (same_new hl _) hl upd_same
abbrev s_letters : Stmt := top 33
theorem sc_letters : FnScope ["_law_state", "_law_long", "_law_word", "_law_k"] ["_law_state", "_law_long"] (defScope s_letters) := ⟨rfl, rfl, rfl, by decide +kernel, rfl, by decide +kernel, by decide +kernel⟩
theorem ok_letters (F : Fun K "_law_letters" "_law_letters" s_letters f fd) (mr : mg "range" = none) (h1 : Has P w K mg base 1 "_law_next" ["_law_state", "_law_many"] spNext) : FnOk P w K mg base CX0 2 f fd ["_law_state", "_law_long"] spLetters := by
  refine F.ok sc_letters (fun vs H Q E h => ?_) (fun cdv A outer s H vs Q E hr h => ?_)
  · obtain ⟨st, n, rfl, _⟩ := h
    rfl
  obtain ⟨st, n, rfl, hs, hn, q⟩ := h
  refine ⟨_, pss_cons (ps_set (i := 2) sc_letters.nd rfl (Or.inl rfl) pe_str)
    (pss_cons (ps_for PassesOwn.never rfl (pi_range1 rfl mr (pa_cons (pv 1) pa_nil)) (pg_name (i := 3) sc_letters.nd rfl (Or.inl rfl))
      (pss_one (ps_aug (i := 2) sc_letters.nd rfl (Or.inl rfl) (pe_ix ix_str pe_str (pcall h1 hr (by decide) rfl (pa_cons (pv 0) (pa_cons pe_int pa_nil))) (fun _ _ => rfl)) iop_add_str)))
    (pss_one (ps_ret (pv 2)))), ?_⟩
  refine ⟨_, rfl, n, rfl, by omega, by omega, for_range (n := (n : Int).toNat) (fun i σ H' => ∃ (z : Str) (o : Option V), σ = [some (.ref st), some (.int n), some (.str z), o] ∧ IsLet z i ∧ Grow st H H') ⟨"", none, rfl, isLet_nil, Grow.refl hs⟩ ?_ ?_⟩
  · rintro i σ H' hi ⟨z, o, rfl, hz, g⟩
    refine ⟨_, rfl, _, rfl, st, 26, rfl, g.ok, by decide, by decide, fun d H2 d0 d1 g2 => ?_⟩
    obtain ⟨c, hc, hm⟩ := at_small d0 d1
    refine ⟨smallS, d, c, rfl, rfl, small (by have := smallS_le; omega), hc, z, ⟨#[c]⟩, rfl, rfl, small ?_, ?_⟩
    · rw [hz.len]
      show i + 1 ≤ 1000000
      omega
    · exact ⟨z ++ ⟨#[c]⟩, _, rfl, isLet_snoc hz hm, g.trans g2⟩
  · rintro σ H' ⟨z, o, rfl, hz, g⟩
    exact ⟨_, rfl, q z H' (by simpa using hz) g⟩
abbrev s_small : Stmt := top 34
theorem sc_small : FnScope ["_law_state", "_law_word"] ["_law_state"] (defScope s_small) := ⟨rfl, rfl, rfl, by decide +kernel, rfl, by decide +kernel, by decide +kernel⟩
theorem ok_small (F : Fun K "_law_small" "_law_small" s_small f fd) (h1 : Has P w K mg base 1 "_law_next" ["_law_state", "_law_many"] spNext) (h2 : Has P w K mg base 2 "_law_letters" ["_law_state", "_law_long"] spLetters) (h3 : Has P w K mg base 1 "_law_kept" [] spKept) :
    FnOk P w K mg base CX0 3 f fd ["_law_state"] (spStr fun z => nameB z = true) := by
  refine F.ok sc_small (fun vs H Q E h => ?_) (fun cdv A outer s H vs Q E hr h => ?_)
  · obtain ⟨st, rfl, _⟩ := h
    rfl
  obtain ⟨st, rfl, hs, q⟩ := h
  refine ⟨_, pss_cons (ps_set (i := 1) sc_small.nd rfl (Or.inl rfl) (pcall h2 hr (by decide) rfl (pa_cons (pv 0) (pa_cons (pe_op op_add pe_int (pcall h1 hr (by decide) rfl (pa_cons (pv 0) (pa_cons pe_int pa_nil)))) pa_nil))))
    (pss_cons (ps_if (pt_cmpR op_in_seq (pv 1) (pcall0 h3 hr (by decide) rfl) (by with_unfolding_all rfl)) (pss_one (ps_ret (pe_op op_add_str (pv 1) pe_str))) pss_nil)
    (pss_one (ps_ret (pv 1)))), ?_⟩
  refine ⟨_, rfl, _, rfl, st, 8, rfl, hs, by decide, by decide, fun d H1 d0 d1 g1 => ?_⟩
  refine ⟨1, d, rfl, rfl, st, (1 + d).toNat, ?_, g1.ok, by omega, fun z H2 hz g2 => ?_⟩
  · have e : (((1 + d).toNat : Nat) : Int) = 1 + d := by omega
    rw [e]
    rfl
  have hl : z.length ≤ 8 := by rw [hz.len]; omega
  refine ⟨_, rfl, rfl, fun p H3 e3 hp hk => ?_⟩
  refine ⟨p, _, rfl, .inl (SqL.of hk), rfl, flat_strs _, _, rfl, ?_⟩
  rw [if_neg Bool.false_ne_true, inV_str]
  have g3 := grow_same (g1.trans g2).ok e3
  refine ite2 (fun c => ?_) (fun c => ?_)
  · have c1 : z ∈ keptL := of_decide_eq_true c
    refine ⟨_, rfl, z, "q", rfl, rfl, small ?_, ?_⟩
    · show z.length + 1 ≤ 1000000
      omega
    · exact q _ _ (kept_q z c1) (by rw [len_app]; show z.length + 1 ≤ 100; omega) ((g1.trans g2).trans g3)
  · have c1 : z ∉ keptL := of_decide_eq_false (Bool.eq_false_iff.mpr c)
    exact ⟨_, rfl, q z _ (small_name hz (by omega) (by omega) c1) (by omega) ((g1.trans g2).trans g3)⟩
abbrev s_great : Stmt := top 35
theorem sc_great : FnScope ["_law_state", "_law_sign"] ["_law_state"] (defScope s_great) := ⟨rfl, rfl, rfl, by decide +kernel, rfl, by decide +kernel, by decide +kernel⟩
theorem ok_great (F : Fun K "_law_great" "_law_great" s_great f fd) (h1 : Has P w K mg base 1 "_law_next" ["_law_state", "_law_many"] spNext) (h2 : Has P w K mg base 2 "_law_letters" ["_law_state", "_law_long"] spLetters) :
    FnOk P w K mg base CX0 3 f fd ["_law_state"] (spStr fun z => greatB z = true) := by
  refine F.ok sc_great (fun vs H Q E h => ?_) (fun cdv A outer s H vs Q E hr h => ?_)
  · obtain ⟨st, rfl, _⟩ := h
    rfl
  obtain ⟨st, rfl, hs, q⟩ := h
  refine ⟨_, pss_cons (ps_set (i := 1) sc_great.nd rfl (Or.inl rfl) (pe_ix ix_str pe_str (pcall h1 hr (by decide) rfl (pa_cons (pv 0) (pa_cons pe_int pa_nil))) (fun _ _ => rfl)))
    (pss_one (ps_ret (pe_op op_add_str (pv 1) (pcall h2 hr (by decide) rfl (pa_cons (pv 0) (pa_cons (pcall h1 hr (by decide) rfl (pa_cons (pv 0) (pa_cons pe_int pa_nil))) pa_nil)))))), ?_⟩
  refine ⟨_, rfl, st, 26, rfl, hs, by decide, by decide, fun d H1 d0 d1 g1 => ?_⟩
  obtain ⟨c, hc, hm⟩ := at_great d0 d1
  refine ⟨greatS, d, c, rfl, rfl, small (by have := greatS_le; omega), hc, ?_⟩
  refine ⟨_, rfl, _, rfl, _, rfl, st, 8, rfl, g1.ok, by decide, by decide, fun e H2 e0 e1 g2 => ?_⟩
  refine ⟨st, e.toNat, ?_, g2.ok, by omega, fun z H3 hz g3 => ?_⟩
  · have e' : ((e.toNat : Nat) : Int) = e := by omega
    rw [e']
    rfl
  have hl : z.length ≤ 7 := by rw [hz.len]; omega
  refine ⟨⟨#[c]⟩, z, rfl, rfl, small ?_, ?_⟩
  · show 1 + z.length ≤ 1000000
    omega
  · exact q _ _ (great_mk hm hz (by omega)) (by rw [len_app]; show 1 + z.length ≤ 100; omega) ((g1.trans g2).trans g3)
abbrev s_path : Stmt := top 36
theorem sc_path : FnScope ["_law_state", "_law_part"] ["_law_state"] (defScope s_path) := ⟨rfl, rfl, rfl, by decide +kernel, rfl, by decide +kernel, by decide +kernel⟩
theorem ok_path (F : Fun K "_law_path" "_law_path" s_path f fd) (h1 : Has P w K mg base 3 "_law_great" ["_law_state"] (spStr fun z => greatB z = true)) (h2 : Has P w K mg base 3 "_law_small" ["_law_state"] (spStr fun z => nameB z = true)) :
    FnOk P w K mg base CX0 4 f fd ["_law_state"] (spStr fun z => pathB z = true) := by
  refine F.ok sc_path (fun vs H Q E h => ?_) (fun cdv A outer s H vs Q E hr h => ?_)
  · obtain ⟨st, rfl, _⟩ := h
    rfl
  obtain ⟨st, rfl, hs, q⟩ := h
  refine ⟨_, pss_cons (ps_set (i := 1) sc_path.nd rfl (Or.inl rfl) (pcall h1 hr (by decide) rfl (pa_cons (pv 0) pa_nil)))
    (pss_one (ps_ret (pe_op op_add_str (pe_op op_add_str (pv 1) pe_str) (pcall h2 hr (by decide) rfl (pa_cons (pv 0) pa_nil))))), ?_⟩
  refine ⟨_, rfl, st, rfl, hs, fun z H1 hz lz g1 => ?_⟩
  refine ⟨_, rfl, z, ".", rfl, rfl, small (by show z.length + 1 ≤ 1000000; omega), _, rfl, st, rfl, g1.ok, fun y H2 hy ly g2 => ?_⟩
  have e : (z ++ "." ++ y : Str).length = z.length + 1 + y.length := by rw [len_app, len_app]; rfl
  obtain ⟨c, r, hcr, _, _, _, hr7⟩ := great_parts hz
  have lz8 : z.length ≤ 8 := by rw [← len_toList, hcr]; simp; omega
  obtain ⟨n, hl, _, hn8, _⟩ := name_let hy
  have ly8 : y.length ≤ 8 := by rw [hl.len]; exact hn8
  have lz1 : (z ++ "." : Str).length = z.length + 1 := by rw [len_app]; rfl
  refine ⟨_, y, rfl, rfl, small (by rw [lz1]; omega), ?_⟩
  exact q _ _ (path_mk hz hy) (by rw [e]; omega) (g1.trans g2)
abbrev s_variable : Stmt := top 37
theorem sc_variable : FnScope ["_law_state"] ["_law_state"] (defScope s_variable) := ⟨rfl, rfl, rfl, by decide +kernel, rfl, by decide +kernel, by decide +kernel⟩
theorem ok_variable (F : Fun K "_law_variable" "_law_variable" s_variable f fd) (h1 : Has P w K mg base 1 "_law_next" ["_law_state", "_law_many"] spNext) (h2 : Has P w K mg base 2 "_law_letters" ["_law_state", "_law_long"] spLetters) :
    FnOk P w K mg base CX0 3 f fd ["_law_state"] (spStr fun z => varB z = true) := by
  refine F.ok sc_variable (fun vs H Q E h => ?_) (fun cdv A outer s H vs Q E hr h => ?_)
  · obtain ⟨st, rfl, _⟩ := h
    rfl
  obtain ⟨st, rfl, hs, q⟩ := h
  refine ⟨_, pss_one (ps_ret (pe_op op_add_str pe_str (pcall h2 hr (by decide) rfl (pa_cons (pv 0) (pa_cons (pe_op op_add pe_int (pcall h1 hr (by decide) rfl (pa_cons (pv 0) (pa_cons pe_int pa_nil)))) pa_nil))))), ?_⟩
  refine ⟨_, rfl, _, rfl, st, 8, rfl, hs, by decide, by decide, fun d H1 d0 d1 g1 => ?_⟩
  refine ⟨1, d, rfl, rfl, st, (1 + d).toNat, ?_, g1.ok, by omega, fun z H2 hz g2 => ?_⟩
  · have e : (((1 + d).toNat : Nat) : Int) = 1 + d := by omega
    rw [e]
    rfl
  have hl : z.length ≤ 8 := by rw [hz.len]; omega
  refine ⟨"?", z, rfl, rfl, small (by show 1 + z.length ≤ 1000000; omega), ?_⟩
  exact q _ _ (var_mk hz (by omega) (by omega)) (by rw [len_app]; show 1 + z.length ≤ 100; omega) (g1.trans g2)
abbrev s_number : Stmt := top 38
theorem sc_number : FnScope ["_law_state", "_law_number_here", "_law_k"] ["_law_state"] (defScope s_number) := ⟨rfl, rfl, rfl, by decide +kernel, rfl, by decide +kernel, by decide +kernel⟩
theorem ok_number (F : Fun K "_law_number" "_law_number" s_number f fd) (mr : mg "range" = none) (h1 : Has P w K mg base 1 "_law_next" ["_law_state", "_law_many"] spNext) : FnOk P w K mg base CX0 2 f fd ["_law_state"] spInt := by
  refine F.ok sc_number (fun vs H Q E h => ?_) (fun cdv A outer s H vs Q E hr h => ?_)
  · obtain ⟨st, rfl, _⟩ := h
    rfl
  obtain ⟨st, rfl, hs, q⟩ := h
  refine ⟨_, pss_cons (ps_set (i := 1) sc_number.nd rfl (Or.inl rfl) (pcall h1 hr (by decide) rfl (pa_cons (pv 0) (pa_cons pe_int pa_nil))))
    (pss_cons (ps_if (pt_cmpR op_eq (pcall h1 hr (by decide) rfl (pa_cons (pv 0) (pa_cons pe_int pa_nil))) pe_int (nomark _))
      (pss_one (ps_for PassesOwn.never rfl (pi_range1 rfl mr (pa_cons (pcall h1 hr (by decide) rfl (pa_cons (pv 0) (pa_cons pe_int pa_nil))) pa_nil)) (pg_name (i := 2) sc_number.nd rfl (Or.inl rfl))
        (pss_one (ps_set (i := 1) sc_number.nd rfl (Or.inl rfl) (pe_op op_add (pe_op op_mul (pv 1) pe_int) (pcall h1 hr (by decide) rfl (pa_cons (pv 0) (pa_cons pe_int pa_nil)))))))) pss_nil)
    (pss_cons (ps_if (pt_cmpR op_eq (pcall h1 hr (by decide) rfl (pa_cons (pv 0) (pa_cons pe_int pa_nil))) pe_int (nomark _)) (pss_one (ps_ret (pe_un un_neg (pv 1)))) pss_nil)
    (pss_one (ps_ret (pv 1))))), ?_⟩
  refine ⟨_, rfl, st, 10, rfl, hs, by decide, by decide, fun d H1 d0 d1 g1 => ?_⟩
  refine ⟨_, rfl, st, 4, rfl, g1.ok, by decide, by decide, fun e H2 e0 e1 g2 => ⟨rfl, _, rfl, ?_⟩⟩
  have tail : ∀ (x : Int) (o : Option V) (H3 : Hp), 0 ≤ x → x < 10 ^ 30 → Grow st H H3 → tSeq (tIfS (tTest (tOp rEq (tCall spNext [] E0 (tCons (tVar 0) (tCons (tC (.int 3)) tNil))) (tC (.int 0)))) (tRet (tUn (rU fun i => .int (-i)) (tVar 1))) tNext) (tRet (tVar 1)) { nx := fun _ H' => Q .non H', rt := Q } [some (.ref st), some (.int x), o] H3 := fun x o H3 x0 x1 g => by
    refine ⟨_, rfl, st, 3, rfl, g.ok, by decide, by decide, fun y H4 y0 y1 g4 => ⟨rfl, _, rfl, ?_⟩⟩
    refine ite2 (fun c => ?_) (fun c => ?_)
    · exact ⟨_, rfl, x, rfl, q _ _ (by omega) (by omega) (g.trans g4)⟩
    · exact ⟨_, rfl, q _ _ (by omega) (by omega) (g.trans g4)⟩
  refine ite2 (fun c => ?_) (fun c => ?_)
  · refine ⟨_, rfl, st, 30, rfl, g2.ok, by decide, by decide, fun n H3 n0 n1 g3 => ?_⟩
    refine ⟨n, rfl, by omega, by omega, for_range (n := n.toNat) (fun i σ H' => ∃ (x : Int) (o : Option V), σ = [some (.ref st), some (.int x), o] ∧ 0 ≤ x ∧ x < 10 ^ (i + 1) ∧ Grow st H H') ⟨d, none, rfl, d0, by simpa using d1, (g1.trans g2).trans g3⟩ ?_ ?_⟩
    · rintro i σ H' hi ⟨x, o, rfl, x0, x1, g⟩
      refine ⟨_, rfl, _, _, rfl, rfl, .inr ⟨by decide, by decide⟩, _, rfl, st, 10, rfl, g.ok, by decide, by decide, fun y H4 y0 y1 g4 => ⟨_, _, rfl, rfl, ?_⟩⟩
      refine ⟨_, _, rfl, ?_, ?_, g.trans g4⟩
      · show 0 ≤ x * 10 + y
        omega
      · show x * 10 + y < 10 ^ (i + 1 + 1)
        rw [Int.pow_succ]
        omega
    · rintro σ H' ⟨x, o, rfl, x0, x1, g⟩
      refine tail x o H' x0 (Int.lt_of_lt_of_le x1 ?_) g
      exact_mod_cast Nat.pow_le_pow_right (by decide : 0 < 10) (by omega : n.toNat + 1 ≤ 30)
  · exact tail d none H2 d0 (by omega) (g1.trans g2)
end
end Fw

set_option Elab.async false
set_option linter.all false
set_option maxRecDepth 100000
namespace Fw
open PySem PySem.Spec PyProof.Rows L2
/-! ### the forms of phrases -/
def lenIn (lo hi : Nat) (l : List T) : Bool := decide (lo ≤ l.length) && decide (l.length ≤ hi)
def hasLenT (lo hi : Nat) : T → Bool
  | .tup l => lenIn lo hi l
  | _ => false
def isListT (lo hi : Nat) (f : T → Bool) : T → Bool
  | .tup l => lenIn lo hi l && l.all f
  | _ => false
def isIntT : T → Bool
  | .int _ => true
  | _ => false
def numT : T → Bool
  | .int i => decide ((if i < 0 then -i else i) < 10 ^ 30)
  | _ => false
def funcB : T → Bool
  | .tup [a, b, _] => onStr nameB a && onStr nameB b
  | _ => false
def armB : T → Bool
  | .tup [.tup (g :: ns), _] => decide (ns.length ≤ 4) && (onStr greatB g && ns.all (onStr nameB))
  | _ => false
def at2 : T → T
  | .tup (_ :: _ :: e :: _) => e
  | t => t
def at1 : T → T
  | .tup (_ :: e :: _) => e
  | t => t
def rowsOf : T → List T
  | .tup l => l.map at2
  | _ => []
def kidsF : Nat → List T → Option (List T)
  | 0, [a, e] => if onStr nameB a = true then some [e] else none
  | 1, [a, b] => some [a, b]
  | 2, [a, e, g] => if onStr nameB a = true then some [e, g] else none
  | 3, [rows, e] => if isListT 1 4 funcB rows = true then some (rowsOf rows ++ [e]) else none
  | 4, e :: arms => if (lenIn 1 6 arms && arms.all armB) = true then some (e :: arms.map at1) else none
  | 5, a :: es => if (lenIn 1 4 es && onStr nameB a) = true then some es else none
  | 6, [a, b, c] => some [a, b, c]
  | _, _ => none
def formsL : List (Str × Nat) := [("fun", 0), ("call", 1), ("let", 2), ("ring", 3), ("case", 4), ("make", 5), ("pick", 0), ("plus", 1), ("minus", 1), ("times", 1), ("less", 1), ("if", 6)]
def formOf (z : Str) : Option Nat := formsL.lookup z
def leafPB (z : Str) : Bool := nameB z || (pathB z || greatB z)
def kidsP : T → Option (List T)
  | .int i => if numT (.int i) = true then some [] else none
  | .str z => if leafPB z = true then some [] else none
  | .tup (.str z :: r) => if greatB z = true then (if lenIn 1 4 r = true then some r else none) else (match formOf z with | some n => kidsF n r | none => none)
  | .tup _ => none
/-! ### readings that come to a thing -/
def EvT (t : TE) (σ : L2.St) (H : Hp) (x : T) : Prop := ∀ Q : VK, (∀ v H', Same H H' → Rep H' v x → Q v H') → t σ H Q
def Ret (H : Hp) (Q : VK) (l : List T) : Prop := ∀ H' p ws, Same H H' → H p = none → H' p = some (.lst ws) → Reps H' ws l → Q (.ref p) H'
section
variable {ta tb : TE} {σ : L2.St} {H : Hp} {v : V} {x : T} {K : PySem.W.Frag}
theorem et_ev (h : Ev ta σ H v) (r : Rep H v x) : EvT ta σ H x := fun Q q => h _ fun H' e => q v H' e (r.same e)
theorem ev_spT' {f : T → Bool} (h : EvT ta σ H x) : Ev (tCall (spT f) [] E0 (tCons ta tNil)) σ H (.bl (f x)) := fun Q q => h _ fun v H' e r => ⟨v, x, rfl, r, fun H2 e2 => q H2 (e.trans e2)⟩
theorem Reps.at_ {H : Hp} : ∀ {vs : List V} {ts : List T} {i : Nat} {t : T}, Reps H vs ts → ts[i]? = some t → ∃ v, vs[i]? = some v ∧ Rep H v t
  | _, _, _, _, .nil, h => by simp at h
  | _, _, 0, _, .cons r _, h => by
    simp at h; subst h
    exact ⟨_, rfl, r⟩
  | _, _, i + 1, t, .cons _ q, h => by
    obtain ⟨v, h1, h2⟩ := q.at_ (i := i) (t := t) (by simpa using h)
    exact ⟨v, by simpa using h1, h2⟩
theorem Reps.drop {H : Hp} : ∀ {vs : List V} {ts : List T} (n : Nat), Reps H vs ts → Reps H (vs.drop n) (ts.drop n)
  | _, _, 0, r => r
  | _, _, _ + 1, .nil => .nil
  | _, _, n + 1, .cons _ q => Reps.drop n q
/-- t[i] -/
theorem et_ix {a : Addr} {vs : List V} {ts : List T} {i : Nat} {tb : TE} (h1 : Ev ta σ H (.ref a)) (h2 : ∀ H', Same H H' → Ev tb σ H' (.int i)) (s : H a = some (.tup vs)) (r : Reps H vs ts) (hi : ts[i]? = some x) : EvT (tOp (rIxT K) ta tb) σ H x := by
  obtain ⟨v, e1, e2⟩ := r.at_ hi
  exact et_ev (ev_ixT h1 h2 (SqT.of s) (atI_nat e1)) e2
theorem cutn (vs : List V) (n : Nat) : cutV vs (some (n : Int)) none = vs.drop n := by
  unfold cutV
  rw [HT.sIx_none, HT.sIx_nat]
  by_cases h : n ≤ vs.length
  · rw [Nat.min_eq_left h]
    exact List.take_of_length_le (by rw [List.length_drop]; omega)
  · rw [Nat.min_eq_right (by omega), List.drop_eq_nil_of_le (Nat.le_refl _), List.drop_eq_nil_of_le (by omega)]
    simp
theorem cutn_not {vs : List V} {n : Nat} (h : vs ≠ []) (hn : 1 ≤ n) : ¬ (HT.sIx vs.length 0 (some (n : Int)) = 0 ∧ HT.sIx vs.length vs.length none = vs.length) := by
  rw [HT.sIx_nat]
  have : 0 < vs.length := List.length_pos_iff.mpr h
  omega
/-- t[n:] -/
theorem et_cut {a : Addr} {vs : List V} {ts : List T} {n : Nat} (h1 : Ev ta σ H (.ref a)) (s : H a = some (.tup vs)) (r : Reps H vs ts) (hne : ts ≠ []) (hn : 1 ≤ n) : EvT (tSl (rSlT K) ta (tPart (tC (.int (n : Nat)))) tNoPart) σ H (.tup (ts.drop n)) := fun Q q => h1 _ fun H' e => by
  have hv : vs ≠ [] := fun z => by
    have := r.length
    rw [z] at this
    cases ts with
    | nil => exact hne rfl
    | cons _ _ => simp at this
  refine ⟨n, rfl, a, vs, rfl, SqT.of (e _ _ s), cutn_not hv hn, fun p hp => q _ _ (e.trans (same_new hp _)) (.tup upd_same ?_)⟩
  rw [cutn]
  exact (r.drop n).same (e.trans (same_new hp _))
/-- list(t[n:]) -/
theorem ret_cut {a : Addr} {vs : List V} {ts : List T} {n : Nat} {Q : VK} (h1 : Ev ta σ H (.ref a)) (s : H a = some (.tup vs)) (r : Reps H vs ts) (hne : ts ≠ []) (hn : 1 ≤ n) (q : Ret H Q (ts.drop n)) :
    tCB (fun xs H Q => ∃ p ys, xs = [.ref p] ∧ (SqL K H p ys ∨ SqT K H p ys) ∧ ∀ l, H l = none → Q (.ref l) (upd H l (.lst ys))) (tCons (tSl (rSlT K) ta (tPart (tC (.int (n : Nat)))) tNoPart) tNil) σ H Q :=
  et_cut (K := K) h1 s r hne hn _ fun v H' e rv => by
    cases rv with
    | tup h r' => exact ⟨_, _, rfl, .inr (SqT.of h), fun l hl => q _ l _ (e.trans (same_new hl _)) (e.free hl) upd_same (r'.same (same_new hl _))⟩
theorem Ret.same {Q : VK} {l : List T} {H' : Hp} (q : Ret H Q l) (e : Same H H') : Ret H' Q l := fun H2 p ws e2 hp hp2 hr => q H2 p ws (e.trans e2) (e.free hp) hp2 hr
/-- a comprehension over a tuple -/
theorem comp_tup {a : Addr} {xs : List V} {tt : TT} {te : TE} {σ' : L2.St} {Q : VK} (Pv : Nat → List V → Hp → Prop) (h0 : Pv 0 [] H) (hl : ∀ i vs H, i ≤ xs.length → Pv i vs H → SqT K H a xs ∧ vs.length < sizeLine)
    (hs : ∀ i x vs H2, i < xs.length → xs[i]? = some x → Pv i vs H2 → tt (some x :: σ') H2 fun b H4 => if b = true then te (some x :: σ') H4 fun v H5 => Nx xs.length i (Pv (i + 1) (vs ++ [v]) H5) else Nx xs.length i (Pv (i + 1) vs H4))
    (hd : ∀ vs H2, Pv xs.length vs H2 → ∀ l, H2 l = none → Q (.ref l) (upd H2 l (.lst vs))) : CompW (Itt K a) tt te σ' Q H := by
  refine ⟨fun i m vs H => m = xs.length - i ∧ i ≤ xs.length ∧ Pv i vs H, ⟨xs.length, by simp, Nat.zero_le _, h0⟩, ?_⟩
  rintro i m vs H2 ⟨rfl, hi, p⟩
  obtain ⟨q1, q2⟩ := hl i vs H2 hi p
  refine ⟨q2, ?_⟩
  by_cases hlt : i < xs.length
  · refine .inr ⟨⟨xs, xs[i], q1, by simp [hlt]⟩, ?_⟩
    rintro x H3 ⟨e, y⟩
    subst e
    exact hs i x vs _ hlt (y xs q1) p
  · have e : i = xs.length := by omega
    subst e
    exact .inl ⟨⟨xs, q1, Nat.le_refl _⟩, hd vs H2 p⟩
end
theorem kit_int (K : PySem.W.Frag) (t : T) : PySem.W.kitOne K (tyT t) (.type "int") = some (isIntT t) := by
  cases t with
  | int i => first | rfl | (with_unfolding_all rfl) | kernel_rfl
  | str x => first | rfl | (with_unfolding_all rfl) | kernel_rfl
  | tup l => first | rfl | (with_unfolding_all rfl) | kernel_rfl
theorem kit_bool (K : PySem.W.Frag) (t : T) : PySem.W.kitOne K (tyT t) (.type "bool") = some false := by
  cases t with
  | int i => first | rfl | (with_unfolding_all rfl) | kernel_rfl
  | str x => first | rfl | (with_unfolding_all rfl) | kernel_rfl
  | tup l => first | rfl | (with_unfolding_all rfl) | kernel_rfl
def spHasLen : Sp := fun vs H Q _ => ∃ (v : V) (t : T) (lo hi : Nat), vs = [v, .int lo, .int hi] ∧ Rep H v t ∧ ∀ H', Same H H' → Q (.bl (hasLenT lo hi t)) H'
def spAllAre (f : T → Bool) (g : Addr) : Sp := fun vs H Q _ => ∃ a us ts, vs = [.ref a, .ref g] ∧ H a = some (.tup us) ∧ Reps H us ts ∧ ts.length ≤ 100000 ∧ ∀ H', Same H H' → Q (.bl (ts.all f)) H'
def spList (f : T → Bool) (g : Addr) : Sp := fun vs H Q _ => ∃ (v : V) (t : T) (lo hi : Nat), vs = [v, .int lo, .int hi, .ref g] ∧ Rep H v t ∧ hi ≤ 1000 ∧ ∀ H', Same H H' → Q (.bl (isListT lo hi f t)) H'
def spForm (n : Nat) : Sp := fun vs H Q _ => ∃ a us h r, vs = [.ref a] ∧ H a = some (.tup us) ∧ Reps H us (h :: r) ∧ (kidsF n r = none → ∀ H', Same H H' → Q .non H') ∧ ∀ l, kidsF n r = some l → Ret H Q l
theorem ev_hasLen {ta : TE} {σ : L2.St} {H : Hp} {x : T} (lo hi : Nat) (h : EvT ta σ H x) : Ev (tCall spHasLen [] E0 (tCons ta (tCons (tC (.int lo)) (tCons (tC (.int hi)) tNil)))) σ H (.bl (hasLenT lo hi x)) := fun Q q => h _ fun v H' e r => ⟨v, x, lo, hi, rfl, r, fun H2 e2 => q H2 (e.trans e2)⟩
theorem ev_list {ta : TE} {σ : L2.St} {H : Hp} {x : T} {fB : T → Bool} {g : Addr} (lo hi : Nat) (hh : hi ≤ 1000) (h : EvT ta σ H x) : Ev (tCall (spList fB g) [] E0 (tCons ta (tCons (tC (.int lo)) (tCons (tC (.int hi)) (tCons (tC (.ref g)) tNil))))) σ H (.bl (isListT lo hi fB x)) := fun Q q => h _ fun v H' e r => ⟨v, x, lo, hi, rfl, r, hh, fun H2 e2 => q H2 (e.trans e2)⟩
theorem ev_allAre {ta : TE} {σ : L2.St} {H : Hp} {ts : List T} {fB : T → Bool} {g : Addr} (hh : ts.length ≤ 100000) (h : EvT ta σ H (.tup ts)) : Ev (tCall (spAllAre fB g) [] E0 (tCons ta (tCons (tC (.ref g)) tNil))) σ H (.bl (ts.all fB)) := fun Q q => h _ fun v H' e r => by
  cases r with
  | tup h r => exact ⟨_, _, ts, rfl, h, r, hh, fun H2 e2 => q H2 (e.trans e2)⟩
/-- a tuple's item, the tuple itself reckoned -/
theorem et_ix' {K : PySem.W.Frag} {ta tb : TE} {σ : L2.St} {H : Hp} {x : T} {ts : List T} {i : Nat} (h1 : EvT ta σ H (.tup ts)) (h2 : ∀ H', Same H H' → Ev tb σ H' (.int i)) (hi : ts[i]? = some x) : EvT (tOp (rIxT K) ta tb) σ H x := fun Q q => h1 _ fun v H1 e1 r1 => h2 H1 e1 _ fun H2 e2 => by
  cases r1 with
  | tup h r =>
    obtain ⟨u, q1, q2⟩ := r.at_ hi
    exact ⟨_, _, i, u, rfl, rfl, SqT.of (e2 _ _ h), atI_nat q1, q u H2 (e1.trans e2) (q2.same e2)⟩
theorem et_cut' {K : PySem.W.Frag} {ta : TE} {σ : L2.St} {H : Hp} {ts : List T} {n : Nat} (h1 : EvT ta σ H (.tup ts)) (hne : ts ≠ []) (hn : 1 ≤ n) : EvT (tSl (rSlT K) ta (tPart (tC (.int (n : Nat)))) tNoPart) σ H (.tup (ts.drop n)) := fun Q q => h1 _ fun v H1 e1 r1 => by
  cases r1 with
  | @tup a vs _ h r =>
    have hv : vs ≠ [] := fun z => by
      have := r.length
      rw [z] at this
      cases ts with
      | nil => exact hne rfl
      | cons _ _ => simp at this
    refine ⟨n, rfl, a, vs, rfl, SqT.of h, cutn_not hv hn, fun p hp => q _ _ (e1.trans (same_new hp _)) (.tup upd_same ?_)⟩
    rw [cutn]
    exact (r.drop n).same (same_new hp _)
def n0B (f : T → Bool) : T → Bool
  | .tup (a :: _) => f a
  | _ => false
def n1B (f : T → Bool) : T → Bool
  | .tup (_ :: b :: _) => f b
  | _ => false
theorem funcB_eq (t : T) : (hasLenT 3 3 t && (n0B (onStr nameB) t && n1B (onStr nameB) t)) = funcB t := by
  cases t with
  | int i => rfl
  | str z => rfl
  | tup l =>
    match l with
    | [] => rfl
    | [_] => rfl
    | [_, _] => rfl
    | [a, b, c] => simp [hasLenT, lenIn, n0B, n1B, funcB]
    | _ :: _ :: _ :: _ :: r => simp [hasLenT, lenIn, funcB]
section
variable {P : Program} {w : World} {K : PySem.W.Frag} {mg : Str → Option Value} {base : Heap} {f : Addr} {fd : FuncData}
abbrev s_is_whole : Stmt := top 10
abbrev s_is_number : Stmt := top 11
abbrev s_has_length : Stmt := top 13
abbrev s_all_are : Stmt := top 14
abbrev s_is_list : Stmt := top 15
abbrev s_two_within : Stmt := top 17
abbrev s_three_within : Stmt := top 18
abbrev s_named_within : Stmt := top 19
abbrev s_let_within : Stmt := top 20
abbrev s_make_within : Stmt := top 21
abbrev s_is_function_form : Stmt := top 22
abbrev s_ring_within : Stmt := top 23
abbrev s_is_arm_form : Stmt := top 24
abbrev s_case_within : Stmt := top 25
abbrev s_phrases_within : Stmt := top 27
abbrev s_is_phrase : Stmt := top 28
theorem sc_is_whole : FnScope ["thing"] ["thing"] (defScope s_is_whole) := ⟨rfl, rfl, rfl, by decide +kernel, rfl, by decide +kernel, by decide +kernel⟩
theorem ok_is_whole (F : Fun K "is_whole" "is_whole" s_is_whole f fd) (G : Gb K mg) (mi : mg "int" = none) (mb : mg "bool" = none) : FnOk P w K mg base CX0 1 f fd ["thing"] (spT isIntT) := by
  refine F.ok sc_is_whole (fun vs H Q E h => ?_) (fun cdv A outer s H vs Q E hr h => ?_)
  · obtain ⟨v, t, rfl, _⟩ := h
    rfl
  obtain ⟨v, t, rfl, rt, q⟩ := h
  refine ⟨_, pss_one (ps_ret (pe_and (pe_callB call_isi rfl G.isi boot_isinstance (pa_cons (pv 0) (pa_cons (pe_bltn (v := .ty "int") rfl mi PyProof.Rows.boot_int rfl) pa_nil)))
    (pe_one (pe_not (pe_callB call_isi rfl G.isi boot_isinstance (pa_cons (pv 0) (pa_cons (pe_bltn (v := .ty "bool") rfl mb PyProof.Rows.boot_bool rfl) pa_nil))))))), ?_⟩
  refine ev_and (ev_isi (ev_var (σ := L2.start ["thing"] [v]) rfl) rt (kit_int K)) (fun _ H' e => ev_not (ev_isi (f := fun _ => false) (ev_var rfl) (rt.same e) (kit_bool K))) _ fun H' e' => ?_
  have z : (isIntT t && !(fun _ => false) t) = isIntT t := by simp
  rw [z]
  exact q H' e'
theorem sc_is_number : FnScope ["thing"] ["thing"] (defScope s_is_number) := ⟨rfl, rfl, rfl, by decide +kernel, rfl, by decide +kernel, by decide +kernel⟩
theorem ok_is_number (F : Fun K "is_number" "is_number" s_is_number f fd) (ma : mg "abs" = none) (h1 : Has P w K mg base 1 "is_whole" ["thing"] (spT isIntT)) : FnOk P w K mg base CX0 2 f fd ["thing"] (spT numT) := by
  refine F.ok sc_is_number (fun vs H Q E h => ?_) (fun cdv A outer s H vs Q E hr h => ?_)
  · obtain ⟨v, t, rfl, _⟩ := h
    rfl
  obtain ⟨v, t, rfl, rt, q⟩ := h
  refine ⟨_, pss_one (ps_ret (pe_and (pcall h1 hr (by decide) rfl (pa_cons (pv 0) pa_nil)) (pe_one (pe_cmpR op_lt (pe_callB call_abs rfl ma PyProof.Rows.boot_abs (pa_cons (pv 0) pa_nil)) (pe_op op_pow pe_int pe_int) (nomark _))))), ?_⟩
  refine ev_spT (ev_var (σ := L2.start ["thing"] [v]) rfl) rt _ fun H' e' => ⟨_, rfl, ?_⟩
  cases rt with
  | str z h => exact iteF (q H' e')
  | tup h r => exact iteF (q H' e')
  | int i => exact iteT ⟨_, rfl, i, rfl, _, _, rfl, rfl, ⟨by decide, by decide, by decide⟩, _, _, rfl, rfl, q H' e'⟩
theorem sc_has_length : FnScope ["thing", "least", "most"] ["thing", "least", "most"] (defScope s_has_length) := ⟨rfl, rfl, rfl, by decide +kernel, rfl, by decide +kernel, by decide +kernel⟩
theorem ok_has_length (F : Fun K "has_length" "has_length" s_has_length f fd) (G : Gb K mg) : FnOk P w K mg base CX0 1 f fd ["thing", "least", "most"] spHasLen := by
  refine F.ok sc_has_length (fun vs H Q E h => ?_) (fun cdv A outer s H vs Q E hr h => ?_)
  · obtain ⟨v, t, lo, hi, rfl, _⟩ := h
    rfl
  obtain ⟨v, t, lo, hi, rfl, rt, q⟩ := h
  refine ⟨_, pss_one (ps_ret (pe_and (pe_callB call_isi rfl G.isi boot_isinstance (pa_cons (pv 0) (pa_cons (pe_bltn (v := .ty "tuple") rfl G.tuple boot_tuple rfl) pa_nil)))
    (pe_one (pe_chain op_le op_le (pv 1) (pe_callB call_len_seq rfl G.len PySem.boot_len (pa_cons (pv 0) pa_nil)) (pv 2))))), ?_⟩
  refine ev_and (c2 := hasLenT lo hi t) (ev_isi (ev_var (i := 0) (σ := L2.start ["thing", "least", "most"] [v, .int lo, .int hi]) rfl) rt (kit_tup K)) (fun c H1 e1 => ?_) _ fun H' e' => ?_
  · cases rt with
    | str z h => cases c
    | int i => cases c
    | @tup a us ts h r =>
      have z : hasLenT lo hi (.tup ts) = (decide ((lo : Int) ≤ us.length) && decide ((us.length : Int) ≤ hi)) := by
        show (decide (lo ≤ ts.length) && decide (ts.length ≤ hi)) = _
        rw [r.length]
        congr 1
        · rw [Bool.eq_iff_iff]; simp
        · rw [Bool.eq_iff_iff]; simp
      rw [z]
      exact ev_chain (ev_var rfl) (fun _ e2 => ev_lenT (ev_var rfl) (SqT.of (e2 _ _ (e1 _ _ h)))) (fun _ _ => ev_var rfl)
  · have z : (isTupT t && hasLenT lo hi t) = hasLenT lo hi t := by
      cases t <;> rfl
    rw [z]
    exact q H' e'
theorem sc_all_are : FnScope ["things", "fits"] ["things", "fits"] (defScope s_all_are) := ⟨rfl, rfl, rfl, by decide +kernel, rfl, by decide +kernel, by decide +kernel⟩
theorem ok_all_are {fB : T → Bool} {g : Addr} {gd : FuncData} {k : Nat} (F : Fun K "all_are" "all_are" s_all_are f fd) (G : Gb K mg) (hg : FnOk P w K mg base CX0 k g gd ["thing"] (spT fB)) (kg : PySem.W.keepIn K (.ref g) = true) (bg : Binds K gd ["thing"] []) :
    FnOk P w K mg base CX0 (k + 1) f fd ["things", "fits"] (spAllAre fB g) := by
  refine F.ok sc_all_are (fun vs H Q E h => ?_) (fun cdv A outer s H vs Q E hr h => ?_)
  · obtain ⟨a, us, ts, rfl, _⟩ := h
    rfl
  obtain ⟨a, us, ts, rfl, ha, hr', hl, q⟩ := h
  refine ⟨_, pss_one (ps_ret (pe_callB (call_all rfl) rfl G.all boot_all (pa_cons (pe_lc (defScope s_all_are) ["things", "fits"] ["fits"] [1] (by decide +kernel) (pi_tup (pv 0)) (fun C s₀ H₀ ex => pts_nil)
    (fun C s₀ H₀ ex => pe_callV (i := 1) hg hr rfl (Or.inr (Or.inl rfl)) kg bg pass0 (pa_cons (pv 0) pa_nil))) pa_nil))), ?_⟩
  refine ⟨_, rfl, a, rfl, ⟨us, SqT.of ha⟩, ?_⟩
  refine comp_tup (xs := us) (fun i vs H2 => Same H H2 ∧ vs = (ts.take i).map fun t => V.bl (fB t)) ⟨Same.refl H, rfl⟩ ?_ ?_ ?_
  · rintro i vs H2 hi ⟨e, rfl⟩
    refine ⟨SqT.of (e _ _ ha), ?_⟩
    rw [List.length_map, List.length_take]
    exact small' (by omega)
  · rintro i x vs H2 hi hx ⟨e, rfl⟩
    refine tt1 (iteT ⟨rfl, ?_⟩)
    have hti : i < ts.length := by rw [← hr'.length]; exact hi
    obtain ⟨v, e1, e2⟩ := hr'.at_ (List.getElem?_eq_getElem hti)
    rw [hx] at e1
    cases e1
    refine ⟨_, rfl, x, _, rfl, e2.same e, fun H3 e3 => nx hi ⟨e.trans e3, ?_⟩⟩
    rw [List.take_succ, List.getElem?_eq_getElem hti, Option.toList_some, List.map_append]
    rfl
  · rintro vs H2 ⟨e, rfl⟩ l hl'
    refine ⟨l, ts.map fB, rfl, SqL.of ?_, ?_⟩
    · rw [upd_same, List.map_map, List.take_of_length_le (by rw [hr'.length]; exact Nat.le_refl _)]
      rfl
    · have z : ((ts.map fB).all id) = ts.all fB := by
        rw [List.all_map]
        rfl
      rw [z]
      exact q _ (e.trans (same_new hl' _))
theorem sc_is_list : FnScope ["thing", "least", "most", "fits"] ["thing", "least", "most", "fits"] (defScope s_is_list) := ⟨rfl, rfl, rfl, by decide +kernel, rfl, by decide +kernel, by decide +kernel⟩
theorem ok_is_list {fB : T → Bool} {g : Addr} {k : Nat} (F : Fun K "is_list" "is_list" s_is_list f fd) (h1 : Has P w K mg base 1 "has_length" ["thing", "least", "most"] spHasLen) (h2 : Has P w K mg base (k + 1) "all_are" ["things", "fits"] (spAllAre fB g)) :
    FnOk P w K mg base CX0 (k + 2) f fd ["thing", "least", "most", "fits"] (spList fB g) := by
  refine F.ok sc_is_list (fun vs H Q E h => ?_) (fun cdv A outer s H vs Q E hr h => ?_)
  · obtain ⟨v, t, lo, hi, rfl, _⟩ := h
    rfl
  obtain ⟨v, t, lo, hi, rfl, rt, hhi, q⟩ := h
  refine ⟨_, pss_one (ps_ret (pe_and (pcall h1 hr (by omega) rfl (pa_cons (pv 0) (pa_cons (pv 1) (pa_cons (pv 2) pa_nil)))) (pe_one (pcall h2 hr (by omega) rfl (pa_cons (pv 0) (pa_cons (pv 3) pa_nil)))))), ?_⟩
  refine ⟨_, rfl, _, rfl, _, rfl, v, t, lo, hi, rfl, rt, fun H' e' => ⟨_, rfl, ?_⟩⟩
  cases rt with
  | str z h => exact iteF (q H' e')
  | int i => exact iteF (q H' e')
  | @tup a us ts h r =>
    have q' : ∀ H', Same H H' → Q (.bl (lenIn lo hi ts && ts.all fB)) H' := q
    show if lenIn lo hi ts = true then _ else _
    cases hl : lenIn lo hi ts with
    | false =>
      rw [hl] at q'
      exact iteF (q' H' e')
    | true =>
      rw [hl, Bool.true_and] at q'
      unfold lenIn at hl
      simp only [Bool.and_eq_true, decide_eq_true_eq] at hl
      exact iteT ⟨_, rfl, _, rfl, a, us, ts, rfl, e' _ _ h, r.same e', by omega, fun H2 e2 => q' H2 (e'.trans e2)⟩
theorem sc_two_within : FnScope ["thing"] ["thing"] (defScope s_two_within) := ⟨rfl, rfl, rfl, by decide +kernel, rfl, by decide +kernel, by decide +kernel⟩
theorem ok_two_within (F : Fun K "two_within" "two_within" s_two_within f fd) (G : Gb K mg) : FnOk P w K mg base CX0 1 f fd ["thing"] (spForm 1) := by
  refine F.ok sc_two_within (fun vs H Q E h => ?_) (fun cdv A outer s H vs Q E hr h => ?_)
  · obtain ⟨a, us, h, r, rfl, _⟩ := h
    rfl
  obtain ⟨a, us, h, r, rfl, ha, hr', q1, q2⟩ := h
  refine ⟨_, pss_one (ps_ret (pe_ifExp (pt_cmpR op_eq (pe_callB call_len_seq rfl G.len PySem.boot_len (pa_cons (pv 0) pa_nil)) pe_int (nomark _)) (pe_callTy call_list_of rfl G.list boot_list (pa_cons (pe_slice sl_tup (pv 0) (po_some pe_int) po_none) pa_nil)) pe_non)), ?_⟩
  have hl := hr'.length
  refine ts_t (ev_eqI (ev_lenT (K := K) (ev_var (σ := L2.start ["thing"] [.ref a]) rfl) (SqT.of ha)) fun _ _ => ev_c) _ fun H' e' => ?_
  refine ite2 (fun c => ?_) (fun c => ?_)
  · have c1 : us.length = 3 := by have := of_decide_eq_true c; omega
    refine ret_cut (n := 1) (ev_var rfl) (e' _ _ ha) (hr'.same e') (by simp) (by decide) ((q2 r ?_).same e')
    match r, (show r.length = 2 by simp at hl; omega) with
    | [x, y], _ => rfl
  · have c1 : us.length ≠ 3 := fun z => c (by rw [z]; rfl)
    refine q1 ?_ H' e'
    match r, (show r.length ≠ 2 by simp at hl; omega) with
    | [], _ => rfl
    | [_], _ => rfl
    | [_, _], z => exact absurd rfl z
    | _ :: _ :: _ :: _, _ => rfl
theorem sc_three_within : FnScope ["thing"] ["thing"] (defScope s_three_within) := ⟨rfl, rfl, rfl, by decide +kernel, rfl, by decide +kernel, by decide +kernel⟩
theorem ok_three_within (F : Fun K "three_within" "three_within" s_three_within f fd) (G : Gb K mg) : FnOk P w K mg base CX0 1 f fd ["thing"] (spForm 6) := by
  refine F.ok sc_three_within (fun vs H Q E h => ?_) (fun cdv A outer s H vs Q E hr h => ?_)
  · obtain ⟨a, us, h, r, rfl, _⟩ := h
    rfl
  obtain ⟨a, us, h, r, rfl, ha, hr', q1, q2⟩ := h
  refine ⟨_, pss_one (ps_ret (pe_ifExp (pt_cmpR op_eq (pe_callB call_len_seq rfl G.len PySem.boot_len (pa_cons (pv 0) pa_nil)) pe_int (nomark _)) (pe_callTy call_list_of rfl G.list boot_list (pa_cons (pe_slice sl_tup (pv 0) (po_some pe_int) po_none) pa_nil)) pe_non)), ?_⟩
  have hl := hr'.length
  refine ts_t (ev_eqI (ev_lenT (K := K) (ev_var (σ := L2.start ["thing"] [.ref a]) rfl) (SqT.of ha)) fun _ _ => ev_c) _ fun H' e' => ?_
  refine ite2 (fun c => ?_) (fun c => ?_)
  · have c1 : us.length = 4 := by have := of_decide_eq_true c; omega
    refine ret_cut (n := 1) (ev_var rfl) (e' _ _ ha) (hr'.same e') (by simp) (by decide) ((q2 r ?_).same e')
    match r, (show r.length = 3 by simp at hl; omega) with
    | [x, y, z], _ => rfl
  · have c1 : us.length ≠ 4 := fun z => c (by rw [z]; rfl)
    refine q1 ?_ H' e'
    match r, (show r.length ≠ 3 by simp at hl; omega) with
    | [], _ => rfl
    | [_], _ => rfl
    | [_, _], _ => rfl
    | [_, _, _], z => exact absurd rfl z
    | _ :: _ :: _ :: _ :: _, _ => rfl
theorem sc_named_within : FnScope ["thing"] ["thing"] (defScope s_named_within) := ⟨rfl, rfl, rfl, by decide +kernel, rfl, by decide +kernel, by decide +kernel⟩
theorem ok_named_within (F : Fun K "named_within" "named_within" s_named_within f fd) (G : Gb K mg) (h1 : Has P w K mg base 3 "is_name" ["thing"] (spT (onStr nameB))) : FnOk P w K mg base CX0 4 f fd ["thing"] (spForm 0) := by
  refine F.ok sc_named_within (fun vs H Q E h => ?_) (fun cdv A outer s H vs Q E hr h => ?_)
  · obtain ⟨a, us, h, r, rfl, _⟩ := h
    rfl
  obtain ⟨a, us, h, r, rfl, ha, hr', q1, q2⟩ := h
  refine ⟨_, pss_one (ps_ret (pe_ifExp (PW.pt (pw_and (pt_cmpR op_eq (pe_callB call_len_seq rfl G.len PySem.boot_len (pa_cons (pv 0) pa_nil)) pe_int (nomark _)) (pw_and1 (pt_val (pcall h1 hr (by decide) rfl (pa_cons (pe_ix ix_tup (pv 0) pe_int (fun _ _ => rfl)) pa_nil))))))
    (pe_lst (pa_cons (pe_ix ix_tup (pv 0) pe_int (fun _ _ => rfl)) pa_nil)) pe_non)), ?_⟩
  have hl := hr'.length
  refine ts_and (c2 := hdB (onStr nameB) r) (ts_t (ev_eqI (ev_lenT (K := K) (ev_var (σ := L2.start ["thing"] [.ref a]) rfl) (SqT.of ha)) fun _ _ => ev_c)) (fun c H1 e1 => ?_) _ fun H' e' => ?_
  · have c1 : us.length = 3 := by have := of_decide_eq_true c; omega
    match r, (show r.length = 2 by simp at hl; omega), hr' with
    | [x, y], _, hr' => exact ts_b (ev_spT' (et_ix (i := 1) (ev_var rfl) (fun _ _ => ev_c) (e1 _ _ ha) (hr'.same e1) rfl))
  · refine ite2 (fun c => ?_) (fun c => ?_)
    · simp only [Bool.and_eq_true, decide_eq_true_eq] at c
      match r, (show r.length = 2 by simp at hl; omega), hr', c.2, q2 with
      | [x, y], _, hr', c2, q2 =>
        refine et_ix (K := K) (i := 2) (ev_var rfl) (fun _ _ => ev_c) (e' _ _ ha) (hr'.same e') rfl _ fun v H2 e2 rv => ⟨small (by show 1 ≤ 1000000; decide), fun l hl' => ?_⟩
        have z : onStr nameB x = true := c2
        exact q2 [y] (by show (if onStr nameB x = true then _ else _) = _; rw [if_pos z]) _ l [v] ((e'.trans e2).trans (same_new hl' _)) ((e'.trans e2).free hl') upd_same (.cons (rv.same (same_new hl' _)) .nil)
    · refine q1 ?_ H' e'
      match r, hl, c with
      | [], _, _ => rfl
      | [_], _, _ => rfl
      | [x, y], hl, c =>
        have z : ¬ onStr nameB x = true := fun z => c (by
          have : us.length = 3 := by simp at hl; omega
          show (decide ((us.length : Int) = 3) && onStr nameB x) = true
          rw [z, this]; rfl)
        show (if onStr nameB x = true then _ else _) = _
        rw [if_neg z]
      | _ :: _ :: _ :: _, _, _ => rfl
theorem sc_let_within : FnScope ["thing"] ["thing"] (defScope s_let_within) := ⟨rfl, rfl, rfl, by decide +kernel, rfl, by decide +kernel, by decide +kernel⟩
theorem ok_let_within (F : Fun K "let_within" "let_within" s_let_within f fd) (G : Gb K mg) (h1 : Has P w K mg base 3 "is_name" ["thing"] (spT (onStr nameB))) : FnOk P w K mg base CX0 4 f fd ["thing"] (spForm 2) := by
  refine F.ok sc_let_within (fun vs H Q E h => ?_) (fun cdv A outer s H vs Q E hr h => ?_)
  · obtain ⟨a, us, h, r, rfl, _⟩ := h
    rfl
  obtain ⟨a, us, h, r, rfl, ha, hr', q1, q2⟩ := h
  refine ⟨_, pss_one (ps_ret (pe_ifExp (PW.pt (pw_and (pt_cmpR op_eq (pe_callB call_len_seq rfl G.len PySem.boot_len (pa_cons (pv 0) pa_nil)) pe_int (nomark _)) (pw_and1 (pt_val (pcall h1 hr (by decide) rfl (pa_cons (pe_ix ix_tup (pv 0) pe_int (fun _ _ => rfl)) pa_nil))))))
    (pe_callTy call_list_of rfl G.list boot_list (pa_cons (pe_slice sl_tup (pv 0) (po_some pe_int) po_none) pa_nil)) pe_non)), ?_⟩
  have hl := hr'.length
  refine ts_and (c2 := hdB (onStr nameB) r) (ts_t (ev_eqI (ev_lenT (K := K) (ev_var (σ := L2.start ["thing"] [.ref a]) rfl) (SqT.of ha)) fun _ _ => ev_c)) (fun c H1 e1 => ?_) _ fun H' e' => ?_
  · have c1 : us.length = 4 := by have := of_decide_eq_true c; omega
    match r, (show r.length = 3 by simp at hl; omega), hr' with
    | [x, y, z], _, hr' => exact ts_b (ev_spT' (et_ix (i := 1) (ev_var rfl) (fun _ _ => ev_c) (e1 _ _ ha) (hr'.same e1) rfl))
  · refine ite2 (fun c => ?_) (fun c => ?_)
    · simp only [Bool.and_eq_true, decide_eq_true_eq] at c
      match r, (show r.length = 3 by simp at hl; omega), hr', c.2, q2 with
      | [x, y, z], _, hr', c2, q2 =>
        have z' : onStr nameB x = true := c2
        exact ret_cut (n := 2) (ev_var rfl) (e' _ _ ha) (hr'.same e') (by simp) (by decide) ((q2 [y, z] (by show (if onStr nameB x = true then _ else _) = _; rw [if_pos z'])).same e')
    · refine q1 ?_ H' e'
      match r, hl, c with
      | [], _, _ => rfl
      | [_], _, _ => rfl
      | [_, _], _, _ => rfl
      | [x, y, z], hl, c =>
        have z' : ¬ onStr nameB x = true := fun z' => c (by
          have : us.length = 4 := by simp at hl; omega
          show (decide ((us.length : Int) = 4) && onStr nameB x) = true
          rw [z', this]; rfl)
        show (if onStr nameB x = true then _ else _) = _
        rw [if_neg z']
      | _ :: _ :: _ :: _ :: _, _, _ => rfl
theorem sc_make_within : FnScope ["thing"] ["thing"] (defScope s_make_within) := ⟨rfl, rfl, rfl, by decide +kernel, rfl, by decide +kernel, by decide +kernel⟩
theorem ok_make_within (F : Fun K "make_within" "make_within" s_make_within f fd) (G : Gb K mg) (h1 : Has P w K mg base 3 "is_name" ["thing"] (spT (onStr nameB))) : FnOk P w K mg base CX0 4 f fd ["thing"] (spForm 5) := by
  refine F.ok sc_make_within (fun vs H Q E h => ?_) (fun cdv A outer s H vs Q E hr h => ?_)
  · obtain ⟨a, us, h, r, rfl, _⟩ := h
    rfl
  obtain ⟨a, us, h, r, rfl, ha, hr', q1, q2⟩ := h
  refine ⟨_, pss_one (ps_ret (pe_ifExp (PW.pt (pw_and (pt_chain op_le op_le pe_int (pe_callB call_len_seq rfl G.len PySem.boot_len (pa_cons (pv 0) pa_nil)) pe_int) (pw_and1 (pt_val (pcall h1 hr (by decide) rfl (pa_cons (pe_ix ix_tup (pv 0) pe_int (fun _ _ => rfl)) pa_nil))))))
    (pe_callTy call_list_of rfl G.list boot_list (pa_cons (pe_slice sl_tup (pv 0) (po_some pe_int) po_none) pa_nil)) pe_non)), ?_⟩
  have hl := hr'.length
  refine ts_and (c2 := hdB (onStr nameB) r) (ts_t (ev_chain ev_c (fun _ e => ev_lenT (K := K) (ev_var (σ := L2.start ["thing"] [.ref a]) rfl) (SqT.of (e _ _ ha))) fun _ _ => ev_c)) (fun c H1 e1 => ?_) _ fun H' e' => ?_
  · simp only [Bool.and_eq_true, decide_eq_true_eq] at c
    match r, hl, hr' with
    | [], hl, _ => simp at hl; omega
    | x :: r', hl, hr' => exact ts_b (ev_spT' (et_ix (i := 1) (ev_var rfl) (fun _ _ => ev_c) (e1 _ _ ha) (hr'.same e1) rfl))
  · refine ite2 (fun c => ?_) (fun c => ?_)
    · simp only [Bool.and_eq_true, decide_eq_true_eq] at c
      match r, hl, hr', c.2, q2 with
      | [], hl, _, _, _ => simp at hl; omega
      | x :: r', hl, hr', c2, q2 =>
        have z' : (lenIn 1 4 r' && onStr nameB x) = true := by
          have c2' : onStr nameB x = true := c2
          simp at hl
          rw [c2']
          simp [lenIn]
          omega
        exact ret_cut (n := 2) (ev_var rfl) (e' _ _ ha) (hr'.same e') (by simp) (by decide) ((q2 r' (by show (if _ = true then _ else _) = _; rw [if_pos z'])).same e')
    · refine q1 ?_ H' e'
      match r, hl, c with
      | [], _, _ => rfl
      | x :: r', hl, c =>
        have z' : ¬ (lenIn 1 4 r' && onStr nameB x) = true := fun z' => c (by
          simp [lenIn] at z'
          simp at hl
          show ((decide ((3 : Int) ≤ us.length) && decide ((us.length : Int) ≤ 6)) && onStr nameB x) = true
          rw [z'.2]
          simp
          omega)
        show (if _ = true then _ else _) = _
        rw [if_neg z']
theorem sc_is_function_form : FnScope ["thing"] ["thing"] (defScope s_is_function_form) := ⟨rfl, rfl, rfl, by decide +kernel, rfl, by decide +kernel, by decide +kernel⟩
theorem ok_is_function_form (F : Fun K "is_function_form" "is_function_form" s_is_function_form f fd) (h1 : Has P w K mg base 3 "is_name" ["thing"] (spT (onStr nameB))) (h2 : Has P w K mg base 1 "has_length" ["thing", "least", "most"] spHasLen) : FnOk P w K mg base CX0 4 f fd ["thing"] (spT funcB) := by
  refine F.ok sc_is_function_form (fun vs H Q E h => ?_) (fun cdv A outer s H vs Q E hr h => ?_)
  · obtain ⟨v, t, rfl, _⟩ := h
    rfl
  obtain ⟨v, t, rfl, rt, q⟩ := h
  refine ⟨_, pss_one (ps_ret (pe_and (pcall h2 hr (by decide) rfl (pa_cons (pv 0) (pa_cons pe_int (pa_cons pe_int pa_nil)))) (pe_and (pcall h1 hr (by decide) rfl (pa_cons (pe_ix ix_tup (pv 0) pe_int (fun _ _ => rfl)) pa_nil)) (pe_one (pcall h1 hr (by decide) rfl (pa_cons (pe_ix ix_tup (pv 0) pe_int (fun _ _ => rfl)) pa_nil)))))), ?_⟩
  refine ev_and (ev_hasLen 3 3 (et_ev (ev_var (i := 0) (σ := L2.start ["thing"] [v]) rfl) rt)) (c2 := n0B (onStr nameB) t && n1B (onStr nameB) t) (fun c H1 e1 => ?_) _ fun H' e' => ?_
  · cases rt with
    | int i => cases c
    | str z h => cases c
    | @tup a us ts h r =>
      have c' : lenIn 3 3 ts = true := c
      simp only [lenIn, Bool.and_eq_true, decide_eq_true_eq] at c'
      match ts, (show ts.length = 3 by omega), r with
      | [x, y, z], _, r => exact ev_and (ev_spT' (et_ix (i := 0) (ev_var rfl) (fun _ _ => ev_c) (e1 _ _ h) (r.same e1) rfl)) (fun _ H2 e2 => ev_spT' (et_ix (i := 1) (ev_var rfl) (fun _ _ => ev_c) ((e1.trans e2) _ _ h) (r.same (e1.trans e2)) rfl))
  · rw [funcB_eq]
    exact q H' e'
theorem sc_ring_within : FnScope ["thing"] ["thing"] (defScope s_ring_within) := ⟨rfl, rfl, rfl, by decide +kernel, rfl, by decide +kernel, by decide +kernel⟩
theorem func_at2 {x : T} (h : funcB x = true) : ∃ ts, x = .tup ts ∧ ts[2]? = some (at2 x) := by
  match x, h with
  | .tup [a, b, c], _ => exact ⟨_, rfl, rfl⟩
theorem ok_ring_within {g : Addr} (F : Fun K "ring_within" "ring_within" s_ring_within f fd) (G : Gb K mg) (hm : mg "is_function_form" = some (.ref g)) (h1 : Has P w K mg base 6 "is_list" ["thing", "least", "most", "fits"] (spList funcB g)) : FnOk P w K mg base CX0 7 f fd ["thing"] (spForm 3) := by
  refine F.ok sc_ring_within (fun vs H Q E h => ?_) (fun cdv A outer s H vs Q E hr h => ?_)
  · obtain ⟨a, us, h, r, rfl, _⟩ := h
    rfl
  obtain ⟨a, us, h, r, rfl, ha, hr', q1, q2⟩ := h
  refine ⟨_, pss_cons (ps_if (PW.pt (pw_or (pt_cmpR op_ne (pe_callB call_len_seq rfl G.len PySem.boot_len (pa_cons (pv 0) pa_nil)) pe_int (nomark _)) (pw_or1 (pt_not (pt_val (pcall h1 hr (by decide) rfl (pa_cons (pe_ix ix_tup (pv 0) pe_int (fun _ _ => rfl)) (pa_cons pe_int (pa_cons pe_int (pa_cons (pe_glob (v := .ref g) rfl hm rfl) pa_nil)))))))))) (pss_one (ps_ret pe_non)) pss_nil)
    (pss_one (ps_ret (pe_op op_cat (pe_lc (te := tOp (rIxT K) (tVar 0) (tC (.int 2))) (defScope s_ring_within) ["thing"] [] [] (by decide +kernel) (pi_tup (pe_ix ix_tup (pv 0) pe_int (fun _ _ => rfl))) (fun C s₀ H₀ ex => pts_nil) (fun C s₀ H₀ ex => pe_ix ix_tup (pv 0) pe_int (fun _ _ => rfl)))
      (pe_lst (pa_cons (pe_ix ix_tup (pv 0) pe_int (fun _ _ => rfl)) pa_nil))))), ?_⟩
  have hl := hr'.length
  have ev_ne : Ev (tOp rNe (tCB (fun xs H Q => ∃ p ys, xs = [.ref p] ∧ (SqL K H p ys ∨ SqT K H p ys) ∧ Q (.int ys.length) H) (tCons (tVar 0) tNil)) (tC (.int 3))) (L2.start ["thing"] [.ref a]) H (.bl (!decide ((us.length : Int) = 3))) :=
    ev_op (ev_lenT (ev_var rfl) (SqT.of ha)) (fun _ _ => ev_c) fun H' Q e q => ⟨rfl, by rw [dec_int, Bool.beq_eq_decide_eq]; exact q⟩
  refine st_if (ts_or (ts_t ev_ne) (c2 := !(hdB (isListT 1 4 funcB) r)) (fun c H1 e1 => ?_)) (fun c H1 e1 => ?_) (fun c H1 e1 => ?_)
  · have c1 : us.length = 3 := by simp at c; omega
    match r, (show r.length = 2 by simp at hl; omega), hr' with
    | [x, y], _, hr' => exact ts_not (ts_b (ev_list 1 4 (by decide) (et_ix (i := 1) (ev_var rfl) (fun _ _ => ev_c) (e1 _ _ ha) (hr'.same e1) rfl)))
  · refine q1 ?_ H1 e1
    match r, hl, c with
    | [], _, _ => rfl
    | [_], _, _ => rfl
    | [x, y], hl, c =>
      have z : ¬ isListT 1 4 funcB x = true := fun z => by
        have : us.length = 3 := by simp at hl; omega
        have c' : ((!decide ((us.length : Int) = 3)) || (!(isListT 1 4 funcB x))) = true := c
        rw [z, this] at c'
        cases c'
      show (if _ = true then _ else _) = _
      rw [if_neg z]
    | _ :: _ :: _ :: _, _, _ => rfl
  · have c1 : us.length = 3 ∧ hdB (isListT 1 4 funcB) r = true := by
      rw [Bool.or_eq_false_iff] at c
      simp at c
      exact ⟨by omega, c.2⟩
    match r, (show r.length = 2 by simp at hl; omega), hr', c1.2, q2 with
    | [.tup rows, y], _, hr', c2, q2 =>
      have c3 : isListT 1 4 funcB (.tup rows) = true := c2
      have c4 : (lenIn 1 4 rows && rows.all funcB) = true := c3
      simp only [lenIn, Bool.and_eq_true, decide_eq_true_eq, List.all_eq_true] at c4
      have q3 := q2 (rows.map at2 ++ [y]) (by show (if _ = true then _ else _) = _; rw [if_pos c3]; rfl)
      have hr1 := hr'.same e1
      refine et_ix (K := K) (i := 1) (ev_var rfl) (fun _ _ => ev_c) (e1 _ _ ha) hr1 rfl _ fun v H2 e2 rv => ?_
      cases rv with
      | @tup b ws _ hb rb =>
        refine ⟨b, rfl, ⟨ws, SqT.of hb⟩, ?_⟩
        have lb := rb.length
        refine comp_tup (xs := ws) (fun i vs H3 => Same H2 H3 ∧ Reps H3 vs ((rows.take i).map at2)) ⟨Same.refl _, .nil⟩ ?_ ?_ ?_
        · rintro i vs H3 hi ⟨e3, r3⟩
          refine ⟨SqT.of (e3 _ _ hb), small' ?_⟩
          rw [r3.length, List.length_map, List.length_take]
          omega
        · rintro i x vs H3 hi hx ⟨e3, r3⟩
          have hti : i < rows.length := by rw [← lb]; exact hi
          obtain ⟨v', k1, k2⟩ := rb.at_ (List.getElem?_eq_getElem hti)
          rw [hx] at k1
          cases k1
          obtain ⟨ts, k3, k4⟩ := func_at2 (c4.2 rows[i] (List.getElem_mem hti))
          refine tt1 (iteT ?_)
          have k5 := k2.same e3
          rw [k3] at k5
          cases k5 with
          | tup hx' rx' =>
            refine et_ix (K := K) (i := 2) (ev_var rfl) (fun _ _ => ev_c) hx' rx' k4 _ fun v4 H4 e4 r4 => nx hi ⟨e3.trans e4, ?_⟩
            rw [List.take_succ, List.getElem?_eq_getElem hti, Option.toList_some, List.map_append]
            exact (r3.same e4).append (.cons r4 .nil)
        · rintro vs H3 ⟨e3, r3⟩ l hl'
          rw [List.take_of_length_le (by omega)] at r3
          have e5 := same_new hl' (.lst vs)
          refine et_ix (K := K) (i := 2) (ev_var rfl) (fun _ _ => ev_c) (((e2.trans e3).trans e5) _ _ (e1 _ _ ha)) (hr1.same ((e2.trans e3).trans e5)) rfl _ fun v6 H6 e6 r6 => ⟨small (by show 1 ≤ 1000000; decide), fun p hp => ?_⟩
          have e7 := same_new hp (.lst [v6])
          refine ⟨l, p, vs, [v6], rfl, rfl, e7 _ _ (e6 _ _ upd_same), upd_same, small ?_, fun p2 hp2 => ?_⟩
          · rw [r3.length, List.length_map]
            show _ + 1 ≤ 1000000
            omega
          have e8 := same_new hp2 (.lst (vs ++ [v6]))
          have eall := ((((((e1.trans e2).trans e3).trans e5).trans e6).trans e7))
          exact q3 _ p2 _ (eall.trans e8) (eall.free hp2) upd_same (((r3.same (((e5.trans e6).trans e7).trans e8)).append (.cons (r6.same (e7.trans e8)) .nil)))
theorem arm_shape (t : T) : (hasLenT 2 2 t = true ∧ n0B (hasLenT 1 5) t = true → ∃ g ns e, t = .tup [.tup (g :: ns), e] ∧ ns.length ≤ 4) ∧ (¬ (hasLenT 2 2 t = true ∧ n0B (hasLenT 1 5) t = true) → armB t = false) := by
  constructor
  · rintro ⟨h1, h2⟩
    match t, h1, h2 with
    | .tup [x, e], _, h2 =>
      match x, h2 with
      | .tup [], h2 => cases h2
      | .tup (g :: ns), h2 =>
        have h3 : lenIn 1 5 (g :: ns) = true := h2
        simp [lenIn] at h3
        exact ⟨g, ns, e, rfl, h3⟩
    | .tup [], h1, _ => cases h1
    | .tup [_], h1, _ => cases h1
    | .tup (_ :: _ :: _ :: r), h1, _ =>
      have h3 : lenIn 2 2 (_ :: _ :: _ :: r) = true := h1
      simp [lenIn] at h3
  · intro h
    match t, h with
    | .int _, _ => rfl
    | .str _, _ => rfl
    | .tup [], _ => rfl
    | .tup [x], _ =>
      cases x with
      | tup l => cases l <;> rfl
      | _ => rfl
    | .tup [.int _, _], _ => rfl
    | .tup [.str _, _], _ => rfl
    | .tup [.tup [], _], _ => rfl
    | .tup [.tup (g :: ns), e], h =>
      have h4 : ¬ ns.length ≤ 4 := fun z => h ⟨rfl, by show lenIn 1 5 (g :: ns) = true; simp [lenIn]; omega⟩
      show (decide (ns.length ≤ 4) && _) = false
      rw [decide_eq_false h4]
      rfl
    | .tup (x :: _ :: _ :: _), _ =>
      cases x with
      | tup l => cases l <;> rfl
      | _ => rfl
theorem sc_is_arm_form : FnScope ["thing"] ["thing"] (defScope s_is_arm_form) := ⟨rfl, rfl, rfl, by decide +kernel, rfl, by decide +kernel, by decide +kernel⟩
theorem ok_is_arm_form {g : Addr} (F : Fun K "is_arm_form" "is_arm_form" s_is_arm_form f fd) (hm : mg "is_name" = some (.ref g)) (h1 : Has P w K mg base 2 "is_great" ["thing"] (spT (onStr greatB))) (h2 : Has P w K mg base 1 "has_length" ["thing", "least", "most"] spHasLen)
    (h3 : Has P w K mg base 4 "all_are" ["things", "fits"] (spAllAre (onStr nameB) g)) : FnOk P w K mg base CX0 5 f fd ["thing"] (spT armB) := by
  refine F.ok sc_is_arm_form (fun vs H Q E h => ?_) (fun cdv A outer s H vs Q E hr h => ?_)
  · obtain ⟨v, t, rfl, _⟩ := h
    rfl
  obtain ⟨v, t, rfl, rt, q⟩ := h
  refine ⟨_, pss_cons (ps_if (PW.pt (pw_or (pt_not (pt_val (pcall h2 hr (by decide) rfl (pa_cons (pv 0) (pa_cons pe_int (pa_cons pe_int pa_nil)))))) (pw_or1 (pt_not (pt_val (pcall h2 hr (by decide) rfl (pa_cons (pe_ix ix_tup (pv 0) pe_int (fun _ _ => rfl)) (pa_cons pe_int (pa_cons pe_int pa_nil))))))))) (pss_one (ps_ret pe_bl)) pss_nil)
    (pss_one (ps_ret (pe_and (pcall h1 hr (by decide) rfl (pa_cons (pe_ix ix_tup (pe_ix ix_tup (pv 0) pe_int (fun _ _ => rfl)) pe_int (fun _ _ => rfl)) pa_nil)) (pe_one (pcall h3 hr (by decide) rfl (pa_cons (pe_slice sl_tup (pe_ix ix_tup (pv 0) pe_int (fun _ _ => rfl)) (po_some pe_int) po_none) (pa_cons (pe_glob (v := .ref g) rfl hm rfl) pa_nil))))))), ?_⟩
  have sh := arm_shape t
  refine st_if (ts_or (ts_not (ts_b (ev_hasLen 2 2 (et_ev (ev_var (i := 0) (σ := L2.start ["thing"] [v]) rfl) rt)))) (c2 := !(n0B (hasLenT 1 5) t)) (fun c H1 e1 => ?_)) (fun c H1 e1 => ?_) (fun c H1 e1 => ?_)
  · have c1 : hasLenT 2 2 t = true := by simpa using c
    cases rt with
    | int i => cases c1
    | str z h => cases c1
    | @tup a us ts h r =>
      have c2 : lenIn 2 2 ts = true := c1
      simp only [lenIn, Bool.and_eq_true, decide_eq_true_eq] at c2
      match ts, (show ts.length = 2 by omega), r with
      | [x, y], _, r => exact ts_not (ts_b (ev_hasLen 1 5 (et_ix (i := 0) (ev_var rfl) (fun _ _ => ev_c) (e1 _ _ h) (r.same e1) rfl)))
  · have z : armB t = false := sh.2 fun ⟨z1, z2⟩ => by rw [z1, z2] at c; cases c
    rw [z] at q
    exact q H1 e1
  · rw [Bool.or_eq_false_iff] at c
    obtain ⟨gt, ns, e, rfl, hn⟩ := sh.1 ⟨by simpa using c.1, by simpa using c.2⟩
    cases rt with
    | @tup a us _ h r =>
      have r1 := r.same e1
      have t0 : ∀ H2, Same H1 H2 → EvT (tOp (rIxT K) (tVar 0) (tC (.int 0))) (L2.start ["thing"] [.ref a]) H2 (.tup (gt :: ns)) := fun H2 e2 => et_ix (i := 0) (ev_var rfl) (fun _ _ => ev_c) ((e1.trans e2) _ _ h) (r.same (e1.trans e2)) rfl
      refine ev_and (ev_spT' (et_ix' (i := 0) (t0 H1 (Same.refl _)) (fun _ _ => ev_c) rfl)) (fun _ H2 e2 => ev_allAre (ts := ns) (by omega) (et_cut' (n := 1) (t0 H2 e2) (by simp) (by decide))) _ fun H2 e2 => ?_
      have q' := q H2 (e1.trans e2)
      have z : armB (.tup [.tup (gt :: ns), e]) = (onStr greatB gt && ns.all (onStr nameB)) := by
        show (decide (ns.length ≤ 4) && _) = _
        rw [decide_eq_true hn, Bool.true_and]
      rw [z] at q'
      exact q'
theorem sc_case_within : FnScope ["thing"] ["thing"] (defScope s_case_within) := ⟨rfl, rfl, rfl, by decide +kernel, rfl, by decide +kernel, by decide +kernel⟩
theorem arm_at1 {x : T} (h : armB x = true) : ∃ ts, x = .tup ts ∧ ts[1]? = some (at1 x) := by
  match x, h with
  | .tup [.tup (g :: ns), e], _ => exact ⟨_, rfl, rfl⟩
theorem ok_case_within {g : Addr} (F : Fun K "case_within" "case_within" s_case_within f fd) (hm : mg "is_arm_form" = some (.ref g)) (h1 : Has P w K mg base 7 "is_list" ["thing", "least", "most", "fits"] (spList armB g)) : FnOk P w K mg base CX0 8 f fd ["thing"] (spForm 4) := by
  refine F.ok sc_case_within (fun vs H Q E h => ?_) (fun cdv A outer s H vs Q E hr h => ?_)
  · obtain ⟨a, us, h, r, rfl, _⟩ := h
    rfl
  obtain ⟨a, us, h, r, rfl, ha, hr', q1, q2⟩ := h
  refine ⟨_, pss_cons (ps_if (pt_not (pt_val (pcall h1 hr (by decide) rfl (pa_cons (pe_slice sl_tup (pv 0) (po_some pe_int) po_none) (pa_cons pe_int (pa_cons pe_int (pa_cons (pe_glob (v := .ref g) rfl hm rfl) pa_nil))))))) (pss_one (ps_ret pe_non)) pss_nil)
    (pss_one (ps_ret (pe_op op_cat (pe_lst (pa_cons (pe_ix ix_tup (pv 0) pe_int (fun _ _ => rfl)) pa_nil))
      (pe_lc (te := tOp (rIxT K) (tVar 0) (tC (.int 1))) (defScope s_case_within) ["thing"] [] [] (by decide +kernel) (pi_tup (pe_slice sl_tup (pv 0) (po_some pe_int) po_none)) (fun C s₀ H₀ ex => pts_nil) (fun C s₀ H₀ ex => pe_ix ix_tup (pv 0) pe_int (fun _ _ => rfl)))))), ?_⟩
  have hl := hr'.length
  refine st_if (ts_not (ts_b (ev_list 1 6 (by decide) (et_cut (n := 2) (ev_var (i := 0) (σ := L2.start ["thing"] [.ref a]) rfl) ha hr' (by simp) (by decide))))) (fun c H1 e1 => ?_) (fun c H1 e1 => ?_)
  · refine q1 ?_ H1 e1
    match r, c with
    | [], _ => rfl
    | e :: arms, c =>
      have z : ¬ (lenIn 1 6 arms && arms.all armB) = true := fun z => by
        have c' : (!(lenIn 1 6 arms && arms.all armB)) = true := c
        rw [z] at c'
        cases c'
      show (if _ = true then _ else _) = _
      rw [if_neg z]
  · match r, c, q2, hr', hl with
    | [], c, _, _, _ => cases c
    | y :: arms, c, q2, hr', hl =>
      have c3 : (lenIn 1 6 arms && arms.all armB) = true := by
        have c' : (!(lenIn 1 6 arms && arms.all armB)) = false := c
        simpa using c'
      have q3 := q2 (y :: arms.map at1) (by show (if _ = true then _ else _) = _; rw [if_pos c3])
      simp only [lenIn, Bool.and_eq_true, decide_eq_true_eq, List.all_eq_true] at c3
      have hr1 := hr'.same e1
      refine et_ix (K := K) (i := 1) (ev_var rfl) (fun _ _ => ev_c) (e1 _ _ ha) hr1 rfl _ fun v1 H2 e2 rv => ⟨small (by show 1 ≤ 1000000; decide), fun p hp => ?_⟩
      have e3 := same_new hp (.lst [v1])
      refine et_cut (K := K) (n := 2) (ev_var rfl) ((e2.trans e3) _ _ (e1 _ _ ha)) (hr1.same (e2.trans e3)) (by simp) (by decide) _ fun v4 H4 e4 r4 => ?_
      cases r4 with
      | @tup b ws _ hb rb =>
        have rb' : Reps H4 ws arms := rb
        refine ⟨b, rfl, ⟨ws, SqT.of hb⟩, ?_⟩
        have lb := rb'.length
        refine comp_tup (xs := ws) (fun i vs H5 => Same H4 H5 ∧ Reps H5 vs ((arms.take i).map at1)) ⟨Same.refl _, .nil⟩ ?_ ?_ ?_
        · rintro i vs H5 hi ⟨e5, r5⟩
          refine ⟨SqT.of (e5 _ _ hb), small' ?_⟩
          rw [r5.length, List.length_map, List.length_take]
          omega
        · rintro i x vs H5 hi hx ⟨e5, r5⟩
          have hti : i < arms.length := by rw [← lb]; exact hi
          obtain ⟨v', k1, k2⟩ := rb'.at_ (List.getElem?_eq_getElem hti)
          rw [hx] at k1
          cases k1
          obtain ⟨ts, k3, k4⟩ := arm_at1 (c3.2 arms[i] (List.getElem_mem hti))
          refine tt1 (iteT ?_)
          have k5 := k2.same e5
          rw [k3] at k5
          cases k5 with
          | tup hx' rx' =>
            refine et_ix (K := K) (i := 1) (ev_var rfl) (fun _ _ => ev_c) hx' rx' k4 _ fun v6 H6 e6 r6 => nx hi ⟨e5.trans e6, ?_⟩
            rw [List.take_succ, List.getElem?_eq_getElem hti, Option.toList_some, List.map_append]
            exact (r5.same e6).append (.cons r6 .nil)
        · rintro vs H5 ⟨e5, r5⟩ l hl'
          rw [List.take_of_length_le (by omega)] at r5
          have e6 := same_new hl' (.lst vs)
          refine ⟨p, l, [v1], vs, rfl, rfl, ((e4.trans e5).trans e6) _ _ upd_same, upd_same, small ?_, fun p2 hp2 => ?_⟩
          · rw [r5.length, List.length_map]
            show 1 + _ ≤ 1000000
            omega
          have e8 := same_new hp2 (.lst ([v1] ++ vs))
          have eall := (((((e1.trans e2).trans e3).trans e4).trans e5).trans e6)
          exact q3 _ p2 _ (eall.trans e8) (eall.free hp2) upd_same (.cons (rv.same ((((e3.trans e4).trans e5).trans e6).trans e8)) (r5.same (e6.trans e8)))
theorem sc_phrases_within : FnScope ["thing", "alone"] ["thing"] (defScope s_phrases_within) := ⟨rfl, rfl, rfl, by decide +kernel, rfl, by decide +kernel, by decide +kernel⟩
theorem forms_lookup (fn : Nat → Addr) (z : Str) : ∀ l : List (Str × Nat), (l.map fun p => (p.1, V.ref (fn p.2))).lookup z = (l.lookup z).map fun n => V.ref (fn n)
  | [] => rfl
  | (x, n) :: r => by
    rw [List.map_cons, List.lookup_cons, List.lookup_cons, forms_lookup fn z r]
    cases z == x <;> rfl
theorem kidsP_head (h : T) (r : List T) : kidsP (.tup (h :: r)) = match h with
    | .str z => if greatB z = true then (if lenIn 1 4 r = true then some r else none) else (match formOf z with | some n => kidsF n r | none => none)
    | _ => none := by
  cases h <;> rfl
theorem kidsP_str (z : Str) (r : List T) : kidsP (.tup (.str z :: r)) = if greatB z = true then (if lenIn 1 4 r = true then some r else none) else (match formOf z with | some n => kidsF n r | none => none) := rfl
def aloneT (t : T) : Bool := numT t || (onStr nameB t || (onStr pathB t || onStr greatB t))
theorem ok_phrases_within {fn : Nat → Addr} {df : Addr} (F : Fun K "phrases_within" "phrases_within" s_phrases_within f fd) (G : Gb K mg) (hd : mg "PHRASE_FORMS" = some (.ref df)) (D : StrDict K w df (formsL.map fun p => (p.1, V.ref (fn p.2))))
    (hf : ∀ n, n ≤ 6 → ∃ gd, FnOk P w K mg base CX0 8 (fn n) gd ["thing"] (spForm n) ∧ Binds K gd ["thing"] [] ∧ PySem.W.keepIn K (.ref (fn n)) = true)
    (h1 : Has P w K mg base 2 "is_number" ["thing"] (spT numT)) (h2 : Has P w K mg base 3 "is_name" ["thing"] (spT (onStr nameB))) (h3 : Has P w K mg base 4 "is_path" ["thing"] (spT (onStr pathB))) (h4 : Has P w K mg base 2 "is_great" ["thing"] (spT (onStr greatB))) :
    FnOk P w K mg base CX0 9 f fd ["thing"] (spWithin kidsP) := by
  refine F.ok sc_phrases_within (fun vs H Q E h => ?_) (fun cdv A outer s H vs Q E hr h => ?_)
  · obtain ⟨v, t, rfl, _⟩ := h
    rfl
  obtain ⟨v, t, rfl, rt, q1, q2⟩ := h
  refine ⟨_, pss_cons (ps_if (pt_not (pt_val (pe_callB call_isi rfl G.isi boot_isinstance (pa_cons (pv 0) (pa_cons (pe_bltn (v := .ty "tuple") rfl G.tuple boot_tuple rfl) pa_nil)))))
      (pss_cons (ps_set (i := 1) sc_phrases_within.nd rfl (Or.inl rfl) (pe_or (pcall h1 hr (by decide) rfl (pa_cons (pv 0) pa_nil)) (pe_or (pcall h2 hr (by decide) rfl (pa_cons (pv 0) pa_nil)) (pe_or (pcall h3 hr (by decide) rfl (pa_cons (pv 0) pa_nil)) (pe_one (pcall h4 hr (by decide) rfl (pa_cons (pv 0) pa_nil)))))))
        (pss_one (ps_ret (pe_ifExp (pt_val (pv 1)) (pe_lst pa_nil) pe_non)))) pss_nil)
    (pss_cons (ps_if (PW.pt (pw_or (pt_cmpR op_eq (pe_callB call_len_seq rfl G.len PySem.boot_len (pa_cons (pv 0) pa_nil)) pe_int (nomark _)) (pw_or1 (pt_not (pt_val (pe_callB call_isi rfl G.isi boot_isinstance (pa_cons (pe_ix ix_tup (pv 0) pe_int (fun _ _ => rfl)) (pa_cons (pe_bltn (v := .ty "str") rfl G.str boot_str rfl) pa_nil))))))))
      (pss_one (ps_ret pe_non)) pss_nil)
    (pss_cons (ps_if (pt_val (pcall h4 hr (by decide) rfl (pa_cons (pe_ix ix_tup (pv 0) pe_int (fun _ _ => rfl)) pa_nil)))
      (pss_one (ps_ret (pe_ifExp (pt_chain op_le op_le pe_int (pe_callB call_len_seq rfl G.len PySem.boot_len (pa_cons (pv 0) pa_nil)) pe_int) (pe_callTy call_list_of rfl G.list boot_list (pa_cons (pe_slice sl_tup (pv 0) (po_some pe_int) po_none) pa_nil)) pe_non))) pss_nil)
    (pss_cons (ps_if (pt_cmpR op_in_dict (pe_ix ix_tup (pv 0) pe_int (fun _ _ => rfl)) (pe_glob (v := .ref df) rfl hd rfl) (by with_unfolding_all rfl))
      (pss_one (ps_ret (pe_callE (E := E0) (fun f sp => ∃ n, n ≤ 6 ∧ f = fn n ∧ sp = spForm n) (fun f sp ⟨n, hn, e1, e2⟩ => by
          subst e1 e2
          obtain ⟨gd, k1, k2, k3⟩ := hf n hn
          exact ⟨8, gd, ["thing"], k1, hr, k3, k2⟩) (pe_ix ix_dict (pe_glob (v := .ref df) rfl hd rfl) (pe_ix ix_tup (pv 0) pe_int (fun _ _ => rfl)) (fun _ _ => rfl)) pass0 (pa_cons (pv 0) pa_nil)))) pss_nil)
    (pss_one (ps_ret pe_non))))), ?_⟩
  refine st_if (ts_not (ts_b (ev_isi (ev_var (i := 0) rfl) rt (kit_tup K)))) (fun c H1 e1 => ?_) (fun c H1 e1 => ?_)
  · -- no tuple
    refine ev_or (ev_spT (ev_var rfl) (rt.same e1)) (fun _ H2 e2 => ev_or (ev_spT (ev_var rfl) (rt.same (e1.trans e2))) (fun _ H3 e3 => ev_or (ev_spT (ev_var rfl) (rt.same (e1.trans (e2.trans e3))))
      (fun _ H4 e4 => ev_spT (ev_var rfl) (rt.same (e1.trans (e2.trans (e3.trans e4))))))) _ fun H5 e5 => ?_
    have tail : ∀ (c : Bool), (c = true → kidsP t = some []) → (c = false → kidsP t = none) → tIf (tB (tVar 1)) (tLst tNil) (tC .non) [some v, some (.bl c)] H5 Q := fun c k1 k2 => by
      cases c with
      | true => exact ⟨_, rfl, _, rfl, iteT ⟨small (by show 0 ≤ 1000000; decide), fun l hl => q2 [] (k1 rfl) _ l [] ((e1.trans e5).trans (same_new hl _)) ((e1.trans e5).free hl) upd_same .nil⟩⟩
      | false => exact ⟨_, rfl, _, rfl, iteF (q1 (k2 rfl) _ (e1.trans e5))⟩
    cases t with
    | int i =>
      refine tail _ (fun z => ?_) (fun z => ?_)
      · have z' : (numT (.int i) || (false || (false || false))) = true := z
        have z2 : numT (.int i) = true := by simpa using z'
        show (if _ = true then _ else _) = _
        rw [if_pos z2]
      · have z' : (numT (.int i) || (false || (false || false))) = false := z
        have z2 : ¬ numT (.int i) = true := by simpa using z'
        show (if _ = true then _ else _) = _
        rw [if_neg z2]
    | tup ts => cases c
    | str x =>
      refine tail _ (fun z => ?_) (fun z => ?_)
      · have z' : leafPB x = true := z
        show (if _ = true then _ else _) = _
        rw [if_pos z']
      · have z' : ¬ leafPB x = true := by
          have z2 : leafPB x = false := z
          rw [z2]
          exact Bool.false_ne_true
        show (if _ = true then _ else _) = _
        rw [if_neg z']
  · -- a tuple
    cases rt with
    | int i => cases c
    | str z h => cases c
    | @tup a us ts ha hr' =>
      have hl := hr'.length
      have at0 : ∀ {H2 : Hp} {o : Option V} {h : T} {r : List T}, Same H1 H2 → ts = h :: r → EvT (tOp (rIxT K) (tVar 0) (tC (.int 0))) [some (.ref a), o] H2 h := fun {H2 o h r} e2 hts => by
        subst hts
        exact et_ix (i := 0) (ev_var rfl) (fun _ _ => ev_c) ((e1.trans e2) _ _ ha) (hr'.same (e1.trans e2)) rfl
      refine st_if (ts_or (ts_t (ev_eqI (ev_lenT (ev_var rfl) (SqT.of (e1 _ _ ha))) fun _ _ => ev_c)) (c2 := !(hdB isStrT ts)) (fun c3 H2 e2 => ?_)) (fun c3 H2 e2 => ?_) (fun c3 H2 e2 => ?_)
      · cases hts : ts with
        | nil => rw [hts] at hl; simp at c3; exact absurd hl (by simpa using c3)
        | cons h r =>
          refine ts_not (ts_b ?_)
          exact fun Q q => at0 e2 hts _ fun v H3 e3 r3 => ⟨v, _, "str", _, rfl, rep_ty r3, kit_str K h, q H3 e3⟩
      · refine q1 ?_ H2 (e1.trans e2)
        cases hts : ts with
        | nil => rfl
        | cons h r =>
          rw [hts] at c3 hl
          have z : isStrT h = false := by
            have c4 : (decide ((us.length : Int) = 0) || (!(isStrT h))) = true := c3
            have : ¬ (us.length : Int) = 0 := by simp at hl; omega
            rw [decide_eq_false this, Bool.false_or] at c4
            simpa using c4
          cases h with
          | int i => rfl
          | str x => cases z
          | tup l => rfl
      · cases hts : ts with
        | nil => rw [hts] at hl c3; rw [hl] at c3; cases c3
        | cons h r =>
          rw [hts] at c3 hl
          have z : isStrT h = true := by
            rw [Bool.or_eq_false_iff] at c3
            have := c3.2
            simpa [hdB] using this
          cases h with
          | int i => cases z
          | tup l => cases z
          | str x =>
            rw [hts] at q1 q2
            have hr2 : Reps H us (.str x :: r) := by rw [hts] at hr'; exact hr'
            have g2 := e1.trans e2
            refine st_if (ts_b (ev_spT' (at0 e2 hts))) (fun c4 H3 e3 => ?_) (fun c4 H3 e3 => ?_)
            · have c5 : greatB x = true := c4
              have g3 := g2.trans e3
              refine ts_t (ev_chain ev_c (fun _ e => ev_lenT (K := K) (ev_var (i := 0) rfl) (SqT.of ((g3.trans e) _ _ ha))) fun _ _ => ev_c) _ fun H4 e4 => ?_
              have g4 := g3.trans e4
              refine ite2 (fun c6 => ?_) (fun c6 => ?_)
              · have c7 : lenIn 1 4 r = true := by
                  simp at c6 hl
                  simp [lenIn]
                  omega
                have k : kidsP (.tup (.str x :: r)) = some r := by rw [kidsP_str, if_pos c5, if_pos c7]
                exact ret_cut (n := 1) (ts := .str x :: r) (ev_var rfl) (g4 _ _ ha) (hr2.same g4) (by simp) (by decide) ((show Ret H Q r from q2 r k).same g4)
              · have c7 : ¬ lenIn 1 4 r = true := fun z => c6 (by
                  simp [lenIn] at z
                  simp at hl
                  simp
                  omega)
                exact q1 (by rw [kidsP_str, if_pos c5, if_neg c7]) H4 g4
            · have c5 : ¬ greatB x = true := by
                have c5' : greatB x = false := c4
                rw [c5']
                exact Bool.false_ne_true
              have g3 := g2.trans e3
              have tin : Tst (tTest (tOp (fun x y H Q => ∃ z a fs, x = .str z ∧ y = .ref a ∧ StrDict K w a fs ∧ Q (.bl (fs.lookup z).isSome) H) (tOp (rIxT K) (tVar 0) (tC (.int 0))) (tC (.ref df)))) [some (.ref a), none] H3 (formOf x).isSome := by
                refine ts_t fun Q q => at0 (e2.trans e3) hts _ fun v H4 e4 r4 => ?_
                cases r4 with
                | str _ hx =>
                  refine ⟨x, df, _, rfl, rfl, D, ?_⟩
                  rw [forms_lookup, Option.isSome_map]
                  exact q H4 e4
              refine st_if tin (fun c6 H4 e4 => ?_) (fun c6 H4 e4 => ?_)
              · have g4 := g3.trans e4
                obtain ⟨n, hn⟩ := Option.isSome_iff_exists.mp c6
                have hn6 : n ≤ 6 := by
                  have : ∀ p ∈ formsL, p.2 ≤ 6 := by decide +kernel
                  exact this (x, n) (mem_of_lookup' hn)
                refine at0 ((e2.trans e3).trans e4) hts _ fun v H5 e5 r5 => ?_
                cases r5 with
                | str _ hx =>
                  have g5 := g4.trans e5
                  refine ⟨x, df, _, V.ref (fn n), rfl, rfl, D, ?_, fn n, spForm n, rfl, ⟨n, hn6, rfl, rfl⟩, _, rfl, a, us, .str x, r, rfl, g5 _ _ ha, hr2.same g5, fun k H6 e6 => ?_, fun l k => ?_⟩
                  · rw [forms_lookup]
                    show (formOf x).map _ = _
                    rw [hn]
                    rfl
                  · exact q1 (by rw [kidsP_str, if_neg c5, hn]; exact k) H6 (g5.trans e6)
                  · exact (show Ret H Q l from q2 l (by rw [kidsP_str, if_neg c5, hn]; exact k)).same g5
              · have hn : formOf x = none := by simpa using c6
                exact q1 (by rw [kidsP_str, if_neg c5, hn]) H4 (g3.trans e4)
theorem sc_is_phrase : FnScope ["thing"] ["thing"] (defScope s_is_phrase) := ⟨rfl, rfl, rfl, by decide +kernel, rfl, by decide +kernel, by decide +kernel⟩
theorem ok_is_phrase {g : Addr} (F : Fun K "is_phrase" "is_phrase" s_is_phrase f fd) (hm : mg "phrases_within" = some (.ref g)) (h1 : Has P w K mg base 10 "all_fit" ["thing", "within"] (spAllFit kidsP g)) : FnOk P w K mg base CX0 11 f fd ["thing"] (spFits kidsP) := by
  refine F.ok sc_is_phrase (fun vs H Q E h => ?_) (fun cdv A outer s H vs Q E hr h => ?_)
  · obtain ⟨v, t, b, rfl, _⟩ := h
    rfl
  obtain ⟨v, t, b, rfl, h⟩ := h
  refine ⟨_, pss_one (ps_ret (pcall h1 hr (by decide) rfl (pa_cons (pv 0) (pa_cons (pe_glob (v := .ref g) rfl hm rfl) pa_nil)))), ?_⟩
  exact ⟨_, rfl, v, t, b, rfl, h⟩
end
end Fw

set_option Elab.async false
set_option linter.all false
set_option maxRecDepth 100000
namespace Fw
open PySem PySem.Spec PyProof.Rows L2
/-! ### two lists that change: the draws, and a count -/
def LfOk (H : Hp) (lf : Addr) : Prop := ∃ i : Int, H lf = some (.lst [.int i])
structure D2 (st lf : Addr) (H : Hp) : Prop where
  ne : st ≠ lf
  st : StOk H st
  lf : LfOk H lf
def Grow2 (st lf : Addr) (H H' : Hp) : Prop := (∀ b o, b ≠ st → b ≠ lf → H b = some o → H' b = some o) ∧ D2 st lf H'
section
variable {st lf : Addr} {H H' H1 H2 : Hp}
theorem Grow2.refl (d : D2 st lf H) : Grow2 st lf H H := ⟨fun _ _ _ _ e => e, d⟩
theorem Grow2.trans (a : Grow2 st lf H H1) (b : Grow2 st lf H1 H2) : Grow2 st lf H H2 := ⟨fun c o h1 h2 e => b.1 c o h1 h2 (a.1 c o h1 h2 e), b.2⟩
theorem g2_of (d : D2 st lf H) (g : Grow st H H') : Grow2 st lf H H' := ⟨fun b o h1 _ e => g.1 b o h1 e, d.ne, g.ok, by
  obtain ⟨i, e⟩ := d.lf
  exact ⟨i, g.1 _ _ (Ne.symm d.ne) e⟩⟩
theorem g2_same (d : D2 st lf H) (e : Same H H') : Grow2 st lf H H' := g2_of d (grow_same d.st e)
theorem g2_new {p : Addr} {o : HO} (d : D2 st lf H) (hp : H p = none) : Grow2 st lf H (upd H p o) := g2_same d (same_new hp o)
theorem D2.ne_tup {b : Addr} {xs : List V} (d : D2 st lf H) (e : H b = some (.tup xs)) : b ≠ st ∧ b ≠ lf := by
  obtain ⟨i, h⟩ := d.lf
  exact ⟨d.st.ne_tup e, ne_of e h (by intro z; cases z)⟩
theorem D2.fresh {l : Addr} (d : D2 st lf H) (h : H l = none) : l ≠ st ∧ l ≠ lf := by
  obtain ⟨i, h1⟩ := d.lf
  obtain ⟨ns, _, _, h2⟩ := d.st
  exact ⟨fun z => (by rw [z, h2] at h; cases h), fun z => (by rw [z, h1] at h; cases h)⟩
theorem Grow2.tups (g : Grow2 st lf H H') (d : D2 st lf H) : ∀ b xs, H b = some (.tup xs) → H' b = some (.tup xs) := fun b xs e => g.1 b _ (d.ne_tup e).1 (d.ne_tup e).2 e
theorem Rep.grow2 {v : V} {t : T} (r : Rep H v t) (g : Grow2 st lf H H') (d : D2 st lf H) : Rep H' v t := r.mono (g.tups d)
theorem Reps.grow2 {vs : List V} {ts : List T} (r : Reps H vs ts) (g : Grow2 st lf H H') (d : D2 st lf H) : Reps H' vs ts := r.mono (g.tups d)
/-- the count was made for the call -/
theorem to_grow {i : Int} (hs : StOk H st) (hn : H lf = none) (g : Grow2 st lf (upd H lf (.lst [.int i])) H') : Grow st H H' := ⟨fun b o hb e => g.1 b o hb (ne_of_none e hn) (by rw [upd_ne (ne_of_none e hn)]; exact e), g.2.st⟩
theorem d2_new {i : Int} (hs : StOk H st) (hn : H lf = none) : D2 st lf (upd H lf (.lst [.int i])) := by
  obtain ⟨ns, h1, h2, h3⟩ := id hs
  have hne : st ≠ lf := ne_of_none h3 hn
  exact ⟨hne, hs.same (same_new hn _), i, upd_same⟩
end
/-! ### phrases -/
def BP : Nat → Nat
  | 0 => 1
  | n + 1 => 60 + 8 * BP n
theorem BP_pos : ∀ n, 1 ≤ BP n
  | 0 => Nat.le_refl 1
  | n + 1 => by show 1 ≤ 60 + 8 * BP n; omega
abbrev GoodP := Good kidsP
def spLeaf : Sp := fun vs H Q _ => ∃ (st : Addr) (w : Int), vs = [.ref st, .int w] ∧ StOk H st ∧ 0 ≤ w ∧ w < 4 ∧ ∀ v t H', GoodP t → Rep H' v t → t.sz ≤ 1 → Grow st H H' → Q v H'
def spPhrase (n : Nat) : Sp := fun vs H Q _ => ∃ (st lf : Addr), vs = [.ref st, .int n, .ref lf] ∧ D2 st lf H ∧ ∀ v t H', GoodP t → Rep H' v t → t.sz ≤ BP n → Grow2 st lf H H' → Q v H'
def spPhraseN : Nat → Sp
  | 0 => fun _ _ _ _ => False
  | n + 1 => spPhrase n
def spSomeN : Nat → Sp
  | 0 => fun _ _ _ _ => False
  | n + 1 => fun vs H Q _ => ∃ (st lf : Addr) (m : Nat), vs = [.ref st, .int (n + 1 : Nat), .ref lf, .int m] ∧ D2 st lf H ∧ 1 ≤ m ∧ m ≤ 6 ∧
    ∀ a us ts H', H' a = some (.tup us) → Reps H' us ts → ts.length = m → (∀ t ∈ ts, GoodP t) → szs ts ≤ m * BP n → Grow2 st lf H H' → Q (.ref a) H'
def spFormN : Nat → Sp
  | 0 => fun _ _ _ _ => False
  | n + 1 => fun vs H Q _ => ∃ (st lf : Addr), vs = [.ref st, .int (n + 1 : Nat), .ref lf] ∧ D2 st lf H ∧ ∀ v t H', GoodP t → Rep H' v t → t.sz ≤ BP (n + 1) → Grow2 st lf H H' → Q v H'
theorem goodP_str {z : Str} (h : leafPB z = true) : GoodP (.str z) := .mk (l := []) (by show (if _ = true then _ else _) = _; rw [if_pos h]) (fun _ hk => by cases hk)
theorem goodP_int {i : Int} (h0 : -(10 ^ 30) < i) (h1 : i < 10 ^ 30) : GoodP (.int i) := .mk (l := []) (by
  have z : numT (.int i) = true := by
    show decide ((if i < 0 then -i else i) < 10 ^ 30) = true
    refine decide_eq_true ?_
    split <;> omega
  show (if _ = true then _ else _) = _
  rw [if_pos z]) (fun _ hk => by cases hk)
theorem goodP_great {z : Str} {ts : List T} (hz : greatB z = true) (h1 : 1 ≤ ts.length) (h4 : ts.length ≤ 4) (hg : ∀ t ∈ ts, GoodP t) : GoodP (.tup (.str z :: ts)) := .mk (l := ts) (by
  rw [kidsP_str, if_pos hz, if_pos (by simp [lenIn]; omega)]) hg
theorem forms_closed : greatB "fun" = false ∧ greatB "call" = false ∧ greatB "let" = false ∧ greatB "ring" = false ∧ greatB "case" = false ∧ greatB "make" = false ∧ greatB "pick" = false ∧ greatB "plus" = false ∧ greatB "minus" = false ∧ greatB "times" = false ∧ greatB "less" = false ∧ greatB "if" = false := by decide +kernel
theorem kids_form {z : Str} {r : List T} {n : Nat} (hz : greatB z = false) (hf : formOf z = some n) : kidsP (.tup (.str z :: r)) = kidsF n r := by
  rw [kidsP_str, if_neg (by rw [hz]; exact Bool.false_ne_true), hf]
theorem goodP_form {z : Str} {r l : List T} {n : Nat} (hz : greatB z = false) (hf : formOf z = some n) (hk : kidsF n r = some l) (hg : ∀ t ∈ l, GoodP t) : GoodP (.tup (.str z :: r)) := .mk (by rw [kids_form hz hf]; exact hk) hg
theorem badP_form {z : Str} {r : List T} {n : Nat} (hz : greatB z = false) (hf : formOf z = some n) (hk : kidsF n r = none) : Bad kidsP (.tup (.str z :: r)) := .none (by rw [kids_form hz hf]; exact hk)
theorem badP_kid {z : Str} {r l : List T} {n : Nat} {k : T} (hz : greatB z = false) (hf : formOf z = some n) (hk : kidsF n r = some l) (hm : k ∈ l) (hb : Bad kidsP k) : Bad kidsP (.tup (.str z :: r)) := .kid (by rw [kids_form hz hf]; exact hk) hm hb
theorem name_on {z : Str} (h : nameB z = true) : onStr nameB (.str z) = true := h
theorem leafP_name {z : Str} (h : nameB z = true) : leafPB z = true := by unfold leafPB; rw [h]; rfl
theorem leafP_path {z : Str} (h : pathB z = true) : leafPB z = true := by unfold leafPB; rw [h]; simp
theorem leafP_great {z : Str} (h : greatB z = true) : leafPB z = true := by unfold leafPB; rw [h]; simp
theorem cat_fin {K : PySem.W.Frag} {st lf p a : Addr} {hv us : List V} {hts ts : List T} {H1 H3 : Hp} {Q : VK} (hp : H1 p = some (.tup hv)) (rp : Reps H1 hv hts) (hn : hv ≠ []) (d1 : D2 st lf H1) (g : Grow2 st lf H1 H3) (ha : H3 a = some (.tup us)) (ra : Reps H3 us ts)
    (hl : 1 ≤ ts.length) (hb : hv.length + ts.length ≤ 1000) (q : ∀ p' H', Rep H' (.ref p') (.tup (hts ++ ts)) → Grow2 st lf H3 H' → Q (.ref p') H') : rCatT K (.ref p) (.ref a) H3 Q := by
  have lu := ra.length
  refine ⟨p, a, hv, us, rfl, rfl, SqT.of (g.tups d1 _ _ hp), SqT.of ha, hn, small (by omega), fun e => ?_, fun _ p' hp' => ?_⟩
  · rw [e] at lu
    simp at lu
    omega
  · exact q p' _ (.tup upd_same ((rp.grow2 g d1).append ra |>.same (same_new hp' _))) (g2_new g.2 hp')
section
variable {P : Program} {w : World} {K : PySem.W.Frag} {mg : Str → Option Value} {base : Heap} {f : Addr} {fd : FuncData}
abbrev s_leaf : Stmt := top 39
abbrev s_some : Stmt := top 40
abbrev s_ring : Stmt := top 41
abbrev s_case : Stmt := top 42
abbrev s_phrase : Stmt := top 43
theorem sc_leaf : FnScope ["_law_state", "_law_way"] ["_law_state", "_law_way"] (defScope s_leaf) := ⟨rfl, rfl, rfl, by decide +kernel, rfl, by decide +kernel, by decide +kernel⟩
theorem ok_leaf (F : Fun K "_law_leaf" "_law_leaf" s_leaf f fd) (h1 : Has P w K mg base 2 "_law_number" ["_law_state"] spInt) (h2 : Has P w K mg base 3 "_law_small" ["_law_state"] (spStr fun z => nameB z = true)) (h3 : Has P w K mg base 4 "_law_path" ["_law_state"] (spStr fun z => pathB z = true))
    (h4 : Has P w K mg base 3 "_law_great" ["_law_state"] (spStr fun z => greatB z = true)) : FnOk P w K mg base CX0 5 f fd ["_law_state", "_law_way"] spLeaf := by
  refine F.ok sc_leaf (fun vs H Q E h => ?_) (fun cdv A outer s H vs Q E hr h => ?_)
  · obtain ⟨st, w, rfl, _⟩ := h
    rfl
  obtain ⟨st, wy, rfl, hs, w0, w1, q⟩ := h
  refine ⟨_, pss_cons (ps_if (pt_cmpR op_eq (pv 1) pe_int (nomark _)) (pss_one (ps_ret (pcall h1 hr (by decide) rfl (pa_cons (pv 0) pa_nil)))) pss_nil)
    (pss_one (ps_ret (pe_ix ix_list (pe_lst (pa_cons (pcall h2 hr (by decide) rfl (pa_cons (pv 0) pa_nil)) (pa_cons (pcall h3 hr (by decide) rfl (pa_cons (pv 0) pa_nil)) (pa_cons (pcall h4 hr (by decide) rfl (pa_cons (pv 0) pa_nil)) pa_nil)))) (pe_op op_sub (pv 1) pe_int) (fun _ _ => rfl)))), ?_⟩
  refine st_if (ts_t (ev_eqI (ev_var (i := 1) rfl) fun _ _ => ev_c)) (fun c H1 e1 => ?_) (fun c H1 e1 => ?_)
  · have g1 := grow_same hs e1
    exact ⟨_, rfl, st, rfl, g1.ok, fun i H2 i0 i1 g2 => q _ (.int i) H2 (goodP_int i0 i1) (.int i) (Nat.le_refl _) (g1.trans g2)⟩
  · have c1 : ¬ wy = 0 := of_decide_eq_false c
    have g1 := grow_same hs e1
    refine ⟨_, rfl, st, rfl, g1.ok, fun z1 H2 hz1 lz1 g2 => ⟨_, rfl, st, rfl, g2.ok, fun z2 H3 hz2 lz2 g3 => ⟨_, rfl, st, rfl, g3.ok, fun z3 H4 hz3 lz3 g4 => ⟨small (by show 3 ≤ 1000000; decide), fun p hp => ?_⟩⟩⟩⟩
    have g5 : Grow st H4 (upd H4 p (.lst [.str z1, .str z2, .str z3])) := grow_new g4.ok hp
    obtain ⟨v, hv, hm⟩ := at_any (xs := [V.str z1, .str z2, .str z3]) (d := wy - 1) (by omega) (by simp; omega)
    refine ⟨_, rfl, wy, 1, rfl, rfl, p, _, wy - 1, v, rfl, rfl, SqL.of upd_same, hv, ?_⟩
    have gg := (((g1.trans g2).trans g3).trans g4).trans g5
    have fin : ∀ z : Str, leafPB z = true → z.length ≤ 100 → Q (.str z) (upd H4 p (.lst [.str z1, .str z2, .str z3])) := fun z hz lz => q _ (.str z) _ (goodP_str hz) (.str z (by omega)) (Nat.le_refl _) gg
    simp only [List.mem_cons, List.not_mem_nil, or_false] at hm
    rcases hm with rfl | rfl | rfl
    · exact fin _ (leafP_name hz1) lz1
    · exact fin _ (leafP_path hz2) lz2
    · exact fin _ (leafP_great hz3) lz3
theorem sc_some : FnScope ["_law_state", "_law_deep", "_law_left", "_law_many"] ["_law_state", "_law_deep", "_law_left", "_law_many"] (defScope s_some) := ⟨rfl, rfl, rfl, by decide +kernel, rfl, by decide +kernel, by decide +kernel⟩
theorem ok_some {n : Nat} (F : Fun K "_law_some" "_law_some" s_some f fd) (mr : mg "range" = none) (mt : mg "tuple" = none) (h1 : Has P w K mg base (6 + 3 * n) "_law_phrase" ["_law_state", "_law_deep", "_law_left"] (spPhraseN n)) :
    FnOk P w K mg base CX0 (7 + 3 * n) f fd ["_law_state", "_law_deep", "_law_left", "_law_many"] (spSomeN n) := by
  have e7 : 7 + 3 * n = (6 + 3 * n) + 1 := by omega
  rw [e7]
  refine F.ok sc_some (fun vs H Q E h => ?_) (fun cdv A outer s H vs Q E hr h => ?_)
  · cases n with
    | zero => exact h.elim
    | succ n =>
      obtain ⟨st, lf, m, rfl, _⟩ := h
      rfl
  cases n with
  | zero => exact h.elim
  | succ n =>
    obtain ⟨st, lf, m, rfl, d, m1, m6, q⟩ := h
    refine ⟨_, pss_one (ps_ret (pe_callTy call_tuple_of rfl mt boot_tuple (pa_cons (pe_lc (defScope s_some) ["_law_state", "_law_deep", "_law_left", "_law_many"] ["_law_state", "_law_deep", "_law_left"] [0, 1, 2] (by decide +kernel) (pi_range1 rfl mr (pa_cons (pv 3) pa_nil)) (fun C s₀ H₀ ex => pts_nil)
      (fun C s₀ H₀ ex => pcall h1 hr (Nat.le_refl _) rfl (pa_cons (pv 1) (pa_cons (pe_op op_sub (pv 2) pe_int) (pa_cons (pv 3) pa_nil))))) pa_nil))), ?_⟩
    refine ⟨_, rfl, m, rfl, by omega, by omega, ?_⟩
    have em : (((n + 1 : Nat) : Int) - 1) = (n : Int) := by omega
    refine comp_range (n := (m : Int).toNat) (fun i vs H' => Grow2 st lf H H' ∧ ∃ ts, Reps H' vs ts ∧ ts.length = i ∧ (∀ t ∈ ts, GoodP t) ∧ szs ts ≤ i * BP n) ⟨Grow2.refl d, [], .nil, rfl, (fun _ h => by cases h), by simp [szs]⟩ ?_ ?_ ?_
    · rintro i vs H' hi ⟨g, ts, hr1, hl, _⟩
      exact small' (by rw [hr1.length, hl]; omega)
    · rintro i vs H' hi ⟨g, ts, hr1, hl, hg, hb⟩
      have rec_ : ∀ (H3 : Hp) (Q3 : VK), D2 st lf H3 → (∀ v t H', GoodP t → Rep H' v t → t.sz ≤ BP n → Grow2 st lf H3 H' → Q3 v H') → spPhraseN (n + 1) ([V.ref st, .int (((n + 1 : Nat) : Int) - 1), .ref lf] ++ []) H3 Q3 E0 := fun H3 Q3 h3 q3 => by
        rw [em]
        exact ⟨st, lf, rfl, h3, q3⟩
      refine tt1 (iteT ⟨_, rfl, _, rfl, _, _, rfl, rfl, _, rfl, ?_⟩)
      refine rec_ H' _ g.2 (fun v1 t1 H2 k1 r1 b1 g2 => nx hi ⟨g.trans g2, ts ++ [t1], (hr1.grow2 g2 g.2).append (.cons r1 .nil), by simp [hl], fun t ht => ?_, ?_⟩)
      · rcases List.mem_append.mp ht with h | h
        · exact hg t h
        · rw [List.mem_singleton.mp h]; exact k1
      · rw [szs_app, Nat.add_mul]
        simp [szs]
        omega
    · rintro vs H' ⟨g, ts, hr1, hl, hg, hb⟩ l hl'
      refine ⟨l, vs, rfl, .inl ⟨SqL.of upd_same, fun p hp => ?_⟩⟩
      have e1 := same_new hl' (.lst vs)
      have e2 := same_new hp (.tup vs)
      exact q p vs ts _ upd_same (hr1.same (e1.trans e2)) (by simpa using hl) hg (by simpa using hb) (g.trans (g2_same g.2 (e1.trans e2)))
def RowP (n : Nat) (t : T) : Prop := ∃ a b e, t = .tup [.str a, .str b, e] ∧ nameB a = true ∧ nameB b = true ∧ GoodP e ∧ e.sz ≤ BP n
theorem row_func {n : Nat} {t : T} (h : RowP n t) : funcB t = true ∧ GoodP (at2 t) ∧ t.sz ≤ 3 + BP n := by
  obtain ⟨a, b, e, rfl, ha, hb, he, hs⟩ := h
  refine ⟨?_, he, ?_⟩
  · show (nameB a && nameB b) = true
    rw [ha, hb]; rfl
  · simp [T.sz, szs]; omega
theorem szs_le {n : Nat} : ∀ {l : List T}, (∀ t ∈ l, t.sz ≤ n) → szs l ≤ l.length * n
  | [], _ => by simp [szs]
  | t :: r, h => by
    have h1 := h t List.mem_cons_self
    have h2 := szs_le (l := r) fun x hx => h x (List.mem_cons_of_mem _ hx)
    simp only [szs, List.length_cons, Nat.add_mul, Nat.one_mul]
    omega
theorem form_ring : greatB "ring" = false ∧ formOf "ring" = some 3 := by decide +kernel
theorem form_case : greatB "case" = false ∧ formOf "case" = some 4 := by decide +kernel
theorem sc_ring : FnScope ["_law_state", "_law_deep", "_law_left", "_law_rows", "_law_k"] ["_law_state", "_law_deep", "_law_left"] (defScope s_ring) := ⟨rfl, rfl, rfl, by decide +kernel, rfl, by decide +kernel, by decide +kernel⟩
set_option maxHeartbeats 1000000 in
theorem ok_ring {n : Nat} (F : Fun K "_law_ring" "_law_ring" s_ring f fd) (mr : mg "range" = none) (mt : mg "tuple" = none) (h0 : Has P w K mg base 1 "_law_next" ["_law_state", "_law_many"] spNext) (h2 : Has P w K mg base 3 "_law_small" ["_law_state"] (spStr fun z => nameB z = true))
    (h1 : Has P w K mg base (7 + 3 * n) "_law_some" ["_law_state", "_law_deep", "_law_left", "_law_many"] (spSomeN n)) : FnOk P w K mg base CX0 (8 + 3 * n) f fd ["_law_state", "_law_deep", "_law_left"] (spFormN n) := by
  have e7 : 8 + 3 * n = (7 + 3 * n) + 1 := by omega
  rw [e7]
  refine F.ok sc_ring (fun vs H Q E h => ?_) (fun cdv A outer s H vs Q E hr h => ?_)
  · cases n with
    | zero => exact h.elim
    | succ n =>
      obtain ⟨st, lf, rfl, _⟩ := h
      rfl
  cases n with
  | zero => exact h.elim
  | succ n =>
    obtain ⟨st, lf, rfl, d, q⟩ := h
    refine ⟨_, pss_cons (ps_set (i := 3) sc_ring.nd rfl (Or.inl rfl) (pe_lst pa_nil))
      (pss_cons (ps_for PassesOwn.never rfl (pi_range1 rfl mr (pa_cons (pe_op op_add pe_int (pcall h0 hr (by omega) rfl (pa_cons (pv 0) (pa_cons pe_int pa_nil)))) pa_nil)) (pg_name (i := 4) sc_ring.nd rfl (Or.inl rfl))
        (pss_one (ps_expr (pe_bm PySem.F.plainAttrs_list PySem.F.slot_list_append PySem.F.type_list_append mt_append (pv 3) (pa_cons (pe_op op_catT (pe_tup (pa_cons (pcall h2 hr (by omega) rfl (pa_cons (pv 0) pa_nil)) (pa_cons (pcall h2 hr (by omega) rfl (pa_cons (pv 0) pa_nil)) pa_nil)))
          (pcall h1 hr (Nat.le_refl _) rfl (pa_cons (pv 0) (pa_cons (pv 1) (pa_cons (pv 2) (pa_cons pe_int pa_nil)))))) pa_nil)))))
      (pss_one (ps_ret (pe_op op_catT (pe_tup (pa_cons pe_str (pa_cons (pe_callTy call_tuple_of rfl mt boot_tuple (pa_cons (pv 3) pa_nil)) pa_nil))) (pcall h1 hr (Nat.le_refl _) rfl (pa_cons (pv 0) (pa_cons (pv 1) (pa_cons (pv 2) (pa_cons pe_int pa_nil))))))))), ?_⟩
    refine ⟨small (by show 0 ≤ 1000000; decide), fun l hl => ?_⟩
    have dl := d.fresh hl
    have g1 : Grow2 st lf H (upd H l (.lst [])) := g2_new d hl
    refine ⟨_, rfl, st, 4, rfl, g1.2.st, by decide, by decide, fun e H2 e0 e1 ge => ?_⟩
    have g2 := g1.trans (g2_of g1.2 ge)
    refine ⟨1, e, rfl, rfl, 1 + e, rfl, by omega, by omega, for_range (n := (1 + e).toNat) (fun i σ H' => ∃ (o : Option V) (vs : List V) (ts : List T), σ = [some (.ref st), some (.int (n + 1 : Nat)), some (.ref lf), some (.ref l), o] ∧ H' l = some (.lst vs) ∧ Reps H' vs ts ∧ ts.length = i ∧ (∀ t ∈ ts, RowP n t) ∧ Grow2 st lf H H')
      ⟨none, [], [], rfl, ge.1 _ _ dl.1 upd_same, .nil, rfl, (fun _ h => by cases h), g2⟩ ?_ ?_⟩
    · rintro i σ H3 hi ⟨o, vs, ts, rfl, hl3, r3, l3, rows3, g3⟩
      refine ⟨_, rfl, .inl ⟨rfl, _, SqL.of hl3⟩, ?_⟩
      refine ⟨_, rfl, st, rfl, g3.2.st, fun z1 H4 hz1 lz1 g4 => ⟨_, rfl, st, rfl, g4.ok, fun z2 H5 hz2 lz2 g5 => ⟨small (by show 2 ≤ 1000000; decide), fun p hp => ?_⟩⟩⟩
      have g35 := g2_of g3.2 (g4.trans g5)
      have g6 : Grow2 st lf H5 (upd H5 p (.tup [.str z1, .str z2])) := g2_new g35.2 hp
      refine ⟨_, rfl, _, rfl, _, rfl, st, lf, 1, rfl, g6.2, by decide, by decide, fun a us us' H7 ha ra la ga sa g7 => ?_⟩
      refine cat_fin (hts := [.str z1, .str z2]) upd_same (.cons (.str z1 (by omega)) (.cons (.str z2 (by omega)) .nil)) (by simp) g6.2 g7 ha ra (by omega) (by simp; omega) fun p' H8 r8 g8 => ?_
      have g38 := ((g35.trans g6).trans g7).trans g8
      have hl8 : H8 l = some (.lst vs) := g38.1 _ _ dl.1 dl.2 hl3
      have lv := r3.length
      refine ⟨l, vs, .ref p', rfl, rfl, hl8, small' (by omega), ?_⟩
      have tupsU : ∀ b xs, H8 b = some (.tup xs) → (upd H8 l (.lst (vs ++ [.ref p']))) b = some (.tup xs) := fun b xs h => by
        rw [upd_ne (ne_of h hl8 (by intro z; cases z))]; exact h
      match us', la, ra, ga, sa, r8 with
      | [e1], _, _, ga, sa, r8 =>
        refine ⟨_, vs ++ [.ref p'], ts ++ [.tup ([.str z1, .str z2] ++ [e1])], rfl, upd_same, ((r3.grow2 g38 g3.2).append (.cons r8 .nil)).mono tupsU, by simp [l3], fun t ht => ?_, ?_⟩
        · rcases List.mem_append.mp ht with h | h
          · exact rows3 t h
          · rw [List.mem_singleton.mp h]
            exact ⟨z1, z2, e1, rfl, hz1, hz2, ga e1 (by simp), by simp [szs] at sa; omega⟩
        · have gg := g3.trans g38
          refine ⟨fun b o h1 h2 hb => ?_, gg.2.ne, ?_, ?_⟩
          · rw [upd_ne (ne_of_none hb hl)]
            exact gg.1 b o h1 h2 hb
          · obtain ⟨ns, k1, k2, k3⟩ := gg.2.st
            exact ⟨ns, k1, k2, by rw [upd_ne (Ne.symm dl.1)]; exact k3⟩
          · obtain ⟨j, k1⟩ := gg.2.lf
            exact ⟨j, by rw [upd_ne (Ne.symm dl.2)]; exact k1⟩
    · rintro σ H3 ⟨o, vs, ts, rfl, hl3, r3, l3, rows3, g3⟩
      refine ⟨_, rfl, l, vs, rfl, .inl ⟨SqL.of hl3, fun pr hpr => ⟨small (by show 2 ≤ 1000000; decide), fun p hp => ?_⟩⟩⟩
      have e4 := same_new hpr (.tup vs)
      have e5 := same_new hp (.tup [.str "ring", .ref pr])
      have g5 := g2_same g3.2 (e4.trans e5)
      refine ⟨_, rfl, _, rfl, _, rfl, st, lf, 1, rfl, g5.2, by decide, by decide, fun a us us' H7 ha ra la ga sa g7 => ?_⟩
      refine cat_fin (hts := [.str "ring", .tup ts]) upd_same (.cons (.str _ (by decide +kernel)) (.cons (.tup (e5 _ _ upd_same) (r3.same (e4.trans e5))) .nil)) (by simp) g5.2 g7 ha ra (by omega) (by simp; omega) fun p' H8 r8 g8 => ?_
      match us', la, ga, sa, r8 with
      | [e1], _, ga, sa, r8 =>
        have lt : 1 ≤ ts.length ∧ ts.length ≤ 4 := by omega
        have hlist : isListT 1 4 funcB (.tup ts) = true := by
          show (lenIn 1 4 ts && ts.all funcB) = true
          rw [List.all_eq_true.mpr fun t ht => (row_func (rows3 t ht)).1]
          simp [lenIn]
          omega
        refine q _ (.tup ([.str "ring", .tup ts] ++ [e1])) _ (goodP_form (l := ts.map at2 ++ [e1]) form_ring.1 form_ring.2 (by show (if _ = true then _ else _) = _; rw [if_pos hlist]; rfl) fun t ht => ?_) r8 ?_ (((g3.trans g5).trans g7).trans g8)
        · rcases List.mem_append.mp ht with h | h
          · obtain ⟨t', h1, rfl⟩ := List.mem_map.mp h
            exact (row_func (rows3 t' h1)).2.1
          · rw [List.mem_singleton.mp h]
            exact ga e1 (by simp)
        · have s1 := szs_le (n := 3 + BP n) fun t ht => (row_func (rows3 t ht)).2.2
          have s2 : ts.length * (3 + BP n) ≤ 4 * (3 + BP n) := Nat.mul_le_mul_right _ lt.2
          simp [szs] at sa
          simp [T.sz, szs, BP]
          omega
theorem cat_any {K : PySem.W.Frag} {a b : Addr} {xs ys : List V} {H : Hp} {Q : VK} (ha : H a = some (.tup xs)) (hb : H b = some (.tup ys)) (hn : xs ≠ []) (hl : xs.length + ys.length ≤ 1000) (q : ∀ p H', Same H H' → H' p = some (.tup (xs ++ ys)) → Q (.ref p) H') : rCatT K (.ref a) (.ref b) H Q := by
  refine ⟨a, b, xs, ys, rfl, rfl, SqT.of ha, SqT.of hb, hn, small (by omega), fun e => ?_, fun _ p hp => q p _ (same_new hp _) upd_same⟩
  refine q a H (Same.refl H) ?_
  rw [e, List.append_nil]
  exact ha
def ArmP (n : Nat) (t : T) : Prop := ∃ g ns e, t = .tup [.tup (.str g :: ns), e] ∧ greatB g = true ∧ ns.length ≤ 4 ∧ (∀ x ∈ ns, onStr nameB x = true ∧ x.sz ≤ 1) ∧ GoodP e ∧ e.sz ≤ BP n
theorem arm_ok {n : Nat} {t : T} (h : ArmP n t) : armB t = true ∧ GoodP (at1 t) ∧ t.sz ≤ 7 + BP n := by
  obtain ⟨g, ns, e, rfl, hg, hn, hx, he, hs⟩ := h
  refine ⟨?_, he, ?_⟩
  · show (decide (ns.length ≤ 4) && (greatB g && ns.all (onStr nameB))) = true
    rw [hg, decide_eq_true hn, List.all_eq_true.mpr fun x hx' => (hx x hx').1]
    rfl
  · have s1 := szs_le (n := 1) fun x hx' => (hx x hx').2
    simp [T.sz, szs]
    omega
theorem sc_case : FnScope ["_law_state", "_law_deep", "_law_left", "_law_arms", "_law_first", "_law_k", "_law_names"] ["_law_state", "_law_deep", "_law_left"] (defScope s_case) := ⟨rfl, rfl, rfl, by decide +kernel, rfl, by decide +kernel, by decide +kernel⟩
set_option maxHeartbeats 2000000 in
theorem ok_case {n : Nat} (F : Fun K "_law_case" "_law_case" s_case f fd) (mr : mg "range" = none) (mt : mg "tuple" = none) (h0 : Has P w K mg base 1 "_law_next" ["_law_state", "_law_many"] spNext) (h2 : Has P w K mg base 3 "_law_small" ["_law_state"] (spStr fun z => nameB z = true))
    (h3 : Has P w K mg base 3 "_law_great" ["_law_state"] (spStr fun z => greatB z = true)) (h1 : Has P w K mg base (7 + 3 * n) "_law_some" ["_law_state", "_law_deep", "_law_left", "_law_many"] (spSomeN n)) : FnOk P w K mg base CX0 (8 + 3 * n) f fd ["_law_state", "_law_deep", "_law_left"] (spFormN n) := by
  have e7 : 8 + 3 * n = (7 + 3 * n) + 1 := by omega
  rw [e7]
  refine F.ok sc_case (fun vs H Q E h => ?_) (fun cdv A outer s H vs Q E hr h => ?_)
  · cases n with
    | zero => exact h.elim
    | succ n =>
      obtain ⟨st, lf, rfl, _⟩ := h
      rfl
  cases n with
  | zero => exact h.elim
  | succ n =>
    obtain ⟨st, lf, rfl, d, q⟩ := h
    refine ⟨_, pss_cons (ps_set (i := 3) sc_case.nd rfl (Or.inl rfl) (pe_lst pa_nil))
      (pss_cons (ps_set (i := 4) sc_case.nd rfl (Or.inl rfl) (pcall h1 hr (Nat.le_refl _) rfl (pa_cons (pv 0) (pa_cons (pv 1) (pa_cons (pv 2) (pa_cons pe_int pa_nil))))))
      (pss_cons (ps_for PassesOwn.never rfl (pi_range1 rfl mr (pa_cons (pe_op op_add pe_int (pcall h0 hr (by omega) rfl (pa_cons (pv 0) (pa_cons pe_int pa_nil)))) pa_nil)) (pg_name (i := 5) sc_case.nd rfl (Or.inl rfl))
        (pss_cons (ps_set (i := 6) sc_case.nd rfl (Or.inl rfl) (pe_callTy call_tuple_of rfl mt boot_tuple (pa_cons (pe_lc (defScope s_case) ["_law_state", "_law_deep", "_law_left", "_law_arms", "_law_first", "_law_k", "_law_names"] ["_law_state"] [0] (by decide +kernel)
            (pi_range1 rfl mr (pa_cons (pcall h0 hr (by omega) rfl (pa_cons (pv 0) (pa_cons pe_int pa_nil))) pa_nil)) (fun C s₀ H₀ ex => pts_nil) (fun C s₀ H₀ ex => pcall h2 hr (by omega) rfl (pa_cons (pv 1) pa_nil))) pa_nil)))
        (pss_one (ps_expr (pe_bm PySem.F.plainAttrs_list PySem.F.slot_list_append PySem.F.type_list_append mt_append (pv 3) (pa_cons (pe_op op_catT (pe_tup (pa_cons (pe_op op_catT (pe_tup (pa_cons (pcall h3 hr (by omega) rfl (pa_cons (pv 0) pa_nil)) pa_nil)) (pv 6)) pa_nil))
          (pcall h1 hr (Nat.le_refl _) rfl (pa_cons (pv 0) (pa_cons (pv 1) (pa_cons (pv 2) (pa_cons pe_int pa_nil)))))) pa_nil))))))
      (pss_one (ps_ret (pe_op op_catT (pe_op op_catT (pe_tup (pa_cons pe_str pa_nil)) (pv 4)) (pe_callTy call_tuple_of rfl mt boot_tuple (pa_cons (pv 3) pa_nil))))))), ?_⟩
    refine ⟨small (by show 0 ≤ 1000000; decide), fun l hl => ?_⟩
    have dl := d.fresh hl
    have g1 : Grow2 st lf H (upd H l (.lst [])) := g2_new d hl
    refine ⟨_, rfl, _, rfl, _, rfl, st, lf, 1, rfl, g1.2, by decide, by decide, fun af uf tf Hf haf raf laf gaf saf gf => ?_⟩
    refine ⟨_, rfl, st, 6, rfl, gf.2.st, by decide, by decide, fun e H2 e0 e1 ge => ?_⟩
    have gf2 := g2_of gf.2 ge
    have g2 := (g1.trans gf).trans gf2
    refine ⟨1, e, rfl, rfl, 1 + e, rfl, by omega, by omega, for_range (n := (1 + e).toNat) (fun i σ H' => ∃ (o5 o6 : Option V) (vs : List V) (ts : List T), σ = [some (.ref st), some (.int (n + 1 : Nat)), some (.ref lf), some (.ref l), some (.ref af), o5, o6] ∧ H' l = some (.lst vs) ∧ H' af = some (.tup uf) ∧ Reps H' uf tf ∧ Reps H' vs ts ∧ ts.length = i ∧ (∀ t ∈ ts, ArmP n t) ∧ Grow2 st lf H H')
      ⟨none, none, [], [], rfl, (gf.trans gf2).1 _ _ dl.1 dl.2 upd_same, gf2.tups gf.2 _ _ haf, raf.grow2 gf2 gf.2, .nil, rfl, (fun _ h => by cases h), g2⟩ ?_ ?_⟩
    · rintro i σ H3 hi ⟨o5, o6, vs, ts, rfl, hl3, haf3, raf3, r3, l3, arms3, g3⟩
      refine ⟨_, rfl, st, 5, rfl, g3.2.st, by decide, by decide, fun c H4 c0 c1 gc => ⟨c, rfl, by omega, by omega, ?_⟩⟩
      have g34 := g2_of g3.2 gc
      refine comp_range (n := c.toNat) (fun j ws H' => Grow2 st lf H3 H' ∧ ∃ us, Reps H' ws us ∧ us.length = j ∧ ∀ x ∈ us, onStr nameB x = true ∧ x.sz ≤ 1) ⟨g34, [], .nil, rfl, fun _ h => by cases h⟩ ?_ ?_ ?_
      · rintro j ws H' hj ⟨g, us, r, lu, _⟩
        exact small' (by rw [r.length, lu]; omega)
      · rintro j ws H' hj ⟨g, us, r, lu, hu⟩
        refine tt1 (iteT ⟨_, rfl, st, rfl, g.2.st, fun z H'' hz lz gz => nx hj ⟨g.trans (g2_of g.2 gz), us ++ [.str z], (r.grow gz g.2.st).append (.cons (.str z (by omega)) .nil), by simp [lu], fun x hx => ?_⟩⟩)
        rcases List.mem_append.mp hx with h | h
        · exact hu x h
        · rw [List.mem_singleton.mp h]
          exact ⟨hz, Nat.le_refl _⟩
      · rintro ws H5 ⟨g5, us, r5, lu, hu⟩ ln hln
        refine ⟨ln, ws, rfl, .inl ⟨SqL.of upd_same, fun pn hpn => ?_⟩⟩
        have e6 := same_new hln (.lst ws)
        have e7 := same_new hpn (.tup ws)
        have g7 := g5.trans (g2_same g5.2 (e6.trans e7))
        have hpn7 : (upd (upd H5 ln (.lst ws)) pn (.tup ws)) pn = some (.tup ws) := upd_same
        have r7 := r5.same (e6.trans e7)
        generalize hH7 : upd (upd H5 ln (.lst ws)) pn (.tup ws) = H7 at g7 hpn7 r7
        have lw := r5.length
        refine ⟨_, rfl, .inl ⟨rfl, _, SqL.of (g7.1 _ _ dl.1 dl.2 hl3)⟩, ?_⟩
        refine ⟨_, rfl, st, rfl, g7.2.st, fun zg H8 hzg lzg g8 => ⟨small (by show 1 ≤ 1000000; decide), fun p1 hp1 => ?_⟩⟩
        have g78 := g2_of g7.2 g8
        have e9 := same_new hp1 (.tup [.str zg])
        have hpn9 := e9 _ _ (g78.tups g7.2 _ _ hpn7)
        refine ⟨_, rfl, cat_any upd_same hpn9 (by simp) (by simp; omega) fun p2 H10 e10 hp2 => ⟨small (by show 1 ≤ 1000000; decide), fun p3 hp3 => ?_⟩⟩
        have e11 := same_new hp3 (.tup [.ref p2])
        have g11 := g78.trans (g2_same g78.2 ((e9.trans e10).trans e11))
        have rp2 : Rep (upd H10 p3 (.tup [.ref p2])) (.ref p2) (.tup (.str zg :: us)) := .tup (e11 _ _ hp2) (.cons (.str zg (by omega)) ((r7.grow2 g78 g7.2).same ((e9.trans e10).trans e11)))
        refine ⟨_, rfl, _, rfl, _, rfl, st, lf, 1, rfl, g11.2, by decide, by decide, fun a ua ta H12 ha ra la ga sa g12 => ?_⟩
        refine cat_fin (hts := [.tup (.str zg :: us)]) upd_same (.cons rp2 .nil) (by simp) g11.2 g12 ha ra (by omega) (by simp; omega) fun p' H13 r13 g13 => ?_
        have gz := ((g7.trans g11).trans g12).trans g13
        have hl13 : H13 l = some (.lst vs) := gz.1 _ _ dl.1 dl.2 hl3
        have lv := r3.length
        refine ⟨l, vs, .ref p', rfl, rfl, hl13, small' (by omega), ?_⟩
        have tupsU : ∀ b xs, H13 b = some (.tup xs) → (upd H13 l (.lst (vs ++ [.ref p']))) b = some (.tup xs) := fun b xs h => by
          rw [upd_ne (ne_of h hl13 (by intro z; cases z))]; exact h
        match ta, la, ga, sa, r13 with
        | [x1], _, ga, sa, r13 =>
          refine ⟨_, _, vs ++ [.ref p'], ts ++ [.tup ([.tup (.str zg :: us)] ++ [x1])], rfl, upd_same, tupsU _ _ (gz.tups g3.2 _ _ haf3), (raf3.grow2 gz g3.2).mono tupsU, ((r3.grow2 gz g3.2).append (.cons r13 .nil)).mono tupsU, by simp [l3], fun t ht => ?_, ?_⟩
          · rcases List.mem_append.mp ht with h | h
            · exact arms3 t h
            · rw [List.mem_singleton.mp h]
              exact ⟨zg, us, x1, rfl, hzg, by omega, hu, ga x1 (by simp), by simp [szs] at sa; omega⟩
          · have gg := g3.trans gz
            refine ⟨fun b o h1 h2 hb => ?_, gg.2.ne, ?_, ?_⟩
            · rw [upd_ne (ne_of_none hb hl)]
              exact gg.1 b o h1 h2 hb
            · obtain ⟨ns, k1, k2, k3⟩ := gg.2.st
              exact ⟨ns, k1, k2, by rw [upd_ne (Ne.symm dl.1)]; exact k3⟩
            · obtain ⟨j, k1⟩ := gg.2.lf
              exact ⟨j, by rw [upd_ne (Ne.symm dl.2)]; exact k1⟩
    · rintro σ H3 ⟨o5, o6, vs, ts, rfl, hl3, haf3, raf3, r3, l3, arms3, g3⟩
      refine ⟨small (by show 1 ≤ 1000000; decide), fun p1 hp1 => ?_⟩
      have e4 := same_new hp1 (.tup [.str "case"])
      have lf1 := raf3.length
      have lv := r3.length
      refine ⟨_, rfl, cat_any upd_same (e4 _ _ haf3) (by simp) (by simp; omega) fun p2 H5 e5 hp2 => ⟨_, rfl, l, vs, rfl, .inl ⟨SqL.of ((e4.trans e5) _ _ hl3), fun pt hpt => ?_⟩⟩⟩
      have e6 := same_new hpt (.tup vs)
      refine cat_any (e6 _ _ hp2) upd_same (by simp) (by simp; omega) fun p3 H7 e7 hp3 => ?_
      have eall := ((e4.trans e5).trans e6).trans e7
      match tf, laf, gaf, saf, raf3 with
      | [x0], _, gaf, saf, raf3 =>
        have lt : 1 ≤ ts.length ∧ ts.length ≤ 6 := by omega
        have hlist : (lenIn 1 6 ts && ts.all armB) = true := by
          rw [List.all_eq_true.mpr fun t ht => (arm_ok (arms3 t ht)).1]
          simp [lenIn]
          omega
        refine q _ (.tup (.str "case" :: x0 :: ts)) _ (goodP_form (l := x0 :: ts.map at1) form_case.1 form_case.2 (by show (if _ = true then _ else _) = _; rw [if_pos hlist]) fun t ht => ?_) (.tup hp3 (.cons (.str _ (by decide +kernel)) ((raf3.same eall).append (r3.same eall)))) ?_ (g3.trans (g2_same g3.2 eall))
        · rcases List.mem_cons.mp ht with rfl | h
          · exact gaf _ (by simp)
          · obtain ⟨t', h1, rfl⟩ := List.mem_map.mp h
            exact (arm_ok (arms3 t' h1)).2.1
        · have s1 := szs_le (n := 7 + BP n) fun t ht => (arm_ok (arms3 t ht)).2.2
          have s2 : ts.length * (7 + BP n) ≤ 6 * (7 + BP n) := Nat.mul_le_mul_right _ lt.2
          simp [szs] at saf
          simp [T.sz, szs, BP]
          omega
end
end Fw

set_option Elab.async false
set_option linter.all false
set_option maxRecDepth 100000
namespace Fw
open PySem PySem.Spec PyProof.Rows L2
theorem form_fun : greatB "fun" = false ∧ formOf "fun" = some 0 := by decide +kernel
theorem form_pick : greatB "pick" = false ∧ formOf "pick" = some 0 := by decide +kernel
theorem form_let : greatB "let" = false ∧ formOf "let" = some 2 := by decide +kernel
theorem form_make : greatB "make" = false ∧ formOf "make" = some 5 := by decide +kernel
theorem form_if : greatB "if" = false ∧ formOf "if" = some 6 := by decide +kernel
theorem form_two : ∀ z ∈ (["call", "plus", "minus", "times", "less"] : List Str), greatB z = false ∧ formOf z = some 1 := by decide +kernel
theorem len_two : ∀ z ∈ (["call", "plus", "minus", "times", "less"] : List Str), z.length ≤ 10 := by decide +kernel
theorem goodP_named {z x : Str} {ts : List T} (h : greatB z = false ∧ formOf z = some 0) (hx : nameB x = true) (hl : ts.length = 1) (hg : ∀ t ∈ ts, GoodP t) : GoodP (.tup (.str z :: .str x :: ts)) := by
  match ts, hl, hg with
  | [e], _, hg => exact goodP_form (l := [e]) h.1 h.2 (by show (if nameB x = true then _ else _) = _; rw [if_pos hx]) hg
theorem goodP_let {x : Str} {ts : List T} (hx : nameB x = true) (hl : ts.length = 2) (hg : ∀ t ∈ ts, GoodP t) : GoodP (.tup (.str "let" :: .str x :: ts)) := by
  match ts, hl, hg with
  | [e, g], _, hg => exact goodP_form (l := [e, g]) form_let.1 form_let.2 (by show (if nameB x = true then _ else _) = _; rw [if_pos hx]) hg
theorem goodP_make {x : Str} {ts : List T} (hx : nameB x = true) (h1 : 1 ≤ ts.length) (h4 : ts.length ≤ 4) (hg : ∀ t ∈ ts, GoodP t) : GoodP (.tup (.str "make" :: .str x :: ts)) :=
  goodP_form (l := ts) form_make.1 form_make.2 (by
    show (if (lenIn 1 4 ts && nameB x) = true then _ else _) = _
    rw [if_pos (by rw [hx]; simp [lenIn]; omega)]) hg
theorem goodP_two {z : Str} {ts : List T} (h : greatB z = false ∧ formOf z = some 1) (hl : ts.length = 2) (hg : ∀ t ∈ ts, GoodP t) : GoodP (.tup (.str z :: ts)) := by
  match ts, hl, hg with
  | [e, g], _, hg => exact goodP_form (l := [e, g]) h.1 h.2 rfl hg
theorem goodP_if {ts : List T} (hl : ts.length = 3) (hg : ∀ t ∈ ts, GoodP t) : GoodP (.tup (.str "if" :: ts)) := by
  match ts, hl, hg with
  | [e, g, h], _, hg => exact goodP_form (l := [e, g, h]) form_if.1 form_if.2 rfl hg
theorem some_cat {K : PySem.W.Frag} {st lf p : Addr} {n m : Nat} {i : Int} {hv : List V} {hts : List T} {H1 : Hp} {Q : VK} (hi : i = (m : Nat)) (hp : H1 p = some (.tup hv)) (rp : Reps H1 hv hts) (hn : 1 ≤ hv.length) (hn2 : hv.length ≤ 10) (d1 : D2 st lf H1) (m1 : 1 ≤ m) (m6 : m ≤ 6)
    (q : ∀ v ts H', ts.length = m → (∀ t ∈ ts, GoodP t) → szs ts ≤ m * BP n → Rep H' v (.tup (hts ++ ts)) → Grow2 st lf H1 H' → Q v H') : spSomeN (n + 1) [.ref st, .int (n + 1 : Nat), .ref lf, .int i] H1 (fun y H3 => rCatT K (.ref p) y H3 Q) E0 := by
  subst hi
  refine ⟨st, lf, m, rfl, d1, m1, m6, fun a us ts H' ha ra la ga sa g => ?_⟩
  exact cat_fin hp rp (fun e => by rw [e] at hn; simp at hn) d1 g ha ra (by omega) (by omega) fun p' H2 r2 g2 => q _ ts H2 la ga sa r2 (g.trans g2)
section
variable {P : Program} {w : World} {K : PySem.W.Frag} {mg : Str → Option Value} {base : Heap} {f : Addr} {fd : FuncData}
theorem sc_phrase : FnScope ["_law_state", "_law_deep", "_law_left", "_law_way"] ["_law_state", "_law_deep", "_law_left"] (defScope s_phrase) := ⟨rfl, rfl, rfl, by decide +kernel, rfl, by decide +kernel, by decide +kernel⟩
theorem g2_count {st lf : Addr} {H : Hp} {j : Int} (d : D2 st lf H) : Grow2 st lf H (upd H lf (.lst [.int j])) := by
  refine ⟨fun b o _ h2 hb => by rw [upd_ne h2]; exact hb, d.ne, ?_, j, upd_same⟩
  obtain ⟨ns, k1, k2, k3⟩ := d.st
  exact ⟨ns, k1, k2, by rw [upd_ne d.ne]; exact k3⟩
set_option maxHeartbeats 2000000 in
theorem ok_phrase {n : Nat} (F : Fun K "_law_phrase" "_law_phrase" s_phrase f fd) (h0 : Has P w K mg base 1 "_law_next" ["_law_state", "_law_many"] spNext) (h2 : Has P w K mg base 3 "_law_small" ["_law_state"] (spStr fun z => nameB z = true))
    (h3 : Has P w K mg base 3 "_law_great" ["_law_state"] (spStr fun z => greatB z = true)) (h4 : Has P w K mg base 5 "_law_leaf" ["_law_state", "_law_way"] spLeaf) (h1 : Has P w K mg base (7 + 3 * n) "_law_some" ["_law_state", "_law_deep", "_law_left", "_law_many"] (spSomeN n))
    (h5 : Has P w K mg base (8 + 3 * n) "_law_ring" ["_law_state", "_law_deep", "_law_left"] (spFormN n)) (h6 : Has P w K mg base (8 + 3 * n) "_law_case" ["_law_state", "_law_deep", "_law_left"] (spFormN n)) : FnOk P w K mg base CX0 (9 + 3 * n) f fd ["_law_state", "_law_deep", "_law_left"] (spPhrase n) := by
  have e7 : 9 + 3 * n = (8 + 3 * n) + 1 := by omega
  rw [e7]
  refine F.ok sc_phrase (fun vs H Q E h => ?_) (fun cdv A outer s H vs Q E hr h => ?_)
  · obtain ⟨st, lf, rfl, _⟩ := h
    rfl
  obtain ⟨st, lf, rfl, d, q⟩ := h
  refine ⟨_, pss_cons (ps_augS (pv 2) pe_int get_list pe_int ip_sub set_list)
    (pss_cons (ps_set (i := 3) sc_phrase.nd rfl (Or.inl rfl) (pcall h0 hr (by omega) rfl (pa_cons (pv 0) (pa_cons pe_int pa_nil))))
    (pss_cons (ps_if (PW.pt (pw_or (pt_cmpR op_eq (pv 1) pe_int (nomark _)) (pw_or (pt_cmpR op_lt (pe_ix ix_list (pv 2) pe_int (fun _ _ => rfl)) pe_int (nomark _)) (pw_or1 (pt_cmpR op_lt (pv 3) pe_int (nomark _))))))
      (pss_one (ps_ret (pcall h4 hr (by omega) rfl (pa_cons (pv 0) (pa_cons (pe_op op_mod (pv 3) pe_int) pa_nil))))) pss_nil)
    (pss_cons (ps_if (pt_cmpR op_eq (pv 3) pe_int (nomark _)) (pss_one (ps_ret (pe_op op_catT (pe_tup (pa_cons (pcall h3 hr (by omega) rfl (pa_cons (pv 0) pa_nil)) pa_nil))
      (pcall h1 hr (by omega) rfl (pa_cons (pv 0) (pa_cons (pv 1) (pa_cons (pv 2) (pa_cons (pe_op op_add pe_int (pcall h0 hr (by omega) rfl (pa_cons (pv 0) (pa_cons pe_int pa_nil)))) pa_nil)))))))) pss_nil)
    (pss_cons (ps_if (pt_cmpR op_eq (pv 3) pe_int (nomark _)) (pss_one (ps_ret (pe_op op_catT (pe_tup (pa_cons pe_str (pa_cons (pcall h2 hr (by omega) rfl (pa_cons (pv 0) pa_nil)) pa_nil)))
      (pcall h1 hr (by omega) rfl (pa_cons (pv 0) (pa_cons (pv 1) (pa_cons (pv 2) (pa_cons pe_int pa_nil)))))))) pss_nil)
    (pss_cons (ps_if (pt_cmpR op_eq (pv 3) pe_int (nomark _)) (pss_one (ps_ret (pe_op op_catT (pe_tup (pa_cons pe_str (pa_cons (pcall h2 hr (by omega) rfl (pa_cons (pv 0) pa_nil)) pa_nil)))
      (pcall h1 hr (by omega) rfl (pa_cons (pv 0) (pa_cons (pv 1) (pa_cons (pv 2) (pa_cons pe_int pa_nil)))))))) pss_nil)
    (pss_cons (ps_if (pt_cmpR op_eq (pv 3) pe_int (nomark _)) (pss_one (ps_ret (pcall h5 hr (by omega) rfl (pa_cons (pv 0) (pa_cons (pv 1) (pa_cons (pv 2) pa_nil)))))) pss_nil)
    (pss_cons (ps_if (pt_cmpR op_eq (pv 3) pe_int (nomark _)) (pss_one (ps_ret (pcall h6 hr (by omega) rfl (pa_cons (pv 0) (pa_cons (pv 1) (pa_cons (pv 2) pa_nil)))))) pss_nil)
    (pss_cons (ps_if (pt_cmpR op_eq (pv 3) pe_int (nomark _)) (pss_one (ps_ret (pe_op op_catT (pe_tup (pa_cons pe_str (pa_cons (pcall h2 hr (by omega) rfl (pa_cons (pv 0) pa_nil)) pa_nil)))
      (pcall h1 hr (by omega) rfl (pa_cons (pv 0) (pa_cons (pv 1) (pa_cons (pv 2) (pa_cons (pe_op op_add pe_int (pcall h0 hr (by omega) rfl (pa_cons (pv 0) (pa_cons pe_int pa_nil)))) pa_nil)))))))) pss_nil)
    (pss_cons (ps_if (pt_cmpR op_eq (pv 3) pe_int (nomark _)) (pss_one (ps_ret (pe_op op_catT (pe_tup (pa_cons pe_str (pa_cons (pcall h2 hr (by omega) rfl (pa_cons (pv 0) pa_nil)) pa_nil)))
      (pcall h1 hr (by omega) rfl (pa_cons (pv 0) (pa_cons (pv 1) (pa_cons (pv 2) (pa_cons pe_int pa_nil)))))))) pss_nil)
    (pss_cons (ps_if (pt_cmpR op_eq (pv 3) pe_int (nomark _)) (pss_one (ps_ret (pe_op op_catT (pe_tup (pa_cons pe_str pa_nil))
      (pcall h1 hr (by omega) rfl (pa_cons (pv 0) (pa_cons (pv 1) (pa_cons (pv 2) (pa_cons pe_int pa_nil)))))))) pss_nil)
    (pss_one (ps_ret (pe_op op_catT (pe_tup (pa_cons (pe_ix ix_list (pe_lst (pa_cons pe_str (pa_cons pe_str (pa_cons pe_str (pa_cons pe_str (pa_cons pe_str pa_nil)))))) (pe_op op_sub (pv 3) pe_int) (fun _ _ => rfl)) pa_nil))
      (pcall h1 hr (by omega) rfl (pa_cons (pv 0) (pa_cons (pv 1) (pa_cons (pv 2) (pa_cons pe_int pa_nil)))))))))))))))))), ?_⟩
  obtain ⟨i0, hlf⟩ := d.lf
  refine ⟨_, rfl, lf, _, 0, .int i0, rfl, rfl, SqL.of hlf, rfl, i0, 1, rfl, rfl, lf, _, 0, 0, rfl, rfl, hlf, rfl, ?_⟩
  have g1 : Grow2 st lf H (upd H lf (.lst [.int (i0 - 1)])) := g2_count d
  show tSeq _ _ _ _ (upd H lf (.lst [.int (i0 - 1)]))
  generalize upd H lf (.lst [.int (i0 - 1)]) = H1 at g1
  refine ⟨_, rfl, st, 17, rfl, g1.2.st, by decide, by decide, fun y H2 y0 y1 g2' => ?_⟩
  have g2 := g1.trans (g2_of g1.2 g2')
  obtain ⟨j, hj⟩ := g2.2.lf
  refine st_if (ts_or (ts_t (ev_eqI (ev_var rfl) fun _ _ => ev_c)) (fun _ H' e' => ts_or (ts_t (ev_op (z := .bl (decide (j < 0))) (ev_ixL (ev_var rfl) (fun _ _ => ev_c) (SqL.of (e' _ _ hj)) (atI_nat (j := 0) rfl)) (fun _ _ => ev_c) fun H'' Q'' e'' q'' => ⟨_, _, rfl, rfl, q''⟩))
    (fun _ H'' e'' => ts_t (ev_op (z := .bl (decide (y < 4))) (ev_var rfl) (fun _ _ => ev_c) fun H'' Q'' e'' q'' => ⟨_, _, rfl, rfl, q''⟩)))) (fun c H3 e3 => ?_) (fun c H3 e3 => ?_)
  · have g3 := g2.trans (g2_same g2.2 e3)
    refine ⟨_, rfl, _, rfl, y, 4, rfl, rfl, (by show (0 : Int) < 4; decide), st, y % 4, rfl, g3.2.st, Int.emod_nonneg _ (by omega), Int.emod_lt_of_pos _ (by decide), fun v t H4 gt rt zt g4 => ?_⟩
    exact q v t H4 gt rt (Nat.le_trans zt (BP_pos n)) (g3.trans (g2_of g3.2 g4))
  · have c1 : ¬ ((n : Int) = 0) ∧ ¬ y < 4 := by
      rw [Bool.or_eq_false_iff, Bool.or_eq_false_iff] at c
      exact ⟨of_decide_eq_false c.1, of_decide_eq_false c.2.2⟩
    obtain ⟨m, rfl⟩ : ∃ m, n = m + 1 := ⟨n - 1, by omega⟩
    have fin : ∀ (z : T) (hts ts : List T) (k : Nat) (H' : Hp) (v : V), z = .tup (hts ++ ts) → szs hts ≤ 3 → k ≤ 6 → szs ts ≤ k * BP m → GoodP z → Rep H' v z → Grow2 st lf H H' → Q v H' := fun z hts ts k H' v e1 e2 e3 e4 gz rz g => by
      refine q v z H' gz rz ?_ g
      have : k * BP m ≤ 6 * BP m := Nat.mul_le_mul_right _ e3
      rw [e1]
      simp only [T.sz, szs_app, BP]
      omega
    have g3 := g2.trans (g2_same g2.2 e3)
    refine st_if (ts_t (ev_eqI (ev_var rfl) fun _ _ => ev_c)) (fun c4 H4 e4 => ?_) (fun c4 H4 e4 => ?_)
    · have g4 := g3.trans (g2_same g3.2 e4)
      refine ⟨_, rfl, st, rfl, g4.2.st, fun z H5 hz lz g5' => ⟨small (by show 1 ≤ 1000000; decide), fun p hp => ?_⟩⟩
      have g5 := g4.trans (g2_of g4.2 g5')
      have g6' : Grow2 st lf H5 (upd H5 p (.tup [.str z])) := g2_new g5.2 hp
      refine ⟨_, rfl, _, rfl, _, rfl, _, rfl, st, 4, rfl, g6'.2.st, by decide, by decide, fun e H7 e0 e1 g7' => ⟨1, e, rfl, rfl, ?_⟩⟩
      have g7 := g2_of g6'.2 g7'
      refine some_cat (m := (1 + e).toNat) (hts := [.str z]) (by omega) (g7.tups g6'.2 _ _ upd_same) (.cons (.str z (by omega)) .nil) (by simp) (by simp) g7.2 (by omega) (by omega) fun v ts H8 lt gt zt rt g8 => ?_
      exact fin _ [.str z] ts _ H8 v rfl (by simp [szs, T.sz]) (by omega) zt (goodP_great (ts := ts) hz (by omega) (by omega) gt) rt (((g5.trans g6').trans g7).trans g8)
    have g4 := g3.trans (g2_same g3.2 e4)
    refine st_if (ts_t (ev_eqI (ev_var rfl) fun _ _ => ev_c)) (fun c5 H5 e5 => ?_) (fun c5 H5 e5 => ?_)
    · have g5 := g4.trans (g2_same g4.2 e5)
      refine ⟨_, rfl, st, rfl, g5.2.st, fun z H6 hz lz g6' => ⟨small (by show 2 ≤ 1000000; decide), fun p hp => ?_⟩⟩
      have g6 := g5.trans (g2_of g5.2 g6')
      have g7 : Grow2 st lf H6 (upd H6 p (.tup [.str "fun", .str z])) := g2_new g6.2 hp
      refine ⟨_, rfl, _, rfl, _, rfl, ?_⟩
      refine some_cat (m := 1) (i := 1) (hts := [.str "fun", .str z]) rfl upd_same (.cons (.str _ (by decide +kernel)) (.cons (.str z (by omega)) .nil)) (by simp) (by simp) g7.2 (by omega) (by omega) fun v ts H8 lt gt zt rt g8 => ?_
      exact fin _ [.str "fun", .str z] ts _ H8 v rfl (by simp [szs, T.sz]) (by omega) zt (goodP_named form_fun hz lt gt) rt ((g6.trans g7).trans g8)
    have g5 := g4.trans (g2_same g4.2 e5)
    refine st_if (ts_t (ev_eqI (ev_var rfl) fun _ _ => ev_c)) (fun c6 H6 e6 => ?_) (fun c6 H6 e6 => ?_)
    · have g6 := g5.trans (g2_same g5.2 e6)
      refine ⟨_, rfl, st, rfl, g6.2.st, fun z H7 hz lz g7' => ⟨small (by show 2 ≤ 1000000; decide), fun p hp => ?_⟩⟩
      have g7 := g6.trans (g2_of g6.2 g7')
      have g8 : Grow2 st lf H7 (upd H7 p (.tup [.str "let", .str z])) := g2_new g7.2 hp
      refine ⟨_, rfl, _, rfl, _, rfl, ?_⟩
      refine some_cat (m := 2) (i := 2) (hts := [.str "let", .str z]) rfl upd_same (.cons (.str _ (by decide +kernel)) (.cons (.str z (by omega)) .nil)) (by simp) (by simp) g8.2 (by omega) (by omega) fun v ts H9 lt gt zt rt g9 => ?_
      exact fin _ [.str "let", .str z] ts _ H9 v rfl (by simp [szs, T.sz]) (by omega) zt (goodP_let hz lt gt) rt ((g7.trans g8).trans g9)
    have g6 := g5.trans (g2_same g5.2 e6)
    refine st_if (ts_t (ev_eqI (ev_var rfl) fun _ _ => ev_c)) (fun c7 H7 e7 => ?_) (fun c7 H7 e7 => ?_)
    · have g7 := g6.trans (g2_same g6.2 e7)
      exact ⟨_, rfl, _, rfl, _, rfl, st, lf, rfl, g7.2, fun v t H8 gt rt zt g8 => q v t H8 gt rt zt (g7.trans g8)⟩
    have g7 := g6.trans (g2_same g6.2 e7)
    refine st_if (ts_t (ev_eqI (ev_var rfl) fun _ _ => ev_c)) (fun c8 H8 e8 => ?_) (fun c8 H8 e8 => ?_)
    · have g8 := g7.trans (g2_same g7.2 e8)
      exact ⟨_, rfl, _, rfl, _, rfl, st, lf, rfl, g8.2, fun v t H9 gt rt zt g9 => q v t H9 gt rt zt (g8.trans g9)⟩
    have g8 := g7.trans (g2_same g7.2 e8)
    refine st_if (ts_t (ev_eqI (ev_var rfl) fun _ _ => ev_c)) (fun c9 H9 e9 => ?_) (fun c9 H9 e9 => ?_)
    · have g9 := g8.trans (g2_same g8.2 e9)
      refine ⟨_, rfl, st, rfl, g9.2.st, fun z Ha hz lz ga' => ⟨small (by show 2 ≤ 1000000; decide), fun p hp => ?_⟩⟩
      have ga := g9.trans (g2_of g9.2 ga')
      have gb : Grow2 st lf Ha (upd Ha p (.tup [.str "make", .str z])) := g2_new ga.2 hp
      refine ⟨_, rfl, _, rfl, _, rfl, _, rfl, st, 4, rfl, gb.2.st, by decide, by decide, fun e Hc e0 e1 gc' => ⟨1, e, rfl, rfl, ?_⟩⟩
      have gc := g2_of gb.2 gc'
      refine some_cat (m := (1 + e).toNat) (hts := [.str "make", .str z]) (by omega) (gc.tups gb.2 _ _ upd_same) (.cons (.str _ (by decide +kernel)) (.cons (.str z (by omega)) .nil)) (by simp) (by simp) gc.2 (by omega) (by omega) fun v ts Hd lt gt zt rt gd => ?_
      exact fin _ [.str "make", .str z] ts _ Hd v rfl (by simp [szs, T.sz]) (by omega) zt (goodP_make (ts := ts) hz (by omega) (by omega) gt) rt (((ga.trans gb).trans gc).trans gd)
    have g9 := g8.trans (g2_same g8.2 e9)
    refine st_if (ts_t (ev_eqI (ev_var rfl) fun _ _ => ev_c)) (fun ca Ha ea => ?_) (fun ca Ha ea => ?_)
    · have ga := g9.trans (g2_same g9.2 ea)
      refine ⟨_, rfl, st, rfl, ga.2.st, fun z Hb hz lz gb' => ⟨small (by show 2 ≤ 1000000; decide), fun p hp => ?_⟩⟩
      have gb := ga.trans (g2_of ga.2 gb')
      have gc : Grow2 st lf Hb (upd Hb p (.tup [.str "pick", .str z])) := g2_new gb.2 hp
      refine ⟨_, rfl, _, rfl, _, rfl, ?_⟩
      refine some_cat (m := 1) (i := 1) (hts := [.str "pick", .str z]) rfl upd_same (.cons (.str _ (by decide +kernel)) (.cons (.str z (by omega)) .nil)) (by simp) (by simp) gc.2 (by omega) (by omega) fun v ts Hd lt gt zt rt gd => ?_
      exact fin _ [.str "pick", .str z] ts _ Hd v rfl (by simp [szs, T.sz]) (by omega) zt (goodP_named form_pick hz lt gt) rt ((gb.trans gc).trans gd)
    have ga := g9.trans (g2_same g9.2 ea)
    refine st_if (ts_t (ev_eqI (ev_var rfl) fun _ _ => ev_c)) (fun cb Hb eb => ?_) (fun cb Hb eb => ?_)
    · have gb := ga.trans (g2_same ga.2 eb)
      refine ⟨small (by show 1 ≤ 1000000; decide), fun p hp => ?_⟩
      have gc : Grow2 st lf Hb (upd Hb p (.tup [.str "if"])) := g2_new gb.2 hp
      refine ⟨_, rfl, _, rfl, _, rfl, ?_⟩
      refine some_cat (m := 3) (i := 3) (hts := [.str "if"]) rfl upd_same (.cons (.str _ (by decide +kernel)) .nil) (by simp) (by simp) gc.2 (by omega) (by omega) fun v ts Hd lt gt zt rt gd => ?_
      exact fin _ [.str "if"] ts _ Hd v rfl (by simp [szs, T.sz]) (by omega) zt (goodP_if lt gt) rt ((gb.trans gc).trans gd)
    have gb := ga.trans (g2_same ga.2 eb)
    have n4 : ¬ y = 4 := of_decide_eq_false c4
    have n5 : ¬ y = 5 := of_decide_eq_false c5
    have n6 : ¬ y = 6 := of_decide_eq_false c6
    have n7 : ¬ y = 7 := of_decide_eq_false c7
    have n8 : ¬ y = 8 := of_decide_eq_false c8
    have n9 : ¬ y = 9 := of_decide_eq_false c9
    have na : ¬ y = 10 := of_decide_eq_false ca
    have nb : ¬ y = 11 := of_decide_eq_false cb
    have hy : 12 ≤ y := by omega
    refine ⟨small (by show 5 ≤ 1000000; decide), fun l hl => ?_⟩
    obtain ⟨zz, hzz, hm⟩ : ∃ zz, atI ((["call", "plus", "minus", "times", "less"] : List Str).map V.str) (y - 12) = some (V.str zz) ∧ zz ∈ (["call", "plus", "minus", "times", "less"] : List Str) := by
      obtain ⟨v, hv, hm⟩ := at_any (xs := (["call", "plus", "minus", "times", "less"] : List Str).map V.str) (d := y - 12) (by omega) (by simp; omega)
      obtain ⟨zz, h1, h2⟩ := List.mem_map.mp hm
      exact ⟨zz, by rw [hv, h2], h1⟩
    refine ⟨_, rfl, y, 12, rfl, rfl, l, _, y - 12, .str zz, rfl, rfl, SqL.of upd_same, hzz, small (by show 1 ≤ 1000000; decide), fun p hp => ?_⟩
    have gc := gb.trans (g2_new (o := .lst ((["call", "plus", "minus", "times", "less"] : List Str).map V.str)) gb.2 hl)
    have gd := g2_new (o := .tup [.str zz]) gc.2 hp
    refine ⟨_, rfl, _, rfl, _, rfl, ?_⟩
    refine some_cat (m := 2) (i := 2) (hts := [.str zz]) rfl upd_same (.cons (.str _ (by have := len_two zz hm; omega)) .nil) (by simp) (by simp) gd.2 (by omega) (by omega) fun v ts He lt gt zt rt ge => ?_
    exact fin _ [.str zz] ts _ He v rfl (by simp [szs, T.sz]) (by omega) zt (goodP_two (form_two zz hm) lt gt) rt ((gc.trans gd).trans ge)
/-- phrases of every depth -/
theorem phrases_all {fs fr fc : Addr} {ds dr dc : FuncData} (F : Fun K "_law_phrase" "_law_phrase" s_phrase f fd) (bF : Binds K fd ["_law_state", "_law_deep", "_law_left"] []) (mF : mg "_law_phrase" = some (.ref f))
    (S : Fun K "_law_some" "_law_some" s_some fs ds) (bS : Binds K ds ["_law_state", "_law_deep", "_law_left", "_law_many"] []) (mS : mg "_law_some" = some (.ref fs)) (R : Fun K "_law_ring" "_law_ring" s_ring fr dr) (bR : Binds K dr ["_law_state", "_law_deep", "_law_left"] []) (mR : mg "_law_ring" = some (.ref fr))
    (C : Fun K "_law_case" "_law_case" s_case fc dc) (bC : Binds K dc ["_law_state", "_law_deep", "_law_left"] []) (mC : mg "_law_case" = some (.ref fc)) (mr : mg "range" = none) (mt : mg "tuple" = none)
    (h0 : Has P w K mg base 1 "_law_next" ["_law_state", "_law_many"] spNext) (h2 : Has P w K mg base 3 "_law_small" ["_law_state"] (spStr fun z => nameB z = true))
    (h3 : Has P w K mg base 3 "_law_great" ["_law_state"] (spStr fun z => greatB z = true)) (h4 : Has P w K mg base 5 "_law_leaf" ["_law_state", "_law_way"] spLeaf) :
    ∀ n : Nat, Has P w K mg base (6 + 3 * n) "_law_phrase" ["_law_state", "_law_deep", "_law_left"] (spPhraseN n)
  | 0 => ⟨f, fd, ⟨fun vs H Q E h => h.elim, fun A outer s H args us vs Q E _ _ _ _ h => h.elim⟩, bF, F.kp, mF⟩
  | n + 1 => by
    have ih := phrases_all F bF mF S bS mS R bR mR C bC mC mr mt h0 h2 h3 h4 n
    have hs : Has P w K mg base (7 + 3 * n) "_law_some" ["_law_state", "_law_deep", "_law_left", "_law_many"] (spSomeN n) := ⟨fs, ds, ok_some S mr mt ih, bS, S.kp, mS⟩
    have hg : Has P w K mg base (8 + 3 * n) "_law_ring" ["_law_state", "_law_deep", "_law_left"] (spFormN n) := ⟨fr, dr, ok_ring R mr mt h0 h2 hs, bR, R.kp, mR⟩
    have hc : Has P w K mg base (8 + 3 * n) "_law_case" ["_law_state", "_law_deep", "_law_left"] (spFormN n) := ⟨fc, dc, ok_case C mr mt h0 h2 h3 hs, bC, C.kp, mC⟩
    have e : 6 + 3 * (n + 1) = 9 + 3 * n := by omega
    rw [e]
    exact ⟨f, fd, ok_phrase F h0 h2 h3 h4 hs hg hc, bF, F.kp, mF⟩
end
end Fw

set_option Elab.async false
set_option linter.all false
set_option maxRecDepth 100000
namespace Fw
open PySem PySem.Spec PyProof.Rows L2
/-! ### readings that come to some thing of a sort, while the draws go on -/
def GP (st : Addr) (t : TE) (σ : L2.St) (H : Hp) (p : T → Prop) : Prop := ∀ Q : VK, (∀ v x H', p x → Grow st H H' → Rep H' v x → Q v H') → t σ H Q
def GA (st : Addr) (t : TA) (σ : L2.St) (H : Hp) (p : List T → Prop) : Prop := ∀ Q : List V → Hp → Prop, (∀ vs xs H', p xs → Grow st H H' → Reps H' vs xs → Q vs H') → t σ H Q
section
variable {st : Addr} {ta : TE} {tr : TA} {σ : L2.St} {H : Hp} {v : V} {x : T} {p p' : T → Prop} {ps ps' : List T → Prop}
theorem gp_imp (h : GP st ta σ H p) (i : ∀ x, p x → p' x) : GP st ta σ H p' := fun Q q => h Q fun v x H' hp => q v x H' (i x hp)
theorem ga_imp (h : GA st tr σ H ps) (i : ∀ x, ps x → ps' x) : GA st tr σ H ps' := fun Q q => h Q fun v x H' hp => q v x H' (i x hp)
theorem gp_var {i : Nat} (hs : StOk H st) (h : σ[i]? = some (some v)) (r : Rep H v x) : GP st (tVar i) σ H (fun y => y = x) := fun Q q => ⟨v, h, q v x H rfl (Grow.refl hs) r⟩
theorem gp_str {z : Str} (hs : StOk H st) (h : z.length ≤ 100000) : GP st (tC (.str z)) σ H (fun y => y = .str z) := fun Q q => q _ _ H rfl (Grow.refl hs) (.str z h)
theorem gp_int {i : Int} (hs : StOk H st) : GP st (tC (.int i)) σ H (fun y => y = .int i) := fun Q q => q _ _ H rfl (Grow.refl hs) (.int i)
theorem ga_nil (hs : StOk H st) : GA st tNil σ H (fun l => l = []) := fun Q q => q [] [] H rfl (Grow.refl hs) .nil
theorem ga_cons (h1 : GP st ta σ H p) (h2 : ∀ H', Grow st H H' → GA st tr σ H' ps) : GA st (tCons ta tr) σ H (fun l => ∃ x xs, l = x :: xs ∧ p x ∧ ps xs) :=
  fun Q q => h1 _ fun v x H' hp g r => h2 H' g _ fun vs xs H2 hps g2 rs => q _ _ _ ⟨x, xs, rfl, hp, hps⟩ (g.trans g2) (.cons (r.grow g2 g.ok) rs)
theorem gp_tup (h : GA st tr σ H ps) (hl : ∀ l, ps l → l.length ≤ 1000) : GP st (tTup tr) σ H (fun x => ∃ l, x = .tup l ∧ ps l) :=
  fun Q q => h _ fun vs xs H' hp g r => ⟨small (by rw [r.length]; have := hl xs hp; omega), fun p hp' => q _ (.tup xs) _ ⟨xs, rfl, hp⟩ (g.trans (grow_new g.ok hp')) (.tup upd_same (r.same (same_new hp' _)))⟩
theorem gp_call {pz : Str → Prop} (hs : StOk H st) (h : σ[0]? = some (some (.ref st))) : GP st (tCall (spStr pz) [] E0 (tCons (tVar 0) tNil)) σ H (fun x => ∃ z, x = .str z ∧ pz z) :=
  fun Q q => ⟨_, h, st, rfl, hs, fun z H' hz lz g => q _ (.str z) H' ⟨z, rfl, hz⟩ g (.str z (by omega))⟩
theorem gp_number (hs : StOk H st) (h : σ[0]? = some (some (.ref st))) : GP st (tCall spInt [] E0 (tCons (tVar 0) tNil)) σ H (fun x => ∃ i, x = .int i) :=
  fun Q q => ⟨_, h, st, rfl, hs, fun i H' _ _ g => q _ (.int i) H' ⟨i, rfl⟩ g (.int i)⟩
/-- items that are all of a sort -/
def AllN (n : Nat) (ok : T → Prop) (l : List T) : Prop := l.length = n ∧ ∀ x ∈ l, ok x
theorem gn_nil {ok : T → Prop} (hs : StOk H st) : GA st tNil σ H (AllN 0 ok) := ga_imp (ga_nil hs) fun l e => by subst e; exact ⟨rfl, fun _ h => by cases h⟩
theorem gn_cons {ok : T → Prop} {n : Nat} (h1 : GP st ta σ H p) (hi : ∀ x, p x → ok x) (h2 : ∀ H', Grow st H H' → GA st tr σ H' (AllN n ok)) : GA st (tCons ta tr) σ H (AllN (n + 1) ok) :=
  ga_imp (ga_cons h1 h2) fun l ⟨x, xs, e, hx, hn, hxs⟩ => by
    subst e
    refine ⟨by simp [hn], fun y hy => ?_⟩
    rcases List.mem_cons.mp hy with rfl | hy
    · exact hi _ hx
    · exact hxs y hy
/-- a list of them, made -/
theorem gn_list {ok : T → Prop} {n : Nat} {Q : VK} (hs : StOk H st) (h : GA st tr σ H (AllN n ok)) (hn : n ≤ 1000) (q : ∀ l vs xs H', AllN n ok xs → Grow st H H' → l ≠ st → H' l = some (.lst vs) → Reps H' vs xs → H l = none → Q (.ref l) H') : tLst tr σ H Q :=
  h _ fun vs xs H' hp g r => ⟨small (by rw [r.length, hp.1]; omega), fun l hl => by
    have hne : l ≠ st := fun e => by
      obtain ⟨ns, _, _, h3⟩ := g.ok
      rw [e, h3] at hl
      cases hl
    have hf : H l = none := by
      cases e : H l with
      | none => rfl
      | some o => rw [g.1 l o hne e] at hl; cases hl
    exact q l vs xs _ hp (g.trans (grow_new g.ok hl)) hne upd_same (r.same (same_new hl _)) hf⟩
theorem Reps.mem {H : Hp} : ∀ {vs : List V} {ts : List T} {v : V}, Reps H vs ts → v ∈ vs → ∃ t ∈ ts, Rep H v t
  | _, _, _, .cons (t := t) r q, h => by
    rcases List.mem_cons.mp h with rfl | h
    · exact ⟨t, List.mem_cons_self, r⟩
    · obtain ⟨t', h1, h2⟩ := q.mem h
      exact ⟨t', List.mem_cons_of_mem _ h1, h2⟩
end
/-! ### what is no kind -/
abbrev arB : T → Bool := onStr (fun z => decide (z = ("->" : Str)))
theorem bad_str {z : Str} (h : leafB z = false) : Bad kidsK (.str z) := .none (by rw [kidsK_str, if_neg (by rw [h]; exact Bool.false_ne_true)])
theorem bad_tup {h : T} {r : List T} (h1 : r.length ≠ 2 ∨ arB h = false) (h2 : ¬ (1 ≤ r.length ∧ r.length ≤ 3) ∨ onStr headB h = false) : Bad kidsK (.tup (h :: r)) := by
  refine .none ?_
  rw [kidsK_cons, if_neg, if_neg]
  · rintro ⟨a, b⟩
    rcases h2 with z | z
    · exact z a
    · rw [z] at b; cases b
  · rintro ⟨a, b⟩
    rcases h1 with z | z
    · exact z a
    · rw [show onStr (fun z => decide (z = ("->" : Str))) h = false from z] at b; cases b
end Fw
namespace Fw
open PySem PySem.Spec PyProof.Rows L2
/-! ### things of names and constants, whatever the draws did meanwhile -/
def Stb (st : Addr) (σ : L2.St) (H₀ : Hp) (t : TE) (x : T) : Prop := ∀ H', Grow st H₀ H' → GP st t σ H' (fun y => y = x)
def StbA (st : Addr) (σ : L2.St) (H₀ : Hp) (t : TA) (l : List T) : Prop := ∀ H', Grow st H₀ H' → GA st t σ H' (fun y => y = l)
def SA (st : Addr) (σ : L2.St) (H₀ : Hp) (ok : T → Prop) (n : Nat) (t : TA) : Prop := ∀ H', Grow st H₀ H' → GA st t σ H' (AllN n ok)
section
variable {st : Addr} {ta : TE} {tr : TA} {σ : L2.St} {H₀ : Hp} {v : V} {x : T} {l : List T} {ok : T → Prop} {n : Nat}
theorem sb_var {i : Nat} (hs : StOk H₀ st) (h : σ[i]? = some (some v)) (r : Rep H₀ v x) : Stb st σ H₀ (tVar i) x := fun H' g => gp_var g.ok h (r.grow g hs)
theorem sb_str {z : Str} (h : z.length ≤ 100000 := by decide +kernel) : Stb st σ H₀ (tC (.str z)) (.str z) := fun H' g => gp_str g.ok h
theorem sb_int {i : Int} : Stb st σ H₀ (tC (.int i)) (.int i) := fun H' g => gp_int g.ok
theorem sba_nil : StbA st σ H₀ tNil [] := fun H' g => ga_nil g.ok
theorem sba_cons (h1 : Stb st σ H₀ ta x) (h2 : StbA st σ H₀ tr l) : StbA st σ H₀ (tCons ta tr) (x :: l) := fun H' g => ga_imp (ga_cons (h1 H' g) fun H2 g2 => h2 H2 (g.trans g2)) fun y ⟨a, b, e, ha, hb⟩ => by subst e ha hb; rfl
theorem sb_tup (h : StbA st σ H₀ tr l) (hl : l.length ≤ 1000 := by simp) : Stb st σ H₀ (tTup tr) (.tup l) := fun H' g => gp_imp (gp_tup (h H' g) fun y e => by subst e; exact hl) fun y ⟨a, e, ha⟩ => by subst e ha; rfl
theorem sa_nil : SA st σ H₀ ok 0 tNil := fun H' g => gn_nil g.ok
theorem sa_cons (h1 : Stb st σ H₀ ta x) (hx : ok x) (h2 : SA st σ H₀ ok n tr) : SA st σ H₀ ok (n + 1) (tCons ta tr) := fun H' g => gn_cons (h1 H' g) (fun y e => by subst e; exact hx) fun H2 g2 => h2 H2 (g.trans g2)
theorem sa_call {p : T → Prop} (h1 : ∀ H', Grow st H₀ H' → GP st ta σ H' p) (hx : ∀ x, p x → ok x) (h2 : SA st σ H₀ ok n tr) : SA st σ H₀ ok (n + 1) (tCons ta tr) := fun H' g => gn_cons (h1 H' g) hx fun H2 g2 => h2 H2 (g.trans g2)
end
end Fw
namespace Fw
open PySem PySem.Spec PyProof.Rows L2
theorem sq_set {te : TE} {i : Nat} {u : TS} {D : Ends} {σ : L2.St} {H : Hp} (h : te σ H fun v H1 => u D (σ.set i (some v)) H1) : tSeq (tAsg te (gName i)) u D σ H := h
theorem op_var {r : R2} {i : Nat} {tb : TE} {σ : L2.St} {H : Hp} {Q : VK} {x : V} (hx : σ[i]? = some (some x)) (h : tb σ H fun y H2 => r x y H2 Q) : tOp r (tVar i) tb σ H Q := ⟨x, hx, h⟩
end Fw

set_option Elab.async false
set_option linter.all false
set_option maxRecDepth 100000
namespace Fw
open PySem PySem.Spec PyProof.Rows L2
/-! ### words and forms -/
theorem kept_all : ∀ k ∈ keptL, varB k = false ∧ pathB k = false ∧ greatB k = false ∧ nameB k = false := by decide +kernel
theorem forms_in : ∀ p ∈ formsL, p.1 ∈ keptL := by decide +kernel
theorem lookup_none {z : Str} : ∀ {l : List (Str × Nat)}, (∀ p ∈ l, z ≠ p.1) → l.lookup z = none
  | [], _ => rfl
  | (a, b) :: r, h => by
    have h1 : (z == a) = false := beq_false_of_ne (h (a, b) List.mem_cons_self)
    rw [List.lookup_cons, h1]
    exact lookup_none fun p hp => h p (List.mem_cons_of_mem _ hp)
theorem form_none {z : Str} (h : z ∉ keptL) : formOf z = none := lookup_none fun p hp e => h (e ▸ forms_in p hp)
theorem w_name {z : Str} (h : nameB z = true) : greatB z = false ∧ formOf z = none := by
  constructor
  · cases hg : greatB z with
    | false => rfl
    | true =>
      have := (great_not hg).2
      unfold headB at this
      rw [h] at this
      cases this
  · obtain ⟨n, _, _, _, h4⟩ := name_let h
    exact form_none h4
theorem w_path {z : Str} (h : pathB z = true) : greatB z = false ∧ formOf z = none ∧ nameB z = false := by
  refine ⟨?_, form_none fun hk => ?_, ?_⟩
  · cases hg : greatB z with
    | false => rfl
    | true =>
      have := (great_not hg).2
      unfold headB at this
      rw [h, Bool.or_true] at this
      cases this
  · rw [(kept_all z hk).2.1] at h
    cases h
  · by_cases hd : 46 ∈ z.cps.toList
    · exact name_not hd (by decide)
    · rw [path_nodot hd] at h
      cases h
theorem w_var {z : Str} (h : varB z = true) : greatB z = false ∧ formOf z = none ∧ nameB z = false ∧ leafPB z = false := by
  have h1 := var_not h
  unfold headB at h1
  rw [Bool.or_eq_false_iff] at h1
  have hg : greatB z = false := by
    cases hg : greatB z with
    | false => rfl
    | true =>
      have := (great_not hg).1
      unfold leafB at this
      rw [h] at this
      simp at this
  refine ⟨hg, form_none fun hk => ?_, h1.1, ?_⟩
  · rw [(kept_all z hk).1] at h
    cases h
  · unfold leafPB
    rw [hg, h1.1, h1.2]
    rfl
theorem w_great {z : Str} (h : greatB z = true) : nameB z = false := by
  have := (great_not h).2
  unfold headB at this
  rw [Bool.or_eq_false_iff] at this
  exact this.1
theorem w_kept {z : Str} (h : z ∈ keptL) : greatB z = false ∧ nameB z = false ∧ leafPB z = false := by
  obtain ⟨_, h2, h3, h4⟩ := kept_all z h
  refine ⟨h3, h4, ?_⟩
  unfold leafPB
  rw [h2, h3, h4]
  rfl
theorem w_arrow : greatB "->" = false ∧ formOf "->" = none ∧ leafPB "->" = false := by decide +kernel
theorem badP_leaf {z : Str} (h : leafPB z = false) : Bad kidsP (.str z) := .none (by show (if _ = true then _ else _) = _; rw [if_neg (by rw [h]; exact Bool.false_ne_true)])
theorem badP_nohead {z : Str} {r : List T} (h : greatB z = false ∧ formOf z = none) : Bad kidsP (.tup (.str z :: r)) := .none (by rw [kidsP_str, if_neg (by rw [h.1]; exact Bool.false_ne_true), h.2])
theorem badP_great {z : Str} {r : List T} (h : greatB z = true) (hl : lenIn 1 4 r = false) : Bad kidsP (.tup (.str z :: r)) := .none (by rw [kidsP_str, if_pos h, if_neg (by rw [hl]; exact Bool.false_ne_true)])
theorem badP_greatK {z : Str} {r : List T} {k : T} (h : greatB z = true) (hl : lenIn 1 4 r = true) (hm : k ∈ r) (hb : Bad kidsP k) : Bad kidsP (.tup (.str z :: r)) := .kid (l := r) (by rw [kidsP_str, if_pos h, if_pos hl]) hm hb
theorem good_noarm {t : T} (h : GoodP t) : armB t = false := by
  cases h with
  | @mk _ l hk _ =>
    cases t with
    | int i => rfl
    | str z => rfl
    | tup ts =>
      match ts, hk with
      | [], _ => rfl
      | .str z :: r, _ =>
        match r with
        | [] => rfl
        | [_] => rfl
        | _ :: _ :: _ => rfl
/-! ### more things of names and constants -/
section
variable {K : PySem.W.Frag} {st : Addr} {ta tb : TE} {tr : TA} {σ : L2.St} {H₀ H : Hp} {v : V} {x : T} {l : List T} {ok : T → Prop} {n : Nat}
theorem sb_cat {l1 l2 : List T} (h1 : Stb st σ H₀ ta (.tup l1)) (h2 : Stb st σ H₀ tb (.tup l2)) (hn : 1 ≤ l1.length) (hl : l1.length + l2.length ≤ 1000) : Stb st σ H₀ (tOp (rCatT K) ta tb) (.tup (l1 ++ l2)) := fun H' g Q q => h1 H' g _ fun v1 x1 H1 e1 g1 r1 => by
  subst e1
  refine h2 H1 (g.trans g1) _ fun v2 x2 H2 e2 g2 r2 => ?_
  subst e2
  cases r1 with
  | tup ha ra =>
    cases r2 with
    | tup hb rb =>
      have la := ra.length
      have lb := rb.length
      refine cat_any (g2.tups g1.ok _ _ ha) hb (fun e => ?_) (by omega) fun p H3 e3 hp => q _ _ _ rfl ((g1.trans g2).trans (grow_same g2.ok e3)) (.tup hp (((ra.grow g2 g1.ok).same e3).append (rb.same e3)))
      rw [e] at la
      simp at la
      omega
theorem reps_rep {H : Hp} {v : V} {x : T} (r : Rep H v x) : ∀ k, Reps H (List.replicate k v) (List.replicate k x)
  | 0 => .nil
  | k + 1 => .cons r (reps_rep r k)
theorem sb_rep {k : Nat} (h : Stb st σ H₀ ta (.tup [x])) (hk : 2 ≤ k) (hk2 : k ≤ 100) :
    Stb st σ H₀ (tOp (fun x y H Q => ∃ (a : Addr) (xs : List V) (k : Nat), x = .ref a ∧ y = .int k ∧ SqT K H a xs ∧ xs ≠ [] ∧ 2 ≤ k ∧ k ≤ 1000 ∧ xs.length * k ≤ 100000 ∧ ∀ p, H p = none → Q (.ref p) (upd H p (.tup (List.replicate k xs).flatten))) ta (tC (.int k))) (.tup (List.replicate k x)) := fun H' g Q q => h H' g _ fun v1 x1 H1 e1 g1 r1 => by
  subst e1
  cases r1 with
  | tup ha ra =>
    cases ra with
    | @cons v t vs ts r1 rn =>
      cases rn
      refine ⟨_, [v], k, rfl, rfl, SqT.of ha, by simp, hk, by omega, by simp; omega, fun p hp => q _ _ _ rfl (g1.trans (grow_new g1.ok hp)) (.tup upd_same ?_)⟩
      have e : (List.replicate k [v]).flatten = List.replicate k v := by simp
      rw [e]
      exact (reps_rep r1 k).same (same_new hp _)
theorem sb_cut2 {a b c : T} (h : Stb st σ H₀ ta (.tup [a, b, c])) : Stb st σ H₀ (tSl (rSlT K) ta tNoPart (tPart (tC (.int 2)))) (.tup [a, b]) := fun H' g Q q => h H' g _ fun v1 x1 H1 e1 g1 r1 => by
  subst e1
  cases r1 with
  | tup ha ra =>
    cases ra with
    | @cons v _ _ _ r1 rn =>
      cases rn with
      | @cons w _ _ _ r2 rn =>
        cases rn with
        | @cons u _ _ _ r3 rn =>
          cases rn
          refine ⟨2, rfl, _, _, rfl, SqT.of ha, (by show ¬ (HT.sIx 3 0 none = 0 ∧ HT.sIx 3 3 (some 2) = 3); decide), fun p hp => q _ _ _ rfl (g1.trans (grow_new g1.ok hp)) (.tup upd_same ?_)⟩
          exact .cons (r1.same (same_new hp _)) (.cons (r2.same (same_new hp _)) .nil)
/-! ### lists of them -/
def GL (st : Addr) (t : TE) (σ : L2.St) (H : Hp) (n : Nat) (ok : T → Prop) : Prop := ∀ Q : VK, (∀ l vs xs H', AllN n ok xs → Grow st H H' → l ≠ st → H' l = some (.lst vs) → Reps H' vs xs → Q (.ref l) H') → t σ H Q
theorem gl_lst (hs : StOk H st) (h : GA st tr σ H (AllN n ok)) (hn : n ≤ 1000) : GL st (tLst tr) σ H n ok := fun Q q => gn_list hs h hn fun l vs xs H' a g n hl r _ => q l vs xs H' a g n hl r
theorem gl_cat {i m : Nat} {l : Addr} {vs : List V} {xs : List T} (hx : σ[i]? = some (some (.ref l))) (hl : H l = some (.lst vs)) (nl : l ≠ st) (r : Reps H vs xs) (ax : AllN m ok xs) (hs : StOk H st) (h : GA st tr σ H (AllN n ok)) (hn : m + n ≤ 1000) : GL st (tOp rCat (tVar i) (tLst tr)) σ H (m + n) ok := fun Q q =>
  op_var hx (gn_list hs h (by omega) fun l2 vs2 xs2 H2 a2 g2 n2 hl2 r2 _ => by
    have len1 := r.length
    have len2 := r2.length
    have a21 := a2.1
    have ax1 := ax.1
    refine ⟨l, l2, vs, vs2, rfl, rfl, g2.1 _ _ nl hl, hl2, small (by omega), fun l3 hl3 => ?_⟩
    have e3 := same_new hl3 (.lst (vs ++ vs2))
    have n3 : l3 ≠ st := fun e => by
      obtain ⟨ns, _, _, h3⟩ := g2.ok
      rw [e, h3] at hl3
      cases hl3
    refine q l3 _ (xs ++ xs2) _ ⟨by simp; omega, fun x hx => ?_⟩ (g2.trans (grow_new g2.ok hl3)) n3 upd_same (((r.grow g2 hs).append r2).same e3)
    rcases List.mem_append.mp hx with h | h
    · exact ax.2 x h
    · exact a2.2 x h)
/-- one of a list, drawn -/
theorem gp_ixn (h0 : σ[0]? = some (some (.ref st))) (hs : StOk H st) (h : GA st tr σ H (AllN n ok)) (hn : 0 < n) (hn2 : n ≤ 1000) : GP st (tOp (rIxL K) (tLst tr) (tCall spNext [] E0 (tCons (tVar 0) (tCons (tC (.int n)) tNil)))) σ H ok := fun Q q =>
  gn_list hs h hn2 fun l vs xs H1 a1 g1 n1 hl1 r1 _ => by
    refine ⟨_, h0, st, n, rfl, g1.ok, by omega, by omega, fun d H2 d0 d1 g2 => ?_⟩
    have len1 := r1.length
    have a11 := a1.1
    obtain ⟨v, hv, hm⟩ := at_any (xs := vs) d0 (by omega)
    obtain ⟨t, ht, rt⟩ := r1.mem hm
    exact ⟨l, vs, d, v, rfl, rfl, SqL.of (g2.1 _ _ n1 hl1), hv, q v t _ (a1.2 t ht) (g1.trans g2) (rt.grow g2 g1.ok)⟩
theorem kept_len22 : (keptL.map V.str).length = 22 := by decide +kernel
theorem kept_at {d : Int} (h0 : 0 ≤ d) (h1 : d < 22) : ∃ z ∈ keptL, atI (keptL.map V.str) d = some (V.str z) := by
  obtain ⟨v, hv, hm⟩ := at_any (xs := keptL.map V.str) h0 (by rw [kept_len22]; exact h1)
  obtain ⟨z, hz, e⟩ := List.mem_map.mp hm
  exact ⟨z, hz, by rw [hv, e]⟩
theorem kept_ns {p : Addr} {H H' : Hp} (g : Grow st H H') (hs : StOk H st) (h : H p = some (.lst (keptL.map V.str))) : H' p = some (.lst (keptL.map V.str)) := g.at_ hs (by intro ns e; injection e with e; cases ns <;> simp [keptL] at e) h
theorem gp_kept (h0 : σ[0]? = some (some (.ref st))) (hs : StOk H st) : GP st (tOp (rIxL K) (tCall spKept [] E0 tNil) (tCall spNext [] E0 (tCons (tVar 0) (tCons (tC (.int 22)) tNil)))) σ H (fun x => ∃ z ∈ keptL, x = .str z) := fun Q q => by
  refine ⟨rfl, fun pk H1 e1 hpk hk1 => ?_⟩
  have g1 := grow_same hs e1
  refine ⟨_, h0, st, 22, rfl, g1.ok, by decide, by decide, fun d H2 d0 d1 g2 => ?_⟩
  obtain ⟨z, hz, hv⟩ := kept_at d0 d1
  have := kept_len8 z hz
  exact ⟨pk, _, d, .str z, rfl, rfl, SqL.of (kept_ns g2 g1.ok hk1), hv, q _ (.str z) _ ⟨z, hz, rfl⟩ (g1.trans g2) (.str z (by omega))⟩
def tenL : List Int := [0, 13, 14, 15, 16, 17, 18, 19, 20, 21]
theorem ten_kept : ∀ i ∈ tenL, ∃ z ∈ keptL, atI (keptL.map V.str) i = some (V.str z) ∧ formOf z = none := by
  intro i hi
  simp only [tenL, List.mem_cons, List.not_mem_nil, or_false] at hi
  rcases hi with rfl | rfl | rfl | rfl | rfl | rfl | rfl | rfl | rfl | rfl
  · exact ⟨"num", by decide +kernel, rfl, by decide +kernel⟩
  · exact ⟨"kind", by decide +kernel, rfl, by decide +kernel⟩
  · exact ⟨"record", by decide +kernel, rfl, by decide +kernel⟩
  · exact ⟨"face", by decide +kernel, rfl, by decide +kernel⟩
  · exact ⟨"hide", by decide +kernel, rfl, by decide +kernel⟩
  · exact ⟨"val", by decide +kernel, rfl, by decide +kernel⟩
  · exact ⟨"part", by decide +kernel, rfl, by decide +kernel⟩
  · exact ⟨"maker", by decide +kernel, rfl, by decide +kernel⟩
  · exact ⟨"apply", by decide +kernel, rfl, by decide +kernel⟩
  · exact ⟨"main", by decide +kernel, rfl, by decide +kernel⟩
abbrev tTen : TA := tCons (tC (.int 0)) (tCons (tC (.int 13)) (tCons (tC (.int 14)) (tCons (tC (.int 15)) (tCons (tC (.int 16)) (tCons (tC (.int 17)) (tCons (tC (.int 18)) (tCons (tC (.int 19)) (tCons (tC (.int 20)) (tCons (tC (.int 21)) tNil)))))))))
theorem gp_kept10 (h0 : σ[0]? = some (some (.ref st))) (hs : StOk H st) : GP st (tOp (rIxL K) (tCall spKept [] E0 tNil) (tOp (rIxL K) (tLst tTen) (tCall spNext [] E0 (tCons (tVar 0) (tCons (tC (.int 10)) tNil))))) σ H (fun x => ∃ z ∈ keptL, x = .str z ∧ formOf z = none) := fun Q q => by
  refine ⟨rfl, fun pk H1 e1 hpk hk1 => ?_⟩
  have g1 := grow_same hs e1
  refine ⟨small (by show 10 ≤ 1000000; decide), fun l hl => ?_⟩
  have e2 := same_new hl (.lst (tenL.map V.int))
  have g2 : Grow st H1 (upd H1 l (.lst (tenL.map V.int))) := grow_same g1.ok e2
  have n2 : l ≠ st := fun e => by
    obtain ⟨ns, _, _, h3⟩ := g1.ok
    rw [e, h3] at hl
    cases hl
  refine ⟨_, h0, st, 10, rfl, g2.ok, by decide, by decide, fun d H3 d0 d1 g3 => ?_⟩
  obtain ⟨v, hv, hm⟩ := at_any (xs := tenL.map V.int) d0 (by simpa [tenL] using d1)
  obtain ⟨i, hi, rfl⟩ := List.mem_map.mp hm
  obtain ⟨z, hz, ha, hf⟩ := ten_kept i hi
  have := kept_len8 z hz
  refine ⟨l, _, d, .int i, rfl, rfl, SqL.of (g3.1 _ _ n2 upd_same), hv, ?_⟩
  exact ⟨pk, _, i, .str z, rfl, rfl, SqL.of (kept_ns g3 g2.ok (e2 _ _ hk1)), ha, q _ (.str z) _ ⟨z, hz, rfl, hf⟩ ((g1.trans g2).trans g3) (.str z (by omega))⟩
end
end Fw

set_option Elab.async false
set_option linter.all false
set_option maxRecDepth 100000
namespace Fw
open PySem PySem.Spec PyProof.Rows L2
abbrev s_bad_heads : Stmt := top 44
abbrev s_bad_counts : Stmt := top 45
abbrev s_bad_names : Stmt := top 46
abbrev s_bad_rows : Stmt := top 47
def BadP (x : T) : Prop := Bad kidsP x ∧ x.sz ≤ 1000
def spListS (n : Nat) : Sp := fun vs H Q _ => ∃ (st : Addr) (v1 : V) (t1 : T) (zs zg : Str), vs = [.ref st, v1, .str zs, .str zg] ∧ StOk H st ∧ Rep H v1 t1 ∧ GoodP t1 ∧ t1.sz ≤ 68 ∧ nameB zs = true ∧ zs.length ≤ 100 ∧ greatB zg = true ∧ zg.length ≤ 100 ∧
  ∀ l us xs H', AllN n BadP xs → Grow st H H' → l ≠ st → H' l = some (.lst us) → Reps H' us xs → Q (.ref l) H'
def spListC (n : Nat) : Sp := fun vs H Q _ => ∃ (st : Addr) (v1 : V) (t1 : T) (zs zg : Str), vs = [v1, .str zs, .str zg] ∧ StOk H st ∧ Rep H v1 t1 ∧ GoodP t1 ∧ t1.sz ≤ 68 ∧ nameB zs = true ∧ zs.length ≤ 100 ∧ greatB zg = true ∧ zg.length ≤ 100 ∧
  ∀ l us xs H', AllN n BadP xs → Grow st H H' → l ≠ st → H' l = some (.lst us) → Reps H' us xs → Q (.ref l) H'
section
variable {st : Addr} {ta tb : TE} {tr : TA} {σ : L2.St} {H₀ H : Hp} {v : V} {x : T} {ok : T → Prop} {n : Nat}
theorem sa_word {pz : Str → Prop} (h0 : σ[0]? = some (some (.ref st))) (hok : ∀ z, pz z → ok (.str z)) (h2 : SA st σ H₀ ok n tr) : SA st σ H₀ ok (n + 1) (tCons (tCall (spStr pz) [] E0 (tCons (tVar 0) tNil)) tr) :=
  sa_call (p := fun x => ∃ z, x = .str z ∧ pz z) (fun H' g => gp_call g.ok h0) (fun x ⟨z, e, hz⟩ => by subst e; exact hok z hz) h2
theorem sa_pair {pz : Str → Prop} (hx : Stb st σ H₀ tb x) (h0 : σ[0]? = some (some (.ref st))) (hok : ∀ z, pz z → ok (.tup [.str z, x])) (h2 : SA st σ H₀ ok n tr) : SA st σ H₀ ok (n + 1) (tCons (tTup (tCons (tCall (spStr pz) [] E0 (tCons (tVar 0) tNil)) (tCons tb tNil))) tr) :=
  sa_call (p := fun y => ∃ z, y = .tup [.str z, x] ∧ pz z) (fun H' g => gp_imp (gp_tup (ps := fun l => ∃ z, l = [.str z, x] ∧ pz z) (ga_imp (ga_cons (gp_call (pz := pz) g.ok h0) fun H2 g2 => ga_cons (hx H2 (g.trans g2)) fun H3 g3 => ga_nil g3.ok)
        (fun l ⟨y, xs, e, ⟨z, ez, hz⟩, y2, ys, e2, ey, eys⟩ => by subst e ez e2 ey eys; exact ⟨z, rfl, hz⟩)) (fun l ⟨z, e, _⟩ => by subst e; simp)) (fun y ⟨l, e, z, e2, hz⟩ => by subst e e2; exact ⟨z, rfl, hz⟩))
    (fun y ⟨z, e, hz⟩ => by subst e; exact hok z hz) h2
end
section
variable {P : Program} {w : World} {K : PySem.W.Frag} {mg : Str → Option Value} {base : Heap} {f : Addr} {fd : FuncData}
theorem sc_bad_heads : FnScope ["_law_state", "_law_one", "_law_small_here", "_law_great_here", "_law_kept_here", "_law_other", "_law_bad"] ["_law_state", "_law_one", "_law_small_here", "_law_great_here"] (defScope s_bad_heads) := ⟨rfl, rfl, rfl, by decide +kernel, rfl, by decide +kernel, by decide +kernel⟩
set_option maxHeartbeats 1000000 in
theorem ok_bad_heads (F : Fun K "_law_bad_heads" "_law_bad_heads" s_bad_heads f fd) (h1 : Has P w K mg base 1 "_law_next" ["_law_state", "_law_many"] spNext) (h2 : Has P w K mg base 3 "_law_variable" ["_law_state"] (spStr fun z => varB z = true)) (h3 : Has P w K mg base 4 "_law_path" ["_law_state"] (spStr fun z => pathB z = true)) (h4 : Has P w K mg base 1 "_law_kept" [] spKept) : FnOk P w K mg base CX0 5 f fd ["_law_state", "_law_one", "_law_small_here", "_law_great_here"] (spListS 14) := by
  refine F.ok sc_bad_heads (fun vs H Q E h => ?_) (fun cdv A outer s H vs Q E hr h => ?_)
  · obtain ⟨st, v1, t1, zs, zg, rfl, _⟩ := h
    rfl
  obtain ⟨st, v1, t1, zs, zg, rfl, hs, r1, k1, b1, hzs, lzs, hzg, lzg, q⟩ := h
  refine ⟨_, (pss_cons (ps_set (i := 4) sc_bad_heads.nd rfl (Or.inl rfl) (pe_ix ix_list (pcall0 h4 hr (by decide) rfl) (pe_ix ix_list (pe_lst (pa_cons pe_int (pa_cons pe_int (pa_cons pe_int (pa_cons pe_int (pa_cons pe_int (pa_cons pe_int (pa_cons pe_int (pa_cons pe_int (pa_cons pe_int (pa_cons pe_int pa_nil))))))))))) (pcall h1 hr (by decide) rfl (pa_cons (pv 0) (pa_cons pe_int pa_nil))) (fun _ _ => rfl)) (fun _ _ => rfl)))
    (pss_cons (ps_set (i := 5) sc_bad_heads.nd rfl (Or.inl rfl) (pe_ix ix_list (pcall0 h4 hr (by decide) rfl) (pcall h1 hr (by decide) rfl (pa_cons (pv 0) (pa_cons pe_int pa_nil))) (fun _ _ => rfl)))
    (pss_cons (ps_set (i := 6) sc_bad_heads.nd rfl (Or.inl rfl) (pe_lst (pa_cons (pv 5) (pa_cons pe_str (pa_cons (pcall h2 hr (by decide) rfl (pa_cons (pv 0) pa_nil)) (pa_cons (pe_tup pa_nil) (pa_cons (pe_tup (pa_cons (pv 3) pa_nil)) (pa_cons (pe_tup (pa_cons (pv 2) pa_nil)) (pa_cons (pe_tup (pa_cons (pv 4) (pa_cons (pv 1) pa_nil))) (pa_cons (pe_tup (pa_cons pe_str (pa_cons (pv 1) (pa_cons (pv 1) pa_nil)))) (pa_cons (pe_tup (pa_cons (pv 2) (pa_cons (pv 1) pa_nil))) pa_nil)))))))))))
    (pss_one (ps_ret (pe_op op_cat (pv 6) (pe_lst (pa_cons (pe_tup (pa_cons (pcall h3 hr (by decide) rfl (pa_cons (pv 0) pa_nil)) (pa_cons (pv 1) pa_nil))) (pa_cons (pe_tup (pa_cons (pcall h2 hr (by decide) rfl (pa_cons (pv 0) pa_nil)) (pa_cons (pv 1) pa_nil))) (pa_cons (pe_tup (pa_cons pe_int (pa_cons (pv 1) pa_nil))) (pa_cons (pe_tup (pa_cons (pe_tup (pa_cons (pv 2) (pa_cons (pv 1) pa_nil))) (pa_cons (pv 1) pa_nil))) (pa_cons (pe_tup (pa_cons (pv 4) pa_nil)) pa_nil)))))))))))), ?_⟩
  refine sq_set (gp_kept10 rfl hs _ fun v4 x4 H1 ⟨zk, hzk, e4, f4⟩ g1 r4 => ?_)
  subst e4
  refine sq_set (gp_kept rfl g1.ok _ fun v5 x5 H2 ⟨zo, hzo, e5⟩ g2 r5 => ?_)
  subst e5
  have gg := g1.trans g2
  have S0 := gg.ok
  have wn := w_name hzs
  have wk := w_kept hzk
  have one : ∀ {o : Option V}, Stb st [some (.ref st), some v1, some (.str zs), some (.str zg), some v4, some v5, o] H2 (tVar 1) t1 := sb_var S0 rfl (r1.grow gg hs)
  have nam : ∀ {o : Option V}, Stb st [some (.ref st), some v1, some (.str zs), some (.str zg), some v4, some v5, o] H2 (tVar 2) (.str zs) := sb_var S0 rfl (.str zs (by omega))
  have grt : ∀ {o : Option V}, Stb st [some (.ref st), some v1, some (.str zs), some (.str zg), some v4, some v5, o] H2 (tVar 3) (.str zg) := sb_var S0 rfl (.str zg (by omega))
  have kep : ∀ {o : Option V}, Stb st [some (.ref st), some v1, some (.str zs), some (.str zg), some v4, some v5, o] H2 (tVar 4) (.str zk) := sb_var S0 rfl (r4.grow g2 g1.ok)
  have oth : ∀ {o : Option V}, Stb st [some (.ref st), some v1, some (.str zs), some (.str zg), some v4, some v5, o] H2 (tVar 5) (.str zo) := sb_var S0 rfl r5
  -- 9 more
  show tSeq _ _ _ [some (.ref st), some v1, some (.str zs), some (.str zg), some v4, some v5, none] H2
  refine sq_set (gl_lst (n := 9) (ok := BadP) S0 ((sa_cons (n := 8) (H₀ := H2) oth ⟨badP_leaf (w_kept hzo).2.2, by (simp [T.sz, szs, szs_app, List.replicate] <;> omega)⟩
      (sa_cons sb_str ⟨badP_leaf w_arrow.2.2, by (simp [T.sz, szs, szs_app, List.replicate] <;> omega)⟩
      (sa_word rfl (fun z hz => ⟨badP_leaf (w_var hz).2.2.2, by (simp [T.sz, szs, szs_app, List.replicate] <;> omega)⟩)
      (sa_cons (sb_tup sba_nil) ⟨.none rfl, by (simp [T.sz, szs, szs_app, List.replicate] <;> omega)⟩
      (sa_cons (sb_tup (sba_cons grt sba_nil)) ⟨badP_great hzg rfl, by (simp [T.sz, szs, szs_app, List.replicate] <;> omega)⟩
      (sa_cons (sb_tup (sba_cons nam sba_nil)) ⟨badP_nohead wn, by (simp [T.sz, szs, szs_app, List.replicate] <;> omega)⟩
      (sa_cons (sb_tup (sba_cons kep (sba_cons one sba_nil))) ⟨badP_nohead ⟨wk.1, f4⟩, by (simp [T.sz, szs, szs_app, List.replicate] <;> omega)⟩
      (sa_cons (sb_tup (sba_cons sb_str (sba_cons one (sba_cons one sba_nil)))) ⟨badP_nohead ⟨w_arrow.1, w_arrow.2.1⟩, by (simp [T.sz, szs, szs_app, List.replicate] <;> omega)⟩
      (sa_cons (sb_tup (sba_cons nam (sba_cons one sba_nil))) ⟨badP_nohead wn, by (simp [T.sz, szs, szs_app, List.replicate] <;> omega)⟩
      sa_nil))))))))) H2 (Grow.refl S0)) (by decide) _ fun la vsa xsa Ha aa ga na hla ra => ?_)
  have gt0 := ga
  -- 5 more
  show tOp _ _ _ [some (.ref st), some v1, some (.str zs), some (.str zg), some v4, some v5, some (.ref la)] Ha _
  refine gl_cat (i := 6) (m := 9) (n := 5) (ok := BadP) rfl hla na ra aa gt0.ok ((sa_pair (n := 4) (H₀ := H2) one rfl (fun z hz => ⟨badP_nohead ⟨(w_path hz).1, (w_path hz).2.1⟩, by (simp [T.sz, szs, szs_app, List.replicate] <;> omega)⟩)
      (sa_pair one rfl (fun z hz => ⟨badP_nohead ⟨(w_var hz).1, (w_var hz).2.1⟩, by (simp [T.sz, szs, szs_app, List.replicate] <;> omega)⟩)
      (sa_cons (sb_tup (sba_cons sb_int (sba_cons one sba_nil))) ⟨.none rfl, by (simp [T.sz, szs, szs_app, List.replicate] <;> omega)⟩
      (sa_cons (sb_tup (sba_cons (sb_tup (sba_cons nam (sba_cons one sba_nil))) (sba_cons one sba_nil))) ⟨.none rfl, by (simp [T.sz, szs, szs_app, List.replicate] <;> omega)⟩
      (sa_cons (sb_tup (sba_cons kep sba_nil)) ⟨badP_nohead ⟨wk.1, f4⟩, by (simp [T.sz, szs, szs_app, List.replicate] <;> omega)⟩
      sa_nil))))) Ha gt0) (by decide) _ fun lb vsb xsb Hb ab gb nb hlb rb => ?_
  have gt1 := gt0.trans gb
  exact q lb vsb xsb Hb ab (gg.trans gt1) nb hlb rb
theorem sc_bad_counts : FnScope ["_law_one", "_law_small_here", "_law_great_here", "_law_bad"] ["_law_one", "_law_small_here", "_law_great_here"] (defScope s_bad_counts) := ⟨rfl, rfl, rfl, by decide +kernel, rfl, by decide +kernel, by decide +kernel⟩
set_option maxHeartbeats 1000000 in
theorem ok_bad_counts (F : Fun K "_law_bad_counts" "_law_bad_counts" s_bad_counts f fd) : FnOk P w K mg base CX0 1 f fd ["_law_one", "_law_small_here", "_law_great_here"] (spListC 17) := by
  refine F.ok sc_bad_counts (fun vs H Q E h => ?_) (fun cdv A outer s H vs Q E hr h => ?_)
  · obtain ⟨st, v1, t1, zs, zg, rfl, _⟩ := h
    rfl
  obtain ⟨st, v1, t1, zs, zg, rfl, hs, r1, k1, b1, hzs, lzs, hzg, lzg, q⟩ := h
  refine ⟨_, (pss_cons (ps_set (i := 3) sc_bad_counts.nd rfl (Or.inl rfl) (pe_lst (pa_cons (pe_tup (pa_cons pe_str (pa_cons (pv 1) pa_nil))) (pa_cons (pe_tup (pa_cons pe_str (pa_cons (pv 1) (pa_cons (pv 0) (pa_cons (pv 0) pa_nil))))) (pa_cons (pe_tup (pa_cons pe_str (pa_cons (pv 0) pa_nil))) (pa_cons (pe_tup (pa_cons pe_str (pa_cons (pv 0) (pa_cons (pv 0) (pa_cons (pv 0) pa_nil))))) (pa_cons (pe_tup (pa_cons pe_str (pa_cons (pv 1) (pa_cons (pv 0) pa_nil)))) pa_nil)))))))
    (pss_cons (ps_set (i := 3) sc_bad_counts.nd rfl (Or.inl rfl) (pe_op op_cat (pv 3) (pe_lst (pa_cons (pe_tup (pa_cons pe_str (pa_cons (pv 1) (pa_cons (pv 0) (pa_cons (pv 0) (pa_cons (pv 0) pa_nil)))))) (pa_cons (pe_tup (pa_cons pe_str (pa_cons (pv 1) pa_nil))) (pa_cons (pe_op op_catT (pe_tup (pa_cons pe_str (pa_cons (pv 1) pa_nil))) (pe_op op_repT (pe_tup (pa_cons (pv 0) pa_nil)) pe_int)) (pa_cons (pe_tup (pa_cons pe_str (pa_cons (pv 1) pa_nil))) pa_nil)))))))
    (pss_cons (ps_set (i := 3) sc_bad_counts.nd rfl (Or.inl rfl) (pe_op op_cat (pv 3) (pe_lst (pa_cons (pe_tup (pa_cons pe_str (pa_cons (pv 1) (pa_cons (pv 0) (pa_cons (pv 0) pa_nil))))) (pa_cons (pe_tup (pa_cons pe_str (pa_cons (pv 0) pa_nil))) (pa_cons (pe_tup (pa_cons pe_str (pa_cons (pv 0) (pa_cons (pv 0) (pa_cons (pv 0) pa_nil))))) (pa_cons (pe_tup (pa_cons pe_str pa_nil)) (pa_cons (pe_tup (pa_cons pe_str (pa_cons (pv 0) pa_nil))) pa_nil))))))))
    (pss_one (ps_ret (pe_op op_cat (pv 3) (pe_lst (pa_cons (pe_tup (pa_cons pe_str (pa_cons (pv 0) (pa_cons (pv 0) pa_nil)))) (pa_cons (pe_op op_catT (pe_tup (pa_cons pe_str pa_nil)) (pe_op op_repT (pe_tup (pa_cons (pv 0) pa_nil)) pe_int)) (pa_cons (pe_op op_catT (pe_tup (pa_cons (pv 2) pa_nil)) (pe_op op_repT (pe_tup (pa_cons (pv 0) pa_nil)) pe_int)) pa_nil)))))))))), ?_⟩
  have S0 := hs
  have one : ∀ {o : Option V}, Stb st [some v1, some (.str zs), some (.str zg), o] H (tVar 0) t1 := sb_var S0 rfl r1
  have nam : ∀ {o : Option V}, Stb st [some v1, some (.str zs), some (.str zg), o] H (tVar 1) (.str zs) := sb_var S0 rfl (.str zs (by omega))
  have grt : ∀ {o : Option V}, Stb st [some v1, some (.str zs), some (.str zg), o] H (tVar 2) (.str zg) := sb_var S0 rfl (.str zg (by omega))
  -- 5 more
  show tSeq _ _ _ [some v1, some (.str zs), some (.str zg), none] H
  refine sq_set (gl_lst (n := 5) (ok := BadP) S0 ((sa_cons (n := 4) (H₀ := H) (sb_tup (sba_cons sb_str (sba_cons nam sba_nil))) ⟨badP_form form_fun.1 form_fun.2 rfl, by (simp [T.sz, szs, szs_app, List.replicate] <;> omega)⟩
      (sa_cons (sb_tup (sba_cons sb_str (sba_cons nam (sba_cons one (sba_cons one sba_nil))))) ⟨badP_form form_fun.1 form_fun.2 rfl, by (simp [T.sz, szs, szs_app, List.replicate] <;> omega)⟩
      (sa_cons (sb_tup (sba_cons sb_str (sba_cons one sba_nil))) ⟨badP_form (form_two "call" (by decide +kernel)).1 (form_two "call" (by decide +kernel)).2 rfl, by (simp [T.sz, szs, szs_app, List.replicate] <;> omega)⟩
      (sa_cons (sb_tup (sba_cons sb_str (sba_cons one (sba_cons one (sba_cons one sba_nil))))) ⟨badP_form (form_two "call" (by decide +kernel)).1 (form_two "call" (by decide +kernel)).2 rfl, by (simp [T.sz, szs, szs_app, List.replicate] <;> omega)⟩
      (sa_cons (sb_tup (sba_cons sb_str (sba_cons nam (sba_cons one sba_nil)))) ⟨badP_form form_let.1 form_let.2 rfl, by (simp [T.sz, szs, szs_app, List.replicate] <;> omega)⟩
      sa_nil))))) H (Grow.refl S0)) (by decide) _ fun la vsa xsa Ha aa ga na hla ra => ?_)
  have gt0 := ga
  -- 4 more
  show tSeq _ _ _ [some v1, some (.str zs), some (.str zg), some (.ref la)] Ha
  refine sq_set (gl_cat (i := 3) (m := 5) (n := 4) (ok := BadP) rfl hla na ra aa gt0.ok ((sa_cons (n := 3) (H₀ := H) (sb_tup (sba_cons sb_str (sba_cons nam (sba_cons one (sba_cons one (sba_cons one sba_nil)))))) ⟨badP_form form_let.1 form_let.2 rfl, by (simp [T.sz, szs, szs_app, List.replicate] <;> omega)⟩
      (sa_cons (sb_tup (sba_cons sb_str (sba_cons nam sba_nil))) ⟨badP_form form_make.1 form_make.2 rfl, by (simp [T.sz, szs, szs_app, List.replicate] <;> omega)⟩
      (sa_cons (sb_cat (sb_tup (sba_cons sb_str (sba_cons nam sba_nil))) (sb_rep (k := 5) (sb_tup (sba_cons one sba_nil)) (by decide) (by decide)) (by simp) (by simp)) ⟨badP_form form_make.1 form_make.2 rfl, by (simp [T.sz, szs, szs_app, List.replicate] <;> omega)⟩
      (sa_cons (sb_tup (sba_cons sb_str (sba_cons nam sba_nil))) ⟨badP_form form_pick.1 form_pick.2 rfl, by (simp [T.sz, szs, szs_app, List.replicate] <;> omega)⟩
      sa_nil)))) Ha gt0) (by decide) _ fun lb vsb xsb Hb ab gb nb hlb rb => ?_)
  have gt1 := gt0.trans gb
  -- 5 more
  show tSeq _ _ _ [some v1, some (.str zs), some (.str zg), some (.ref lb)] Hb
  refine sq_set (gl_cat (i := 3) (m := 9) (n := 5) (ok := BadP) rfl hlb nb rb ab gt1.ok ((sa_cons (n := 4) (H₀ := H) (sb_tup (sba_cons sb_str (sba_cons nam (sba_cons one (sba_cons one sba_nil))))) ⟨badP_form form_pick.1 form_pick.2 rfl, by (simp [T.sz, szs, szs_app, List.replicate] <;> omega)⟩
      (sa_cons (sb_tup (sba_cons sb_str (sba_cons one sba_nil))) ⟨badP_form (form_two "plus" (by decide +kernel)).1 (form_two "plus" (by decide +kernel)).2 rfl, by (simp [T.sz, szs, szs_app, List.replicate] <;> omega)⟩
      (sa_cons (sb_tup (sba_cons sb_str (sba_cons one (sba_cons one (sba_cons one sba_nil))))) ⟨badP_form (form_two "less" (by decide +kernel)).1 (form_two "less" (by decide +kernel)).2 rfl, by (simp [T.sz, szs, szs_app, List.replicate] <;> omega)⟩
      (sa_cons (sb_tup (sba_cons sb_str sba_nil)) ⟨badP_form (form_two "times" (by decide +kernel)).1 (form_two "times" (by decide +kernel)).2 rfl, by (simp [T.sz, szs, szs_app, List.replicate] <;> omega)⟩
      (sa_cons (sb_tup (sba_cons sb_str (sba_cons one sba_nil))) ⟨badP_form (form_two "minus" (by decide +kernel)).1 (form_two "minus" (by decide +kernel)).2 rfl, by (simp [T.sz, szs, szs_app, List.replicate] <;> omega)⟩
      sa_nil))))) Hb gt1) (by decide) _ fun lc vsc xsc Hc ac gc nc hlc rc => ?_)
  have gt2 := gt1.trans gc
  -- 3 more
  show tOp _ _ _ [some v1, some (.str zs), some (.str zg), some (.ref lc)] Hc _
  refine gl_cat (i := 3) (m := 14) (n := 3) (ok := BadP) rfl hlc nc rc ac gt2.ok ((sa_cons (n := 2) (H₀ := H) (sb_tup (sba_cons sb_str (sba_cons one (sba_cons one sba_nil)))) ⟨badP_form form_if.1 form_if.2 rfl, by (simp [T.sz, szs, szs_app, List.replicate] <;> omega)⟩
      (sa_cons (sb_cat (sb_tup (sba_cons sb_str sba_nil)) (sb_rep (k := 4) (sb_tup (sba_cons one sba_nil)) (by decide) (by decide)) (by simp) (by simp)) ⟨badP_form form_if.1 form_if.2 rfl, by (simp [T.sz, szs, szs_app, List.replicate] <;> omega)⟩
      (sa_cons (sb_cat (sb_tup (sba_cons grt sba_nil)) (sb_rep (k := 5) (sb_tup (sba_cons one sba_nil)) (by decide) (by decide)) (by simp) (by simp)) ⟨badP_great hzg rfl, by (simp [T.sz, szs, szs_app, List.replicate] <;> omega)⟩
      sa_nil))) Hc gt2) (by decide) _ fun ld vsd xsd Hd ad gd nd hld rd => ?_
  have gt3 := gt2.trans gd
  exact q ld vsd xsd Hd ad gt3 nd hld rd
theorem sc_bad_names : FnScope ["_law_state", "_law_one", "_law_small_here", "_law_great_here", "_law_kept_here", "_law_odd", "_law_no_tag", "_law_bad"] ["_law_state", "_law_one", "_law_small_here", "_law_great_here"] (defScope s_bad_names) := ⟨rfl, rfl, rfl, by decide +kernel, rfl, by decide +kernel, by decide +kernel⟩
set_option maxHeartbeats 1000000 in
theorem ok_bad_names (F : Fun K "_law_bad_names" "_law_bad_names" s_bad_names f fd) (h1 : Has P w K mg base 1 "_law_next" ["_law_state", "_law_many"] spNext) (h2 : Has P w K mg base 3 "_law_variable" ["_law_state"] (spStr fun z => varB z = true)) (h3 : Has P w K mg base 4 "_law_path" ["_law_state"] (spStr fun z => pathB z = true)) (h4 : Has P w K mg base 1 "_law_kept" [] spKept) : FnOk P w K mg base CX0 5 f fd ["_law_state", "_law_one", "_law_small_here", "_law_great_here"] (spListS 8) := by
  refine F.ok sc_bad_names (fun vs H Q E h => ?_) (fun cdv A outer s H vs Q E hr h => ?_)
  · obtain ⟨st, v1, t1, zs, zg, rfl, _⟩ := h
    rfl
  obtain ⟨st, v1, t1, zs, zg, rfl, hs, r1, k1, b1, hzs, lzs, hzg, lzg, q⟩ := h
  refine ⟨_, (pss_cons (ps_set (i := 4) sc_bad_names.nd rfl (Or.inl rfl) (pe_ix ix_list (pcall0 h4 hr (by decide) rfl) (pcall h1 hr (by decide) rfl (pa_cons (pv 0) (pa_cons pe_int pa_nil))) (fun _ _ => rfl)))
    (pss_cons (ps_set (i := 5) sc_bad_names.nd rfl (Or.inl rfl) (pe_ix ix_list (pe_lst (pa_cons (pv 4) (pa_cons (pv 3) (pa_cons (pcall h3 hr (by decide) rfl (pa_cons (pv 0) pa_nil)) (pa_cons (pcall h2 hr (by decide) rfl (pa_cons (pv 0) pa_nil)) (pa_cons pe_int (pa_cons (pe_tup (pa_cons (pv 2) pa_nil)) pa_nil))))))) (pcall h1 hr (by decide) rfl (pa_cons (pv 0) (pa_cons pe_int pa_nil))) (fun _ _ => rfl)))
    (pss_cons (ps_set (i := 6) sc_bad_names.nd rfl (Or.inl rfl) (pe_ix ix_list (pe_lst (pa_cons (pv 4) (pa_cons (pv 2) (pa_cons (pcall h3 hr (by decide) rfl (pa_cons (pv 0) pa_nil)) (pa_cons (pcall h2 hr (by decide) rfl (pa_cons (pv 0) pa_nil)) (pa_cons pe_int (pa_cons (pe_tup (pa_cons (pv 3) pa_nil)) pa_nil))))))) (pcall h1 hr (by decide) rfl (pa_cons (pv 0) (pa_cons pe_int pa_nil))) (fun _ _ => rfl)))
    (pss_cons (ps_set (i := 7) sc_bad_names.nd rfl (Or.inl rfl) (pe_lst (pa_cons (pe_tup (pa_cons pe_str (pa_cons (pv 5) (pa_cons (pv 1) pa_nil)))) (pa_cons (pe_tup (pa_cons pe_str (pa_cons (pv 5) (pa_cons (pv 1) (pa_cons (pv 1) pa_nil))))) (pa_cons (pe_tup (pa_cons pe_str (pa_cons (pv 5) (pa_cons (pv 1) pa_nil)))) (pa_cons (pe_tup (pa_cons pe_str (pa_cons (pv 5) (pa_cons (pv 1) pa_nil)))) pa_nil))))))
    (pss_cons (ps_set (i := 7) sc_bad_names.nd rfl (Or.inl rfl) (pe_op op_cat (pv 7) (pe_lst (pa_cons (pe_tup (pa_cons pe_str (pa_cons (pe_tup (pa_cons (pe_tup (pa_cons (pv 5) (pa_cons (pv 2) (pa_cons (pv 1) pa_nil)))) pa_nil)) (pa_cons (pv 1) pa_nil)))) (pa_cons (pe_tup (pa_cons pe_str (pa_cons (pe_tup (pa_cons (pe_tup (pa_cons (pv 2) (pa_cons (pv 5) (pa_cons (pv 1) pa_nil)))) pa_nil)) (pa_cons (pv 1) pa_nil)))) pa_nil)))))
    (pss_one (ps_ret (pe_op op_cat (pv 7) (pe_lst (pa_cons (pe_tup (pa_cons pe_str (pa_cons (pv 1) (pa_cons (pe_tup (pa_cons (pe_tup (pa_cons (pv 3) (pa_cons (pv 5) pa_nil))) (pa_cons (pv 1) pa_nil))) pa_nil)))) (pa_cons (pe_tup (pa_cons pe_str (pa_cons (pv 1) (pa_cons (pe_tup (pa_cons (pe_tup (pa_cons (pv 6) (pa_cons (pv 2) pa_nil))) (pa_cons (pv 1) pa_nil))) pa_nil)))) pa_nil))))))))))), ?_⟩
  refine sq_set (gp_kept rfl hs _ fun v4 x4 H1 ⟨zk, hzk, e4⟩ g1 r4 => ?_)
  subst e4
  have wk := w_kept hzk
  have S0 := g1.ok
  have nam : ∀ {o o2 o3 : Option V}, Stb st [some (.ref st), some v1, some (.str zs), some (.str zg), some v4, o, o2, o3] H1 (tVar 2) (.str zs) := sb_var S0 rfl (.str zs (by omega))
  have grt : ∀ {o o2 o3 : Option V}, Stb st [some (.ref st), some v1, some (.str zs), some (.str zg), some v4, o, o2, o3] H1 (tVar 3) (.str zg) := sb_var S0 rfl (.str zg (by omega))
  have kep : ∀ {o o2 o3 : Option V}, Stb st [some (.ref st), some v1, some (.str zs), some (.str zg), some v4, o, o2, o3] H1 (tVar 4) (.str zk) := sb_var S0 rfl r4
  show tSeq _ _ _ [some (.ref st), some v1, some (.str zs), some (.str zg), some v4, none, none, none] H1
  refine sq_set (gp_ixn (n := 6) (ok := fun x => onStr nameB x = false ∧ x.sz ≤ 2) rfl S0 ((sa_cons (n := 5) (H₀ := H1) kep ⟨wk.2.1, by (simp [T.sz, szs, szs_app, List.replicate] <;> omega)⟩
      (sa_cons grt ⟨w_great hzg, by (simp [T.sz, szs, szs_app, List.replicate] <;> omega)⟩
      (sa_word rfl (fun z hz => ⟨(w_path hz).2.2, by (simp [T.sz, szs, szs_app, List.replicate] <;> omega)⟩)
      (sa_word rfl (fun z hz => ⟨(w_var hz).2.2.1, by (simp [T.sz, szs, szs_app, List.replicate] <;> omega)⟩)
      (sa_cons sb_int ⟨rfl, by (simp [T.sz, szs, szs_app, List.replicate] <;> omega)⟩
      (sa_cons (sb_tup (sba_cons nam sba_nil)) ⟨rfl, by (simp [T.sz, szs, szs_app, List.replicate] <;> omega)⟩
      sa_nil)))))) H1 (Grow.refl S0)) (by decide) (by decide) _ fun v5 x5 H2 ⟨n5, z5⟩ g2 r5 => ?_)
  show tSeq _ _ _ [some (.ref st), some v1, some (.str zs), some (.str zg), some v4, some v5, none, none] H2
  refine sq_set (gp_ixn (n := 6) (ok := fun x => onStr greatB x = false ∧ x.sz ≤ 2) rfl g2.ok ((sa_cons (n := 5) (H₀ := H1) kep ⟨wk.1, by (simp [T.sz, szs, szs_app, List.replicate] <;> omega)⟩
      (sa_cons nam ⟨(w_name hzs).1, by (simp [T.sz, szs, szs_app, List.replicate] <;> omega)⟩
      (sa_word rfl (fun z hz => ⟨(w_path hz).1, by (simp [T.sz, szs, szs_app, List.replicate] <;> omega)⟩)
      (sa_word rfl (fun z hz => ⟨(w_var hz).1, by (simp [T.sz, szs, szs_app, List.replicate] <;> omega)⟩)
      (sa_cons sb_int ⟨rfl, by (simp [T.sz, szs, szs_app, List.replicate] <;> omega)⟩
      (sa_cons (sb_tup (sba_cons grt sba_nil)) ⟨rfl, by (simp [T.sz, szs, szs_app, List.replicate] <;> omega)⟩
      sa_nil)))))) H2 g2) (by decide) (by decide) _ fun v6 x6 H3 ⟨n6, z6⟩ g3 r6 => ?_)
  have gg := (g1.trans g2).trans g3
  replace S0 := gg.ok
  clear nam grt kep
  have one : ∀ {o : Option V}, Stb st [some (.ref st), some v1, some (.str zs), some (.str zg), some v4, some v5, some v6, o] H3 (tVar 1) t1 := sb_var S0 rfl (r1.grow gg hs)
  have nam : ∀ {o : Option V}, Stb st [some (.ref st), some v1, some (.str zs), some (.str zg), some v4, some v5, some v6, o] H3 (tVar 2) (.str zs) := sb_var S0 rfl (.str zs (by omega))
  have grt : ∀ {o : Option V}, Stb st [some (.ref st), some v1, some (.str zs), some (.str zg), some v4, some v5, some v6, o] H3 (tVar 3) (.str zg) := sb_var S0 rfl (.str zg (by omega))
  have odd : ∀ {o : Option V}, Stb st [some (.ref st), some v1, some (.str zs), some (.str zg), some v4, some v5, some v6, o] H3 (tVar 5) x5 := sb_var S0 rfl (r5.grow g3 g2.ok)
  have ntg : ∀ {o : Option V}, Stb st [some (.ref st), some v1, some (.str zs), some (.str zg), some v4, some v5, some v6, o] H3 (tVar 6) x6 := sb_var S0 rfl r6
  have nof0 : ∀ t, kidsF 0 [x5, t] = none := fun t => by show (if _ = true then _ else _) = _; rw [if_neg (by rw [n5]; exact Bool.false_ne_true)]
  have nof2 : ∀ t u, kidsF 2 [x5, t, u] = none := fun t u => by show (if _ = true then _ else _) = _; rw [if_neg (by rw [n5]; exact Bool.false_ne_true)]
  have nof5 : ∀ t, kidsF 5 [x5, t] = none := fun t => by show (if _ = true then _ else _) = _; rw [if_neg (by rw [n5, Bool.and_false]; exact Bool.false_ne_true)]
  have nofr : ∀ a b c t, (onStr nameB a && onStr nameB b) = false → kidsF 3 [.tup [.tup [a, b, c]], t] = none := fun a b c t h => by
    show (if (lenIn 1 4 [T.tup [a, b, c]] && ((onStr nameB a && onStr nameB b) && true)) = true then _ else _) = _
    rw [h, if_neg (by simp)]
  have nofc : ∀ a b c t, (onStr greatB a && onStr nameB b) = false → kidsF 4 [t, .tup [.tup [a, b], c]] = none := fun a b c t h => by
    show (if (lenIn 1 6 [T.tup [T.tup [a, b], c]] && ((decide (1 ≤ 4) && (onStr greatB a && (onStr nameB b && true))) && true)) = true then _ else _) = _
    rw [Bool.and_true (onStr nameB b), h, if_neg (by simp)]
  -- 4 more
  show tSeq _ _ _ [some (.ref st), some v1, some (.str zs), some (.str zg), some v4, some v5, some v6, none] H3
  refine sq_set (gl_lst (n := 4) (ok := BadP) S0 ((sa_cons (n := 3) (H₀ := H3) (sb_tup (sba_cons sb_str (sba_cons odd (sba_cons one sba_nil)))) ⟨badP_form form_fun.1 form_fun.2 (nof0 _), by (simp [T.sz, szs, szs_app, List.replicate] <;> omega)⟩
      (sa_cons (sb_tup (sba_cons sb_str (sba_cons odd (sba_cons one (sba_cons one sba_nil))))) ⟨badP_form form_let.1 form_let.2 (nof2 _ _), by (simp [T.sz, szs, szs_app, List.replicate] <;> omega)⟩
      (sa_cons (sb_tup (sba_cons sb_str (sba_cons odd (sba_cons one sba_nil)))) ⟨badP_form form_make.1 form_make.2 (nof5 _), by (simp [T.sz, szs, szs_app, List.replicate] <;> omega)⟩
      (sa_cons (sb_tup (sba_cons sb_str (sba_cons odd (sba_cons one sba_nil)))) ⟨badP_form form_pick.1 form_pick.2 (nof0 _), by (simp [T.sz, szs, szs_app, List.replicate] <;> omega)⟩
      sa_nil)))) H3 (Grow.refl S0)) (by decide) _ fun la vsa xsa Ha aa ga na hla ra => ?_)
  have gt0 := ga
  -- 2 more
  show tSeq _ _ _ [some (.ref st), some v1, some (.str zs), some (.str zg), some v4, some v5, some v6, some (.ref la)] Ha
  refine sq_set (gl_cat (i := 7) (m := 4) (n := 2) (ok := BadP) rfl hla na ra aa gt0.ok ((sa_cons (n := 1) (H₀ := H3) (sb_tup (sba_cons sb_str (sba_cons (sb_tup (sba_cons (sb_tup (sba_cons odd (sba_cons nam (sba_cons one sba_nil)))) sba_nil)) (sba_cons one sba_nil)))) ⟨badP_form form_ring.1 form_ring.2 (nofr _ _ _ _ (by rw [n5]; rfl)), by (simp [T.sz, szs, szs_app, List.replicate] <;> omega)⟩
      (sa_cons (sb_tup (sba_cons sb_str (sba_cons (sb_tup (sba_cons (sb_tup (sba_cons nam (sba_cons odd (sba_cons one sba_nil)))) sba_nil)) (sba_cons one sba_nil)))) ⟨badP_form form_ring.1 form_ring.2 (nofr _ _ _ _ (by rw [n5, Bool.and_false])), by (simp [T.sz, szs, szs_app, List.replicate] <;> omega)⟩
      sa_nil)) Ha gt0) (by decide) _ fun lb vsb xsb Hb ab gb nb hlb rb => ?_)
  have gt1 := gt0.trans gb
  -- 2 more
  show tOp _ _ _ [some (.ref st), some v1, some (.str zs), some (.str zg), some v4, some v5, some v6, some (.ref lb)] Hb _
  refine gl_cat (i := 7) (m := 6) (n := 2) (ok := BadP) rfl hlb nb rb ab gt1.ok ((sa_cons (n := 1) (H₀ := H3) (sb_tup (sba_cons sb_str (sba_cons one (sba_cons (sb_tup (sba_cons (sb_tup (sba_cons grt (sba_cons odd sba_nil))) (sba_cons one sba_nil))) sba_nil)))) ⟨badP_form form_case.1 form_case.2 (nofc _ _ _ _ (by rw [n5, Bool.and_false])), by (simp [T.sz, szs, szs_app, List.replicate] <;> omega)⟩
      (sa_cons (sb_tup (sba_cons sb_str (sba_cons one (sba_cons (sb_tup (sba_cons (sb_tup (sba_cons ntg (sba_cons nam sba_nil))) (sba_cons one sba_nil))) sba_nil)))) ⟨badP_form form_case.1 form_case.2 (nofc _ _ _ _ (by rw [n6]; rfl)), by (simp [T.sz, szs, szs_app, List.replicate] <;> omega)⟩
      sa_nil)) Hb gt1) (by decide) _ fun lc vsc xsc Hc ac gc nc hlc rc => ?_
  have gt2 := gt1.trans gc
  exact q lc vsc xsc Hc ac (gg.trans gt2) nc hlc rc
theorem sc_bad_rows : FnScope ["_law_one", "_law_small_here", "_law_great_here", "_law_row", "_law_arm", "_law_bad"] ["_law_one", "_law_small_here", "_law_great_here"] (defScope s_bad_rows) := ⟨rfl, rfl, rfl, by decide +kernel, rfl, by decide +kernel, by decide +kernel⟩
set_option maxHeartbeats 1000000 in
theorem ok_bad_rows (F : Fun K "_law_bad_rows" "_law_bad_rows" s_bad_rows f fd) : FnOk P w K mg base CX0 1 f fd ["_law_one", "_law_small_here", "_law_great_here"] (spListC 17) := by
  refine F.ok sc_bad_rows (fun vs H Q E h => ?_) (fun cdv A outer s H vs Q E hr h => ?_)
  · obtain ⟨st, v1, t1, zs, zg, rfl, _⟩ := h
    rfl
  obtain ⟨st, v1, t1, zs, zg, rfl, hs, r1, k1, b1, hzs, lzs, hzg, lzg, q⟩ := h
  refine ⟨_, (pss_cons (ps_set (i := 3) sc_bad_rows.nd rfl (Or.inl rfl) (pe_tup (pa_cons (pv 1) (pa_cons (pv 1) (pa_cons (pv 0) pa_nil)))))
    (pss_cons (ps_set (i := 4) sc_bad_rows.nd rfl (Or.inl rfl) (pe_tup (pa_cons (pe_tup (pa_cons (pv 2) (pa_cons (pv 1) pa_nil))) (pa_cons (pv 0) pa_nil))))
    (pss_cons (ps_set (i := 5) sc_bad_rows.nd rfl (Or.inl rfl) (pe_lst (pa_cons (pe_tup (pa_cons pe_str (pa_cons (pe_tup pa_nil) (pa_cons (pv 0) pa_nil)))) (pa_cons (pe_tup (pa_cons pe_str (pa_cons (pe_op op_repT (pe_tup (pa_cons (pv 3) pa_nil)) pe_int) (pa_cons (pv 0) pa_nil)))) (pa_cons (pe_tup (pa_cons pe_str (pa_cons (pe_tup (pa_cons (pv 3) pa_nil)) pa_nil))) (pa_cons (pe_tup (pa_cons pe_str (pa_cons (pv 1) (pa_cons (pv 0) pa_nil)))) (pa_cons (pe_tup (pa_cons pe_str (pa_cons (pv 3) (pa_cons (pv 0) pa_nil)))) pa_nil)))))))
    (pss_cons (ps_set (i := 5) sc_bad_rows.nd rfl (Or.inl rfl) (pe_op op_cat (pv 5) (pe_lst (pa_cons (pe_tup (pa_cons pe_str (pa_cons (pe_tup (pa_cons (pe_slice sl_tup (pv 3) po_none (po_some pe_int)) pa_nil)) (pa_cons (pv 0) pa_nil)))) (pa_cons (pe_tup (pa_cons pe_str (pa_cons (pe_tup (pa_cons (pe_op op_catT (pv 3) (pe_tup (pa_cons (pv 0) pa_nil))) pa_nil)) (pa_cons (pv 0) pa_nil)))) (pa_cons (pe_tup (pa_cons pe_str (pa_cons (pe_tup (pa_cons (pv 3) pa_nil)) (pa_cons (pv 0) (pa_cons (pv 0) pa_nil))))) pa_nil))))))
    (pss_cons (ps_set (i := 5) sc_bad_rows.nd rfl (Or.inl rfl) (pe_op op_cat (pv 5) (pe_lst (pa_cons (pe_tup (pa_cons pe_str (pa_cons (pv 0) pa_nil))) (pa_cons (pe_op op_catT (pe_tup (pa_cons pe_str (pa_cons (pv 0) pa_nil))) (pe_op op_repT (pe_tup (pa_cons (pv 4) pa_nil)) pe_int)) (pa_cons (pe_tup (pa_cons pe_str (pa_cons (pv 0) (pa_cons (pe_tup (pa_cons (pv 2) (pa_cons (pv 0) pa_nil))) pa_nil)))) (pa_cons (pe_tup (pa_cons pe_str (pa_cons (pv 4) pa_nil))) pa_nil)))))))
    (pss_cons (ps_set (i := 5) sc_bad_rows.nd rfl (Or.inl rfl) (pe_op op_cat (pv 5) (pe_lst (pa_cons (pe_tup (pa_cons pe_str (pa_cons (pv 0) (pa_cons (pe_tup (pa_cons (pe_op op_catT (pe_tup (pa_cons (pv 2) pa_nil)) (pe_op op_repT (pe_tup (pa_cons (pv 1) pa_nil)) pe_int)) (pa_cons (pv 0) pa_nil))) pa_nil)))) (pa_cons (pe_tup (pa_cons pe_str (pa_cons (pv 0) (pa_cons (pe_tup (pa_cons (pe_tup (pa_cons (pv 2) pa_nil)) pa_nil)) pa_nil)))) (pa_cons (pe_tup (pa_cons pe_str (pa_cons (pv 0) (pa_cons (pe_tup pa_nil) pa_nil)))) pa_nil))))))
    (pss_one (ps_ret (pe_op op_cat (pv 5) (pe_lst (pa_cons (pe_tup (pa_cons pe_str (pa_cons (pv 0) (pa_cons (pe_tup (pa_cons (pe_tup (pa_cons (pv 2) pa_nil)) (pa_cons (pv 0) (pa_cons (pv 0) pa_nil)))) pa_nil)))) (pa_cons (pe_tup (pa_cons pe_str (pa_cons (pv 0) (pa_cons (pv 4) (pa_cons (pv 0) pa_nil))))) pa_nil)))))))))))), ?_⟩
  have S0 := hs
  have one : ∀ {o o2 o3 : Option V}, Stb st [some v1, some (.str zs), some (.str zg), o, o2, o3] H (tVar 0) t1 := sb_var S0 rfl r1
  have nam : ∀ {o o2 o3 : Option V}, Stb st [some v1, some (.str zs), some (.str zg), o, o2, o3] H (tVar 1) (.str zs) := sb_var S0 rfl (.str zs (by omega))
  have grt : ∀ {o o2 o3 : Option V}, Stb st [some v1, some (.str zs), some (.str zg), o, o2, o3] H (tVar 2) (.str zg) := sb_var S0 rfl (.str zg (by omega))
  show tSeq _ _ _ [some v1, some (.str zs), some (.str zg), none, none, none] H
  refine sq_set ((sb_tup (st := st) (H₀ := H) (sba_cons nam (sba_cons nam (sba_cons one sba_nil)))) H (Grow.refl hs) _ fun v3 x3 H1 e3 g1 r3 => ?_)
  subst e3
  show tSeq _ _ _ [some v1, some (.str zs), some (.str zg), some v3, none, none] H1
  refine sq_set ((sb_tup (st := st) (H₀ := H) (sba_cons (sb_tup (sba_cons grt (sba_cons nam sba_nil))) (sba_cons one sba_nil))) H1 g1 _ fun v4 x4 H2 e4 g2 r4 => ?_)
  subst e4
  have gg := g1.trans g2
  replace S0 := gg.ok
  clear one nam grt
  have one : ∀ {o : Option V}, Stb st [some v1, some (.str zs), some (.str zg), some v3, some v4, o] H2 (tVar 0) t1 := sb_var S0 rfl (r1.grow gg hs)
  have nam : ∀ {o : Option V}, Stb st [some v1, some (.str zs), some (.str zg), some v3, some v4, o] H2 (tVar 1) (.str zs) := sb_var S0 rfl (.str zs (by omega))
  have grt : ∀ {o : Option V}, Stb st [some v1, some (.str zs), some (.str zg), some v3, some v4, o] H2 (tVar 2) (.str zg) := sb_var S0 rfl (.str zg (by omega))
  have row : ∀ {o : Option V}, Stb st [some v1, some (.str zs), some (.str zg), some v3, some v4, o] H2 (tVar 3) (.tup [.str zs, .str zs, t1]) := sb_var S0 rfl (r3.grow g2 g1.ok)
  have arm : ∀ {o : Option V}, Stb st [some v1, some (.str zs), some (.str zg), some v3, some v4, o] H2 (tVar 4) (.tup [.tup [.str zg, .str zs], t1]) := sb_var S0 rfl r4
  have lastC : kidsF 4 [t1, .tup [.tup [.str zg, .str zs], t1], t1] = none := by
    show (if (lenIn 1 6 [T.tup [.tup [.str zg, .str zs], t1], t1] && (armB _ && (armB t1 && true))) = true then _ else _) = _
    rw [good_noarm k1, if_neg (by simp)]
  -- 5 more
  show tSeq _ _ _ [some v1, some (.str zs), some (.str zg), some v3, some v4, none] H2
  refine sq_set (gl_lst (n := 5) (ok := BadP) S0 ((sa_cons (n := 4) (H₀ := H2) (sb_tup (sba_cons sb_str (sba_cons (sb_tup sba_nil) (sba_cons one sba_nil)))) ⟨badP_form form_ring.1 form_ring.2 rfl, by (simp [T.sz, szs, szs_app, List.replicate] <;> omega)⟩
      (sa_cons (sb_tup (sba_cons sb_str (sba_cons (sb_rep (k := 5) (sb_tup (sba_cons row sba_nil)) (by decide) (by decide)) (sba_cons one sba_nil)))) ⟨badP_form form_ring.1 form_ring.2 rfl, by (simp [T.sz, szs, szs_app, List.replicate] <;> omega)⟩
      (sa_cons (sb_tup (sba_cons sb_str (sba_cons (sb_tup (sba_cons row sba_nil)) sba_nil))) ⟨badP_form form_ring.1 form_ring.2 rfl, by (simp [T.sz, szs, szs_app, List.replicate] <;> omega)⟩
      (sa_cons (sb_tup (sba_cons sb_str (sba_cons nam (sba_cons one sba_nil)))) ⟨badP_form form_ring.1 form_ring.2 rfl, by (simp [T.sz, szs, szs_app, List.replicate] <;> omega)⟩
      (sa_cons (sb_tup (sba_cons sb_str (sba_cons row (sba_cons one sba_nil)))) ⟨badP_form form_ring.1 form_ring.2 rfl, by (simp [T.sz, szs, szs_app, List.replicate] <;> omega)⟩
      sa_nil))))) H2 (Grow.refl S0)) (by decide) _ fun la vsa xsa Ha aa ga na hla ra => ?_)
  have gt0 := ga
  -- 3 more
  show tSeq _ _ _ [some v1, some (.str zs), some (.str zg), some v3, some v4, some (.ref la)] Ha
  refine sq_set (gl_cat (i := 5) (m := 5) (n := 3) (ok := BadP) rfl hla na ra aa gt0.ok ((sa_cons (n := 2) (H₀ := H2) (sb_tup (sba_cons sb_str (sba_cons (sb_tup (sba_cons (sb_cut2 row) sba_nil)) (sba_cons one sba_nil)))) ⟨badP_form form_ring.1 form_ring.2 rfl, by (simp [T.sz, szs, szs_app, List.replicate] <;> omega)⟩
      (sa_cons (sb_tup (sba_cons sb_str (sba_cons (sb_tup (sba_cons (sb_cat row (sb_tup (sba_cons one sba_nil)) (by simp) (by simp)) sba_nil)) (sba_cons one sba_nil)))) ⟨badP_form form_ring.1 form_ring.2 rfl, by (simp [T.sz, szs, szs_app, List.replicate] <;> omega)⟩
      (sa_cons (sb_tup (sba_cons sb_str (sba_cons (sb_tup (sba_cons row sba_nil)) (sba_cons one (sba_cons one sba_nil))))) ⟨badP_form form_ring.1 form_ring.2 rfl, by (simp [T.sz, szs, szs_app, List.replicate] <;> omega)⟩
      sa_nil))) Ha gt0) (by decide) _ fun lb vsb xsb Hb ab gb nb hlb rb => ?_)
  have gt1 := gt0.trans gb
  -- 4 more
  show tSeq _ _ _ [some v1, some (.str zs), some (.str zg), some v3, some v4, some (.ref lb)] Hb
  refine sq_set (gl_cat (i := 5) (m := 8) (n := 4) (ok := BadP) rfl hlb nb rb ab gt1.ok ((sa_cons (n := 3) (H₀ := H2) (sb_tup (sba_cons sb_str (sba_cons one sba_nil))) ⟨badP_form form_case.1 form_case.2 rfl, by (simp [T.sz, szs, szs_app, List.replicate] <;> omega)⟩
      (sa_cons (sb_cat (sb_tup (sba_cons sb_str (sba_cons one sba_nil))) (sb_rep (k := 7) (sb_tup (sba_cons arm sba_nil)) (by decide) (by decide)) (by simp) (by simp)) ⟨badP_form form_case.1 form_case.2 rfl, by (simp [T.sz, szs, szs_app, List.replicate] <;> omega)⟩
      (sa_cons (sb_tup (sba_cons sb_str (sba_cons one (sba_cons (sb_tup (sba_cons grt (sba_cons one sba_nil))) sba_nil)))) ⟨badP_form form_case.1 form_case.2 rfl, by (simp [T.sz, szs, szs_app, List.replicate] <;> omega)⟩
      (sa_cons (sb_tup (sba_cons sb_str (sba_cons arm sba_nil))) ⟨badP_form form_case.1 form_case.2 rfl, by (simp [T.sz, szs, szs_app, List.replicate] <;> omega)⟩
      sa_nil)))) Hb gt1) (by decide) _ fun lc vsc xsc Hc ac gc nc hlc rc => ?_)
  have gt2 := gt1.trans gc
  -- 3 more
  show tSeq _ _ _ [some v1, some (.str zs), some (.str zg), some v3, some v4, some (.ref lc)] Hc
  refine sq_set (gl_cat (i := 5) (m := 12) (n := 3) (ok := BadP) rfl hlc nc rc ac gt2.ok ((sa_cons (n := 2) (H₀ := H2) (sb_tup (sba_cons sb_str (sba_cons one (sba_cons (sb_tup (sba_cons (sb_cat (sb_tup (sba_cons grt sba_nil)) (sb_rep (k := 5) (sb_tup (sba_cons nam sba_nil)) (by decide) (by decide)) (by simp) (by simp)) (sba_cons one sba_nil))) sba_nil)))) ⟨badP_form form_case.1 form_case.2 rfl, by (simp [T.sz, szs, szs_app, List.replicate] <;> omega)⟩
      (sa_cons (sb_tup (sba_cons sb_str (sba_cons one (sba_cons (sb_tup (sba_cons (sb_tup (sba_cons grt sba_nil)) sba_nil)) sba_nil)))) ⟨badP_form form_case.1 form_case.2 rfl, by (simp [T.sz, szs, szs_app, List.replicate] <;> omega)⟩
      (sa_cons (sb_tup (sba_cons sb_str (sba_cons one (sba_cons (sb_tup sba_nil) sba_nil)))) ⟨badP_form form_case.1 form_case.2 rfl, by (simp [T.sz, szs, szs_app, List.replicate] <;> omega)⟩
      sa_nil))) Hc gt2) (by decide) _ fun ld vsd xsd Hd ad gd nd hld rd => ?_)
  have gt3 := gt2.trans gd
  -- 2 more
  show tOp _ _ _ [some v1, some (.str zs), some (.str zg), some v3, some v4, some (.ref ld)] Hd _
  refine gl_cat (i := 5) (m := 15) (n := 2) (ok := BadP) rfl hld nd rd ad gt3.ok ((sa_cons (n := 1) (H₀ := H2) (sb_tup (sba_cons sb_str (sba_cons one (sba_cons (sb_tup (sba_cons (sb_tup (sba_cons grt sba_nil)) (sba_cons one (sba_cons one sba_nil)))) sba_nil)))) ⟨badP_form form_case.1 form_case.2 rfl, by (simp [T.sz, szs, szs_app, List.replicate] <;> omega)⟩
      (sa_cons (sb_tup (sba_cons sb_str (sba_cons one (sba_cons arm (sba_cons one sba_nil))))) ⟨badP_form form_case.1 form_case.2 (lastC), by (simp [T.sz, szs, szs_app, List.replicate] <;> omega)⟩
      sa_nil)) Hd gt3) (by decide) _ fun le vse xse He ae ge ne hle re => ?_
  have gt4 := gt3.trans ge
  exact q le vse xse He ae (gg.trans gt4) ne hle re
end
end Fw

set_option Elab.async false
set_option linter.all false
set_option maxRecDepth 100000
namespace Fw
open PySem PySem.Spec PyProof.Rows L2
abbrev s_bad_phrase : Stmt := top 48
abbrev s_round : Stmt := top 49
abbrev s_law : Stmt := top 50
def spBad : Sp := fun vs H Q _ => ∃ (st : Addr), vs = [.ref st] ∧ StOk H st ∧ ∀ v t H', BadP t → Rep H' v t → Grow st H H' → Q v H'
def spRound : Sp := fun vs H Q _ => ∃ (st : Addr) (v : V) (t : T), vs = [.ref st, v] ∧ StOk H st ∧ Rep H v t ∧ Bad kidsP t ∧ t.sz ≤ 10000 ∧ ∀ v' t' H', Bad kidsP t' → t'.sz ≤ t.sz + 1000 → Rep H' v' t' → Grow st H H' → Q v' H'
def spLaw (K : PySem.W.Frag) : Sp := fun vs H Q _ => ∃ (a : Addr) (ns : List Int), vs = [.ref a] ∧ SqL K H a (ns.map V.int) ∧ ns.length ≤ 63 ∧ ∀ H', Q (.bl true) H'
theorem BP1 : BP 1 = 68 := rfl
theorem BP4 : BP 4 = 39196 := rfl
def BL (st : Addr) (H : Hp) (l : Addr) : Prop := l ≠ st ∧ ∃ vs xs n, H l = some (.lst vs) ∧ Reps H vs xs ∧ 1 ≤ n ∧ n ≤ 100 ∧ AllN n BadP xs
theorem BL.grow {st l : Addr} {H H' : Hp} (h : BL st H l) (g : Grow st H H') (hs : StOk H st) : BL st H' l := by
  obtain ⟨h0, vs, xs, n, h1, h2, h3⟩ := h
  exact ⟨h0, vs, xs, n, g.1 _ _ h0 h1, h2.grow g hs, h3⟩
theorem gp_phrase {st : Addr} {σ : L2.St} {H : Hp} {n i : Nat} {j : Int} (h0 : σ[i]? = some (some (.ref st))) (hs : StOk H st) : GP st (tCall (spPhraseN (n + 1)) [] E0 (tCons (tVar i) (tCons (tC (.int n)) (tCons (tLst (tCons (tC (.int j)) tNil)) tNil)))) σ H (fun x => GoodP x ∧ x.sz ≤ BP n) := fun Q q =>
  ⟨_, h0, small (by show 1 ≤ 1000000; decide), fun lf hlf => ⟨st, lf, rfl, d2_new hs hlf, fun v t H' gt rt zt g => q v t H' ⟨gt, zt⟩ (to_grow hs hlf g) rt⟩⟩
section
variable {P : Program} {w : World} {K : PySem.W.Frag} {mg : Str → Option Value} {base : Heap} {f : Addr} {fd : FuncData}
theorem sc_bad_phrase : FnScope ["_law_state", "_law_one", "_law_small_here", "_law_great_here", "_law_bad", "_law_some_here"] ["_law_state"] (defScope s_bad_phrase) := ⟨rfl, rfl, rfl, by decide +kernel, rfl, by decide +kernel, by decide +kernel⟩
set_option maxHeartbeats 1000000 in
theorem ok_bad_phrase (F : Fun K "_law_bad_phrase" "_law_bad_phrase" s_bad_phrase f fd) (ml : mg "len" = none) (h1 : Has P w K mg base 1 "_law_next" ["_law_state", "_law_many"] spNext) (h5 : Has P w K mg base 3 "_law_small" ["_law_state"] (spStr fun z => nameB z = true)) (h6 : Has P w K mg base 3 "_law_great" ["_law_state"] (spStr fun z => greatB z = true)) (h7 : Has P w K mg base 12 "_law_phrase" ["_law_state", "_law_deep", "_law_left"] (spPhraseN 2)) (b1 : Has P w K mg base 5 "_law_bad_heads" ["_law_state", "_law_one", "_law_small_here", "_law_great_here"] (spListS 14)) (b2 : Has P w K mg base 1 "_law_bad_counts" ["_law_one", "_law_small_here", "_law_great_here"] (spListC 17)) (b3 : Has P w K mg base 5 "_law_bad_names" ["_law_state", "_law_one", "_law_small_here", "_law_great_here"] (spListS 8)) (b4 : Has P w K mg base 1 "_law_bad_rows" ["_law_one", "_law_small_here", "_law_great_here"] (spListC 17)) : FnOk P w K mg base CX0 13 f fd ["_law_state"] spBad := by
  refine F.ok sc_bad_phrase (fun vs H Q E h => ?_) (fun cdv A outer s H vs Q E hr h => ?_)
  · obtain ⟨st, rfl, _⟩ := h
    rfl
  obtain ⟨st, rfl, hs, q⟩ := h
  refine ⟨_, (pss_cons (ps_set (i := 1) sc_bad_phrase.nd rfl (Or.inl rfl) (pcall h7 hr (by decide) rfl (pa_cons (pv 0) (pa_cons pe_int (pa_cons (pe_lst (pa_cons pe_int pa_nil)) pa_nil)))))
    (pss_cons (ps_set (i := 2) sc_bad_phrase.nd rfl (Or.inl rfl) (pcall h5 hr (by decide) rfl (pa_cons (pv 0) pa_nil)))
    (pss_cons (ps_set (i := 3) sc_bad_phrase.nd rfl (Or.inl rfl) (pcall h6 hr (by decide) rfl (pa_cons (pv 0) pa_nil)))
    (pss_cons (ps_set (i := 4) sc_bad_phrase.nd rfl (Or.inl rfl) (pe_lst (pa_cons (pcall b1 hr (by decide) rfl (pa_cons (pv 0) (pa_cons (pv 1) (pa_cons (pv 2) (pa_cons (pv 3) pa_nil))))) (pa_cons (pcall b2 hr (by decide) rfl (pa_cons (pv 1) (pa_cons (pv 2) (pa_cons (pv 3) pa_nil)))) pa_nil))))
    (pss_cons (ps_set (i := 4) sc_bad_phrase.nd rfl (Or.inl rfl) (pe_op op_cat (pv 4) (pe_lst (pa_cons (pcall b3 hr (by decide) rfl (pa_cons (pv 0) (pa_cons (pv 1) (pa_cons (pv 2) (pa_cons (pv 3) pa_nil))))) (pa_cons (pcall b4 hr (by decide) rfl (pa_cons (pv 1) (pa_cons (pv 2) (pa_cons (pv 3) pa_nil)))) pa_nil)))))
    (pss_cons (ps_set (i := 5) sc_bad_phrase.nd rfl (Or.inl rfl) (pe_ix ix_list (pv 4) (pcall h1 hr (by decide) rfl (pa_cons (pv 0) (pa_cons pe_int pa_nil))) (fun _ _ => rfl)))
    (pss_one (ps_ret (pe_ix ix_list (pv 5) (pcall h1 hr (by decide) rfl (pa_cons (pv 0) (pa_cons (pe_callB call_len_seq rfl ml PySem.boot_len (pa_cons (pv 5) pa_nil)) pa_nil))) (fun _ _ => rfl)))))))))), ?_⟩
  refine sq_set (gp_phrase (n := 1) (i := 0) rfl hs _ fun v1 t1 H1 ⟨k1, z1⟩ g1 r1 => ?_)
  rw [BP1] at z1
  refine sq_set ⟨_, rfl, st, rfl, g1.ok, fun zs H2 hzs lzs g2 => ?_⟩
  refine sq_set ⟨_, rfl, st, rfl, g2.ok, fun zg H3 hzg lzg g3 => ?_⟩
  have gg := (g1.trans g2).trans g3
  have R1 := r1.grow (g2.trans g3) g1.ok
  refine sq_set ⟨_, rfl, _, rfl, _, rfl, _, rfl, st, v1, t1, zs, zg, rfl, gg.ok, R1, k1, z1, hzs, lzs, hzg, lzg, fun l4 vs4 xs4 H4 a4 g4 n4 hl4 r4 => ?_⟩
  have B4 : BL st H4 l4 := ⟨n4, vs4, xs4, _, hl4, r4, by decide, by decide, a4⟩
  have R4 := R1.grow g4 gg.ok
  refine ⟨_, rfl, _, rfl, _, rfl, st, v1, t1, zs, zg, rfl, g4.ok, R4, k1, z1, hzs, lzs, hzg, lzg, fun l5 vs5 xs5 H5 a5 g5 n5 hl5 r5 => ?_⟩
  have B5 : BL st H5 l5 := ⟨n5, vs5, xs5, _, hl5, r5, by decide, by decide, a5⟩
  have R5 := R4.grow g5 g4.ok
  refine ⟨small (by show 2 ≤ 1000000; decide), fun lb hlb => ?_⟩
  have g6 : Grow st H5 (upd H5 lb (.lst [.ref l4, .ref l5])) := grow_new g5.ok hlb
  have nlb : lb ≠ st := fun e => by
    obtain ⟨ns, _, _, h3⟩ := g5.ok
    rw [e, h3] at hlb
    cases hlb
  have R6 := R5.grow g6 g5.ok
  refine sq_set ⟨_, rfl, ?_⟩
  refine ⟨_, rfl, _, rfl, _, rfl, _, rfl, st, v1, t1, zs, zg, rfl, g6.ok, R6, k1, z1, hzs, lzs, hzg, lzg, fun l7 vs7 xs7 H7 a7 g7 n7 hl7 r7 => ?_⟩
  have B7 : BL st H7 l7 := ⟨n7, vs7, xs7, _, hl7, r7, by decide, by decide, a7⟩
  have R7 := R6.grow g7 g6.ok
  refine ⟨_, rfl, _, rfl, _, rfl, st, v1, t1, zs, zg, rfl, g7.ok, R7, k1, z1, hzs, lzs, hzg, lzg, fun l8 vs8 xs8 H8 a8 g8 n8 hl8 r8 => ?_⟩
  have B8 : BL st H8 l8 := ⟨n8, vs8, xs8, _, hl8, r8, by decide, by decide, a8⟩
  refine ⟨small (by show 2 ≤ 1000000; decide), fun lc hlc => ?_⟩
  have g9 : Grow st H8 (upd H8 lc (.lst [.ref l7, .ref l8])) := grow_new g8.ok hlc
  refine ⟨lb, lc, _, _, rfl, rfl, ((g7.trans g8).trans g9).1 _ _ nlb upd_same, upd_same, small (by show 4 ≤ 1000000; decide), fun ld hld => ?_⟩
  have ga : Grow st (upd H8 lc (.lst [.ref l7, .ref l8])) (upd (upd H8 lc (.lst [.ref l7, .ref l8])) ld (.lst ([.ref l4, .ref l5] ++ [.ref l7, .ref l8]))) := grow_new g9.ok hld
  have nld : ld ≠ st := fun e => by
    obtain ⟨ns, _, _, h3⟩ := g9.ok
    rw [e, h3] at hld
    cases hld
  have hd : (upd (upd H8 lc (.lst [.ref l7, .ref l8])) ld (.lst ([.ref l4, .ref l5] ++ [.ref l7, .ref l8]))) ld = some (.lst [.ref l4, .ref l5, .ref l7, .ref l8]) := upd_same
  have C8 := B8.grow (g9.trans ga) g8.ok
  have C7 := B7.grow ((g8.trans g9).trans ga) g7.ok
  have C5 := B5.grow ((((g6.trans g7).trans g8).trans g9).trans ga) g5.ok
  have C4 := B4.grow (((((g5.trans g6).trans g7).trans g8).trans g9).trans ga) g4.ok
  have gt := (((((((gg.trans g4).trans g5).trans g6).trans g7).trans g8).trans g9).trans ga)
  show tSeq _ _ _ [some (.ref st), some v1, some (.str zs), some (.str zg), some (.ref ld), none] _
  generalize upd (upd H8 lc (.lst [.ref l7, .ref l8])) ld (.lst ([.ref l4, .ref l5] ++ [.ref l7, .ref l8])) = Ha at *
  refine sq_set ⟨_, rfl, _, rfl, st, 4, rfl, gt.ok, by decide, by decide, fun i Hb i0 i1 gb => ?_⟩
  obtain ⟨v, hv, hm⟩ := at_any (xs := [V.ref l4, .ref l5, .ref l7, .ref l8]) i0 (by simpa using i1)
  refine ⟨ld, _, i, v, rfl, rfl, SqL.of (gb.1 _ _ nld hd), hv, ?_⟩
  obtain ⟨l, rfl, Bl⟩ : ∃ l, v = .ref l ∧ BL st Ha l := by
    simp only [List.mem_cons, List.not_mem_nil, or_false] at hm
    rcases hm with rfl | rfl | rfl | rfl
    · exact ⟨_, rfl, C4⟩
    · exact ⟨_, rfl, C5⟩
    · exact ⟨_, rfl, C7⟩
    · exact ⟨_, rfl, C8⟩
  obtain ⟨nl, ws, ys, n, hl, rl, n1, n2, al⟩ := Bl.grow gb gt.ok
  have len1 := rl.length
  have len2 := al.1
  refine ⟨_, rfl, _, rfl, _, rfl, l, _, rfl, .inl (SqL.of hl), st, (ws.length : Nat), rfl, gb.ok, by omega, by omega, fun j Hc j0 j1 gc => ?_⟩
  obtain ⟨u, hu, hmu⟩ := at_any (xs := ws) j0 j1
  refine ⟨l, _, j, u, rfl, rfl, SqL.of (gc.1 _ _ nl hl), hu, ?_⟩
  obtain ⟨t, ht, rt⟩ := rl.mem hmu
  exact q u t _ (al.2 t ht) (rt.grow gc gb.ok) ((gt.trans gb).trans gc)
theorem sc_round : FnScope ["_law_state", "_law_thing", "_law_one", "_law_small_here", "_law_great_here", "_law_some_here"] ["_law_state", "_law_thing"] (defScope s_round) := ⟨rfl, rfl, rfl, by decide +kernel, rfl, by decide +kernel, by decide +kernel⟩
set_option maxHeartbeats 1000000 in
theorem ok_round (F : Fun K "_law_round" "_law_round" s_round f fd) (ml : mg "len" = none) (h1 : Has P w K mg base 1 "_law_next" ["_law_state", "_law_many"] spNext) (h5 : Has P w K mg base 3 "_law_small" ["_law_state"] (spStr fun z => nameB z = true)) (h6 : Has P w K mg base 3 "_law_great" ["_law_state"] (spStr fun z => greatB z = true)) (h7 : Has P w K mg base 12 "_law_phrase" ["_law_state", "_law_deep", "_law_left"] (spPhraseN 2)) : FnOk P w K mg base CX0 13 f fd ["_law_state", "_law_thing"] spRound := by
  refine F.ok sc_round (fun vs H Q E h => ?_) (fun cdv A outer s H vs Q E hr h => ?_)
  · obtain ⟨st, v, t, rfl, _⟩ := h
    rfl
  obtain ⟨st, v, t, rfl, hs, rt, hb, ht, q⟩ := h
  refine ⟨_, (pss_cons (ps_set (i := 2) sc_round.nd rfl (Or.inl rfl) (pcall h7 hr (by decide) rfl (pa_cons (pv 0) (pa_cons pe_int (pa_cons (pe_lst (pa_cons pe_int pa_nil)) pa_nil)))))
    (pss_cons (ps_set (i := 3) sc_round.nd rfl (Or.inl rfl) (pcall h5 hr (by decide) rfl (pa_cons (pv 0) pa_nil)))
    (pss_cons (ps_set (i := 4) sc_round.nd rfl (Or.inl rfl) (pcall h6 hr (by decide) rfl (pa_cons (pv 0) pa_nil)))
    (pss_cons (ps_set (i := 5) sc_round.nd rfl (Or.inl rfl) (pe_lst (pa_cons (pe_tup (pa_cons pe_str (pa_cons (pv 3) (pa_cons (pv 1) pa_nil)))) (pa_cons (pe_tup (pa_cons pe_str (pa_cons (pv 1) (pa_cons (pv 2) pa_nil)))) (pa_cons (pe_tup (pa_cons pe_str (pa_cons (pv 2) (pa_cons (pv 1) pa_nil)))) (pa_cons (pe_tup (pa_cons pe_str (pa_cons (pv 3) (pa_cons (pv 1) (pa_cons (pv 2) pa_nil))))) pa_nil))))))
    (pss_cons (ps_set (i := 5) sc_round.nd rfl (Or.inl rfl) (pe_op op_cat (pv 5) (pe_lst (pa_cons (pe_tup (pa_cons pe_str (pa_cons (pv 3) (pa_cons (pv 2) (pa_cons (pv 1) pa_nil))))) (pa_cons (pe_tup (pa_cons pe_str (pa_cons (pe_tup (pa_cons (pe_tup (pa_cons (pv 3) (pa_cons (pv 3) (pa_cons (pv 2) pa_nil)))) (pa_cons (pe_tup (pa_cons (pv 3) (pa_cons (pv 3) (pa_cons (pv 1) pa_nil)))) pa_nil))) (pa_cons (pv 2) pa_nil)))) pa_nil)))))
    (pss_cons (ps_set (i := 5) sc_round.nd rfl (Or.inl rfl) (pe_op op_cat (pv 5) (pe_lst (pa_cons (pe_tup (pa_cons pe_str (pa_cons (pe_tup (pa_cons (pe_tup (pa_cons (pv 3) (pa_cons (pv 3) (pa_cons (pv 2) pa_nil)))) pa_nil)) (pa_cons (pv 1) pa_nil)))) (pa_cons (pe_tup (pa_cons pe_str (pa_cons (pv 1) (pa_cons (pe_tup (pa_cons (pe_tup (pa_cons (pv 4) pa_nil)) (pa_cons (pv 2) pa_nil))) pa_nil)))) (pa_cons (pe_tup (pa_cons pe_str (pa_cons (pv 3) (pa_cons (pv 1) pa_nil)))) pa_nil))))))
    (pss_cons (ps_set (i := 5) sc_round.nd rfl (Or.inl rfl) (pe_op op_cat (pv 5) (pe_lst (pa_cons (pe_tup (pa_cons pe_str (pa_cons (pv 2) (pa_cons (pe_tup (pa_cons (pe_tup (pa_cons (pv 4) pa_nil)) (pa_cons (pv 2) pa_nil))) (pa_cons (pe_tup (pa_cons (pe_tup (pa_cons (pv 4) (pa_cons (pv 3) pa_nil))) (pa_cons (pv 1) pa_nil))) pa_nil))))) (pa_cons (pe_tup (pa_cons (pv 4) (pa_cons (pv 2) (pa_cons (pv 1) pa_nil)))) (pa_cons (pe_tup (pa_cons (pv 4) (pa_cons (pv 1) pa_nil))) pa_nil))))))
    (pss_cons (ps_set (i := 5) sc_round.nd rfl (Or.inl rfl) (pe_op op_cat (pv 5) (pe_lst (pa_cons (pe_tup (pa_cons pe_str (pa_cons (pv 3) (pa_cons (pv 2) (pa_cons (pv 2) (pa_cons (pv 1) pa_nil)))))) (pa_cons (pe_tup (pa_cons pe_str (pa_cons (pv 2) (pa_cons (pv 1) pa_nil)))) (pa_cons (pe_tup (pa_cons pe_str (pa_cons (pv 1) (pa_cons (pv 2) pa_nil)))) pa_nil))))))
    (pss_cons (ps_set (i := 5) sc_round.nd rfl (Or.inl rfl) (pe_op op_cat (pv 5) (pe_lst (pa_cons (pe_tup (pa_cons pe_str (pa_cons (pv 1) (pa_cons (pv 2) (pa_cons (pv 2) pa_nil))))) (pa_cons (pe_tup (pa_cons pe_str (pa_cons (pv 2) (pa_cons (pv 1) (pa_cons (pv 2) pa_nil))))) (pa_cons (pe_tup (pa_cons pe_str (pa_cons (pv 2) (pa_cons (pv 2) (pa_cons (pv 1) pa_nil))))) pa_nil))))))
    (pss_one (ps_ret (pe_ix ix_list (pv 5) (pcall h1 hr (by decide) rfl (pa_cons (pv 0) (pa_cons (pe_callB call_len_seq rfl ml PySem.boot_len (pa_cons (pv 5) pa_nil)) pa_nil))) (fun _ _ => rfl))))))))))))), ?_⟩
  refine sq_set (gp_phrase (n := 1) (i := 0) rfl hs _ fun v1 t1 H1 ⟨k1, z1⟩ g1 r1 => ?_)
  rw [BP1] at z1
  refine sq_set ⟨_, rfl, st, rfl, g1.ok, fun zs H2 hzs lzs g2 => ?_⟩
  refine sq_set ⟨_, rfl, st, rfl, g2.ok, fun zg H3 hzg lzg g3 => ?_⟩
  have gg := (g1.trans g2).trans g3
  have S0 := gg.ok
  have thi : ∀ {o : Option V}, Stb st [some (.ref st), some v, some v1, some (.str zs), some (.str zg), o] H3 (tVar 1) t := sb_var S0 rfl (rt.grow gg hs)
  have one : ∀ {o : Option V}, Stb st [some (.ref st), some v, some v1, some (.str zs), some (.str zg), o] H3 (tVar 2) t1 := sb_var S0 rfl (r1.grow (g2.trans g3) g1.ok)
  have nam : ∀ {o : Option V}, Stb st [some (.ref st), some v, some v1, some (.str zs), some (.str zg), o] H3 (tVar 3) (.str zs) := sb_var S0 rfl (.str zs (by omega))
  have grt : ∀ {o : Option V}, Stb st [some (.ref st), some v, some v1, some (.str zs), some (.str zg), o] H3 (tVar 4) (.str zg) := sb_var S0 rfl (.str zg (by omega))
  have k0 : ∀ e, kidsF 0 [.str zs, e] = some [e] := fun e => by show (if nameB zs = true then _ else _) = _; rw [if_pos hzs]
  have k2 : ∀ e g, kidsF 2 [.str zs, e, g] = some [e, g] := fun e g => by show (if nameB zs = true then _ else _) = _; rw [if_pos hzs]
  have k5 : ∀ a b c, kidsF 5 [.str zs, a, b, c] = some [a, b, c] := fun a b c => by
    show (if (true && nameB zs) = true then _ else _) = _
    rw [hzs]; rfl
  have kr2 : ∀ a b e, kidsF 3 [.tup [.tup [.str zs, .str zs, a], .tup [.str zs, .str zs, b]], e] = some [a, b, e] := fun a b e => by
    show (if (true && ((nameB zs && nameB zs) && ((nameB zs && nameB zs) && true))) = true then _ else _) = _
    rw [hzs]; rfl
  have kr1 : ∀ a e, kidsF 3 [.tup [.tup [.str zs, .str zs, a]], e] = some [a, e] := fun a e => by
    show (if (true && ((nameB zs && nameB zs) && true)) = true then _ else _) = _
    rw [hzs]; rfl
  have kc1 : ∀ x e, kidsF 4 [x, .tup [.tup [.str zg], e]] = some [x, e] := fun x e => by
    show (if (true && ((true && (greatB zg && true)) && true)) = true then _ else _) = _
    rw [hzg]; rfl
  have kc2 : ∀ x e e', kidsF 4 [x, .tup [.tup [.str zg], e], .tup [.tup [.str zg, .str zs], e']] = some [x, e, e'] := fun x e e' => by
    show (if (true && ((true && (greatB zg && true)) && ((true && (greatB zg && (nameB zs && true))) && true))) = true then _ else _) = _
    rw [hzg, hzs]; rfl
  -- 4 more
  show tSeq _ _ _ [some (.ref st), some v, some v1, some (.str zs), some (.str zg), none] H3
  refine sq_set (gl_lst (n := 4) (ok := fun x => Bad kidsP x ∧ x.sz ≤ t.sz + 1000) S0 ((sa_cons (n := 3) (H₀ := H3) (sb_tup (sba_cons sb_str (sba_cons nam (sba_cons thi sba_nil)))) ⟨badP_kid (k := t) form_fun.1 form_fun.2 (k0 _) (by simp) hb, by (simp [T.sz, szs, szs_app, List.replicate] <;> omega)⟩
      (sa_cons (sb_tup (sba_cons sb_str (sba_cons thi (sba_cons one sba_nil)))) ⟨badP_kid (k := t) (l := [_, _]) (form_two "call" (by decide +kernel)).1 (form_two "call" (by decide +kernel)).2 rfl (by simp) hb, by (simp [T.sz, szs, szs_app, List.replicate] <;> omega)⟩
      (sa_cons (sb_tup (sba_cons sb_str (sba_cons one (sba_cons thi sba_nil)))) ⟨badP_kid (k := t) (l := [_, _]) (form_two "call" (by decide +kernel)).1 (form_two "call" (by decide +kernel)).2 rfl (by simp) hb, by (simp [T.sz, szs, szs_app, List.replicate] <;> omega)⟩
      (sa_cons (sb_tup (sba_cons sb_str (sba_cons nam (sba_cons thi (sba_cons one sba_nil))))) ⟨badP_kid (k := t) form_let.1 form_let.2 (k2 _ _) (by simp) hb, by (simp [T.sz, szs, szs_app, List.replicate] <;> omega)⟩
      sa_nil)))) H3 (Grow.refl S0)) (by decide) _ fun la vsa xsa Ha aa ga na hla ra => ?_)
  have gt0 := ga
  -- 2 more
  show tSeq _ _ _ [some (.ref st), some v, some v1, some (.str zs), some (.str zg), some (.ref la)] Ha
  refine sq_set (gl_cat (i := 5) (m := 4) (n := 2) (ok := fun x => Bad kidsP x ∧ x.sz ≤ t.sz + 1000) rfl hla na ra aa gt0.ok ((sa_cons (n := 1) (H₀ := H3) (sb_tup (sba_cons sb_str (sba_cons nam (sba_cons one (sba_cons thi sba_nil))))) ⟨badP_kid (k := t) form_let.1 form_let.2 (k2 _ _) (by simp) hb, by (simp [T.sz, szs, szs_app, List.replicate] <;> omega)⟩
      (sa_cons (sb_tup (sba_cons sb_str (sba_cons (sb_tup (sba_cons (sb_tup (sba_cons nam (sba_cons nam (sba_cons one sba_nil)))) (sba_cons (sb_tup (sba_cons nam (sba_cons nam (sba_cons thi sba_nil)))) sba_nil))) (sba_cons one sba_nil)))) ⟨badP_kid (k := t) form_ring.1 form_ring.2 (kr2 _ _ _) (by simp) hb, by (simp [T.sz, szs, szs_app, List.replicate] <;> omega)⟩
      sa_nil)) Ha gt0) (by decide) _ fun lb vsb xsb Hb ab gb nb hlb rb => ?_)
  have gt1 := gt0.trans gb
  -- 3 more
  show tSeq _ _ _ [some (.ref st), some v, some v1, some (.str zs), some (.str zg), some (.ref lb)] Hb
  refine sq_set (gl_cat (i := 5) (m := 6) (n := 3) (ok := fun x => Bad kidsP x ∧ x.sz ≤ t.sz + 1000) rfl hlb nb rb ab gt1.ok ((sa_cons (n := 2) (H₀ := H3) (sb_tup (sba_cons sb_str (sba_cons (sb_tup (sba_cons (sb_tup (sba_cons nam (sba_cons nam (sba_cons one sba_nil)))) sba_nil)) (sba_cons thi sba_nil)))) ⟨badP_kid (k := t) form_ring.1 form_ring.2 (kr1 _ _) (by simp) hb, by (simp [T.sz, szs, szs_app, List.replicate] <;> omega)⟩
      (sa_cons (sb_tup (sba_cons sb_str (sba_cons thi (sba_cons (sb_tup (sba_cons (sb_tup (sba_cons grt sba_nil)) (sba_cons one sba_nil))) sba_nil)))) ⟨badP_kid (k := t) form_case.1 form_case.2 (kc1 _ _) (by simp) hb, by (simp [T.sz, szs, szs_app, List.replicate] <;> omega)⟩
      (sa_cons (sb_tup (sba_cons sb_str (sba_cons nam (sba_cons thi sba_nil)))) ⟨badP_kid (k := t) form_pick.1 form_pick.2 (k0 _) (by simp) hb, by (simp [T.sz, szs, szs_app, List.replicate] <;> omega)⟩
      sa_nil))) Hb gt1) (by decide) _ fun lc vsc xsc Hc ac gc nc hlc rc => ?_)
  have gt2 := gt1.trans gc
  -- 3 more
  show tSeq _ _ _ [some (.ref st), some v, some v1, some (.str zs), some (.str zg), some (.ref lc)] Hc
  refine sq_set (gl_cat (i := 5) (m := 9) (n := 3) (ok := fun x => Bad kidsP x ∧ x.sz ≤ t.sz + 1000) rfl hlc nc rc ac gt2.ok ((sa_cons (n := 2) (H₀ := H3) (sb_tup (sba_cons sb_str (sba_cons one (sba_cons (sb_tup (sba_cons (sb_tup (sba_cons grt sba_nil)) (sba_cons one sba_nil))) (sba_cons (sb_tup (sba_cons (sb_tup (sba_cons grt (sba_cons nam sba_nil))) (sba_cons thi sba_nil))) sba_nil))))) ⟨badP_kid (k := t) form_case.1 form_case.2 (kc2 _ _ _) (by simp) hb, by (simp [T.sz, szs, szs_app, List.replicate] <;> omega)⟩
      (sa_cons (sb_tup (sba_cons grt (sba_cons one (sba_cons thi sba_nil)))) ⟨badP_greatK (k := t) hzg rfl (by simp) hb, by (simp [T.sz, szs, szs_app, List.replicate] <;> omega)⟩
      (sa_cons (sb_tup (sba_cons grt (sba_cons thi sba_nil))) ⟨badP_greatK (k := t) hzg rfl (by simp) hb, by (simp [T.sz, szs, szs_app, List.replicate] <;> omega)⟩
      sa_nil))) Hc gt2) (by decide) _ fun ld vsd xsd Hd ad gd nd hld rd => ?_)
  have gt3 := gt2.trans gd
  -- 3 more
  show tSeq _ _ _ [some (.ref st), some v, some v1, some (.str zs), some (.str zg), some (.ref ld)] Hd
  refine sq_set (gl_cat (i := 5) (m := 12) (n := 3) (ok := fun x => Bad kidsP x ∧ x.sz ≤ t.sz + 1000) rfl hld nd rd ad gt3.ok ((sa_cons (n := 2) (H₀ := H3) (sb_tup (sba_cons sb_str (sba_cons nam (sba_cons one (sba_cons one (sba_cons thi sba_nil)))))) ⟨badP_kid (k := t) form_make.1 form_make.2 (k5 _ _ _) (by simp) hb, by (simp [T.sz, szs, szs_app, List.replicate] <;> omega)⟩
      (sa_cons (sb_tup (sba_cons sb_str (sba_cons one (sba_cons thi sba_nil)))) ⟨badP_kid (k := t) (l := [_, _]) (form_two "less" (by decide +kernel)).1 (form_two "less" (by decide +kernel)).2 rfl (by simp) hb, by (simp [T.sz, szs, szs_app, List.replicate] <;> omega)⟩
      (sa_cons (sb_tup (sba_cons sb_str (sba_cons thi (sba_cons one sba_nil)))) ⟨badP_kid (k := t) (l := [_, _]) (form_two "times" (by decide +kernel)).1 (form_two "times" (by decide +kernel)).2 rfl (by simp) hb, by (simp [T.sz, szs, szs_app, List.replicate] <;> omega)⟩
      sa_nil))) Hd gt3) (by decide) _ fun le vse xse He ae ge ne hle re => ?_)
  have gt4 := gt3.trans ge
  -- 3 more
  show tSeq _ _ _ [some (.ref st), some v, some v1, some (.str zs), some (.str zg), some (.ref le)] He
  refine sq_set (gl_cat (i := 5) (m := 15) (n := 3) (ok := fun x => Bad kidsP x ∧ x.sz ≤ t.sz + 1000) rfl hle ne re ae gt4.ok ((sa_cons (n := 2) (H₀ := H3) (sb_tup (sba_cons sb_str (sba_cons thi (sba_cons one (sba_cons one sba_nil))))) ⟨badP_kid (k := t) (l := [_, _, _]) form_if.1 form_if.2 rfl (by simp) hb, by (simp [T.sz, szs, szs_app, List.replicate] <;> omega)⟩
      (sa_cons (sb_tup (sba_cons sb_str (sba_cons one (sba_cons thi (sba_cons one sba_nil))))) ⟨badP_kid (k := t) (l := [_, _, _]) form_if.1 form_if.2 rfl (by simp) hb, by (simp [T.sz, szs, szs_app, List.replicate] <;> omega)⟩
      (sa_cons (sb_tup (sba_cons sb_str (sba_cons one (sba_cons one (sba_cons thi sba_nil))))) ⟨badP_kid (k := t) (l := [_, _, _]) form_if.1 form_if.2 rfl (by simp) hb, by (simp [T.sz, szs, szs_app, List.replicate] <;> omega)⟩
      sa_nil))) He gt4) (by decide) _ fun lf vsf xsf Hf af gf nf hlf rf => ?_)
  have gt5 := gt4.trans gf
  have len1 := rf.length
  have len2 := af.1
  refine ⟨_, rfl, _, rfl, _, rfl, lf, _, rfl, .inl (SqL.of hlf), st, (vsf.length : Nat), rfl, gt5.ok, by omega, by omega, fun j Hz j0 j1 gz => ?_⟩
  obtain ⟨u, hu, hmu⟩ := at_any (xs := vsf) j0 j1
  refine ⟨lf, _, j, u, rfl, rfl, SqL.of (gz.1 _ _ nf hlf), hu, ?_⟩
  obtain ⟨tz, hz, rz⟩ := rf.mem hmu
  exact q u tz _ (af.2 tz hz).1 (af.2 tz hz).2 (rz.grow gz gt5.ok) ((gg.trans gt5).trans gz)
theorem sc_law : FnScope ["_law_script", "_law_state", "_law_k", "_law_bad", "_law_j"] ["_law_script"] (defScope s_law) := ⟨rfl, rfl, rfl, by decide +kernel, rfl, by decide +kernel, by decide +kernel⟩
set_option maxHeartbeats 1000000 in
theorem ok_law (F : Fun K "law" "law" s_law f fd) (mr : mg "range" = none) (h0 : Has P w K mg base 1 "_law_drawn" ["_law_script"] (spDrawn K)) (h1 : Has P w K mg base 1 "_law_next" ["_law_state", "_law_many"] spNext) (h2 : Has P w K mg base 21 "_law_phrase" ["_law_state", "_law_deep", "_law_left"] (spPhraseN 5))
    (h3 : Has P w K mg base 13 "_law_bad_phrase" ["_law_state"] spBad) (h4 : Has P w K mg base 13 "_law_round" ["_law_state", "_law_thing"] spRound) (h5 : Has P w K mg base 11 "is_phrase" ["thing"] (spFits kidsP)) : FnOk P w K mg base CX0 22 f fd ["_law_script"] (spLaw K) := by
  refine F.ok sc_law (fun vs H Q E h => ?_) (fun cdv A outer s H vs Q E hr h => ?_)
  · obtain ⟨a, ns, rfl, _⟩ := h
    rfl
  obtain ⟨a, ns, rfl, hS, h63, q⟩ := h
  refine ⟨_, pss_cons (ps_set (i := 1) sc_law.nd rfl (Or.inl rfl) (pcall h0 hr (by decide) rfl (pa_cons (pv 0) pa_nil)))
    (pss_cons (ps_for PassesOwn.never rfl (pi_range1 rfl mr (pa_cons pe_int pa_nil)) (pg_name (i := 2) sc_law.nd rfl (Or.inl rfl))
      (pss_cons (ps_if (pt_cmpR op_isnotB (pcall h5 hr (by decide) rfl (pa_cons (pcall h2 hr (by decide) rfl (pa_cons (pv 1) (pa_cons pe_int (pa_cons (pe_lst (pa_cons pe_int pa_nil)) pa_nil)))) pa_nil)) pe_bl (nomark _)) (pss_one (ps_ret pe_bl)) pss_nil)
      (pss_cons (ps_set (i := 3) sc_law.nd rfl (Or.inl rfl) (pcall h3 hr (by decide) rfl (pa_cons (pv 1) pa_nil)))
      (pss_cons (ps_for PassesOwn.never rfl (pi_range1 rfl mr (pa_cons (pcall h1 hr (by decide) rfl (pa_cons (pv 1) (pa_cons pe_int pa_nil))) pa_nil)) (pg_name (i := 4) sc_law.nd rfl (Or.inl rfl))
        (pss_one (ps_set (i := 3) sc_law.nd rfl (Or.inl rfl) (pcall h4 hr (by decide) rfl (pa_cons (pv 1) (pa_cons (pv 3) pa_nil))))))
      (pss_one (ps_if (pt_cmpR op_isnotB (pcall h5 hr (by decide) rfl (pa_cons (pv 3) pa_nil)) pe_bl (nomark _)) (pss_one (ps_ret pe_bl)) pss_nil))))))
    (pss_one (ps_ret pe_bl))), ?_⟩
  refine ⟨_, rfl, a, ns, rfl, hS, h63, fun st H1 e1 hst ok1 => ?_⟩
  refine ⟨4, rfl, by decide, by decide, for_range (n := 4) (fun i σ H' => StOk H' st ∧ ∃ (o2 o3 o4 : Option V), σ = [some (.ref a), some (.ref st), o2, o3, o4]) ⟨ok1, none, none, none, rfl⟩ ?_ ?_⟩
  · rintro i σ H2 hi ⟨ok2, o2, o3, o4, rfl⟩
    refine gp_phrase (n := 4) (i := 1) rfl ok2 _ fun v t H3 ⟨k3, b3⟩ g3 r3 => ?_
    rw [BP4] at b3
    refine ⟨v, t, true, rfl, r3, by omega, .inl ⟨rfl, k3⟩, fun H4 e4 => ⟨true, true, rfl, rfl, _, rfl, iteF ?_⟩⟩
    have ok4 := g3.ok.same e4
    refine ⟨_, rfl, st, rfl, ok4, fun vb tb H5 bb rb g5 => ?_⟩
    refine ⟨_, rfl, st, 5, rfl, g5.ok, by decide, by decide, fun n H6 n0 n1 g6 => ?_⟩
    refine ⟨n, rfl, by omega, by omega, for_range (n := n.toNat) (fun j σ H' => StOk H' st ∧ ∃ (o2 o4 : Option V) (v : V) (t : T), σ = [some (.ref a), some (.ref st), o2, some v, o4] ∧ Rep H' v t ∧ Bad kidsP t ∧ t.sz ≤ 1000 + 1000 * j) ⟨g6.ok, _, _, vb, tb, rfl, rb.grow g6 g5.ok, bb.1, by have := bb.2; omega⟩ ?_ ?_⟩
    · rintro j σ H7 hj ⟨ok7, p2, p4, v7, t7, rfl, r7, b7, z7⟩
      refine ⟨_, rfl, _, rfl, st, v7, t7, rfl, ok7, r7, b7, by omega, fun v8 t8 H8 b8 z8 r8 g8 => ?_⟩
      exact ⟨g8.ok, _, _, v8, t8, rfl, r8, b8, by omega⟩
    · rintro σ H7 ⟨ok7, p2, p4, v7, t7, rfl, r7, b7, z7⟩
      refine ⟨_, rfl, v7, t7, false, rfl, r7, by omega, .inr ⟨rfl, b7⟩, fun H8 e8 => ⟨false, false, rfl, rfl, _, rfl, iteF ?_⟩⟩
      exact ⟨ok7.same e8, _, _, _, rfl⟩
  · rintro σ H2 ⟨ok2, o2, o3, o4, rfl⟩
    exact q H2
end
end Fw

set_option Elab.async false
set_option linter.all false
set_option maxRecDepth 100000
namespace Fw
open PySem PySem.Spec PyProof.Rows L2
/-! ### what the top has written -/
def DefIs (K : PySem.W.Frag) (x : Str) (st : Stmt) : Prop := ∃ f fd, PySem.W.nsIn K mainGlobals x = some (some (.ref f)) ∧ Fun K x x st f fd
theorem def_mk {K : PySem.W.Frag} {x : Str} {st : Stmt} {f : Addr} {oc : Value} {od an : Option Addr} {osl : Array (Option Value)} {kV doc pm cdv ct : Value} (a : PySem.W.nsIn K mainGlobals x = some (some (.ref f)))
    (l : K.lookup f = some ⟨oc, od, .func (PySem.W.fnOf x x (defArgs st) (defBody st) (defScope st) .none kV doc pm an cdv ct), osl⟩) (c : PySem.W.codeIn K cdv x = true) (k : PySem.W.keepIn K (.ref f) = true) : DefIs K x st := ⟨f, _, a, fun_mk l c k⟩
theorem val_str {K : PySem.W.Frag} {x z y : Str} {t : Tok} (a : PySem.W.nsIn K mainGlobals x = some (some (.str z t))) (e : z = y) : ∃ t, PySem.W.nsIn K mainGlobals x = some (some (.str y t)) := ⟨t, by rw [← e]; exact a⟩
theorem val_int {K : PySem.W.Frag} {x : Str} {i j : Int} {t : Tok} (a : PySem.W.nsIn K mainGlobals x = some (some (.int i t))) (e : i = j) : ∃ t, PySem.W.nsIn K mainGlobals x = some (some (.int j t)) := ⟨t, by rw [← e]; exact a⟩
theorem abs_rel {x : V} {u : Value} (h : absV u = some x) : RelV x u := by
  cases u <;> simp only [absV, Option.some.injEq, reduceCtorEq] at h
  all_goals first
    | (subst h; exact rfl)
    | (subst h; exact ⟨_, rfl⟩)
theorem vals_abs : ∀ {xs : List V} {us : List Value}, us.map absV = xs.map some → Vals xs us
  | [], [], _ => .nil
  | x :: xs, u :: us, h => by
    simp only [List.map_cons, List.cons.injEq] at h
    exact .cons (abs_rel h.1) (vals_abs h.2)
  | [], _ :: _, h => by simp at h
  | _ :: _, [], h => by simp at h
theorem val_tup {K : PySem.W.Frag} {x : Str} {xs : List V} {a : Addr} {oc : Value} {od : Option Addr} {its : Array Value} {n : Nat} {sl : Array (Option Value)} (h1 : PySem.W.nsIn K mainGlobals x = some (some (.ref a))) (h2 : K.lookup a = some ⟨oc, od, .seq its n, sl⟩)
    (h3 : oc = .type "tuple") (h4 : its.size ≤ sizeLine) (h5 : its.toList.map absV = xs.map some) : ∃ a, PySem.W.nsIn K mainGlobals x = some (some (.ref a)) ∧ ∀ H, SqT K H a xs := ⟨a, h1, fun H => .inr ⟨_, its, n, h2, h3, rfl, h4, vals_abs h5⟩⟩
theorem law_binds {K : PySem.W.Frag} {x : Str} {st : Stmt} {f : Addr} {fd : FuncData} {p : Str} (F : Fun K x x st f fd) (h : ∀ (kV doc pm : Value) (an : Option Addr) (cdv ct : Value) (s : Shared) (v : Value), BindsTo s (PySem.W.fnOf x x (defArgs st) (defBody st) (defScope st) .none kV doc pm an cdv ct) ⟨[v], []⟩ [(p, v)]) :
    ∀ (s : Shared) (v : Value), BindsTo s fd ⟨[v], []⟩ [(p, v)] := by
  obtain ⟨oc, od, kV, doc, pm, an, cdv, ct, osl, rfl, lk, hcd⟩ := F.ex
  exact h kV doc pm an cdv ct
theorem gb_mk {K : PySem.W.Frag} {h : Heap} {mg : Str → Option Value} (X : K.In h) (G : h.Ns mainGlobals mg) (z1 : PySem.W.nsIn K mainGlobals "len" = some none) (z2 : PySem.W.nsIn K mainGlobals "all" = some none) (z3 : PySem.W.nsIn K mainGlobals "isinstance" = some none)
    (z4 : PySem.W.nsIn K mainGlobals "str" = some none) (z5 : PySem.W.nsIn K mainGlobals "tuple" = some none) (z6 : PySem.W.nsIn K mainGlobals "list" = some none) (z7 : PySem.W.nsIn K mainGlobals "range" = some none)
    (v1 : ∃ t, PySem.W.nsIn K mainGlobals "SMALL_LETTERS" = some (some (.str smallS t))) (v2 : ∃ t, PySem.W.nsIn K mainGlobals "GREAT_LETTERS" = some (some (.str greatS t)))
    (v4 : ∃ t, PySem.W.nsIn K mainGlobals "MOST_LETTERS" = some (some (.int 8 t))) (v5 : ∃ a, PySem.W.nsIn K mainGlobals "KEPT" = some (some (.ref a)) ∧ ∀ H, SqT K H a (keptL.map V.str)) : Gb K mg := by
  obtain ⟨t1, v1⟩ := v1
  obtain ⟨t2, v2⟩ := v2
  obtain ⟨t4, v4⟩ := v4
  obtain ⟨a5, v5, q5⟩ := v5
  exact ⟨PySem.W.mg_none_of X G z1, PySem.W.mg_none_of X G z2, PySem.W.mg_none_of X G z3, PySem.W.mg_none_of X G z4, PySem.W.mg_none_of X G z5, PySem.W.mg_none_of X G z6, PySem.W.mg_none_of X G z7,
    ⟨t1, PySem.W.mg_of X G v1⟩, ⟨t2, PySem.W.mg_of X G v2⟩, ⟨t4, PySem.W.mg_of X G v4⟩, ⟨a5, PySem.W.mg_of X G v5, q5⟩⟩
end Fw

set_option Elab.async false
set_option linter.all false
set_option maxRecDepth 100000
namespace Fw
open PySem PySem.Spec PyProof.Rows L2
theorem at2_sz (t : T) : (at2 t).sz ≤ t.sz := by
  unfold at2
  split
  · simp [T.sz, szs]; omega
  · exact Nat.le_refl _
theorem at1_sz (t : T) : (at1 t).sz ≤ t.sz := by
  unfold at1
  split
  · simp [T.sz, szs]; omega
  · exact Nat.le_refl _
theorem map_sz {f : T → T} (h : ∀ t, (f t).sz ≤ t.sz) : ∀ l, szs (l.map f) ≤ szs l
  | [] => Nat.le_refl _
  | t :: r => by
    have h1 := h t
    have h2 := map_sz h r
    simp only [List.map_cons, szs]
    omega
theorem kidsF_dec {n : Nat} {r l : List T} (h : kidsF n r = some l) : szs l ≤ szs r := by
  unfold kidsF at h
  split at h
  · split at h
    · cases h; simp [szs]
    · cases h
  · cases h; simp [szs]
  · split at h
    · cases h; simp [szs]
    · cases h
  · rename_i rows e
    split at h
    · cases h
      have : szs (rowsOf rows) ≤ rows.sz := by
        unfold rowsOf
        split
        · have := map_sz at2_sz ‹List T›
          simp only [T.sz]
          omega
        · simp [szs]
      rw [szs_app]
      simp [szs]
      omega
    · cases h
  · rename_i e arms
    split at h
    · cases h
      have := map_sz at1_sz arms
      simp only [szs]
      omega
    · cases h
  · split at h
    · cases h; simp [szs]
    · cases h
  · cases h; simp [szs]
  · cases h
theorem kidsP_dec {t : T} {l : List T} (h : kidsP t = some l) : szs l < t.sz := by
  cases t with
  | int i =>
    have h' : (if numT (.int i) = true then some [] else none) = some l := h
    split at h'
    · cases h'; simp [szs, T.sz]
    · cases h'
  | str z =>
    have h' : (if leafPB z = true then some [] else none) = some l := h
    split at h'
    · cases h'; simp [szs, T.sz]
    · cases h'
  | tup ts =>
    match ts, h with
    | .str z :: r, h =>
      rw [kidsP_str] at h
      simp only [T.sz, szs]
      split at h
      · split at h
        · cases h; omega
        · cases h
      · split at h
        · have := kidsF_dec h
          omega
        · cases h
/-- the dict of the forms -/
structure FormsIs (K : PySem.W.Frag) (w : World) (df x0 x1 x2 x3 x4 x5 x6 : Addr) : Prop where
  nm : PySem.W.nsIn K mainGlobals "PHRASE_FORMS" = some (some (.ref df))
  n0 : PySem.W.nsIn K mainGlobals "named_within" = some (some (.ref x0))
  n1 : PySem.W.nsIn K mainGlobals "two_within" = some (some (.ref x1))
  n2 : PySem.W.nsIn K mainGlobals "let_within" = some (some (.ref x2))
  n3 : PySem.W.nsIn K mainGlobals "ring_within" = some (some (.ref x3))
  n4 : PySem.W.nsIn K mainGlobals "case_within" = some (some (.ref x4))
  n5 : PySem.W.nsIn K mainGlobals "make_within" = some (some (.ref x5))
  n6 : PySem.W.nsIn K mainGlobals "three_within" = some (some (.ref x6))
  dict : StrDict K w df [("fun", .ref x0), ("call", .ref x1), ("let", .ref x2), ("ring", .ref x3), ("case", .ref x4), ("make", .ref x5), ("pick", .ref x0), ("plus", .ref x1), ("minus", .ref x1), ("times", .ref x1), ("less", .ref x1), ("if", .ref x6)]
theorem forms_mk {K : PySem.W.Frag} {w : World} {df x0 x1 x2 x3 x4 x5 x6 : Addr} {oc : Value} {od : Option Addr} {es : Array DictEntry} {n : Nat} {sl : Array (Option Value)} (nm : PySem.W.nsIn K mainGlobals "PHRASE_FORMS" = some (some (.ref df)))
    (n0 : PySem.W.nsIn K mainGlobals "named_within" = some (some (.ref x0))) (n1 : PySem.W.nsIn K mainGlobals "two_within" = some (some (.ref x1))) (n2 : PySem.W.nsIn K mainGlobals "let_within" = some (some (.ref x2))) (n3 : PySem.W.nsIn K mainGlobals "ring_within" = some (some (.ref x3)))
    (n4 : PySem.W.nsIn K mainGlobals "case_within" = some (some (.ref x4))) (n5 : PySem.W.nsIn K mainGlobals "make_within" = some (some (.ref x5))) (n6 : PySem.W.nsIn K mainGlobals "three_within" = some (some (.ref x6)))
    (l : K.lookup df = some ⟨oc, od, .dict es n, sl⟩) (hs : (df == sysModules) = false) (hx : Obj.ExactDict ⟨oc, od, .dict es n, sl⟩)
    (hp : Paired (EntryIs w) [("fun", .ref x0), ("call", .ref x1), ("let", .ref x2), ("ring", .ref x3), ("case", .ref x4), ("make", .ref x5), ("pick", .ref x0), ("plus", .ref x1), ("minus", .ref x1), ("times", .ref x1), ("less", .ref x1), ("if", .ref x6)] es.toList) :
    ∃ df x0 x1 x2 x3 x4 x5 x6, FormsIs K w df x0 x1 x2 x3 x4 x5 x6 := ⟨df, x0, x1, x2, x3, x4, x5, x6, nm, n0, n1, n2, n3, n4, n5, n6, hs, _, es, n, l, hx, rfl, hp⟩
def fnOf (x0 x1 x2 x3 x4 x5 x6 : Addr) : Nat → Addr
  | 0 => x0
  | 1 => x1
  | 2 => x2
  | 3 => x3
  | 4 => x4
  | 5 => x5
  | _ => x6
set_option maxHeartbeats 4000000 in
theorem all_mk {l : PySem.W.OpenLaw} {w : World} {K : PySem.W.Frag} {h : Heap} {mg : Str → Option Value} {fa : Addr} (X : K.In h) (G : h.Ns mainGlobals mg) (hfa : mg "law" = some (.ref fa)) (B : Gb K mg) (zi : PySem.W.nsIn K mainGlobals "int" = some none) (zb : PySem.W.nsIn K mainGlobals "bool" = some none) (za : PySem.W.nsIn K mainGlobals "abs" = some none)
    (hF : ∃ df x0 x1 x2 x3 x4 x5 x6, FormsIs K w df x0 x1 x2 x3 x4 x5 x6)
    (d5 : DefIs K "all_of" s_all_of) (d6 : DefIs K "is_small" s_is_small) (d7 : DefIs K "is_name" s_is_name) (d8 : DefIs K "is_great" s_is_great) (d9 : DefIs K "is_path" s_is_path) (d10 : DefIs K "is_whole" s_is_whole) (d11 : DefIs K "is_number" s_is_number) (d13 : DefIs K "has_length" s_has_length) (d14 : DefIs K "all_are" s_all_are) (d15 : DefIs K "is_list" s_is_list) (d16 : DefIs K "all_fit" s_all_fit) (d17 : DefIs K "two_within" s_two_within) (d18 : DefIs K "three_within" s_three_within) (d19 : DefIs K "named_within" s_named_within) (d20 : DefIs K "let_within" s_let_within) (d21 : DefIs K "make_within" s_make_within) (d22 : DefIs K "is_function_form" s_is_function_form) (d23 : DefIs K "ring_within" s_ring_within) (d24 : DefIs K "is_arm_form" s_is_arm_form) (d25 : DefIs K "case_within" s_case_within) (d27 : DefIs K "phrases_within" s_phrases_within) (d28 : DefIs K "is_phrase" s_is_phrase) (d30 : DefIs K "_law_next" s_next) (d31 : DefIs K "_law_drawn" s_drawn) (d32 : DefIs K "_law_kept" s_kept) (d33 : DefIs K "_law_letters" s_letters) (d34 : DefIs K "_law_small" s_small) (d35 : DefIs K "_law_great" s_great) (d36 : DefIs K "_law_path" s_path) (d37 : DefIs K "_law_variable" s_variable) (d38 : DefIs K "_law_number" s_number) (d39 : DefIs K "_law_leaf" s_leaf) (d40 : DefIs K "_law_some" s_some) (d41 : DefIs K "_law_ring" s_ring) (d42 : DefIs K "_law_case" s_case) (d43 : DefIs K "_law_phrase" s_phrase) (d44 : DefIs K "_law_bad_heads" s_bad_heads) (d45 : DefIs K "_law_bad_counts" s_bad_counts) (d46 : DefIs K "_law_bad_names" s_bad_names) (d47 : DefIs K "_law_bad_rows" s_bad_rows) (d48 : DefIs K "_law_bad_phrase" s_bad_phrase) (d49 : DefIs K "_law_round" s_round) (d50 : DefIs K "law" s_law) :
    ∃ fd : FuncData, (∀ (s : Shared) (v : Value), BindsTo s fd ⟨[v], []⟩ [("_law_script", v)]) ∧ ∀ base : Heap, K.In base → base.Ns mainGlobals mg → FnOk l.prog w K mg base CX0 22 fa fd ["_law_script"] (spLaw K) := by
  obtain ⟨f5, g5, a5, F5⟩ := d5
  obtain ⟨f6, g6, a6, F6⟩ := d6
  obtain ⟨f7, g7, a7, F7⟩ := d7
  obtain ⟨f8, g8, a8, F8⟩ := d8
  obtain ⟨f9, g9, a9, F9⟩ := d9
  obtain ⟨f10, g10, a10, F10⟩ := d10
  obtain ⟨f11, g11, a11, F11⟩ := d11
  obtain ⟨f13, g13, a13, F13⟩ := d13
  obtain ⟨f14, g14, a14, F14⟩ := d14
  obtain ⟨f15, g15, a15, F15⟩ := d15
  obtain ⟨f16, g16, a16, F16⟩ := d16
  obtain ⟨f17, g17, a17, F17⟩ := d17
  obtain ⟨f18, g18, a18, F18⟩ := d18
  obtain ⟨f19, g19, a19, F19⟩ := d19
  obtain ⟨f20, g20, a20, F20⟩ := d20
  obtain ⟨f21, g21, a21, F21⟩ := d21
  obtain ⟨f22, g22, a22, F22⟩ := d22
  obtain ⟨f23, g23, a23, F23⟩ := d23
  obtain ⟨f24, g24, a24, F24⟩ := d24
  obtain ⟨f25, g25, a25, F25⟩ := d25
  obtain ⟨f27, g27, a27, F27⟩ := d27
  obtain ⟨f28, g28, a28, F28⟩ := d28
  obtain ⟨f30, g30, a30, F30⟩ := d30
  obtain ⟨f31, g31, a31, F31⟩ := d31
  obtain ⟨f32, g32, a32, F32⟩ := d32
  obtain ⟨f33, g33, a33, F33⟩ := d33
  obtain ⟨f34, g34, a34, F34⟩ := d34
  obtain ⟨f35, g35, a35, F35⟩ := d35
  obtain ⟨f36, g36, a36, F36⟩ := d36
  obtain ⟨f37, g37, a37, F37⟩ := d37
  obtain ⟨f38, g38, a38, F38⟩ := d38
  obtain ⟨f39, g39, a39, F39⟩ := d39
  obtain ⟨f40, g40, a40, F40⟩ := d40
  obtain ⟨f41, g41, a41, F41⟩ := d41
  obtain ⟨f42, g42, a42, F42⟩ := d42
  obtain ⟨f43, g43, a43, F43⟩ := d43
  obtain ⟨f44, g44, a44, F44⟩ := d44
  obtain ⟨f45, g45, a45, F45⟩ := d45
  obtain ⟨f46, g46, a46, F46⟩ := d46
  obtain ⟨f47, g47, a47, F47⟩ := d47
  obtain ⟨f48, g48, a48, F48⟩ := d48
  obtain ⟨f49, g49, a49, F49⟩ := d49
  obtain ⟨f50, g50, a50, F50⟩ := d50
  obtain ⟨df, x0, x1, x2, x3, x4, x5, x6, hnm, n0, n1, n2, n3, n4, n5, n6, D⟩ := hF
  have e0 : x0 = f19 := by rw [n0] at a19; injection a19 with z; injection z with z; injection z
  have e1 : x1 = f17 := by rw [n1] at a17; injection a17 with z; injection z with z; injection z
  have e2 : x2 = f20 := by rw [n2] at a20; injection a20 with z; injection z with z; injection z
  have e3 : x3 = f23 := by rw [n3] at a23; injection a23 with z; injection z with z; injection z
  have e4 : x4 = f25 := by rw [n4] at a25; injection a25 with z; injection z with z; injection z
  have e5 : x5 = f21 := by rw [n5] at a21; injection a21 with z; injection z with z; injection z
  have e6 : x6 = f18 := by rw [n6] at a18; injection a18 with z; injection z with z; injection z
  have e := hfa.symm.trans (PySem.W.mg_of X G a50)
  cases e
  refine ⟨g50, law_binds F50 fun _ _ _ _ _ _ _ _ => .of_eq rfl, fun base _ _ => ?_⟩
  have b5 := F5.binds (ps := ["text", "signs"]) fun _ _ _ _ _ _ us hl => match us, hl with | [_, _], _ => rfl
  have b6 := F6.binds (ps := ["thing"]) fun _ _ _ _ _ _ us hl => match us, hl with | [_], _ => rfl
  have b7 := F7.binds (ps := ["thing"]) fun _ _ _ _ _ _ us hl => match us, hl with | [_], _ => rfl
  have b8 := F8.binds (ps := ["thing"]) fun _ _ _ _ _ _ us hl => match us, hl with | [_], _ => rfl
  have b9 := F9.binds (ps := ["thing"]) fun _ _ _ _ _ _ us hl => match us, hl with | [_], _ => rfl
  have b10 := F10.binds (ps := ["thing"]) fun _ _ _ _ _ _ us hl => match us, hl with | [_], _ => rfl
  have b11 := F11.binds (ps := ["thing"]) fun _ _ _ _ _ _ us hl => match us, hl with | [_], _ => rfl
  have b13 := F13.binds (ps := ["thing", "least", "most"]) fun _ _ _ _ _ _ us hl => match us, hl with | [_, _, _], _ => rfl
  have b14 := F14.binds (ps := ["things", "fits"]) fun _ _ _ _ _ _ us hl => match us, hl with | [_, _], _ => rfl
  have b15 := F15.binds (ps := ["thing", "least", "most", "fits"]) fun _ _ _ _ _ _ us hl => match us, hl with | [_, _, _, _], _ => rfl
  have b16 := F16.binds (ps := ["thing", "within"]) fun _ _ _ _ _ _ us hl => match us, hl with | [_, _], _ => rfl
  have b17 := F17.binds (ps := ["thing"]) fun _ _ _ _ _ _ us hl => match us, hl with | [_], _ => rfl
  have b18 := F18.binds (ps := ["thing"]) fun _ _ _ _ _ _ us hl => match us, hl with | [_], _ => rfl
  have b19 := F19.binds (ps := ["thing"]) fun _ _ _ _ _ _ us hl => match us, hl with | [_], _ => rfl
  have b20 := F20.binds (ps := ["thing"]) fun _ _ _ _ _ _ us hl => match us, hl with | [_], _ => rfl
  have b21 := F21.binds (ps := ["thing"]) fun _ _ _ _ _ _ us hl => match us, hl with | [_], _ => rfl
  have b22 := F22.binds (ps := ["thing"]) fun _ _ _ _ _ _ us hl => match us, hl with | [_], _ => rfl
  have b23 := F23.binds (ps := ["thing"]) fun _ _ _ _ _ _ us hl => match us, hl with | [_], _ => rfl
  have b24 := F24.binds (ps := ["thing"]) fun _ _ _ _ _ _ us hl => match us, hl with | [_], _ => rfl
  have b25 := F25.binds (ps := ["thing"]) fun _ _ _ _ _ _ us hl => match us, hl with | [_], _ => rfl
  have b27 := F27.binds (ps := ["thing"]) fun _ _ _ _ _ _ us hl => match us, hl with | [_], _ => rfl
  have b28 := F28.binds (ps := ["thing"]) fun _ _ _ _ _ _ us hl => match us, hl with | [_], _ => rfl
  have b30 := F30.binds (ps := ["_law_state", "_law_many"]) fun _ _ _ _ _ _ us hl => match us, hl with | [_, _], _ => rfl
  have b31 := F31.binds (ps := ["_law_script"]) fun _ _ _ _ _ _ us hl => match us, hl with | [_], _ => rfl
  have b32 := F32.binds (ps := []) fun _ _ _ _ _ _ us hl => match us, hl with | [], _ => rfl
  have b33 := F33.binds (ps := ["_law_state", "_law_long"]) fun _ _ _ _ _ _ us hl => match us, hl with | [_, _], _ => rfl
  have b34 := F34.binds (ps := ["_law_state"]) fun _ _ _ _ _ _ us hl => match us, hl with | [_], _ => rfl
  have b35 := F35.binds (ps := ["_law_state"]) fun _ _ _ _ _ _ us hl => match us, hl with | [_], _ => rfl
  have b36 := F36.binds (ps := ["_law_state"]) fun _ _ _ _ _ _ us hl => match us, hl with | [_], _ => rfl
  have b37 := F37.binds (ps := ["_law_state"]) fun _ _ _ _ _ _ us hl => match us, hl with | [_], _ => rfl
  have b38 := F38.binds (ps := ["_law_state"]) fun _ _ _ _ _ _ us hl => match us, hl with | [_], _ => rfl
  have b39 := F39.binds (ps := ["_law_state", "_law_way"]) fun _ _ _ _ _ _ us hl => match us, hl with | [_, _], _ => rfl
  have b40 := F40.binds (ps := ["_law_state", "_law_deep", "_law_left", "_law_many"]) fun _ _ _ _ _ _ us hl => match us, hl with | [_, _, _, _], _ => rfl
  have b41 := F41.binds (ps := ["_law_state", "_law_deep", "_law_left"]) fun _ _ _ _ _ _ us hl => match us, hl with | [_, _, _], _ => rfl
  have b42 := F42.binds (ps := ["_law_state", "_law_deep", "_law_left"]) fun _ _ _ _ _ _ us hl => match us, hl with | [_, _, _], _ => rfl
  have b43 := F43.binds (ps := ["_law_state", "_law_deep", "_law_left"]) fun _ _ _ _ _ _ us hl => match us, hl with | [_, _, _], _ => rfl
  have b44 := F44.binds (ps := ["_law_state", "_law_one", "_law_small_here", "_law_great_here"]) fun _ _ _ _ _ _ us hl => match us, hl with | [_, _, _, _], _ => rfl
  have b45 := F45.binds (ps := ["_law_one", "_law_small_here", "_law_great_here"]) fun _ _ _ _ _ _ us hl => match us, hl with | [_, _, _], _ => rfl
  have b46 := F46.binds (ps := ["_law_state", "_law_one", "_law_small_here", "_law_great_here"]) fun _ _ _ _ _ _ us hl => match us, hl with | [_, _, _, _], _ => rfl
  have b47 := F47.binds (ps := ["_law_one", "_law_small_here", "_law_great_here"]) fun _ _ _ _ _ _ us hl => match us, hl with | [_, _, _], _ => rfl
  have b48 := F48.binds (ps := ["_law_state"]) fun _ _ _ _ _ _ us hl => match us, hl with | [_], _ => rfl
  have b49 := F49.binds (ps := ["_law_state", "_law_thing"]) fun _ _ _ _ _ _ us hl => match us, hl with | [_, _], _ => rfl
  have H5 : Has l.prog w K mg base 1 "all_of" ["text", "signs"] spAllOf := ⟨f5, g5, ok_all_of F5 B, b5, F5.kp, PySem.W.mg_of X G a5⟩
  have H6 : Has l.prog w K mg base 2 "is_small" ["thing"] (spT (onStr smallB)) := ⟨f6, g6, ok_is_small F6 B H5, b6, F6.kp, PySem.W.mg_of X G a6⟩
  have K7 := ok_is_name (P := l.prog) (w := w) (base := base) F7 B H6
  have H7 : Has l.prog w K mg base 3 "is_name" ["thing"] (spT (onStr nameB)) := ⟨f7, g7, K7, b7, F7.kp, PySem.W.mg_of X G a7⟩
  have H8 : Has l.prog w K mg base 2 "is_great" ["thing"] (spT (onStr greatB)) := ⟨f8, g8, ok_is_great F8 B H5, b8, F8.kp, PySem.W.mg_of X G a8⟩
  have H9 : Has l.prog w K mg base 4 "is_path" ["thing"] (spT (onStr pathB)) := ⟨f9, g9, ok_is_path F9 B H7 H8, b9, F9.kp, PySem.W.mg_of X G a9⟩
  have H10 : Has l.prog w K mg base 1 "is_whole" ["thing"] (spT isIntT) := ⟨f10, g10, ok_is_whole F10 B (PySem.W.mg_none_of X G zi) (PySem.W.mg_none_of X G zb), b10, F10.kp, PySem.W.mg_of X G a10⟩
  have H11 : Has l.prog w K mg base 2 "is_number" ["thing"] (spT numT) := ⟨f11, g11, ok_is_number F11 (PySem.W.mg_none_of X G za) H10, b11, F11.kp, PySem.W.mg_of X G a11⟩
  have H13 : Has l.prog w K mg base 1 "has_length" ["thing", "least", "most"] spHasLen := ⟨f13, g13, ok_has_length F13 B, b13, F13.kp, PySem.W.mg_of X G a13⟩
  have K22 := ok_is_function_form (P := l.prog) (w := w) (base := base) F22 H7 H13
  have H14a : Has l.prog w K mg base 5 "all_are" ["things", "fits"] (spAllAre funcB f22) := ⟨f14, g14, ok_all_are F14 B K22 F22.kp b22, b14, F14.kp, PySem.W.mg_of X G a14⟩
  have H15a : Has l.prog w K mg base 6 "is_list" ["thing", "least", "most", "fits"] (spList funcB f22) := ⟨f15, g15, ok_is_list F15 H13 H14a, b15, F15.kp, PySem.W.mg_of X G a15⟩
  have H14b : Has l.prog w K mg base 4 "all_are" ["things", "fits"] (spAllAre (onStr nameB) f7) := ⟨f14, g14, ok_all_are F14 B K7 F7.kp b7, b14, F14.kp, PySem.W.mg_of X G a14⟩
  have K24 := ok_is_arm_form (P := l.prog) (w := w) (base := base) F24 (PySem.W.mg_of X G a7) H8 H13 H14b
  have H14c : Has l.prog w K mg base 6 "all_are" ["things", "fits"] (spAllAre armB f24) := ⟨f14, g14, ok_all_are F14 B K24 F24.kp b24, b14, F14.kp, PySem.W.mg_of X G a14⟩
  have H15c : Has l.prog w K mg base 7 "is_list" ["thing", "least", "most", "fits"] (spList armB f24) := ⟨f15, g15, ok_is_list F15 H13 H14c, b15, F15.kp, PySem.W.mg_of X G a15⟩
  have K27 := ok_phrases_within (P := l.prog) (w := w) (base := base) (fn := fnOf x0 x1 x2 x3 x4 x5 x6) F27 B (PySem.W.mg_of X G hnm) D (fun n hn => by
    match n, hn with
    | 0, _ => exact ⟨g19, by show FnOk _ _ _ _ _ _ _ x0 _ _ _; rw [e0]; exact (ok_named_within F19 B H7).mono (by decide), b19, by show PySem.W.keepIn K (.ref x0) = true; rw [e0]; exact F19.kp⟩
    | 1, _ => exact ⟨g17, by show FnOk _ _ _ _ _ _ _ x1 _ _ _; rw [e1]; exact (ok_two_within F17 B).mono (by decide), b17, by show PySem.W.keepIn K (.ref x1) = true; rw [e1]; exact F17.kp⟩
    | 2, _ => exact ⟨g20, by show FnOk _ _ _ _ _ _ _ x2 _ _ _; rw [e2]; exact (ok_let_within F20 B H7).mono (by decide), b20, by show PySem.W.keepIn K (.ref x2) = true; rw [e2]; exact F20.kp⟩
    | 3, _ => exact ⟨g23, by show FnOk _ _ _ _ _ _ _ x3 _ _ _; rw [e3]; exact (ok_ring_within F23 B (PySem.W.mg_of X G a22) H15a).mono (by decide), b23, by show PySem.W.keepIn K (.ref x3) = true; rw [e3]; exact F23.kp⟩
    | 4, _ => exact ⟨g25, by show FnOk _ _ _ _ _ _ _ x4 _ _ _; rw [e4]; exact ok_case_within F25 (PySem.W.mg_of X G a24) H15c, b25, by show PySem.W.keepIn K (.ref x4) = true; rw [e4]; exact F25.kp⟩
    | 5, _ => exact ⟨g21, by show FnOk _ _ _ _ _ _ _ x5 _ _ _; rw [e5]; exact (ok_make_within F21 B H7).mono (by decide), b21, by show PySem.W.keepIn K (.ref x5) = true; rw [e5]; exact F21.kp⟩
    | 6, _ => exact ⟨g18, by show FnOk _ _ _ _ _ _ _ x6 _ _ _; rw [e6]; exact (ok_three_within F18 B).mono (by decide), b18, by show PySem.W.keepIn K (.ref x6) = true; rw [e6]; exact F18.kp⟩) H11 H7 H9 H8
  have H16 : Has l.prog w K mg base 10 "all_fit" ["thing", "within"] (spAllFit kidsP f27) := ⟨f16, g16, ok_all_fit kidsP_dec F16 B K27 F27.kp b27, b16, F16.kp, PySem.W.mg_of X G a16⟩
  have H28 : Has l.prog w K mg base 11 "is_phrase" ["thing"] (spFits kidsP) := ⟨f28, g28, ok_is_phrase F28 (PySem.W.mg_of X G a27) H16, b28, F28.kp, PySem.W.mg_of X G a28⟩
  have H30 : Has l.prog w K mg base 1 "_law_next" ["_law_state", "_law_many"] spNext := ⟨f30, g30, ok_next F30 B.len, b30, F30.kp, PySem.W.mg_of X G a30⟩
  have H31 : Has l.prog w K mg base 1 "_law_drawn" ["_law_script"] (spDrawn K) := ⟨f31, g31, ok_drawn F31 B.len, b31, F31.kp, PySem.W.mg_of X G a31⟩
  have H32 : Has l.prog w K mg base 1 "_law_kept" [] spKept := ⟨f32, g32, ok_kept F32, b32, F32.kp, PySem.W.mg_of X G a32⟩
  have H33 : Has l.prog w K mg base 2 "_law_letters" ["_law_state", "_law_long"] spLetters := ⟨f33, g33, ok_letters F33 B.range H30, b33, F33.kp, PySem.W.mg_of X G a33⟩
  have H34 : Has l.prog w K mg base 3 "_law_small" ["_law_state"] (spStr fun z => nameB z = true) := ⟨f34, g34, ok_small F34 H30 H33 H32, b34, F34.kp, PySem.W.mg_of X G a34⟩
  have H35 : Has l.prog w K mg base 3 "_law_great" ["_law_state"] (spStr fun z => greatB z = true) := ⟨f35, g35, ok_great F35 H30 H33, b35, F35.kp, PySem.W.mg_of X G a35⟩
  have H36 : Has l.prog w K mg base 4 "_law_path" ["_law_state"] (spStr fun z => pathB z = true) := ⟨f36, g36, ok_path F36 H35 H34, b36, F36.kp, PySem.W.mg_of X G a36⟩
  have H37 : Has l.prog w K mg base 3 "_law_variable" ["_law_state"] (spStr fun z => varB z = true) := ⟨f37, g37, ok_variable F37 H30 H33, b37, F37.kp, PySem.W.mg_of X G a37⟩
  have H38 : Has l.prog w K mg base 2 "_law_number" ["_law_state"] spInt := ⟨f38, g38, ok_number F38 B.range H30, b38, F38.kp, PySem.W.mg_of X G a38⟩
  have H39 : Has l.prog w K mg base 5 "_law_leaf" ["_law_state", "_law_way"] spLeaf := ⟨f39, g39, ok_leaf F39 H38 H34 H36 H35, b39, F39.kp, PySem.W.mg_of X G a39⟩
  have H43 := phrases_all (P := l.prog) (w := w) (base := base) F43 b43 (PySem.W.mg_of X G a43) F40 b40 (PySem.W.mg_of X G a40) F41 b41 (PySem.W.mg_of X G a41) F42 b42 (PySem.W.mg_of X G a42) B.range B.tuple H30 H34 H35 H39
  have H44 : Has l.prog w K mg base 5 "_law_bad_heads" ["_law_state", "_law_one", "_law_small_here", "_law_great_here"] (spListS 14) := ⟨f44, g44, ok_bad_heads F44 H30 H37 H36 H32, b44, F44.kp, PySem.W.mg_of X G a44⟩
  have H45 : Has l.prog w K mg base 1 "_law_bad_counts" ["_law_one", "_law_small_here", "_law_great_here"] (spListC 17) := ⟨f45, g45, ok_bad_counts F45, b45, F45.kp, PySem.W.mg_of X G a45⟩
  have H46 : Has l.prog w K mg base 5 "_law_bad_names" ["_law_state", "_law_one", "_law_small_here", "_law_great_here"] (spListS 8) := ⟨f46, g46, ok_bad_names F46 H30 H37 H36 H32, b46, F46.kp, PySem.W.mg_of X G a46⟩
  have H47 : Has l.prog w K mg base 1 "_law_bad_rows" ["_law_one", "_law_small_here", "_law_great_here"] (spListC 17) := ⟨f47, g47, ok_bad_rows F47, b47, F47.kp, PySem.W.mg_of X G a47⟩
  have H48 : Has l.prog w K mg base 13 "_law_bad_phrase" ["_law_state"] spBad := ⟨f48, g48, ok_bad_phrase F48 B.len H30 H34 H35 (H43 2) H44 H45 H46 H47, b48, F48.kp, PySem.W.mg_of X G a48⟩
  have H49 : Has l.prog w K mg base 13 "_law_round" ["_law_state", "_law_thing"] spRound := ⟨f49, g49, ok_round F49 B.len H30 H34 H35 (H43 2), b49, F49.kp, PySem.W.mg_of X G a49⟩
  exact ok_law F50 B.range H31 H30 (H43 5) H48 H49 H28
theorem walk {l : PySem.W.OpenLaw} {q : Program} {loose : List Str} {XP : (Str → Option Value) → Heap → Prop} {YP : World → Heap → Prop} {d : DefRec} {K : Params → PySem.W.Frag} (hn : l.most = some 63) (hdf : d.params.defaults = [])
    (hY : ∀ (w : World) (h : Heap), YP w h → (K w.params).In h)
    (F : ∀ (w : World) (mg : Str → Option Value) (fa : Addr) (h : Heap), (K w.params).In h → h.Ns mainGlobals mg → mg d.name = some (.ref fa) →
      ∃ fd : FuncData, (∀ (s : Shared) (u : Value), BindsTo s fd ⟨[u], []⟩ [("_law_script", u)]) ∧ ∀ base : Heap, (K w.params).In base → base.Ns mainGlobals mg → FnOk l.prog w (K w.params) mg base CX0 22 fa fd ["_law_script"] (spLaw (K w.params))) :
    PySem.W.WalkO q loose XP YP l.row.toRowW d [] (fun f vs => PySem.call f vs) :=
  L2.walk_of (n := 63) (k := 22) (x := "_law_script") (CX := fun _ => CX0) (sp := fun w => spLaw (K w.params)) hn (by decide) hdf ⟨rfl, by decide, by decide⟩ hY F (fun _ _ a ns hl _ hS => ⟨a, ns, rfl, hS, hl, fun _ => rfl⟩) fun _ _ _ _ _ z => z
end Fw

set_option Elab.async false
open PySem PySem.W PyProof.Rows
set_option maxRecDepth 100000 in
set_option maxHeartbeats 0 in
theorem PySem.Challenge.cw_facework_k04_phrases_known_holds : PySem.Challenge.rw_facework_k04_phrases_known.Holds := by
  w_on; o_law; k_head; (case hw => w_witness2)
  k_fill
  refine Fw.walk (l := PySem.Challenge.rw_facework_k04_phrases_known) rfl rfl (fun w h Y => PySem.W.kIn_of Y) ?F
  case F =>
    intro w mg fa h KX G hmg
    refine' Fw.all_mk KX G hmg (Fw.gb_mk KX G ?z1 ?z2 ?z3 ?z4 ?z5 ?z6 ?z7 ?v1 ?v2 ?v4 ?v5) ?y1 ?y2 ?y3 ?fo ?d5 ?d6 ?d7 ?d8 ?d9 ?d10 ?d11 ?d13 ?d14 ?d15 ?d16 ?d17 ?d18 ?d19 ?d20 ?d21 ?d22 ?d23 ?d24 ?d25 ?d27 ?d28 ?d30 ?d31 ?d32 ?d33 ?d34 ?d35 ?d36 ?d37 ?d38 ?d39 ?d40 ?d41 ?d42 ?d43 ?d44 ?d45 ?d46 ?d47 ?d48 ?d49 ?d50
    (case z1 => k_is); (case z2 => k_is); (case z3 => k_is); (case z4 => k_is); (case z5 => k_is); (case z6 => k_is); (case z7 => k_is); (case y1 => k_is); (case y2 => k_is); (case y3 => k_is)
    (case v1 => refine' Fw.val_str ?a ?e; (case a => k_is); (case e => decide +kernel))
    (case v2 => refine' Fw.val_str ?a ?e; (case a => k_is); (case e => decide +kernel))
    (case v4 => refine' Fw.val_int ?a ?e; (case a => k_is); (case e => decide +kernel))
    (case v5 => refine' Fw.val_tup ?a ?b ?c ?d ?e; (case a => k_is); (case b => k_is); (case c => rfl); (case d => decide +kernel); (case e => decide +kernel))
    (case fo => refine' Fw.forms_mk ?a ?a0 ?a1 ?a2 ?a3 ?a4 ?a5 ?a6 ?dl ?ds ?dx ?dp; (case a => k_is); (case a0 => k_is); (case a1 => k_is); (case a2 => k_is); (case a3 => k_is); (case a4 => k_is); (case a5 => k_is); (case a6 => k_is); (case dl => k_is); (case ds => decide +kernel); (case dx => exact ⟨rfl, rfl, rfl⟩); (case dp => exact .cons ⟨rfl, ⟨_, rfl⟩, rfl⟩ (.cons ⟨rfl, ⟨_, rfl⟩, rfl⟩ (.cons ⟨rfl, ⟨_, rfl⟩, rfl⟩ (.cons ⟨rfl, ⟨_, rfl⟩, rfl⟩ (.cons ⟨rfl, ⟨_, rfl⟩, rfl⟩ (.cons ⟨rfl, ⟨_, rfl⟩, rfl⟩ (.cons ⟨rfl, ⟨_, rfl⟩, rfl⟩ (.cons ⟨rfl, ⟨_, rfl⟩, rfl⟩ (.cons ⟨rfl, ⟨_, rfl⟩, rfl⟩ (.cons ⟨rfl, ⟨_, rfl⟩, rfl⟩ (.cons ⟨rfl, ⟨_, rfl⟩, rfl⟩ (.cons ⟨rfl, ⟨_, rfl⟩, rfl⟩ .nil)))))))))))))
    (case d5 => refine' Fw.def_mk ?a ?l ?c ?k; (case a => k_is); (case l => k_is); (case c => k_is); (case k => k_is))
    (case d6 => refine' Fw.def_mk ?a ?l ?c ?k; (case a => k_is); (case l => k_is); (case c => k_is); (case k => k_is))
    (case d7 => refine' Fw.def_mk ?a ?l ?c ?k; (case a => k_is); (case l => k_is); (case c => k_is); (case k => k_is))
    (case d8 => refine' Fw.def_mk ?a ?l ?c ?k; (case a => k_is); (case l => k_is); (case c => k_is); (case k => k_is))
    (case d9 => refine' Fw.def_mk ?a ?l ?c ?k; (case a => k_is); (case l => k_is); (case c => k_is); (case k => k_is))
    (case d10 => refine' Fw.def_mk ?a ?l ?c ?k; (case a => k_is); (case l => k_is); (case c => k_is); (case k => k_is))
    (case d11 => refine' Fw.def_mk ?a ?l ?c ?k; (case a => k_is); (case l => k_is); (case c => k_is); (case k => k_is))
    (case d13 => refine' Fw.def_mk ?a ?l ?c ?k; (case a => k_is); (case l => k_is); (case c => k_is); (case k => k_is))
    (case d14 => refine' Fw.def_mk ?a ?l ?c ?k; (case a => k_is); (case l => k_is); (case c => k_is); (case k => k_is))
    (case d15 => refine' Fw.def_mk ?a ?l ?c ?k; (case a => k_is); (case l => k_is); (case c => k_is); (case k => k_is))
    (case d16 => refine' Fw.def_mk ?a ?l ?c ?k; (case a => k_is); (case l => k_is); (case c => k_is); (case k => k_is))
    (case d17 => refine' Fw.def_mk ?a ?l ?c ?k; (case a => k_is); (case l => k_is); (case c => k_is); (case k => k_is))
    (case d18 => refine' Fw.def_mk ?a ?l ?c ?k; (case a => k_is); (case l => k_is); (case c => k_is); (case k => k_is))
    (case d19 => refine' Fw.def_mk ?a ?l ?c ?k; (case a => k_is); (case l => k_is); (case c => k_is); (case k => k_is))
    (case d20 => refine' Fw.def_mk ?a ?l ?c ?k; (case a => k_is); (case l => k_is); (case c => k_is); (case k => k_is))
    (case d21 => refine' Fw.def_mk ?a ?l ?c ?k; (case a => k_is); (case l => k_is); (case c => k_is); (case k => k_is))
    (case d22 => refine' Fw.def_mk ?a ?l ?c ?k; (case a => k_is); (case l => k_is); (case c => k_is); (case k => k_is))
    (case d23 => refine' Fw.def_mk ?a ?l ?c ?k; (case a => k_is); (case l => k_is); (case c => k_is); (case k => k_is))
    (case d24 => refine' Fw.def_mk ?a ?l ?c ?k; (case a => k_is); (case l => k_is); (case c => k_is); (case k => k_is))
    (case d25 => refine' Fw.def_mk ?a ?l ?c ?k; (case a => k_is); (case l => k_is); (case c => k_is); (case k => k_is))
    (case d27 => refine' Fw.def_mk ?a ?l ?c ?k; (case a => k_is); (case l => k_is); (case c => k_is); (case k => k_is))
    (case d28 => refine' Fw.def_mk ?a ?l ?c ?k; (case a => k_is); (case l => k_is); (case c => k_is); (case k => k_is))
    (case d30 => refine' Fw.def_mk ?a ?l ?c ?k; (case a => k_is); (case l => k_is); (case c => k_is); (case k => k_is))
    (case d31 => refine' Fw.def_mk ?a ?l ?c ?k; (case a => k_is); (case l => k_is); (case c => k_is); (case k => k_is))
    (case d32 => refine' Fw.def_mk ?a ?l ?c ?k; (case a => k_is); (case l => k_is); (case c => k_is); (case k => k_is))
    (case d33 => refine' Fw.def_mk ?a ?l ?c ?k; (case a => k_is); (case l => k_is); (case c => k_is); (case k => k_is))
    (case d34 => refine' Fw.def_mk ?a ?l ?c ?k; (case a => k_is); (case l => k_is); (case c => k_is); (case k => k_is))
    (case d35 => refine' Fw.def_mk ?a ?l ?c ?k; (case a => k_is); (case l => k_is); (case c => k_is); (case k => k_is))
    (case d36 => refine' Fw.def_mk ?a ?l ?c ?k; (case a => k_is); (case l => k_is); (case c => k_is); (case k => k_is))
    (case d37 => refine' Fw.def_mk ?a ?l ?c ?k; (case a => k_is); (case l => k_is); (case c => k_is); (case k => k_is))
    (case d38 => refine' Fw.def_mk ?a ?l ?c ?k; (case a => k_is); (case l => k_is); (case c => k_is); (case k => k_is))
    (case d39 => refine' Fw.def_mk ?a ?l ?c ?k; (case a => k_is); (case l => k_is); (case c => k_is); (case k => k_is))
    (case d40 => refine' Fw.def_mk ?a ?l ?c ?k; (case a => k_is); (case l => k_is); (case c => k_is); (case k => k_is))
    (case d41 => refine' Fw.def_mk ?a ?l ?c ?k; (case a => k_is); (case l => k_is); (case c => k_is); (case k => k_is))
    (case d42 => refine' Fw.def_mk ?a ?l ?c ?k; (case a => k_is); (case l => k_is); (case c => k_is); (case k => k_is))
    (case d43 => refine' Fw.def_mk ?a ?l ?c ?k; (case a => k_is); (case l => k_is); (case c => k_is); (case k => k_is))
    (case d44 => refine' Fw.def_mk ?a ?l ?c ?k; (case a => k_is); (case l => k_is); (case c => k_is); (case k => k_is))
    (case d45 => refine' Fw.def_mk ?a ?l ?c ?k; (case a => k_is); (case l => k_is); (case c => k_is); (case k => k_is))
    (case d46 => refine' Fw.def_mk ?a ?l ?c ?k; (case a => k_is); (case l => k_is); (case c => k_is); (case k => k_is))
    (case d47 => refine' Fw.def_mk ?a ?l ?c ?k; (case a => k_is); (case l => k_is); (case c => k_is); (case k => k_is))
    (case d48 => refine' Fw.def_mk ?a ?l ?c ?k; (case a => k_is); (case l => k_is); (case c => k_is); (case k => k_is))
    (case d49 => refine' Fw.def_mk ?a ?l ?c ?k; (case a => k_is); (case l => k_is); (case c => k_is); (case k => k_is))
    (case d50 => refine' Fw.def_mk ?a ?l ?c ?k; (case a => k_is); (case l => k_is); (case c => k_is); (case k => k_is))
#print axioms PySem.Challenge.cw_facework_k04_phrases_known_holds
