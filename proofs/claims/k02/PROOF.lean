import PyProof.Rows.All
import Wide.All
import OpenK.AllK
import Wide.FinOn
import Lean
import PyProof.EqAt
import PyProof.EqKinds
import PyProof.TupleCall
import PyProof.StationsW
import OpenK.KOwn
import PyProof.ExcBaseAll.ValueError
import PyProof.NsDelKeeps
import PyProof.RulesAs
import KE.KLam
import KE.KNest
import KE.KIsAll
import PyProof.ExcArgs
import PyProof.StrCalls6
import KE.KStrOpen
import PyProof.Rows.StrJoin2
import PyProof.Rows.FStr
import KE.KIntText
import PyProof.CompUse
import KE.KRevIter
import PyProof.CollectWalk
import PyProof.TupleOfSeq
import PyProof.ZipIter
import PySem.Challenge.RW_facework_k02_no_texts
set_option Elab.async false
set_option linter.all false
set_option maxRecDepth 100000
namespace L2
open PySem PySem.Spec PyProof.Rows
abbrev Key := Sum Int Str
def keyIs : Key → Value → Bool
  | .inl k, v => Value.isInt k v
  | .inr x, v => Value.isStrOf x v
def keyH (w : World) : Key → Int
  | .inl k => hashInt k
  | .inr x => hashStr w x
theorem keyIs_shape : ∀ {k : Key} {v : Value}, keyIs k v = true → (∃ i t, k = Sum.inl i ∧ v = Value.int i t) ∨ (∃ x t, k = Sum.inr x ∧ v = Value.str x t)
  | .inl i, v, h => by
    obtain ⟨t, e⟩ := Value.isInt_shape (k := i) (v := v) h
    exact .inl ⟨i, t, rfl, e⟩
  | .inr x, v, h => by
    obtain ⟨t, e⟩ := Value.isStrOf_shape (x := x) (v := v) h
    exact .inr ⟨x, t, rfl, e⟩
theorem key_ll (a b : Int) : decide ((Sum.inl a : Key) = Sum.inl b) = (a == b) := by
  by_cases e : a = b
  · subst e; simp
  · have h : ¬ (Sum.inl a : Key) = Sum.inl b := fun q => e (Sum.inl.inj q)
    rw [decide_eq_false h]
    exact (beq_eq_false_iff_ne.mpr e).symm
theorem key_rr (a b : Str) : decide ((Sum.inr a : Key) = Sum.inr b) = decide (a = b) := by
  by_cases e : a = b
  · subst e; simp
  · have h : ¬ (Sum.inr a : Key) = Sum.inr b := fun q => e (Sum.inr.inj q)
    rw [decide_eq_false h, decide_eq_false e]
theorem key_lr (a : Int) (b : Str) : decide ((Sum.inl a : Key) = Sum.inr b) = false := decide_eq_false (fun q => nomatch q)
theorem key_rl (a : Str) (b : Int) : decide ((Sum.inr a : Key) = Sum.inl b) = false := decide_eq_false (fun q => nomatch q)
def mixKind (prog : Program) (w : World) : PySem.KeyKind prog w Key where
  is := keyIs
  hash := keyH w
  inj := fun v a b ha hb => by
    rcases keyIs_shape ha with ⟨i, t, rfl, rfl⟩ | ⟨x, t, rfl, rfl⟩
    · rcases keyIs_shape hb with ⟨j, u, rfl, e⟩ | ⟨y, u, rfl, e⟩
      · injection e with e1 _; rw [e1]
      · exact nomatch e
    · rcases keyIs_shape hb with ⟨j, u, rfl, e⟩ | ⟨y, u, rfl, e⟩
      · exact nomatch e
      · injection e with e1 _; rw [e1]
  byValue := fun k v h => by
    rcases keyIs_shape h with ⟨i, t, rfl, rfl⟩ | ⟨x, t, rfl, rfl⟩ <;> rfl
  pyHash := fun hv h => by
    rcases keyIs_shape hv with ⟨i, t, rfl, rfl⟩ | ⟨x, t, rfl, rfl⟩
    · exact wpAny_pyHash_int h
    · exact wpAny_pyHash_str h
  eqBool := fun hu hv h => by
    rcases keyIs_shape hu with ⟨i, t, rfl, rfl⟩ | ⟨x, t, rfl, rfl⟩
    · rcases keyIs_shape hv with ⟨j, u, rfl, rfl⟩ | ⟨y, u, rfl, rfl⟩
      · rw [key_ll] at h; exact wpAny_eqBool_int h
      · rw [key_lr] at h; exact SeqAt.EqAt.int_str i t y u _ _ _ _ h
    · rcases keyIs_shape hv with ⟨j, u, rfl, rfl⟩ | ⟨y, u, rfl, rfl⟩
      · rw [key_rl] at h; exact SeqAt.EqAt.str_int x t j u _ _ _ _ h
      · rw [key_rr] at h; exact wpAny_eqBool_str h
  «strs» := fun k x t v h => by
    rcases keyIs_shape h with ⟨i, u, rfl, e⟩ | ⟨y, u, rfl, e⟩
    · exact nomatch e
    · injection e with e1 _
      subst e1
      cases v <;> rfl
end L2
namespace L2
open PySem PySem.Spec PyProof.Rows
inductive V where
  | non | bl (b : Bool) | int (i : Int) | str (x : Str) | byt (b : Array UInt8) | flt (b : UInt64) | ref (a : Addr) | ty (n : String)
  deriving DecidableEq
def RelV : V → Value → Prop
  | .non, u => u = Value.none
  | .bl b, u => u = Value.bool b
  | .int i, u => ∃ t, u = Value.int i t
  | .str x, u => ∃ t, u = Value.str x t
  | .byt b, u => ∃ t, u = Value.bytes b t
  | .flt b, u => ∃ t, u = Value.float b t
  | .ref a, u => u = Value.ref a
  | .ty n, u => u = Value.type n
abbrev Vals : List V → List Value → Prop := Paired RelV
theorem Vals.length {xs : List V} {us : List Value} (r : Vals xs us) : xs.length = us.length := Paired.length r
theorem Vals.get {xs : List V} {us : List Value} {i : Nat} {x : V} (h : Vals xs us) (e : xs[i]? = some x) : ∃ u, us[i]? = some u ∧ RelV x u := by
  induction h generalizing i with
  | nil => simp at e
  | cons r _ ih => cases i with
    | zero => cases e; exact ⟨_, rfl, r⟩
    | succ i => exact (ih (i := i) e :)
theorem Vals.set {x : V} {u : Value} (r : RelV x u) {xs : List V} {us : List Value} (i : Nat) (h : Vals xs us) : Vals (xs.set i x) (us.set i u) := by
  induction h generalizing i with
  | nil => exact .nil
  | cons q t ih => cases i with
    | zero => exact .cons r t
    | succ i => exact .cons q (ih i)
theorem Vals.append {xs ys : List V} {us ws : List Value} (h : Vals xs us) (s : Vals ys ws) : Vals (xs ++ ys) (us ++ ws) := by
  induction h with
  | nil => exact s
  | cons r _ ih => exact .cons r ih
theorem Vals.take {xs : List V} {us : List Value} (n : Nat) (h : Vals xs us) : Vals (xs.take n) (us.take n) := by
  induction h generalizing n with
  | nil => cases n <;> exact .nil
  | cons r _ ih => cases n with
    | zero => exact .nil
    | succ n => exact .cons r (ih n)
theorem Vals.drop {xs : List V} {us : List Value} (n : Nat) (h : Vals xs us) : Vals (xs.drop n) (us.drop n) := by
  induction h generalizing n with
  | nil => cases n <;> exact .nil
  | cons r t ih => cases n with
    | zero => exact .cons r t
    | succ n => exact ih n
def RelO : Option V → Option Value → Prop
  | some v, some u => RelV v u
  | none, none => True
  | _, _ => False
def KV {κ : Type} : List (κ × V) → List (κ × Value) → Prop := Paired fun (p : κ × V) (q : κ × Value) => p.1 = q.1 ∧ RelV p.2 q.2
def kV : Key → V
  | .inl i => .int i
  | .inr x => .str x
inductive HO where
  | lst (xs : List V)
  | tup (xs : List V)
  | dK (kvs : List (Key × V)) | dT (kvs : List (List Key × V))
  | set (S : Int → Bool) (n : Nat)
  | ins (C dx : Addr) (fs : List (Str × V))
  | own (x : Addr)
  | xd (fs : List (Str × V))
  | met (f x : Addr)
  | rng (lo hi : Int)
  | frz (o : Obj) (u : HO)
  | tbl (ps : Array Value)
  | ext (φ : Heap → Prop)
abbrev Hp := Addr → Option HO
def upd (H : Hp) (a : Addr) (o : HO) : Hp := fun b => if b = a then some o else H b
theorem upd_same {H : Hp} {a : Addr} {o : HO} : upd H a o a = some o := by unfold upd; rw [if_pos rfl]
theorem upd_ne {H : Hp} {a b : Addr} {o : HO} (h : b ≠ a) : upd H a o b = H b := by unfold upd; rw [if_neg h]
theorem ne_of {H : Hp} {a b : Addr} {o u : HO} (h : H a = some o) (h' : H b = some u) (d : o ≠ u) : a ≠ b := by
  intro e; subst e; rw [h] at h'; exact d (Option.some.inj h')
theorem ne_of_none {H : Hp} {a b : Addr} {o : HO} (h : H a = some o) (h' : H b = none) : a ≠ b := by
  intro e; subst e; rw [h] at h'; cases h'
section
variable (P : Program) (w : World)
def ObjOk (H : Hp) (h : Heap) (a : Addr) : HO → Prop
  | .lst xs => xs.length ≤ sizeLine ∧ ∃ (its : List Value) (n : Nat), Vals xs its ∧ h.get? a = some { cls := .type "list", data := .seq its.toArray n }
  | .tup xs => xs.length ≤ sizeLine ∧ ∃ its : List Value, Vals xs its ∧ IsTup h a its.toArray
  | .dK kvs => kvs.length ≤ sizeLine ∧ (a == sysModules) = false ∧ ∃ vs, KV kvs vs ∧ h.DictOf (mixKind P w) a vs
  | .dT kvs => kvs.length ≤ sizeLine ∧ (a == sysModules) = false ∧ ∃ xs : List (List Key × Addr × Value),
      Paired (fun (p : List Key × V) (q : List Key × Addr × Value) => p.1 = q.1 ∧ H q.2.1 = some (.tup (p.1.map kV)) ∧ RelV p.2 q.2.2) kvs xs ∧
      ∃ o es ep, h.get? a = some o ∧ o.ExactDict ∧ o.data = .dict es ep ∧ es.toList = xs.map (entryOfKey (tupleKind (mixKind P w))) ∧ (xs.map (·.1)).Nodup
  | .set S n => h.SetOf (intKind P w) a S n
  | .ins C dx fs => H dx = some (.own a) ∧ fs.length ≤ 1000 ∧ dx ≠ a ∧ h.get? a = some (PySem.W.instObj C dx) ∧
      ∃ mA, h.Ns1 dx mA ∧ (∀ f, RelO (fs.lookup f) (mA f)) ∧ PySem.Within mA (fs.map (·.1))
  | .own _ => ∃ o, h.get? a = some o
  | .xd fs => ∃ mA, h.Ns1 a mA ∧ ∀ f, RelO (fs.lookup f) (mA f)
  | .rng lo hi => ∃ t u v, h.get? a = some { cls := .type "range", data := .fields #[.int lo t, .int hi u, .int 1 v] }
  | .frz o u => h.get? a = some o ∧ ObjOk H h a u
  | .tbl ps => h.get? a = some { cls := .none, data := .fields ps }
  | .met f x => h.get? a = some (PySem.W.methodObj (.ref f) (.ref x))
  | .ext φ => φ h ∧ (∃ o, h.get? a = some o) ∧ ∀ h1 h2 : Heap, φ h1 → (∀ o, h1.get? a = some o → h2.get? a = some o) → φ h2
def HOk (H : Hp) (h : Heap) : Prop := ∀ a o, H a = some o → ObjOk P w H h a o
end
section
variable {P : Program} {w : World} {H H' : Hp} {h h' : Heap} {a : Addr} {o : HO}
theorem ObjOk.lt (x : ObjOk P w H h a o) : a < h.objs.size := by
  cases o with
  | lst xs => obtain ⟨_, _, _, _, e⟩ := x; exact Heap.lt_size e
  | tup xs => obtain ⟨_, _, _, p⟩ := x; exact p.lt
  | dK kvs => obtain ⟨_, _, _, _, o, _, _, e, _⟩ := x; exact Heap.lt_size e
  | dT kvs => obtain ⟨_, _, _, _, o, _, _, e, _⟩ := x; exact Heap.lt_size e
  | set S n => obtain ⟨o, _, _, _, e, _⟩ := x; exact Heap.lt_size e
  | ins C dx fs => obtain ⟨_, _, _, e, _⟩ := x; exact Heap.lt_size e
  | own y => obtain ⟨_, e⟩ := x; exact Heap.lt_size e
  | xd fs => obtain ⟨_, ⟨_, _, _, e, _⟩, _⟩ := x; exact Heap.lt_size e
  | rng lo hi => obtain ⟨_, _, _, e⟩ := x; exact Heap.lt_size e
  | frz ob u => obtain ⟨e, _⟩ := x; exact Heap.lt_size e
  | tbl ps => exact Heap.lt_size (show h.get? a = some _ from x)
  | met f y => exact Heap.lt_size (show h.get? a = some _ from x)
  | ext φ => obtain ⟨_, ⟨_, e⟩, _⟩ := x; exact Heap.lt_size e
theorem Paired.mapP {α β : Type} {F G : α → β → Prop} {l₁ : List α} {l₂ : List β} (h : Paired F l₁ l₂) (f : ∀ a b, F a b → G a b) : Paired G l₁ l₂ := by
  induction h with
  | nil => exact .nil
  | cons r _ ih => exact .cons (f _ _ r) ih
theorem ObjOk.stay (x : ObjOk P w H h a o) (k : ∀ b u, (b = a ∨ H b = some (.own a)) → h.get? b = some u → h'.get? b = some u)
    (ho : ∀ b, H b = some (.own a) → H' b = some (.own a)) (ht : ∀ b xs, H b = some (.tup xs) → H' b = some (.tup xs)) : ObjOk P w H' h' a o := by
  induction o with
  | lst xs => obtain ⟨z, its, n, r, e⟩ := x; exact ⟨z, its, n, r, k _ _ (.inl rfl) e⟩
  | tup xs => obtain ⟨z, its, r, ob, e, c⟩ := x; exact ⟨z, its, r, ob, k _ _ (.inl rfl) e, c⟩
  | dK kvs => obtain ⟨z, y, vs, r, ob, es, ep, e, c⟩ := x; exact ⟨z, y, vs, r, ob, es, ep, k _ _ (.inl rfl) e, c⟩
  | dT kvs =>
    obtain ⟨z, y, xs, r, ob, es, ep, e, c⟩ := x
    exact ⟨z, y, xs, Paired.mapP r fun p q z => ⟨z.1, ht _ _ z.2.1, z.2.2⟩, ob, es, ep, k _ _ (.inl rfl) e, c⟩
  | set S n => obtain ⟨ob, es, ep, t, e, c⟩ := x; exact ⟨ob, es, ep, t, k _ _ (.inl rfl) e, c⟩
  | ins C dx fs =>
    obtain ⟨d, z, ne, e, mA, ⟨od, es, ep, e2, c⟩, r⟩ := x
    exact ⟨ho _ d, z, ne, k _ _ (.inl rfl) e, mA, ⟨od, es, ep, k _ _ (.inr d) e2, c⟩, r⟩
  | own y => obtain ⟨ob, e⟩ := x; exact ⟨ob, k _ _ (.inl rfl) e⟩
  | xd fs => obtain ⟨mA, ⟨od, es, ep, e, c⟩, r⟩ := x; exact ⟨mA, ⟨od, es, ep, k _ _ (.inl rfl) e, c⟩, r⟩
  | rng lo hi => obtain ⟨t, u, v, e⟩ := x; exact ⟨t, u, v, k _ _ (.inl rfl) e⟩
  | frz ob u ih => obtain ⟨e, q⟩ := x; exact ⟨k _ _ (.inl rfl) e, ih q⟩
  | tbl ps =>
    have e : h.get? a = some { cls := .none, data := .fields ps } := x
    show h'.get? a = some { cls := .none, data := .fields ps }
    exact k a _ (.inl rfl) e
  | met f y =>
    have e : h.get? a = some (PySem.W.methodObj (.ref f) (.ref y)) := x
    show h'.get? a = some (PySem.W.methodObj (.ref f) (.ref y))
    exact k a _ (.inl rfl) e
  | ext φ => obtain ⟨p, ⟨o, e⟩, st⟩ := x; exact ⟨st _ _ p fun o q => k _ _ (.inl rfl) q, ⟨o, k _ _ (.inl rfl) e⟩, st⟩
theorem HOk.lt (x : HOk P w H h) (e : H a = some o) : a < h.objs.size := (x a o e).lt
theorem HOk.fresh (x : HOk P w H h) (e : h.objs.size ≤ a) : H a = none := by
  cases q : H a with
  | none => rfl
  | some u => exact absurd (Nat.lt_of_lt_of_le (x.lt q) e) (Nat.lt_irrefl _)
theorem HOk.kept (x : HOk P w H h) (k : ∀ b u, h.get? b = some u → h'.get? b = some u) : HOk P w H h' := fun a o e =>
  (x a o e).stay (fun b u _ q => k b u q) (fun _ q => q) fun _ _ q => q
theorem HOk.laid (x : HOk P w H h) (k : ∀ b u, h.get? b = some u → h'.get? b = some u) (hp : h.objs.size ≤ a) (new : ObjOk P w (upd H a o) h' a o) : HOk P w (upd H a o) h' := fun b u e => by
  have hn := x.fresh hp
  by_cases hb : b = a
  · subst hb; rw [upd_same] at e; cases e; exact new
  · rw [upd_ne hb] at e
    exact (x b u e).stay (fun c v _ q => k c v q) (fun c q => by rw [upd_ne (ne_of_none q hn)]; exact q) fun c xs q => by rw [upd_ne (ne_of_none q hn)]; exact q
end
def Rd (H : Hp) (a : Addr) (u : HO) : Prop := H a = some u ∨ ∃ o, H a = some (.frz o u)
theorem Rd.ok {P : Program} {w : World} {H : Hp} {h : Heap} {a : Addr} {u : HO} (r : Rd H a u) (x : HOk P w H h) : ObjOk P w H h a u := by
  rcases r with r | ⟨o, r⟩
  · exact x a u r
  · obtain ⟨_, q⟩ := x a _ r
    exact q
def Mut : Option HO → Prop
  | some (.lst _) => True
  | some (.dK _) => True
  | some (.dT _) => True
  | some (.set _ _) => True
  | some (.ins _ _ _) => True
  | some (.ext _) => True
  | _ => False
section
variable {P : Program} {w : World} {H : Hp} {h h' : Heap} {x e : Addr} {o' : HO}
theorem HOk.write (ok : HOk P w H h) (mu : Mut (H x)) (he : e = x ∨ H e = some (.own x)) (k : ∀ b u, b ≠ e → h.get? b = some u → h'.get? b = some u) (heo : ∃ u, h'.get? e = some u)
    (new : ObjOk P w (upd H x o') h' x o') : HOk P w (upd H x o') h' := fun b u q => by
  have nown : ∀ c y, H c = some (.own y) → c ≠ x := fun c y r z => by subst z; rw [r] at mu; exact mu
  have ntup : ∀ c xs, H c = some (.tup xs) → c ≠ x := fun c xs r z => by subst z; rw [r] at mu; exact mu
  by_cases hb : b = x
  · subst hb; rw [upd_same] at q; cases q; exact new
  · rw [upd_ne hb] at q
    by_cases hbe : b = e
    · have q' : H b = some (.own x) := by
        rcases he with z | z
        · exact absurd (hbe.trans z) hb
        · rw [hbe]; exact z
      rw [q] at q'; cases q'
      obtain ⟨v, hv⟩ := heo
      exact ⟨v, by rw [hbe]; exact hv⟩
    · refine (ok b u q).stay (fun c v hc r => k c v ?_ r) (fun c r => by rw [upd_ne (nown c b r)]; exact r) fun c xs r => by rw [upd_ne (ntup c xs r)]; exact r
      rcases hc with rfl | hc
      · exact hbe
      · rintro rfl
        rcases he with z | z
        · exact nown c b hc z
        · rw [hc] at z; cases z; exact hb rfl
end
structure Un (fs ex : List Addr) (H H' : Hp) (h h' : Heap) : Prop where
  keep : ∀ b o, h.get? b = some o → H b = none → b ∉ fs → b ∉ ex → h'.get? b = some o
  slot : ∀ b o, h.get? b = some o → H b = none → b ∈ fs → b ∉ ex → ∃ sl, h'.get? b = some { o with slots := sl }
  free : ∀ b o, h.get? b = some o → H b = none → b ∉ ex → H' b = none
  there : ∀ b o, h.get? b = some o → b ∉ ex → ∃ o', h'.get? b = some o'
  tups : ∀ b xs, H b = some (.tup xs) → H' b = some (.tup xs)
  frzs : ∀ b o u, H b = some (.frz o u) → H' b = some (.frz o u)
  tbls : ∀ b ps, H b = some (.tbl ps) → ∃ more, H' b = some (.tbl (ps ++ more))
section
variable {fs fs' ex ex' : List Addr} {H H1 H2 : Hp} {h h1 h2 h' : Heap} {a x e : Addr} {o : HO}
theorem Un.any (u : Un fs ex H H1 h h1) {b : Addr} {ob : Obj} (q : h.get? b = some ob) (n : H b = none) (hx : b ∉ ex) : ∃ sl, h1.get? b = some { ob with slots := sl } := by
  by_cases hb : b ∈ fs
  · exact u.slot b ob q n hb hx
  · exact ⟨ob.slots, u.keep b ob q n hb hx⟩
theorem Un.kept (k : ∀ b u, h.get? b = some u → h'.get? b = some u) : Un fs ex H H h h' :=
  ⟨fun b ob q _ _ _ => k b ob q, fun b ob q _ _ _ => ⟨ob.slots, k b ob q⟩, fun _ _ _ n _ => n, fun b ob q _ => ⟨ob, k b ob q⟩, fun _ _ q => q, fun _ _ _ q => q, fun _ ps q => ⟨#[], by rw [q]; simp⟩⟩
theorem Un.refl : Un fs ex H H h h := Un.kept fun _ _ q => q
theorem Un.laid (k : ∀ b u, h.get? b = some u → h'.get? b = some u) (hp : h.objs.size ≤ a) (hn : H a = none) : Un fs ex H (upd H a o) h h' where
  keep := fun b u q _ _ _ => k b u q
  slot := fun b u q _ _ _ => ⟨u.slots, k b u q⟩
  free := fun b u q n _ => by rw [upd_ne (Nat.ne_of_lt (Nat.lt_of_lt_of_le (Heap.lt_size q) hp))]; exact n
  there := fun b u q _ => ⟨u, k b u q⟩
  tups := fun b xs q => by rw [upd_ne (ne_of_none q hn)]; exact q
  frzs := fun b u xs q => by rw [upd_ne (ne_of_none q hn)]; exact q
  tbls := fun b ps q => ⟨#[], by rw [upd_ne (ne_of_none q hn), q]; simp⟩
theorem Un.write (mu : Mut (H x)) (he : e = x ∨ H e = some (.own x)) (k : ∀ b u, b ≠ e → h.get? b = some u → h'.get? b = some u) (heo : ∃ u, h'.get? e = some u) : Un fs ex H (upd H x o) h h' := by
  have hx : ∀ b, H b = none → b ≠ x := fun b n z => by subst z; rw [n] at mu; exact mu
  have hb : ∀ b, H b = none → b ≠ e := fun b n z => by
    subst z
    rcases he with r | r
    · exact hx b n r
    · rw [n] at r; cases r
  have hm : ∀ b u, H b = some u → ¬ Mut (some u) → b ≠ x := fun b u q nm z => by subst z; rw [q] at mu; exact nm mu
  refine ⟨fun b u q n _ _ => k b u (hb b n) q, fun b u q n _ _ => ⟨u.slots, k b u (hb b n) q⟩, fun b u q n _ => by rw [upd_ne (hx b n)]; exact n, fun b u q _ => ?_,
    fun b xs q => by rw [upd_ne (hm b _ q fun z => z)]; exact q, fun b u xs q => by rw [upd_ne (hm b _ q fun z => z)]; exact q, fun b ps q => ⟨#[], by rw [upd_ne (hm b _ q fun z => z), q]; simp⟩⟩
  by_cases hbe : b = e
  · subst hbe; exact heo
  · exact ⟨u, k b u hbe q⟩
end
def trk (h : Heap) (H : Hp) : List Addr := (List.range h.objs.size).filter fun a => (H a).isSome
def hidT (h : Heap) (H : Hp) : Heap := PySem.W.hideAll h (trk h H)
theorem hidT_size (h : Heap) (H : Hp) : (hidT h H).objs.size = h.objs.size := PySem.W.hideAll_size _ _
theorem hidT_get {h : Heap} {H : Hp} {b : Addr} {o : Obj} (e : h.get? b = some o) (n : H b = none) : (hidT h H).get? b = some o :=
  PySem.W.hideAll_get _ e fun hm => by
    have q : (H b).isSome = true := (List.mem_filter.mp hm).2
    rw [n] at q; simp at q
theorem of_hidT {h : Heap} {H : Hp} {b : Addr} {o : Obj} (e : (hidT h H).get? b = some o) : h.get? b = some o ∧ H b = none := by
  have e' : h.get? b = some o := PySem.W.of_hideAll (trk h H) e
  refine ⟨e', ?_⟩
  cases q : H b with
  | none => rfl
  | some x =>
    have hm : b ∈ trk h H := List.mem_filter.mpr ⟨List.mem_range.mpr (Heap.lt_size e'), by simp [q]⟩
    have z : (hidT h H).get? b = none := PySem.W.hideAll_none (trk h H) hm
    rw [z] at e; cases e
def allNews (g h : Heap) (L : Addr) : List (Addr × Obj) := (List.range h.objs.size).filterMap fun a => if a = L ∨ (g.get? a).isSome = true then none else (h.get? a).map fun o => (a, o)
def rest (g h : Heap) (L d : Addr) : List (Addr × Obj) := (allNews g h L).filter fun p => decide (p.1 ≠ d)
end L2
namespace L2
open PySem PySem.Spec PyProof.Rows
structure Mod (K : PySem.W.Frag) (mg : Str → Option Value) (base : Heap) : Prop where
  kin : K.In base
  glob : base.Ns mainGlobals mg
  blt : ∃ mb, base.Ns builtinsNs mb ∧ ∀ x : Str, x ≠ "__name__" → mb x = bootBuiltins x
  nolimit : base.NoLimit
structure Cx where
  prog : Program
  w : World
  K : PySem.W.Frag
  mg : Str → Option Value
  base : Heap
  A : Around
  N : List Str
  s₀ : Shared
  H₀ : Hp
  env : Env
  outer : List Env
  stack : List Env
  ex : List Addr
  fn : Str → Bool
  calm : Bool
  pn : List (Addr × Obj)
  xe : Value → Shared → Prop
def frs (l : List Env) : List Addr := l.filterMap (·.frame)
abbrev Cx.fs (X : Cx) : List Addr := frs X.outer
def Vis (sc : Scope) (x : Str) : Prop := sc.names.lookup x = some .local ∨ sc.names.lookup x = some .cell ∨ sc.names.lookup x = some .free
def Loc (sc : Scope) (x : Str) : Prop := sc.names.lookup x = some .local ∨ sc.names.lookup x = some .cell
def Look (env : Env) (h : Heap) (m : Str → Option Value) (x : Str) (u : Value) : Prop :=
  (env.kindOf x = some .local ∧ m x = some u) ∨ ((env.kindOf x = some .cell ∨ env.kindOf x = some .free) ∧ ∃ c, env.cells.lookup x = some c ∧ h.IsCell c (some u))
structure Cx.Ok (X : Cx) : Prop where
  mod : Mod X.K X.mg X.base
  kind : X.env.scope.kind = .function
  glob : X.env.globals = mainGlobals
  blt : X.env.builtins = builtinsNs
  above : X.s₀.heap.objs.size ≤ X.env.locals
  inj : ∀ x y c, X.env.cells.lookup x = some c → X.env.cells.lookup y = some c → x = y
  has : ∀ x, (X.env.kindOf x = some .cell ∨ X.env.kindOf x = some .free) → ∃ c, X.env.cells.lookup x = some c
  cab : ∀ x c, X.fn x = true → X.env.cells.lookup x = some c → X.s₀.heap.objs.size ≤ c
  hd : X.calm = true → X.A.handled = none
  frames : X.A.frames = some X.stack
  stk : X.stack = X.outer ∨ (X.stack = X.env :: X.outer ∧ X.env.frame = some X.env.locals)
  exf : ∀ b ∈ X.ex, b ≠ X.env.locals ∧ ∀ x c, X.env.cells.lookup x = some c → c ≠ b
  bs : ∀ b o, X.base.get? b = some o → X.s₀.heap.get? b = some o ∧ X.H₀ b = none
  bsz : X.base.objs.size ≤ X.s₀.heap.objs.size
  noex : ∀ b o, X.base.get? b = some o → b ∉ X.ex
  exfs : ∀ b ∈ X.ex, b ∉ X.fs
  funs : X.s₀.heap.FunFrames X.base X.outer
  frf : ∀ b ∈ X.fs, X.H₀ b = none
structure Inv (X : Cx) (pins : List (Addr × Obj)) (σ : List (Option V)) (H : Hp) (s : Shared) : Prop where
  ok : X.Ok
  os : s.os = X.s₀.os
  bare : AllBare s.gens
  base : Un X.fs X.ex X.H₀ H X.s₀.heap s.heap
  loc : ∃ m, s.heap.Ns X.env.locals m ∧ ∀ (i : Nat) (x : Str) (v : V), X.N[i]? = some x → σ[i]? = some (some v) → Vis X.env.scope x → ∃ u, RelV v u ∧ Look X.env s.heap m x u
  cell : ∀ x c, X.env.cells.lookup x = some c → ∃ v, s.heap.IsCell c v
  free : H X.env.locals = none
  freeC : ∀ x c, X.env.cells.lookup x = some c → H c = none
  pin : ∀ p ∈ X.pn ++ pins, s.heap.get? p.1 = some p.2 ∧ H p.1 = none ∧ p.1 ≠ X.env.locals ∧ p.1 ∉ X.fs ∧ ∀ v, p.2.data ≠ .cell v
  hok : HOk X.prog X.w H s.heap
  len : σ.length = X.N.length
section
variable {X : Cx} {pins : List (Addr × Obj)} {σ : List (Option V)} {H H' : Hp} {s : Shared} {h' : Heap}
theorem Cx.Ok.nofr (ok : X.Ok) {b : Addr} {o : Obj} (e : X.base.get? b = some o) : b ∉ X.fs := fun hb => by
  have := (ok.funs.mem hb).1
  rw [e] at this; cases this
theorem Inv.bs (I : Inv X pins σ H s) : ∀ b o, X.base.get? b = some o → s.heap.get? b = some o ∧ H b = none := fun b o e =>
  ⟨I.base.keep b o (I.ok.bs b o e).1 (I.ok.bs b o e).2 (I.ok.nofr e) (I.ok.noex b o e), I.base.free b o (I.ok.bs b o e).1 (I.ok.bs b o e).2 (I.ok.noex b o e)⟩
theorem Inv.bk (I : Inv X pins σ H s) : ∀ b o, X.base.get? b = some o → s.heap.get? b = some o := fun b o e => (I.bs b o e).1
theorem Inv.mod (I : Inv X pins σ H s) : Mod X.K X.mg X.base := I.ok.mod
theorem Inv.kIn (I : Inv X pins σ H s) : X.K.In s.heap := I.ok.mod.kin.keeps I.bk
theorem Inv.lt (I : Inv X pins σ H s) : X.env.locals < s.heap.objs.size := let ⟨_, hn, _⟩ := I.loc; hn.lt
theorem Inv.sz (I : Inv X pins σ H s) : X.s₀.heap.objs.size ≤ s.heap.objs.size := Nat.le_trans I.ok.above (Nat.le_of_lt I.lt)
theorem Inv.nofs (I : Inv X pins σ H s) {a : Addr} (h : s.heap.objs.size ≤ a) : a ∉ X.fs := fun hb => by
  obtain ⟨_, o, ho, _⟩ := I.ok.funs.mem hb
  exact absurd (Nat.lt_of_lt_of_le (Heap.lt_size ho) (Nat.le_trans I.sz h)) (Nat.lt_irrefl _)
theorem Inv.cne (I : Inv X pins σ H s) : ∀ x c, X.env.cells.lookup x = some c → c ≠ X.env.locals := fun x c e z => by
  obtain ⟨v, o, ho, hd⟩ := I.cell x c e
  obtain ⟨m, ⟨o', es, ep, ho', hd', _⟩, _⟩ := I.loc
  rw [z, ho'] at ho; cases ho; rw [hd'] at hd; cases hd
theorem Inv.funs (I : Inv X pins σ H s) : s.heap.FunFrames X.base X.outer := by
  have all : ∀ (l : List Env), (∀ b ∈ frs l, b ∈ X.fs) → X.s₀.heap.FunFrames X.base l → s.heap.FunFrames X.base l := by
    intro l
    induction l with
    | nil => intro _ _; trivial
    | cons env r ih =>
      intro hs hl
      obtain ⟨hk, ⟨L, o, hf, hn, ho, hd⟩, hr⟩ := hl
      have hL : L ∈ X.fs := hs L (by unfold frs; rw [List.filterMap_cons, hf]; exact List.mem_cons_self)
      obtain ⟨sl, e⟩ := I.base.slot L o ho (I.ok.frf L hL) hL fun z => I.ok.exfs L z hL
      exact ⟨hk, ⟨L, _, hf, hn, e, hd⟩, ih (fun b hb => hs b (by unfold frs; rw [List.filterMap_cons, hf]; exact List.mem_cons_of_mem _ hb)) hr⟩
  exact all X.outer (fun _ hb => hb) I.ok.funs
theorem Inv.stack (I : Inv X pins σ H s) : s.heap.FunFrames X.base X.stack := by
  rcases I.ok.stk with e | ⟨e, hf⟩
  · rw [e]; exact I.funs
  · rw [e]
    obtain ⟨m, hn, _⟩ := I.loc
    refine .cons (by rw [I.ok.kind]; decide) hf hn ?_ I.funs
    exact Heap.get?_none_of_le (Nat.le_trans I.ok.bsz I.ok.above)
theorem Inv.stkSub (I : Inv X pins σ H s) : ∀ b ∈ frs X.stack, b ∈ X.env.locals :: X.fs := fun b hb => by
  rcases I.ok.stk with e | ⟨e, hf⟩
  · rw [e] at hb; exact List.mem_cons_of_mem _ hb
  · rw [e] at hb
    unfold frs at hb
    rw [List.filterMap_cons, hf] at hb
    exact hb
theorem Inv.stkFree (I : Inv X pins σ H s) : ∀ b ∈ frs X.stack, H b = none := fun b hb => by
  rcases List.mem_cons.mp (I.stkSub b hb) with e | hb
  · rw [e]; exact I.free
  · obtain ⟨_, o, ho, _⟩ := I.ok.funs.mem hb
    exact I.base.free b o ho (I.ok.frf b hb) fun z => I.ok.exfs b z hb
theorem Inv.step {g' : Array GenState} {t' : Nat} {d' : Drawn} {ch : List Addr} (I : Inv X pins σ H s)
    (hch : ∀ b ∈ ch, (b ∈ X.ex ∨ X.s₀.heap.objs.size ≤ b) ∧ b ≠ X.env.locals ∧ (∀ x c, X.env.cells.lookup x = some c → c ≠ b) ∧ ∀ p ∈ X.pn ++ pins, p.1 ≠ b)
    (keep : ∀ b o, b ≠ X.env.locals → b ∉ X.fs → b ∉ ch → s.heap.get? b = some o → H b = none → h'.get? b = some o)
    (slot : ∀ b o, b ≠ X.env.locals → b ∈ X.fs → b ∉ ch → s.heap.get? b = some o → H b = none → ∃ sl, h'.get? b = some { o with slots := sl }) (free : ∀ b o, b ∉ ch → s.heap.get? b = some o → H b = none → H' b = none)
    (there : ∀ b o, b ∉ ch → s.heap.get? b = some o → ∃ o', h'.get? b = some o')
    (tups : ∀ b xs, H b = some (.tup xs) → H' b = some (.tup xs)) (frzs : ∀ b o u, H b = some (.frz o u) → H' b = some (.frz o u)) (tbls : ∀ b ps, H b = some (.tbl ps) → ∃ more, H' b = some (.tbl (ps ++ more)))
    (ns : ∀ m, s.heap.Ns X.env.locals m → h'.Ns X.env.locals m) (hok : HOk X.prog X.w H' h') (hg : AllBare g') :
    Inv X pins σ H' { s with heap := h', gens := g', drawn := d', toks := t' } := by
  have neL : ∀ b o, X.s₀.heap.get? b = some o → b ≠ X.env.locals := fun b o e => Nat.ne_of_lt (Nat.lt_of_lt_of_le (Heap.lt_size e) I.ok.above)
  have neC : ∀ b o, X.s₀.heap.get? b = some o → b ∉ X.ex → b ∉ ch := fun b o e hx hb => by
    rcases (hch b hb).1 with z | z
    · exact hx z
    · exact absurd (Nat.lt_of_lt_of_le (Heap.lt_size e) z) (Nat.lt_irrefl _)
  have cellK : ∀ x c, X.env.cells.lookup x = some c → ∀ v, s.heap.IsCell c v → h'.IsCell c v := fun x c e v ⟨o, ho, hd⟩ => by
    have nch : c ∉ ch := fun z => (hch c z).2.2.1 x c e rfl
    by_cases hc : c ∈ X.fs
    · obtain ⟨sl, q⟩ := slot c o (I.cne x c e) hc nch ho (I.freeC x c e)
      exact ⟨_, q, hd⟩
    · exact ⟨o, keep c o (I.cne x c e) hc nch ho (I.freeC x c e), hd⟩
  refine ⟨I.ok, I.os, hg, ⟨fun b o e n hb hx => ?_, fun b o e n hb hx => ?_, fun b o e n hx => ?_, fun b o e hx => ?_, fun b xs e => tups b xs (I.base.tups b xs e), fun b o xs e => frzs b o xs (I.base.frzs b o xs e), fun b ps e => ?_⟩, ?_, fun x c e => ?_, ?_, fun x c e => ?_, fun p hp => ?_, hok, I.len⟩
  · exact keep b o (neL b o e) hb (neC b o e hx) (I.base.keep b o e n hb hx) (I.base.free b o e n hx)
  · obtain ⟨sl, e1⟩ := I.base.slot b o e n hb hx
    obtain ⟨sl', e2⟩ := slot b _ (neL b o e) hb (neC b o e hx) e1 (I.base.free b o e n hx)
    exact ⟨sl', e2⟩
  · obtain ⟨o', e1⟩ := I.base.there b o e hx
    exact free b o' (neC b o e hx) e1 (I.base.free b o e n hx)
  · obtain ⟨o', e1⟩ := I.base.there b o e hx
    exact there b o' (neC b o e hx) e1
  · obtain ⟨m1, e1⟩ := I.base.tbls b ps e
    obtain ⟨m2, e2⟩ := tbls b _ e1
    exact ⟨m1 ++ m2, by rw [e2, Array.append_assoc]⟩
  · obtain ⟨m, hn, hl⟩ := I.loc
    refine ⟨m, ns m hn, fun i x v e1 e2 e3 => ?_⟩
    obtain ⟨u, r, l⟩ := hl i x v e1 e2 e3
    refine ⟨u, r, ?_⟩
    rcases l with l | ⟨k, c, e, z⟩
    · exact .inl l
    · exact .inr ⟨k, c, e, cellK x c e _ z⟩
  · obtain ⟨v, z⟩ := I.cell x c e
    exact ⟨v, cellK x c e v z⟩
  · obtain ⟨m, ⟨o, _, _, ho, _⟩, _⟩ := I.loc
    exact free _ o (fun z => (hch _ z).2.1 rfl) ho I.free
  · obtain ⟨v, o, ho, hd⟩ := I.cell x c e
    exact free c o (fun z => (hch c z).2.2.1 x c e rfl) ho (I.freeC x c e)
  · obtain ⟨e, n, ne, nf, d⟩ := I.pin p hp
    have nch : p.1 ∉ ch := fun z => (hch p.1 z).2.2.2 p hp rfl
    exact ⟨keep p.1 p.2 ne nf nch e n, free p.1 p.2 nch e n, ne, nf, d⟩
theorem Inv.un {t' : Nat} (I : Inv X pins σ H s) (u : Un X.fs [] H H' s.heap h') (hok : HOk X.prog X.w H' h') : Inv X pins σ H' { s with heap := h', toks := t' } := by
  obtain ⟨m, ⟨o, es, ep, ho, r⟩, _⟩ := id I.loc
  obtain ⟨sl, hL⟩ := u.any ho I.free (by simp)
  exact I.step (g' := s.gens) (d' := s.drawn) (ch := []) (fun _ z => nomatch z) (fun b o _ hb _ e n => u.keep b o e n hb (by simp)) (fun b o _ hb _ e n => u.slot b o e n hb (by simp)) (fun b o _ e n => u.free b o e n (by simp)) (fun b o _ e => u.there b o e (by simp)) u.tups u.frzs u.tbls (fun m' hm => by
    obtain ⟨o', es', ep', ho', r'⟩ := hm
    rw [ho] at ho'; cases ho'
    exact ⟨_, es', ep', hL, r'⟩) hok I.bare
theorem Inv.call {g' : Array GenState} {t' : Nat} {d' : Drawn} {ch : List Addr} (I : Inv X pins σ H s) (u : Un (frs X.stack) ch H H' s.heap h') (hok : HOk X.prog X.w H' h') (hg : AllBare g')
    (hch : ∀ b ∈ ch, (b ∈ X.ex ∨ X.s₀.heap.objs.size ≤ b) ∧ b ≠ X.env.locals ∧ (∀ x c, X.env.cells.lookup x = some c → c ≠ b) ∧ ∀ p ∈ X.pn ++ pins, p.1 ≠ b) :
    Inv X pins σ H' { s with heap := h', gens := g', drawn := d', toks := t' } := by
  obtain ⟨m, ⟨o, es, ep, ho, r⟩, _⟩ := id I.loc
  obtain ⟨sl, hL⟩ := u.any ho I.free fun z => (hch _ z).2.1 rfl
  exact I.step (ch := ch) hch (fun b o hL hb hc e n => u.keep b o e n (fun z => (List.mem_cons.mp (I.stkSub b z)).elim hL hb) hc) (fun b o _ _ hc e n => u.any e n hc) (fun b o hc e n => u.free b o e n hc) (fun b o hc e => u.there b o e hc) u.tups u.frzs u.tbls (fun m' hm => by
    obtain ⟨o', es', ep', ho', r'⟩ := hm
    rw [ho] at ho'; cases ho'
    exact ⟨_, es', ep', hL, r'⟩) hok hg
theorem Inv.turned {t' : Nat} {it : Addr} (I : Inv X pins σ H s) (k : ∀ b o, b ≠ it → s.heap.get? b = some o → h'.get? b = some o) (hn : H it = none) (hL : it ≠ X.env.locals)
    (h1 : it ∈ X.ex ∨ X.s₀.heap.objs.size ≤ it) (h2 : ∀ x c, X.env.cells.lookup x = some c → c ≠ it) (h3 : ∀ p ∈ X.pn ++ pins, p.1 ≠ it) : Inv X pins σ H { s with heap := h', toks := t' } := by
  have nit : ∀ b u, H b = some u → b ≠ it := fun b u e z => by rw [z, hn] at e; cases e
  refine I.step (g' := s.gens) (d' := s.drawn) (ch := [it]) (fun b hb => ?_) (fun b o _ _ hc e _ => k b o (fun z => hc (by simp [z])) e) (fun b o _ _ hc e _ => ⟨o.slots, k b o (fun z => hc (by simp [z])) e⟩) (fun _ _ _ _ n => n)
    (fun b o hc e => ⟨o, k b o (fun z => hc (by simp [z])) e⟩) (fun _ _ e => e) (fun _ _ _ e => e) (fun b ps e => ⟨#[], by rw [e]; simp⟩) (fun m hm => ?_) (fun b u e => ?_) I.bare
  · have e : b = it := by simpa using hb
    subst e
    exact ⟨h1, hL, h2, h3⟩
  · obtain ⟨o, es, ep, ho, r⟩ := hm
    exact ⟨o, es, ep, k _ o (Ne.symm hL) ho, r⟩
  · refine (I.hok b u e).stay (fun c v hc q => k c v ?_ q) (fun _ q => q) fun _ _ q => q
    rcases hc with z | z
    · rw [z]; exact nit b u e
    · exact nit c _ z
theorem Inv.tok (I : Inv X pins σ H s) (t : Nat) : Inv X pins σ H { s with toks := t } := I.un (h' := s.heap) (t' := t) Un.refl I.hok
theorem Inv.kept {t' : Nat} (I : Inv X pins σ H s) (k : ∀ b u, s.heap.get? b = some u → h'.get? b = some u) : Inv X pins σ H { s with heap := h', toks := t' } := I.un (Un.kept k) (I.hok.kept k)
theorem Inv.laid {a : Addr} {o : HO} {t' : Nat} (I : Inv X pins σ H s) (k : ∀ b u, s.heap.get? b = some u → h'.get? b = some u) (hp : s.heap.objs.size ≤ a) (new : ObjOk X.prog X.w (upd H a o) h' a o) :
    Inv X pins σ (upd H a o) { s with heap := h', toks := t' } := I.un (Un.laid k hp (I.hok.fresh hp)) (I.hok.laid k hp new)
theorem Inv.write {x e : Addr} {o : HO} {t' : Nat} (I : Inv X pins σ H s) (mu : Mut (H x)) (he : e = x ∨ H e = some (.own x)) (k : ∀ b u, b ≠ e → s.heap.get? b = some u → h'.get? b = some u) (heo : ∃ u, h'.get? e = some u)
    (new : ObjOk X.prog X.w (upd H x o) h' x o) : Inv X pins σ (upd H x o) { s with heap := h', toks := t' } := I.un (Un.write mu he k heo) (I.hok.write mu he k heo new)
theorem Inv.pins_of {pins' : List (Addr × Obj)} (I : Inv X pins σ H s) (h : ∀ p ∈ pins', s.heap.get? p.1 = some p.2 ∧ H p.1 = none ∧ p.1 ≠ X.env.locals ∧ p.1 ∉ X.fs ∧ ∀ v, p.2.data ≠ .cell v) : Inv X pins' σ H s :=
  ⟨I.ok, I.os, I.bare, I.base, I.loc, I.cell, I.free, I.freeC, fun p hp => (List.mem_append.mp hp).elim (fun z => I.pin p (List.mem_append_left _ z)) (h p), I.hok, I.len⟩
theorem nodup_ix {N : List Str} (hN : N.Nodup) {i j : Nat} {x : Str} (a : N[i]? = some x) (b : N[j]? = some x) : i = j := by
  obtain ⟨h1, e1⟩ := List.getElem?_eq_some_iff.mp a
  obtain ⟨h2, e2⟩ := List.getElem?_eq_some_iff.mp b
  exact (List.getElem_inj hN).mp (e1.trans e2.symm)
theorem store_ok2 {M : Model} {A : Around} {E : Value → Shared → Prop} {i : Nat} {x : Str} {v : V} {u : Value} {Q : Unit → Shared → Prop} (I : Inv X pins σ H s) (hN : X.N.Nodup) (hi : X.N[i]? = some x) (hx : Loc X.env.scope x) (r : RelV v u)
    (h : ∀ s', Inv X pins (σ.set i (some v)) H s' → (∃ a, Heap.SameBut a s.heap s'.heap ∧ (a = X.env.locals ∨ X.env.cells.lookup x = some a)) → Q () s') (hf : X.fn x = true ∨ X.env.scope.names.lookup x = some .local := by first | exact .inl rfl | exact .inr rfl | assumption) : wpAny M A (storeName X.env x u) Q E s := by
  obtain ⟨m, hn, hl⟩ := id I.loc
  have hcls : (X.env.scope.kind == .class || (X.env.scope.kind == .module && X.env.locals != X.env.globals)) = false := by rw [I.ok.kind]; rfl
  have hiσ : i < σ.length := by rw [I.len]; exact (List.getElem?_eq_some_iff.mp hi).1
  have cne := I.cne
  have tracked : ∀ {a : Addr} {h' : Heap}, (∃ o, s.heap.get? a = some o ∧ H a = none) → Heap.SameBut a s.heap h' → HOk X.prog X.w H h' := fun {a h'} ha hs b ob e => by
    obtain ⟨_, _, hfree⟩ := ha
    refine (I.hok b ob e).stay (fun c w' hc q => (hs.2 c ?_).trans q) (fun _ q => q) fun _ _ q => q
    rintro rfl
    rcases hc with rfl | hc
    · rw [hfree] at e; cases e
    · rw [hfree] at hc; cases hc
  rcases hx with hk | hk
  · refine wpAny_storeName_local hk hn (fun h' hn' hs => ?_) hcls
    obtain ⟨oL, _, _, hoL, _⟩ := id hn
    refine h _ ⟨I.ok, I.os, I.bare, ⟨fun b o e n hb hx => ?_, fun b o e n hb hx => ?_, I.base.free, fun b o e hx => ?_, I.base.tups, I.base.frzs, I.base.tbls⟩, ⟨_, hn', fun j y v' e1 e2 e3 => ?_⟩, fun y c e => ?_, I.free, I.freeC, fun p hp => ?_, tracked ⟨oL, hoL, I.free⟩ hs, by simpa using I.len⟩ ⟨_, hs, .inl rfl⟩
    · exact (hs.2 b (Nat.ne_of_lt (Nat.lt_of_lt_of_le (Heap.lt_size e) I.ok.above))).trans (I.base.keep b o e n hb hx)
    · obtain ⟨sl, e1⟩ := I.base.slot b o e n hb hx
      exact ⟨sl, (hs.2 b (Nat.ne_of_lt (Nat.lt_of_lt_of_le (Heap.lt_size e) I.ok.above))).trans e1⟩
    · obtain ⟨o', e1⟩ := I.base.there b o e hx
      exact ⟨o', (hs.2 b (Nat.ne_of_lt (Nat.lt_of_lt_of_le (Heap.lt_size e) I.ok.above))).trans e1⟩
    · by_cases hj : j = i
      · subst hj
        rw [hi] at e1; cases e1
        rw [List.getElem?_set_self hiσ] at e2
        cases e2
        exact ⟨u, r, .inl ⟨hk, by simp⟩⟩
      · rw [List.getElem?_set_ne (Ne.symm hj)] at e2
        obtain ⟨u', r', q⟩ := hl j y v' e1 e2 e3
        refine ⟨u', r', ?_⟩
        rcases q with ⟨k, e⟩ | ⟨k, c, e, z⟩
        · refine .inl ⟨k, ?_⟩
          have : y ≠ x := fun e => hj (nodup_ix hN e1 (e ▸ hi))
          simp [this, e]
        · exact .inr ⟨k, c, e, z.sameBut hs (cne y c e)⟩
    · obtain ⟨w', z⟩ := I.cell y c e
      exact ⟨w', z.sameBut hs (cne y c e)⟩
    · obtain ⟨e, n, ne, nf, d⟩ := I.pin p hp
      exact ⟨(hs.2 p.1 ne).trans e, n, ne, nf, d⟩
  · have hfn : X.fn x = true := by
      rcases hf with z | z
      · exact z
      · rw [z] at hk; cases hk
    obtain ⟨c, hc⟩ := I.ok.has x (.inl hk)
    obtain ⟨w', z⟩ := I.cell x c hc
    refine wpAny_storeName_cell I.ok.kind hk hc z (fun h' hc' hs => ?_)
    obtain ⟨oc, hoc, hocd⟩ := id z
    refine h { s with heap := h' } ⟨I.ok, I.os, I.bare, ⟨fun b o e n hb hx => ?_, fun b o e n hb hx => ?_, I.base.free, fun b o e hx => ?_, I.base.tups, I.base.frzs, I.base.tbls⟩, ⟨m, hn.sameBut hs (Ne.symm (cne x c hc)), fun j y v' e1 e2 e3 => ?_⟩, fun y c' e => ?_, I.free, I.freeC, fun p hp => ?_, tracked ⟨oc, hoc, I.freeC x c hc⟩ hs, by simpa using I.len⟩ ⟨c, hs, .inr hc⟩
    · exact (hs.2 b (Nat.ne_of_lt (Nat.lt_of_lt_of_le (Heap.lt_size e) (I.ok.cab x c hfn hc)))).trans (I.base.keep b o e n hb hx)
    · obtain ⟨sl, e1⟩ := I.base.slot b o e n hb hx
      exact ⟨sl, (hs.2 b (Nat.ne_of_lt (Nat.lt_of_lt_of_le (Heap.lt_size e) (I.ok.cab x c hfn hc)))).trans e1⟩
    · obtain ⟨o', e1⟩ := I.base.there b o e hx
      exact ⟨o', (hs.2 b (Nat.ne_of_lt (Nat.lt_of_lt_of_le (Heap.lt_size e) (I.ok.cab x c hfn hc)))).trans e1⟩
    · by_cases hj : j = i
      · subst hj
        rw [hi] at e1; cases e1
        rw [List.getElem?_set_self hiσ] at e2
        cases e2
        exact ⟨u, r, .inr ⟨.inl hk, c, hc, hc'⟩⟩
      · rw [List.getElem?_set_ne (Ne.symm hj)] at e2
        obtain ⟨u', r', q⟩ := hl j y v' e1 e2 e3
        refine ⟨u', r', ?_⟩
        rcases q with q | ⟨k, c', e, z'⟩
        · exact .inl q
        · refine .inr ⟨k, c', e, z'.sameBut hs ?_⟩
          rintro rfl
          exact hj (nodup_ix hN e1 (I.ok.inj _ _ _ e hc ▸ hi))
    · by_cases hcc : c' = c
      · subst hcc; exact ⟨_, hc'⟩
      · obtain ⟨w2, z2⟩ := I.cell y c' e
        exact ⟨w2, z2.sameBut hs hcc⟩
    · obtain ⟨e, n, ne, nf, d⟩ := I.pin p hp
      refine ⟨(hs.2 p.1 ?_).trans e, n, ne, nf, d⟩
      intro q
      rw [q, hoc] at e
      have q' : oc = p.2 := Option.some.inj e
      exact d w' (by rw [← q']; exact hocd)
theorem store_ok {M : Model} {A : Around} {E : Value → Shared → Prop} {i : Nat} {x : Str} {v : V} {u : Value} {Q : Unit → Shared → Prop} (I : Inv X pins σ H s) (hN : X.N.Nodup) (hi : X.N[i]? = some x) (hx : Loc X.env.scope x) (r : RelV v u)
    (h : ∀ s', Inv X pins (σ.set i (some v)) H s' → Q () s') (hf : X.fn x = true ∨ X.env.scope.names.lookup x = some .local := by first | exact .inl rfl | exact .inr rfl | assumption) : wpAny M A (storeName X.env x u) Q E s :=
  store_ok2 I hN hi hx r (fun s' I' _ => h s' I') hf
theorem Inv.call' {s' : Shared} {ch : List Addr} (I : Inv X pins σ H s) (ho : s'.os = s.os) (u : Un (frs X.stack) ch H H' s.heap s'.heap) (hok : HOk X.prog X.w H' s'.heap) (hg : AllBare s'.gens)
    (hch : ∀ b ∈ ch, (b ∈ X.ex ∨ X.s₀.heap.objs.size ≤ b) ∧ b ≠ X.env.locals ∧ (∀ x c, X.env.cells.lookup x = some c → c ≠ b) ∧ ∀ p ∈ X.pn ++ pins, p.1 ≠ b) : Inv X pins σ H' s' := by
  obtain ⟨h', g', d', t', o'⟩ := s'
  have e : o' = s.os := ho
  subst e
  exact I.call (g' := g') (t' := t') (d' := d') u hok hg hch
end
abbrev XK := Value → Option Addr → Hp → Prop
abbrev St := List (Option V)
abbrev VK := V → Hp → Prop
abbrev TE := St → Hp → VK → Prop
abbrev TT := St → Hp → (Bool → Hp → Prop) → Prop
abbrev TA := St → Hp → (List V → Hp → Prop) → Prop
structure Ends where
  nx : St → Hp → Prop
  rt : VK
  bk : St → Hp → Prop := fun _ _ => False
  ct : St → Hp → Prop := fun _ _ => False
abbrev TS := Ends → St → Hp → Prop
def Ends.of (Q : VK) : Ends := { nx := fun _ H' => Q .non H', rt := Q }
def Ends.lp (D : Ends) (n : St → Hp → Prop) : Ends := { D with nx := n, ct := n, bk := D.nx }
def EP (X : Cx) (pins : List (Addr × Obj)) (σ : St) (Q : VK) (u : Value) (s' : Shared) : Prop := ∃ v H', Inv X pins σ H' s' ∧ RelV v u ∧ Q v H'
def TP (X : Cx) (pins : List (Addr × Obj)) (σ : St) (Q : Bool → Hp → Prop) (b : Bool) (s' : Shared) : Prop := ∃ H', Inv X pins σ H' s' ∧ Q b H'
def AP (X : Cx) (pins : List (Addr × Obj)) (σ : St) (Q : List V → Hp → Prop) (us : List Value) (s' : Shared) : Prop := ∃ vs H', Inv X pins σ H' s' ∧ Vals vs us ∧ Q vs H'
def SP (X : Cx) (pins : List (Addr × Obj)) (D : Ends) (f : Flow) (s' : Shared) : Prop :=
  match f with
  | .next => ∃ σ' H', Inv X pins σ' H' s' ∧ D.nx σ' H'
  | .brk => ∃ σ' H', Inv X pins σ' H' s' ∧ D.bk σ' H'
  | .cont => ∃ σ' H', Inv X pins σ' H' s' ∧ D.ct σ' H'
  | .ret u => ∃ v σ' H', Inv X pins σ' H' s' ∧ RelV v u ∧ D.rt v H'
def PE (X : Cx) (e : Expr) (t : TE) : Prop :=
  ∀ (pins : List (Addr × Obj)) (s : Shared) (σ : St) (H : Hp) (Q : VK), Inv X pins σ H s → t σ H Q → wpAny (model X.prog X.w) X.A (eval e X.env) (EP X pins σ Q) X.xe s
def PT (X : Cx) (e : Expr) (t : TT) : Prop :=
  ∀ (pins : List (Addr × Obj)) (s : Shared) (σ : St) (H : Hp) (Q : Bool → Hp → Prop), Inv X pins σ H s → t σ H Q → wpAny (model X.prog X.w) X.A (isTrue e X.env (eval e X.env)) (TP X pins σ Q) X.xe s
def PW (X : Cx) (e : Expr) (t : TT) : Prop :=
  ∀ (whole : Sem Value) (pins : List (Addr × Obj)) (s : Shared) (σ : St) (H : Hp) (Q : Bool → Hp → Prop), Inv X pins σ H s → t σ H Q → wpAny (model X.prog X.w) X.A (isTrue e X.env whole) (TP X pins σ Q) X.xe s
theorem PW.pt {X : Cx} {e : Expr} {t : TT} (h : PW X e t) : PT X e t := h _
def PA (X : Cx) (es : List Expr) (t : TA) : Prop :=
  ∀ (pos : Pos) (pins : List (Addr × Obj)) (s : Shared) (σ : St) (H : Hp) (Q : List V → Hp → Prop), Inv X pins σ H s → t σ H Q → wpAny (model X.prog X.w) X.A (spliced (backTo pos (starEach es X.env))) (AP X pins σ Q) X.xe s
def PS (X : Cx) (st : Stmt) (t : TS) : Prop :=
  ∀ (pins : List (Addr × Obj)) (s : Shared) (σ : St) (H : Hp) (D : Ends), Inv X pins σ H s → t D σ H → wpAny (model X.prog X.w) X.A (exec st X.env) (SP X pins D) X.xe s
def PSs (X : Cx) (st : List Stmt) (t : TS) : Prop :=
  ∀ (pins : List (Addr × Obj)) (s : Shared) (σ : St) (H : Hp) (D : Ends), Inv X pins σ H s → t D σ H → wpAny (model X.prog X.w) X.A (execs st X.env) (SP X pins D) X.xe s
theorem thn {α : Type} {t : Sem α} {Q Q' : α → Shared → Prop} {M : Model} {A : Around} {E : Value → Shared → Prop} {s : Shared} (h : wpAny M A t Q E s) (hQ : ∀ a s, Q a s → Q' a s) : wpAny M A t Q' E s := wpAny_mono h hQ fun _ _ x => x
end L2
namespace L2
open PySem PySem.Spec PyProof.Rows
section
variable {X : Cx}
inductive tVar_ (i : Nat) (σ : St) (H : Hp) (Q : VK) : Prop where
  | mk (v) : (σ[i]? = some (some v)) → (Q v H) → tVar_ i σ H Q
def tVar (i : Nat) : TE := tVar_ i
def tC (v : V) : TE := fun _ H Q => Q v H
theorem pe_var {i : Nat} {x : Str} {pos : Pos} (hN : X.N[i]? = some x) (hv : Vis X.env.scope x) (hd : (x == ("__debug__" : Str)) = false := by decide) (hcd : (x == ("__classdict__" : Str)) = false := by decide) : PE X (.Name x pos) (tVar i) := by
  intro pins s σ H Q I h
  obtain ⟨v, e, h⟩ := h
  obtain ⟨m, hn, hl⟩ := I.loc
  obtain ⟨u, r, l⟩ := hl i x v hN e hv
  have fin : EP X pins σ Q u s := ⟨v, H, I, r, h⟩
  rcases l with ⟨hk, hm⟩ | ⟨hk, c, hc, hcell⟩
  · exact wpAny_Name (wpAny_loadName_local I.ok.kind hk hn hm fin) hd
  · rcases hk with hk | hk
    · exact wpAny_Name (wpAny_loadName_cell I.ok.kind hk hc hcell fin) hd
    · exact wpAny_Name (wpAny_loadName_free I.ok.kind hk hc hcell fin hcd) hd
theorem pe_int {i j pos} : PE X (.Constant (.int i) j pos) (tC (.int i)) := fun _ _ _ H _ I h => wpAny_Constant_int ⟨.int i, H, I.tok _, ⟨_, rfl⟩, h⟩
theorem pe_bl {b j pos} : PE X (.Constant (.bool b) j pos) (tC (.bl b)) := fun _ _ _ H _ I h => Constant_bool ⟨.bl b, H, I, rfl, h⟩
theorem pe_non {j pos} : PE X (.Constant .none j pos) (tC .non) := fun _ _ _ H _ I h => Constant_none ⟨.non, H, I, rfl, h⟩
theorem pe_str {x j pos} : PE X (.Constant (.str x) j pos) (tC (.str x)) := fun _ _ _ H _ I h => Calls.Constant_str ⟨.str x, H, I.tok _, ⟨_, rfl⟩, h⟩
def Gl (X : Cx) (x : Str) : Prop := X.env.kindOf x = some .globalImplicit
theorem ld_glob {E : Value → Shared → Prop} {pins : List (Addr × Obj)} {s : Shared} {σ : St} {H : Hp} {x : Str} {u : Value} {pos : Pos} {Q : Value → Shared → Prop} (I : Inv X pins σ H s) (hg : Gl X x) (hm : X.mg x = some u) (h : Q u s)
    (hd : (x == ("__debug__" : Str)) = false := by decide) : wpAny (model X.prog X.w) X.A (eval (.Name x pos) X.env) Q E s :=
  Calls.Name_function_global I.ok.kind hg (Calls.loadGlobal_global (by rw [I.ok.glob]; exact I.mod.glob.keeps I.bk) hm h) hd
theorem ld_blt {E : Value → Shared → Prop} {pins : List (Addr × Obj)} {s : Shared} {σ : St} {H : Hp} {x : Str} {u : Value} {pos : Pos} {Q : Value → Shared → Prop} (I : Inv X pins σ H s) (hg : Gl X x) (hm : X.mg x = none) (hv : bootBuiltins x = some u) (h : Q u s)
    (hn : x ≠ "__name__" := by decide) (hd : (x == ("__debug__" : Str)) = false := by decide) : wpAny (model X.prog X.w) X.A (eval (.Name x pos) X.env) Q E s := by
  obtain ⟨mb, h1, h2⟩ := I.mod.blt
  exact Calls.Name_function_global I.ok.kind hg (Calls.loadGlobal_builtin (by rw [I.ok.glob]; exact I.mod.glob.keeps I.bk) hm (by rw [I.ok.blt]; exact h1.keeps I.bk) ((h2 x hn).trans hv) h) hd
theorem pe_glob {x : Str} {v : V} {u : Value} {pos : Pos} (hg : Gl X x) (hm : X.mg x = some u) (r : RelV v u) (hd : (x == ("__debug__" : Str)) = false := by decide) : PE X (.Name x pos) (tC v) :=
  fun _ _ _ H _ I h => ld_glob I hg hm ⟨v, H, I, r, h⟩ hd
theorem pe_bltn {x : Str} {v : V} {u : Value} {pos : Pos} (hg : Gl X x) (hm : X.mg x = none) (hv : bootBuiltins x = some u) (r : RelV v u) (hn : x ≠ "__name__" := by decide) (hd : (x == ("__debug__" : Str)) = false := by decide) : PE X (.Name x pos) (tC v) :=
  fun _ _ _ H _ I h => ld_blt I hg hm hv ⟨v, H, I, r, h⟩ hn hd
variable {a b : Expr} {ta tb : TE} {pos : Pos}
def tB (t : TE) : TT := fun σ H Q => t σ H fun x H1 => ∃ c, x = .bl c ∧ Q c H1
theorem pt_val {e : Expr} {t : TE} (h : PE X e t) (he : ∀ whole, isTrue e X.env whole = (do let v ← whole; standAt e.pos; holding [v] (truthy v)) := by intro _; rfl) : PT X e (tB t) := by
  intro pins s σ H Q I hw
  refine isTrue_plain (thn (h pins s σ H _ I hw) fun v s1 ⟨x, H1, I1, r1, q1⟩ => ?_) (he _)
  obtain ⟨d, rfl, q⟩ := q1
  cases r1
  exact wpAny_truthy_bool ⟨H1, I1, q⟩
variable {tA tB' : TT} {rest : List Expr}
def tAnd (t u : TT) : TT := fun σ H Q => t σ H fun c H1 => if c = true then u σ H1 Q else Q false H1
def tOr (t u : TT) : TT := fun σ H Q => t σ H fun c H1 => if c = true then Q true H1 else u σ H1 Q
def tNot (t : TT) : TT := fun σ H Q => t σ H fun c H1 => Q (!c) H1
theorem pw_and1 (ha : PT X a tA) : PW X (.BoolOp .And [a] pos) tA := by
  intro wh pins s σ H Q I h
  refine isTrue_and (thn (ha pins s σ H Q I h) fun c s1 e => ?_)
  cases c with
  | true => exact isTrue_and_nil e
  | false => exact e
theorem pw_or1 (ha : PT X a tA) : PW X (.BoolOp .Or [a] pos) tA := by
  intro wh pins s σ H Q I h
  refine isTrue_or (thn (ha pins s σ H Q I h) fun c s1 e => ?_)
  cases c with
  | false => exact isTrue_or_nil e
  | true => exact e
theorem pw_and (ha : PT X a tA) (hb : PW X (.BoolOp .And (b :: rest) pos) tB') : PW X (.BoolOp .And (a :: b :: rest) pos) (tAnd tA tB') := by
  intro wh pins s σ H Q I h
  refine isTrue_and (thn (ha pins s σ H _ I h) fun c s1 ⟨H1, I1, q1⟩ => ?_)
  cases c with
  | true => exact hb wh pins s1 σ H1 Q I1 q1
  | false => exact ⟨H1, I1, q1⟩
theorem pw_or (ha : PT X a tA) (hb : PW X (.BoolOp .Or (b :: rest) pos) tB') : PW X (.BoolOp .Or (a :: b :: rest) pos) (tOr tA tB') := by
  intro wh pins s σ H Q I h
  refine isTrue_or (thn (ha pins s σ H _ I h) fun c s1 ⟨H1, I1, q1⟩ => ?_)
  cases c with
  | true => exact ⟨H1, I1, q1⟩
  | false => exact hb wh pins s1 σ H1 Q I1 q1
theorem pt_not (ha : PT X a tA) : PT X (.UnaryOp .Not a pos) (tNot tA) := by
  intro pins s σ H Q I h
  exact isTrue_not (ha pins s σ H (fun c H1 => Q (!c) H1) I h)
def tAndV (ta tb : TE) : TE := fun σ H Q => ta σ H fun x H1 => ∃ c, x = .bl c ∧ if c = true then tb σ H1 Q else Q (.bl false) H1
def tOrV (ta tb : TE) : TE := fun σ H Q => ta σ H fun x H1 => ∃ c, x = .bl c ∧ if c = true then Q (.bl true) H1 else tb σ H1 Q
def tNotV (ta : TE) : TE := fun σ H Q => ta σ H fun x H1 => ∃ c, x = .bl c ∧ Q (.bl (!c)) H1
theorem pe_one {op} {t : TE} (h : PE X a t) : PE X (.BoolOp op [a] pos) t := fun pins s σ H Q I hw => BoolOp_one (h pins s σ H Q I hw)
theorem pe_and (ha : PE X a ta) (hb : PE X (.BoolOp .And (b :: rest) pos) tb) : PE X (.BoolOp .And (a :: b :: rest) pos) (tAndV ta tb) := by
  intro pins s σ H Q I h
  refine BoolOp_and (thn (ha pins s σ H _ I h) fun v s1 ⟨x, H1, I1, r1, q1⟩ => ?_)
  obtain ⟨c, rfl, q1⟩ := q1
  cases r1
  refine wpAny_truthy_bool ?_
  cases c with
  | true => exact hb pins s1 σ H1 Q I1 q1
  | false => exact ⟨.bl false, H1, I1, rfl, q1⟩
theorem pe_or (ha : PE X a ta) (hb : PE X (.BoolOp .Or (b :: rest) pos) tb) : PE X (.BoolOp .Or (a :: b :: rest) pos) (tOrV ta tb) := by
  intro pins s σ H Q I h
  refine BoolOp_or (thn (ha pins s σ H _ I h) fun v s1 ⟨x, H1, I1, r1, q1⟩ => ?_)
  obtain ⟨c, rfl, q1⟩ := q1
  cases r1
  refine wpAny_truthy_bool ?_
  cases c with
  | false => exact hb pins s1 σ H1 Q I1 q1
  | true => exact ⟨.bl true, H1, I1, rfl, q1⟩
theorem pe_not (ha : PE X a ta) : PE X (.UnaryOp .Not a pos) (tNotV ta) := by
  intro pins s σ H Q I h
  refine UnaryOp_ (thn (ha pins s σ H _ I h) fun v s1 ⟨x, H1, I1, r1, q1⟩ => ?_)
  obtain ⟨c, rfl, q1⟩ := q1
  cases r1
  exact not_of (wpAny_truthy_bool ⟨.bl (!c), H1, I1, rfl, q1⟩)
def tIf (t : TT) (ta tb : TE) : TE := fun σ H Q => t σ H fun c H1 => if c = true then ta σ H1 Q else tb σ H1 Q
theorem pe_ifExp {c : Expr} (hc : PT X c tA) (ha : PE X a ta) (hb : PE X b tb) : PE X (.IfExp c a b pos) (tIf tA ta tb) := by
  intro pins s σ H Q I h
  refine wpAny_IfExp (thn (hc pins s σ H _ I h) fun d s1 ⟨H1, I1, q1⟩ => ?_)
  cases d with
  | true => exact ha pins s1 σ H1 Q I1 q1
  | false => exact hb pins s1 σ H1 Q I1 q1
end
end L2
namespace L2
open PySem PySem.Spec PyProof.Rows
def SqL (K : PySem.W.Frag) (H : Hp) (a : Addr) (xs : List V) : Prop :=
  Rd H a (.lst xs) ∨
    ∃ (o : Obj) (its : Array Value) (n : Nat), K.lookup a = some o ∧ o.cls = .type "list" ∧ o.dict = none ∧ o.data = .seq its n ∧ its.size ≤ sizeLine ∧ Vals xs its.toList
def SqT (K : PySem.W.Frag) (H : Hp) (a : Addr) (xs : List V) : Prop :=
  Rd H a (.tup xs) ∨
    ∃ (o : Obj) (its : Array Value) (n : Nat), K.lookup a = some o ∧ o.cls = .type "tuple" ∧ o.data = .seq its n ∧ its.size ≤ sizeLine ∧ Vals xs its.toList
def absV : Value → Option V
  | .none => some .non
  | .bool b => some (.bl b)
  | .int i _ => some (.int i)
  | .str x _ => some (.str x)
  | .bytes b _ => some (.byt b)
  | .float b _ => some (.flt b)
  | .ref a => some (.ref a)
  | .type n => some (.ty n)
  | _ => none
theorem RelV.abs {x : V} {u : Value} (r : RelV x u) : absV u = some x := by
  cases x with
  | non => cases r; rfl
  | bl _ => cases r; rfl
  | int _ => obtain ⟨t, rfl⟩ := r; rfl
  | str _ => obtain ⟨t, rfl⟩ := r; rfl
  | byt _ => obtain ⟨t, rfl⟩ := r; rfl
  | flt _ => obtain ⟨t, rfl⟩ := r; rfl
  | ref _ => cases r; rfl
  | ty _ => cases r; rfl
theorem RelV.inj {x y : V} {u : Value} (r : RelV x u) (q : RelV y u) : x = y := Option.some.inj (r.abs.symm.trans q.abs)
theorem Vals.inj {xs ys : List V} {us : List Value} (h : Vals xs us) (k : Vals ys us) : xs = ys := by
  induction h generalizing ys with
  | nil => cases k; rfl
  | cons r _ ih => cases k with
    | cons q t => rw [r.inj q, ih t]
section
variable {X : Cx} {pins : List (Addr × Obj)} {σ : St} {H : Hp} {s : Shared} {a : Addr} {xs ys : List V}
theorem SqL.of {K : PySem.W.Frag} (h : H a = some (.lst xs)) : SqL K H a xs := .inl (.inl h)
theorem SqT.of {K : PySem.W.Frag} (h : H a = some (.tup xs)) : SqT K H a xs := .inl (.inl h)
theorem Inv.list (I : Inv X pins σ H s) (h : SqL X.K H a xs) : ∃ its : List Value, Vals xs its ∧ PlainL s.heap a its.toArray ∧ xs.length ≤ sizeLine := by
  rcases h with h | ⟨o, its, n, hk, hc, hd, hs, hz, r⟩
  · obtain ⟨z, its, n, r, e⟩ := h.ok I.hok
    exact ⟨its, r, ⟨_, n, e, rfl, rfl, rfl⟩, z⟩
  · refine ⟨its.toList, r, ⟨o, n, I.kIn a o hk, hc, hd, by simpa using hs⟩, ?_⟩
    have e := r.length
    simp only [Array.length_toList] at e
    omega
theorem Inv.tuple (I : Inv X pins σ H s) (h : SqT X.K H a xs) : ∃ its : List Value, Vals xs its ∧ IsTup s.heap a its.toArray ∧ xs.length ≤ sizeLine := by
  rcases h with h | ⟨o, its, n, hk, hc, hs, hz, r⟩
  · obtain ⟨z, its, r, p⟩ := h.ok I.hok
    exact ⟨its, r, p, z⟩
  · refine ⟨its.toList, r, ⟨o, I.kIn a o hk, hc, n, by simpa using hs⟩, ?_⟩
    have e := r.length
    simp only [Array.length_toList] at e
    omega
theorem Inv.list_inj (I : Inv X pins σ H s) (h : SqL X.K H a xs) (h' : SqL X.K H a ys) : xs = ys := by
  obtain ⟨its, r, ⟨o, n, e, _, _, d⟩, _⟩ := I.list h
  obtain ⟨its', r', ⟨o', n', e', _, _, d'⟩, _⟩ := I.list h'
  rw [e] at e'; cases e'
  rw [d] at d'
  injection d' with d1 _
  have : its = its' := by simpa using congrArg Array.toList d1
  subst this
  exact r.inj r'
theorem Inv.tuple_inj (I : Inv X pins σ H s) (h : SqT X.K H a xs) (h' : SqT X.K H a ys) : xs = ys := by
  obtain ⟨its, r, ⟨o, e, _, n, d⟩, _⟩ := I.tuple h
  obtain ⟨its', r', ⟨o', e', _, n', d'⟩, _⟩ := I.tuple h'
  rw [e] at e'; cases e'
  rw [d] at d'
  injection d' with d1 _
  have : its = its' := by simpa using congrArg Array.toList d1
  subst this
  exact r.inj r'
end
abbrev Cx.wish (X : Cx) (E : Value → Shared → Prop) : Cx := { X with xe := E }
abbrev Cx.nox (X : Cx) : Cx := X.wish fun _ _ => False
theorem Cx.Ok.wish {X : Cx} (ok : X.Ok) (E : Value → Shared → Prop) : (X.wish E).Ok :=
  ⟨ok.mod, ok.kind, ok.glob, ok.blt, ok.above, ok.inj, ok.has, ok.cab, ok.hd, ok.frames, ok.stk, ok.exf, ok.bs, ok.bsz, ok.noex, ok.exfs, ok.funs, ok.frf⟩
theorem Cx.Ok.unwish {X : Cx} {E : Value → Shared → Prop} (ok : (X.wish E).Ok) : X.Ok :=
  ⟨ok.mod, ok.kind, ok.glob, ok.blt, ok.above, ok.inj, ok.has, ok.cab, ok.hd, ok.frames, ok.stk, ok.exf, ok.bs, ok.bsz, ok.noex, ok.exfs, ok.funs, ok.frf⟩
section
variable {X : Cx} {pins : List (Addr × Obj)} {σ : St} {H : Hp} {s : Shared} {E : Value → Shared → Prop}
theorem Inv.wish (I : Inv X pins σ H s) (E : Value → Shared → Prop) : Inv (X.wish E) pins σ H s := ⟨I.ok.wish E, I.os, I.bare, I.base, I.loc, I.cell, I.free, I.freeC, I.pin, I.hok, I.len⟩
theorem Inv.unwish (I : Inv (X.wish E) pins σ H s) : Inv X pins σ H s := ⟨I.ok.unwish, I.os, I.bare, I.base, I.loc, I.cell, I.free, I.freeC, I.pin, I.hok, I.len⟩
theorem SP.unwish {D : Ends} {f : Flow} {s' : Shared} (h : SP (X.wish E) pins D f s') : SP X pins D f s' := by
  cases f with
  | next => obtain ⟨σ', H', I, q⟩ := h; exact ⟨σ', H', I.unwish, q⟩
  | brk => obtain ⟨σ', H', I, q⟩ := h; exact ⟨σ', H', I.unwish, q⟩
  | cont => obtain ⟨σ', H', I, q⟩ := h; exact ⟨σ', H', I.unwish, q⟩
  | ret u => obtain ⟨v, σ', H', I, r, q⟩ := h; exact ⟨v, σ', H', I.unwish, r, q⟩
theorem PSs.nox {st : List Stmt} {t : TS} (h : PSs X.nox st t) : PSs X st t := fun pins s σ H D I hw =>
  wpAny_mono (h pins s σ H D (I.wish _) hw) (fun _ _ q => q.unwish) fun _ _ z => False.elim z
end
section
variable {X : Cx} {st : Stmt} {rest : List Stmt} {t u : TS} {e : Expr} {te : TE} {pos : Pos}
def tNext : TS := fun D σ H => D.nx σ H
def Ends.to (D : Ends) (n : St → Hp → Prop) : Ends := { D with nx := n }
def tSeq (t u : TS) : TS := fun D σ H => t (D.to (u D)) σ H
theorem pss_nil : PSs X [] tNext := fun _ _ σ H _ I h => wpAny_execs_nil ⟨σ, H, I, h⟩
theorem pss_cons (h1 : PS X st t) (h2 : PSs X rest u) : PSs X (st :: rest) (tSeq t u) := by
  intro pins s σ H D I h
  refine wpAny_execs_cons (thn (h1 pins s σ H { D with nx := u D } I h) fun f s1 q => ?_)
  cases f with
  | next =>
    obtain ⟨σ', H', I', q⟩ := q
    exact h2 pins s1 σ' H' D I' q
  | ret v => exact q
  | brk => exact q
  | cont => exact q
theorem pss_one (h1 : PS X st t) : PSs X [st] t := by
  intro pins s σ H D I h
  refine wpAny_execs_cons (thn (h1 pins s σ H D I h) fun f s1 q => ?_)
  cases f with
  | next => exact wpAny_execs_nil q
  | ret v => exact q
  | brk => exact q
  | cont => exact q
theorem Inv.quiet {pins : List (Addr × Obj)} {σ : St} {H : Hp} {s : Shared} (I : Inv X pins σ H s) : interactive X.env = false := by simp [interactive, I.ok.kind]
def tDrop (te : TE) : TS := fun D σ H => te σ H fun _ H1 => D.nx σ H1
theorem ps_expr (he : PE X e te) (hs : swapsWith e none pos.line X.env = pure false := by rfl) : PS X (.Expr e pos) (tDrop te) := by
  intro pins s σ H D I h
  exact wpAny_Expr_any (thn (he pins s σ H _ I h) fun v s1 ⟨x, H1, I1, r1, q1⟩ => ⟨σ, H1, I1, q1⟩) I.quiet hs
def tRet (te : TE) : TS := fun D σ H => te σ H D.rt
theorem ps_ret (he : PE X e te) : PS X (.Return (some e) pos) (tRet te) := by
  intro pins s σ H D I h
  exact wpAny_Return_some (thn (he pins s σ H _ I h) fun v s1 ⟨x, H1, I1, r1, q1⟩ => ⟨x, σ, H1, I1, r1, q1⟩)
def tIfS (c : TT) (t u : TS) : TS := fun D σ H => c σ H fun b H1 => if b = true then t D σ H1 else u D σ H1
theorem ps_if {c : Expr} {a b : List Stmt} {tc : TT} (hc : PT X c tc) (ha : PSs X a t) (hb : PSs X b u) : PS X (.If c a b pos) (tIfS tc t u) := by
  intro pins s σ H D I h
  refine wpAny_If (thn (hc pins s σ H _ I h) fun d s1 ⟨H1, I1, q1⟩ => ?_)
  cases d with
  | true => exact ha pins s1 σ H1 D I1 q1
  | false => exact hb pins s1 σ H1 D I1 q1
def tNever : TS := fun _ _ _ => False
theorem pss_never {sts : List Stmt} : PSs X sts tNever := fun _ _ _ _ _ _ h => h.elim
end
abbrev TG := V → St → Hp → (St → Hp → Prop) → Prop
abbrev TGs := List V → St → Hp → (St → Hp → Prop) → Prop
def PG (X : Cx) (target : Expr) (t : TG) : Prop :=
  ∀ (pins : List (Addr × Obj)) (s : Shared) (σ : St) (H : Hp) (v : V) (u : Value) (Q : St → Hp → Prop), Inv X pins σ H s → RelV v u → t v σ H Q →
    wpAny (model X.prog X.w) X.A (assign target X.env u) (fun _ s' => ∃ σ' H', Inv X pins σ' H' s' ∧ Q σ' H') X.xe s
def PGs (X : Cx) (ts : List Expr) (t : TGs) : Prop :=
  ∀ (pins : List (Addr × Obj)) (s : Shared) (σ : St) (H : Hp) (vs : List V) (us : List Value) (Q : St → Hp → Prop), Inv X pins σ H s → Vals vs us → t vs σ H Q →
    wpAny (model X.prog X.w) X.A (assignInOrder ((assignEach ts X.env).map (·.2)) us) (fun _ s' => ∃ σ' H', Inv X pins σ' H' s' ∧ Q σ' H') X.xe s
abbrev TSet := V → V → V → Hp → (Hp → Prop) → Prop
def PSet (X : Cx) (t : TSet) : Prop :=
  ∀ (pins : List (Addr × Obj)) (s : Shared) (σ : St) (H : Hp) (o i v : V) (ov iv u : Value) (Q : Hp → Prop), Inv X pins σ H s → RelV o ov → RelV i iv → RelV v u → t o i v H Q →
    wpAny (model X.prog X.w) X.A (setItem ov iv u) (fun _ s' => ∃ H', Inv X pins σ H' s' ∧ Q H') X.xe s
abbrev TIp := V → V → Hp → VK → Prop
def PIp (X : Cx) (op : Operator) (t : TIp) : Prop :=
  ∀ (pins : List (Addr × Obj)) (s : Shared) (σ : St) (H : Hp) (x y : V) (v u : Value) (Q : VK), Inv X pins σ H s → RelV x v → RelV y u → t x y H Q →
    wpAny (model X.prog X.w) X.A (inplaceOp op v u) (EP X pins σ Q) X.xe s
section
variable {X : Cx} {pos : Pos}
def gName (i : Nat) : TG := fun v σ H Q => Q (σ.set i (some v)) H
theorem pg_name {i : Nat} {x : Str} (hN : X.N.Nodup) (hi : X.N[i]? = some x) (hx : Loc X.env.scope x) (hf : X.fn x = true ∨ X.env.scope.names.lookup x = some .local := by first | exact .inl rfl | exact .inr rfl | assumption) : PG X (.Name x pos) (gName i) := by
  intro pins s σ H v u Q I r h
  exact wpAny_assign_Name (store_ok I hN hi hx r (fun s' I' => ⟨_, H, I', h⟩) hf)
inductive gNil_ (vs : List V) (σ : St) (H : Hp) (Q : St → Hp → Prop) : Prop where
  | mk : (vs = []) → (Q σ H) → gNil_ vs σ H Q
def gNil : TGs := gNil_
inductive gCons_ (t : TG) (u : TGs) (vs : List V) (σ : St) (H : Hp) (Q : St → Hp → Prop) : Prop where
  | mk (v) (r) : (vs = v :: r) → (t v σ H fun σ' H' => u r σ' H' Q) → gCons_ t u vs σ H Q
def gCons (t : TG) (u : TGs) : TGs := gCons_ t u
theorem pgs_nil : PGs X [] gNil := by
  intro pins s σ H vs us Q I r h
  obtain ⟨e, h⟩ := h
  subst e
  cases r
  exact assignInOrder_nil ⟨σ, H, I, h⟩
theorem pgs_cons {e : Expr} {es : List Expr} {t : TG} {u : TGs} (h1 : PG X e t) (h2 : PGs X es u)
    (hs : (assignEach (e :: es) X.env).map (·.2) = assign e X.env :: (assignEach es X.env).map (·.2) := by rfl) : PGs X (e :: es) (gCons t u) := by
  intro pins s σ H vs us Q I r h
  obtain ⟨v, vr, e1, h⟩ := h
  subst e1
  cases r with
  | cons r rr =>
    rw [hs]
    refine assignInOrder_cons (thn (h1 pins s σ H _ _ _ I r h) fun _ s1 ⟨σ1, H1, I1, q1⟩ => ?_)
    exact h2 pins s1 σ1 H1 _ _ Q I1 rr q1
inductive gTup_ (K : PySem.W.Frag) (n : Nat) (t : TGs) (v : V) (σ : St) (H : Hp) (Q : St → Hp → Prop) : Prop where
  | mk (a) (xs) : (v = .ref a) → (SqT K H a xs) → (xs.length = n) → (t xs σ H Q) → gTup_ K n t v σ H Q
def gTup (K : PySem.W.Frag) (n : Nat) (t : TGs) : TG := gTup_ K n t
theorem pg_tup {es : List Expr} {k : Nat} {t : TGs} {n : Nat} (hc : X.calm = true) (h : PGs X es t)
    (hn : (assignEach es X.env).length = n := by rfl) (hst : (assignEach es X.env).findIdx? (·.1) = none := by rfl) : PG X (.Tuple es k pos) (gTup X.K n t) := by
  intro pins s σ H v u Q I r hw
  obtain ⟨a, xs, e1, hq, hl, hw⟩ := hw
  subst e1
  cases r
  obtain ⟨its, rv, ht, hz⟩ := I.tuple hq
  refine assign_Tuple_tuple (I.ok.hd hc) ht (by simp [hn, ← hl, rv.length]) hst fun h' hx => ?_
  have I1 : Inv X pins σ H { s with heap := h' } := I.kept (t' := s.toks) fun b o e => hx b o (Nat.ne_of_lt (Heap.lt_size e)) e
  exact h pins _ σ H xs _ Q I1 (by simpa using rv) hw
def gSub (to ti : TE) (t : TSet) : TG := fun v σ H Q => to σ H fun o H1 => ti σ H1 fun i H2 => t o i v H2 fun H3 => Q σ H3
theorem pg_sub {o i : Expr} {to ti : TE} {t : TSet} (ho : PE X o to) (hi : PE X i ti) (hs : PSet X t)
    (ha : ∀ v, assign (.Subscript o i pos) X.env v = (do
      let ov ← holding [v] (eval o X.env)
      let iv ← holding [v, ov] (eval i X.env)
      standAt pos
      holding [v, ov, iv] (setItem ov iv v)
      release [v, ov, iv] []) := by intro _; rfl) : PG X (.Subscript o i pos) (gSub to ti t) := by
  intro pins s σ H v u Q I r h
  rw [ha]
  refine wpAny_bind (wpAny_holding (thn (ho pins s σ H _ I h) fun ov s1 ⟨x, H1, I1, r1, q1⟩ => ?_))
  refine wpAny_bind (wpAny_holding (thn (hi pins s1 σ H1 _ I1 q1) fun iv s2 ⟨y, H2, I2, r2, q2⟩ => ?_))
  refine wpAny_bind (wpAny_standAt (wpAny_bind (wpAny_holding (thn (hs pins s2 σ H2 x y v ov iv u _ I2 r1 r2 r q2) fun _ s3 ⟨H3, I3, q3⟩ => ?_))))
  exact wpAny_release ⟨σ, H3, I3, q3⟩
def tAsg (te : TE) (g : TG) : TS := fun D σ H => te σ H fun x H1 => g x σ H1 D.nx
theorem ps_asg {tg e : Expr} {te : TE} {g : TG} (he : PE X e te) (hg : PG X tg g) (hs : swapsWithSole [tg] e pos.line X.env = pure false := by rfl) (hw : swappedStores [tg] e X.env = pure none := by rfl)
    (h1 : (assignEach [tg] X.env).map (·.2) = [assign tg X.env] := by rfl) : PS X (.Assign [tg] e pos) (tAsg te g) := by
  intro pins s σ H D I h
  refine wpAny_Assign_stores (thn (he pins s σ H _ I h) fun v s1 ⟨x, H1, I1, r1, q1⟩ => ?_) hs hw
  rw [h1]
  exact thn (hg pins s1 σ H1 x v _ I1 r1 q1) fun _ s2 q => q
theorem ps_set {i : Nat} {x : Str} {e : Expr} {te : TE} {pos' : Pos} (hN : X.N.Nodup) (hi : X.N[i]? = some x) (hx : Loc X.env.scope x) (he : PE X e te) (hs : swapsWith e (some (.Name x pos')) pos.line X.env = pure false := by rfl) (hf : X.fn x = true ∨ X.env.scope.names.lookup x = some .local := by first | exact .inl rfl | exact .inr rfl | assumption) :
    PS X (.Assign [.Name x pos'] e pos) (tAsg te (gName i)) := by
  intro pins s σ H D I h
  refine wpAny_Assign_Name (thn (he pins s σ H _ I h) fun v s1 ⟨y, H1, I1, r1, q1⟩ => ?_) hs
  exact store_ok I1 hN hi hx r1 (fun s2 I2 => ⟨_, H1, I2, q1⟩) hf
inductive tPar_ (i : Nat) (j : Nat) (D : Ends) (σ : St) (vs : List V) (H1 : Hp) : Prop where
  | mk (v) (w) : (vs = [v, w]) → (D.nx ((σ.set i (some v)).set j (some w)) H1) → tPar_ i j D σ vs H1
def tAug (i : Nat) (te : TE) (ti : TIp) : TS := fun D σ H => ∃ x, σ[i]? = some (some x) ∧ te σ H fun y H1 => ti x y H1 fun z H2 => D.nx (σ.set i (some z)) H2
theorem ps_aug {i : Nat} {x : Str} {e : Expr} {te : TE} {op : Operator} {ti : TIp} {pos' : Pos} (hN : X.N.Nodup) (hi : X.N[i]? = some x) (hx : Loc X.env.scope x) (he : PE X e te) (ho : PIp X op ti) (hf : X.fn x = true ∨ X.env.scope.names.lookup x = some .local := by first | exact .inl rfl | exact .inr rfl | assumption) :
    PS X (.AugAssign (.Name x pos') op e pos) (tAug i te ti) := by
  intro pins s σ H D I h
  obtain ⟨v, e1, h⟩ := h
  obtain ⟨m, hn, hl⟩ := I.loc
  have vis : Vis X.env.scope x := by rcases hx with k | k; exact .inl k; exact .inr (.inl k)
  obtain ⟨u, r, l⟩ := hl i x v hi e1 vis
  refine wpAny_AugAssign_Name ?_
  have go : wpAny (model X.prog X.w) X.A (eval e X.env) (fun w s₂ => wpAny (model X.prog X.w) X.A (inplaceOp op u w) (fun r s₃ => wpAny (model X.prog X.w) X.A (storeName X.env x r) (fun _ => SP X pins D .next) X.xe s₃) X.xe s₂) X.xe s := by
    refine thn (he pins s σ H _ I h) fun w s1 ⟨y, H1, I1, r1, q1⟩ => ?_
    refine thn (ho pins s1 σ H1 v y u w _ I1 r r1 q1) fun z s2 ⟨zv, H2, I2, r2, q2⟩ => ?_
    exact store_ok I2 hN hi hx r2 (fun s3 I3 => ⟨_, H2, I3, q2⟩) hf
  rcases l with ⟨hk, hm⟩ | ⟨hk, c, hc, hcell⟩
  · exact wpAny_loadName_local I.ok.kind hk hn hm go
  · rcases hk with hk | hk
    · exact wpAny_loadName_cell I.ok.kind hk hc hcell go
    · rcases hx with k | k
      · have : X.env.scope.names.lookup x = some .free := hk
        rw [k] at this; cases this
      · have : X.env.scope.names.lookup x = some .free := hk
        rw [k] at this; cases this
def tAugS (to ti te : TE) (tget : V → V → Hp → VK → Prop) (tip : TIp) (tset : TSet) : TS := fun D σ H => to σ H fun o H1 => ti σ H1 fun i H2 => tget o i H2 fun x H3 => te σ H3 fun y H4 => tip x y H4 fun z H5 => tset o i z H5 fun H6 => D.nx σ H6
def PGet (X : Cx) (t : V → V → Hp → VK → Prop) : Prop :=
  ∀ (pins : List (Addr × Obj)) (s : Shared) (σ : St) (H : Hp) (o i : V) (ov iv : Value) (Q : VK), Inv X pins σ H s → RelV o ov → RelV i iv → t o i H Q →
    wpAny (model X.prog X.w) X.A (getItem ov iv) (EP X pins σ Q) X.xe s
theorem ps_augS {o i e : Expr} {to ti te : TE} {tget : V → V → Hp → VK → Prop} {tip : TIp} {tset : TSet} {op : Operator} {tpos : Pos} (ho : PE X o to) (hi : PE X i ti) (hg : PGet X tget) (he : PE X e te) (hp : PIp X op tip) (hs : PSet X tset)
    (ha : ∀ ov iv new, augStore i ov iv new = (do holding [new, ov, iv] (setItem ov iv new); release [new, ov, iv] []; pure .next) := by intros; rfl) : PS X (.AugAssign (.Subscript o i tpos) op e pos) (tAugS to ti te tget tip tset) := by
  intro pins s σ H D I h
  refine wpAny_AugAssign_SubscriptAny (thn (ho pins s σ H _ I h) fun ov s1 ⟨x1, H1, I1, r1, q1⟩ => ?_) ha
  refine thn (hi pins s1 σ H1 _ I1 q1) fun iv s2 ⟨x2, H2, I2, r2, q2⟩ => ?_
  refine thn (hg pins s2 σ H2 x1 x2 ov iv _ I2 r1 r2 q2) fun old s3 ⟨x3, H3, I3, r3, q3⟩ => ?_
  refine thn (he pins s3 σ H3 _ I3 q3) fun v s4 ⟨x4, H4, I4, r4, q4⟩ => ?_
  refine thn (hp pins s4 σ H4 x3 x4 old v _ I4 r3 r4 q4) fun new s5 ⟨x5, H5, I5, r5, q5⟩ => ?_
  exact thn (hs pins s5 σ H5 x1 x2 x5 ov iv new _ I5 r1 r2 r5 q5) fun _ s6 ⟨H6, I6, q6⟩ => ⟨σ, H6, I6, q6⟩
def ipI (f : Int → Int → Int) : TIp := fun x y H Q => ∃ i j, x = .int i ∧ y = .int j ∧ Q (.int (f i j)) H
theorem ip_sub : PIp X .Sub (ipI fun i j => i - j) := by
  intro pins s σ H x y v u Q I r1 r2 h
  obtain ⟨i, j, e1, e2, q⟩ := h
  subst e1; subst e2
  obtain ⟨t, rfl⟩ := r1
  obtain ⟨t', rfl⟩ := r2
  exact isub_int ⟨.int _, H, I.tok _, ⟨_, rfl⟩, q⟩
end
section
variable {X : Cx} {pos : Pos}
end
structure It where
  go : Nat → Hp → Prop
  yld : Nat → Hp → V → Hp → Prop
  stop : Nat → Hp → Prop
def FpOk (X : Cx) (pins : List (Addr × Obj)) (H : Hp) (b : Addr) : Prop :=
  H b = none ∧ b ≠ X.env.locals ∧ b ∉ X.fs ∧ (b ∈ X.ex ∨ X.s₀.heap.objs.size ≤ b) ∧ (∀ x c, X.env.cells.lookup x = some c → c ≠ b) ∧ ∀ p ∈ X.pn ++ pins, p.1 ≠ b
theorem Inv.fpOk {X : Cx} {pins : List (Addr × Obj)} {σ : St} {H H' : Hp} {s : Shared} {b : Addr} (I : Inv X pins σ H s) (hb : s.heap.objs.size ≤ b) (hn : H' b = none) : FpOk X pins H' b := by
  refine ⟨hn, Nat.ne_of_gt (Nat.lt_of_lt_of_le I.lt hb), I.nofs hb, .inr (Nat.le_trans I.sz hb), fun x c e z => ?_, fun p hp z => ?_⟩
  · obtain ⟨v, q⟩ := I.cell x c e
    exact absurd (Nat.lt_of_lt_of_le q.lt (by rw [z]; exact hb)) (Nat.lt_irrefl _)
  · exact absurd (Nat.lt_of_lt_of_le (Heap.lt_size (I.pin p hp).1) (by rw [z]; exact hb)) (Nat.lt_irrefl _)
abbrev Calm : Cx → Prop := fun X => X.calm = true
structure TurnQ (qt : Cx → Prop) (P : Program) (w : World) (K : PySem.W.Frag) (tg : Expr) (J : It) (fp : List Addr) (it : Addr) (tn : Nat → Heap → Prop) : Prop where
  mem : it ∈ fp
  obj : ∀ i h, tn i h → ∀ b ∈ fp, ∃ o, h.get? b = some o ∧ ∀ v, o.data ≠ .cell v
  keep : ∀ i h h', tn i h → (∀ b ∈ fp, ∀ o, h.get? b = some o → h'.get? b = some o) → tn i h'
  item : ∀ (X : Cx), X.prog = P → X.w = w → X.K = K → qt X → ∀ (i : Nat) (pins : List (Addr × Obj)) (s : Shared) (σ : St) (H : Hp) (E : Value → Shared → Prop), Inv X pins σ H s → (∀ b ∈ fp, FpOk X pins H b) → tn i s.heap → J.go i H →
    wpAny (model P w) X.A (pyNext (.ref it)) (fun r s1 => ∃ u, r = some u ∧
      wpAny (model P w) X.A (letOwnedTupleGo tg (.ref it) u) (fun _ s2 => ∃ x H', Inv X pins σ H' s2 ∧ RelV x u ∧ J.yld i H x H' ∧ tn (i + 1) s2.heap ∧ ∀ b ∈ fp, H' b = none) E s1) E s
  done : ∀ (X : Cx), X.prog = P → X.w = w → X.K = K → qt X → ∀ (i : Nat) (pins : List (Addr × Obj)) (s : Shared) (σ : St) (H : Hp) (E : Value → Shared → Prop), Inv X pins σ H s → (∀ b ∈ fp, FpOk X pins H b) → tn i s.heap → J.stop i H →
    wpAny (model P w) X.A (pyNext (.ref it)) (fun r s1 => r = none ∧ Inv X pins σ H s1) E s
  self : ∀ (A : Around) (i : Nat) (s : Shared) (Q : Value → Shared → Prop) (E : Value → Shared → Prop), tn i s.heap → Q (.ref it) s → wpAny (model P w) A (pyIter (.ref it)) Q E s
abbrev Turn := TurnQ Calm
abbrev TI := St → Hp → (It → Hp → Prop) → Prop
def PIEQ (qt : Cx → Prop) (X : Cx) (pins : List (Addr × Obj)) (σ : St) (tg : Expr) (R : It → Hp → Prop) (itv : Value) (s2 : Shared) : Prop :=
  ∃ (it : Addr) (fp : List Addr) (tn : Nat → Heap → Prop) (J : It) (H' : Hp), itv = .ref it ∧ Inv X pins σ H' s2 ∧ TurnQ qt X.prog X.w X.K tg J fp it tn ∧ tn 0 s2.heap ∧ (∀ b ∈ fp, FpOk X pins H' b) ∧ R J H'
abbrev PIE := PIEQ Calm
def PIQ (qt : Cx → Prop) (X : Cx) (tg iter : Expr) (wi : TI) : Prop :=
  ∀ (pins : List (Addr × Obj)) (s : Shared) (σ : St) (H : Hp) (R : It → Hp → Prop), Inv X pins σ H s → wi σ H R →
    wpAny (model X.prog X.w) X.A (eval iter X.env) (fun v s1 => wpAny (model X.prog X.w) X.A (pyIter v) (PIEQ qt X pins σ tg R) X.xe s1) X.xe s
abbrev PI := PIQ Calm
theorem go_of {M : Model} {A : Around} {E : Value → Shared → Prop} {s : Shared} {tg : Expr} {it : Addr} {u : Value} {o : Obj} {n : String} {vs : Array Value} {Q : Unit → Shared → Prop} (ho : s.heap.get? it = some o) (hc : o.cls = .type n) (hd : o.data = .fields vs)
    (hn : ["enumerate", "zip", "dict_itemiterator", "dict_reverseitemiterator", "odict_iterator", "itertools.zip_longest", "itertools.pairwise"].contains n = false) (hQ : Q () s) : wpAny M A (letOwnedTupleGo tg (.ref it) u) Q E s := by
  unfold letOwnedTupleGo
  cases tg <;> first
    | exact wpAny_pure hQ
    | (cases u <;> first
        | exact wpAny_pure hQ
        | (refine wpAny_bind (wpAny_load ho ?_)
           rw [hc, hd]
           show wpAny M A (if (["enumerate", "zip", "dict_itemiterator", "dict_reverseitemiterator", "odict_iterator", "itertools.zip_longest", "itertools.pairwise"].contains n && vs[0]? == some (rawInt _)) = true then _ else _) Q E s
           rw [if_neg (by intro h; rw [hn, Bool.false_and] at h; cases h)]
           exact wpAny_pure hQ))
def Itl (K : PySem.W.Frag) (a : Addr) : It :=
  ⟨fun i H => ∃ xs x, SqL K H a xs ∧ xs[i]? = some x, fun i H x H' => H' = H ∧ ∀ xs, SqL K H a xs → xs[i]? = some x, fun i H => ∃ xs, SqL K H a xs ∧ xs.length ≤ i⟩
def Itt (K : PySem.W.Frag) (a : Addr) : It :=
  ⟨fun i H => ∃ xs x, SqT K H a xs ∧ xs[i]? = some x, fun i H x H' => H' = H ∧ ∀ xs, SqT K H a xs → xs[i]? = some x, fun i H => ∃ xs, SqT K H a xs ∧ xs.length ≤ i⟩
def Itr (lo : Int) (n : Nat) : It := ⟨fun i _ => i < n, fun i H x H' => H' = H ∧ x = .int (lo + i), fun i _ => n ≤ i⟩
theorem turn_list {P : Program} {w : World} {K : PySem.W.Frag} {tg : Expr} (a it : Addr) : Turn P w K tg (Itl K a) [it] it (fun i h => h.IsListIter it a i) where
  mem := by simp
  obj := fun i h st b hb => by
    have e : b = it := by simpa using hb
    subst e
    obtain ⟨o, e, c, d⟩ := st
    exact ⟨o, e, fun v z => by rw [d] at z; cases z⟩
  keep := fun i h h' st k => st.at fun o e => k it (by simp) o e
  item := by
    intro X hP hw hK hc i pins s σ H E I hf st hg
    subst hP hw hK
    obtain ⟨xs, x, hq, hx⟩ := hg
    obtain ⟨its, rv, p, hz⟩ := I.list hq
    obtain ⟨u, hu, ru⟩ := rv.get hx
    obtain ⟨f0, f1, f2, f3, f4, f5⟩ := hf it (by simp)
    refine wpAny_pyNext_list_item st p.isList (x := u) (by simpa using hu) fun h' st' sb => ?_
    have I1 : Inv X pins σ H { s with heap := h' } := I.turned (t' := s.toks) (fun b o hb e => (sb.2 b hb).trans e) f0 f1 f3 f4 f5
    obtain ⟨o, e, c, d⟩ := id st'
    exact ⟨u, rfl, go_of (s := { s with heap := h' }) e c d (by decide) ⟨x, H, I1, ru, ⟨rfl, fun ys hy => by rw [I.list_inj hy hq]; exact hx⟩, st', fun b hb => (hf b hb).1⟩⟩
  done := by
    intro X hP hw hK hc i pins s σ H E I hf st hg
    subst hP hw hK
    obtain ⟨xs, hq, hx⟩ := hg
    obtain ⟨its, rv, p, hz⟩ := I.list hq
    obtain ⟨f0, f1, f2, f3, f4, f5⟩ := hf it (by simp)
    have hl := rv.length
    exact wpAny_pyNext_list_end (I.ok.hd hc) st p.isList (by simp; exact Nat.le_trans (Nat.le_of_eq hl.symm) hx) fun h' eb => ⟨rfl, I.turned (t' := s.toks) (fun b o hb e => eb b o hb e) f0 f1 f3 f4 f5⟩
  self := fun _ _ _ _ _ st h => wpAny_pyIter_listiter st h
theorem turn_tuple {P : Program} {w : World} {K : PySem.W.Frag} {tg : Expr} (a it : Addr) : Turn P w K tg (Itt K a) [it] it (fun i h => h.IsTupleIter it a i) where
  mem := by simp
  obj := fun i h st b hb => by
    have e : b = it := by simpa using hb
    subst e
    obtain ⟨o, e, c, d⟩ := st
    exact ⟨o, e, fun v z => by rw [d] at z; cases z⟩
  keep := fun i h h' st k => st.at fun o e => k it (by simp) o e
  item := by
    intro X hP hw hK hc i pins s σ H E I hf st hg
    subst hP hw hK
    obtain ⟨xs, x, hq, hx⟩ := hg
    obtain ⟨its, rv, p, hz⟩ := I.tuple hq
    obtain ⟨u, hu, ru⟩ := rv.get hx
    obtain ⟨f0, f1, f2, f3, f4, f5⟩ := hf it (by simp)
    refine wpAny_pyNext_tuple_item st (show s.heap.IsTuple a its.toArray from p) (x := u) (by simpa using hu) fun h' st' sb => ?_
    have I1 : Inv X pins σ H { s with heap := h' } := I.turned (t' := s.toks) (fun b o hb e => (sb.2 b hb).trans e) f0 f1 f3 f4 f5
    obtain ⟨o, e, c, d⟩ := id st'
    exact ⟨u, rfl, go_of (s := { s with heap := h' }) e c d (by decide) ⟨x, H, I1, ru, ⟨rfl, fun ys hy => by rw [I.tuple_inj hy hq]; exact hx⟩, st', fun b hb => (hf b hb).1⟩⟩
  done := by
    intro X hP hw hK hc i pins s σ H E I hf st hg
    subst hP hw hK
    obtain ⟨xs, hq, hx⟩ := hg
    obtain ⟨its, rv, p, hz⟩ := I.tuple hq
    obtain ⟨f0, f1, f2, f3, f4, f5⟩ := hf it (by simp)
    have hl := rv.length
    exact wpAny_pyNext_tuple_end (I.ok.hd hc) st (show s.heap.IsTuple a its.toArray from p) (by simp; exact Nat.le_trans (Nat.le_of_eq hl.symm) hx) fun h' eb => ⟨rfl, I.turned (t' := s.toks) (fun b o hb e => eb b o hb e) f0 f1 f3 f4 f5⟩
  self := fun _ _ _ _ _ st h => wpAny_pyIter_tupleiter st h
theorem turn_range {P : Program} {w : World} {K : PySem.W.Frag} {tg : Expr} (it : Addr) (lo : Int) (n : Nat) : Turn P w K tg (Itr lo n) [it] it (fun i h => IsRangeIter h it (lo + (i : Nat) * 1) ((n : Int) - (i : Nat)) 1) where
  mem := by simp
  obj := fun i h st b hb => by
    have e : b = it := by simpa using hb
    subst e
    exact ⟨_, st, fun v z => by
      have z' : Data.fields _ = Data.cell v := z
      cases z'⟩
  keep := fun i h h' st k => k it (by simp) _ st
  item := by
    intro X hP hw hK hc i pins s σ H E I hf st hg
    subst hP hw hK
    obtain ⟨f0, f1, f2, f3, f4, f5⟩ := hf it (by simp)
    have W := Walks.range (prog := X.prog) (w := X.w) (I.ok.hd hc) it lo 1 n
    refine W.item i s _ _ hg st fun v h' tk hv st' kk => ?_
    obtain ⟨t, rfl⟩ := hv
    have I1 : Inv X pins σ H { s with heap := h', toks := tk } := I.turned (fun b o hb e => kk b o (by simpa using hb) e) f0 f1 f3 f4 f5
    refine ⟨_, rfl, go_of (s := { s with heap := h', toks := tk }) (n := "range_iterator") st' rfl rfl (by decide) ⟨.int (lo + i), H, I1, ⟨t, ?_⟩, ⟨rfl, rfl⟩, st', fun b hb => (hf b hb).1⟩⟩
    rw [Int.mul_one]
  done := by
    intro X hP hw hK hc i pins s σ H E I hf st hg
    subst hP hw hK
    obtain ⟨f0, f1, f2, f3, f4, f5⟩ := hf it (by simp)
    exact wpAny_pyNext_range_end (I.ok.hd hc) st (by have : n ≤ i := hg; omega) fun h' eb => ⟨rfl, I.turned (t' := s.toks) (fun b o hb e => eb b o hb e) f0 f1 f3 f4 f5⟩
  self := fun _ _ _ _ _ st h => wpAny_pyIter_rangeiter st h
end L2
namespace L2
open PySem PySem.Spec PyProof.Rows
section
variable {X : Cx} {tg : Expr}
inductive iList_ (K : PySem.W.Frag) (R : It → Hp → Prop) (x : V) (H1 : Hp) : Prop where
  | mk (a) : (x = .ref a) → ((∃ xs, SqL K H1 a xs)) → (R (Itl K a) H1) → iList_ K R x H1
def iList (K : PySem.W.Frag) (tl : TE) : TI := fun σ H R => tl σ H (iList_ K R)
inductive iTup_ (K : PySem.W.Frag) (R : It → Hp → Prop) (x : V) (H1 : Hp) : Prop where
  | mk (a) : (x = .ref a) → ((∃ xs, SqT K H1 a xs)) → (R (Itt K a) H1) → iTup_ K R x H1
def iTup (K : PySem.W.Frag) (tl : TE) : TI := fun σ H R => tl σ H (iTup_ K R)
theorem pi_list {l : Expr} {tl : TE} (hl : PE X l tl) : PI X tg l (iList X.K tl) := by
  intro pins s σ H R I h
  refine thn (hl pins s σ H _ I h) fun v s1 ⟨x, H1, I1, r1, q1⟩ => ?_
  obtain ⟨a, e, ⟨xs, hq⟩, q⟩ := q1
  subst e
  cases r1
  obtain ⟨its, rv, p, hz⟩ := I1.list hq
  refine wpAny_pyIter_list p.isList ?_
  refine ⟨s1.heap.objs.size, [s1.heap.objs.size], _, _, H1, rfl, I1.kept (t' := s1.toks) fun b o e => Heap.get?_push_of_some _ e, turn_list a _, ⟨_, Heap.get?_push_size _ rfl, rfl, rfl⟩, fun b hb => ?_, q⟩
  have e : b = s1.heap.objs.size := by simpa using hb
  subst e
  exact I1.fpOk (Nat.le_refl _) (I1.hok.fresh (Nat.le_refl _))
theorem pi_tup {l : Expr} {tl : TE} (hl : PE X l tl) : PI X tg l (iTup X.K tl) := by
  intro pins s σ H R I h
  refine thn (hl pins s σ H _ I h) fun v s1 ⟨x, H1, I1, r1, q1⟩ => ?_
  obtain ⟨a, e, ⟨xs, hq⟩, q⟩ := q1
  subst e
  cases r1
  obtain ⟨its, rv, p, hz⟩ := I1.tuple hq
  refine wpAny_pyIter_tuple (show s1.heap.IsTuple a its.toArray from p) ?_
  refine ⟨s1.heap.objs.size, [s1.heap.objs.size], _, _, H1, rfl, I1.kept (t' := s1.toks) fun b o e => Heap.get?_push_of_some _ e, turn_tuple a _, ⟨_, Heap.get?_push_size _ rfl, rfl, rfl⟩, fun b hb => ?_, q⟩
  have e : b = s1.heap.objs.size := by simpa using hb
  subst e
  exact I1.fpOk (Nat.le_refl _) (I1.hok.fresh (Nat.le_refl _))
theorem range_it {pins : List (Addr × Obj)} {σ : St} {H : Hp} {s : Shared} {R : It → Hp → Prop} {E : Value → Shared → Prop} {lo hi : Int} {t u v : Tok} {tk : Nat} (I : Inv X pins σ H s) (h1 : -(2 ^ 62) ≤ lo) (h2 : lo < 2 ^ 62) (h3 : -(2 ^ 62) ≤ hi) (h4 : hi < 2 ^ 62)
    (q : R (Itr lo (hi - lo).toNat) H) : wpAny (model X.prog X.w) X.A (pyIter (.ref s.heap.objs.size)) (PIE X pins σ tg R) E { s with heap := s.heap.push { cls := .type "range", data := .fields #[.int lo t, .int hi u, .int 1 v] }, toks := tk } := by
  refine wpAny_pyIter_range (IsRange.new ..) (small_one h1 h2 h3 h4) ?_
  have I1 : Inv X pins σ H { s with heap := s.heap.push { cls := .type "range", data := .fields #[.int lo t, .int hi u, .int 1 v] }, toks := tk } := I.kept fun b o e => Heap.get?_push_of_some _ e
  refine ⟨(s.heap.push { cls := .type "range", data := .fields #[.int lo t, .int hi u, .int 1 v] }).objs.size, [(s.heap.push { cls := .type "range", data := .fields #[.int lo t, .int hi u, .int 1 v] }).objs.size], _, _, H, rfl,
    I1.kept (t' := tk) fun b o e => Heap.get?_push_of_some _ e, turn_range _ lo (hi - lo).toNat, ?_, fun b hb => ?_, q⟩
  · have e1 : lo + ((0 : Nat) : Int) * 1 = lo := by simp
    have e2 : (((hi - lo).toNat : Nat) : Int) - ((0 : Nat) : Int) = Builtin.Range.rangeSize lo hi 1 := by rw [rangeSize_one]; split <;> omega
    show IsRangeIter _ _ (lo + ((0 : Nat) : Int) * 1) ((((hi - lo).toNat : Nat) : Int) - ((0 : Nat) : Int)) 1
    rw [e1, e2]
    exact Heap.get?_push_size _ rfl
  · have e : b = (s.heap.push { cls := .type "range", data := .fields #[.int lo t, .int hi u, .int 1 v] }).objs.size := by simpa using hb
    subst e
    exact I1.fpOk (Nat.le_refl _) (I1.hok.fresh (Nat.le_refl _))
inductive iRng1_ (R : It → Hp → Prop) (vs : List V) (H1 : Hp) : Prop where
  | mk (j : Int) : (vs = [.int j]) → (-(2 ^ 62) ≤ j) → (j < 2 ^ 62) → (R (Itr 0 j.toNat) H1) → iRng1_ R vs H1
def iRng1 (ta : TA) : TI := fun σ H R => ta σ H (iRng1_ R)
theorem pi_range1 {a : Expr} {ta : TA} {p pos : Pos} (hg : Gl X "range") (hm : X.mg "range" = none) (ha : PA X [a] ta) (hs : starEach [a] X.env = [(false, eval a X.env)] := by rfl) : PI X tg (.Call (.Name "range" p) [a] [] pos) (iRng1 ta) := by
  intro pins s σ H R I h
  refine Call_ (ld_blt I hg hm boot_range (PyProof.Rows.callWith_type1 (thn (ha pos pins s σ H _ I h) fun us s1 ⟨vs, H1, I1, r1, q1⟩ => ?_) hs rfl))
  obtain ⟨j, e, q1, q2, q⟩ := q1
  subst e
  cases r1 with
  | cons r rr =>
    cases rr
    obtain ⟨t, rfl⟩ := r
    exact call_range_1 (range_it I1 (by omega) (by omega) q1 q2 (by simpa using q))
def tFor (wi : TI) (g : TG) (tb : TS) : TS := fun D σ H => wi σ H fun J H1 => ∃ W : Nat → Nat → St → Hp → Prop, (∃ m, W 0 m σ H1) ∧ ∀ i m σ H, W i m σ H →
  (J.stop i H ∧ D.nx σ H) ∨ (J.go i H ∧ ∃ N : St → Hp → Prop, (∀ σ' H', N σ' H' → ∃ m', m' < m ∧ W (i + 1) m' σ' H') ∧ ∀ x H', J.yld i H x H' → g x σ H' fun σ2 H2 => tb (D.lp N) σ2 H2)
def pinsAt (fp : List Addr) (h : Heap) : List (Addr × Obj) := fp.filterMap fun b => (h.get? b).map fun o => (b, o)
theorem mem_pinsAt {fp : List Addr} {h : Heap} {b : Addr} {o : Obj} (hb : b ∈ fp) (e : h.get? b = some o) : (b, o) ∈ pinsAt fp h := List.mem_filterMap.mpr ⟨b, hb, by rw [e]; rfl⟩
theorem of_pinsAt {fp : List Addr} {h : Heap} {p : Addr × Obj} (hp : p ∈ pinsAt fp h) : p.1 ∈ fp ∧ h.get? p.1 = some p.2 := by
  obtain ⟨b, hb, e⟩ := List.mem_filterMap.mp hp
  cases q : h.get? b with
  | none => rw [q] at e; cases e
  | some o =>
    rw [q] at e
    have e' : (b, o) = p := Option.some.inj e
    subst e'
    exact ⟨hb, q⟩
theorem Inv.pinned {pins : List (Addr × Obj)} {σ : St} {H : Hp} {s : Shared} {fp : List Addr} (I : Inv X pins σ H s) (hf : ∀ b ∈ fp, FpOk X pins H b) (ho : ∀ b ∈ fp, ∃ o, s.heap.get? b = some o ∧ ∀ v, o.data ≠ .cell v) : Inv X (pins ++ pinsAt fp s.heap) σ H s :=
  I.pins_of fun p hp => (List.mem_append.mp hp).elim (fun z => I.pin p (List.mem_append_right _ z)) fun z => by
    obtain ⟨hb, e⟩ := of_pinsAt z
    obtain ⟨f0, f1, f2, _⟩ := hf p.1 hb
    obtain ⟨o, e', d⟩ := ho p.1 hb
    rw [e] at e'; cases e'
    exact ⟨e, f0, f1, f2, d⟩
theorem Inv.unpinned {pins pl : List (Addr × Obj)} {σ : St} {H : Hp} {s : Shared} (I : Inv X (pins ++ pl) σ H s) : Inv X pins σ H s := I.pins_of fun p hp => I.pin p (List.mem_append_right _ (List.mem_append_left _ hp))
theorem ps_for {iter : Expr} {body : List Stmt} {wi : TI} {g : TG} {tb : TS} {pos : Pos} (hp : PassesOwn (model X.prog X.w) X.A X.env X.xe) (hc : X.calm = true) (hi : PI X tg iter wi) (hg : PG X tg g) (hb : PSs X body tb)
    (hs : ∀ x, foldedSetIterable iter X.env x = pure x := by intro _; rfl) : PS X (.For tg iter body [] pos) (tFor wi g tb) := by
  intro pins s σ H D I h
  refine wpAny_For (thn (hi pins s σ H _ I h) fun v s1 h1 => thn h1 fun itv s2 h2 => ?_) hs
  obtain ⟨it, fp, tn, J, H2, e, I2, T, st2, f2, W, ⟨m0, w0⟩, turn⟩ := h2
  subst e
  have stat : ∀ {H' : Hp}, (∀ b ∈ fp, H' b = none) → ∀ b ∈ fp, FpOk X pins H' b := fun hn b hb => ⟨hn b hb, (f2 b hb).2⟩
  refine codeAny_forLoop_any (fun n s' => ∃ i σ' H', Inv X pins σ' H' s' ∧ tn i s'.heap ∧ (∀ b ∈ fp, H' b = none) ∧ W i n σ' H') ?_ m0 ⟨0, σ, H2, I2, st2, fun b hb => (f2 b hb).1, w0⟩
  rintro n s3 ⟨i, σ3, H3, I3, st3, fr3, w3⟩
  rcases turn i n σ3 H3 w3 with ⟨stop, qn⟩ | ⟨go, N, hN, step⟩
  · refine wpAny_passesOwn hp (thn (T.done X rfl rfl rfl hc i pins s3 σ3 H3 X.xe I3 (stat fr3) st3 stop) fun r s4 ⟨hr, I4⟩ => ?_)
    subst hr
    exact wpAny_execs_nil ⟨σ3, H3, I4, qn⟩
  · refine wpAny_passesOwn hp (thn (T.item X rfl rfl rfl hc i pins s3 σ3 H3 X.xe I3 (stat fr3) st3 go) fun r s4 ⟨u, hr, h4⟩ => ?_)
    subst hr
    refine wpAny_passesOwn hp (thn h4 fun _ s5 ⟨x, H5, I5, r5, y5, st5, fr5⟩ => ?_)
    have I5' := I5.pinned (stat fr5) (T.obj _ _ st5)
    refine wpAny_passesOwn hp (thn (hg _ s5 σ3 H5 x u _ I5' r5 (step x H5 y5)) fun _ s6 ⟨σ6, H6, I6, q6⟩ => ?_)
    refine wpAny_passesOwn hp (thn (hb _ s6 σ6 H6 _ I6 q6) fun f s7 q7 => ?_)
    have again : ∀ {σ7 : St} {H7 : Hp}, Inv X (pins ++ pinsAt fp s5.heap) σ7 H7 s7 → N σ7 H7 → ∃ m, m < n ∧ ∃ i σ' H', Inv X pins σ' H' s7 ∧ tn i s7.heap ∧ (∀ b ∈ fp, H' b = none) ∧ W i m σ' H' := fun {σ7 H7} I7 n7 => by
      obtain ⟨m', hm, w7⟩ := hN σ7 H7 n7
      refine ⟨m', hm, i + 1, σ7, H7, I7.unpinned, T.keep _ _ _ st5 fun b hb o e => (I7.pin (b, o) (List.mem_append_right _ (List.mem_append_right _ (mem_pinsAt hb e)))).1, fun b hb => ?_, w7⟩
      obtain ⟨o, e, d⟩ := T.obj _ _ st5 b hb
      exact (I7.pin (b, o) (List.mem_append_right _ (List.mem_append_right _ (mem_pinsAt hb e)))).2.1
    cases f with
    | next => obtain ⟨σ7, H7, I7, n7⟩ := q7; exact again I7 n7
    | cont => obtain ⟨σ7, H7, I7, n7⟩ := q7; exact again I7 n7
    | brk => obtain ⟨σ7, H7, I7, q7⟩ := q7; exact ⟨σ7, H7, I7.unpinned, q7⟩
    | ret v => obtain ⟨x7, σ7, H7, I7, r7, q7⟩ := q7; exact ⟨x7, σ7, H7, I7.unpinned, r7, q7⟩
end
theorem for_list {K : PySem.W.Frag} {a : Addr} {xs : List V} {g : TG} {tb : TS} {D : Ends} {σ : St} {H : Hp} (Pv : Nat → St → Hp → Prop) (h0 : Pv 0 σ H) (hl : ∀ i σ H, i ≤ xs.length → Pv i σ H → SqL K H a xs)
    (hs : ∀ i x σ H, xs[i]? = some x → Pv i σ H → g x σ H fun σ2 H2 => tb (D.lp (Pv (i + 1))) σ2 H2) (hd : ∀ σ H, Pv xs.length σ H → D.nx σ H) :
    ∃ W : Nat → Nat → St → Hp → Prop, (∃ m, W 0 m σ H) ∧ ∀ i m σ H, W i m σ H →
      ((Itl K a).stop i H ∧ D.nx σ H) ∨ ((Itl K a).go i H ∧ ∃ N : St → Hp → Prop, (∀ σ' H', N σ' H' → ∃ m', m' < m ∧ W (i + 1) m' σ' H') ∧ ∀ x H', (Itl K a).yld i H x H' → g x σ H' fun σ2 H2 => tb (D.lp N) σ2 H2) := by
  refine ⟨fun i m σ H => m = xs.length - i ∧ i ≤ xs.length ∧ Pv i σ H, ⟨xs.length, by simp, Nat.zero_le _, h0⟩, ?_⟩
  rintro i m σ H ⟨rfl, hi, p⟩
  have q := hl i σ H hi p
  by_cases hlt : i < xs.length
  · refine .inr ⟨⟨xs, xs[i], q, by simp [hlt]⟩, Pv (i + 1), fun σ' H' p' => ⟨xs.length - (i + 1), by omega, rfl, hlt, p'⟩, fun x H' y => ?_⟩
    obtain ⟨e, y⟩ := y
    subst e
    exact hs i x σ _ (y xs q) p
  · have e : i = xs.length := by exact Nat.le_antisymm hi (Nat.not_lt.mp hlt)
    subst e
    exact .inl ⟨⟨xs, q, Nat.le_refl _⟩, hd σ H p⟩
theorem for_tup {K : PySem.W.Frag} {a : Addr} {xs : List V} {g : TG} {tb : TS} {D : Ends} {σ : St} {H : Hp} (Pv : Nat → St → Hp → Prop) (h0 : Pv 0 σ H) (hl : ∀ i σ H, i ≤ xs.length → Pv i σ H → SqT K H a xs)
    (hs : ∀ i x σ H, xs[i]? = some x → Pv i σ H → g x σ H fun σ2 H2 => tb (D.lp (Pv (i + 1))) σ2 H2) (hd : ∀ σ H, Pv xs.length σ H → D.nx σ H) :
    ∃ W : Nat → Nat → St → Hp → Prop, (∃ m, W 0 m σ H) ∧ ∀ i m σ H, W i m σ H →
      ((Itt K a).stop i H ∧ D.nx σ H) ∨ ((Itt K a).go i H ∧ ∃ N : St → Hp → Prop, (∀ σ' H', N σ' H' → ∃ m', m' < m ∧ W (i + 1) m' σ' H') ∧ ∀ x H', (Itt K a).yld i H x H' → g x σ H' fun σ2 H2 => tb (D.lp N) σ2 H2) := by
  refine ⟨fun i m σ H => m = xs.length - i ∧ i ≤ xs.length ∧ Pv i σ H, ⟨xs.length, by simp, Nat.zero_le _, h0⟩, ?_⟩
  rintro i m σ H ⟨rfl, hi, p⟩
  have q := hl i σ H hi p
  by_cases hlt : i < xs.length
  · refine .inr ⟨⟨xs, xs[i], q, by simp [hlt]⟩, Pv (i + 1), fun σ' H' p' => ⟨xs.length - (i + 1), by omega, rfl, hlt, p'⟩, fun x H' y => ?_⟩
    obtain ⟨e, y⟩ := y
    subst e
    exact hs i x σ _ (y xs q) p
  · have e : i = xs.length := by exact Nat.le_antisymm hi (Nat.not_lt.mp hlt)
    subst e
    exact .inl ⟨⟨xs, q, Nat.le_refl _⟩, hd σ H p⟩
theorem for_range {lo : Int} {n : Nat} {g : TG} {tb : TS} {D : Ends} {σ : St} {H : Hp} (Pv : Nat → St → Hp → Prop) (h0 : Pv 0 σ H)
    (hs : ∀ i σ H, i < n → Pv i σ H → g (.int (lo + i)) σ H fun σ2 H2 => tb (D.lp (Pv (i + 1))) σ2 H2) (hd : ∀ σ H, Pv n σ H → D.nx σ H) :
    ∃ W : Nat → Nat → St → Hp → Prop, (∃ m, W 0 m σ H) ∧ ∀ i m σ H, W i m σ H →
      ((Itr lo n).stop i H ∧ D.nx σ H) ∨ ((Itr lo n).go i H ∧ ∃ N : St → Hp → Prop, (∀ σ' H', N σ' H' → ∃ m', m' < m ∧ W (i + 1) m' σ' H') ∧ ∀ x H', (Itr lo n).yld i H x H' → g x σ H' fun σ2 H2 => tb (D.lp N) σ2 H2) := by
  refine ⟨fun i m σ H => m = n - i ∧ i ≤ n ∧ Pv i σ H, ⟨n, by simp, Nat.zero_le _, h0⟩, ?_⟩
  rintro i m σ H ⟨rfl, hi, p⟩
  by_cases hlt : i < n
  · refine .inr ⟨hlt, Pv (i + 1), fun σ' H' p' => ⟨n - (i + 1), by omega, rfl, hlt, p'⟩, fun x H' y => ?_⟩
    obtain ⟨e, y⟩ := y
    subst e y
    exact hs i σ _ hlt p
  · have e : i = n := by exact Nat.le_antisymm hi (Nat.not_lt.mp hlt)
    subst e
    exact .inl ⟨Nat.le_refl _, hd σ H p⟩
end L2
namespace L2
open PySem PySem.Spec PyProof.Rows
abbrev R2 := V → V → Hp → VK → Prop
def OpR (X : Cx) (f : Value → Value → Sem Value) (r : R2) : Prop :=
  ∀ (pins : List (Addr × Obj)) (s : Shared) (σ : St) (H : Hp) (x y : V) (v u : Value) (Q : VK), Inv X pins σ H s → RelV x v → RelV y u → r x y H Q →
    wpAny (model X.prog X.w) X.A (f v u) (EP X pins σ Q) X.xe s
def UnR (X : Cx) (f : Value → Sem Value) (r : V → Hp → VK → Prop) : Prop :=
  ∀ (pins : List (Addr × Obj)) (s : Shared) (σ : St) (H : Hp) (x : V) (v : Value) (Q : VK), Inv X pins σ H s → RelV x v → r x H Q →
    wpAny (model X.prog X.w) X.A (f v) (EP X pins σ Q) X.xe s
def CallR (X : Cx) (f : Value) (r : List V → Hp → VK → Prop) : Prop :=
  ∀ (pins : List (Addr × Obj)) (s : Shared) (σ : St) (H : Hp) (xs : List V) (us : List Value) (Q : VK), Inv X pins σ H s → Vals xs us → r xs H Q →
    wpAny (model X.prog X.w) X.A (call f us) (EP X pins σ Q) X.xe s
def tOp (r : R2) (ta tb : TE) : TE := fun σ H Q => ta σ H fun x H1 => tb σ H1 fun y H2 => r x y H2 Q
def tUn (r : V → Hp → VK → Prop) (ta : TE) : TE := fun σ H Q => ta σ H fun x H1 => r x H1 Q
inductive rI_ (C : Int → Int → Prop) (g : Int → Int → V) (x : V) (y : V) (H : Hp) (Q : VK) : Prop where
  | mk (i) (j) : (x = .int i) → (y = .int j) → (C i j) → (Q (g i j) H) → rI_ C g x y H Q
def rI (C : Int → Int → Prop) (g : Int → Int → V) : R2 := rI_ C g
inductive rI0_ (g : Int → Int → V) (x : V) (y : V) (H : Hp) (Q : VK) : Prop where
  | mk (i) (j) : (x = .int i) → (y = .int j) → (Q (g i j) H) → rI0_ g x y H Q
def rI0 (g : Int → Int → V) : R2 := rI0_ g
def rU (g : Int → V) : V → Hp → VK → Prop := fun x H Q => ∃ i, x = .int i ∧ Q (g i) H
section
variable {X : Cx} {a b c : Expr} {ta tb tc : TE} {pos : Pos}
theorem binT (ha : PE X a ta) (hb : PE X b tb) {pins : List (Addr × Obj)} {s : Shared} {σ : St} {H : Hp} {R : V → V → Hp → Prop} (I : Inv X pins σ H s)
    (h : ta σ H fun x H1 => tb σ H1 fun y H2 => R x y H2) {Q : Value → Shared → Prop} {f : Value → Value → Sem Value}
    (hf : ∀ v u s2 x y H2, Inv X pins σ H2 s2 → RelV x v → RelV y u → R x y H2 → wpAny (model X.prog X.w) X.A (f v u) Q X.xe s2) :
    wpAny (model X.prog X.w) X.A (eval a X.env) (fun v s₁ => wpAny (model X.prog X.w) X.A (eval b X.env) (fun u s₂ => wpAny (model X.prog X.w) X.A (f v u) Q X.xe s₂) X.xe s₁) X.xe s := by
  refine thn (ha pins s σ H _ I h) fun v s1 ⟨x, H1, I1, r1, q1⟩ => ?_
  refine thn (hb pins s1 σ H1 _ I1 q1) fun u s2 ⟨y, H2, I2, r2, q2⟩ => ?_
  exact hf v u s2 x y H2 I2 r1 r2 q2
theorem pe_op {op : Operator} {r : R2} (ho : OpR X (binaryOp op) r) (ha : PE X a ta) (hb : PE X b tb) : PE X (.BinOp a op b pos) (tOp r ta tb) := by
  intro pins s σ H Q I h
  exact wpAny_BinOp (binT ha hb I h fun v u s2 x y H2 I2 rx ry q => ho pins s2 σ H2 x y v u Q I2 rx ry q)
theorem pe_un {op : UnaryOp} {r : V → Hp → VK → Prop} (ho : UnR X (unaryOp op) r) (ha : PE X a ta) : PE X (.UnaryOp op a pos) (tUn r ta) := by
  intro pins s σ H Q I h
  exact UnaryOp_ (thn (ha pins s σ H _ I h) fun v s1 ⟨x, H1, I1, r1, q1⟩ => ho pins s1 σ H1 x v Q I1 r1 q1)
theorem opI {f : Value → Value → Sem Value} {C : Int → Int → Prop} {g : Int → Int → Int}
    (rule : ∀ (i j : Int) (t u : Tok) (s : Shared) (Q : Value → Shared → Prop) (E : Value → Shared → Prop), C i j → Q (.int (g i j) s.toks) { s with toks := s.toks + 1 } → wpAny (model X.prog X.w) X.A (f (.int i t) (.int j u)) Q E s) :
    OpR X f (rI C fun i j => .int (g i j)) := by
  intro pins s σ H x y v u Q I rx ry h
  obtain ⟨i, j, rfl, rfl, hc, q⟩ := h
  obtain ⟨t, rfl⟩ := rx
  obtain ⟨t', rfl⟩ := ry
  exact rule i j t t' s _ _ hc ⟨.int (g i j), H, I.tok _, ⟨_, rfl⟩, q⟩
theorem opI0 {f : Value → Value → Sem Value} {g : Int → Int → Int}
    (rule : ∀ (i j : Int) (t u : Tok) (s : Shared) (Q : Value → Shared → Prop) (E : Value → Shared → Prop), Q (.int (g i j) s.toks) { s with toks := s.toks + 1 } → wpAny (model X.prog X.w) X.A (f (.int i t) (.int j u)) Q E s) :
    OpR X f (rI0 fun i j => .int (g i j)) := by
  intro pins s σ H x y v u Q I rx ry h
  obtain ⟨i, j, rfl, rfl, q⟩ := h
  obtain ⟨t, rfl⟩ := rx
  obtain ⟨t', rfl⟩ := ry
  exact rule i j t t' s _ _ ⟨.int (g i j), H, I.tok _, ⟨_, rfl⟩, q⟩
theorem opB0 {f : Value → Value → Sem Value} {g : Int → Int → Bool}
    (rule : ∀ (i j : Int) (t u : Tok) (s : Shared) (Q : Value → Shared → Prop) (E : Value → Shared → Prop), Q (.bool (g i j)) s → wpAny (model X.prog X.w) X.A (f (.int i t) (.int j u)) Q E s) :
    OpR X f (rI0 fun i j => .bl (g i j)) := by
  intro pins s σ H x y v u Q I rx ry h
  obtain ⟨i, j, rfl, rfl, q⟩ := h
  obtain ⟨t, rfl⟩ := rx
  obtain ⟨t', rfl⟩ := ry
  exact rule i j t t' s _ _ ⟨.bl (g i j), H, I, rfl, q⟩
def CDiv (i j : Int) : Prop := 0 < j ∧ j < 1073741824
def CPow (i j : Int) : Prop := 0 ≤ j ∧ j ≤ 1000000 ∧ i.natAbs < 2 ^ 64
def CMul (i j : Int) : Prop := (-(2 ^ 64) < i ∧ i < 2 ^ 64) ∨ (-(2 ^ 64) < j ∧ j < 2 ^ 64)
theorem CMul.ok {i j : Int} (h : CMul i j) : IntMulOk i j := by
  rcases h with ⟨h1, h2⟩ | ⟨h1, h2⟩
  · exact .of_left (intBits_le_64 h1 h2)
  · exact .of_right (intBits_le_64 h1 h2)
theorem op_add : OpR X (binaryOp .Add) (rI0 fun i j => .int (i + j)) := opI0 fun _ _ _ _ _ _ _ q => add_int q
theorem op_sub : OpR X (binaryOp .Sub) (rI0 fun i j => .int (i - j)) := opI0 fun _ _ _ _ _ _ _ q => sub_int q
theorem op_mul : OpR X (binaryOp .Mult) (rI CMul fun i j => .int (i * j)) := opI fun _ _ _ _ _ _ _ hc q => mul_int q hc.ok
theorem op_fdiv : OpR X (binaryOp .FloorDiv) (rI CDiv fun i j => .int (i / j)) := opI fun i j _ _ _ _ _ hc q => by
  have h1 : (0 : Int) < j := hc.1
  have h2 : j < 1073741824 := hc.2
  exact floordiv_int (by omega) (by rw [Int.fdiv_eq_ediv_of_nonneg i (by omega)]; exact q) (.inl (PyProof.noPylong_small (by omega)))
theorem op_mod : OpR X (binaryOp .Mod) (rI (fun _ j => 0 < j) fun i j => .int (i % j)) := opI fun i j _ _ _ _ _ hc q => by
  have h1 : (0 : Int) < j := hc
  exact mod_int' (by omega) (by rw [Int.fmod_eq_emod_of_nonneg i (by omega)]; exact q)
theorem op_pow : OpR X (binaryOp .Pow) (rI CPow fun i j => .int (i ^ j.toNat)) := opI fun _ _ _ _ _ _ _ hc q => pow_int_small hc.1 hc.2.1 hc.2.2 q
theorem unI {f : Value → Sem Value} {g : Int → Int}
    (rule : ∀ (i : Int) (t : Tok) (s : Shared) (Q : Value → Shared → Prop) (E : Value → Shared → Prop), Q (.int (g i) s.toks) { s with toks := s.toks + 1 } → wpAny (model X.prog X.w) X.A (f (.int i t)) Q E s) :
    UnR X f (rU fun i => .int (g i)) := by
  intro pins s σ H x v Q I rx h
  obtain ⟨i, rfl, q⟩ := h
  obtain ⟨t, rfl⟩ := rx
  exact rule i t s _ _ ⟨.int (g i), H, I.tok _, ⟨_, rfl⟩, q⟩
theorem un_neg : UnR X (unaryOp .USub) (rU fun i => .int (-i)) := unI fun _ _ _ _ _ q => neg_int q
end
def scal : V → V → Bool
  | .non, .non => true | .non, .int _ => true | .int _, .non => true | .non, .bl _ => true | .bl _, .non => true | .non, .str _ => true | .str _, .non => true
  | .int _, .int _ => true | .bl _, .bl _ => true | .str _, .str _ => true | .byt _, .byt _ => true
  | .int _, .str _ => true | .str _, .int _ => true | .bl _, .str _ => true | .str _, .bl _ => true
  | _, _ => false
inductive rEq_ (x : V) (y : V) (H : Hp) (Q : VK) : Prop where
  | mk : (scal x y = true) → (Q (.bl (decide (x = y))) H) → rEq_ x y H Q
def rEq : R2 := rEq_
inductive rNe_ (x : V) (y : V) (H : Hp) (Q : VK) : Prop where
  | mk : (scal x y = true) → (Q (.bl (!decide (x = y))) H) → rNe_ x y H Q
def rNe : R2 := rNe_
theorem dec_int {i j : Int} : decide (V.int i = V.int j) = (i == j) := by
  rw [Bool.eq_iff_iff]
  simp
theorem dec_bl {i j : Bool} : decide (V.bl i = V.bl j) = (i == j) := by
  rw [Bool.eq_iff_iff]
  simp
theorem dec_str {i j : Str} : decide (V.str i = V.str j) = (i == j) := by
  rw [Bool.eq_iff_iff]
  simp
theorem dec_byt {i j : Array UInt8} : decide (V.byt i = V.byt j) = (i.toList == j.toList) := by
  rw [Bool.eq_iff_iff]
  cases i
  cases j
  simp
section
variable {X : Cx} {a b c : Expr} {ta tb tc : TE} {pos : Pos}
theorem fin_bl {pins : List (Addr × Obj)} {σ : St} {H : Hp} {s : Shared} {Q : VK} {k k' : Bool} (I : Inv X pins σ H s) (q : Q (.bl k) H) (e : k = k') : EP X pins σ Q (.bool k') s := by
  subst e
  exact ⟨.bl k, H, I, rfl, q⟩
theorem op_eq : OpR X (compareOp .Eq) rEq := by
  intro pins s σ H x y v u Q I rx ry h
  obtain ⟨hs, q⟩ := h
  cases x with
  | non =>
    cases rx
    cases y with
    | non => cases ry; exact PySem.EqNone.eq_none_none (fin_bl I q (by simp))
    | bl j => cases ry; exact PySem.EqNone.eq_none_bool (fin_bl I q (by simp))
    | int j => obtain ⟨t', rfl⟩ := ry; exact PySem.EqNone.eq_none_int (fin_bl I q (by simp))
    | str j => obtain ⟨t', rfl⟩ := ry; exact PySem.EqNone.eq_none_str (fin_bl I q (by simp))
    | _ => exact absurd (show false = true from hs) Bool.false_ne_true
  | bl i =>
    cases rx
    cases y with
    | non => cases ry; exact PySem.EqNone.eq_bool_none (fin_bl I q (by simp))
    | bl j => cases ry; exact eq_bool (fin_bl I q dec_bl)
    | str j => obtain ⟨t', rfl⟩ := ry; exact PySem.EqMixed.eq_bool_str (fin_bl I q (by simp))
    | _ => exact absurd (show false = true from hs) Bool.false_ne_true
  | int i =>
    obtain ⟨t, rfl⟩ := rx
    cases y with
    | non => cases ry; exact PySem.EqNone.eq_int_none (fin_bl I q (by simp))
    | int j => obtain ⟨t', rfl⟩ := ry; exact eq_int (fin_bl I q dec_int)
    | str j => obtain ⟨t', rfl⟩ := ry; exact PySem.EqMixed.eq_int_str (fin_bl I q (by simp))
    | _ => exact absurd (show false = true from hs) Bool.false_ne_true
  | str i =>
    obtain ⟨t, rfl⟩ := rx
    cases y with
    | non => cases ry; exact PySem.EqNone.eq_str_none (fin_bl I q (by simp))
    | bl j => cases ry; exact PySem.EqMixed.eq_str_bool (fin_bl I q (by simp))
    | int j => obtain ⟨t', rfl⟩ := ry; exact PySem.EqMixed.eq_str_int (fin_bl I q (by simp))
    | str j => obtain ⟨t', rfl⟩ := ry; exact eq_str (fin_bl I q dec_str)
    | _ => exact absurd (show false = true from hs) Bool.false_ne_true
  | byt i =>
    obtain ⟨t, rfl⟩ := rx
    cases y with
    | byt j => obtain ⟨t', rfl⟩ := ry; exact PySem.W.eq_bytes (fin_bl I q dec_byt)
    | _ => exact absurd (show false = true from hs) Bool.false_ne_true
  | _ => cases y <;> exact absurd (show false = true from hs) Bool.false_ne_true
theorem op_ne : OpR X (compareOp .NotEq) rNe := by
  intro pins s σ H x y v u Q I rx ry h
  obtain ⟨hs, q⟩ := h
  cases x with
  | non =>
    cases rx
    cases y with
    | non => cases ry; exact PySem.EqNone.ne_none_none (fin_bl I q (by simp))
    | bl j => cases ry; exact PySem.EqNone.ne_none_bool (fin_bl I q (by simp))
    | int j => obtain ⟨t', rfl⟩ := ry; exact PySem.EqNone.ne_none_int (fin_bl I q (by simp))
    | str j => obtain ⟨t', rfl⟩ := ry; exact PySem.EqNone.ne_none_str (fin_bl I q (by simp))
    | _ => exact absurd (show false = true from hs) Bool.false_ne_true
  | bl i =>
    cases rx
    cases y with
    | non => cases ry; exact PySem.EqNone.ne_bool_none (fin_bl I q (by simp))
    | bl j => cases ry; exact ne_bool (fin_bl I q (congrArg not dec_bl))
    | str j => obtain ⟨t', rfl⟩ := ry; exact PySem.EqMixed.ne_bool_str (fin_bl I q (by simp))
    | _ => exact absurd (show false = true from hs) Bool.false_ne_true
  | int i =>
    obtain ⟨t, rfl⟩ := rx
    cases y with
    | non => cases ry; exact PySem.EqNone.ne_int_none (fin_bl I q (by simp))
    | int j => obtain ⟨t', rfl⟩ := ry; exact ne_int (fin_bl I q (congrArg not dec_int))
    | str j => obtain ⟨t', rfl⟩ := ry; exact PySem.EqMixed.ne_int_str (fin_bl I q (by simp))
    | _ => exact absurd (show false = true from hs) Bool.false_ne_true
  | str i =>
    obtain ⟨t, rfl⟩ := rx
    cases y with
    | non => cases ry; exact PySem.EqNone.ne_str_none (fin_bl I q (by simp))
    | bl j => cases ry; exact PySem.EqMixed.ne_str_bool (fin_bl I q (by simp))
    | int j => obtain ⟨t', rfl⟩ := ry; exact PySem.EqMixed.ne_str_int (fin_bl I q (by simp))
    | str j => obtain ⟨t', rfl⟩ := ry; exact ne_str (fin_bl I q (congrArg not dec_str))
    | _ => exact absurd (show false = true from hs) Bool.false_ne_true
  | byt i =>
    obtain ⟨t, rfl⟩ := rx
    cases y with
    | byt j => obtain ⟨t', rfl⟩ := ry; exact PySem.W.ne_bytes (fin_bl I q (congrArg not dec_byt))
    | _ => exact absurd (show false = true from hs) Bool.false_ne_true
  | _ => cases y <;> exact absurd (show false = true from hs) Bool.false_ne_true
theorem op_lt : OpR X (compareOp .Lt) (rI0 fun i j => .bl (decide (i < j))) := opB0 fun _ _ _ _ _ _ _ q => lt_int q
theorem op_le : OpR X (compareOp .LtE) (rI0 fun i j => .bl (decide (i ≤ j))) := opB0 fun _ _ _ _ _ _ _ q => le_int q
theorem op_gt : OpR X (compareOp .Gt) (rI0 fun i j => .bl (decide (j < i))) := opB0 fun _ _ _ _ _ _ _ q => gt_int q
theorem op_in_str : OpR X (compareOp .In) (fun x y H Q => ∃ i j, x = .str i ∧ y = .str j ∧ Q (.bl (!(Builtin.Str.occurrences j i 0 j.length 1).isEmpty)) H) := by
  intro pins s σ H x y v u Q I rx ry h
  obtain ⟨i, j, rfl, rfl, q⟩ := h
  obtain ⟨t, rfl⟩ := rx
  obtain ⟨t', rfl⟩ := ry
  exact in_str (fin_bl I q rfl)
theorem nomark (b : Expr) {op : CmpOp} (h : op ≠ .In := by decide) (h2 : op ≠ .NotIn := by decide) : behindInMarks op b = false := by
  have e1 : (op == CmpOp.In) = false := by cases op <;> first | rfl | exact absurd rfl h
  have e2 : (op == CmpOp.NotIn) = false := by cases op <;> first | rfl | exact absurd rfl h2
  cases b <;> simp [behindInMarks, e1, e2]
theorem pe_cmpR {op : CmpOp} {r : R2} (ho : OpR X (compareOp op) r) (ha : PE X a ta) (hb : PE X b tb) (hm : behindInMarks op b = false := by exact nomark _) : PE X (.Compare a [op] [b] pos) (tOp r ta tb) := by
  intro pins s σ H Q I h
  exact wpAny_Compare1 (binT ha hb I h fun v u s2 x y H2 I2 rx ry q => ho pins s2 σ H2 x y v u Q I2 rx ry q) hm
inductive tTest_ (Q : Bool → Hp → Prop) (x : V) (H' : Hp) : Prop where
  | mk (k) : (x = .bl k) → (Q k H') → tTest_ Q x H'
def tTest (t : TE) : TT := fun σ H Q => t σ H (tTest_ Q)
theorem pt_cmpR {op : CmpOp} {r : R2} (ho : OpR X (compareOp op) r) (ha : PE X a ta) (hb : PE X b tb) (hm : behindInMarks op b = false := by exact nomark _) : PT X (.Compare a [op] [b] pos) (tTest (tOp r ta tb)) := by
  intro pins s σ H Q I h
  refine wpAny_isTrue_Compare1 (thn (ha pins s σ H _ I h) fun v s1 ⟨x, H1, I1, r1, q1⟩ => thn (hb pins s1 σ H1 _ I1 q1) fun u s2 ⟨y, H2, I2, r2, q2⟩ =>
    thn (ho pins s2 σ H2 x y v u _ I2 r1 r2 q2) fun c s3 ⟨z, H3, I3, r3, k, e, q3⟩ => ?_) hm
  subst e
  cases r3
  exact wpAny_truthy_bool ⟨H3, I3, q3⟩
def tChain (r r' : R2) (ta tb tc : TE) : TE := fun σ H Q => ta σ H fun x H1 => tb σ H1 fun y H2 => r x y H2 fun z H3 => ∃ k, z = .bl k ∧
  (if k = true then tc σ H3 fun w' H4 => r' y w' H4 Q else Q (.bl false) H3)
theorem pe_chain {op op' : CmpOp} {r r' : R2} (ho : OpR X (compareOp op) r) (ho' : OpR X (compareOp op') r') (ha : PE X a ta) (hb : PE X b tb) (hc : PE X c tc)
    (hm : lastMarks [op, op'] [b, c] = false := by with_unfolding_all rfl) : PE X (.Compare a [op, op'] [b, c] pos) (tChain r r' ta tb tc) := by
  intro pins s σ H Q I h
  refine Compare_chain (thn (ha pins s σ H _ I h) fun v s1 ⟨x, H1, I1, r1, q1⟩ => chain_link (thn (hb pins s1 σ H1 _ I1 q1) fun u s2 ⟨y, H2, I2, r2, q2⟩ =>
    thn (ho pins s2 σ H2 x y v u _ I2 r1 r2 q2) fun d s3 ⟨z, H3, I3, r3, k, e, q3⟩ => ?_)) hm
  subst e
  cases r3
  refine wpAny_truthy_bool ?_
  cases k with
  | false => exact ite_ff ⟨.bl false, H3, I3, rfl, q3⟩
  | true => exact ite_tt (chain_last (thn (hc pins s3 σ H3 _ I3 q3) fun w' s4 ⟨z', H4, I4, r4, q4⟩ => ho' pins s4 σ H4 y z' u w' Q I4 r2 r4 q4))
theorem pt_chain {op op' : CmpOp} {r r' : R2} (ho : OpR X (compareOp op) r) (ho' : OpR X (compareOp op') r') (ha : PE X a ta) (hb : PE X b tb) (hc : PE X c tc)
    (hm : lastMarks [op, op'] [b, c] = false := by with_unfolding_all rfl) : PT X (.Compare a [op, op'] [b, c] pos) (tTest (tChain r r' ta tb tc)) := by
  intro pins s σ H Q I h
  refine isTrue_chain (thn (ha pins s σ H _ I h) fun v s1 ⟨x, H1, I1, r1, q1⟩ => test_link (thn (hb pins s1 σ H1 _ I1 q1) fun u s2 ⟨y, H2, I2, r2, q2⟩ =>
    thn (ho pins s2 σ H2 x y v u _ I2 r1 r2 q2) fun d s3 ⟨z, H3, I3, r3, k, e, q3⟩ => ?_)) hm
  subst e
  cases r3
  refine wpAny_truthy_bool ?_
  cases k with
  | false =>
    obtain ⟨k', e', q'⟩ := q3
    cases e'
    exact ite_ff ⟨H3, I3, q'⟩
  | true =>
    refine ite_tt (test_last (thn (hc pins s3 σ H3 _ I3 q3) fun w' s4 ⟨z', H4, I4, r4, q4⟩ => thn (ho' pins s4 σ H4 y z' u w' _ I4 r2 r4 q4) fun d' s5 ⟨z2, H5, I5, r5, k2, e2, q5⟩ => ?_))
    subst e2
    cases r5
    exact wpAny_truthy_bool ⟨H5, I5, q5⟩
theorem line63 : (sizeLine : Nat) < 2 ^ 63 := by rw [sizeLine_eq]; decide
inductive r_op_add_str (x : V) (y : V) (H : Hp) (Q : VK) : Prop where
  | mk (i) (j) : (x = .str i) → (y = .str j) → (i.length + j.length ≤ sizeLine) → (Q (.str (i ++ j)) H) → r_op_add_str x y H Q
theorem op_add_str : OpR X (binaryOp .Add) r_op_add_str := by
  intro pins s σ H x y v u Q I rx ry h
  obtain ⟨i, j, rfl, rfl, hz, q⟩ := h
  obtain ⟨t, rfl⟩ := rx
  obtain ⟨t', rfl⟩ := ry
  exact add_str (fun t' tk => ⟨.str (i ++ j), H, I.tok _, ⟨_, rfl⟩, q⟩) hz
theorem iop_add_str : OpR X (inplaceOp .Add) (fun x y H Q => ∃ i j, x = .str i ∧ y = .str j ∧ i.length + j.length ≤ sizeLine ∧ Q (.str (i ++ j)) H) := by
  intro pins s σ H x y v u Q I rx ry h
  obtain ⟨i, j, rfl, rfl, hz, q⟩ := h
  obtain ⟨t, rfl⟩ := rx
  obtain ⟨t', rfl⟩ := ry
  exact iadd_str (fun t' tk => ⟨.str (i ++ j), H, I.tok _, ⟨_, rfl⟩, q⟩) hz
theorem vals1 {x : V} {us : List Value} (r : Vals [x] us) : ∃ u, us = [u] ∧ RelV x u := by
  cases r with
  | cons r1 r2 => cases r2; exact ⟨_, rfl, r1⟩
theorem vals2 {x y : V} {us : List Value} (r : Vals [x, y] us) : ∃ u w', us = [u, w'] ∧ RelV x u ∧ RelV y w' := by
  cases r with
  | cons r1 r2 =>
    cases r2 with
    | cons r3 r4 => cases r4; exact ⟨_, _, rfl, r1, r3⟩
theorem call_int1 : CallR X (.type "int") (fun xs H Q => (∃ i, xs = [.int i] ∧ Q (.int i) H) ∨ ∃ k, xs = [.bl k] ∧ Q (.int (if k then 1 else 0)) H) := by
  intro pins s σ H xs us Q I r h
  rcases h with ⟨i, rfl, q⟩ | ⟨k, rfl, q⟩
  · obtain ⟨u, rfl, t, rfl⟩ := vals1 r
    exact call_int_int ⟨.int i, H, I, ⟨_, rfl⟩, q⟩
  · obtain ⟨u, rfl, r1⟩ := vals1 r
    cases r1
    exact call_int_bool ⟨.int (if k then 1 else 0), H, I.tok _, ⟨_, rfl⟩, q⟩
inductive r_call_str_int (xs : List V) (H : Hp) (Q : VK) : Prop where
  | mk (i) : (xs = [.int i]) → (i.natAbs.log2 < 1920) → (Q (.str (toString i)) H) → r_call_str_int xs H Q
theorem call_str_int : CallR X (.type "str") r_call_str_int := by
  intro pins s σ H xs us Q I r h
  obtain ⟨i, rfl, hz, q⟩ := h
  obtain ⟨u, rfl, t, rfl⟩ := vals1 r
  exact PySem.P.str_of_int hz ⟨.str _, H, I.tok _, ⟨_, rfl⟩, q⟩
end
end L2
namespace L2
open PySem PySem.Spec PyProof.Rows
structure ObjM (h : Heap) (x dx C : Addr) (mA : Str → Option Value) : Prop where
  obj : h.get? x = some (PySem.W.instObj C dx)
  ns : h.Ns1 dx mA
  ne : dx ≠ x
theorem lookIn_ns {h : Heap} {dx : Addr} {mA : Str → Option Value} (n : h.Ns1 dx mA) : ∃ od, h.get? dx = some od ∧ ∀ name, PySem.W.lookIn name od = some (mA name) := by
  obtain ⟨o, es, ep, ho, hd, hk, _, hm⟩ := n
  refine ⟨o, ho, fun name => ?_⟩
  have e := hm name
  unfold nsFind findBy at e
  rw [← Array.find?_toList] at e
  unfold PySem.W.lookIn
  rw [hd]
  dsimp only
  split
  · rename_i y q
    rw [q] at e
    exact congrArg some e
  · rename_i q
    rw [q] at e
    have a : es.toList.any (·.refKey) = false := by
      rw [List.any_eq_false]
      intro y hy
      obtain ⟨z, t, hkey⟩ := hk y (Array.mem_toList_iff.mp hy)
      simp [DictEntry.refKey, hkey]
    have a' : ¬ es.toList.any (·.refKey) = true := by rw [a]; exact Bool.false_ne_true
    rw [if_neg a']
    exact congrArg some e
theorem ObjM.look {h : Heap} {x dx C : Addr} {mA : Str → Option Value} (I : ObjM h x dx C mA) : ∃ od, PySem.W.InstAt h x (PySem.W.instObj C dx) C (some od) ∧ ∀ name, PySem.W.lookIn name od = some (mA name) :=
  let ⟨od, ho, hl⟩ := lookIn_ns I.ns
  ⟨od, ⟨I.obj, rfl, rfl, ho⟩, hl⟩
section
variable {prog : Program} {w : World} {A : Around} {E : Value → Shared → Prop} {s : Shared} {K : PySem.W.Frag} {x dx C f : Addr} {mA : Str → Option Value} {name : Str} {v : Value}
end
def putF (f : Str) (v : V) : List (Str × V) → List (Str × V)
  | [] => [(f, v)]
  | (g, x) :: r => if g = f then (g, v) :: r else (g, x) :: putF f v r
section
variable {P : Program} {w : World} {H H' : Hp} {h h' : Heap} {a C dx : Addr} {fs fs' : List (Str × V)}
theorem ins_get (hok : HOk P w H h) (e : H a = some (.ins C dx fs)) : ∃ mA, ObjM h a dx C mA ∧ (∀ f, RelO (fs.lookup f) (mA f)) ∧ PySem.Within mA (fs.map (·.1)) ∧ fs.length ≤ 1000 ∧ H dx = some (.own a) := by
  obtain ⟨d, z, ne, ob, mA, n, r, q⟩ := (show ObjOk P w H h a (.ins C dx fs) from hok a _ e)
  exact ⟨mA, ⟨ob, n, ne⟩, r, q, z, d⟩
end
structure Cls (K : PySem.W.Frag) (C : Addr) : Prop where
  pg : PySem.W.plainGet K C Str.empty = true
  hd : PySem.W.hasDictIn K C = true
  po : PySem.W.plainOver K C = true
  sa : PySem.W.findIn K (.ref C) "__setattr__" = some (some (.builtin "object.__setattr__"))
theorem Cls.get {K : PySem.W.Frag} {C : Addr} (c : Cls K C) (f : Str) : PySem.W.plainGet K C f = true := c.pg
def NoAttr (K : PySem.W.Frag) (C : Addr) (f : Str) : Prop := PySem.W.findIn K (.ref C) f = some none
section
variable {X : Cx} {pins : List (Addr × Obj)} {σ : St} {H : Hp} {s : Shared} {a C dx : Addr} {fs : List (Str × V)} {f : Str} {v : V} {A : Around} {E : Value → Shared → Prop}
end
inductive tFld_ (K : PySem.W.Frag) (f : Str) (Q : VK) (x : V) (H1 : Hp) : Prop where
  | mk (a) (C) (dx) (fs) (v) : (x = .ref a) → (H1 a = some (.ins C dx fs)) → (Cls K C) → (NoAttr K C f) → (fs.lookup f = some v) → (Q v H1) → tFld_ K f Q x H1
inductive sFld_ (K : PySem.W.Frag) (f : Str) (D : Ends) (σ : St) (y : V) (x : V) (H2 : Hp) : Prop where
  | mk (a) (C) (dx) (fs) : (x = .ref a) → (H2 a = some (.ins C dx fs)) → (Cls K C) → (NoAttr K C f) → (fs.length < 1000) → (D.nx σ (upd H2 a (.ins C dx (putF f y fs)))) → sFld_ K f D σ y x H2
section
variable {X : Cx} {o e value : Expr} {f : Str} {pos pos' tpos : Pos} {ta tv : TE}
end
section
variable {X : Cx} {pins : List (Addr × Obj)} {σ : St} {H : Hp} {s : Shared} {A : Around} {E : Value → Shared → Prop} {Q : Value → Shared → Prop} {c : Value} {b : Bool}
inductive TyOf (K : PySem.W.Frag) (H : Hp) : V → Value → Prop where
  | non : TyOf K H .non (.type "NoneType")
  | bl (x : Bool) : TyOf K H (.bl x) (.type "bool")
  | int (i : Int) : TyOf K H (.int i) (.type "int")
  | str (x : Str) : TyOf K H (.str x) (.type "str")
  | flt (x : UInt64) : TyOf K H (.flt x) (.type "float")
  | lst {a : Addr} {xs : List V} (e : H a = some (.lst xs)) : TyOf K H (.ref a) (.type "list")
  | frz {a : Addr} {o : Obj} {xs : List V} (e : H a = some (.frz o (.lst xs))) : TyOf K H (.ref a) (.type "list")
  | tup {a : Addr} {xs : List V} (e : H a = some (.tup xs)) : TyOf K H (.ref a) (.type "tuple")
  | dK {a : Addr} {kvs : List (Key × V)} (e : H a = some (.dK kvs)) : TyOf K H (.ref a) (.type "dict")
  | dT {a : Addr} {kvs : List (List Key × V)} (e : H a = some (.dT kvs)) : TyOf K H (.ref a) (.type "dict")
  | ins {a C dx : Addr} {fs : List (Str × V)} (e : H a = some (.ins C dx fs)) (cl : Cls K C) (ha : PySem.W.findIn K (.ref C) "__class__" = some (some (.builtin "object.__class__")))
      (hn : PySem.W.specialIn K (.builtin "object.__class__") "__get__" = some (some (.builtin "getset_descriptor.__get__"))) (htk : PySem.W.takesIn K (.builtin "object.__class__") = some true)
      (hm : PySem.W.mroIn K C (.type "object") = some true) : TyOf K H (.ref a) (.ref C)
theorem isinst_ok {x : V} {u t : Value} (I : Inv X pins σ H s) (rx : RelV x u) (ty : TyOf X.K H x t) (e : PySem.W.kitOne X.K t c = some b) (h : ∀ tk, Q (.bool b) { s with toks := tk }) :
    wpAny (model X.prog X.w) A (call (.builtin "isinstance") [u, c]) Q E s := by
  cases ty with
  | non => cases (show u = Value.none from rx); exact PySem.W.kia_one PySem.W.kitx_none I.kIn True.intro e (fun z => nomatch z) h
  | bl y => cases (show u = Value.bool y from rx); exact PySem.W.kia_one PySem.W.kitx_bool I.kIn True.intro e (fun z => nomatch z) h
  | int i => obtain ⟨t, q⟩ := (show ∃ t, u = Value.int i t from rx); cases q; exact PySem.W.kia_one PySem.W.kitx_int I.kIn True.intro e (fun z => nomatch z) h
  | str y => obtain ⟨t, q⟩ := (show ∃ t, u = Value.str y t from rx); cases q; exact PySem.W.kia_one PySem.W.kitx_str I.kIn True.intro e (fun z => nomatch z) h
  | flt y => obtain ⟨t, q⟩ := (show ∃ t, u = Value.float y t from rx); cases q; exact PySem.W.kia_one PySem.W.kitx_float I.kIn True.intro e (fun z => nomatch z) h
  | @lst a xs ea =>
    cases (show u = Value.ref a from rx)
    obtain ⟨_, _, n, _, h1⟩ := (show ObjOk X.prog X.w H s.heap a (.lst xs) from I.hok a _ ea)
    exact PySem.W.kia_one PySem.W.kitx_list I.kIn ⟨_, h1, rfl⟩ e (fun z => nomatch z) h
  | @frz a ob xs ea =>
    cases (show u = Value.ref a from rx)
    obtain ⟨_, _, _, n, _, h1⟩ := (show ObjOk X.prog X.w H s.heap a (.frz ob (.lst xs)) from I.hok a _ ea)
    exact PySem.W.kia_one PySem.W.kitx_list I.kIn ⟨_, h1, rfl⟩ e (fun z => nomatch z) h
  | @tup a xs ea =>
    cases (show u = Value.ref a from rx)
    obtain ⟨_, _, _, p⟩ := (show ObjOk X.prog X.w H s.heap a (.tup xs) from I.hok a _ ea)
    obtain ⟨o, h1, h2, _⟩ := p
    exact PySem.W.kia_one PySem.W.kitx_tuple I.kIn ⟨o, h1, h2⟩ e (fun z => nomatch z) h
  | @dK a kvs ea =>
    cases (show u = Value.ref a from rx)
    obtain ⟨_, _, vs, _, p⟩ := (show ObjOk X.prog X.w H s.heap a (.dK kvs) from I.hok a _ ea)
    obtain ⟨o, es, ep, h1, h2, _⟩ := p
    exact PySem.W.kia_one PySem.W.kitx_dict I.kIn ⟨o, h1, h2.1⟩ e (fun z => nomatch z) h
  | @dT a kvs ea =>
    cases (show u = Value.ref a from rx)
    obtain ⟨_, _, xs, _, o, es, ep, h1, h2, _⟩ := (show ObjOk X.prog X.w H s.heap a (.dT kvs) from I.hok a _ ea)
    exact PySem.W.kia_one PySem.W.kitx_dict I.kIn ⟨o, h1, h2.1⟩ e (fun z => nomatch z) h
  | @ins a C dx fs ea cl ha hn htk hm =>
    cases (show u = Value.ref a from rx)
    obtain ⟨mA, O, _⟩ := ins_get I.hok ea
    obtain ⟨od, J, _⟩ := O.look
    exact PySem.W.kia_one (PySem.W.kitx_own (cl.get _) cl.hd ha hn htk hm) I.kIn J e (fun z => nomatch z) h
end
end L2
namespace L2
open PySem PySem.Spec PyProof.Rows
structure Room (k : Nat) (A : Around) : Prop where
  hd : A.handled = none
  dp : A.depth + 3 * k + 5 < recursionLimit
  un : A.units + 16 * k + 200 < cLine
theorem Room.mono {j k : Nat} {A : Around} (r : Room k A) (h : j ≤ k) : Room j A := ⟨r.hd, by have := r.dp; omega, by have := r.un; omega⟩
theorem Room.deeper {k : Nat} {A : Around} (r : Room (k + 1) A) (env : Env) : Room k (A.deeper env) :=
  ⟨r.hd, by have := r.dp; show A.depth + 1 + 3 * k + 5 < _; omega, by have := r.un; show A.units + 3 + 16 * k + 200 < _; omega⟩
theorem Room.depth {k : Nat} {A : Around} (r : Room k A) : A.depth < recursionLimit := by have := r.dp; omega
def tNil : TA := fun _ H Q => Q [] H
def tCons (ta : TE) (tr : TA) : TA := fun σ H Q => ta σ H fun x H1 => tr σ H1 fun xs H2 => Q (x :: xs) H2
section
variable {X : Cx} {e : Expr} {es : List Expr} {te : TE} {t : TA} {pos : Pos}
theorem pa_nil : PA X [] tNil := fun _ _ _ _ H Q I h => Calls.spliced_nil ⟨[], H, I, .nil, h⟩
theorem pa_cons (ha : PE X e te) (hr : PA X es t) (hs : starEach (e :: es) X.env = (false, eval e X.env) :: starEach es X.env := by rfl) : PA X (e :: es) (tCons te t) := by
  intro pos pins s σ H Q I h
  rw [hs]
  show wpAny _ _ (spliced ((false, eval e X.env) :: backTo pos (starEach es X.env))) _ _ s
  refine Calls.spliced_cons (thn (ha pins s σ H _ I h) fun u s1 ⟨x, H1, I1, r1, q1⟩ => ?_)
  exact thn (hr pos pins s1 σ H1 _ I1 q1) fun us s2 ⟨xs, H2, I2, r2, q2⟩ => ⟨x :: xs, H2, I2, .cons r1 r2, q2⟩
inductive tTup_ (Q : VK) (xs : List V) (H1 : Hp) : Prop where
  | mk : (xs.length ≤ sizeLine) → (∀ p, H1 p = none → Q (.ref p) (upd H1 p (.tup xs))) → tTup_ Q xs H1
def tTup (t : TA) : TE := fun σ H Q => t σ H (tTup_ Q)
inductive tLst_ (Q : VK) (xs : List V) (H1 : Hp) : Prop where
  | mk : (xs.length ≤ sizeLine) → (∀ p, H1 p = none → Q (.ref p) (upd H1 p (.lst xs))) → tLst_ Q xs H1
def tLst (t : TA) : TE := fun σ H Q => t σ H (tLst_ Q)
theorem pe_tup {x1} (h : PA X es t) : PE X (.Tuple es x1 pos) (tTup t) := by
  intro pins s σ H Q I hq
  refine wpAny_Tuple_spliced (thn (h pos pins s σ H _ I hq) fun us s1 ⟨xs, H1, I1, r, z, q⟩ => ⟨by rw [← r.length]; exact z, ?_⟩)
  have hf : H1 s1.heap.objs.size = none := I1.hok.fresh (Nat.le_refl _)
  refine ⟨.ref s1.heap.objs.size, upd H1 s1.heap.objs.size (.tup xs), I1.laid (t' := s1.toks) (fun b u e => Heap.get?_push_of_some _ e) (Nat.le_refl _) ?_, rfl, q _ hf⟩
  exact ⟨z, us, r, ⟨_, Heap.get?_push_size _ rfl, rfl, _, rfl⟩⟩
theorem pe_lst (h : PA X es t) : PE X (.List es pos) (tLst t) := by
  intro pins s σ H Q I hq
  refine wpAny_List_spliced (thn (h pos pins s σ H _ I hq) fun us s1 ⟨xs, H1, I1, r, z, q⟩ => ⟨by rw [← r.length]; exact z, ?_⟩)
  have hf : H1 s1.heap.objs.size = none := I1.hok.fresh (Nat.le_refl _)
  refine ⟨.ref s1.heap.objs.size, upd H1 s1.heap.objs.size (.lst xs), I1.laid (t' := s1.toks) (fun b u e => Heap.get?_push_of_some _ e) (Nat.le_refl _) ?_, rfl, q _ hf⟩
  exact ⟨z, us, 0, r, Heap.get?_push_size _ rfl⟩
end
abbrev Sp := List V → Hp → VK → XK → Prop
abbrev CXT := List Env → Hp → Shared → XK → Value → Shared → Prop
structure Env0 (P : Program) (w : World) (K : PySem.W.Frag) (mg : Str → Option Value) (base : Heap) (A : Around) (outer : List Env) (s : Shared) (H : Hp) : Prop where
  frames : A.frames = some outer
  mod : Mod K mg base
  bs : ∀ b o, base.get? b = some o → s.heap.get? b = some o ∧ H b = none
  bsz : base.objs.size ≤ s.heap.objs.size
  funs : s.heap.FunFrames base outer
  frf : ∀ b ∈ frs outer, H b = none
  hok : HOk P w H s.heap
  bare : AllBare s.gens
def CE (outer : List Env) (P : Program) (w : World) (H : Hp) (s : Shared) (Q : VK) (u : Value) (s' : Shared) : Prop :=
  ∃ v H', s'.os = s.os ∧ AllBare s'.gens ∧ Un (frs outer) [] H H' s.heap s'.heap ∧ HOk P w H' s'.heap ∧ RelV v u ∧ Q v H'
def CR (CX : CXT) (outer : List Env) (P : Program) (w : World) (H : Hp) (s : Shared) (Q : VK) (E : XK) (r : Result) (s' : Shared) : Prop :=
  match r with
  | .ok (.ret u) => CE outer P w H s Q u s'
  | .ok _ => False
  | .error e => CX outer H s E e s'
structure FnOk (P : Program) (w : World) (K : PySem.W.Frag) (mg : Str → Option Value) (base : Heap) (CX : CXT) (k : Nat) (f : Addr) (fd : FuncData) (ps : List Str) (sp : Sp) : Prop where
  len : ∀ vs H Q E, sp vs H Q E → vs.length = ps.length
  run : ∀ (A : Around) (outer : List Env) (s : Shared) (H : Hp) (args : Args) (us : List Value) (vs : List V) (Q : VK) (E : XK), Room k A → Env0 P w K mg base A outer s H → BindsTo s fd args (ps.zip us) → Vals vs us → sp vs H Q E →
    codeAny (model P w) A (.call (.ref f) args) (CR CX outer P w H s Q E) s
section
variable {X : Cx} {pins : List (Addr × Obj)} {σ : St} {H : Hp} {s s' : Shared}
theorem Inv.env0 (I : Inv X pins σ H s) : Env0 X.prog X.w X.K X.mg X.base X.A X.stack s H :=
  ⟨I.ok.frames, I.ok.mod, I.bs, Nat.le_trans I.ok.bsz I.sz, I.stack, I.stkFree, I.hok, I.bare⟩
theorem Inv.after {Q : VK} {u : Value} (I : Inv X pins σ H s) (h : CE X.stack X.prog X.w H s Q u s') : EP X pins σ Q u s' := by
  obtain ⟨v, H', os, bare, un, hok, r, q⟩ := h
  obtain ⟨hh, g, d, t, os'⟩ := s'
  obtain rfl : os' = s.os := os
  exact ⟨v, H', I.call (h' := hh) (g' := g) (d' := d) (t' := t) (ch := []) un hok bare (fun b z => absurd z (by simp)), r, q⟩
end
def tCall (sp : Sp) (dvs : List V) (E : XK) (t : TA) : TE := fun σ H Q => t σ H fun vs H1 => sp (vs ++ dvs) H1 Q E
inductive tMeth_ (C : Addr) (m : Str) (sp : Sp) (dvs : List V) (E : XK) (t : TA) (σ : St) (Q : VK) (x : V) (H1 : Hp) : Prop where
  | mk (a) (dx) (fs) : (x = .ref a) → (H1 a = some (.ins C dx fs)) → (fs.lookup m = none) → (t σ H1 fun vs H2 => sp (x :: (vs ++ dvs)) H2 Q E) → tMeth_ C m sp dvs E t σ Q x H1
def Binds (K : PySem.W.Frag) (fd : FuncData) (ps : List Str) (ds : List Value) : Prop :=
  ∀ (s : Shared) (us : List Value), K.In s.heap → (us ++ ds).length = ps.length → BindsTo s fd ⟨us, []⟩ (ps.zip (us ++ ds))
theorem Binds.all {K : PySem.W.Frag} {fd : FuncData} {ps : List Str} (h : ∀ us : List Value, us.length = ps.length → bindArgs fd ⟨us, []⟩ = pure (ps.zip us)) : Binds K fd ps [] := fun s us _ hl => by
  rw [List.append_nil] at hl ⊢
  exact .of_eq (h us hl)
def Passes (CX : CXT) (X : Cx) (E : XK) : Prop := ∀ (pins : List (Addr × Obj)) (σ : St) (H : Hp) (s : Shared) (e : Value) (s' : Shared), Inv X pins σ H s → CX X.stack H s E e s' → X.xe e s'
section
variable {X : Cx} {CX : CXT} {k : Nat} {f C : Addr} {fd : FuncData} {ps : List Str} {sp : Sp} {dvs : List V} {ds : List Value} {E : XK} {x m : Str} {p pos apos : Pos} {e o : Expr} {es : List Expr} {ta : TE} {t : TA}
theorem run_fn {pins : List (Addr × Obj)} {σ : St} {H : Hp} {s : Shared} {Q : VK} {us : List Value} {vs : List V} (F : FnOk X.prog X.w X.K X.mg X.base CX k f fd ps sp) (hr : Room k X.A) (hb : Binds X.K fd ps ds) (hd : Vals dvs ds) (hx : Passes CX X E)
    (I : Inv X pins σ H s) (r : Vals vs us) (h : sp (vs ++ dvs) H Q E) : wpAny (model X.prog X.w) X.A (call (.ref f) us) (EP X pins σ Q) X.xe s := by
  have r2 : Vals (vs ++ dvs) (us ++ ds) := r.append hd
  have hl : (us ++ ds).length = ps.length := by rw [← r2.length]; exact F.len _ _ _ _ h
  refine wpAny_call (codeAny_mono (F.run X.A X.stack s H ⟨us, []⟩ (us ++ ds) (vs ++ dvs) Q E hr I.env0 (hb s us I.kIn hl) r2 h) fun r s' hq => ?_)
  cases r with
  | error e => exact hx pins σ H s e s' I hq
  | ok fl =>
    cases fl with
    | ret u => exact I.after hq
    | next => exact False.elim hq
    | brk => exact False.elim hq
    | cont => exact False.elim hq
theorem pe_call (F : FnOk X.prog X.w X.K X.mg X.base CX k f fd ps sp) (hr : Room k X.A) (hg : Gl X x) (hm : X.mg x = some (.ref f)) (hk : PySem.W.keepIn X.K (.ref f) = true) (hb : Binds X.K fd ps ds) (hd : Vals dvs ds) (hx : Passes CX X E)
    (ha : PA X (e :: es) t) (hdb : (x == ("__debug__" : Str)) = false := by decide) (he : starEach (e :: es) X.env = (false, eval e X.env) :: starEach es X.env := by rfl) (hpl : (backTo pos (starEach es X.env)).any (·.1) = false := by rfl) :
    PE X (.Call (.Name x p) (e :: es) [] pos) (tCall sp dvs E t) := by
  intro pins s σ H Q I h
  refine wpAny_Call_Name_kw (ld_glob I hg hm ?_ hdb)
  refine PySem.W.callWith_K (h₀ := X.base) I.ok.mod.kin hk (thn (ha pos pins s σ H _ I h) fun us s1 ⟨vs, H1, I1, r, q⟩ => ⟨I1.kIn, ?_⟩) he hpl
  exact run_fn F hr hb hd hx I1 r q
theorem pe_call0 (F : FnOk X.prog X.w X.K X.mg X.base CX k f fd ps sp) (hr : Room k X.A) (hg : Gl X x) (hm : X.mg x = some (.ref f)) (hk : PySem.W.keepIn X.K (.ref f) = true) (hb : Binds X.K fd ps ds) (hd : Vals dvs ds) (hx : Passes CX X E)
    (hdb : (x == ("__debug__" : Str)) = false := by decide) : PE X (.Call (.Name x p) [] [] pos) (tCall sp dvs E tNil) := by
  intro pins s σ H Q I h
  refine wpAny_Call_Name_kw (ld_glob I hg hm ?_ hdb)
  exact PySem.W.callWith_K0 I.kIn hk (run_fn (us := []) F hr hb hd hx I .nil h)
end
section
variable {X : Cx} {CX : CXT} {k : Nat} {f C : Addr} {fd : FuncData} {ps ks : List Str} {sp : Sp} {E : XK} {x m : Str} {p pos apos kpos : Pos} {e o : Expr} {es : List Expr} {kws : List Keyword} {te ta : TE} {t tk : TA} {nm : Option Str}
variable {g : List Value → List Value → List Value} {gV : List V → List V → List V}
end
structure FnScope (N P : List Str) (sc : Scope) : Prop where
  kind : sc.kind = .function
  co : sc.isCoroutine = false
  gen : sc.isGenerator = false
  nd : N.Nodup
  pre : N.take P.length = P
  par : ∀ x ∈ P, sc.names.lookup x = some .local ∨ sc.names.lookup x = some .cell
  nofree : ∀ y ∈ sc.names, y.2 ≠ .free
theorem bindL_out {kindOf : Str → Option NameKind} {x : Str} : ∀ {binds : List (Str × Value)} {m : Str → Option Value}, (∀ v, (x, v) ∉ binds) → bindL kindOf binds m x = m x
  | [], _, _ => rfl
  | (n, v) :: r, m, h => by
    unfold bindL
    rw [bindL_out fun w hw => h w (List.mem_cons_of_mem _ hw)]
    split
    · have : x ≠ n := by rintro rfl; exact h v List.mem_cons_self
      simp [this]
    · rfl
theorem bindC_out {kindOf : Str → Option NameKind} {x : Str} : ∀ {binds : List (Str × Value)} {m : Str → Option Value}, (∀ v, (x, v) ∉ binds) → bindC kindOf binds m x = m x
  | [], _, _ => rfl
  | (n, v) :: r, m, h => by
    unfold bindC
    rw [bindC_out fun w hw => h w (List.mem_cons_of_mem _ hw)]
    split
    · rfl
    · have : x ≠ n := by rintro rfl; exact h v List.mem_cons_self
      simp [this]
theorem bindL_get {kindOf : Str → Option NameKind} {x : Str} {v : Value} {P : List Str} {vs : List Value} {i : Nat} {m : Str → Option Value} (nd : P.Nodup) (h1 : P[i]? = some x) (h2 : vs[i]? = some v) (hk : kindOf x = some .local) :
    bindL kindOf (P.zip vs) m x = some v := by
  induction P generalizing vs i m with
  | nil => simp at h1
  | cons p P ih => cases vs with
    | nil => simp at h2
    | cons w vs =>
      show bindL kindOf ((p, w) :: P.zip vs) m x = _
      unfold bindL
      cases i with
      | zero =>
        cases h1
        cases h2
        rw [bindL_out fun v hv => (List.nodup_cons.mp nd).1 (List.of_mem_zip hv).1, if_pos hk]
        simp
      | succ i => exact ih (i := i) (List.nodup_cons.mp nd).2 h1 h2
theorem bindC_get {kindOf : Str → Option NameKind} {x : Str} {v : Value} {P : List Str} {vs : List Value} {i : Nat} {m : Str → Option Value} (nd : P.Nodup) (h1 : P[i]? = some x) (h2 : vs[i]? = some v) (hk : kindOf x ≠ some .local) :
    bindC kindOf (P.zip vs) m x = some v := by
  induction P generalizing vs i m with
  | nil => simp at h1
  | cons p P ih => cases vs with
    | nil => simp at h2
    | cons w vs =>
      show bindC kindOf ((p, w) :: P.zip vs) m x = _
      unfold bindC
      cases i with
      | zero =>
        cases h1
        cases h2
        rw [bindC_out fun v hv => (List.nodup_cons.mp nd).1 (List.of_mem_zip hv).1, if_neg hk]
        simp
      | succ i => exact ih (i := i) (List.nodup_cons.mp nd).2 h1 h2
def start (N : List Str) (vs : List V) : St := vs.map some ++ List.replicate (N.length - vs.length) none
def cxOf (CX : CXT) (P : Program) (w : World) (K : PySem.W.Frag) (mg : Str → Option Value) (base : Heap) (N : List Str) (qual : Str) (scope : Scope) (f : Addr) (cd : Value) (A : Around) (outer : List Env) (s : Shared) (H : Hp) (E : XK) : Cx where
  prog := P
  w := w
  K := K
  mg := mg
  base := base
  A := A.deeper (envOfC qual scope s.heap.objs.size f cd)
  N := N
  s₀ := s
  H₀ := H
  env := envOfC qual scope s.heap.objs.size f cd
  outer := outer
  stack := envOfC qual scope s.heap.objs.size f cd :: outer
  ex := []
  calm := true
  fn := fun _ => true
  pn := []
  xe := fun e s' => wpAny (model P w) (A.deeper (envOfC qual scope s.heap.objs.size f cd)) (leaving (envOfC qual scope s.heap.objs.size f cd) e) (fun _ s'' => CX outer H s E e s'') (fun e' s'' => CX outer H s E e' s'') s'
theorem cell_has {sc : Scope} {n : Nat} {x : Str} (h : sc.names.lookup x = some .cell) : ∃ c, (cellsFrom n sc.names []).lookup x = some c := by
  have q := PySem.W.cellsFrom_some sc.names n [] (.inl h)
  exact Option.isSome_iff_exists.mp q
theorem inv_start {CX : CXT} {P : Program} {w : World} {K : PySem.W.Frag} {mg : Str → Option Value} {base : Heap} {N ps : List Str} {qual : Str} {scope : Scope} {f : Addr} {cd : Value} {A : Around} {outer : List Env} {s s1 : Shared} {H : Hp} {E : XK} {us : List Value} {vs : List V}
    (S : FnScope N ps scope) (hd : A.handled = none) (e0 : Env0 P w K mg base A outer s H) (hl : vs.length = ps.length) (r : Vals vs us)
    (x : InCallC s s.heap.objs.size (bindL (envOfC qual scope s.heap.objs.size f cd).kindOf (ps.zip us) fun _ => none) (cellsFrom (s.heap.objs.size + 1) scope.names []) (bindC (envOfC qual scope s.heap.objs.size f cd).kindOf (ps.zip us) fun _ => none) s1) :
    Inv (cxOf CX P w K mg base N qual scope f cd A outer s H E) [] (start N vs) H s1 := by
  have hpl : ps.length ≤ N.length := by have := congrArg List.length S.pre; rw [List.length_take] at this; omega
  obtain ⟨h1, tk, rfl, hk⟩ := x.done
  have noA : ∀ b : Addr, b ∉ (cxOf CX P w K mg base N qual scope f cd A outer s H E).ex := fun b z => absurd (show b ∈ ([] : List Addr) from z) (by simp)
  refine ⟨⟨e0.mod, S.kind, rfl, rfl, Nat.le_refl _, fun y z c h1 h2 => ?_, fun y hy => ?_, fun y c _ h => ?_, fun _ => hd, Around.frames_deeper e0.frames, .inr ⟨rfl, rfl⟩, fun b z => absurd z (noA b), e0.bs, e0.bsz, fun b _ _ => noA b, fun b z => absurd z (noA b), e0.funs, e0.frf⟩,
    rfl, e0.bare, Un.kept hk, ⟨_, x.toInCall.ns, fun i y v h1 h2 h3 => ?_⟩, fun y c h => ⟨_, x.cell y c h⟩, e0.hok.fresh (Nat.le_refl _), fun y c h => ?_, fun p hp => absurd (show p ∈ ([] : List (Addr × Obj)) from hp) (by simp), e0.hok.kept hk, ?_⟩
  · exact name_of_addr x.apart (PySem.mem_of_lookup h1) (PySem.mem_of_lookup h2)
  · have hy : scope.names.lookup y = some .cell ∨ scope.names.lookup y = some .free := hy
    rcases hy with hy | hy
    · exact cell_has hy
    · exact absurd rfl (S.nofree _ (PySem.mem_of_lookup hy))
  · exact Nat.le_of_lt (x.above y c (PySem.mem_of_lookup h))
  · have hi : i < vs.length := by
      unfold start at h2
      by_cases hi : i < vs.length
      · exact hi
      · rw [List.getElem?_append_right (by simpa using hi)] at h2
        rw [List.getElem?_replicate] at h2
        split at h2 <;> cases h2
    have ha : vs[i]? = some v := by
      unfold start at h2
      rw [List.getElem?_append_left (by simpa using hi), List.getElem?_map] at h2
      cases e : vs[i]? with
      | none => rw [e] at h2; cases h2
      | some a => rw [e] at h2; cases h2; rfl
    obtain ⟨u, hu, rv⟩ := r.get ha
    have hp : ps[i]? = some y := by
      rw [← S.pre, List.getElem?_take_of_lt (by exact Nat.lt_of_lt_of_eq hi hl)]; exact h1
    have ndP : ps.Nodup := by rw [← S.pre]; exact S.nd.sublist (List.take_sublist _ _)
    refine ⟨u, rv, ?_⟩
    rcases S.par y (List.mem_of_getElem? hp) with k | k
    · exact .inl ⟨k, bindL_get ndP hp hu k⟩
    · obtain ⟨c, e⟩ := cell_has (n := s.heap.objs.size + 1) k
      refine .inr ⟨.inl k, c, e, ?_⟩
      have q := x.cell y c e
      rw [bindC_get ndP hp hu (by show scope.names.lookup y ≠ _; rw [k]; decide)] at q
      exact q
  · exact e0.hok.fresh (Nat.le_of_lt (x.above y c (PySem.mem_of_lookup h)))
  · unfold start
    show _ = N.length
    rw [List.length_append, List.length_map, List.length_replicate]
    omega
theorem fn_of {CX : CXT} {P : Program} {w : World} {K : PySem.W.Frag} {mg : Str → Option Value} {base : Heap} {k : Nat} {f : Addr} {name qual : Str} {params : Arguments} {body : List Stmt} {scope : Scope} {dV kV doc pm cdv ct oc : Value} {an od : Option Addr}
    {osl : Array (Option Value)} {N ps : List Str} {sp : Sp} (lk : K.lookup f = some ⟨oc, od, .func (PySem.W.fnOf name qual params body scope dV kV doc pm an cdv ct), osl⟩) (hcd : PySem.W.codeIn K cdv qual = true) (S : FnScope N ps scope)
    (len : ∀ vs H Q E, sp vs H Q E → vs.length = ps.length)
    (hbody : ∀ (A : Around) (outer : List Env) (s : Shared) (H : Hp) (vs : List V) (Q : VK) (E : XK), Room k (A.deeper (envOfC qual scope s.heap.objs.size f cdv)) → sp vs H Q E →
      ∃ t, PSs (cxOf CX P w K mg base N qual scope f cdv A outer s H E) body t ∧ t (Ends.of Q) (start N vs) H) :
    FnOk P w K mg base CX (k + 1) f (PySem.W.fnOf name qual params body scope dV kV doc pm an cdv ct) ps sp := by
  refine ⟨len, fun A outer s H args us vs Q E hr e0 hb r hsp => ?_⟩
  have hl := len _ _ _ _ hsp
  have KX : K.In s.heap := e0.mod.kin.keeps fun b o e => (e0.bs b o e).1
  have lim : s.heap.NoLimit := e0.mod.nolimit.keeps fun b o e => (e0.bs b o e).1
  have hkind : ∀ y ∈ ps.zip us, scope.names.lookup y.1 = some .local ∨ (scope.names.lookup y.1 = some .cell ∧ ((cellsFrom (s.heap.objs.size + 1) scope.names []).lookup y.1).isSome = true) := fun ⟨n, v⟩ hy => by
    rcases S.par n (List.of_mem_zip hy).1 with q | q
    · exact .inl q
    · exact .inr ⟨q, PySem.W.cellsFrom_some _ _ _ (.inl q)⟩
  refine codeAny_call_function hr.depth (KX _ _ lk) rfl S.co S.gen rfl (PySem.W.codeRec_of KX hcd) (hb _ _ _ _ ?_)
  refine wpAny_newFunctionEnv_cells S.kind hkind fun env he s1 x => ?_
  subst he
  refine ⟨lim.keeps x.toInCall.keep, codeAny_func ?_⟩
  obtain ⟨t, ht, hq⟩ := hbody A outer s H vs Q E (hr.deeper _) hsp
  have I : Inv (cxOf CX P w K mg base N qual scope f cdv A outer s H E) [] (start N vs) H s1 := inv_start S hr.hd e0 hl r x
  refine wpAny_mono (ht [] s1 (start N vs) H _ I hq) (fun fl s' hs => ?_) fun e s' hs => hs
  have fin : ∀ {σ' : St} {H' : Hp} {v : V} {u : Value}, Inv (cxOf CX P w K mg base N qual scope f cdv A outer s H E) [] σ' H' s' → RelV v u → Q v H' → CE outer P w H s Q u s' :=
    fun {σ' H' v u} J rv q => ⟨v, H', J.os, J.bare, J.base, J.hok, rv, q⟩
  cases fl with
  | ret u =>
    obtain ⟨v, σ', H', J, rv, q⟩ := hs
    exact fin J rv q
  | next =>
    obtain ⟨σ', H', J, q⟩ := hs
    exact fin (v := V.non) (u := Value.none) J rfl q
  | brk =>
    obtain ⟨_, _, _, q⟩ := hs
    exact False.elim q
  | cont =>
    obtain ⟨_, _, _, q⟩ := hs
    exact False.elim q
end L2
namespace L2
open PySem PySem.Spec PyProof.Rows
section
variable {X : Cx} {x : Str} {p pos : Pos} {e : Expr} {es : List Expr} {t : TA} {id T : String} {r : List V → Hp → VK → Prop}
def tCB (r : List V → Hp → VK → Prop) (t : TA) : TE := fun σ H Q => t σ H fun vs H1 => r vs H1 Q
theorem pe_callB (hc : CallR X (.builtin id) r) (hg : Gl X x) (hm : X.mg x = none) (hv : bootBuiltins x = some (.builtin id)) (ha : PA X (e :: es) t) (hn : x ≠ "__name__" := by decide) (hdb : (x == ("__debug__" : Str)) = false := by decide)
    (he : starEach (e :: es) X.env = (false, eval e X.env) :: starEach es X.env := by rfl) (hpl : (backTo pos (starEach es X.env)).any (·.1) = false := by rfl) : PE X (.Call (.Name x p) (e :: es) [] pos) (tCB r t) := by
  intro pins s σ H Q I h
  refine wpAny_Call_Name_kw (ld_blt I hg hm hv ?_ hn hdb)
  exact PyProof.Rows.callWith_builtin1 (thn (ha pos pins s σ H _ I h) fun us s1 ⟨vs, H1, I1, r1, q1⟩ => hc pins s1 σ H1 vs us Q I1 r1 q1) he hpl
theorem pe_callTy (hc : CallR X (.type T) r) (hg : Gl X x) (hm : X.mg x = none) (hv : bootBuiltins x = some (.type T)) (ha : PA X (e :: es) t) (hn : x ≠ "__name__" := by decide) (hdb : (x == ("__debug__" : Str)) = false := by decide)
    (he : starEach (e :: es) X.env = (false, eval e X.env) :: starEach es X.env := by rfl) (hpl : (backTo pos (starEach es X.env)).any (·.1) = false := by rfl) : PE X (.Call (.Name x p) (e :: es) [] pos) (tCB r t) := by
  intro pins s σ H Q I h
  refine wpAny_Call_Name_kw (ld_blt I hg hm hv ?_ hn hdb)
  exact PyProof.Rows.callWith_type1 (thn (ha pos pins s σ H _ I h) fun us s1 ⟨vs, H1, I1, r1, q1⟩ => hc pins s1 σ H1 vs us Q I1 r1 q1) he hpl
end
end L2
namespace HT
open PySem PyProof.Rows
section
open PySem.SeqAt
open PySem.AutoSeq1 (wpAny_loadPart')
open PySem.MeetsSeq PySem.MeetsSeq2 PySem.MeetsSeq3
end
section
variable {prog : Program} {w : World} {A : Around} {E : Value → Shared → Prop} {s : Shared}
def sIx (n d : Nat) : Option Int → Nat
  | none => d
  | some v => if v < 0 then (v + (n : Int)).toNat else min v.toNat n
end
end HT
namespace L2
open PySem PySem.Spec PyProof.Rows
abbrev TO := St → Hp → (Option Int → Hp → Prop) → Prop
def PO (X : Cx) (e : Option Expr) (t : TO) : Prop :=
  ∀ (pins : List (Addr × Obj)) (s : Shared) (σ : St) (H : Hp) (Q : Option Int → Hp → Prop), Inv X pins σ H s → t σ H Q →
    wpAny (model X.prog X.w) X.A (evalPart e X.env) (fun u s' => ∃ o H', Inv X pins σ H' s' ∧ IsPart u o ∧ Q o H') X.xe s
def tNoPart : TO := fun _ H Q => Q none H
inductive tPart_ (Q : Option Int → Hp → Prop) (x : V) (H1 : Hp) : Prop where
  | mk (i) : (x = .int i) → (Q (some i) H1) → tPart_ Q x H1
def tPart (t : TE) : TO := fun σ H Q => t σ H (tPart_ Q)
section
variable {X : Cx} {e : Expr} {te : TE} {lo hi : Option Expr} {tl th : TO} {pos p2 : Pos}
theorem po_none : PO X none tNoPart := by
  intro pins s σ H Q I h
  rw [evalPart_none]
  exact wpAny_pure ⟨none, H, I, .none, h⟩
theorem po_some (h : PE X e te) : PO X (some e) (tPart te) := by
  intro pins s σ H Q I hw
  rw [evalPart_some]
  refine thn (h pins s σ H _ I hw) fun u s1 ⟨x, H1, I1, r1, q1⟩ => ?_
  obtain ⟨i, rfl, q⟩ := q1
  obtain ⟨t, rfl⟩ := r1
  exact ⟨some i, H1, I1, .int i t, q⟩
def SlR (X : Cx) (r : V → Option Int → Option Int → Hp → VK → Prop) : Prop :=
  ∀ (pins : List (Addr × Obj)) (s : Shared) (σ : St) (H : Hp) (x : V) (v vl vu : Value) (lo hi : Option Int) (sl : Addr) (Q : VK), Inv X pins σ H s → RelV x v → s.heap.IsSliceOf sl vl vu .none → IsPart vl lo → IsPart vu hi → r x lo hi H Q →
    ∃ T id, typeLookup (.type T) "__getitem__" = pure (some (.builtin id)) ∧ s.TypeIs v T ∧ wpAny (model X.prog X.w) X.A (getItem v (.ref sl)) (EP X pins σ Q) X.xe s
def tSl (r : V → Option Int → Option Int → Hp → VK → Prop) (te : TE) (tl th : TO) : TE := fun σ H Q => te σ H fun x H1 => tl σ H1 fun l H2 => th σ H2 fun u H3 => r x l u H3 Q
theorem pe_slice {r : V → Option Int → Option Int → Hp → VK → Prop} (hr : SlR X r) (he : PE X e te) (hl : PO X lo tl) (hu : PO X hi th) : PE X (.Subscript e (.Slice lo hi none p2) pos) (tSl r te tl th) := by
  intro pins s σ H Q I h
  refine Subscript_ (thn (he pins s σ H _ I h) fun v s1 ⟨x, H1, I1, r1, q1⟩ => ?_)
  refine wpAny_Slice (thn (hl pins s1 σ H1 _ I1 q1) fun vl s2 ⟨l, H2, I2, pl, q2⟩ => thn (hu pins s2 σ H2 _ I2 q2) fun vu s3 ⟨u, H3, I3, pu, q3⟩ => ?_)
  rw [evalPart_none]
  refine wpAny_pure ?_
  have I4 : Inv X pins σ H3 { s3 with heap := s3.heap.push { cls := .type "slice", data := .fields #[vl, vu, .none] } } := I3.kept (t' := s3.toks) fun b ob q => Heap.get?_push_of_some _ q
  obtain ⟨T, id, hT, ht, hg⟩ := hr pins { s3 with heap := s3.heap.push { cls := .type "slice", data := .fields #[vl, vu, .none] } } σ H3 x v vl vu l u s3.heap.objs.size Q I4 r1 (Heap.IsSliceOf.new ..) pl pu q3
  show wpAny (model X.prog X.w) X.A (subscriptTail e (.Slice lo hi none p2) v (.ref s3.heap.objs.size)) (EP X pins σ Q) X.xe { s3 with heap := s3.heap.push { cls := .type "slice", data := .fields #[vl, vu, .none] } }
  exact tail_any (ops := [.ref s3.heap.objs.size, v]) ht hT hg (by with_unfolding_all rfl)
def cutV (xs : List V) (lo hi : Option Int) : List V := (xs.drop (HT.sIx xs.length 0 lo)).take (HT.sIx xs.length xs.length hi - HT.sIx xs.length 0 lo)
theorem cutV_length (xs : List V) (lo hi : Option Int) : (cutV xs lo hi).length ≤ xs.length := by
  unfold cutV
  rw [List.length_take, List.length_drop]
  omega
inductive rSlT_ (K : PySem.W.Frag) (x : V) (lo : Option Int) (hi : Option Int) (H : Hp) (Q : VK) : Prop where
  | mk (a) (xs) : (x = .ref a) → (SqT K H a xs) → (¬ (HT.sIx xs.length 0 lo = 0 ∧ HT.sIx xs.length xs.length hi = xs.length)) → (∀ p, H p = none → Q (.ref p) (upd H p (.tup (cutV xs lo hi)))) → rSlT_ K x lo hi H Q
inductive rCatT_ (K : PySem.W.Frag) (x : V) (y : V) (H : Hp) (Q : VK) : Prop where
  | mk (a) (b) (xs) (ys) : (x = .ref a) → (y = .ref b) → (SqT K H a xs) → (SqT K H b ys) → (xs ≠ []) → (xs.length + ys.length ≤ sizeLine) → ((ys = [] → Q (.ref a) H)) → ((ys ≠ [] → ∀ p, H p = none → Q (.ref p) (upd H p (.tup (xs ++ ys))))) → rCatT_ K x y H Q
end
end L2
namespace L2
open PySem PySem.Spec PyProof.Rows
def ixN (n : Nat) (i : Int) : Option Nat := if 0 ≤ i then (if i < n then some i.toNat else none) else if -(n : Int) ≤ i then some (i + n).toNat else none
def atI {α : Type} (xs : List α) (i : Int) : Option α := (ixN xs.length i).bind fun j => xs[j]?
theorem ixN_seq {n : Nat} {i : Int} {j : Nat} (h : ixN n i = some j) : seqIndex? i n = some j ∧ j < n ∧ -(n : Int) ≤ i ∧ i < n := by
  unfold ixN at h
  by_cases h0 : 0 ≤ i
  · rw [if_pos h0] at h
    by_cases h1 : i < n
    · rw [if_pos h1] at h
      have e : i.toNat = j := Option.some.inj h
      exact ⟨by rw [seqIndex_of h0 h1, e], by omega, by omega, h1⟩
    · rw [if_neg h1] at h; cases h
  · rw [if_neg h0] at h
    by_cases h1 : -(n : Int) ≤ i
    · rw [if_pos h1] at h
      have e : (i + n).toNat = j := Option.some.inj h
      exact ⟨by rw [seqIndex_neg (by omega) h1, e], by omega, h1, by omega⟩
    · rw [if_neg h1] at h; cases h
theorem atI_get {α : Type} {xs : List α} {i : Int} {v : α} (h : atI xs i = some v) : ∃ j, seqIndex? i xs.length = some j ∧ xs[j]? = some v ∧ j < xs.length ∧ -(xs.length : Int) ≤ i ∧ i < xs.length := by
  unfold atI at h
  cases e : ixN xs.length i with
  | none => rw [e] at h; cases h
  | some j =>
    rw [e] at h
    obtain ⟨h1, h2, h3, h4⟩ := ixN_seq e
    exact ⟨j, h1, h, h2, h3, h4⟩
theorem atI_nat {α : Type} {xs : List α} {j : Nat} {v : α} (h : xs[j]? = some v) : atI xs (j : Int) = some v := by
  have hj : j < xs.length := (List.getElem?_eq_some_iff.mp h).1
  have e : ixN xs.length (j : Int) = some j := by
    unfold ixN
    rw [if_pos (by omega), if_pos (by omega)]; simp
  unfold atI; rw [e]; exact h
theorem atI_last {α : Type} (xs : List α) (v : α) : atI (xs ++ [v]) (-1) = some v := by
  have hl : (xs ++ [v]).length = xs.length + 1 := by simp
  have e : ixN (xs ++ [v]).length (-1) = some xs.length := by
    unfold ixN
    rw [hl, if_neg (by decide), if_pos (by omega)]
    congr 1
    omega
  unfold atI
  rw [e]
  show (xs ++ [v])[xs.length]? = some v
  simp
def PlainIx (b : Expr) : Prop := ∀ o i, subscripted b false o i = operate [o, i] (getItem o i)
def IxR (X : Cx) (r : R2) : Prop :=
  ∀ (value slice : Expr) (pins : List (Addr × Obj)) (s : Shared) (σ : St) (H : Hp) (x y : V) (v u : Value) (Q : VK), Inv X pins σ H s → RelV x v → RelV y u → r x y H Q →
    subscripted slice false v u = operate [v, u] (getItem v u) → wpAny (model X.prog X.w) X.A (subscriptTail value slice v u) (EP X pins σ Q) X.xe s
def MtR (X : Cx) (id : String) (r : V → List V → Hp → VK → Prop) : Prop :=
  ∀ (pins : List (Addr × Obj)) (s : Shared) (σ : St) (H : Hp) (x : V) (xs : List V) (v : Value) (us : List Value) (Q : VK), Inv X pins σ H s → RelV x v → Vals xs us → r x xs H Q →
    wpAny (model X.prog X.w) X.A (call (.builtin id) (v :: us)) (EP X pins σ Q) X.xe s
section
variable {X : Cx} {a b : Expr} {ta tb : TE} {pos : Pos}
theorem pe_ix {r : R2} (hr : IxR X r) (ha : PE X a ta) (hb : PE X b tb) (hs : PlainIx b := by intro _ _; rfl) : PE X (.Subscript a b pos) (tOp r ta tb) := by
  intro pins s σ H Q I h
  exact Subscript_ (binT ha hb I h fun v u s2 x y H2 I2 rx ry q => hr a b pins s2 σ H2 x y v u Q I2 rx ry q (hs _ _))
inductive rIxL_ (K : PySem.W.Frag) (x : V) (y : V) (H : Hp) (Q : VK) : Prop where
  | mk (p) (xs) (i) (v) : (x = .ref p) → (y = .int i) → (SqL K H p xs) → (atI xs i = some v) → (Q v H) → rIxL_ K x y H Q
def rIxL (K : PySem.W.Frag) : R2 := rIxL_ K
inductive rIxT_ (K : PySem.W.Frag) (x : V) (y : V) (H : Hp) (Q : VK) : Prop where
  | mk (p) (xs) (i) (v) : (x = .ref p) → (y = .int i) → (SqT K H p xs) → (atI xs i = some v) → (Q v H) → rIxT_ K x y H Q
def rIxS : R2 := fun x y H Q => ∃ z i c, x = .str z ∧ y = .int i ∧ z.length ≤ sizeLine ∧ atI z.cps.toList i = some c ∧ Q (.str ⟨#[c]⟩) H
theorem ix_list : IxR X (rIxL X.K) := by
  intro value slice pins s σ H x y v u Q I rx ry h hs
  obtain ⟨p, xs, i, z, rfl, rfl, hq, he, q⟩ := h
  cases rx
  obtain ⟨t, rfl⟩ := ry
  obtain ⟨its, r, pl, hz⟩ := I.list hq
  obtain ⟨j, h1, h2, h3, h4, h5⟩ := atI_get he
  obtain ⟨w, ew, rw'⟩ := r.get h2
  have hl := r.length
  have hn := line63
  have fin : EP X pins σ Q w s := ⟨z, H, I, rw', q⟩
  by_cases h0 : 0 ≤ i
  · have hj : i.toNat = j := by
      rw [seqIndex_of h0 h5] at h1
      exact Option.some.inj h1
    exact item_listR pl.isList h0 (by omega) (by rw [hj]; simpa using ew) fin hs
  · have hj : (i + (its.toArray.size : Int)).toNat = j := by
      rw [seqIndex_neg (by omega) h4] at h1
      rw [List.size_toArray, ← hl]
      exact Option.some.inj h1
    exact subscriptTail_builtinR (x := w) pl.isList.typeIs slot_list_getitem.lookup
      (wpAny_getItem_list_neg (Q := fun r s' => r = w ∧ EP X pins σ Q r s') pl.isList (by omega) (by rw [List.size_toArray] <;> omega) (by omega) (by rw [hj]; simpa using ew) ⟨rfl, fin⟩) hs
theorem ix_str : IxR X rIxS := by
  intro value slice pins s σ H x y v u Q I rx ry h hs
  obtain ⟨z, i, c, rfl, rfl, hz, he, q⟩ := h
  obtain ⟨t, rfl⟩ := rx
  obtain ⟨t', rfl⟩ := ry
  obtain ⟨j, h1, h2, h3, h4, h5⟩ := atI_get he
  have hl : z.cps.toList.length = z.length := by simp [Str.length]
  rw [hl] at h1 h4 h5
  have hn := line63
  exact tail_any (typeIs_str s z t) slot_str_getitem.lookup (getItem_str (c := c) (by
    have e1 : decide (i < -(2 ^ 63 : Int)) = false := decide_eq_false (by omega)
    have e2 : decide (i ≥ 2 ^ 63) = false := decide_eq_false (by omega)
    rw [e1, e2, Bool.or_false]) (by rw [h1]; simpa using h2) ⟨.str ⟨#[c]⟩, H, I.tok _, ⟨_, rfl⟩, q⟩) hs
theorem mapSeq_set (its : List Value) (n j : Nat) (u : Value) : Obj.mapSeq (·.setIfInBounds j u) { cls := .type "list", data := .seq its.toArray n } = { cls := .type "list", data := .seq (its.set j u).toArray n } := by
  simp [Obj.mapSeq]
theorem Inv.lst {pins : List (Addr × Obj)} {σ : St} {H : Hp} {s : Shared} {p : Addr} {xs : List V} (I : Inv X pins σ H s) (h : H p = some (.lst xs)) :
    ∃ (its : List Value) (n : Nat), Vals xs its ∧ s.heap.get? p = some { cls := .type "list", data := .seq its.toArray n } ∧ xs.length ≤ sizeLine := by
  obtain ⟨z, its, n, r, e⟩ := I.hok p _ h
  exact ⟨its, n, r, e, z⟩
theorem Inv.lstUpd {pins : List (Addr × Obj)} {σ : St} {H : Hp} {s : Shared} {p : Addr} {xs ys : List V} {its its' : List Value} {n n' : Nat} {f : Obj → Obj} (I : Inv X pins σ H s) (h : H p = some (.lst xs))
    (ho : s.heap.get? p = some { cls := .type "list", data := .seq its.toArray n }) (hf : f { cls := .type "list", data := .seq its.toArray n } = { cls := .type "list", data := .seq its'.toArray n' }) (r : Vals ys its') (hz : ys.length ≤ sizeLine) (t : Nat) :
    Inv X pins σ (upd H p (.lst ys)) { s with heap := s.heap.update p f, toks := t } := by
  have e : (s.heap.update p f).get? p = some { cls := .type "list", data := .seq its'.toArray n' } := by
    rw [Heap.get?_update_self f ho (by rw [hf] <;> rfl), hf]
  refine I.write (x := p) (e := p) (by rw [h]; trivial) (.inl rfl) (fun b u hb q => (Heap.get?_update_other _ _ (Ne.symm hb)).trans q) ⟨_, e⟩ ?_
  exact ⟨hz, its', n', r, e⟩
inductive rSetL_ (o : V) (i : V) (v : V) (H : Hp) (Q : Hp → Prop) : Prop where
  | mk (p) (xs) (k) (j) : (o = .ref p) → (i = .int k) → (H p = some (.lst xs)) → (ixN xs.length k = some j) → (Q (upd H p (.lst (xs.set j v)))) → rSetL_ o i v H Q
def rSetL : V → V → V → Hp → (Hp → Prop) → Prop := rSetL_
theorem set_list : PSet X rSetL := by
  intro pins s σ H o i v ov iv u Q I ro ri rv h
  obtain ⟨p, xs, k, j, rfl, rfl, hp, hj, q⟩ := h
  cases ro
  obtain ⟨t, rfl⟩ := ri
  obtain ⟨its, n, r, ho, hz⟩ := I.lst hp
  obtain ⟨h1, h2, h3, h4⟩ := ixN_seq hj
  have hl := r.length
  have hn := line63
  have I' : Inv X pins σ (upd H p (.lst (xs.set j v))) { s with heap := s.heap.update p (Obj.mapSeq (·.setIfInBounds j u)) } :=
    I.lstUpd hp ho (mapSeq_set its n j u) (r.set rv j) (by rw [List.length_set]; exact hz) s.toks
  by_cases h0 : 0 ≤ k
  · have hk : k.toNat = j := by
      rw [seqIndex_of h0 h4] at h1
      exact Option.some.inj h1
    exact PySem.W.ki_setAt ho h0 (by omega) (by rw [List.size_toArray, ← hl]; exact h4) (by rw [hk]; exact ⟨_, I', q⟩)
  · have hk : (k + (its.toArray.size : Int)).toNat = j := by
      rw [seqIndex_neg (by omega) h3] at h1
      rw [List.size_toArray, ← hl]
      exact Option.some.inj h1
    exact PySem.W.ki_setBack ho (by omega) (by rw [List.size_toArray, ← hl]; exact h3) (by omega) (by rw [hk]; exact ⟨_, I', q⟩)
theorem slice_bounds (lo hi : Option Int) (n : Nat) : (sliceBounds lo hi none n).1 = ((HT.sIx n 0 lo : Nat) : Int) ∧ (sliceBounds lo hi none n).2.1 = ((HT.sIx n n hi : Nat) : Int) ∧ (sliceBounds lo hi none n).2.2 = 1 := by
  refine ⟨?_, ?_, rfl⟩
  · cases lo with
    | none => simp [sliceBounds, HT.sIx]
    | some i =>
      simp only [sliceBounds, HT.sIx, Option.getD_none, show (1 : Int) > 0 by decide, if_true]
      by_cases h : i < 0
      · simp only [h, if_true] <;> omega
      · simp only [h, if_false] <;> omega
  · cases hi with
    | none => simp [sliceBounds, HT.sIx]
    | some i =>
      simp only [sliceBounds, HT.sIx, Option.getD_none, show (1 : Int) > 0 by decide, if_true]
      by_cases h : i < 0
      · simp only [h, if_true] <;> omega
      · simp only [h, if_false] <;> omega
theorem slicePick_cut (its : List Value) (lo hi : Option Int) : slicePick its.toArray lo hi none = ((its.drop (HT.sIx its.length 0 lo)).take (HT.sIx its.length its.length hi - HT.sIx its.length 0 lo)).toArray := by
  obtain ⟨h1, h2, h3⟩ := slice_bounds lo hi its.toArray.size
  unfold slicePick
  rw [h1, h2, h3]
  simp only [sliceRange_one, pick_run, List.size_toArray] <;> rfl
def rSlL (K : PySem.W.Frag) : V → Option Int → Option Int → Hp → VK → Prop := fun x lo hi H Q => ∃ a xs, x = .ref a ∧ SqL K H a xs ∧ ∀ p, H p = none → Q (.ref p) (upd H p (.lst (cutV xs lo hi)))
theorem sl_list : SlR X (rSlL X.K) := by
  intro pins s σ H x v vl vu lo hi sl Q I rx hs pl pu h
  obtain ⟨a, xs, rfl, hx, q⟩ := h
  cases rx
  obtain ⟨its, r, ht, hz⟩ := I.list hx
  have hlen := r.length
  refine ⟨"list", _, slot_list_getitem.lookup, ht.isList.typeIs, ?_⟩
  refine wpAny_getItem_list_slice ht.isList hs pl pu .none (by simp) ?_ (by rw [List.size_toArray] <;> omega)
  rw [slicePick_cut, ← hlen]
  refine ⟨.ref s.heap.objs.size, _, I.laid (t' := s.toks) (o := .lst (cutV xs lo hi)) (fun b ob q => Heap.get?_push_of_some _ q) (Nat.le_refl _) ?_, rfl, q _ (I.hok.fresh (Nat.le_refl _))⟩
  exact ⟨Nat.le_trans (cutV_length xs lo hi) hz, _, 0, (r.drop (HT.sIx xs.length 0 lo)).take (HT.sIx xs.length xs.length hi - HT.sIx xs.length 0 lo), Heap.get?_push_size _ rfl⟩
def flatV : V → Bool
  | .non => true
  | .bl _ => true
  | .int _ => true
  | .str _ => true
  | _ => false
def eqV : V → V → Bool
  | .non, .non => true
  | .bl a, .bl b => a == b
  | .bl a, .int b => (if a then 1 else 0) == b
  | .int a, .bl b => a == (if b then 1 else 0)
  | .int a, .int b => a == b
  | .str a, .str b => a == b
  | _, _ => false
theorem eqAt_V {A : Around} {s : Shared} {y x : V} {u v : Value} (ry : RelV y u) (rx : RelV x v) (fy : flatV y = true) (fx : flatV x = true) : SeqAt.EqAt A s u v (eqV y x) := by
  cases y with
  | non =>
    cases ry
    cases x with
    | non => cases rx; exact SeqAt.EqAt.same _
    | bl b => cases rx; exact SeqAt.EqAt.none_bool b
    | int b => obtain ⟨t, rfl⟩ := rx; exact SeqAt.EqAt.none_int b t
    | str b => obtain ⟨t, rfl⟩ := rx; exact SeqAt.EqAt.none_str b t
    | _ => exact absurd (show false = true from fx) Bool.false_ne_true
  | bl a =>
    cases ry
    cases x with
    | non => cases rx; exact SeqAt.EqAt.bool_none a
    | bl b => cases rx; exact SeqAt.EqAt.bool_bool a b
    | int b => obtain ⟨t, rfl⟩ := rx; exact SeqAt.EqAt.bool_int a b t
    | str b => obtain ⟨t, rfl⟩ := rx; exact SeqAt.EqAt.bool_str a b t
    | _ => exact absurd (show false = true from fx) Bool.false_ne_true
  | int a =>
    obtain ⟨t', rfl⟩ := ry
    cases x with
    | non => cases rx; exact SeqAt.EqAt.int_none a t'
    | bl b => cases rx; exact SeqAt.EqAt.int_bool a t' b
    | int b => obtain ⟨t, rfl⟩ := rx; exact SeqAt.EqAt.int_int a t' b t
    | str b => obtain ⟨t, rfl⟩ := rx; exact SeqAt.EqAt.int_str a t' b t
    | _ => exact absurd (show false = true from fx) Bool.false_ne_true
  | str a =>
    obtain ⟨t', rfl⟩ := ry
    cases x with
    | non => cases rx; exact SeqAt.EqAt.str_none a t'
    | bl b => cases rx; exact SeqAt.EqAt.str_bool a t' b
    | int b => obtain ⟨t, rfl⟩ := rx; exact SeqAt.EqAt.str_int a t' b t
    | str b => obtain ⟨t, rfl⟩ := rx; exact SeqAt.EqAt.str_str a t' b t
    | _ => exact absurd (show false = true from fx) Bool.false_ne_true
  | _ => exact absurd (show false = true from fy) Bool.false_ne_true
def eqU (x : V) (u : Value) : Bool := match u with
  | .none => eqV .non x
  | .bool b => eqV (.bl b) x
  | .int i _ => eqV (.int i) x
  | .str z _ => eqV (.str z) x
  | _ => false
theorem eqU_of {x y : V} {u : Value} (r : RelV y u) (f : flatV y = true) : eqU x u = eqV y x := by
  cases y with
  | non => cases r; rfl
  | bl b => cases r; rfl
  | int i => obtain ⟨t, rfl⟩ := r; rfl
  | str z => obtain ⟨t, rfl⟩ := r; rfl
  | _ => exact absurd (show false = true from f) Bool.false_ne_true
theorem any_eqU {x : V} {xs : List V} {us : List Value} (h : Vals xs us) (f : xs.all flatV = true) : us.any (eqU x) = xs.any fun y => eqV y x := by
  induction h with
  | nil => rfl
  | cons r _ ih =>
    rw [List.all_cons, Bool.and_eq_true] at f
    rw [List.any_cons, List.any_cons, eqU_of r f.1, ih f.2]
theorem mem_eqAt {A : Around} {s : Shared} {x : V} {v : Value} (rx : RelV x v) (fx : flatV x = true) {xs : List V} {us : List Value} (h : Vals xs us) (f : xs.all flatV = true) : ∀ u ∈ us, SeqAt.EqAt A s u v (eqU x u) := by
  induction h with
  | nil => exact fun u hu => by cases hu
  | cons r _ ih =>
    intro u' hu
    rw [List.all_cons, Bool.and_eq_true] at f
    rcases List.mem_cons.mp hu with rfl | hu
    · rw [eqU_of r f.1]; exact eqAt_V r rx f.1 fx
    · exact ih f.2 u' hu
def inV (x : V) (xs : List V) : Bool := xs.any fun y => eqV y x
inductive rIn_ (K : PySem.W.Frag) (neg : Bool) (x : V) (y : V) (H : Hp) (Q : VK) : Prop where
  | mk (p) (xs) : (y = .ref p) → ((SqL K H p xs ∨ SqT K H p xs)) → (flatV x = true) → (xs.all flatV = true) → (Q (.bl (if neg then !inV x xs else inV x xs)) H) → rIn_ K neg x y H Q
def rIn (K : PySem.W.Frag) (neg : Bool) : R2 := rIn_ K neg
theorem op_in_seq : OpR X (compareOp .In) (rIn X.K false) := by
  intro pins s σ H x y v u Q I rx ry h
  obtain ⟨p, xs, rfl, hq, fx, fs, q⟩ := h
  cases ry
  rcases hq with hq | hq
  · obtain ⟨its, r, pl, hz⟩ := I.list hq
    refine SeqAt.in_listAt (eqU x) pl.isList (fun w hw => mem_eqAt rx fx r fs w (by simpa using hw)) ⟨.bl _, H, I, rfl, ?_⟩
    rw [show its.toArray.any (eqU x) = its.any (eqU x) by simp, any_eqU r fs]
    exact q
  · obtain ⟨its, r, pl, hz⟩ := I.tuple hq
    refine SeqAt.in_tupleAt (eqU x) pl (fun w hw => mem_eqAt rx fx r fs w (by simpa using hw)) ⟨.bl _, H, I, rfl, ?_⟩
    rw [show its.toArray.any (eqU x) = its.any (eqU x) by simp, any_eqU r fs]
    exact q
theorem op_notIn_seq : OpR X (compareOp .NotIn) (rIn X.K true) := by
  intro pins s σ H x y v u Q I rx ry h
  obtain ⟨p, xs, rfl, hq, fx, fs, q⟩ := h
  cases ry
  rcases hq with hq | hq
  · obtain ⟨its, r, pl, hz⟩ := I.list hq
    refine SeqAt.notIn_listAt (eqU x) pl.isList (fun w hw => mem_eqAt rx fx r fs w (by simpa using hw)) ⟨.bl _, H, I, rfl, ?_⟩
    rw [show its.toArray.any (eqU x) = its.any (eqU x) by simp, any_eqU r fs]
    exact q
  · obtain ⟨its, r, pl, hz⟩ := I.tuple hq
    refine SeqAt.notIn_tupleAt (eqU x) pl (fun w hw => mem_eqAt rx fx r fs w (by simpa using hw)) ⟨.bl _, H, I, rfl, ?_⟩
    rw [show its.toArray.any (eqU x) = its.any (eqU x) by simp, any_eqU r fs]
    exact q
inductive r_call_len_seq (K : PySem.W.Frag) (xs : List V) (H : Hp) (Q : VK) : Prop where
  | mk (p) (ys) : (xs = [.ref p]) → ((SqL K H p ys ∨ SqT K H p ys)) → (Q (.int ys.length) H) → r_call_len_seq K xs H Q
theorem call_len_seq : CallR X (.builtin "len") (r_call_len_seq X.K) := by
  intro pins s σ H xs us Q I r h
  obtain ⟨p, ys, rfl, hq, q⟩ := h
  obtain ⟨u, rfl, rx⟩ := vals1 r
  cases rx
  have hn := line63
  rcases hq with hq | hq
  · obtain ⟨its, r', pl, hz⟩ := I.list hq
    have hlen := r'.length
    exact Calls.call_len_list pl.isList (by simp only [List.size_toArray] <;> omega) ⟨.int ys.length, H, I.tok _, ⟨s.toks + 1, by rw [List.size_toArray, hlen]⟩, q⟩
  · obtain ⟨its, r', pl, hz⟩ := I.tuple hq
    have hlen := r'.length
    exact len_tuple pl (by simp only [List.size_toArray] <;> omega) ⟨.int ys.length, H, I.tok _, ⟨s.toks + 1, by rw [List.size_toArray, hlen]⟩, q⟩
theorem call_len_str : CallR X (.builtin "len") (fun xs H Q => ∃ z, xs = [.str z] ∧ z.length ≤ sizeLine ∧ Q (.int z.length) H) := by
  intro pins s σ H xs us Q I r h
  obtain ⟨z, rfl, hz, q⟩ := h
  obtain ⟨u, rfl, t, rfl⟩ := vals1 r
  have hn := line63
  exact len_str (by omega) ⟨.int z.length, H, I.tok _, ⟨_, rfl⟩, q⟩
theorem CallR.or {f : Value} {r r' : List V → Hp → VK → Prop} (h : CallR X f r) (h' : CallR X f r') : CallR X f (fun xs H Q => r xs H Q ∨ r' xs H Q) := by
  intro pins s σ H xs us Q I rs q
  rcases q with q | q
  · exact h pins s σ H xs us Q I rs q
  · exact h' pins s σ H xs us Q I rs q
inductive r_call_list_of (K : PySem.W.Frag) (xs : List V) (H : Hp) (Q : VK) : Prop where
  | mk (p) (ys) : (xs = [.ref p]) → ((SqL K H p ys ∨ SqT K H p ys)) → (∀ l, H l = none → Q (.ref l) (upd H l (.lst ys))) → r_call_list_of K xs H Q
inductive r_call_tuple_of (K : PySem.W.Frag) (xs : List V) (H : Hp) (Q : VK) : Prop where
  | mk (p) (ys) : (xs = [.ref p]) → (((SqL K H p ys ∧ ∀ l, H l = none → Q (.ref l) (upd H l (.tup ys))) ∨ (SqT K H p ys ∧ Q (.ref p) H))) → r_call_tuple_of K xs H Q
theorem call_tuple_of : CallR X (.type "tuple") (r_call_tuple_of X.K) := by
  intro pins s σ H xs us Q I r h
  obtain ⟨p, ys, rfl, h⟩ := h
  obtain ⟨u, rfl, rx⟩ := vals1 r
  cases rx
  rcases h with ⟨hq, q⟩ | ⟨hq, q⟩
  · obtain ⟨its, r', pl, hz⟩ := I.list hq
    have hlen := r'.length
    refine call_tuple_list pl.isList (fun h' kp => ?_) (by simp only [List.size_toArray] <;> omega)
    have I1 : Inv X pins σ H { s with heap := h' } := I.kept (t' := s.toks) kp
    have I2 : Inv X pins σ (upd H h'.objs.size (.tup ys)) { s with heap := h'.push { cls := .type "tuple", data := .seq its.toArray } } :=
      I1.laid (t' := s.toks) (fun b o e => Heap.get?_push_of_some _ e) (Nat.le_refl _) (show ObjOk X.prog X.w _ _ _ (.tup ys) from ⟨hz, its, r', IsTup.new _ _⟩)
    exact ⟨.ref h'.objs.size, _, I2, rfl, q _ (I1.hok.fresh (Nat.le_refl _))⟩
  · obtain ⟨its, r', pl, hz⟩ := I.tuple hq
    exact call_tuple_same pl ⟨.ref p, H, I, rfl, q⟩
def tyV (K : PySem.W.Frag) (T : String) (x : V) (H : Hp) : Prop := match x with
  | .str _ => T = "str"
  | .int _ => T = "int"
  | .ref p => (T = "list" ∧ ∃ xs, SqL K H p xs) ∨ (T = "tuple" ∧ ∃ o, K.lookup p = some o ∧ o.cls = .type "tuple" ∧ o.dict = none) ∨
      (T = "dict" ∧ ((∃ kvs, H p = some (.dK kvs)) ∨ ∃ kvs, H p = some (.dT kvs))) ∨ (T = "set" ∧ ∃ S n, H p = some (.set S n))
  | _ => False
theorem tyV_is {pins : List (Addr × Obj)} {σ : St} {H : Hp} {s : Shared} {T : String} {x : V} {v : Value} (I : Inv X pins σ H s) (r : RelV x v) (ty : tyV X.K T x H) :
    s.TypeIs v T ∧ ∀ a, v = .ref a → ∃ ob, s.heap.get? a = some ob ∧ ob.dict = none := by
  cases x with
  | str z =>
    obtain ⟨t, rfl⟩ := r
    cases (show T = "str" from ty)
    exact ⟨typeIs_str s z t, fun _ e => nomatch e⟩
  | int i =>
    obtain ⟨t, rfl⟩ := r
    cases (show T = "int" from ty)
    exact ⟨typeIs_int s i t, fun _ e => nomatch e⟩
  | ref p =>
    cases r
    rcases ty with ⟨rfl, xs, hq⟩ | ⟨rfl, o, hk, hc, hd⟩ | ⟨rfl, hk⟩ | ⟨rfl, S, n, hk⟩
    · obtain ⟨its, _, pl, _⟩ := I.list hq
      refine ⟨pl.isList.typeIs, fun a e => ?_⟩
      cases e
      obtain ⟨o, n, e, c, hd, _⟩ := pl
      exact ⟨o, e, hd⟩
    · refine ⟨⟨o, I.kIn p o hk, hc⟩, fun a e => ?_⟩
      cases e
      exact ⟨o, I.kIn _ o hk, hd⟩
    · have z : ∃ o, s.heap.get? p = some o ∧ o.ExactDict := by
        rcases hk with ⟨kvs, hk⟩ | ⟨kvs, hk⟩
        · obtain ⟨_, _, _, _, o, _, _, e, ex, _⟩ := I.hok p _ hk
          exact ⟨o, e, ex⟩
        · obtain ⟨_, _, _, _, o, _, _, e, ex, _⟩ := I.hok p _ hk
          exact ⟨o, e, ex⟩
      obtain ⟨o, e, ex⟩ := z
      refine ⟨⟨o, e, ex.1⟩, fun a e2 => ?_⟩
      cases e2
      exact ⟨o, e, ex.2.1⟩
    · obtain ⟨o, _, _, _, e, ex, _⟩ := I.hok p _ hk
      refine ⟨⟨o, e, ex.1⟩, fun a e2 => ?_⟩
      cases e2
      exact ⟨o, e, ex.2.1⟩
  | _ => exact False.elim ty
inductive tBM0_ (K : PySem.W.Frag) (T : String) (r : V → List V → Hp → VK → Prop) (Q : VK) (x : V) (H1 : Hp) : Prop where
  | mk : (tyV K T x H1) → (r x [] H1 Q) → tBM0_ K T r Q x H1
def tBM0 (K : PySem.W.Frag) (T : String) (r : V → List V → Hp → VK → Prop) (to : TE) : TE := fun σ H Q => to σ H (tBM0_ K T r Q)
inductive tBM_ (K : PySem.W.Frag) (T : String) (r : V → List V → Hp → VK → Prop) (t : TA) (σ : St) (Q : VK) (x : V) (H1 : Hp) : Prop where
  | mk : (tyV K T x H1) → (t σ H1 fun xs H2 => r x xs H2 Q) → tBM_ K T r t σ Q x H1
def tBM (K : PySem.W.Frag) (T : String) (r : V → List V → Hp → VK → Prop) (to : TE) (t : TA) : TE := fun σ H Q => to σ H (tBM_ K T r t σ Q)
variable {o e : Expr} {es : List Expr} {to : TE} {t : TA} {name : Str} {apos cpos : Pos} {T id : String} {r : V → List V → Hp → VK → Prop}
theorem pe_bm0 (pa : PlainAttrs T) (slot : Slot T name id) (hty : typeOf (.builtin id) = pure (.type "method_descriptor")) (hm : MtR X id r) (ho : PE X o to)
    (hbase : attributeBase o name X.env (eval o X.env) = eval o X.env := by rfl) (hline : (apos.endLine == cpos.line) = true := by rfl) : PE X (.Call (.Attribute o name apos) [] [] cpos) (tBM0 X.K T r to) := by
  intro pins s σ H Q I h
  refine wpAny_Call_method0_late hbase hline (thn (ho pins s σ H _ I h) fun v s1 ⟨x, H1, I1, r1, ty, q1⟩ => ?_)
  obtain ⟨h1, h2⟩ := tyV_is I1 r1 ty
  exact ⟨T, id, pa, slot, hty, h1, h2, Calls.callWith_builtin rfl (PySem.evalArgs_none (hm pins s1 σ H1 x [] v [] Q I1 r1 .nil q1))⟩
theorem pe_bm (pa : PlainAttrs T) (slot : Slot T name id) (hty : typeOf (.builtin id) = pure (.type "method_descriptor")) (hm : MtR X id r) (ho : PE X o to) (ha : PA X (e :: es) t)
    (hbase : attributeBase o name X.env (eval o X.env) = eval o X.env := by rfl)
    (hfew : ((backTo cpos (starEach (e :: es) X.env)).all (fun x => !x.1) && (backToKw cpos (keywordEach [] X.env)).all (fun x => x.1.isSome)
      && decide ((e :: es).length + ([] : List Keyword).length + (if ([] : List Keyword).isEmpty then 0 else 1) < 30)) = true := by rfl)
    (hline : (apos.endLine == cpos.line) = true := by rfl) (hs : starEach (e :: es) X.env = (false, eval e X.env) :: starEach es X.env := by rfl) (hplain : (backTo cpos (starEach es X.env)).any (·.1) = false := by rfl) :
    PE X (.Call (.Attribute o name apos) (e :: es) [] cpos) (tBM X.K T r to t) := by
  intro pins s σ H Q I h
  refine wpAny_Call_method_late hbase hfew hline rfl (thn (ho pins s σ H _ I h) fun v s1 ⟨x, H1, I1, r1, ty, q1⟩ => ?_)
  obtain ⟨h1, h2⟩ := tyV_is I1 r1 ty
  refine ⟨T, id, pa, slot, hty, h1, h2, ?_⟩
  have hA := ha cpos pins s1 σ H1 _ I1 q1
  rw [hs] at hA ⊢
  refine Calls.callWith_builtin (by show (false || (backTo cpos (starEach es X.env)).any (·.1)) = false; rw [hplain] <;> rfl) (Calls.evalArgs_plain ?_)
  exact thn hA fun us s2 ⟨vs, H2, I2, r2, q2⟩ => hm pins s2 σ H2 x vs v us Q I2 r1 r2 q2
end
end L2
namespace L2
open PySem PySem.Spec PyProof.Rows
def MtM (X : Cx) (id : String) (r : V → List V → Hp → VK → Prop) : Prop :=
  ∀ (pins : List (Addr × Obj)) (s : Shared) (σ : St) (H : Hp) (x : V) (xs : List V) (v : Value) (us : List Value) (Q : VK), Inv X pins σ H s → RelV x v → Vals xs us → r x xs H Q →
    wpAny (model X.prog X.w) X.A (call (.builtin id) (v :: us)) (EP X pins σ Q) X.xe s
theorem Vals.one {x : V} {us : List Value} (h : Vals [x] us) : ∃ u, us = [u] ∧ RelV x u := by
  cases h with
  | cons r t => cases t; exact ⟨_, rfl, r⟩
theorem Vals.zero : ∀ {us : List Value}, Vals [] us → us = []
  | _, .nil => rfl
theorem Vals.dropLast {xs : List V} {us : List Value} (h : Vals xs us) : Vals xs.dropLast us.dropLast := by
  induction h with
  | nil => exact .nil
  | cons r t ih =>
    cases t with
    | nil => exact .nil
    | cons q t' => exact .cons r ih
theorem Vals.eraseIdx : ∀ {xs : List V} {us : List Value} (i : Nat), Vals xs us → Vals (xs.eraseIdx i) (us.eraseIdx i)
  | _, _, _, .nil => .nil
  | _, _, 0, .cons _ t => t
  | _, _, i + 1, .cons r t => .cons r (Vals.eraseIdx i t)
theorem Vals.rep {xs : List V} {us : List Value} (h : Vals xs us) : ∀ k : Nat, Vals (List.replicate k xs).flatten (List.replicate k us).flatten
  | 0 => .nil
  | k + 1 => by
    rw [List.replicate_succ, List.replicate_succ, List.flatten_cons, List.flatten_cons]
    exact Vals.append h (Vals.rep h k)
theorem erase_last {α : Type} (l : List α) : l.eraseIdx (l.length - 1) = l.dropLast := by
  induction l with
  | nil => rfl
  | cons a r ih =>
    cases r with
    | nil => rfl
    | cons b r =>
      have e : (a :: b :: r).length - 1 = ((b :: r).length - 1) + 1 := by
        have h1 : (a :: b :: r).length = r.length + 2 := rfl
        have h2 : (b :: r).length = r.length + 1 := rfl
        exact rfl
      rw [e, List.eraseIdx_cons_succ, ih]
      all_goals rfl
theorem len_erase {α : Type} : ∀ (l : List α) (i : Nat), (l.eraseIdx i).length ≤ l.length
  | [], _ => Nat.le_refl _
  | _ :: _, 0 => Nat.le_succ _
  | _ :: r, i + 1 => Nat.succ_le_succ (len_erase r i)
theorem foldl_rep (its : List Value) : ∀ (k : Nat) (acc : List Value),
    List.foldl (fun x1 x2 => x1 ++ x2) acc.toArray (List.replicate k its.toArray) = (acc ++ (List.replicate k its).flatten).toArray
  | 0, acc => by simp
  | k + 1, acc => by
    have e : acc.toArray ++ its.toArray = (acc ++ its).toArray := by simp
    have e2 : (acc ++ its) ++ (List.replicate k its).flatten = acc ++ (List.replicate (k + 1) its).flatten := by
      rw [List.replicate_succ, List.flatten_cons, List.append_assoc]
    rw [← e2, ← foldl_rep its k (acc ++ its), ← e, List.replicate_succ, List.foldl_cons]
section
variable {X : Cx} {pins : List (Addr × Obj)} {σ : St} {H : Hp} {s : Shared} {l b : Addr} {xs ys zs : List V}
theorem Inv.lset {its its' : List Value} {n : Nat} {f : Array Value → Array Value} {t' : Nat} (I : Inv X pins σ H s) (hH : H l = some (.lst xs))
    (e : s.heap.get? l = some { cls := .type "list", data := .seq its.toArray n }) (hf : f its.toArray = its'.toArray) (hv : Vals ys its') (hz : ys.length ≤ sizeLine) :
    Inv X pins σ (upd H l (.lst ys)) { s with heap := s.heap.update l (Obj.mapSeq f), toks := t' } := by
  have q := PySem.IsL.update e f
  rw [hf] at q
  refine I.write (x := l) (e := l) (by rw [hH]; exact trivial) (.inl rfl) (fun b' u hb hu => (Heap.get?_update_other s.heap (Obj.mapSeq f) (Ne.symm hb)).trans hu) ⟨_, q⟩ ?_
  exact ⟨hz, its', _, hv, q⟩
theorem Inv.lnew {its : List Value} {t' : Nat} (I : Inv X pins σ H s) (hv : Vals ys its) (hz : ys.length ≤ sizeLine) :
    Inv X pins σ (upd H s.heap.objs.size (.lst ys)) { s with heap := s.heap.push { cls := .type "list", data := .seq its.toArray }, toks := t' } :=
  I.laid (fun _ _ q => Heap.get?_push_of_some _ q) (Nat.le_refl _) ⟨hz, its, 0, hv, Heap.get?_push_size _ rfl⟩
theorem Inv.fresh (I : Inv X pins σ H s) : H s.heap.objs.size = none := I.hok.fresh (Nat.le_refl _)
theorem Inv.lstM (I : Inv X pins σ H s) (hH : H l = some (.lst xs)) : xs.length ≤ sizeLine ∧ ∃ (its : List Value) (n : Nat), Vals xs its ∧ xs.length = its.length ∧ s.heap.get? l = some { cls := .type "list", data := .seq its.toArray n } := by
  obtain ⟨z, its, n, r, e⟩ := I.hok l _ hH
  exact ⟨z, its, n, r, r.length, e⟩
theorem notLongL {n : Nat} (h : n ≤ sizeLine) : Builtin.List.listTooLong n = false := by
  unfold Builtin.List.listTooLong
  exact decide_eq_false (by exact Nat.not_lt.mpr h)
end
section
variable {X : Cx}
inductive rAppend_ (x : V) (vs : List V) (H : Hp) (Q : VK) : Prop where
  | mk (l) (xs) (y) : (x = .ref l) → (vs = [y]) → (H l = some (.lst xs)) → (xs.length < sizeLine) → (Q .non (upd H l (.lst (xs ++ [y])))) → rAppend_ x vs H Q
def rAppend : V → List V → Hp → VK → Prop := rAppend_
theorem mt_append : MtM X "list.append" rAppend := by
  intro pins s σ H x vs v us Q I rx rv h
  obtain ⟨l, xs, y, rfl, rfl, hH, hz, q⟩ := h
  cases rx
  obtain ⟨u, rfl, ru⟩ := rv.one
  obtain ⟨z, its, n, r, hl, e⟩ := I.lstM hH
  refine call_meets F.slot_list_append ⟨_, e, rfl⟩ F.entry_list_append (F.args_list_append_2 _ _) (PySem.list_append l its.toArray n u (by rw [List.size_toArray]; omega)) ⟨e, ?_⟩
  refine ⟨.non, _, I.lset (its' := its ++ [u]) hH e (by simp) (r.append (.cons ru .nil)) ?_, rfl, q⟩
  rw [List.length_append, List.length_singleton]
  exact hz
inductive rExtend_ (x : V) (vs : List V) (H : Hp) (Q : VK) : Prop where
  | mk (l) (b) (xs) (zs) : (x = .ref l) → (vs = [.ref b]) → (H l = some (.lst xs)) → (H b = some (.lst zs)) → (xs.length + zs.length ≤ sizeLine) → (Q .non (upd H l (.lst (xs ++ zs)))) → rExtend_ x vs H Q
def rExtend : V → List V → Hp → VK → Prop := rExtend_
theorem mt_extend : MtM X "list.extend" rExtend := by
  intro pins s σ H x vs v us Q I rx rv h
  obtain ⟨l, b, xs, zs, rfl, rfl, hH, hB, hz, q⟩ := h
  cases rx
  obtain ⟨u, rfl, ru⟩ := rv.one
  cases ru
  obtain ⟨z, its, n, r, hl, e⟩ := I.lstM hH
  obtain ⟨z2, its2, n2, r2, hl2, e2⟩ := I.lstM hB
  have hsz : its.toArray.size + its2.toArray.size ≤ sizeLine := by rw [List.size_toArray, List.size_toArray]; omega
  have hlong : ¬ (!its.toArray.isEmpty && Builtin.List.listTooLong (its.toArray.size + its2.toArray.size)) = true := by
    rw [notLongL hsz, Bool.and_false]
    exact Bool.false_ne_true
  refine call_meets F.slot_list_extend ⟨_, e, rfl⟩ F.entry_list_extend (F.args_list_extend_2 _ _)
    (AutoSeq1.list_extend_list_list_0 l its.toArray n b its2.toArray n2 hlong (by rw [List.size_toArray]; exact Nat.le_trans (Nat.le_add_right _ _) hsz) (by exact Nat.le_succ_of_le hsz)) ⟨e, e2, ?_⟩
  refine ⟨.non, _, I.lset (its' := its ++ its2) hH e (by simp) (r.append r2) ?_, rfl, q⟩
  rw [List.length_append]
  exact hz
inductive rPop_ (x : V) (vs : List V) (H : Hp) (Q : VK) : Prop where
  | mk (l) (xs) (y) : (x = .ref l) → (vs = []) → (H l = some (.lst xs)) → (xs[xs.length - 1]? = some y) → (Q y (upd H l (.lst xs.dropLast))) → rPop_ x vs H Q
def rPop : V → List V → Hp → VK → Prop := rPop_
theorem mt_pop : MtM X "list.pop" rPop := by
  intro pins s σ H x vs v us Q I rx rv h
  obtain ⟨l, xs, y, rfl, rfl, hH, hy, q⟩ := h
  cases rx
  have hus := rv.zero
  subst hus
  obtain ⟨z, its, n, r, hl, e⟩ := I.lstM hH
  obtain ⟨u, hu, ru⟩ := r.get hy
  have hy' : its.toArray[its.toArray.size - 1]? = some u := by
    show its.toArray[its.length - 1]? = some u
    rw [← Array.getElem?_toList, ← hl]
    exact hu
  refine call_meets F.slot_list_pop ⟨_, e, rfl⟩ F.entry_list_pop (F.args_list_pop_1 _) (MeetsSeq.list_pop_last l its.toArray n u hy' (by rw [List.size_toArray]; omega)) ⟨e, ?_⟩
  refine ⟨y, _, I.lset (its' := its.dropLast) hH e ?_ r.dropLast ?_, ru, q⟩
  · show its.toArray.eraseIdxIfInBounds (its.toArray.size - 1) = its.dropLast.toArray
    rw [List.size_toArray, List.eraseIdxIfInBounds_toArray, erase_last]
  · rw [List.length_dropLast]
    omega
def rPopAt : V → List V → Hp → VK → Prop := fun x vs H Q => ∃ l xs i k y, x = .ref l ∧ vs = [.int i] ∧ H l = some (.lst xs) ∧ -(2 ^ 63) ≤ i ∧ i < 2 ^ 63 ∧ seqIndex? i xs.length = some k ∧ xs[k]? = some y ∧ Q y (upd H l (.lst (xs.eraseIdx k)))
theorem mt_popAt : MtM X "list.pop" rPopAt := by
  intro pins s σ H x vs v us Q I rx rv h
  obtain ⟨l, xs, i, k, y, rfl, rfl, hH, h1, h2, hk, hy, q⟩ := h
  cases rx
  obtain ⟨u, rfl, ru⟩ := rv.one
  obtain ⟨t, rfl⟩ := ru
  obtain ⟨z, its, n, r, hl, e⟩ := I.lstM hH
  obtain ⟨w, hw, rw'⟩ := r.get hy
  refine call_meets F.slot_list_pop ⟨_, e, rfl⟩ F.entry_list_pop (F.args_list_pop_2 _ _)
    (MeetsSeq.list_pop_at l its.toArray n i t k w (fitsIndex_both h1 h2) (by rw [List.size_toArray, ← hl]; exact hk) (by rw [← Array.getElem?_toList]; exact hw) (by rw [List.size_toArray]; omega)) ⟨e, ?_⟩
  refine ⟨y, _, I.lset (its' := its.eraseIdx k) hH e ?_ (r.eraseIdx k) ?_, rw', q⟩
  · show its.toArray.eraseIdxIfInBounds k = (its.eraseIdx k).toArray
    rw [List.eraseIdxIfInBounds_toArray]
  · have := len_erase xs k
    exact Nat.le_trans this z
inductive rReverse_ (x : V) (vs : List V) (H : Hp) (Q : VK) : Prop where
  | mk (l) (xs) : (x = .ref l) → (vs = []) → (H l = some (.lst xs)) → (Q .non (upd H l (.lst xs.reverse))) → rReverse_ x vs H Q
inductive rCat_ (x : V) (y : V) (H : Hp) (Q : VK) : Prop where
  | mk (l) (b) (xs) (zs) : (x = .ref l) → (y = .ref b) → (H l = some (.lst xs)) → (H b = some (.lst zs)) → (xs.length + zs.length ≤ sizeLine) → (∀ p, H p = none → Q (.ref p) (upd H p (.lst (xs ++ zs)))) → rCat_ x y H Q
def rCat : R2 := rCat_
theorem op_cat : OpR X (binaryOp .Add) rCat := by
  intro pins s σ H x y v u Q I rx ry h
  obtain ⟨l, b, xs, zs, rfl, rfl, hH, hB, hz, q⟩ := h
  cases rx
  cases ry
  obtain ⟨z, its, n, r, hl, e⟩ := I.lstM hH
  obtain ⟨z2, its2, n2, r2, hl2, e2⟩ := I.lstM hB
  refine PySem.P.add_list e e2 ?_ (by rw [List.size_toArray, List.size_toArray]; omega)
  have ea : its.toArray ++ its2.toArray = (its ++ its2).toArray := by simp
  rw [ea]
  exact ⟨.ref _, _, I.lnew (t' := s.toks) (r.append r2) (by rw [List.length_append]; exact hz), rfl, q _ I.fresh⟩
inductive rRep_ (x : V) (y : V) (H : Hp) (Q : VK) : Prop where
  | mk (l) (k) (xs) : (x = .ref l) → (y = .int k) → (H l = some (.lst xs)) → (-(2 ^ 63) ≤ k) → (k < 2 ^ 63) → (xs.length * k.toNat ≤ sizeLine) → (∀ p, H p = none → Q (.ref p) (upd H p (.lst (List.replicate k.toNat xs).flatten))) → rRep_ x y H Q
def rRep : R2 := rRep_
theorem len_rep {α : Type} (xs : List α) (k : Nat) : (List.replicate k xs).flatten.length = k * xs.length := by
  induction k with
  | zero => simp
  | succ k ih => rw [List.replicate_succ, List.flatten_cons, List.length_append, ih, Nat.succ_mul, Nat.add_comm]
theorem op_rep : OpR X (binaryOp .Mult) rRep := by
  intro pins s σ H x y v u Q I rx ry h
  obtain ⟨l, k, xs, rfl, rfl, hH, h1, h2, hz, q⟩ := h
  cases rx
  obtain ⟨t, rfl⟩ := ry
  obtain ⟨z, its, n, r, hl, e⟩ := I.lstM hH
  have hlen : its.toArray.size * k.toNat ≤ sizeLine := by rw [List.size_toArray, ← hl]; exact hz
  have hcap : ¬ its.toArray.size * k.toNat > (2 ^ 63 - 1) / 8 := by
    have : (sizeLine : Nat) ≤ (2 ^ 63 - 1) / 8 := by decide
    omega
  have hfit : ¬ (!Builtin.List.listFitsIndex k) = true := by
    rw [fitsIndex_both h1 h2]
    exact Bool.false_ne_true
  have hlong : ¬ Builtin.List.listTooLong (its.toArray.size * k.toNat) = true := by
    rw [notLongL hlen]
    exact Bool.false_ne_true
  have hnew : List.foldl (fun x1 x2 => x1 ++ x2) #[] (List.replicate (if its.toArray.isEmpty = true then 0 else k.toNat) its.toArray) = (List.replicate k.toNat its).flatten.toArray := by
    have f0 : ∀ m : Nat, List.foldl (fun x1 x2 => x1 ++ x2) #[] (List.replicate m its.toArray) = (List.replicate m its).flatten.toArray := fun m => by
      have := foldl_rep its m []
      rw [List.nil_append] at this
      exact this
    rw [f0]
    cases its with
    | nil => simp
    | cons a r' => rw [if_neg (by simp)]
  refine wpAny_binaryOp_repeat_ref (T := "list") (U := "int") (by decide) ⟨_, e, rfl⟩ (fun s' => typeIs_int s' k t) noFill_list_mul F.fills_int_mul F.slot_int_rmul repeat_list F.slot_int_index.lookup
    (call_meets F.slot_int_rmul (typeIs_int s k t) F.entry_int_rmul (F.args_int_rmul_2 _ _) (int___rmul___int_list k t l its.toArray n)
      ⟨e, rfl, ⟨_, e, rfl⟩, call_meets F.slot_list_mul ⟨_, e, rfl⟩ F.entry_list_mul (F.args_list_mul_2 _ _) (AutoListH.list___mul___list_int_3 l its.toArray n k t hfit hcap hlong) ⟨e, ?_⟩⟩)
  rw [hnew]
  exact ⟨.ref _, _, I.lnew (t' := s.toks) (r.rep k.toNat) (by rw [len_rep, Nat.mul_comm]; exact hz), rfl, q _ I.fresh⟩
end
section
variable {prog : Program} {w : World} {A : Around} {E : Value → Shared → Prop} {s : Shared}
end
section
variable {X : Cx}
end
end L2
namespace Att
open PySem PySem.W PySem.Calls PyProof.Rows
theorem ints_of_wellAll {P : Params} {h : Heap} : ∀ (ns : List Int) (vs : List Value), WellAll P h vs (ns.map WData.int) → IntsAre vs ns := by
  intro ns
  induction ns with
  | nil =>
    intro vs w
    rw [List.map_nil] at w
    cases w
    exact .nil
  | cons n ns ih =>
    intro vs w
    rw [List.map_cons] at w
    cases w with
    | cons a b =>
      cases a
      exact .cons _ _ (ih _ b)
theorem script_of {l : OpenLaw} {n : Nat} (hn : l.most = some n) {P : Params} {h : Heap} {args : List WData} {vals : List Value}
    (hpre : l.row.toRowW.claim.pre args = true) (hwl : WellAll P h vals args) :
    ∃ a vs ns, vals = [Value.ref a] ∧ args = [WData.list (ns.map WData.int)] ∧ h.get? a = some { cls := .type "list", data := .seq vs.toArray } ∧ IntsAre vs ns ∧ ns.length ≤ n := by
  have hsh : WShape.hasAll [] args [.list .int] = true := (pre_splitW hpre).1
  have hc : l.pre.holds [] { args := args } = true := (pre_splitW hpre).2
  obtain ⟨d, r, rfl, h1, h2⟩ := hasAllW_cons hsh
  obtain rfl := hasAllW_nil h2
  obtain ⟨xs, rfl, h3⟩ := hasW_list h1
  obtain ⟨ns, rfl⟩ := items_int h3
  have hlen : ns.length ≤ n := by
    unfold OpenLaw.pre at hc
    have h4 : (WTm.not (.lt (.lit (.int (n : Int))) (.len (.arg 0)))).holds [] { args := [.list (ns.map .int)] } = true := by
      have h4 := (holds_andW hc).1
      rw [hn] at h4
      exact h4
    have h5 := condW_of h4 (w_not (w_lt w_lit (w_len_list (w_arg rfl))))
    rw [List.length_map] at h5
    refine Nat.le_of_not_lt fun q => ?_
    have q' : (n : Int) < ((ns.length : Nat) : Int) := by omega
    first
      | (rw [decide_eq_true q'] at h5; exact absurd h5 (by decide))
      | (simp at h5; omega)
  cases hwl with
  | cons w1 w2 =>
    cases w2
    cases w1 with
    | list ho hall => exact ⟨_, _, ns, rfl, rfl, ho, ints_of_wellAll ns _ hall, hlen⟩
theorem post_true (l : OpenLaw) (args : List WData) : l.row.toRowW.claim.post args (.bool true) args = true :=
  postW_of (r := l.row.toRowW) (X := (true == true))
    (show WShape.has [] (.bool true) .bool = true by first | rfl | decide | simp [WShape.has, WShape.arms, WShape.armsAll])
    (show (WTm.eq .res (.lit (.bool true))).value [] { args := args, res := some (.bool true), after := args } = some (.bool (true == true)) from w_eq_bool (w_res rfl) w_lit) rfl
theorem attach_call {l : OpenLaw} {n : Nat} {q : Program} {loose : List Str} {XP : (Str → Option Value) → Heap → Prop} {YP : World → Heap → Prop} {d : DefRec}
    (hn : l.most = some n) (hdf : d.params.defaults = [])
    (call : ∀ (w : World) (s₀ s₁ : Shared) (mg mb : Str → Option Value) (fa : Addr) (o : Obj) (pm cd doc : Value) (a : Addr) (vs : List Value) (ns : List Int),
      Ground q loose [] XP w s₀ mg mb s₁.heap → YP w s₁.heap →
      s₁.heap.get? fa = some o → o.data = .func (docDef d.name d.params d.body d.scope pm cd doc) → s₁.heap.CodeRec cd d.name → mg d.name = some (.ref fa) →
      s₁.heap.get? a = some { cls := .type "list", data := .seq vs.toArray } → IntsAre vs ns → ns.length ≤ n → s₁.gens = #[] →
      codeAny (model l.prog w) callerA (.call (.ref fa) ⟨[.ref a], []⟩) (fun r s' => r = .ok (.ret (.bool true)) ∧ OldK s₁.heap s'.heap ∧ s'.os = s₁.os ∧ AllBare s'.gens) s₁) :
    WalkO q loose XP YP l.row.toRowW d [] (fun f vs => PySem.call f vs) := by
  intro w s₀ s₁ mg mb G Y fa o pm cd doc dV kV ho hd hcd hD hmg hg args vals as hpre hlay hrd hwl hlo
  obtain rfl : dV = .none := Dflts.none hD hdf
  obtain rfl : kV = .none := Dflts.noKw hD
  obtain ⟨a, vs, ns, rfl, rfl, hobj, hints, hlen⟩ := script_of hn hpre hwl
  refine enter_call (codeAny_mono (call w s₀ s₁ mg mb fa o pm cd doc a vs ns G Y ho (fd_plain hd) hcd hmg hobj hints hlen hg) fun r s' hq => ?_)
  obtain ⟨rfl, h2, h3, h4⟩ := hq
  exact ⟨.inl ⟨.bool true, .bool true, [], rfl, fun _ => rfl, .bool true, post_true l _, fun _ => ⟨List.Pairwise.nil, fun _ hm => (nomatch hm)⟩⟩, h2, h3, h4⟩
section
variable {prog : Program} {w : World} {A : Around} {E : Value → Shared → Prop} {s : Shared} {K : Frag}
end
end Att
namespace L2
open PySem PySem.Spec PyProof.Rows
theorem vals_ints : ∀ {vs : List Value} {ns : List Int}, IntsAre vs ns → Vals (ns.map V.int) vs
  | _, _, .nil => .nil
  | _, _, .cons n t h => .cons ⟨t, rfl⟩ (vals_ints h)
def Only (H : Hp) : Prop := ∀ b, H b = none ∨ ∃ o xs, H b = some (.frz o (.lst xs))
theorem law_call {P : Program} {w : World} {K : PySem.W.Frag} {mg mb : Str → Option Value} {CX : CXT} {k : Nat} {fa a : Addr} {fd : FuncData} {x : Str} {sp : Sp} {s₁ : Shared} {vs : List Value} {ns : List Int}
    (KX : K.In s₁.heap) (hns : s₁.heap.Ns mainGlobals mg) (hb : s₁.heap.Ns builtinsNs mb) (hbb : ∀ x : Str, x ≠ "__name__" → mb x = bootBuiltins x) (hlim : s₁.heap.NoLimit) (hg : s₁.gens = #[])
    (ha : s₁.heap.get? a = some { cls := .type "list", data := .seq vs.toArray }) (hi : IntsAre vs ns) (hl : ns.length ≤ sizeLine) (hr : Room k callerA)
    (F : ∀ base : Heap, K.In base → base.Ns mainGlobals mg → FnOk P w K mg base CX k fa fd [x] sp) (hbind : ∀ (s : Shared) (u : Value), BindsTo s fd ⟨[u], []⟩ [(x, u)])
    (hsp : ∀ H : Hp, Only H → SqL K H a (ns.map V.int) → sp [.ref a] H (fun v _ => v = .bl true) fun _ _ _ => False)
    (hCX : ∀ H e s', CX [] H s₁ (fun _ _ _ => False) e s' → False) :
    codeAny (model P w) callerA (.call (.ref fa) ⟨[.ref a], []⟩) (fun r s' => r = .ok (.ret (.bool true)) ∧ OldK s₁.heap s'.heap ∧ s'.os = s₁.os ∧ AllBare s'.gens) s₁ := by
  have rv := vals_ints hi
  have lenV := hi.length
  have core : ∀ H : Hp, Only H → SqL K H a (ns.map V.int) → HOk P w H s₁.heap → (∀ b, H b ≠ none → b = a) → (H a ≠ none → K.lookup a = none) →
      codeAny (model P w) callerA (.call (.ref fa) ⟨[.ref a], []⟩) (fun r s' => r = .ok (.ret (.bool true)) ∧ OldK s₁.heap s'.heap ∧ s'.os = s₁.os ∧ AllBare s'.gens) s₁ := by
    intro H hO hS hok hA hK
    have base_of : ∀ {b : Addr} {o : Obj}, s₁.heap.get? b = some o → H b = none → (hidT s₁.heap H).get? b = some o := fun e n => hidT_get e n
    have noA : ∀ {b : Addr} {o : Obj} {es : Array DictEntry} {ep : Nat}, s₁.heap.get? b = some o → o.data = .dict es ep → H b = none := fun {b o es ep} e d => by
      cases q : H b with
      | none => rfl
      | some u =>
        have e' : b = a := hA b (by rw [q]; simp)
        subst e'
        rw [ha] at e; cases e
        have d' : Data.seq vs.toArray _ = Data.dict es ep := d
        cases d'
    have nsK : ∀ {b : Addr} {m : Str → Option Value}, s₁.heap.Ns b m → (hidT s₁.heap H).Ns b m := fun {b m} ⟨o, es, ep, e, d, r⟩ => ⟨o, es, ep, base_of e (noA e d), d, r⟩
    have hKb : K.In (hidT s₁.heap H) := fun b o e => base_of (KX b o e) (by
      cases q : H b with
      | none => rfl
      | some u =>
        have e' : b = a := hA b (by rw [q]; simp)
        subst e'
        rw [hK (by rw [q]; simp)] at e; cases e)
    have hM : Mod K mg (hidT s₁.heap H) := ⟨hKb, nsK hns, ⟨mb, nsK hb, hbb⟩, let ⟨mc, h1, h2⟩ := hlim; ⟨mc, nsK h1, h2⟩⟩
    have e0 : Env0 P w K mg (hidT s₁.heap H) callerA [] s₁ H := ⟨rfl, hM, fun b o e => of_hidT e, Nat.le_of_eq (hidT_size _ _), trivial, fun b hb => absurd (show b ∈ ([] : List Addr) from hb) (by simp), hok, .of_eq hg⟩
    refine codeAny_mono ((F _ hKb (nsK hns)).run callerA [] s₁ H ⟨[.ref a], []⟩ [.ref a] [.ref a] _ _ hr e0 (hbind s₁ (.ref a)) (.cons rfl .nil) (hsp H hO hS)) fun r s' h => ?_
    cases r with
    | error e => exact (hCX H e s' h).elim
    | ok fl =>
      cases fl with
      | next => exact False.elim h
      | brk => exact False.elim h
      | cont => exact False.elim h
      | ret u =>
        obtain ⟨v, H', os, bare, un, hok', r', q⟩ := h
        have q' : v = .bl true := q
        subst q'
        obtain rfl : u = Value.bool true := r'
        refine ⟨rfl, OldK.of_keep fun b o e => ?_, os, bare⟩
        cases q : H b with
        | none => exact un.keep b o e q (by intro z; exact absurd (show b ∈ ([] : List Addr) from z) (by simp)) (by simp)
        | some u =>
          rcases hO b with z | ⟨ob, xs, z⟩
          · rw [q] at z; cases z
          · have z2 := un.frzs b ob _ z
            obtain ⟨e1, _⟩ := hok b _ z
            obtain ⟨e2, _⟩ := hok' b _ z2
            rw [e] at e1; cases e1
            exact e2
  cases hk : K.lookup a with
  | some o =>
    have e := KX a o hk
    rw [ha] at e
    cases e
    refine core (fun _ => none) (fun _ => .inl rfl) (.inr ⟨_, vs.toArray, _, hk, rfl, rfl, rfl, by rw [List.size_toArray, lenV]; exact hl, by simpa using rv⟩) (fun b u z => by have z' : (none : Option HO) = some u := z; cases z') (fun b z => absurd rfl z) fun z => absurd rfl z
  | none =>
    refine core (fun b => if b = a then some (.frz { cls := .type "list", data := .seq vs.toArray } (.lst (ns.map V.int))) else none) (fun b => ?_) (.inl (.inr ⟨{ cls := .type "list", data := .seq vs.toArray }, if_pos rfl⟩)) (fun b u z => ?_) (fun b z => ?_) fun _ => hk
    · by_cases hb : b = a
      · exact .inr ⟨_, _, if_pos hb⟩
      · exact .inl (if_neg hb)
    · by_cases hb : b = a
      · have z' := (if_pos hb).symm.trans z
        cases z'
        subst hb
        exact ⟨ha, by rw [List.length_map]; exact hl, vs, _, rv, ha⟩
      · have z' := (if_neg hb).symm.trans z
        cases z'
    · by_cases hb : b = a
      · exact hb
      · exact absurd (if_neg hb) z
end L2
namespace L2
open PySem PySem.Spec PyProof.Rows
theorem walk_of {l : PySem.W.OpenLaw} {n k : Nat} {q : Program} {loose : List Str} {XP : (Str → Option Value) → Heap → Prop} {YP : World → Heap → Prop} {d : DefRec} {K : Params → PySem.W.Frag} {CX : World → CXT} {sp : World → Sp} {x : Str}
    (hn : l.most = some n) (hn2 : n ≤ sizeLine) (hdf : d.params.defaults = []) (hr : Room k callerA)
    (hY : ∀ (w : World) (h : Heap), YP w h → (K w.params).In h)
    (F : ∀ (w : World) (mg : Str → Option Value) (fa : Addr) (h : Heap), (K w.params).In h → h.Ns mainGlobals mg → mg d.name = some (.ref fa) →
      ∃ fd : FuncData, (∀ (s : Shared) (u : Value), BindsTo s fd ⟨[u], []⟩ [(x, u)]) ∧
        ∀ base : Heap, (K w.params).In base → base.Ns mainGlobals mg → FnOk l.prog w (K w.params) mg base (CX w) k fa fd [x] (sp w))
    (hsp : ∀ (w : World) (H : Hp) (a : Addr) (ns : List Int), ns.length ≤ n → Only H → SqL (K w.params) H a (ns.map V.int) → sp w [.ref a] H (fun v _ => v = .bl true) fun _ _ _ => False)
    (hCX : ∀ (w : World) (H : Hp) (s : Shared) (e : Value) (s' : Shared), CX w [] H s (fun _ _ _ => False) e s' → False) :
    PySem.W.WalkO q loose XP YP l.row.toRowW d [] (fun f vs => PySem.call f vs) := by
  refine Att.attach_call hn hdf fun w s₀ s₁ mg mb fa o pm cd doc a vs ns G Y ho hd hcd hmg hobj hints hlen hg => ?_
  have KX := hY w _ Y
  obtain ⟨fd, hb, hF⟩ := F w mg fa _ KX G.T.g hmg
  exact law_call KX G.T.g G.T.b G.T.builtins G.T.nolimit hg hobj hints (Nat.le_trans hlen hn2) hr hF hb (fun H hO hS => hsp w H a ns hlen hO hS) fun H e s' => hCX w H s₁ e s'
end L2
namespace L2
open PySem PySem.Spec PyProof.Rows
def defArgs (s : Stmt) : Arguments := match s with
  | .FunctionDef _ a _ _ _ _ _ _ _ _ => a
  | _ => { posonlyargs := [], args := [], vararg := none, kwonlyargs := [], kw_defaults := [], kwarg := none, defaults := [] }
def defBody (s : Stmt) : List Stmt := match s with
  | .FunctionDef _ _ b _ _ _ _ _ _ _ => b
  | _ => []
def defScope (s : Stmt) : Scope := match s with
  | .FunctionDef _ _ _ _ _ _ sc _ _ _ => sc
  | _ => { kind := .function, names := [], isGenerator := false, isCoroutine := false }
abbrev CX0 : CXT := fun _ _ _ _ _ _ => False
abbrev E0 : XK := fun _ _ _ => False
theorem pass0 {X : Cx} : Passes CX0 X E0 := fun _ _ _ _ _ _ _ h => h.elim
structure Fun (K : PySem.W.Frag) (x qual : Str) (st : Stmt) (f : Addr) (fd : FuncData) : Prop where
  ex : ∃ (oc : Value) (od : Option Addr) (kV doc pm : Value) (an : Option Addr) (cdv ct : Value) (osl : Array (Option Value)),
    fd = PySem.W.fnOf x qual (defArgs st) (defBody st) (defScope st) .none kV doc pm an cdv ct ∧ K.lookup f = some ⟨oc, od, .func fd, osl⟩ ∧ PySem.W.codeIn K cdv qual = true
  kp : PySem.W.keepIn K (.ref f) = true
section
variable {P : Program} {w : World} {K : PySem.W.Frag} {mg : Str → Option Value} {base : Heap}
theorem Fun.ok {x qual : Str} {st : Stmt} {f : Addr} {fd : FuncData} {N ps : List Str} {k : Nat} {sp : Sp} (F : Fun K x qual st f fd) (S : FnScope N ps (defScope st))
    (hbody : ∀ (cdv : Value) (A : Around) (outer : List Env) (s : Shared) (H : Hp) (vs : List V) (Q : VK) (E : XK), Room k (A.deeper (envOfC qual (defScope st) s.heap.objs.size f cdv)) → sp vs H Q E →
      ∃ t, PSs (cxOf CX0 P w K mg base N qual (defScope st) f cdv A outer s H E).nox (defBody st) t ∧ t (Ends.of Q) (start N vs) H) (len : ∀ vs H Q E, sp vs H Q E → vs.length = ps.length := by rintro _ _ _ _ ⟨⟩; subst_vars; rfl) : FnOk P w K mg base CX0 (k + 1) f fd ps sp := by
  obtain ⟨oc, od, kV, doc, pm, an, cdv, ct, osl, rfl, lk, hcd⟩ := F.ex
  refine fn_of lk hcd S len fun A outer s H vs Q E hr hsp => ?_
  obtain ⟨t, h, q⟩ := hbody cdv A outer s H vs Q E hr hsp
  exact ⟨t, h.nox, q⟩
theorem Fun.binds {x qual : Str} {st : Stmt} {f : Addr} {fd : FuncData} {ps : List Str} (F : Fun K x qual st f fd)
    (h : ∀ (kV doc pm : Value) (an : Option Addr) (cdv ct : Value) (us : List Value), us.length = ps.length → bindArgs (PySem.W.fnOf x qual (defArgs st) (defBody st) (defScope st) .none kV doc pm an cdv ct) ⟨us, []⟩ = pure (ps.zip us)) : Binds K fd ps [] := by
  obtain ⟨oc, od, kV, doc, pm, an, cdv, ct, osl, rfl, lk, hcd⟩ := F.ex
  exact .all (h kV doc pm an cdv ct)
theorem fun_mk {x qual : Str} {st : Stmt} {f : Addr} {oc : Value} {od an : Option Addr} {osl : Array (Option Value)} {kV doc pm cdv ct : Value} (l : K.lookup f = some ⟨oc, od, .func (PySem.W.fnOf x qual (defArgs st) (defBody st) (defScope st) .none kV doc pm an cdv ct), osl⟩)
    (c : PySem.W.codeIn K cdv qual = true) (k : PySem.W.keepIn K (.ref f) = true) : Fun K x qual st f (PySem.W.fnOf x qual (defArgs st) (defBody st) (defScope st) .none kV doc pm an cdv ct) := ⟨⟨oc, od, kV, doc, pm, an, cdv, ct, osl, rfl, l, c⟩, k⟩
end
section
variable {X : Cx}
theorem pv (i : Nat) {x : Str} {pos : Pos} (hN : X.N[i]? = some x := by rfl) (hv : Vis X.env.scope x := by first | exact Or.inl rfl | exact Or.inr (Or.inl rfl) | exact Or.inr (Or.inr rfl)) (hd : (x == ("__debug__" : Str)) = false := by decide)
    (hcd : (x == ("__classdict__" : Str)) = false := by decide) : PE X (.Name x pos) (tVar i) := pe_var hN hv hd hcd
end
theorem iteF {A B : Prop} (h : B) : if false = true then A else B := by
  rw [if_neg Bool.false_ne_true]
  exact h
theorem iteT {A B : Prop} (h : A) : if true = true then A else B := by
  rw [if_pos rfl]
  exact h
theorem ite2 {c A B : Prop} [Decidable c] (h1 : c → A) (h2 : ¬ c → B) : if c then A else B := by
  by_cases h : c
  · rw [if_pos h]
    exact h1 h
  · rw [if_neg h]
    exact h2 h
def Same (H H' : Hp) : Prop := ∀ b o, H b = some o → H' b = some o
theorem Same.refl (H : Hp) : Same H H := fun _ _ h => h
theorem Same.trans {H H1 H2 : Hp} (a : Same H H1) (b : Same H1 H2) : Same H H2 := fun c o h => b c o (a c o h)
theorem Same.free {H H' : Hp} (e : Same H H') {l : Addr} (h : H' l = Option.none) : H l = Option.none := by
  cases q : H l with
  | none => rfl
  | some o =>
    rw [e l o q] at h
    cases h
theorem Same.seq {K : PySem.W.Frag} {H H' : Hp} {a : Addr} {xs : List V} (e : Same H H') (h : SqL K H a xs) : SqL K H' a xs := by
  rcases h with (h | ⟨o, h⟩) | h
  · exact .inl (.inl (e _ _ h))
  · exact .inl (.inr ⟨o, e _ _ h⟩)
  · exact .inr h
end L2
set_option Elab.async false
set_option linter.all false
set_option maxRecDepth 100000
namespace L2
open PySem PySem.Spec PyProof.Rows
def closL (cells : List (Str × Addr)) : List (Str × NameKind) → List (Str × Addr) → List (Str × Addr)
  | [], acc => acc
  | (n, k) :: r, acc => if k == .free then (match cells.lookup n with | some c => closL cells r ((n, c) :: acc) | none => closL cells r acc) else closL cells r acc
theorem closL_forIn {env : Env} : ∀ (names : List (Str × NameKind)) (acc : List (Str × Addr)), (∀ p ∈ names, p.2 = .free → ∃ c, env.cells.lookup p.1 = some c) →
    (forIn names acc fun (x : Str × NameKind) (r : List (Str × Addr)) => (if (x.2 == NameKind.free) = true then (do let a ← cellOf env x.1; pure (ForInStep.yield ((x.1, a) :: r))) else pure (ForInStep.yield r) : Sem (ForInStep (List (Str × Addr))))) = pure (closL env.cells names acc) := by
  intro names
  induction names with
  | nil => intro acc _; rfl
  | cons p r ih =>
    intro acc h
    obtain ⟨n, k⟩ := p
    rw [List.forIn_cons]
    cases hk : k == NameKind.free with
    | false =>
      simp only [hk, Bool.false_eq_true, if_false, pure_bind, closL]
      exact ih acc fun q hq => h q (List.mem_cons_of_mem _ hq)
    | true =>
      have e : k = .free := by simpa using hk
      obtain ⟨c, hc⟩ := h (n, k) List.mem_cons_self e
      simp only [hk, if_true, closL, cellOf, hc, pure_bind]
      exact ih _ fun q hq => h q (List.mem_cons_of_mem _ hq)
theorem closL_eq {scope : Scope} {env : Env} (h : ∀ p ∈ scope.names, p.2 = .free → ∃ c, env.cells.lookup p.1 = some c) : closureFor scope env = pure (closL env.cells scope.names []) := by
  have q := closL_forIn (env := env) scope.names [] h
  simp only [closureFor]
  first
    | exact q
    | (rw [← q]; simp)
    | simpa using q
theorem closL_look {cells : List (Str × Addr)} : ∀ (names : List (Str × NameKind)) (acc : List (Str × Addr)) (y : Str) (c : Addr), (closL cells names acc).lookup y = some c → cells.lookup y = some c ∨ acc.lookup y = some c := by
  intro names
  induction names with
  | nil => intro acc y c h; exact .inr h
  | cons p r ih =>
    intro acc y c h
    obtain ⟨n, k⟩ := p
    unfold closL at h
    split at h
    · split at h
      · rename_i c' hc
        rcases ih _ y c h with q | q
        · exact .inl q
        · rw [List.lookup_cons] at q
          cases e : y == n with
          | true =>
            rw [e] at q
            have e' : y = n := by simpa using e
            subst e'
            have q' : some c' = some c := q
            rw [← q']; exact .inl hc
          | false => rw [e] at q; exact .inr q
      · exact ih _ y c h
    · exact ih _ y c h
theorem closL_acc {cells : List (Str × Addr)} : ∀ (names : List (Str × NameKind)) (acc : List (Str × Addr)) (y : Str), (∃ c, acc.lookup y = some c) → ∃ c, (closL cells names acc).lookup y = some c := by
  intro names
  induction names with
  | nil => intro acc y h; exact h
  | cons p r ih =>
    intro acc y h
    obtain ⟨n, k⟩ := p
    unfold closL
    split
    · split
      · refine ih _ y ?_
        rw [List.lookup_cons]
        cases e : y == n with
        | true => exact ⟨_, rfl⟩
        | false => exact h
      · exact ih _ y h
    · exact ih _ y h
theorem closL_has {cells : List (Str × Addr)} : ∀ (names : List (Str × NameKind)) (acc : List (Str × Addr)) (y : Str), (y, NameKind.free) ∈ names → (∃ c, cells.lookup y = some c) → ∃ c, (closL cells names acc).lookup y = some c := by
  intro names
  induction names with
  | nil => intro acc y h _; cases h
  | cons p r ih =>
    intro acc y h hc
    obtain ⟨n, k⟩ := p
    unfold closL
    rcases List.mem_cons.mp h with e | h
    · cases e
      obtain ⟨c, hc⟩ := hc
      simp only [beq_self_eq_true, if_true, hc]
      exact closL_acc _ _ _ ⟨c, by rw [List.lookup_cons, beq_self_eq_true]⟩
    · split
      · split
        · exact ih _ y h hc
        · exact ih _ y h hc
      · exact ih _ y h hc
def cxComp (X : Cx) (N' : List Str) (scope : Scope) (C : Addr) (s₀ : Shared) (H₀ : Hp) (ex : List Addr) : Cx :=
  { X with N := N', s₀ := s₀, H₀ := H₀, env := compEnvC scope (closL X.env.cells scope.names []) C X.env, outer := X.stack, stack := X.stack, ex := ex, fn := fun _ => false, xe := fun _ _ => False }
def cxCompE (X : Cx) (N' : List Str) (scope : Scope) (C : Addr) (s₀ : Shared) (H₀ : Hp) (ex : List Addr) (XE : Addr → Shared → Hp → List Addr → Value → Shared → Prop) : Cx := { cxComp X N' scope C s₀ H₀ ex with xe := XE C s₀ H₀ ex }
def noX : Addr → Shared → Hp → List Addr → Value → Shared → Prop := fun _ _ _ _ _ _ => False
theorem cxE_no (X : Cx) (N' : List Str) (scope : Scope) (C : Addr) (s₀ : Shared) (H₀ : Hp) (ex : List Addr) : cxCompE X N' scope C s₀ H₀ ex noX = cxComp X N' scope C s₀ H₀ ex := rfl
def PTs (X : Cx) (ifs : List Expr) (t : TT) : Prop :=
  ∀ (pins : List (Addr × Obj)) (s : Shared) (σ : St) (H : Hp) (Q : Bool → Hp → Prop), Inv X pins σ H s → t σ H Q →
    wpAny (model X.prog X.w) X.A (forIn ifs true fun c r => if r = true then do let ok ← isTrue c X.env (eval c X.env); pure (ForInStep.yield ok) else pure (ForInStep.yield r)) (TP X pins σ Q) X.xe s
def tTrue : TT := fun _ H Q => Q true H
theorem pts_nil {X : Cx} : PTs X [] tTrue := fun _ _ _ H _ I h => wpAny_tests_nil ⟨H, I, h⟩
theorem pts_one {X : Cx} {c : Expr} {t : TT} (h : PT X c t) : PTs X [c] t := fun pins s σ H Q I q => wpAny_tests_one (h pins s σ H Q I q)
section
variable {prog : Program} {w : World} {A : Around} {R : Result → Shared → Prop} {s : Shared}
theorem compLoop_go {elt target iter : Expr} {ifs : List Expr} {scope : Scope} {pos : Pos} {it acc : Value} {env : Env} (I : Nat → Shared → Prop) (E' : Value → Shared → Prop) (hE : ∀ e s, E' e s → notedBy (model prog w) A env (fun x s' => R (.error x) s') e s)
    (turn : ∀ n s, I n s → wpAny (model prog w) A (pyNext it) (fun r s₁ => match r with
      | none => R (.ok .next) s₁
      | some v => wpAny (model prog w) A (letOwnedTupleGo target it v) (fun _ s₀ => wpAny (model prog w) A (assign target env v) (fun _ s₂ =>
          wpAny (model prog w) A (forIn ifs true fun c r => if r = true then do let ok ← isTrue c env (eval c env); pure (ForInStep.yield ok) else pure (ForInStep.yield r)) (fun ok s₃ =>
            if ok = true then wpAny (model prog w) A (eval elt env) (fun x s₄ =>
              wpAny (model prog w) A (call (.builtin "list.append") [acc, x]) (fun _ s₅ => ∃ m, m < n ∧ I m s₅) E' s₄) E' s₃
            else ∃ m, m < n ∧ I m s₃) E' s₂) E' s₀) E' s₁) E' s)
    (n : Nat) (h : I n s) :
    codeAny (model prog w) A (.compLoop (.ListComp elt [⟨target, iter, ifs, 0⟩] scope pos) 0 it acc env) R s := by
  refine codeAny_loop rfl I (fun n s hI => ?_) n h
  show wpAny _ A ((compTurn (.ListComp elt [⟨target, iter, ifs, 0⟩] scope pos) 0 it acc env).onRaise (fun x => do noteFrame x env; theTreesLotGoes x)) _ _ s
  refine wpAny_noted ?_
  rw [compTurn_list]
  refine wpAny_bind (wpAny_standAt (wpAny_bind (wpAny_mono (turn n s hI) (fun r s₁ h₁ => ?_) hE)))
  cases r with
  | none => exact wpAny_pure h₁
  | some v =>
    refine wpAny_bind (wpAny_mono h₁ (fun _ s₀ h₀ => ?_) hE)
    refine wpAny_bind (wpAny_mono h₀ (fun _ s₂ h₂ => wpAny_bind (wpAny_mono h₂ (fun ok s₃ h₃ => ?_) hE)) hE)
    cases ok with
    | false => exact wpAny_pure ⟨rfl, h₃⟩
    | true =>
      exact wpAny_bind (wpAny_bind (wpAny_mono h₃ (fun x s₄ h₄ => wpAny_bind (wpAny_mono h₄ (fun _ s₅ h₅ => wpAny_pure (wpAny_pure ⟨rfl, h₅⟩)) hE)) hE))
end
structure CompScope (X : Cx) (x : Str) (frees : List Str) (idx : List Nat) (scope : Scope) : Prop where
  kind : scope.kind = .function
  nocell : ∀ y ∈ scope.names, y.2 ≠ .cell
  loc : ∀ y ∈ scope.names, y.2 = .local → scope.names.lookup y.1 = some .local
  tgt : scope.names.lookup x = some .local
  nd : (x :: frees).Nodup
  fr : ∀ y ∈ scope.names, y.2 = .free → X.env.kindOf y.1 = some .cell ∨ X.env.kindOf y.1 = some .free
  ix : ∀ (j : Nat) (y : Str), frees[j]? = some y → ∃ k, idx[j]? = some k ∧ X.N[k]? = some y
  len : idx.length = frees.length
  cl : ∀ y ∈ frees, (y, NameKind.free) ∈ scope.names
def outs (σ : St) (idx : List Nat) : St := idx.map fun k => (σ[k]?).join
def CompW (J : It) (tt : TT) (te : TE) (σ' : St) (Q : VK) (H1 : Hp) : Prop := ∃ W : Nat → Nat → List V → Hp → Prop, (∃ m, W 0 m [] H1) ∧ ∀ i m vs H2, W i m vs H2 →
  vs.length < sizeLine ∧ ((J.stop i H2 ∧ ∀ l, H2 l = none → Q (.ref l) (upd H2 l (.lst vs))) ∨
    (J.go i H2 ∧ ∀ x H3, J.yld i H2 x H3 → tt (some x :: σ') H3 fun b H4 => if b = true then te (some x :: σ') H4 fun v H5 => ∃ m', m' < m ∧ W (i + 1) m' (vs ++ [v]) H5 else ∃ m', m' < m ∧ W (i + 1) m' vs H4))
def tComp (idx : List Nat) (wi : TI) (tt : TT) (te : TE) : TE := fun σ H Q => wi σ H fun J H1 => CompW J tt te (outs σ idx) Q H1
theorem Vals.snoc {xs : List V} {us : List Value} {x : V} {u : Value} (h : Vals xs us) (r : RelV x u) : Vals (xs ++ [x]) (us ++ [u]) := Vals.append h (.cons r .nil)
theorem mem_of_lookup' {α β : Type} [BEq α] [LawfulBEq α] {l : List (α × β)} {x : α} {b : β} (h : l.lookup x = some b) : (x, b) ∈ l := by
  induction l with
  | nil => simp at h
  | cons p r ih =>
    obtain ⟨n, k⟩ := p
    rw [List.lookup_cons] at h
    cases e : x == n with
    | true =>
      rw [e] at h
      have e' : x = n := by simpa using e
      have h' : k = b := Option.some.inj h
      subst e' h'
      exact List.mem_cons_self
    | false => rw [e] at h; exact List.mem_cons_of_mem _ (ih h)
theorem relabel_free {scope : Scope} {env : Env} {y : Str} (h : (relabel scope env).names.lookup y = some .cell ∨ (relabel scope env).names.lookup y = some .free) (hc : ∀ y ∈ scope.names, y.2 ≠ .cell) : (y, NameKind.free) ∈ scope.names := by
  have q : ∃ k, (y, k) ∈ (relabel scope env).names ∧ (k = .cell ∨ k = .free) := by
    rcases h with h | h
    · exact ⟨_, mem_of_lookup' h, .inl rfl⟩
    · exact ⟨_, mem_of_lookup' h, .inr rfl⟩
  obtain ⟨k, hm, hk⟩ := q
  obtain ⟨⟨n, k'⟩, hm', e⟩ := List.mem_map.mp hm
  dsimp only at e
  split at e
  · rename_i hf
    cases e
    have : k' = .free := by
      simp only [Bool.and_eq_true, beq_iff_eq] at hf
      exact hf.1.1
    subst this
    exact hm'
  · cases e
    rcases hk with rfl | rfl
    · exact absurd rfl (hc _ hm')
    · exact hm'
end L2
set_option Elab.async false
set_option linter.all false
set_option maxRecDepth 100000
namespace L2
open PySem PySem.Spec PyProof.Rows
theorem lookup_relabel_free {env : Env} : ∀ {names : List (Str × NameKind)} {x : Str}, names.lookup x = some .free →
    ((names.map fun (n, k) => if (k == NameKind.free && env.scope.kind == .function && env.kindOf n == some .cell) then (n, NameKind.cell) else (n, k)).lookup x = some .cell ∨
     (names.map fun (n, k) => if (k == NameKind.free && env.scope.kind == .function && env.kindOf n == some .cell) then (n, NameKind.cell) else (n, k)).lookup x = some .free)
  | [], _, h => by simp at h
  | (n, k) :: r, x, h => by
    have ih := @lookup_relabel_free env r x
    rw [List.map_cons]
    cases hx : x == n with
    | true =>
      simp only [List.lookup_cons, hx] at h
      have hk : k = .free := Option.some.inj h
      subst hk
      by_cases hc : (NameKind.free == NameKind.free && env.scope.kind == .function && env.kindOf n == some .cell) = true
      · left
        simp only [hc, if_true, List.lookup_cons, hx]
      · right
        simp only [hc, if_false, List.lookup_cons, hx, Bool.false_eq_true]
    | false =>
      simp only [List.lookup_cons, hx] at h
      by_cases hc : (k == NameKind.free && env.scope.kind == .function && env.kindOf n == some .cell) = true
      · simp only [hc, if_true, List.lookup_cons, hx]; exact ih h
      · simp only [hc, if_false, List.lookup_cons, hx, Bool.false_eq_true]; exact ih h
theorem Inv.track {X : Cx} {pins : List (Addr × Obj)} {σ : St} {H : Hp} {s : Shared} {D : Addr} {vs : List V} {its : List Value} {k : Nat} (I : Inv X pins σ H s) (hD : H D = none) (hz : vs.length ≤ sizeLine) (hv : Vals vs its)
    (e : s.heap.get? D = some { cls := .type "list", data := .seq its.toArray k }) (h1 : D ∈ X.ex ∨ X.s₀.heap.objs.size ≤ D) (h2 : D ≠ X.env.locals) (h3 : ∀ x c, X.env.cells.lookup x = some c → c ≠ D) (h4 : ∀ p ∈ X.pn ++ pins, p.1 ≠ D) :
    Inv X pins σ (upd H D (.lst vs)) s := by
  obtain ⟨hh, g, d, t, o⟩ := s
  have nD : ∀ b u, H b = some u → b ≠ D := fun b u q z => by rw [z, hD] at q; cases q
  refine I.step (g' := g) (d' := d) (t' := t) (h' := hh) (ch := [D]) (fun b hb => ?_) (fun b o _ _ _ q _ => q) (fun b o _ _ _ q _ => ⟨o.slots, q⟩) (fun b o hb q n => ?_) (fun b o _ q => ⟨o, q⟩)
    (fun b xs q => by rw [upd_ne (nD b _ q)]; exact q) (fun b o u q => by rw [upd_ne (nD b _ q)]; exact q) (fun b ps q => ⟨#[], by rw [upd_ne (nD b _ q), q]; simp⟩) (fun m q => q) (fun b u q => ?_) I.bare
  · have z : b = D := by simpa using hb
    subst z
    exact ⟨h1, h2, h3, h4⟩
  · rw [upd_ne (by simpa using hb)]; exact n
  · by_cases z : b = D
    · subst z
      rw [upd_same] at q; cases q
      exact ⟨hz, its, k, hv, e⟩
    · rw [upd_ne z] at q
      exact (I.hok b u q).stay (fun _ _ _ q => q) (fun c q => by rw [upd_ne (nD c _ q)]; exact q) fun c xs q => by rw [upd_ne (nD c _ q)]; exact q
structure CompScopeM (X : Cx) (frees : List Str) (idx : List Nat) (scope : Scope) : Prop where
  kind : scope.kind = .function
  nocell : ∀ y ∈ scope.names, y.2 ≠ .cell
  loc : ∀ y ∈ scope.names, y.2 = .local → scope.names.lookup y.1 = some .local
  fr : ∀ y ∈ scope.names, y.2 = .free → X.env.kindOf y.1 = some .cell ∨ X.env.kindOf y.1 = some .free
  ix : ∀ (j : Nat) (y : Str), frees[j]? = some y → ∃ k, idx[j]? = some k ∧ X.N[k]? = some y
  len : idx.length = frees.length
  cl : ∀ y ∈ frees, (y, NameKind.free) ∈ scope.names
def CompWM (n : Nat) (J : It) (g : TG) (tt : TT) (te : TE) (σ' : St) (Q : VK) (H1 : Hp) : Prop := ∃ W : Nat → Nat → List V → Hp → Prop, (∃ m, W 0 m [] H1) ∧ ∀ i m vs H2, W i m vs H2 →
  vs.length < sizeLine ∧ ((J.stop i H2 ∧ ∀ l, H2 l = none → Q (.ref l) (upd H2 l (.lst vs))) ∨
    (J.go i H2 ∧ ∀ (τ : St) x H3, τ.length = n → J.yld i H2 x H3 → g x (τ ++ σ') H3 fun σ1 H4 => (∃ τ' : St, σ1 = τ' ++ σ' ∧ τ'.length = n) ∧
      tt σ1 H4 fun b H5 => if b = true then te σ1 H5 fun v H6 => ∃ m', m' < m ∧ W (i + 1) m' (vs ++ [v]) H6 else ∃ m', m' < m ∧ W (i + 1) m' vs H5))
def tCompM (n : Nat) (idx : List Nat) (wi : TI) (g : TG) (tt : TT) (te : TE) : TE := fun σ H Q => wi σ H fun J H1 => CompWM n J g tt te (outs σ idx) Q H1
theorem comp_core {X : Cx} {elt iter tg : Expr} {M : List Str} {g : TG} {pos p1 : Pos} {ifs : List Expr} {scope : Scope} {frees : List Str} {idx : List Nat} {wi : TI} {tt : TT} {te : TE} {XE : Addr → Shared → Hp → List Addr → Value → Shared → Prop}
    {qt : Cx → Prop} (hc : ∀ C s₀ H₀ ex, qt (cxCompE X (M ++ frees) scope C s₀ H₀ ex XE)) (S : CompScopeM X frees idx scope) (hfl : ∀ y ∈ frees, scope.names.lookup y = some .free) (hi : PIQ qt X tg iter wi) (hg : ∀ C s₀ H₀ ex, PG (cxCompE X (M ++ frees) scope C s₀ H₀ ex XE) tg g)
    (ht : ∀ C s₀ H₀ ex, PTs (cxCompE X (M ++ frees) scope C s₀ H₀ ex XE) ifs tt) (he : ∀ C s₀ H₀ ex, PE (cxCompE X (M ++ frees) scope C s₀ H₀ ex XE) elt te)
    (hs : ∀ v, foldedSetIterable iter X.env v = pure v) {use : Option (Value → Sem Unit)} {Q' : Value → Shared → Prop} {pins : List (Addr × Obj)} {s : Shared} {σ : St} {H : Hp} {Q : VK} (I : Inv X pins σ H s) (h : tCompM M.length idx wi g tt te σ H Q)
    (hxe : ∀ C s2 H2 ex D, Inv X pins σ H2 s2 → (∀ b ∈ ex, FpOk X pins H2 b) → s2.heap.objs.size ≤ C → D ≠ C → ∀ e s', XE C s2 H2 ex e s' → notedBy (model X.prog X.w) X.A (compEnvC scope (closL X.env.cells scope.names []) C X.env) (fun x s'' => compPost (model X.prog X.w) X.A X.xe use Q' (.ref D) C (.error x) s'') e s')
    (hpost : ∀ (D C : Addr) (H' : Hp) m4 (s4 : Shared), s4.heap.Ns C m4 → (∀ h', Heap.SameBut C s4.heap h' → Inv X pins σ H' { s4 with heap := h' }) → H' C = none → C ≠ X.env.locals → C ∉ X.fs → X.s₀.heap.objs.size ≤ C → (∀ z c, X.env.cells.lookup z = some c → c ≠ C) → (∀ p ∈ X.pn ++ pins, p.1 ≠ C) → Q (.ref D) H' →
      compPost (model X.prog X.w) X.A X.xe use Q' (.ref D) C (.ok .next) s4) :
    wpAny (model X.prog X.w) X.A (comprehension (.ListComp elt [⟨tg, iter, ifs, 0⟩] scope pos) scope X.env p1 (newList []) (firstAsync [⟨tg, iter, ifs, 0⟩]) (firstIter [⟨tg, iter, ifs, 0⟩] X.env) use) Q' X.xe s := by
  have hclos := closL_eq (scope := scope) (env := X.env) fun p hp hf => I.ok.has p.1 (S.fr p hp hf)
  refine wpAny_comprehension_free (use := use) rfl hs hclos S.kind S.loc (thn (hi pins s σ H _ I h) fun v s1 h1 => thn h1 fun itv s2 h2 => ?_)
  obtain ⟨it, fp, tn, J, H2, rfl, I2, T, st2, f2, W, ⟨m0, w0⟩, turn⟩ := h2
  refine wpAny_newObj_type (wpAny_newFunctionEnv S.nocell (by intro y hy; simp at hy) (fun h₁ hns₁ hsb₁ => ?_) S.kind)
  dsimp only at hns₁ hsb₁ ⊢
  generalize hH2 : s2.heap.push { cls := .type "list", dict := none, data := .seq ([] : List Value).toArray } = G2 at hns₁ hsb₁ ⊢
  have hCe : G2.objs.size = s2.heap.objs.size + 1 := by rw [← hH2, Heap.size_push]
  generalize hC : G2.objs.size = C at hns₁ hsb₁ hCe ⊢
  have hCle : s2.heap.objs.size ≤ C := by omega
  have hDC : s2.heap.objs.size ≠ C := by omega
  have below : ∀ b, b < s2.heap.objs.size → b ≠ C := fun b hb => by omega
  have old : ∀ b o, s2.heap.get? b = some o → h₁.get? b = some o := fun b o e => hsb₁.extBut b o (below b (Heap.lt_size e)) (Heap.get?_push_of_some _ (hH2 ▸ Heap.get?_push_of_some _ e))
  have hacc : ∃ k, h₁.get? s2.heap.objs.size = some { cls := .type "list", data := .seq ([] : List Value).toArray k } := ⟨_, hsb₁.extBut _ _ hDC (Heap.get?_push_of_some _ (hH2 ▸ Heap.get?_push_size _ rfl))⟩
  have look : ∀ y c, (closL X.env.cells scope.names []).lookup y = some c → X.env.cells.lookup y = some c := fun y c e => by
    rcases closL_look _ _ y c e with q | q
    · exact q
    · cases q
  have fpD : ∀ b ∈ fp, b < s2.heap.objs.size := fun b hb => by
    obtain ⟨o, e, _⟩ := T.obj _ _ st2 b hb
    exact Heap.lt_size e
  have ok' : (cxCompE X (M ++ frees) scope C s2 H2 fp XE).Ok := {
    mod := I2.ok.mod
    kind := S.kind
    glob := I2.ok.glob
    blt := I2.ok.blt
    above := hCle
    inj := fun y z c e1 e2 => I2.ok.inj y z c (look y c e1) (look z c e2)
    has := fun y hy => by
      have q := relabel_free (scope := scope) (env := X.env) hy S.nocell
      exact closL_has _ _ y q (I2.ok.has y (S.fr _ q rfl))
    cab := fun y c hf => by cases hf
    hd := I2.ok.hd
    frames := I2.ok.frames
    stk := .inl rfl
    exf := fun b hb => ⟨below b (fpD b hb), fun y c e => (f2 b hb).2.2.2.2.1 y c (look y c e)⟩
    bs := I2.bs
    bsz := Nat.le_trans I2.ok.bsz I2.sz
    noex := fun b o e hb => by
      rcases (f2 b hb).2.2.2.1 with z | z
      · exact I2.ok.noex b o e z
      · exact absurd (Nat.lt_of_lt_of_le (Heap.lt_size e) (Nat.le_trans I2.ok.bsz z)) (Nat.lt_irrefl _)
    exfs := fun b hb hf => by
      rcases List.mem_cons.mp (I2.stkSub b hf) with z | z
      · exact (f2 b hb).2.1 z
      · exact (f2 b hb).2.2.1 z
    funs := I2.stack
    frf := I2.stkFree }
  have Dfs : s2.heap.objs.size ∉ frs X.stack := fun hb => by
    rcases List.mem_cons.mp (I2.stkSub _ hb) with z | z
    · have q := I2.lt
      rw [← z] at q
      exact Nat.lt_irrefl _ q
    · exact I2.nofs (Nat.le_refl _) z
  have Dcell : ∀ y c, X.env.cells.lookup y = some c → c ≠ s2.heap.objs.size := fun y c e z => by
    obtain ⟨v, q⟩ := I2.cell y c e
    have q' := q.lt
    rw [z] at q'
    exact Nat.lt_irrefl _ q'
  have Dpin : ∀ p ∈ X.pn ++ pins, p.1 ≠ s2.heap.objs.size := fun p hp z => by
    have q' := Heap.lt_size (I2.pin p hp).1
    rw [z] at q'
    exact Nat.lt_irrefl _ q'
  have I3 : Inv (cxCompE X (M ++ frees) scope C s2 H2 fp XE) pins (List.replicate M.length none ++ outs σ idx) H2 { s2 with heap := h₁, toks := s2.toks + ([] : List (Str × Value)).length } := {
    ok := ok'
    os := rfl
    bare := I2.bare
    base := Un.kept old
    loc := by
      refine ⟨_, hns₁, fun i y v e1 e2 e3 => ?_⟩
      by_cases hi' : i < M.length
      · rw [List.getElem?_append_left (by rw [List.length_replicate]; exact hi'), List.getElem?_replicate, if_pos hi'] at e2
        cases e2
      · obtain ⟨j, rfl⟩ : ∃ j, i = M.length + j := ⟨i - M.length, by omega⟩
        have e1' : frees[j]? = some y := by
          have e1'' : (M ++ frees)[M.length + j]? = some y := e1
          rw [List.getElem?_append_right (Nat.le_add_right _ _), Nat.add_sub_cancel_left] at e1''
          exact e1''
        have e2' : (outs σ idx)[j]? = some (some v) := by
          rw [List.getElem?_append_right (by rw [List.length_replicate]; exact Nat.le_add_right _ _), List.length_replicate, Nat.add_sub_cancel_left] at e2
          exact e2
        obtain ⟨k, hk, hN⟩ := S.ix j y e1'
        have hy : y ∈ frees := List.mem_of_getElem? e1'
        have e4 : σ[k]? = some (some v) := by
          unfold outs at e2'
          rw [List.getElem?_map, hk] at e2'
          have e5 : (σ[k]?).join = some v := Option.some.inj e2'
          cases q : σ[k]? with
          | none => rw [q] at e5; cases e5
          | some o => rw [q] at e5; exact congrArg some e5
        obtain ⟨m, hn, hl⟩ := I2.loc
        have kin := S.fr _ (S.cl y hy) rfl
        have vis : Vis X.env.scope y := by
          rcases kin with z | z
          · exact .inr (.inl z)
          · exact .inr (.inr z)
        obtain ⟨u, r, l⟩ := hl k y v hN e4 vis
        refine ⟨u, r, .inr ⟨lookup_relabel_free (env := X.env) (hfl y hy), ?_⟩⟩
        rcases l with ⟨z, _⟩ | ⟨_, c, ec, ic⟩
        · rcases kin with z' | z'
          · have z'' : X.env.kindOf y = some .cell := z'
            rw [z] at z''; cases z''
          · have z'' : X.env.kindOf y = some .free := z'
            rw [z] at z''; cases z''
        · obtain ⟨c', ec'⟩ := closL_has (cells := X.env.cells) scope.names [] y (S.cl y hy) ⟨c, ec⟩
          have : c' = c := Option.some.inj ((look y c' ec').symm.trans ec)
          subst this
          obtain ⟨o, ho, hd⟩ := ic
          exact ⟨c', ec', o, old _ _ ho, hd⟩
    cell := fun y c e => by
      obtain ⟨v, o, ho, hd⟩ := I2.cell y c (look y c e)
      exact ⟨v, o, old _ _ ho, hd⟩
    free := I2.hok.fresh hCle
    freeC := fun y c e => I2.freeC y c (look y c e)
    pin := fun p hp => by
      obtain ⟨e, n, ne, nf, d⟩ := I2.pin p hp
      refine ⟨old _ _ e, n, below _ (Heap.lt_size e), fun hb => ?_, d⟩
      rcases List.mem_cons.mp (I2.stkSub _ hb) with z | z
      · exact ne z
      · exact nf z
    hok := I2.hok.kept old
    len := by simp [cxCompE, cxComp, outs, S.len] }
  have fok : ∀ {pp : List (Addr × Obj)} {H' : Hp}, (∀ b ∈ fp, H' b = none) → (∀ p ∈ pp, p.1 = s2.heap.objs.size) → ∀ b ∈ fp, FpOk (cxCompE X (M ++ frees) scope C s2 H2 fp XE) (pins ++ pp) H' b := fun {pp H'} hn hp b hb => by
    obtain ⟨_, f1, f2', f3, f4, f5⟩ := f2 b hb
    refine ⟨hn b hb, below b (fpD b hb), fun hf => ?_, .inl hb, fun y c e => f4 y c (look y c e), fun p hpp z => ?_⟩
    · rcases List.mem_cons.mp (I2.stkSub b hf) with z | z
      · exact f1 z
      · exact f2' z
    · have hpp' : p ∈ X.pn ++ (pins ++ pp) := hpp
      rw [← List.append_assoc] at hpp'
      rcases List.mem_append.mp hpp' with q | q
      · exact f5 p q z
      · have q' := fpD b hb
        rw [← z, hp p q] at q'
        exact Nat.lt_irrefl _ q'
  have loop : ∀ s3 : Shared, s3 = { s2 with heap := h₁, toks := s2.toks + ([] : List (Str × Value)).length } →
      codeAny (model X.prog X.w) X.A (.compLoop (.ListComp elt [⟨tg, iter, ifs, 0⟩] scope pos) 0 (.ref it) (.ref s2.heap.objs.size) (compEnvC scope (closL X.env.cells scope.names []) C X.env))
        (compPost (model X.prog X.w) X.A X.xe use Q' (.ref s2.heap.objs.size) C) s3 := by
    rintro s3 rfl
    obtain ⟨k0, hacc⟩ := hacc
    refine compLoop_go (fun n s' => ∃ i τ vs H' its k, (τ : St).length = M.length ∧ Inv (cxCompE X (M ++ frees) scope C s2 H2 fp XE) pins (τ ++ outs σ idx) H' s' ∧ tn i s'.heap ∧ (∀ b ∈ fp, H' b = none) ∧ H' s2.heap.objs.size = none ∧
      s'.heap.get? s2.heap.objs.size = some { cls := .type "list", data := .seq its.toArray k } ∧ Vals vs its ∧ W i n vs H') (XE C s2 H2 fp) (hxe C s2 H2 fp s2.heap.objs.size I2 f2 hCle hDC) ?_ m0
      ⟨0, List.replicate M.length none, [], H2, [], k0, by simp, I3, T.keep _ _ _ st2 fun b _ o e => old b o e, fun b hb => (f2 b hb).1, I2.hok.fresh (Nat.le_refl _), hacc, .nil, w0⟩
    rintro n s' ⟨i, τ, vs, H', its, k, lτ, I', st', fr', hD', hg', hv', w'⟩
    obtain ⟨hlen, alt⟩ := turn i n vs H' w'
    have IP : Inv (cxCompE X (M ++ frees) scope C s2 H2 fp XE) (pins ++ [(s2.heap.objs.size, { cls := .type "list", data := .seq its.toArray k })]) (τ ++ outs σ idx) H' s' :=
      I'.pins_of fun p hp => (List.mem_append.mp hp).elim (fun z => I'.pin p (List.mem_append_right _ z)) fun z => by
        have z' : p = (s2.heap.objs.size, { cls := .type "list", data := .seq its.toArray k }) := by simpa using z
        subst z'
        exact ⟨hg', hD', hDC, Dfs, fun v q => by cases q⟩
    have FP := fok (pp := [(s2.heap.objs.size, { cls := .type "list", data := .seq its.toArray k })]) fr' (fun p hp => by
      have z' : p = (s2.heap.objs.size, { cls := .type "list", data := .seq its.toArray k }) := by simpa using hp
      rw [z'])
    rcases alt with ⟨stop, qn⟩ | ⟨go, step⟩
    · refine thn (T.done (cxCompE X (M ++ frees) scope C s2 H2 fp XE) rfl rfl rfl (hc C s2 H2 fp) i _ s' _ H' (XE C s2 H2 fp) IP FP st' stop) fun r s4 ⟨hr, I4⟩ => ?_
      subst hr
      obtain ⟨m4, hn4, _⟩ := id I4.loc
      refine hpost s2.heap.objs.size C (upd H' s2.heap.objs.size (.lst vs)) m4 s4 hn4 (fun h' hsb => ?_) (by rw [upd_ne (Ne.symm hDC)]; exact I4.free) (fun z => by have q := I2.lt; rw [← z] at q; exact Nat.lt_irrefl _ (Nat.lt_of_lt_of_le q hCle)) (I2.nofs hCle) (Nat.le_trans I2.sz hCle) (fun z c e zz => by
        obtain ⟨v, q⟩ := I2.cell z c e
        have q' := q.lt
        rw [zz] at q'
        exact Nat.lt_irrefl _ (Nat.lt_of_lt_of_le q' hCle)) (fun p hp zz => by
        have q' := Heap.lt_size (I2.pin p hp).1
        rw [zz] at q'
        exact Nat.lt_irrefl _ (Nat.lt_of_lt_of_le q' hCle)) (qn _ hD')
      have gD : s4.heap.get? s2.heap.objs.size = some { cls := .type "list", data := .seq its.toArray k } := (I4.pin (s2.heap.objs.size, _) (List.mem_append_right _ (List.mem_append_right _ (List.mem_singleton.mpr rfl)))).1
      have hx : ∀ b o, b ≠ C → s4.heap.get? b = some o → h'.get? b = some o := fun b o hb e => (hsb.2 b hb).trans e
      have J1 : Inv X pins σ H' { s4 with heap := h' } := by
        refine I2.call' (ch := fp) I4.os ⟨fun b o e n hb hx' => ?_, fun b o e n hb hx' => ?_, I4.base.free, fun b o e hx' => ?_, I4.base.tups, I4.base.frzs, I4.base.tbls⟩ (fun b u e => ?_) I4.bare fun b hb => ?_
        · exact hx b o (below b (Heap.lt_size e)) (I4.base.keep b o e n hb hx')
        · obtain ⟨sl, q⟩ := I4.base.slot b o e n hb hx'
          exact ⟨sl, hx b _ (below b (Heap.lt_size e)) q⟩
        · obtain ⟨o', q⟩ := I4.base.there b o e hx'
          exact ⟨o', hx b _ (below b (Heap.lt_size e)) q⟩
        · refine (I4.hok b u e).stay (fun c v hcc q => hx c v ?_ q) (fun _ q => q) fun _ _ q => q
          rintro rfl
          rcases hcc with z | z
          · rw [← z] at e
            have := I4.free
            rw [show H' c = none from this] at e; cases e
          · have := I4.free
            rw [show H' c = none from this] at z; cases z
        · obtain ⟨_, f1, f2', f3, f4, f5⟩ := f2 b hb
          exact ⟨f3, f1, f4, f5⟩
      exact J1.track hD' (Nat.le_of_lt hlen) hv' (hx _ _ hDC gD) (.inr I2.sz) (fun z => by have q := I2.lt; rw [← z] at q; exact Nat.lt_irrefl _ q) Dcell Dpin
    · refine thn (T.item (cxCompE X (M ++ frees) scope C s2 H2 fp XE) rfl rfl rfl (hc C s2 H2 fp) i _ s' _ H' (XE C s2 H2 fp) IP FP st' go) fun r s4 ⟨u, hr, h4⟩ => ?_
      subst hr
      refine thn h4 fun _ s5 ⟨xv, H5, I5, r5, y5, st5, fr5⟩ => ?_
      have I5' := I5.pinned (fok (pp := [(s2.heap.objs.size, { cls := .type "list", data := .seq its.toArray k })]) fr5 (fun p hp => by
        have z' : p = (s2.heap.objs.size, { cls := .type "list", data := .seq its.toArray k }) := by simpa using hp
        rw [z'])) (T.obj _ _ st5)
      have q6 := step τ xv H5 lτ y5
      refine thn (hg C s2 H2 fp _ s5 _ H5 xv _ _ I5' r5 q6) fun _ s6 ⟨σ6, H6, I6, ⟨τ6, e6, l6⟩, q6'⟩ => ?_
      subst e6
      refine thn (ht C s2 H2 fp _ s6 _ H6 _ I6 q6') fun b s7 ⟨H7, I7, q7⟩ => ?_
      have keepT : ∀ {s8 : Shared} {σ8 : St} {H8 : Hp}, Inv (cxCompE X (M ++ frees) scope C s2 H2 fp XE) ((pins ++ [(s2.heap.objs.size, { cls := .type "list", data := .seq its.toArray k })]) ++ pinsAt fp s5.heap) σ8 H8 s8 →
          tn (i + 1) s8.heap ∧ (∀ b ∈ fp, H8 b = none) ∧ H8 s2.heap.objs.size = none ∧ s8.heap.get? s2.heap.objs.size = some { cls := .type "list", data := .seq its.toArray k } := fun {s8 σ8 H8} I8 => by
        refine ⟨T.keep _ _ _ st5 fun b hb o e => (I8.pin (b, o) (List.mem_append_right _ (List.mem_append_right _ (mem_pinsAt hb e)))).1, fun b hb => ?_, ?_, ?_⟩
        · obtain ⟨o, e, d⟩ := T.obj _ _ st5 b hb
          exact (I8.pin (b, o) (List.mem_append_right _ (List.mem_append_right _ (mem_pinsAt hb e)))).2.1
        · exact (I8.pin (s2.heap.objs.size, _) (List.mem_append_right _ (List.mem_append_left _ (List.mem_append_right _ (List.mem_singleton.mpr rfl))))).2.1
        · exact (I8.pin (s2.heap.objs.size, _) (List.mem_append_right _ (List.mem_append_left _ (List.mem_append_right _ (List.mem_singleton.mpr rfl))))).1
      cases b with
      | false =>
        rw [if_neg Bool.false_ne_true] at q7 ⊢
        obtain ⟨m', hm, w7⟩ := q7
        obtain ⟨a1, a2, a3, a4⟩ := keepT I7
        exact ⟨m', hm, i + 1, τ6, vs, H7, its, k, l6, I7.unpinned.unpinned, a1, a2, a3, a4, hv', w7⟩
      | true =>
        rw [if_pos rfl] at q7 ⊢
        refine thn (he C s2 H2 fp _ s7 _ H7 _ I7 q7) fun u8 s8 ⟨v8, H8, I8, r8, m', hm, w8⟩ => ?_
        obtain ⟨a1, a2, a3, a4⟩ := keepT I8
        refine wpAny_list_append_plain (items := its.toArray) ⟨k, a4⟩ (fun h9 pl sb => ?_) (by rw [List.size_toArray, ← hv'.length]; exact Nat.le_of_lt hlen)
        obtain ⟨k9, e9⟩ := pl
        have ne : ∀ b ∈ fp, b ≠ s2.heap.objs.size := fun b hb => Nat.ne_of_lt (fpD b hb)
        have I9 : Inv (cxCompE X (M ++ frees) scope C s2 H2 fp XE) pins (τ6 ++ outs σ idx) H8 { s8 with heap := h9 } :=
          I8.unpinned.unpinned.turned (t' := s8.toks) (fun b o hb e => (sb.2 b hb).trans e) a3 hDC (.inr (Nat.le_refl _)) (fun y c e => Dcell y c (look y c e)) Dpin
        refine ⟨m', hm, i + 1, τ6, vs ++ [v8], H8, its ++ [u8], k9, l6, I9, T.keep _ _ _ a1 fun b hb o e => (sb.2 b (ne b hb)).trans e, a2, a3, ?_, hv'.snoc r8, w8⟩
        rw [List.push_toArray] at e9
        exact e9
  exact codeAny_compStart_list (loop _ rfl) (T.self _ 0 _ _ _ (T.keep _ _ _ st2 fun b _ o e => old b o e) (loop _ rfl))
theorem pe_lcompM {X : Cx} {elt iter tg : Expr} {M : List Str} {g : TG} {pos : Pos} {ifs : List Expr} {scope : Scope} {frees : List Str} {idx : List Nat} {wi : TI} {tt : TT} {te : TE}
    {qt : Cx → Prop} (hc : ∀ C s₀ H₀ ex, qt (cxComp X (M ++ frees) scope C s₀ H₀ ex)) (S : CompScopeM X frees idx scope) (hfl : ∀ y ∈ frees, scope.names.lookup y = some .free) (hi : PIQ qt X tg iter wi) (hg : ∀ C s₀ H₀ ex, PG (cxComp X (M ++ frees) scope C s₀ H₀ ex) tg g)
    (ht : ∀ C s₀ H₀ ex, PTs (cxComp X (M ++ frees) scope C s₀ H₀ ex) ifs tt) (he : ∀ C s₀ H₀ ex, PE (cxComp X (M ++ frees) scope C s₀ H₀ ex) elt te)
    (hs : ∀ v, foldedSetIterable iter X.env v = pure v := by intro _; rfl) : PE X (.ListComp elt [⟨tg, iter, ifs, 0⟩] scope pos) (tCompM M.length idx wi g tt te) := by
  intro pins s σ H Q I h
  rw [eval_ListComp]
  exact comp_core (M := M) (g := g) (XE := noX) (use := none) (Q' := EP X pins σ Q) (fun C s₀ H₀ ex => by rw [cxE_no]; exact hc C s₀ H₀ ex) S hfl hi (fun C s₀ H₀ ex => by rw [cxE_no]; exact hg C s₀ H₀ ex) (fun C s₀ H₀ ex => by rw [cxE_no]; exact ht C s₀ H₀ ex) (fun C s₀ H₀ ex => by rw [cxE_no]; exact he C s₀ H₀ ex) hs I h (fun _ _ _ _ _ _ _ _ _ _ _ (z : False) => z.elim) fun D C H' m4 s4 hn hJ _ _ _ _ _ _ q => by
    show ∃ m, s4.heap.Ns C m ∧ ∀ h', Heap.SameBut C s4.heap h' → EP X pins σ Q (.ref D) { s4 with heap := h' }
    exact ⟨m4, hn, fun h' hsb => ⟨.ref D, H', hJ h' hsb, rfl, q⟩⟩
theorem compW_M {J : It} {tt : TT} {te : TE} {σ' : St} {Q : VK} {H1 : Hp} : CompWM 1 J (gName 0) tt te σ' Q H1 = CompW J tt te σ' Q H1 := by
  refine propext ⟨fun ⟨W, h0, h⟩ => ⟨W, h0, fun i m vs H2 w => ?_⟩, fun ⟨W, h0, h⟩ => ⟨W, h0, fun i m vs H2 w => ?_⟩⟩
  · obtain ⟨l, h⟩ := h i m vs H2 w
    exact ⟨l, h.imp id fun ⟨go, st⟩ => ⟨go, fun x H3 y => (st [none] x H3 rfl y).2⟩⟩
  · obtain ⟨l, h⟩ := h i m vs H2 w
    refine ⟨l, h.imp id fun ⟨go, st⟩ => ⟨go, fun τ x H3 lτ y => ?_⟩⟩
    match τ, lτ with
    | [o], _ => exact ⟨⟨[some x], rfl, rfl⟩, st x H3 y⟩
theorem tComp_M {idx : List Nat} {wi : TI} {tt : TT} {te : TE} : tCompM 1 idx wi (gName 0) tt te = tComp idx wi tt te := by
  funext σ H Q
  unfold tCompM tComp
  exact congrArg (wi σ H) (funext fun J => funext fun H1 => compW_M)
theorem pe_lcomp {X : Cx} {elt iter : Expr} {x : Str} {px pos : Pos} {ifs : List Expr} {scope : Scope} {frees : List Str} {idx : List Nat} {wi : TI} {tt : TT} {te : TE}
    {qt : Cx → Prop} (hc : ∀ C s₀ H₀ ex, qt (cxComp X (x :: frees) scope C s₀ H₀ ex)) (S : CompScope X x frees idx scope) (hfl : ∀ y ∈ frees, scope.names.lookup y = some .free) (hi : PIQ qt X (.Name x px) iter wi)
    (ht : ∀ C s₀ H₀ ex, PTs (cxComp X (x :: frees) scope C s₀ H₀ ex) ifs tt) (he : ∀ C s₀ H₀ ex, PE (cxComp X (x :: frees) scope C s₀ H₀ ex) elt te)
    (hs : ∀ v, foldedSetIterable iter X.env v = pure v := by intro _; rfl) : PE X (.ListComp elt [⟨.Name x px, iter, ifs, 0⟩] scope pos) (tComp idx wi tt te) := by
  have h := pe_lcompM (M := [x]) (g := gName 0) (pos := pos) hc ⟨S.kind, S.nocell, S.loc, S.fr, S.ix, S.len, S.cl⟩ hfl hi (fun C s₀ H₀ ex => pg_name (i := 0) S.nd rfl (.inl (lookup_relabel_local S.tgt)) (.inr (lookup_relabel_local S.tgt))) ht he hs
  exact tComp_M ▸ h
end L2
set_option Elab.async false
set_option linter.all false
set_option maxRecDepth 100000
namespace L2
open PySem PySem.Spec PyProof.Rows
section
variable {X : Cx}
theorem boolsAre_of : ∀ {bs : List Bool} {us : List Value}, Vals (bs.map V.bl) us → LSm.BoolsAre us bs := by
  intro bs
  induction bs with
  | nil => intro us h; cases h; exact .nil
  | cons b r ih =>
    intro us h
    cases h with
    | cons h1 h2 =>
      cases (show _ = Value.bool b from h1)
      exact .cons b (ih h2)
theorem call_all (hc : X.calm = true) : CallR X (.builtin "all") (fun xs H Q => ∃ (p : Addr) (bs : List Bool), xs = [.ref p] ∧ SqL X.K H p (bs.map V.bl) ∧ Q (.bl (bs.all id)) H) := by
  intro pins s σ H xs us Q I r h
  obtain ⟨p, bs, rfl, hq, q⟩ := h
  obtain ⟨u, rfl, rx⟩ := vals1 r
  cases rx
  obtain ⟨its, r', pl, hz⟩ := I.list hq
  have hl := pl.isList
  have hb := boolsAre_of r'
  have hlt : p < s.heap.objs.size := by obtain ⟨_, e, _⟩ := hl; exact Heap.lt_size e
  refine call_all_walk (wpAny_pyIter_list hl ?_)
  refine ⟨s.heap.objs.size, [s.heap.objs.size, p], [s.heap.objs.size], its.toArray.size, _, _, fun i => (bs[i]?).getD true, rfl, Walks.list (A := X.A.in1) (I.ok.hd hc) _ p (Nat.ne_of_lt hlt) its.toArray,
    ⟨⟨_, Heap.get?_push_size _ rfl, rfl, rfl⟩, hl.push _⟩, fun i v s' Q' E' hP hQ => ?_, fun h' tk hk => ?_⟩
  · obtain ⟨b, e, rfl⟩ := hb.get i v (by simpa using hP)
    simp only [e, Option.getD_some] at hQ
    exact wpAny_truthy_bool hQ
  · have e : ((List.range its.toArray.size).all fun i => (bs[i]?).getD true) = bs.all id := by
      rw [List.size_toArray, hb.length]; exact LSm.range_all bs
    rw [e]
    exact ⟨.bl (bs.all id), H, I.kept (LSm.kept_iter hk), rfl, q⟩
theorem call_isi : CallR X (.builtin "isinstance") (fun xs H Q => ∃ x t T b, xs = [x, .ty T] ∧ TyOf X.K H x t ∧ PySem.W.kitOne X.K t (.type T) = some b ∧ Q (.bl b) H) := by
  intro pins s σ H xs us Q I r h
  obtain ⟨x, t, T, b, rfl, ty, e, q⟩ := h
  obtain ⟨u, w', rfl, rx, ry⟩ := vals2 r
  cases (show w' = Value.type T from ry)
  exact isinst_ok I rx ty e fun tk => ⟨.bl b, H, I.tok tk, rfl, q⟩
theorem sl_str : SlR X (fun x lo hi H Q => ∃ z, x = .str z ∧ z.length ≤ sizeLine ∧ Q (.str (Txt.slice z lo hi)) H) := by
  intro pins s σ H x v vl vu lo hi sl Q I rx hs pl pu h
  obtain ⟨z, rfl, hz, q⟩ := h
  obtain ⟨t, rfl⟩ := rx
  refine ⟨"str", _, F.slot_str_getitem.lookup, typeIs_str _ _ _, ?_⟩
  have fin : ∀ l u : Option (Int × Tok), vl = partValue l → vu = partValue u → l.map (·.1) = lo → u.map (·.1) = hi → wpAny (model X.prog X.w) X.A (getItem (.str z t) (.ref sl)) (EP X pins σ Q) X.xe s := fun l u e1 e2 e3 e4 => by
    subst e1 e2 e3 e4
    refine wpAny_getItem_str_slice (l := l) (u := u) (st := none) hs rfl (post_val_or_str ⟨Nat.le_trans (Txt.slice_le z _ _) hz, fun t' k => ⟨.str _, H, I.tok k, ⟨t', rfl⟩, q⟩⟩)
  cases pl <;> cases pu <;> first
    | exact fin none none rfl rfl rfl rfl
    | exact fin none (some (_, _)) rfl rfl rfl rfl
    | exact fin (some (_, _)) none rfl rfl rfl rfl
    | exact fin (some (_, _)) (some (_, _)) rfl rfl rfl rfl
theorem mt_startswith : MtR X "str.startswith" (fun x xs H Q => ∃ z y, x = .str z ∧ xs = [.str y] ∧ Q (.bl (Txt.startswith z y)) H) := by
  intro pins s σ H x xs v us Q I rx rs h
  obtain ⟨z, y, rfl, rfl, q⟩ := h
  obtain ⟨t, rfl⟩ := rx
  obtain ⟨u, rfl, t', rfl⟩ := vals1 rs
  exact SC.startswith ⟨.bl _, H, I, rfl, q⟩
theorem vals_strValues : ∀ l : List (Str × Tok), Vals ((l.map (·.1)).map V.str) (strValues l)
  | [] => .nil
  | (x, t) :: r => .cons ⟨t, rfl⟩ (vals_strValues r)
theorem mt_split : MtR X "str.split" (fun x xs H Q => ∃ z y, x = .str z ∧ xs = [.str y] ∧ z.length ≤ sizeLine ∧ 1 ≤ y.length ∧ (Txt.split z y).length ≤ sizeLine ∧ ∀ l, H l = none → Q (.ref l) (upd H l (.lst ((Txt.split z y).map V.str)))) := by
  intro pins s σ H x xs v us Q I rx rs h
  obtain ⟨z, y, rfl, rfl, hz, hy, hn, q⟩ := h
  obtain ⟨t, rfl⟩ := rx
  obtain ⟨u, rfl, t', rfl⟩ := vals1 rs
  have hy' : (y.length == 0) = false := by simp; exact Nat.ne_of_gt hy
  have fin : ∀ (l : List (Str × Tok)) (k : Nat), l.map (·.1) = Txt.split z y → EP X pins σ Q (.ref s.heap.objs.size) { s with toks := k, heap := s.heap.push { cls := .type "list", data := .seq (strValues l).toArray } } := fun l k e => by
    have hv := vals_strValues l
    rw [e] at hv
    refine ⟨.ref s.heap.objs.size, _, I.lnew (t' := k) hv (by rw [List.length_map]; exact hn), rfl, q _ I.fresh⟩
  cases h1 : (decide (z.length < y.length) || decide (Builtin.Str.strKind z < Builtin.Str.strKind y))
  · cases hf : (Builtin.Str.occurrences z y 0 z.length (z.length + 1)).isEmpty
    · have e : Txt.split z y = Builtin.Str.partsBetween z (Builtin.Str.occurrences z y 0 z.length (z.length + 1)) y.length := (if_neg (ne_true_of_eq_false h1)).trans (if_neg (ne_true_of_eq_false hf))
      refine call_meets F.slot_str_split (typeIs_str _ _ _) F.entry_str_split (F.args_str_split_2 _ _) (meets_str_split_sep z y t t' h1 hy' hf hz (by rw [← e]; exact hn)) ?_
      show EP X pins σ Q _ { s with toks := _, heap := s.heap.push { cls := .type "list", data := .seq (strsFrom s.toks (Builtin.Str.partsBetween z (Builtin.Str.occurrences z y 0 z.length (z.length + 1)) y.length)).toArray } }
      rw [strsFrom_eq]
      exact fin (numbered s.toks _) _ ((numbered_texts _ _).trans e.symm)
    · exact call_meets F.slot_str_split (typeIs_str _ _ _) F.entry_str_split (F.args_str_split_2 _ _) (meets_str_split_not_found z y t t' h1 hy' hf) (fin [(z, t)] s.toks ((if_neg (ne_true_of_eq_false h1)).trans (if_pos hf)).symm)
  · exact call_meets F.slot_str_split (typeIs_str _ _ _) F.entry_str_split (F.args_str_split_2 _ _) (meets_str_split_cannot_occur z y t t' h1) (fin [(z, t)] s.toks (if_pos h1).symm)
end
end L2
set_option Elab.async false
set_option linter.all false
set_option maxRecDepth 100000
namespace L2
open PySem PySem.Spec PyProof.Rows
def compOk (osc : Scope) (N : List Str) (x : Str) (frees : List Str) (idx : List Nat) (scope : Scope) : Bool :=
  scope.kind == .function && (scope.names.all (fun y => y.2 != .cell) && (scope.names.all (fun y => y.2 != .local || scope.names.lookup y.1 == some .local) && (scope.names.all (fun y => y.2 != .free || (osc.names.lookup y.1 == some .cell || osc.names.lookup y.1 == some .free)) &&
  (scope.names.lookup x == some .local && (decide (x :: frees).Nodup && (idx.length == frees.length && ((idx.zip frees).all (fun p => N[p.1]? == some p.2) && frees.all (fun y => scope.names.lookup y == some .free))))))))
theorem zip_get {α β : Type} {l : List α} {r : List β} {j : Nat} {y : β} (e : l.length = r.length) (h : r[j]? = some y) : ∃ k, l[j]? = some k ∧ (k, y) ∈ l.zip r := by
  induction l generalizing r j with
  | nil => cases r with
    | nil => simp at h
    | cons => cases e
  | cons a l ih => cases r with
    | nil => cases e
    | cons b r => cases j with
      | zero => cases h; exact ⟨a, rfl, by simp⟩
      | succ j =>
        obtain ⟨k, h1, h2⟩ := ih (j := j) (Nat.succ.inj e) h
        exact ⟨k, h1, List.mem_cons_of_mem _ h2⟩
theorem compOk_scope {X : Cx} {osc : Scope} {N : List Str} {x : Str} {frees : List Str} {idx : List Nat} {scope : Scope} (h : compOk osc N x frees idx scope = true) (ho : X.env.scope = osc) (hN : X.N = N) :
    CompScope X x frees idx scope ∧ ∀ y ∈ frees, scope.names.lookup y = some .free := by
  unfold compOk at h
  simp only [Bool.and_eq_true, List.all_eq_true, Bool.or_eq_true, bne_iff_ne, beq_iff_eq, decide_eq_true_eq] at h
  obtain ⟨h1, h2, h3, h4, h5, h6, h7, h8, h9⟩ := h
  have fl : ∀ y ∈ frees, scope.names.lookup y = some .free := fun y hy => h9 y hy
  refine ⟨⟨h1, h2, fun y hy e => ?_, h5, h6, fun y hy e => ?_, fun j y hj => ?_, h7, fun y hy => mem_of_lookup' (fl y hy)⟩, fl⟩
  · rcases h3 y hy with q | q
    · exact absurd e q
    · exact q
  · have q : osc.names.lookup y.1 = some .cell ∨ osc.names.lookup y.1 = some .free := by
      rcases h4 y hy with q | q
      · exact absurd e q
      · exact q
    rw [← ho] at q
    exact q
  · obtain ⟨k, e1, e2⟩ := zip_get h7 hj
    exact ⟨k, e1, by rw [hN]; exact h8 (k, y) e2⟩
theorem pe_lc {X : Cx} {elt iter : Expr} {x : Str} {px pos : Pos} {ifs : List Expr} {scope : Scope} {wi : TI} {tt : TT} {te : TE} (osc : Scope) (N : List Str) (frees : List Str) (idx : List Nat)
    (hk : compOk osc N x frees idx scope = true) (hi : PI X (.Name x px) iter wi)
    (ht : ∀ C s₀ H₀ ex, PTs (cxComp X (x :: frees) scope C s₀ H₀ ex) ifs tt) (he : ∀ C s₀ H₀ ex, PE (cxComp X (x :: frees) scope C s₀ H₀ ex) elt te)
    (ho : X.env.scope = osc := by rfl) (hN : X.N = N := by rfl) (hc : X.calm = true := by rfl) (hs : ∀ v, foldedSetIterable iter X.env v = pure v := by intro _; rfl) : PE X (.ListComp elt [⟨.Name x px, iter, ifs, 0⟩] scope pos) (tComp idx wi tt te) := by
  obtain ⟨S, fl⟩ := compOk_scope (X := X) hk ho hN
  exact pe_lcomp (qt := Calm) (fun _ _ _ _ => hc) S fl hi ht he hs
def Nx (n i : Nat) (p : Prop) : Prop := ∃ m', m' < n - i ∧ m' = n - (i + 1) ∧ i + 1 ≤ n ∧ p
theorem nx {n i : Nat} {p : Prop} (h : i < n) (q : p) : Nx n i p := ⟨n - (i + 1), by omega, rfl, h, q⟩
theorem comp_range {lo : Int} {n : Nat} {tt : TT} {te : TE} {σ' : St} {Q : VK} {H : Hp} (Pv : Nat → List V → Hp → Prop) (h0 : Pv 0 [] H) (hlen : ∀ i vs H2, i ≤ n → Pv i vs H2 → vs.length < sizeLine)
    (hs : ∀ i vs H2, i < n → Pv i vs H2 → tt (some (.int (lo + i)) :: σ') H2 fun b H4 => if b = true then te (some (.int (lo + i)) :: σ') H4 fun v H5 => Nx n i (Pv (i + 1) (vs ++ [v]) H5) else Nx n i (Pv (i + 1) vs H4))
    (hd : ∀ vs H2, Pv n vs H2 → ∀ l, H2 l = none → Q (.ref l) (upd H2 l (.lst vs))) : CompW (Itr lo n) tt te σ' Q H := by
  refine ⟨fun i m vs H => m = n - i ∧ i ≤ n ∧ Pv i vs H, ⟨n, by simp, Nat.zero_le _, h0⟩, ?_⟩
  rintro i m vs H2 ⟨rfl, hi, p⟩
  refine ⟨hlen i vs H2 hi p, ?_⟩
  by_cases hlt : i < n
  · refine .inr ⟨hlt, ?_⟩
    rintro v H3 ⟨rfl, rfl⟩
    exact hs i vs H3 hlt p
  · have e : i = n := by exact Nat.le_antisymm hi (Nat.not_lt.mp hlt)
    subst e
    exact .inl ⟨Nat.le_refl _, hd vs H2 p⟩
end L2
set_option Elab.async false
set_option linter.all false
set_option maxRecDepth 100000
namespace L2
open PySem PySem.Spec PyProof.Rows
section
variable {X : Cx} {pins : List (Addr × Obj)} {σ : St} {H : Hp} {s : Shared}
end
end L2
set_option Elab.async false
set_option linter.all false
set_option maxRecDepth 100000
namespace L2
open PySem PySem.Spec PyProof.Rows
section
variable {X : Cx}
theorem get_list : PGet X (fun x y H Q => ∃ (p : Addr) (xs : List V) (i : Nat) (v : V), x = .ref p ∧ y = .int i ∧ SqL X.K H p xs ∧ xs[i]? = some v ∧ Q v H) := by
  intro pins s σ H o i ov iv Q I ro ri h
  obtain ⟨p, xs, k, v, rfl, rfl, hq, hv, q⟩ := h
  cases ro
  obtain ⟨t, rfl⟩ := ri
  obtain ⟨its, r, pl, hz⟩ := I.list hq
  obtain ⟨w, ew, rw'⟩ := r.get hv
  have hn := line63
  have hl := r.length
  have hk : k < xs.length := by
    rcases Nat.lt_or_ge k xs.length with z | z
    · exact z
    · rw [List.getElem?_eq_none_iff.mpr z] at hv; cases hv
  exact wpAny_getItem_list pl.isList (by omega) (by omega) (by simpa using ew) ⟨v, H, I, rw', q⟩
end
end L2
set_option Elab.async false
set_option linter.all false
set_option maxRecDepth 100000
namespace Fw
open PySem PySem.Spec PyProof.Rows L2
def splL (c : Nat) : List Nat → List (List Nat)
  | [] => [[]]
  | a :: r => if a = c then [] :: splL c r else match splL c r with
    | p :: ps => (a :: p) :: ps
    | [] => [[a]]
theorem splL_ne (c : Nat) : ∀ l, splL c l ≠ []
  | [] => by simp [splL]
  | a :: r => by
    unfold splL
    split
    · simp
    · split <;> simp
theorem splL_free {c : Nat} : ∀ {l : List Nat}, c ∉ l → splL c l = [l]
  | [], _ => rfl
  | a :: r, h => by
    have h1 : a ≠ c := fun e => h (by simp [e])
    have h2 : c ∉ r := fun e => h (List.mem_cons_of_mem _ e)
    unfold splL
    rw [if_neg h1, splL_free h2]
theorem splL_app {c : Nat} : ∀ {l : List Nat} (r : List Nat), c ∉ l → splL c (l ++ c :: r) = l :: splL c r
  | [], r, _ => by simp [splL]
  | a :: l, r, h => by
    have h1 : a ≠ c := fun e => h (by simp [e])
    have h2 : c ∉ l := fun e => h (List.mem_cons_of_mem _ e)
    rw [List.cons_append]
    conv => lhs; unfold splL
    rw [if_neg h1, splL_app r h2]
theorem splL_join (c : Nat) : ∀ (ps : List Str), ps ≠ [] → (∀ p ∈ ps, c ∉ p.cps.toList) → splL c (Str.join ⟨#[c]⟩ ps).cps.toList = ps.map (·.cps.toList)
  | [], h, _ => absurd rfl h
  | [p], _, hf => by
    show splL c p.cps.toList = [p.cps.toList]
    exact splL_free (hf p (by simp))
  | p :: q :: r, _, hf => by
    have ih := splL_join c (q :: r) (by simp) fun x hx => hf x (List.mem_cons_of_mem _ hx)
    show splL c (p ++ ⟨#[c]⟩ ++ Str.join ⟨#[c]⟩ (q :: r)).cps.toList = _
    have e : (p ++ ⟨#[c]⟩ ++ Str.join ⟨#[c]⟩ (q :: r)).cps.toList = p.cps.toList ++ c :: (Str.join ⟨#[c]⟩ (q :: r)).cps.toList := by
      show ((p.cps ++ #[c]) ++ (Str.join ⟨#[c]⟩ (q :: r)).cps).toList = _
      simp
    rw [e, splL_app _ (hf p (by simp)), ih]
    rfl
theorem cnt_nn (c : Nat) : ∀ l, (0 : Int) ≤ cnt c l
  | [] => Int.le_refl 0
  | n :: r => by
    have := cnt_nn c r
    rw [cnt_cons]
    split <;> omega
theorem split_eq (x : Str) (c : Nat) : (Txt.split x ⟨#[c]⟩).map (·.cps.toList) = splL c x.cps.toList := by
  have h1 := StrLaws.join_split x ⟨#[c]⟩
  have h2 := StrLaws.split_free x c
  by_cases e : Txt.split x ⟨#[c]⟩ = []
  · exfalso
    have := split_len x c
    rw [e] at this
    have h3 := cnt_nn c x.cps.toList
    simp at this
    omega
  · have := splL_join c _ e h2
    rw [h1] at this
    exact this.symm
theorem slice1 (x : Str) (h : 1 ≤ x.length) : Txt.slice x (some 1) none = ⟨(x.cps.toList.drop 1).toArray⟩ := by
  have q := slice_closes_fromL (x := x) (i := 1) (b := x.length) (by omega) (by omega) rfl
  have q' := eq_of_beq q
  rw [q']
  have e : ((x.length : Int) - 1).toNat = (x.cps.toList.drop 1).length := by
    rw [List.length_drop]
    show _ = x.cps.toList.length - 1
    have : x.cps.toList.length = x.length := by simp [Str.length]
    omega
  have e2 : ((x.cps.toList.drop (1 : Int).toNat).take ((x.length : Int) - 1).toNat) = x.cps.toList.drop 1 := by
    rw [e]
    show (x.cps.toList.drop 1).take (x.cps.toList.drop 1).length = _
    exact List.take_length
  first
    | exact congrArg (fun l => (⟨l.toArray⟩ : Str)) e2
    | (rw [e2])
def smallS : Str := "abcdefghijklmnopqrstuvwxyz"
def greatS : Str := "ABCDEFGHIJKLMNOPQRSTUVWXYZ"
def keptL : List Str := ["num", "fun", "call", "let", "ring", "case", "make", "pick", "plus", "minus", "times", "less", "if", "kind", "record", "face", "hide", "val", "part", "maker", "apply", "main"]
def inS (y : Str) (c : Nat) : Bool := decide (c ∈ y.cps.toList)
def allS (z y : Str) : Bool := z.cps.toList.all (inS y)
def okLen (z : Str) : Bool := decide (1 ≤ z.length) && decide (z.length ≤ 8)
def smallB (z : Str) : Bool := okLen z && allS z smallS
def nameB (z : Str) : Bool := smallB z && !decide (z ∈ keptL)
def restS (z : Str) : Str := ⟨(z.cps.toList.drop 1).toArray⟩
def greatB (z : Str) : Bool := okLen z && (inS greatS (z.cps.toList.getD 0 0) && allS (restS z) smallS)
def pathB (z : Str) : Bool := match splL 46 z.cps.toList with
  | [a, b] => greatB ⟨a.toArray⟩ && nameB ⟨b.toArray⟩
  | _ => false
def varB (z : Str) : Bool := decide (z.cps.toList.head? = some 63) && smallB (restS z)
theorem len_toList (z : Str) : z.cps.toList.length = z.length := by simp [Str.length]
theorem str_ext {a b : Str} (h : a.cps.toList = b.cps.toList) : a = b := by
  cases a; cases b
  simp only [Str.mk.injEq]
  exact Array.toList_inj.mp h
theorem small_range {c : Nat} (h : inS smallS c = true) : 97 ≤ c ∧ c ≤ 122 := by
  have h' : c ∈ smallS.cps.toList := of_decide_eq_true h
  have : ∀ d ∈ smallS.cps.toList, 97 ≤ d ∧ d ≤ 122 := by decide +kernel
  exact this c h'
theorem great_range {c : Nat} (h : inS greatS c = true) : 65 ≤ c ∧ c ≤ 90 := by
  have h' : c ∈ greatS.cps.toList := of_decide_eq_true h
  have : ∀ d ∈ greatS.cps.toList, 65 ≤ d ∧ d ≤ 90 := by decide +kernel
  exact this c h'
theorem smallS_len : smallS.length = 26 := by decide +kernel
theorem greatS_len : greatS.length = 26 := by decide +kernel
structure IsLet (z : Str) (n : Nat) : Prop where
  len : z.length = n
  all : allS z smallS = true
theorem IsLet.mem {z : Str} {n : Nat} (h : IsLet z n) {c : Nat} (hc : c ∈ z.cps.toList) : 97 ≤ c ∧ c ≤ 122 :=
  small_range (List.all_eq_true.mp h.all c hc)
theorem isLet_nil : IsLet "" 0 := ⟨by decide +kernel, by decide +kernel⟩
theorem cps_app (a b : Str) : (a ++ b).cps.toList = a.cps.toList ++ b.cps.toList := by
  show (a.cps ++ b.cps).toList = _
  simp
theorem len_app (a b : Str) : (a ++ b).length = a.length + b.length := by
  rw [← len_toList, cps_app, List.length_append, len_toList, len_toList]
theorem isLet_snoc {z : Str} {n : Nat} {c : Nat} (h : IsLet z n) (hc : c ∈ smallS.cps.toList) : IsLet (z ++ ⟨#[c]⟩) (n + 1) := by
  refine ⟨by rw [len_app, h.len]; rfl, ?_⟩
  unfold allS
  rw [cps_app, List.all_append]
  have := h.all
  unfold allS at this
  rw [this]
  simp [inS, hc]
theorem kept_q : ∀ k ∈ keptL, nameB (k ++ "q") = true := by decide +kernel
theorem small_name {z : Str} {n : Nat} (h : IsLet z n) (h1 : 1 ≤ n) (h2 : n ≤ 8) (hk : z ∉ keptL) : nameB z = true := by
  unfold nameB smallB okLen
  rw [h.len, h.all, decide_eq_true h1, decide_eq_true h2, decide_eq_false hk]
  rfl
theorem name_let {z : Str} (h : nameB z = true) : ∃ n, IsLet z n ∧ 1 ≤ n ∧ n ≤ 8 ∧ z ∉ keptL := by
  unfold nameB smallB okLen at h
  simp only [Bool.and_eq_true, decide_eq_true_eq, Bool.not_eq_true', decide_eq_false_iff_not] at h
  exact ⟨z.length, ⟨rfl, h.1.2⟩, h.1.1.1, h.1.1.2, h.2⟩
theorem great_mk {c : Nat} {z : Str} {n : Nat} (hc : c ∈ greatS.cps.toList) (h : IsLet z n) (h2 : n ≤ 7) : greatB (⟨#[c]⟩ ++ z) = true := by
  have e : (⟨#[c]⟩ ++ z : Str).cps.toList = c :: z.cps.toList := by rw [cps_app]; rfl
  have er : restS (⟨#[c]⟩ ++ z) = z := by
    apply str_ext
    unfold restS
    rw [e]
    simp
  have el : (⟨#[c]⟩ ++ z : Str).length = n + 1 := by rw [len_app, h.len]; show 1 + n = n + 1; omega
  unfold greatB okLen
  rw [el, er, e, h.all]
  simp [inS, hc]
  exact h2
theorem great_parts {z : Str} (h : greatB z = true) : ∃ c r, z.cps.toList = c :: r ∧ 65 ≤ c ∧ c ≤ 90 ∧ (∀ d ∈ r, 97 ≤ d ∧ d ≤ 122) ∧ r.length ≤ 7 := by
  unfold greatB okLen at h
  simp only [Bool.and_eq_true, decide_eq_true_eq] at h
  obtain ⟨⟨h1, h2⟩, h3, h4⟩ := h
  cases e : z.cps.toList with
  | nil => rw [← len_toList, e] at h1; simp at h1
  | cons c r =>
    rw [e] at h3
    have h3' : inS greatS c = true := h3
    refine ⟨c, r, rfl, (great_range h3').1, (great_range h3').2, fun d hd => ?_, ?_⟩
    · unfold allS restS at h4
      rw [e] at h4
      exact small_range (List.all_eq_true.mp h4 d (by simpa using hd))
    · rw [← len_toList, e] at h2
      simp at h2
      exact h2
theorem var_mk {z : Str} {n : Nat} (h : IsLet z n) (h1 : 1 ≤ n) (h2 : n ≤ 8) : varB ("?" ++ z) = true := by
  have e : ("?" ++ z : Str).cps.toList = 63 :: z.cps.toList := by rw [cps_app]; rfl
  have er : restS ("?" ++ z) = z := by
    apply str_ext
    unfold restS
    rw [e]
    simp
  unfold varB smallB okLen
  rw [er, e, h.len, h.all, decide_eq_true h1, decide_eq_true h2]
  simp
theorem path_mk {g z : Str} (hg : greatB g = true) (hz : nameB z = true) : pathB (g ++ "." ++ z) = true := by
  obtain ⟨c, r, e, h1, h2, h3, h4⟩ := great_parts hg
  obtain ⟨n, hl, _⟩ := name_let hz
  have eg : (g ++ "." ++ z : Str).cps.toList = g.cps.toList ++ 46 :: z.cps.toList := by
    rw [cps_app, cps_app]
    simp
    rfl
  have g46 : 46 ∉ g.cps.toList := by
    rw [e]
    intro hm
    rcases List.mem_cons.mp hm with q | q
    · omega
    · have := h3 _ q; omega
  have z46 : 46 ∉ z.cps.toList := fun hm => by have := hl.mem hm; omega
  unfold pathB
  rw [eg, splL_app _ g46, splL_free z46]
  show (greatB ⟨g.cps.toList.toArray⟩ && nameB ⟨z.cps.toList.toArray⟩) = true
  have a : (⟨g.cps.toList.toArray⟩ : Str) = g := str_ext (by simp)
  have b : (⟨z.cps.toList.toArray⟩ : Str) = z := str_ext (by simp)
  rw [a, b, hg, hz]
  rfl
end Fw
set_option Elab.async false
set_option linter.all false
set_option maxRecDepth 100000
namespace Fw
open PySem PySem.Spec PyProof.Rows L2
inductive T where
  | int (i : Int)
  | str (x : Str)
  | tup (l : List T)
mutual
def T.sz : T → Nat
  | .int _ => 1
  | .str _ => 1
  | .tup l => 1 + szs l
def szs : List T → Nat
  | [] => 0
  | t :: r => t.sz + szs r
end
mutual
inductive Rep (H : Hp) : V → T → Prop where
  | int (i : Int) : Rep H (.int i) (.int i)
  | str (x : Str) (h : x.length ≤ 100000) : Rep H (.str x) (.str x)
  | tup {a : Addr} {vs : List V} {ts : List T} (h : H a = some (.tup vs)) (r : Reps H vs ts) : Rep H (.ref a) (.tup ts)
inductive Reps (H : Hp) : List V → List T → Prop where
  | nil : Reps H [] []
  | cons {v : V} {t : T} {vs : List V} {ts : List T} (r : Rep H v t) (q : Reps H vs ts) : Reps H (v :: vs) (t :: ts)
end
mutual
theorem Rep.mono {H H' : Hp} (e : ∀ b xs, H b = some (.tup xs) → H' b = some (.tup xs)) : ∀ {v : V} {t : T}, Rep H v t → Rep H' v t
  | _, _, .int i => .int i
  | _, _, .str x h => .str x h
  | _, _, .tup h r => .tup (e _ _ h) (Reps.mono e r)
theorem Reps.mono {H H' : Hp} (e : ∀ b xs, H b = some (.tup xs) → H' b = some (.tup xs)) : ∀ {vs : List V} {ts : List T}, Reps H vs ts → Reps H' vs ts
  | _, _, .nil => .nil
  | _, _, .cons r q => .cons (Rep.mono e r) (Reps.mono e q)
end
theorem Rep.same {H H' : Hp} (e : Same H H') {v : V} {t : T} (r : Rep H v t) : Rep H' v t := r.mono fun b xs h => e b _ h
theorem Reps.same {H H' : Hp} (e : Same H H') {vs : List V} {ts : List T} (r : Reps H vs ts) : Reps H' vs ts := r.mono fun b xs h => e b _ h
theorem Reps.length {H : Hp} : ∀ {vs : List V} {ts : List T}, Reps H vs ts → vs.length = ts.length
  | _, _, .nil => rfl
  | _, _, .cons _ q => congrArg (· + 1) q.length
theorem Reps.append {H : Hp} : ∀ {vs ws : List V} {ts us : List T}, Reps H vs ts → Reps H ws us → Reps H (vs ++ ws) (ts ++ us)
  | _, _, _, _, .nil, q => q
  | _, _, _, _, .cons r p, q => .cons r (Reps.append p q)
theorem same_new {H : Hp} {p : Addr} (h : H p = none) (o : HO) : Same H (upd H p o) := fun b u q => by rw [upd_ne (ne_of_none q h)]; exact q
section
variable (kids : T → Option (List T))
inductive Good : T → Prop where
  | mk {t : T} {l : List T} (h : kids t = some l) (q : ∀ k ∈ l, Good k) : Good t
inductive Bad : T → Prop where
  | none {t : T} (h : kids t = none) : Bad t
  | kid {t : T} {l : List T} {k : T} (h : kids t = some l) (m : k ∈ l) (q : Bad k) : Bad t
end
def onStr (f : Str → Bool) : T → Bool
  | .str z => f z
  | _ => false
def Has (P : Program) (w : World) (K : PySem.W.Frag) (mg : Str → Option Value) (base : Heap) (k : Nat) (x : Str) (ps : List Str) (sp : Sp) : Prop :=
  ∃ f fd, FnOk P w K mg base CX0 k f fd ps sp ∧ Binds K fd ps [] ∧ PySem.W.keepIn K (.ref f) = true ∧ mg x = some (.ref f)
theorem pcall {X : Cx} {k j : Nat} {x : Str} {ps : List Str} {sp : Sp} {p pos : Pos} {e : Expr} {es : List Expr} {t : TA} (h : Has X.prog X.w X.K X.mg X.base k x ps sp) (hr : Room j X.A) (hkj : k ≤ j) (hg : Gl X x) (ha : PA X (e :: es) t)
    (hdb : (x == ("__debug__" : Str)) = false := by decide) (he : starEach (e :: es) X.env = (false, eval e X.env) :: starEach es X.env := by rfl) (hpl : (backTo pos (starEach es X.env)).any (·.1) = false := by rfl) :
    PE X (.Call (.Name x p) (e :: es) [] pos) (tCall sp [] E0 t) := by
  obtain ⟨f, fd, h1, h2, h3, h4⟩ := h
  exact pe_call h1 (hr.mono hkj) hg h4 h3 h2 .nil pass0 ha hdb he hpl
theorem pcall0 {X : Cx} {k j : Nat} {x : Str} {ps : List Str} {sp : Sp} {p pos : Pos} (h : Has X.prog X.w X.K X.mg X.base k x ps sp) (hr : Room j X.A) (hkj : k ≤ j) (hg : Gl X x)
    (hdb : (x == ("__debug__" : Str)) = false := by decide) : PE X (.Call (.Name x p) [] [] pos) (tCall sp [] E0 tNil) := by
  obtain ⟨f, fd, h1, h2, h3, h4⟩ := h
  exact pe_call0 h1 (hr.mono hkj) hg h4 h3 h2 .nil pass0 hdb
def spT (f : T → Bool) : Sp := fun vs H Q _ => ∃ v t, vs = [v] ∧ Rep H v t ∧ ∀ H', Same H H' → Q (.bl (f t)) H'
def spAllOf : Sp := fun vs H Q _ => ∃ x y, vs = [.str x, .str y] ∧ x.length ≤ 100000 ∧ ∀ H', Same H H' → Q (.bl (allS x y)) H'
end Fw
namespace Fw
open PySem PySem.Spec PyProof.Rows L2
def tyT : T → Value
  | .int _ => .type "int"
  | .str _ => .type "str"
  | .tup _ => .type "tuple"
def isStrT : T → Bool
  | .str _ => true
  | _ => false
def isTupT : T → Bool
  | .tup _ => true
  | _ => false
theorem rep_ty {K : PySem.W.Frag} {H : Hp} {v : V} {t : T} (r : Rep H v t) : TyOf K H v (tyT t) := by
  cases r with
  | int i => exact .int i
  | str x h => exact .str x
  | tup h q => exact .tup h
theorem kit_str (K : PySem.W.Frag) (t : T) : PySem.W.kitOne K (tyT t) (.type "str") = some (isStrT t) := by
  cases t with
  | int i => first | rfl | (with_unfolding_all rfl) | kernel_rfl
  | str x => first | rfl | (with_unfolding_all rfl) | kernel_rfl
  | tup l => first | rfl | (with_unfolding_all rfl) | kernel_rfl
theorem kit_tup (K : PySem.W.Frag) (t : T) : PySem.W.kitOne K (tyT t) (.type "tuple") = some (isTupT t) := by
  cases t with
  | int i => first | rfl | (with_unfolding_all rfl) | kernel_rfl
  | str x => first | rfl | (with_unfolding_all rfl) | kernel_rfl
  | tup l => first | rfl | (with_unfolding_all rfl) | kernel_rfl
structure Gb (K : PySem.W.Frag) (mg : Str → Option Value) : Prop where
  len : mg "len" = none
  all : mg "all" = none
  isi : mg "isinstance" = none
  str : mg "str" = none
  tuple : mg "tuple" = none
  list : mg "list" = none
  range : mg "range" = none
  small : ∃ t, mg "SMALL_LETTERS" = some (.str smallS t)
  great : ∃ t, mg "GREAT_LETTERS" = some (.str greatS t)
  most : ∃ t, mg "MOST_LETTERS" = some (.int 8 t)
  kept : ∃ a, mg "KEPT" = some (.ref a) ∧ ∀ H, SqT K H a (keptL.map V.str)
theorem tt1 {σ : L2.St} {H : Hp} {Q : Bool → Hp → Prop} (h : Q true H) : tTrue σ H Q := h
theorem small {n : Nat} (h : n ≤ 1000000) : n ≤ sizeLine := Nat.le_trans h (by decide)
theorem small' {n : Nat} (h : n ≤ 1000000) : n < sizeLine := Nat.lt_of_le_of_lt h (by decide)
theorem sml (n : Nat) (h : n ≤ 1000000 := by decide) : n ≤ sizeLine := small h
theorem n4 {n : Nat} (h : n < 4) : n = 0 ∨ n = 1 ∨ n = 2 ∨ n = 3 := by
  have k : ∀ n, n < 4 → (n = 0 ∨ n = 1 ∨ n = 2 ∨ n = 3) := by decide
  exact k n h
theorem n7 {n : Nat} (h : n < 7) : n = 0 ∨ n = 1 ∨ n = 2 ∨ n = 3 ∨ n = 4 ∨ n = 5 ∨ n = 6 := by
  have k : ∀ n, n < 7 → (n = 0 ∨ n = 1 ∨ n = 2 ∨ n = 3 ∨ n = 4 ∨ n = 5 ∨ n = 6) := by decide
  exact k n h
theorem i4 {e : Int} (h0 : 0 ≤ e) (h : e < 4) : e = 0 ∨ e = 1 ∨ e = 2 ∨ e = 3 := by
  obtain ⟨n, rfl⟩ := Int.eq_ofNat_of_zero_le h0
  rcases n4 (n := n) (Int.ofNat_lt.mp h) with rfl | rfl | rfl | rfl <;> simp
theorem i7 {e : Int} (h0 : 0 ≤ e) (h : e < 7) : e = 0 ∨ e = 1 ∨ e = 2 ∨ e = 3 ∨ e = 4 ∨ e = 5 ∨ e = 6 := by
  obtain ⟨n, rfl⟩ := Int.eq_ofNat_of_zero_le h0
  rcases n7 (n := n) (Int.ofNat_lt.mp h) with rfl | rfl | rfl | rfl | rfl | rfl | rfl <;> simp
theorem eqV_str (a b : Str) : eqV (.str a) (.str b) = decide (a = b) := by
  show (a == b) = _
  rw [Bool.eq_iff_iff]
  simp
theorem inV_str (z : Str) : ∀ l : List Str, inV (.str z) (l.map V.str) = decide (z ∈ l)
  | [] => by simp [inV]
  | a :: r => by
    have ih := inV_str z r
    unfold inV at ih ⊢
    rw [List.map_cons, List.any_cons, ih, eqV_str, Bool.eq_iff_iff]
    simp only [Bool.or_eq_true, decide_eq_true_eq, List.mem_cons]
    constructor
    · rintro (h | h)
      · exact .inl h.symm
      · exact .inr h
    · rintro (h | h)
      · exact .inl h.symm
      · exact .inr h
theorem flat_strs : ∀ l : List Str, (l.map V.str).all flatV = true
  | [] => rfl
  | a :: r => by rw [List.map_cons, List.all_cons, flat_strs r]; rfl
end Fw
set_option Elab.async false
set_option linter.all false
set_option maxRecDepth 100000
namespace Fw
open PySem PySem.Spec PyProof.Rows L2
theorem dot_eq : (Str.ofString "." : Str) = ⟨#[46]⟩ := by decide +kernel
theorem qm_eq : (Str.ofString "?" : Str) = ⟨#[63]⟩ := by decide +kernel
theorem starts_qm (z : Str) : Txt.startswith z "?" = decide (z.cps.toList.head? = some 63) := by
  rw [qm_eq]
  unfold Txt.startswith
  obtain ⟨a⟩ := z
  obtain ⟨l⟩ := a
  cases l with
  | nil => rfl
  | cons c r =>
    simp [Builtin.Str.subAt, Str.length, Nat.all]
    rw [Bool.eq_iff_iff]
    simp
theorem smallB_lo {z : Str} (h : ¬ 1 ≤ z.length) : smallB z = false := by
  unfold smallB okLen
  rw [decide_eq_false h]
  rfl
theorem smallB_hi {z : Str} (h : ¬ z.length ≤ 8) : smallB z = false := by
  unfold smallB okLen
  rw [decide_eq_false h]
  simp
theorem smallB_in {z : Str} (h1 : 1 ≤ z.length) (h2 : z.length ≤ 8) : smallB z = allS z smallS := by
  unfold smallB okLen
  rw [decide_eq_true h1, decide_eq_true h2]
  simp
theorem greatB_lo {z : Str} (h : ¬ 1 ≤ z.length) : greatB z = false := by
  unfold greatB okLen
  rw [decide_eq_false h]
  rfl
theorem greatB_hi {z : Str} (h : ¬ z.length ≤ 8) : greatB z = false := by
  unfold greatB okLen
  rw [decide_eq_false h]
  simp
theorem greatB_in {z : Str} (h1 : 1 ≤ z.length) (h2 : z.length ≤ 8) : greatB z = (inS greatS (z.cps.toList.getD 0 0) && allS (restS z) smallS) := by
  unfold greatB okLen
  rw [decide_eq_true h1, decide_eq_true h2]
  simp
theorem rest_slice {z : Str} (h : 1 ≤ z.length) : Txt.slice z (some 1) none = restS z := slice1 z h
theorem rest_len (z : Str) : (restS z).length ≤ z.length := by
  rw [← len_toList, ← len_toList]
  unfold restS
  simp
theorem first_at {z : Str} (h : 1 ≤ z.length) : atI z.cps.toList (0 : Int) = some (z.cps.toList.getD 0 0) := by
  refine atI_nat (j := 0) ?_
  have : 0 < z.cps.toList.length := by rw [len_toList]; exact h
  rw [List.getElem?_eq_getElem this]
  simp [List.getD_eq_getElem?_getD, List.getElem?_eq_getElem this]
theorem pathB_two {z a b : Str} (h : Txt.split z "." = [a, b]) : pathB z = (greatB a && nameB b) := by
  have q := split_eq z 46
  rw [← dot_eq, h] at q
  unfold pathB
  rw [← q]
  show (greatB ⟨a.cps.toList.toArray⟩ && nameB ⟨b.cps.toList.toArray⟩) = _
  have e1 : (⟨a.cps.toList.toArray⟩ : Str) = a := str_ext (by simp)
  have e2 : (⟨b.cps.toList.toArray⟩ : Str) = b := str_ext (by simp)
  rw [e1, e2]
theorem pathB_other {z : Str} (h : (Txt.split z ".").length ≠ 2) : pathB z = false := by
  have q := split_eq z 46
  rw [← dot_eq] at q
  have q2 := congrArg List.length q
  rw [List.length_map] at q2
  unfold pathB
  split
  · rename_i a b e
    rw [e] at q2
    exact absurd q2 h
  · rfl
theorem split_short (z : Str) : (Txt.split z ".").length ≤ z.length + 1 := by
  have := split_weight z "." (by decide +kernel)
  exact Nat.le_trans (Nat.le_add_left _ _) this
end Fw
set_option Elab.async false
set_option linter.all false
set_option maxRecDepth 100000
namespace Fw
open PySem PySem.Spec PyProof.Rows L2
section
variable {ta tb tc : TE} {t u : TT} {σ : L2.St} {H : Hp} {v x y z : V} {c c1 c2 : Bool} {K : PySem.W.Frag}
end
end Fw
set_option Elab.async false
set_option linter.all false
set_option maxRecDepth 100000
namespace L2
open PySem PySem.Spec PyProof.Rows
theorem mt_stripC {X : Cx} : MtR X "str.strip" (fun x xs H Q => ∃ z y, x = V.str z ∧ xs = [.str y] ∧ z.length ≤ sizeLine ∧ Q (.str (Txt.stripChars z y)) H) := by
  intro pins s σ H x xs v us Q I rx rs h
  obtain ⟨z, y, rfl, rfl, hz, q⟩ := h
  obtain ⟨t, rfl⟩ := rx
  obtain ⟨u, rfl, ru⟩ := vals1 rs
  obtain ⟨t', rfl⟩ := ru
  exact SCL.stripChars (fun t2 k _ => ⟨.str (Txt.stripChars z y), H, I.tok k, ⟨t2, rfl⟩, q⟩) hz
end L2
namespace Fw
open PySem PySem.Spec PyProof.Rows L2
theorem empty_len {x : Str} (h : x.length = 0) : x = "" := by
  obtain ⟨c⟩ := x
  have e : c = #[] := Array.eq_empty_of_size_eq_zero h
  rw [e]
  decide +kernel
theorem tw_all {α : Type} (p : α → Bool) : ∀ l : List α, l.all p = true → l.takeWhile p = l
  | [], _ => rfl
  | a :: r, h => by
    rw [List.all_cons, Bool.and_eq_true] at h
    rw [List.takeWhile_cons, if_pos h.1, tw_all p r h.2]
theorem tw_len {α : Type} (p : α → Bool) : ∀ l : List α, l.all p = false → (l.takeWhile p).length < l.length
  | [], h => by cases h
  | a :: r, h => by
    rw [List.takeWhile_cons]
    by_cases c : p a = true
    · rw [if_pos c]
      rw [List.all_cons, c, Bool.true_and] at h
      exact Nat.succ_lt_succ (tw_len p r h)
    · rw [if_neg c]
      exact Nat.succ_pos _
theorem tw_drop {α : Type} (p : α → Bool) : ∀ l : List α, l.all p = false → (l.drop (l.takeWhile p).length).all p = false
  | [], h => by cases h
  | a :: r, h => by
    rw [List.takeWhile_cons]
    by_cases c : p a = true
    · rw [if_pos c]
      rw [List.all_cons, c, Bool.true_and] at h
      exact tw_drop p r h
    · rw [if_neg c]
      exact h
theorem strip_len (x y : Str) : (Txt.stripChars x y).length = 0 ↔ allS x y = true := by
  have hn : x.cps.toList.length = x.length := len_toList x
  have ep : ∀ c, y.cps.contains c = inS y c := fun c => by
    unfold inS
    rw [← Array.contains_toList]
    exact List.contains_eq_mem c y.cps.toList
  have ef : (fun c => y.cps.contains c) = inS y := funext ep
  unfold Txt.stripChars Txt.stripBy stripSame stripped stripHi stripLo
  simp only [if_true]
  have ef' : y.cps.contains = inS y := ef
  rw [ef']
  have ea : allS x y = x.cps.toList.all (inS y) := rfl
  rw [ea]
  generalize x.cps.toList = l at hn
  by_cases h : l.all (inS y) = true
  · rw [tw_all _ l h, List.drop_eq_nil_of_le (Nat.le_refl _)]
    refine ⟨fun _ => h, fun _ => ?_⟩
    show (if (l.length == 0 && x.length - 0 == x.length) = true then x else Builtin.Str.strSub x l.length (x.length - 0)).length = 0
    by_cases hc : (l.length == 0 && x.length - 0 == x.length) = true
    · rw [if_pos hc]
      rw [Bool.and_eq_true, beq_iff_eq, beq_iff_eq] at hc
      omega
    · rw [if_neg hc]
      show (x.cps.extract l.length (x.length - 0)).size = 0
      rw [Array.size_extract]
      omega
  · have h' : l.all (inS y) = false := by simpa using h
    have a1 := tw_len _ l h'
    have a2 := tw_drop _ l h'
    rw [← List.all_reverse] at a2
    have a3 := tw_len _ _ a2
    rw [List.length_reverse, List.length_drop] at a3
    refine ⟨fun hz => ?_, fun h2 => absurd h2 h⟩
    exfalso
    split at hz
    · omega
    · have hz' : (x.cps.extract (List.takeWhile (inS y) l).length (x.length - (List.takeWhile (inS y) (List.drop (List.takeWhile (inS y) l).length l).reverse).length)).size = 0 := hz
      rw [Array.size_extract] at hz'
      have hs : x.cps.size = x.length := rfl
      omega
theorem strip_is (x y : Str) : decide (V.str (Txt.stripChars x y) = V.str "") = allS x y := by
  have h := strip_len x y
  by_cases c : allS x y = true
  · rw [c]
    exact decide_eq_true (congrArg V.str (empty_len (h.mpr c)))
  · have c' : allS x y = false := by simpa using c
    rw [c']
    refine decide_eq_false fun e => c (h.mp ?_)
    injection e with e'
    rw [e']
    decide +kernel
end Fw
set_option Elab.async false
set_option linter.all false
set_option maxRecDepth 100000
namespace Fw
open PySem PySem.Spec PyProof.Rows L2
def top (i : Nat) : Stmt := PySem.Challenge.pw_facework_k02_no_texts.main.body.getD i (.Pass ⟨0, 0, 0, 0⟩)
section
variable {P : Program} {w : World} {K : PySem.W.Frag} {mg : Str → Option Value} {base : Heap} {f : Addr} {fd : FuncData}
abbrev s_all_of : Stmt := top 23
theorem sc_all_of : FnScope ["text", "signs"] ["text", "signs"] (defScope s_all_of) := ⟨rfl, rfl, rfl, by decide +kernel, rfl, by decide +kernel, by decide +kernel⟩
theorem ok_all_of (F : Fun K "all_of" "all_of" s_all_of f fd) (G : Gb K mg) : FnOk P w K mg base CX0 1 f fd ["text", "signs"] spAllOf := by
  refine F.ok sc_all_of (len := fun vs H Q E h => (by obtain ⟨x, y, rfl, _⟩ := h; rfl)) (fun cdv A outer s H vs Q E hr h => ?_)
  obtain ⟨x, y, rfl, hx, q⟩ := h
  refine ⟨_, pss_one (ps_ret (pe_cmpR op_eq (pe_bm PySem.F.plainAttrs_str PySem.F.slot_str_strip PySem.F.type_str_strip mt_stripC (pv 0) (pa_cons (pv 1) pa_nil)) pe_str (nomark _))), ?_⟩
  refine ⟨_, rfl, rfl, _, rfl, x, y, rfl, rfl, small (by omega), rfl, ?_⟩
  rw [strip_is]
  exact q H (Same.refl H)
abbrev s_is_small : Stmt := top 24
theorem sc_is_small : FnScope ["thing"] ["thing"] (defScope s_is_small) := ⟨rfl, rfl, rfl, by decide +kernel, rfl, by decide +kernel, by decide +kernel⟩
theorem ok_is_small (F : Fun K "is_small" "is_small" s_is_small f fd) (G : Gb K mg) (h1 : Has P w K mg base 1 "all_of" ["text", "signs"] spAllOf) : FnOk P w K mg base CX0 2 f fd ["thing"] (spT (onStr smallB)) := by
  refine F.ok sc_is_small (len := fun vs H Q E h => (by obtain ⟨v, t, rfl, _⟩ := h; rfl)) (fun cdv A outer s H vs Q E hr h => ?_)
  obtain ⟨v, t, rfl, rt, q⟩ := h
  obtain ⟨t1, hsm⟩ := G.small
  obtain ⟨t2, hmo⟩ := G.most
  refine ⟨_, pss_one (ps_ret (pe_and (pe_callB call_isi rfl G.isi boot_isinstance (pa_cons (pv 0) (pa_cons (pe_bltn (v := .ty "str") rfl G.str boot_str rfl) pa_nil)))
    (pe_and (pe_chain op_le op_le pe_int (pe_callB call_len_str rfl G.len PySem.boot_len (pa_cons (pv 0) pa_nil)) (pe_glob (v := .int 8) rfl hmo ⟨_, rfl⟩))
      (pe_one (pcall h1 hr (by decide) rfl (pa_cons (pv 0) (pa_cons (pe_glob (v := .str smallS) rfl hsm ⟨_, rfl⟩) pa_nil))))))), ?_⟩
  refine ⟨_, rfl, _, _, _, _, rfl, rep_ty rt, kit_str K t, _, rfl, ?_⟩
  cases rt with
  | int i => exact iteF (q H (Same.refl H))
  | tup h r => exact iteF (q H (Same.refl H))
  | str z hz =>
    have q' : ∀ H', Same H H' → Q (.bl (smallB z)) H' := q
    refine iteT ⟨_, rfl, z, rfl, small (by omega), 1, z.length, rfl, rfl, _, rfl, ?_⟩
    refine ite2 (fun c => ?_) (fun c => ?_)
    · have c1 : (1 : Int) ≤ z.length := of_decide_eq_true c
      refine ⟨_, _, rfl, rfl, _, rfl, ?_⟩
      refine ite2 (fun d => ?_) (fun d => ?_)
      · have d1 : (z.length : Int) ≤ 8 := of_decide_eq_true d
        rw [smallB_in (by omega) (by omega)] at q'
        exact ⟨_, rfl, z, smallS, rfl, hz, q'⟩
      · have d1 : ¬ (z.length : Int) ≤ 8 := of_decide_eq_false (Bool.eq_false_iff.mpr d)
        rw [smallB_hi (by omega)] at q'
        exact q' H (Same.refl H)
    · have c1 : ¬ (1 : Int) ≤ z.length := of_decide_eq_false (Bool.eq_false_iff.mpr c)
      rw [smallB_lo (by omega)] at q'
      exact ⟨_, rfl, iteF (q' H (Same.refl H))⟩
abbrev s_is_name : Stmt := top 25
theorem sc_is_name : FnScope ["thing"] ["thing"] (defScope s_is_name) := ⟨rfl, rfl, rfl, by decide +kernel, rfl, by decide +kernel, by decide +kernel⟩
theorem ok_is_name (F : Fun K "is_name" "is_name" s_is_name f fd) (G : Gb K mg) (h1 : Has P w K mg base 2 "is_small" ["thing"] (spT (onStr smallB))) : FnOk P w K mg base CX0 3 f fd ["thing"] (spT (onStr nameB)) := by
  refine F.ok sc_is_name (len := fun vs H Q E h => (by obtain ⟨v, t, rfl, _⟩ := h; rfl)) (fun cdv A outer s H vs Q E hr h => ?_)
  obtain ⟨v, t, rfl, rt, q⟩ := h
  obtain ⟨a, hke, hkt⟩ := G.kept
  refine ⟨_, pss_one (ps_ret (pe_and (pcall h1 hr (by decide) rfl (pa_cons (pv 0) pa_nil)) (pe_one (pe_cmpR op_notIn_seq (pv 0) (pe_glob (v := .ref a) rfl hke rfl) (by with_unfolding_all rfl))))), ?_⟩
  refine ⟨_, rfl, v, t, rfl, rt, fun H' e => ⟨_, rfl, ?_⟩⟩
  cases rt with
  | int i => exact iteF (q H' e)
  | tup h r => exact iteF (q H' e)
  | str z hz =>
    have q' : ∀ H', Same H H' → Q (.bl (nameB z)) H' := q
    show if smallB z = true then _ else _
    cases hs : smallB z with
    | false =>
      unfold nameB at q'
      rw [hs] at q'
      exact iteF (q' H' e)
    | true =>
      unfold nameB at q'
      rw [hs] at q'
      refine iteT ⟨_, rfl, a, keptL.map V.str, rfl, .inr (hkt H'), rfl, flat_strs _, ?_⟩
      rw [if_pos rfl, inV_str]
      exact q' H' e
abbrev s_is_great : Stmt := top 26
theorem sc_is_great : FnScope ["thing"] ["thing"] (defScope s_is_great) := ⟨rfl, rfl, rfl, by decide +kernel, rfl, by decide +kernel, by decide +kernel⟩
theorem ok_is_great (F : Fun K "is_great" "is_great" s_is_great f fd) (G : Gb K mg) (h1 : Has P w K mg base 1 "all_of" ["text", "signs"] spAllOf) : FnOk P w K mg base CX0 2 f fd ["thing"] (spT (onStr greatB)) := by
  refine F.ok sc_is_great (len := fun vs H Q E h => (by obtain ⟨v, t, rfl, _⟩ := h; rfl)) (fun cdv A outer s H vs Q E hr h => ?_)
  obtain ⟨v, t, rfl, rt, q⟩ := h
  obtain ⟨t1, hsm⟩ := G.small
  obtain ⟨t2, hmo⟩ := G.most
  obtain ⟨t3, hgr⟩ := G.great
  refine ⟨_, pss_cons (ps_if (PW.pt (pw_or (pt_not (pt_val (pe_callB call_isi rfl G.isi boot_isinstance (pa_cons (pv 0) (pa_cons (pe_bltn (v := .ty "str") rfl G.str boot_str rfl) pa_nil)))))
      (pw_or1 (pt_not (pt_chain op_le op_le pe_int (pe_callB call_len_str rfl G.len PySem.boot_len (pa_cons (pv 0) pa_nil)) (pe_glob (v := .int 8) rfl hmo ⟨_, rfl⟩)))))) (pss_one (ps_ret pe_bl)) pss_nil)
    (pss_one (ps_ret (pe_and (pe_cmpR op_in_str (pe_ix ix_str (pv 0) pe_int (fun _ _ => rfl)) (pe_glob (v := .str greatS) rfl hgr ⟨_, rfl⟩) (by with_unfolding_all rfl))
      (pe_one (pcall h1 hr (by decide) rfl (pa_cons (pe_slice sl_str (pv 0) (po_some pe_int) po_none) (pa_cons (pe_glob (v := .str smallS) rfl hsm ⟨_, rfl⟩) pa_nil))))))), ?_⟩
  refine ⟨_, rfl, _, _, _, _, rfl, rep_ty rt, kit_str K t, _, rfl, ?_⟩
  cases rt with
  | int i => exact iteT (iteT (q H (Same.refl H)))
  | tup h r => exact iteT (iteT (q H (Same.refl H)))
  | str z hz =>
    have q' : ∀ H', Same H H' → Q (.bl (greatB z)) H' := q
    refine iteF ⟨_, rfl, z, rfl, small (by omega), 1, z.length, rfl, rfl, _, rfl, ?_⟩
    refine ite2 (fun c => ?_) (fun c => ?_)
    · have c1 : (1 : Int) ≤ z.length := of_decide_eq_true c
      refine ⟨_, _, rfl, rfl, _, rfl, ?_⟩
      refine ite2 (fun d => ?_) (fun d => ?_)
      · have d1 : ¬ (z.length : Int) ≤ 8 := of_decide_eq_false (by simpa using d)
        rw [greatB_hi (by omega)] at q'
        exact q' H (Same.refl H)
      · have d1 : (z.length : Int) ≤ 8 := of_decide_eq_true (by simpa using d)
        rw [greatB_in (by omega) (by omega)] at q'
        refine ⟨_, rfl, z, 0, _, rfl, rfl, small (by omega), first_at (by omega), _, _, rfl, rfl, _, rfl, ?_⟩
        rw [StrLaws.found_one]
        show if inS greatS (z.cps.toList.getD 0 0) = true then _ else _
        cases hg : inS greatS (z.cps.toList.getD 0 0) with
        | false =>
          rw [hg] at q'
          exact iteF (q' H (Same.refl H))
        | true =>
          rw [hg, Bool.true_and] at q'
          refine iteT ⟨_, rfl, 1, rfl, z, rfl, small (by omega), ?_⟩
          have rl := rest_len z
          refine ⟨restS z, smallS, ?_, by omega, q'⟩
          rw [rest_slice (by omega)]
          rfl
    · have c1 : ¬ (1 : Int) ≤ z.length := of_decide_eq_false (Bool.eq_false_iff.mpr c)
      rw [greatB_lo (by omega)] at q'
      exact ⟨_, rfl, iteT (q' H (Same.refl H))⟩
abbrev s_is_path : Stmt := top 27
theorem sc_is_path : FnScope ["thing", "sides"] ["thing"] (defScope s_is_path) := ⟨rfl, rfl, rfl, by decide +kernel, rfl, by decide +kernel, by decide +kernel⟩
theorem ok_is_path (F : Fun K "is_path" "is_path" s_is_path f fd) (G : Gb K mg) (h1 : Has P w K mg base 3 "is_name" ["thing"] (spT (onStr nameB))) (h2 : Has P w K mg base 2 "is_great" ["thing"] (spT (onStr greatB))) : FnOk P w K mg base CX0 4 f fd ["thing"] (spT (onStr pathB)) := by
  refine F.ok sc_is_path (len := fun vs H Q E h => (by obtain ⟨v, t, rfl, _⟩ := h; rfl)) (fun cdv A outer s H vs Q E hr h => ?_)
  obtain ⟨v, t, rfl, rt, q⟩ := h
  refine ⟨_, pss_cons (ps_if (pt_not (pt_val (pe_callB call_isi rfl G.isi boot_isinstance (pa_cons (pv 0) (pa_cons (pe_bltn (v := .ty "str") rfl G.str boot_str rfl) pa_nil))))) (pss_one (ps_ret pe_bl)) pss_nil)
    (pss_cons (ps_set (i := 1) sc_is_path.nd rfl (Or.inl rfl) (pe_bm PySem.F.plainAttrs_str PySem.F.slot_str_split PySem.F.type_str_split mt_split (pv 0) (pa_cons pe_str pa_nil)))
      (pss_one (ps_ret (pe_and (pe_cmpR op_eq (pe_callB call_len_seq rfl G.len PySem.boot_len (pa_cons (pv 1) pa_nil)) pe_int (nomark _))
        (pe_and (pcall h2 hr (by decide) rfl (pa_cons (pe_ix ix_list (pv 1) pe_int (fun _ _ => rfl)) pa_nil))
          (pe_one (pcall h1 hr (by decide) rfl (pa_cons (pe_ix ix_list (pv 1) pe_int (fun _ _ => rfl)) pa_nil)))))))), ?_⟩
  refine ⟨_, rfl, _, _, _, _, rfl, rep_ty rt, kit_str K t, _, rfl, ?_⟩
  cases rt with
  | int i => exact iteT (q H (Same.refl H))
  | tup h r => exact iteT (q H (Same.refl H))
  | str z hz =>
    have q' : ∀ H', Same H H' → Q (.bl (pathB z)) H' := q
    have sl := split_short z
    refine iteF ⟨_, rfl, rfl, z, ".", rfl, rfl, small (by omega), by decide +kernel, small (by omega), fun l hl => ?_⟩
    have g1 := same_new hl (.lst ((Txt.split z ".").map V.str))
    refine ⟨_, rfl, l, _, rfl, .inl (SqL.of upd_same), rfl, _, rfl, ?_⟩
    refine ite2 (fun c => ?_) (fun c => ?_)
    · have c1 : (Txt.split z ".").length = 2 := by
        have := of_decide_eq_true c
        injection this with e
        rw [List.length_map] at e
        omega
      obtain ⟨a, b, e⟩ : ∃ a b, Txt.split z "." = [a, b] := by
        match hh : Txt.split z ".", c1 with
        | [a, b], _ => exact ⟨a, b, rfl⟩
      have la : a.length ≤ z.length := part_short (y := ".") (by rw [e]; simp)
      have lb : b.length ≤ z.length := part_short (y := ".") (by rw [e]; simp)
      rw [pathB_two e] at q'
      refine ⟨_, rfl, l, _, 0, .str a, rfl, rfl, SqL.of upd_same, atI_nat (j := 0) (by rw [e]; rfl), .str a, .str a, rfl, .str a (by omega), fun H2 e2 => ⟨_, rfl, ?_⟩⟩
      show if greatB a = true then _ else _
      cases hg : greatB a with
      | false =>
        rw [hg] at q'
        exact iteF (q' H2 (g1.trans e2))
      | true =>
        rw [hg, Bool.true_and] at q'
        refine iteT ⟨_, rfl, l, _, 1, .str b, rfl, rfl, SqL.of (e2 _ _ upd_same), atI_nat (j := 1) (by rw [e]; rfl), .str b, .str b, rfl, .str b (by omega), fun H3 e3 => q' H3 (g1.trans (e2.trans e3))⟩
    · have c1 : (Txt.split z ".").length ≠ 2 := fun e => c (by rw [List.length_map, e]; rfl)
      rw [pathB_other c1] at q'
      exact q' _ g1
end
section
variable {P : Program} {w : World} {K : PySem.W.Frag} {mg : Str → Option Value} {base : Heap} {f : Addr} {fd : FuncData}
abbrev s_is_variable : Stmt := top 28
theorem sc_is_variable : FnScope ["thing"] ["thing"] (defScope s_is_variable) := ⟨rfl, rfl, rfl, by decide +kernel, rfl, by decide +kernel, by decide +kernel⟩
theorem ok_is_variable (F : Fun K "is_variable" "is_variable" s_is_variable f fd) (G : Gb K mg) (h1 : Has P w K mg base 2 "is_small" ["thing"] (spT (onStr smallB))) : FnOk P w K mg base CX0 3 f fd ["thing"] (spT (onStr varB)) := by
  refine F.ok sc_is_variable (len := fun vs H Q E h => (by obtain ⟨v, t, rfl, _⟩ := h; rfl)) (fun cdv A outer s H vs Q E hr h => ?_)
  obtain ⟨v, t, rfl, rt, q⟩ := h
  refine ⟨_, pss_one (ps_ret (pe_and (pe_callB call_isi rfl G.isi boot_isinstance (pa_cons (pv 0) (pa_cons (pe_bltn (v := .ty "str") rfl G.str boot_str rfl) pa_nil)))
    (pe_and (pe_bm PySem.F.plainAttrs_str PySem.F.slot_str_startswith PySem.F.type_str_startswith mt_startswith (pv 0) (pa_cons pe_str pa_nil))
      (pe_one (pcall h1 hr (by decide) rfl (pa_cons (pe_slice sl_str (pv 0) (po_some pe_int) po_none) pa_nil)))))), ?_⟩
  refine ⟨_, rfl, _, _, _, _, rfl, rep_ty rt, kit_str K t, _, rfl, ?_⟩
  cases rt with
  | int i => exact iteF (q H (Same.refl H))
  | tup h r => exact iteF (q H (Same.refl H))
  | str z hz =>
    have q' : ∀ H', Same H H' → Q (.bl (varB z)) H' := q
    refine iteT ⟨_, rfl, rfl, z, "?", rfl, rfl, _, rfl, ?_⟩
    rw [starts_qm]
    unfold varB at q'
    cases hh : decide (z.cps.toList.head? = some 63) with
    | false =>
      rw [hh] at q'
      exact iteF (q' H (Same.refl H))
    | true =>
      rw [hh, Bool.true_and] at q'
      have h63 := of_decide_eq_true hh
      have hl : 1 ≤ z.length := by
        rw [← len_toList]
        cases e : z.cps.toList with
        | nil => rw [e] at h63; cases h63
        | cons c r => simp
      have rl := rest_len z
      refine iteT ⟨_, rfl, 1, rfl, z, rfl, small (by omega), ?_⟩
      refine ⟨.str (restS z), .str (restS z), ?_, .str _ (by omega), q'⟩
      rw [rest_slice hl]
      rfl
end
def StOk (H : Hp) (st : Addr) : Prop := ∃ ns : List Int, ns ≠ [] ∧ ns.length ≤ 100 ∧ H st = some (.lst (ns.map V.int))
def Grow (st : Addr) (H H' : Hp) : Prop := (∀ b o, b ≠ st → H b = some o → H' b = some o) ∧ StOk H' st
theorem Grow.refl {st : Addr} {H : Hp} (h : StOk H st) : Grow st H H := ⟨fun _ _ _ e => e, h⟩
theorem Grow.trans {st : Addr} {H H1 H2 : Hp} (a : Grow st H H1) (b : Grow st H1 H2) : Grow st H H2 := ⟨fun c o hc e => b.1 c o hc (a.1 c o hc e), b.2⟩
theorem Grow.ok {st : Addr} {H H' : Hp} (a : Grow st H H') : StOk H' st := a.2
theorem StOk.same {st : Addr} {H H' : Hp} (h : StOk H st) (e : Same H H') : StOk H' st := by
  obtain ⟨ns, h1, h2, h3⟩ := h
  exact ⟨ns, h1, h2, e _ _ h3⟩
theorem grow_same {st : Addr} {H H' : Hp} (h : StOk H st) (e : Same H H') : Grow st H H' := ⟨fun b o _ q => e b o q, h.same e⟩
theorem grow_new {st p : Addr} {H : Hp} {o : HO} (h : StOk H st) (hp : H p = none) : Grow st H (upd H p o) := grow_same h (same_new hp o)
theorem grow_set {st : Addr} {H : Hp} {ns : List Int} (h1 : ns ≠ []) (h2 : ns.length ≤ 100) : Grow st H (upd H st (.lst (ns.map V.int))) := ⟨fun b o hb e => by rw [upd_ne hb]; exact e, ns, h1, h2, upd_same⟩
theorem StOk.ne_tup {st b : Addr} {H : Hp} {xs : List V} (h : StOk H st) (e : H b = some (.tup xs)) : b ≠ st := by
  obtain ⟨ns, _, _, h3⟩ := h
  exact ne_of e h3 (by intro z; cases z)
theorem Grow.tups {st : Addr} {H H' : Hp} (a : Grow st H H') (h : StOk H st) : ∀ b xs, H b = some (.tup xs) → H' b = some (.tup xs) := fun b xs e => a.1 b _ (h.ne_tup e) e
theorem Rep.grow {st : Addr} {H H' : Hp} {v : V} {t : T} (r : Rep H v t) (a : Grow st H H') (h : StOk H st) : Rep H' v t := r.mono (a.tups h)
theorem Reps.grow {st : Addr} {H H' : Hp} {vs : List V} {ts : List T} (r : Reps H vs ts) (a : Grow st H H') (h : StOk H st) : Reps H' vs ts := r.mono (a.tups h)
theorem ix0 (k : Nat) : ixN (k + 1) 0 = some 0 := by
  unfold ixN
  rw [if_pos (by omega), if_pos (by omega)]
  rfl
theorem sq0 (k : Nat) : seqIndex? 0 (k + 1) = some 0 := (ixN_seq (ix0 k)).1
def spNext : Sp := fun vs H Q _ => ∃ (st : Addr) (m : Int), vs = [.ref st, .int m] ∧ StOk H st ∧ 0 < m ∧ m < 1000000 ∧ ∀ (d : Int) H', 0 ≤ d → d < m → Grow st H H' → Q (.int d) H'
section
variable {P : Program} {w : World} {K : PySem.W.Frag} {mg : Str → Option Value} {base : Heap} {f : Addr} {fd : FuncData}
abbrev s_next : Stmt := top 84
theorem sc_next : FnScope ["_law_state", "_law_many", "_law_digit"] ["_law_state", "_law_many"] (defScope s_next) := ⟨rfl, rfl, rfl, by decide +kernel, rfl, by decide +kernel, by decide +kernel⟩
theorem ok_next (F : Fun K "_law_next" "_law_next" s_next f fd) (ml : mg "len" = none) : FnOk P w K mg base CX0 1 f fd ["_law_state", "_law_many"] spNext := by
  refine F.ok sc_next (len := fun vs H Q E h => (by obtain ⟨st, m, rfl, _⟩ := h; rfl)) (fun cdv A outer s H vs Q E hr h => ?_)
  obtain ⟨st, m, rfl, hs, m0, m1, q⟩ := h
  obtain ⟨ns, hne, hle, hst⟩ := id hs
  refine ⟨_, pss_cons (ps_if (pt_cmpR op_gt (pe_callB call_len_seq rfl ml PySem.boot_len (pa_cons (pv 0) pa_nil)) pe_int (nomark _))
      (pss_cons (ps_set (i := 2) sc_next.nd rfl (Or.inl rfl) (pe_op op_mod (pe_ix ix_list (pv 0) pe_int (fun _ _ => rfl)) (pv 1)))
      (pss_cons (ps_asg (pe_op op_fdiv (pe_ix ix_list (pv 0) pe_int (fun _ _ => rfl)) (pv 1)) (pg_sub (pv 0) pe_int set_list))
      (pss_cons (ps_if (pt_cmpR op_in_seq (pe_ix ix_list (pv 0) pe_int (fun _ _ => rfl)) (pe_tup (pa_cons pe_int (pa_cons (pe_un un_neg pe_int) pa_nil))) (by with_unfolding_all rfl))
        (pss_one (ps_expr (pe_bm PySem.F.plainAttrs_list PySem.F.slot_list_pop PySem.F.type_list_pop mt_popAt (pv 0) (pa_cons pe_int pa_nil)))) pss_nil)
      (pss_one (ps_ret (pv 2)))))) pss_nil)
    (pss_cons (ps_asg (pe_op op_mod (pe_op op_add (pe_op op_mul (pe_ix ix_list (pv 0) pe_int (fun _ _ => rfl)) pe_int) pe_int) (pe_op op_sub (pe_op op_pow pe_int pe_int) pe_int)) (pg_sub (pv 0) pe_int set_list))
    (pss_one (ps_ret (pe_op op_mod (pe_op op_fdiv (pe_ix ix_list (pv 0) pe_int (fun _ _ => rfl)) pe_int) (pv 1))))), ?_⟩
  cases ns with
  | nil => exact absurd rfl hne
  | cons n r =>
    refine ⟨_, rfl, st, _, rfl, .inl (SqL.of hst), _, _, rfl, rfl, _, rfl, ?_⟩
    refine ite2 (fun c => ?_) (fun c => ?_)
    · have c1 : (1 : Int) < (((n :: r).map V.int).length : Nat) := of_decide_eq_true c
      have hr0 : r ≠ [] := fun e => by rw [e] at c1; simp at c1
      refine ⟨_, rfl, st, _, 0, .int n, rfl, rfl, SqL.of hst, atI_nat (j := 0) rfl, _, rfl, n, m, rfl, rfl, m0, ?_⟩
      refine ⟨_, rfl, st, _, 0, .int n, rfl, rfl, SqL.of hst, atI_nat (j := 0) rfl, _, rfl, n, m, rfl, rfl, ⟨m0, by omega⟩, ?_⟩
      refine ⟨_, rfl, st, _, 0, 0, rfl, rfl, hst, by rw [List.length_map]; exact ix0 _, ?_⟩
      have g1 : Grow st H (upd H st (.lst ((n / m :: r).map V.int))) := grow_set (by simp) (by simpa using hle)
      refine ⟨_, rfl, st, _, 0, .int (n / m), rfl, rfl, SqL.of upd_same, atI_nat (j := 0) rfl, 1, rfl, small (by show 2 ≤ 1000000; decide), fun p hp => ?_⟩
      have g2 : Grow st _ (upd (upd H st (.lst ((n / m :: r).map V.int))) p (.tup [.int 0, .int (-1)])) := grow_new g1.ok hp
      refine ⟨p, [.int 0, .int (-1)], rfl, .inr (SqT.of upd_same), rfl, rfl, _, rfl, ?_⟩
      have hd0 : 0 ≤ n % m := Int.emod_nonneg _ (by omega)
      have hd1 : n % m < m := Int.emod_lt_of_pos _ m0
      have hst2 : (upd (upd H st (.lst ((n / m :: r).map V.int))) p (.tup [.int 0, .int (-1)])) st = some (.lst ((n / m :: r).map V.int)) := (same_new hp _) _ _ upd_same
      refine ite2 (fun c2 => ?_) (fun c2 => ?_)
      · refine ⟨_, rfl, .inl ⟨rfl, _, SqL.of hst2⟩, st, _, 0, 0, .int (n / m), rfl, rfl, hst2, by decide, by decide, ?_, rfl, ?_⟩
        · rw [List.length_map]
          exact sq0 _
        · refine ⟨_, rfl, q _ _ hd0 hd1 ((g1.trans g2).trans ?_)⟩
          exact grow_set (ns := r) hr0 (by simp at hle; omega)
      · exact ⟨_, rfl, q _ _ hd0 hd1 (g1.trans g2)⟩
    · refine ⟨_, rfl, st, _, 0, .int n, rfl, rfl, SqL.of hst, atI_nat (j := 0) rfl, _, _, rfl, rfl, .inr ⟨by decide, by decide⟩, _, _, rfl, rfl, _, _, rfl, rfl, ⟨by decide, by decide, by decide⟩, _, _, rfl, rfl, _, _, rfl, rfl, (by show (0 : Int) < 2 ^ 61 - 1; decide), ?_⟩
      refine ⟨_, rfl, st, _, 0, 0, rfl, rfl, hst, by rw [List.length_map]; exact ix0 _, ?_⟩
      have g1 : ∀ x, Grow st H (upd H st (.lst ((x :: r).map V.int))) := fun x => grow_set (by simp) (by simpa using hle)
      refine ⟨_, rfl, st, _, 0, .int _, rfl, rfl, SqL.of upd_same, atI_nat (j := 0) rfl, _, _, rfl, rfl, ⟨by decide, by decide⟩, _, rfl, _, _, rfl, rfl, m0, ?_⟩
      exact q _ _ (Int.emod_nonneg _ (by omega)) (Int.emod_lt_of_pos _ m0) (g1 _)
end
def spDrawn (K : PySem.W.Frag) : Sp := fun vs H Q _ => ∃ (a : Addr) (ns : List Int), vs = [.ref a] ∧ SqL K H a (ns.map V.int) ∧ ns.length ≤ 63 ∧ ∀ p H', Same H H' → H p = none → StOk H' p → Q (.ref p) H'
def spKept : Sp := fun vs H Q _ => vs = [] ∧ ∀ p H', Same H H' → H p = none → H' p = some (.lst (keptL.map V.str)) → Q (.ref p) H'
def spLetters : Sp := fun vs H Q _ => ∃ (st : Addr) (n : Nat), vs = [.ref st, .int n] ∧ StOk H st ∧ n ≤ 12 ∧ ∀ z H', IsLet z n → Grow st H H' → Q (.str z) H'
def spStr (p : Str → Prop) : Sp := fun vs H Q _ => ∃ (st : Addr), vs = [.ref st] ∧ StOk H st ∧ ∀ z H', p z → z.length ≤ 100 → Grow st H H' → Q (.str z) H'
def spInt : Sp := fun vs H Q _ => ∃ (st : Addr), vs = [.ref st] ∧ StOk H st ∧ ∀ (i : Int) H', -(10 ^ 30) < i → i < 10 ^ 30 → Grow st H H' → Q (.int i) H'
theorem at_any {α : Type} {xs : List α} {d : Int} (h0 : 0 ≤ d) (h1 : d < xs.length) : ∃ v, atI xs d = some v ∧ v ∈ xs := by
  have hd : d.toNat < xs.length := by omega
  refine ⟨xs[d.toNat], ?_, List.getElem_mem hd⟩
  have e : ((d.toNat : Nat) : Int) = d := by omega
  have q := atI_nat (xs := xs) (j := d.toNat) (v := xs[d.toNat]) (List.getElem?_eq_getElem hd)
  rw [e] at q
  exact q
theorem at_small {d : Int} (h0 : 0 ≤ d) (h1 : d < 26) : ∃ c, atI smallS.cps.toList d = some c ∧ c ∈ smallS.cps.toList :=
  at_any h0 (by rw [len_toList, smallS_len]; exact h1)
theorem at_great {d : Int} (h0 : 0 ≤ d) (h1 : d < 26) : ∃ c, atI greatS.cps.toList d = some c ∧ c ∈ greatS.cps.toList :=
  at_any h0 (by rw [len_toList, greatS_len]; exact h1)
theorem kept_split : Txt.split ("num fun call let ring case make pick plus minus times less if kind record face" ++ " hide val part maker apply main") " " = keptL := by decide +kernel
theorem kept_len8 : ∀ k ∈ keptL, k.length ≤ 20 := by decide +kernel
theorem smallS_le : smallS.length ≤ 1000 := by rw [smallS_len]; decide
theorem greatS_le : greatS.length ≤ 1000 := by rw [greatS_len]; decide
section
variable {P : Program} {w : World} {K : PySem.W.Frag} {mg : Str → Option Value} {base : Heap} {f : Addr} {fd : FuncData}
abbrev s_drawn : Stmt := top 85
theorem sc_drawn : FnScope ["_law_script", "_law_seed", "_law_cell"] ["_law_script"] (defScope s_drawn) := ⟨rfl, rfl, rfl, by decide +kernel, rfl, by decide +kernel, by decide +kernel⟩
theorem ok_drawn (F : Fun K "_law_drawn" "_law_drawn" s_drawn f fd) (ml : mg "len" = none) : FnOk P w K mg base CX0 1 f fd ["_law_script"] (spDrawn K) := by
  refine F.ok sc_drawn (len := fun vs H Q E h => (by obtain ⟨a, ns, rfl, _⟩ := h; rfl)) (fun cdv A outer s H vs Q E hr h => ?_)
  obtain ⟨a, ns, rfl, hS, h63, q⟩ := h
  refine ⟨_, pss_cons (ps_set (i := 1) sc_drawn.nd rfl (Or.inl rfl) pe_int)
    (pss_cons (ps_for PassesOwn.never rfl (pi_list (pv 0)) (pg_name (i := 2) sc_drawn.nd rfl (Or.inl rfl)) (pss_one (ps_set (i := 1) sc_drawn.nd rfl (Or.inl rfl)
      (pe_op op_mod (pe_op op_add (pe_op op_add (pe_op op_mul (pv 1) pe_int) (pe_op op_mod (pv 2) (pe_op op_pow pe_int pe_int))) pe_int) (pe_op op_sub (pe_op op_pow pe_int pe_int) pe_int)))))
    (pss_cons (ps_if (PW.pt (pw_and (pt_cmpR op_gt (pe_callB call_len_seq rfl ml PySem.boot_len (pa_cons (pv 0) pa_nil)) pe_int (nomark _)) (pw_and1 (pt_cmpR op_eq (pe_op op_mod (pe_ix ix_list (pv 0) pe_int (fun _ _ => rfl)) pe_int) pe_int (nomark _)))))
      (pss_one (ps_ret (pe_op op_cat (pe_op op_cat (pe_lst (pa_cons (pe_op op_fdiv (pe_ix ix_list (pv 0) pe_int (fun _ _ => rfl)) pe_int) pa_nil)) (pe_slice sl_list (pv 0) (po_some pe_int) (po_some pe_int))) (pe_lst (pa_cons (pv 1) pa_nil))))) pss_nil)
    (pss_one (ps_ret (pe_lst (pa_cons (pv 1) pa_nil)))))), ?_⟩
  refine ⟨_, rfl, a, rfl, ⟨_, hS⟩, for_list (xs := ns.map V.int) (fun i σ H' => H' = H ∧ ∃ (x : Int) (o : Option V), σ = [some (.ref a), some (.int x), o]) ⟨rfl, 1000003, none, rfl⟩ ?_ ?_ ?_⟩
  · rintro i σ H' _ ⟨rfl, _⟩
    exact hS
  · rintro i x σ H' hx ⟨rfl, y, o, rfl⟩
    rw [List.getElem?_map] at hx
    cases hn : ns[i]? with
    | none => rw [hn] at hx; cases hx
    | some n =>
      rw [hn] at hx
      cases hx
      refine ⟨_, rfl, _, _, rfl, rfl, .inr ⟨by decide, by decide⟩, _, rfl, _, _, rfl, rfl, ⟨by decide, by decide, by decide⟩, _, _, rfl, rfl, (by show (0 : Int) < 10 ^ 30; decide), _, _, rfl, rfl, _, _, rfl, rfl, _, _, rfl, rfl, ⟨by decide, by decide, by decide⟩, _, _, rfl, rfl, _, _, rfl, rfl, (by show (0 : Int) < 2 ^ 61 - 1; decide), ?_⟩
      exact ⟨rfl, _, _, rfl⟩
  · rintro σ H' ⟨rfl, x, o, rfl⟩
    have last : ∀ H1 D, Same H' H1 → D.rt = Q → tRet (tLst (tCons (tVar 1) tNil)) D [some (.ref a), some (.int x), o] H1 := fun H1 D e hD => by
      refine ⟨_, rfl, small (by show 1 ≤ 1000000; decide), fun p hp => ?_⟩
      rw [hD]
      exact q p _ (e.trans (same_new hp _)) (e.free hp) ⟨[x], by simp, by simp, upd_same⟩
    refine ⟨_, rfl, a, _, rfl, .inl hS, _, _, rfl, rfl, _, rfl, ?_⟩
    refine ite2 (fun c => ?_) (fun c => ?_)
    · have c1 : (0 : Int) < ((ns.map V.int).length : Nat) := of_decide_eq_true c
      cases ns with
      | nil => simp at c1
      | cons n r =>
        refine ⟨_, rfl, a, _, 0, .int n, rfl, rfl, hS, atI_nat (j := 0) rfl, _, _, rfl, rfl, (by show (0 : Int) < 2; decide), rfl, _, rfl, ?_⟩
        refine ite2 (fun c2 => ?_) (fun c2 => ?_)
        · refine ⟨_, rfl, a, _, 0, .int n, rfl, rfl, hS, atI_nat (j := 0) rfl, _, _, rfl, rfl, ⟨by decide, by decide⟩, small (by show 1 ≤ 1000000; decide), fun p1 hp1 => ?_⟩
          have e1 := same_new hp1 (.lst [V.int (n / 2)])
          refine ⟨_, rfl, 1, rfl, 63, rfl, a, _, rfl, e1.seq hS, fun p2 hp2 => ?_⟩
          have e2 := same_new hp2 (.lst (cutV ((n :: r).map V.int) (some 1) (some 63)))
          obtain ⟨ms, hms⟩ : ∃ ms : List Int, cutV ((n :: r).map V.int) (some 1) (some 63) = ms.map V.int := by
            unfold cutV
            rw [← List.map_drop, ← List.map_take]
            exact ⟨_, rfl⟩
          have hml : ms.length ≤ 63 := by
            have := cutV_length ((n :: r).map V.int) (some 1) (some 63)
            rw [hms, List.length_map, List.length_map] at this
            omega
          refine ⟨p1, p2, _, _, rfl, rfl, e2 _ _ upd_same, upd_same, ?_, fun p3 hp3 => ?_⟩
          · rw [hms, List.length_map]
            exact small (by simp; omega)
          have e3 := same_new hp3 (.lst ([V.int (n / 2)] ++ cutV ((n :: r).map V.int) (some 1) (some 63)))
          refine ⟨_, rfl, small (by show 1 ≤ 1000000; decide), fun p4 hp4 => ?_⟩
          have e4 := same_new hp4 (.lst [V.int x])
          refine ⟨p3, p4, _, _, rfl, rfl, e4 _ _ upd_same, upd_same, ?_, fun p5 hp5 => ?_⟩
          · rw [hms]
            exact small (by simp; omega)
          refine q p5 _ (e1.trans (e2.trans (e3.trans (e4.trans (same_new hp5 _))))) ((e1.trans (e2.trans (e3.trans e4))).free hp5) ⟨n / 2 :: (ms ++ [x]), by simp, by simp; omega, ?_⟩
          rw [upd_same, hms]
          simp
        · exact last _ _ (Same.refl _) rfl
    · exact last _ _ (Same.refl _) rfl
abbrev s_kept : Stmt := top 86
theorem sc_kept : FnScope ["_law_words"] [] (defScope s_kept) := ⟨rfl, rfl, rfl, by decide +kernel, rfl, by decide +kernel, by decide +kernel⟩
theorem ok_kept (F : Fun K "_law_kept" "_law_kept" s_kept f fd) : FnOk P w K mg base CX0 1 f fd [] spKept := by
  refine F.ok sc_kept (len := fun vs H Q E h => (by obtain ⟨rfl, _⟩ := h; rfl)) (fun cdv A outer s H vs Q E hr h => ?_)
  obtain ⟨rfl, q⟩ := h
  refine ⟨_, pss_cons (ps_set (i := 0) sc_kept.nd rfl (Or.inl rfl) pe_str) (pss_one (ps_ret (pe_bm PySem.F.plainAttrs_str PySem.F.slot_str_split PySem.F.type_str_split mt_split (pe_op op_add_str (pv 0) pe_str) (pa_cons pe_str pa_nil)))), ?_⟩
  refine ⟨_, rfl, _, _, rfl, rfl, small (by decide +kernel), rfl, _, " ", rfl, rfl, small (by decide +kernel), by decide +kernel, ?_, fun l hl => ?_⟩
  · rw [kept_split]
    exact small (by decide +kernel)
  · rw [kept_split]
    exact q l _ (same_new hl _) hl upd_same
abbrev s_letters : Stmt := top 87
theorem sc_letters : FnScope ["_law_state", "_law_long", "_law_word", "_law_k"] ["_law_state", "_law_long"] (defScope s_letters) := ⟨rfl, rfl, rfl, by decide +kernel, rfl, by decide +kernel, by decide +kernel⟩
theorem ok_letters (F : Fun K "_law_letters" "_law_letters" s_letters f fd) (mr : mg "range" = none) (h1 : Has P w K mg base 1 "_law_next" ["_law_state", "_law_many"] spNext) : FnOk P w K mg base CX0 2 f fd ["_law_state", "_law_long"] spLetters := by
  refine F.ok sc_letters (len := fun vs H Q E h => (by obtain ⟨st, n, rfl, _⟩ := h; rfl)) (fun cdv A outer s H vs Q E hr h => ?_)
  obtain ⟨st, n, rfl, hs, hn, q⟩ := h
  refine ⟨_, pss_cons (ps_set (i := 2) sc_letters.nd rfl (Or.inl rfl) pe_str)
    (pss_cons (ps_for PassesOwn.never rfl (pi_range1 rfl mr (pa_cons (pv 1) pa_nil)) (pg_name (i := 3) sc_letters.nd rfl (Or.inl rfl))
      (pss_one (ps_aug (i := 2) sc_letters.nd rfl (Or.inl rfl) (pe_ix ix_str pe_str (pcall h1 hr (by decide) rfl (pa_cons (pv 0) (pa_cons pe_int pa_nil))) (fun _ _ => rfl)) iop_add_str)))
    (pss_one (ps_ret (pv 2)))), ?_⟩
  refine ⟨_, rfl, n, rfl, by omega, by omega, for_range (n := (n : Int).toNat) (fun i σ H' => ∃ (z : Str) (o : Option V), σ = [some (.ref st), some (.int n), some (.str z), o] ∧ IsLet z i ∧ Grow st H H') ⟨"", none, rfl, isLet_nil, Grow.refl hs⟩ ?_ ?_⟩
  · rintro i σ H' hi ⟨z, o, rfl, hz, g⟩
    refine ⟨_, rfl, _, rfl, st, 26, rfl, g.ok, by decide, by decide, fun d H2 d0 d1 g2 => ?_⟩
    obtain ⟨c, hc, hm⟩ := at_small d0 d1
    refine ⟨smallS, d, c, rfl, rfl, small (by have := smallS_le; omega), hc, z, ⟨#[c]⟩, rfl, rfl, small ?_, ?_⟩
    · rw [hz.len]
      show i + 1 ≤ 1000000
      omega
    · exact ⟨z ++ ⟨#[c]⟩, _, rfl, isLet_snoc hz hm, g.trans g2⟩
  · rintro σ H' ⟨z, o, rfl, hz, g⟩
    exact ⟨_, rfl, q z H' (by simpa using hz) g⟩
abbrev s_small : Stmt := top 88
theorem sc_small : FnScope ["_law_state", "_law_word"] ["_law_state"] (defScope s_small) := ⟨rfl, rfl, rfl, by decide +kernel, rfl, by decide +kernel, by decide +kernel⟩
theorem ok_small (F : Fun K "_law_small" "_law_small" s_small f fd) (h1 : Has P w K mg base 1 "_law_next" ["_law_state", "_law_many"] spNext) (h2 : Has P w K mg base 2 "_law_letters" ["_law_state", "_law_long"] spLetters) (h3 : Has P w K mg base 1 "_law_kept" [] spKept) :
    FnOk P w K mg base CX0 3 f fd ["_law_state"] (spStr fun z => nameB z = true) := by
  refine F.ok sc_small (len := fun vs H Q E h => (by obtain ⟨st, rfl, _⟩ := h; rfl)) (fun cdv A outer s H vs Q E hr h => ?_)
  obtain ⟨st, rfl, hs, q⟩ := h
  refine ⟨_, pss_cons (ps_set (i := 1) sc_small.nd rfl (Or.inl rfl) (pcall h2 hr (by decide) rfl (pa_cons (pv 0) (pa_cons (pe_op op_add pe_int (pcall h1 hr (by decide) rfl (pa_cons (pv 0) (pa_cons pe_int pa_nil)))) pa_nil))))
    (pss_cons (ps_if (pt_cmpR op_in_seq (pv 1) (pcall0 h3 hr (by decide) rfl) (by with_unfolding_all rfl)) (pss_one (ps_ret (pe_op op_add_str (pv 1) pe_str))) pss_nil)
    (pss_one (ps_ret (pv 1)))), ?_⟩
  refine ⟨_, rfl, _, rfl, st, 8, rfl, hs, by decide, by decide, fun d H1 d0 d1 g1 => ?_⟩
  refine ⟨1, d, rfl, rfl, st, (1 + d).toNat, ?_, g1.ok, by omega, fun z H2 hz g2 => ?_⟩
  · have e : (((1 + d).toNat : Nat) : Int) = 1 + d := by omega
    rw [e]
    rfl
  have hl : z.length ≤ 8 := by rw [hz.len]; omega
  refine ⟨_, rfl, rfl, fun p H3 e3 hp hk => ?_⟩
  refine ⟨p, _, rfl, .inl (SqL.of hk), rfl, flat_strs _, _, rfl, ?_⟩
  rw [if_neg Bool.false_ne_true, inV_str]
  have g3 := grow_same (g1.trans g2).ok e3
  refine ite2 (fun c => ?_) (fun c => ?_)
  · have c1 : z ∈ keptL := of_decide_eq_true c
    refine ⟨_, rfl, z, "q", rfl, rfl, small ?_, ?_⟩
    · show z.length + 1 ≤ 1000000
      omega
    · exact q _ _ (kept_q z c1) (by rw [len_app]; show z.length + 1 ≤ 100; omega) ((g1.trans g2).trans g3)
  · have c1 : z ∉ keptL := of_decide_eq_false (Bool.eq_false_iff.mpr c)
    exact ⟨_, rfl, q z _ (small_name hz (by omega) (by omega) c1) (by omega) ((g1.trans g2).trans g3)⟩
abbrev s_great : Stmt := top 89
theorem sc_great : FnScope ["_law_state", "_law_sign"] ["_law_state"] (defScope s_great) := ⟨rfl, rfl, rfl, by decide +kernel, rfl, by decide +kernel, by decide +kernel⟩
theorem ok_great (F : Fun K "_law_great" "_law_great" s_great f fd) (h1 : Has P w K mg base 1 "_law_next" ["_law_state", "_law_many"] spNext) (h2 : Has P w K mg base 2 "_law_letters" ["_law_state", "_law_long"] spLetters) :
    FnOk P w K mg base CX0 3 f fd ["_law_state"] (spStr fun z => greatB z = true) := by
  refine F.ok sc_great (len := fun vs H Q E h => (by obtain ⟨st, rfl, _⟩ := h; rfl)) (fun cdv A outer s H vs Q E hr h => ?_)
  obtain ⟨st, rfl, hs, q⟩ := h
  refine ⟨_, pss_cons (ps_set (i := 1) sc_great.nd rfl (Or.inl rfl) (pe_ix ix_str pe_str (pcall h1 hr (by decide) rfl (pa_cons (pv 0) (pa_cons pe_int pa_nil))) (fun _ _ => rfl)))
    (pss_one (ps_ret (pe_op op_add_str (pv 1) (pcall h2 hr (by decide) rfl (pa_cons (pv 0) (pa_cons (pcall h1 hr (by decide) rfl (pa_cons (pv 0) (pa_cons pe_int pa_nil))) pa_nil)))))), ?_⟩
  refine ⟨_, rfl, st, 26, rfl, hs, by decide, by decide, fun d H1 d0 d1 g1 => ?_⟩
  obtain ⟨c, hc, hm⟩ := at_great d0 d1
  refine ⟨greatS, d, c, rfl, rfl, small (by have := greatS_le; omega), hc, ?_⟩
  refine ⟨_, rfl, _, rfl, _, rfl, st, 8, rfl, g1.ok, by decide, by decide, fun e H2 e0 e1 g2 => ?_⟩
  refine ⟨st, e.toNat, ?_, g2.ok, by omega, fun z H3 hz g3 => ?_⟩
  · have e' : ((e.toNat : Nat) : Int) = e := by omega
    rw [e']
    rfl
  have hl : z.length ≤ 7 := by rw [hz.len]; omega
  refine ⟨⟨#[c]⟩, z, rfl, rfl, small ?_, ?_⟩
  · show 1 + z.length ≤ 1000000
    omega
  · exact q _ _ (great_mk hm hz (by omega)) (by rw [len_app]; show 1 + z.length ≤ 100; omega) ((g1.trans g2).trans g3)
abbrev s_path : Stmt := top 90
theorem sc_path : FnScope ["_law_state", "_law_part"] ["_law_state"] (defScope s_path) := ⟨rfl, rfl, rfl, by decide +kernel, rfl, by decide +kernel, by decide +kernel⟩
theorem ok_path (F : Fun K "_law_path" "_law_path" s_path f fd) (h1 : Has P w K mg base 3 "_law_great" ["_law_state"] (spStr fun z => greatB z = true)) (h2 : Has P w K mg base 3 "_law_small" ["_law_state"] (spStr fun z => nameB z = true)) :
    FnOk P w K mg base CX0 4 f fd ["_law_state"] (spStr fun z => pathB z = true) := by
  refine F.ok sc_path (len := fun vs H Q E h => (by obtain ⟨st, rfl, _⟩ := h; rfl)) (fun cdv A outer s H vs Q E hr h => ?_)
  obtain ⟨st, rfl, hs, q⟩ := h
  refine ⟨_, pss_cons (ps_set (i := 1) sc_path.nd rfl (Or.inl rfl) (pcall h1 hr (by decide) rfl (pa_cons (pv 0) pa_nil)))
    (pss_one (ps_ret (pe_op op_add_str (pe_op op_add_str (pv 1) pe_str) (pcall h2 hr (by decide) rfl (pa_cons (pv 0) pa_nil))))), ?_⟩
  refine ⟨_, rfl, st, rfl, hs, fun z H1 hz lz g1 => ?_⟩
  refine ⟨_, rfl, z, ".", rfl, rfl, small (by show z.length + 1 ≤ 1000000; omega), _, rfl, st, rfl, g1.ok, fun y H2 hy ly g2 => ?_⟩
  have e : (z ++ "." ++ y : Str).length = z.length + 1 + y.length := by rw [len_app, len_app]; rfl
  obtain ⟨c, r, hcr, _, _, _, hr7⟩ := great_parts hz
  have lz8 : z.length ≤ 8 := by rw [← len_toList, hcr]; simp; omega
  obtain ⟨n, hl, _, hn8, _⟩ := name_let hy
  have ly8 : y.length ≤ 8 := by rw [hl.len]; exact hn8
  have lz1 : (z ++ "." : Str).length = z.length + 1 := by rw [len_app]; rfl
  refine ⟨_, y, rfl, rfl, small (by rw [lz1]; omega), ?_⟩
  exact q _ _ (path_mk hz hy) (by rw [e]; omega) (g1.trans g2)
abbrev s_variable : Stmt := top 91
theorem sc_variable : FnScope ["_law_state"] ["_law_state"] (defScope s_variable) := ⟨rfl, rfl, rfl, by decide +kernel, rfl, by decide +kernel, by decide +kernel⟩
theorem ok_variable (F : Fun K "_law_variable" "_law_variable" s_variable f fd) (h1 : Has P w K mg base 1 "_law_next" ["_law_state", "_law_many"] spNext) (h2 : Has P w K mg base 2 "_law_letters" ["_law_state", "_law_long"] spLetters) :
    FnOk P w K mg base CX0 3 f fd ["_law_state"] (spStr fun z => varB z = true) := by
  refine F.ok sc_variable (len := fun vs H Q E h => (by obtain ⟨st, rfl, _⟩ := h; rfl)) (fun cdv A outer s H vs Q E hr h => ?_)
  obtain ⟨st, rfl, hs, q⟩ := h
  refine ⟨_, pss_one (ps_ret (pe_op op_add_str pe_str (pcall h2 hr (by decide) rfl (pa_cons (pv 0) (pa_cons (pe_op op_add pe_int (pcall h1 hr (by decide) rfl (pa_cons (pv 0) (pa_cons pe_int pa_nil)))) pa_nil))))), ?_⟩
  refine ⟨_, rfl, _, rfl, st, 8, rfl, hs, by decide, by decide, fun d H1 d0 d1 g1 => ?_⟩
  refine ⟨1, d, rfl, rfl, st, (1 + d).toNat, ?_, g1.ok, by omega, fun z H2 hz g2 => ?_⟩
  · have e : (((1 + d).toNat : Nat) : Int) = 1 + d := by omega
    rw [e]
    rfl
  have hl : z.length ≤ 8 := by rw [hz.len]; omega
  refine ⟨"?", z, rfl, rfl, small (by show 1 + z.length ≤ 1000000; omega), ?_⟩
  exact q _ _ (var_mk hz (by omega) (by omega)) (by rw [len_app]; show 1 + z.length ≤ 100; omega) (g1.trans g2)
abbrev s_number : Stmt := top 92
theorem sc_number : FnScope ["_law_state", "_law_number_here", "_law_k"] ["_law_state"] (defScope s_number) := ⟨rfl, rfl, rfl, by decide +kernel, rfl, by decide +kernel, by decide +kernel⟩
theorem ok_number (F : Fun K "_law_number" "_law_number" s_number f fd) (mr : mg "range" = none) (h1 : Has P w K mg base 1 "_law_next" ["_law_state", "_law_many"] spNext) : FnOk P w K mg base CX0 2 f fd ["_law_state"] spInt := by
  refine F.ok sc_number (len := fun vs H Q E h => (by obtain ⟨st, rfl, _⟩ := h; rfl)) (fun cdv A outer s H vs Q E hr h => ?_)
  obtain ⟨st, rfl, hs, q⟩ := h
  refine ⟨_, pss_cons (ps_set (i := 1) sc_number.nd rfl (Or.inl rfl) (pcall h1 hr (by decide) rfl (pa_cons (pv 0) (pa_cons pe_int pa_nil))))
    (pss_cons (ps_if (pt_cmpR op_eq (pcall h1 hr (by decide) rfl (pa_cons (pv 0) (pa_cons pe_int pa_nil))) pe_int (nomark _))
      (pss_one (ps_for PassesOwn.never rfl (pi_range1 rfl mr (pa_cons (pcall h1 hr (by decide) rfl (pa_cons (pv 0) (pa_cons pe_int pa_nil))) pa_nil)) (pg_name (i := 2) sc_number.nd rfl (Or.inl rfl))
        (pss_one (ps_set (i := 1) sc_number.nd rfl (Or.inl rfl) (pe_op op_add (pe_op op_mul (pv 1) pe_int) (pcall h1 hr (by decide) rfl (pa_cons (pv 0) (pa_cons pe_int pa_nil)))))))) pss_nil)
    (pss_cons (ps_if (pt_cmpR op_eq (pcall h1 hr (by decide) rfl (pa_cons (pv 0) (pa_cons pe_int pa_nil))) pe_int (nomark _)) (pss_one (ps_ret (pe_un un_neg (pv 1)))) pss_nil)
    (pss_one (ps_ret (pv 1))))), ?_⟩
  refine ⟨_, rfl, st, 10, rfl, hs, by decide, by decide, fun d H1 d0 d1 g1 => ?_⟩
  refine ⟨_, rfl, st, 4, rfl, g1.ok, by decide, by decide, fun e H2 e0 e1 g2 => ⟨rfl, _, rfl, ?_⟩⟩
  have tail : ∀ (x : Int) (o : Option V) (H3 : Hp), 0 ≤ x → x < 10 ^ 30 → Grow st H H3 → tSeq (tIfS (tTest (tOp rEq (tCall spNext [] E0 (tCons (tVar 0) (tCons (tC (.int 3)) tNil))) (tC (.int 0)))) (tRet (tUn (rU fun i => .int (-i)) (tVar 1))) tNext) (tRet (tVar 1)) { nx := fun _ H' => Q .non H', rt := Q } [some (.ref st), some (.int x), o] H3 := fun x o H3 x0 x1 g => by
    refine ⟨_, rfl, st, 3, rfl, g.ok, by decide, by decide, fun y H4 y0 y1 g4 => ⟨rfl, _, rfl, ?_⟩⟩
    refine ite2 (fun c => ?_) (fun c => ?_)
    · exact ⟨_, rfl, x, rfl, q _ _ (by omega) (by omega) (g.trans g4)⟩
    · exact ⟨_, rfl, q _ _ (by omega) (by omega) (g.trans g4)⟩
  refine ite2 (fun c => ?_) (fun c => ?_)
  · refine ⟨_, rfl, st, 30, rfl, g2.ok, by decide, by decide, fun n H3 n0 n1 g3 => ?_⟩
    refine ⟨n, rfl, by omega, by omega, for_range (n := n.toNat) (fun i σ H' => ∃ (x : Int) (o : Option V), σ = [some (.ref st), some (.int x), o] ∧ 0 ≤ x ∧ x < 10 ^ (i + 1) ∧ Grow st H H') ⟨d, none, rfl, d0, by simpa using d1, (g1.trans g2).trans g3⟩ ?_ ?_⟩
    · rintro i σ H' hi ⟨x, o, rfl, x0, x1, g⟩
      refine ⟨_, rfl, _, _, rfl, rfl, .inr ⟨by decide, by decide⟩, _, rfl, st, 10, rfl, g.ok, by decide, by decide, fun y H4 y0 y1 g4 => ⟨_, _, rfl, rfl, ?_⟩⟩
      refine ⟨_, _, rfl, ?_, ?_, g.trans g4⟩
      · show 0 ≤ x * 10 + y
        omega
      · show x * 10 + y < 10 ^ (i + 1 + 1)
        rw [Int.pow_succ]
        omega
    · rintro σ H' ⟨x, o, rfl, x0, x1, g⟩
      refine tail x o H' x0 (Int.lt_of_lt_of_le x1 ?_) g
      exact_mod_cast Nat.pow_le_pow_right (by decide : 0 < 10) (by omega : n.toNat + 1 ≤ 30)
  · exact tail d none H2 d0 (by omega) (g1.trans g2)
end
end Fw
set_option Elab.async false
set_option linter.all false
set_option maxRecDepth 100000
namespace L2
open PySem PySem.Spec PyProof.Rows
def repS (k : Nat) (z : Str) : Str := ⟨(List.replicate k z.cps).foldl (· ++ ·) #[]⟩
theorem foldl_cps (a : Array Nat) : ∀ (k : Nat) (b : Array Nat), ((List.replicate k a).foldl (· ++ ·) b).toList = b.toList ++ (List.replicate k a.toList).flatten
  | 0, b => by simp
  | k + 1, b => by
    rw [List.replicate_succ, List.foldl_cons, foldl_cps a k, List.replicate_succ, List.flatten_cons, Array.toList_append, List.append_assoc]
theorem repS_list (k : Nat) (z : Str) : (repS k z).cps.toList = (List.replicate k z.cps.toList).flatten := by
  show ((List.replicate k z.cps).foldl (· ++ ·) #[]).toList = _
  rw [foldl_cps]
  simp
theorem repS_len (k : Nat) (z : Str) : (repS k z).length = k * z.length := by
  have h := congrArg List.length (repS_list k z)
  rw [len_rep] at h
  simpa [Str.length] using h
section
variable {X : Cx}
theorem op_mulS : OpR X (binaryOp .Mult) (fun x y H Q => ∃ (z : Str) (k : Nat), x = .str z ∧ y = .int k ∧ z.length * k ≤ 100000 ∧ k ≤ 100000 ∧ Q (.str (repS k z)) H) := by
  intro pins s σ H x y v u Q I rx ry h
  obtain ⟨z, k, rfl, rfl, hz, hk, q⟩ := h
  obtain ⟨t, rfl⟩ := rx
  obtain ⟨t', rfl⟩ := ry
  have hline : (100000 : Nat) ≤ sizeLine := by decide
  refine P.mul_str (by rw [decide_eq_false (by omega), decide_eq_false (by omega)]; rfl) (fun h1 _ => ?_) (fun h1 _ => ?_) ?_
  · have h2 : (1 : Int) ≤ k := by omega
    have h3 : (z.length : Int) * (k : Int) ≤ 100000 := by
      have q : ((z.length * k : Nat) : Int) ≤ ((100000 : Nat) : Int) := Int.ofNat_le.mpr hz
      rw [Int.natCast_mul] at q
      exact q
    have h4 : (z.length : Int) ≤ (2 ^ 63 - 1) / k := Int.le_ediv_of_mul_le (by exact h2) (by omega)
    omega
  · unfold Builtin.Str.tooLong
    refine decide_eq_false ?_
    have e : ((k : Int)).toNat = k := by exact rfl
    rw [e]
    omega
  · by_cases h1 : (k : Int) < 1
    · rw [if_pos h1]
      have e : k = 0 := by omega
      subst e
      exact ⟨by decide, .str Str.empty, H, I.tok _, ⟨_, rfl⟩, q⟩
    · rw [if_neg h1]
      by_cases h2 : ((k : Int) == 1 || z.length == 0) = true
      · rw [if_pos h2]
        have e : repS k z = z := by
          have : (repS k z).cps.toList = z.cps.toList := by
            rw [repS_list]
            rw [Bool.or_eq_true] at h2
            rcases h2 with h2 | h2
            · have e1 : k = 1 := by
                have h4 : (k : Int) = 1 := by simpa using h2
                omega
              subst e1
              simp
            · have e0 : z.cps.toList = [] := by
                have : z.cps.toList.length = 0 := by simpa [Str.length] using h2
                exact List.length_eq_zero_iff.mp this
              rw [e0]
              simp
          cases z with
          | mk a =>
            have h3 : (repS k ⟨a⟩).cps = a := Array.toList_inj.mp this
            cases hr : repS k ⟨a⟩ with
            | mk b =>
              rw [hr] at h3
              rw [← h3]
        rw [e] at q
        exact ⟨.str z, H, I, ⟨_, rfl⟩, q⟩
      · rw [if_neg h2]
        have e : ((k : Int)).toNat = k := by exact rfl
        rw [e]
        have hl := repS_len k z
        have : (repS k z).length ≤ sizeLine := by
          rw [hl, Nat.mul_comm]
          exact Nat.le_trans hz (by decide)
        exact ⟨this, .str (repS k z), H, I.tok _, ⟨_, rfl⟩, q⟩
end
end L2
set_option Elab.async false
set_option linter.all false
set_option maxRecDepth 100000
namespace PySem
namespace Heap
def TracedAtX (g bse : Heap) (e : Addr) (cls a0 fl : Value) : Prop :=
  ∃ ob ws T oT ts, g.get? e = some ob ∧ (ob.cls = cls ∧ ws[0]? = some a0 ∧ ws[2]? = some .none) ∧ ob.data = .fields ws ∧ ws[1]? = some (.ref T) ∧ bse.get? T = none ∧ T ≠ e ∧ g.get? T = some oT ∧ oT.data = .fields ts ∧ ts[3]? = some fl
def FlyingX (bse : Heap) (l : List Env) (e : Addr) (cls a0 : Value) (g : Heap) : Prop := bse.StaysIn g ∧ bse.get? e = none ∧ g.FunFrames bse l ∧ g.TracedAtX bse e cls a0 .none
def HeldX (bse : Heap) (l : List Env) (e : Addr) (cls a0 : Value) (L : Addr) (g : Heap) : Prop := bse.StaysIn g ∧ bse.get? e = none ∧ g.FunFrames bse l ∧ g.TracedAtX bse e cls a0 (rawInt L)
theorem FlyingX.there {bse g : Heap} {l : List Env} {e : Addr} {cls a0 : Value} (x : FlyingX bse l e cls a0 g) : ∃ ob, g.get? e = some ob ∧ ob.cls = cls :=
  x.2.2.2.elim fun ob h => h.elim fun _ h => h.elim fun _ h => h.elim fun _ h => h.elim fun _ h => ⟨ob, h.1, h.2.1.1⟩
end Heap
section
variable {M : Model} {A : Around} {E : Value → Shared → Prop} {s : Shared} {bse : Heap} {env : Env} {outer : List Env} {L e : Addr} {cls a0 fl : Value} {Q : Unit → Shared → Prop}
theorem entryX {ob : Obj} {ws : Array Value} {hd : Value} {hn : Bool} (hfr : A.frames = some (env :: outer)) (f3 : s.heap.FunFrames bse (env :: outer)) (hf : env.frame = some L) (ge : s.heap.get? e = some ob) (f1 : bse.StaysIn s.heap) (f2 : bse.get? e = none) (gd : ob.data = .fields ws) (z1 : 1 < ws.size) (g0 : ws[0]? = some a0 ∧ ws[2]? = some .none)
    (hQ : ∀ g, bse.StaysIn g → g.FunFrames bse (env :: outer) → g.TracedAtX bse e ob.cls a0 (rawInt L) → s.heap.UpToSlots g → Q () { s with heap := g }) :
    wpAny M A (do
      let x ← frameOf env
      let y ← entryPlaceOf L hn
      let z ← EntryCells.newEntry hd x .none (rawInt L) .none y
      setField (.ref e) 1 z) Q E s := by
  refine wpAny_bind (wpAny_frameOf_fun hfr f3 hf fun g1 so => wpAny_bind (wpAny_entryPlaceOf fun y iy => ?_))
  unfold EntryCells.newEntry newFields
  refine wpAny_bind (wpAny_newObj_type ?_ (iy.sizeOk5 _ _ _ _ _))
  have nfe : e ∉ (env :: outer).filterMap (·.frame) := fun z => by
    obtain ⟨_, o, q, n⟩ := f3.mem z
    rw [ge] at q
    cases q
    exact n ws gd
  have e1 : g1.get? e = some ob := (so.2.1 e nfe).trans ge
  have f1' : bse.StaysIn g1 := fun b o q => (so.2.1 b fun z => by rw [(f3.mem z).1] at q; cases q).trans (f1 b o q)
  have t3 : (([hd, .ref L, .none, rawInt L, .none] ++ (if y.isEmpty then List.replicate 6 Value.none else y)).toArray)[3]? = some (rawInt L) := by simp
  generalize ([hd, .ref L, .none, rawInt L, .none] ++ (if y.isEmpty then List.replicate 6 Value.none else y)).toArray = ts at t3 ⊢
  have nT : g1.objs.size ≠ e := Nat.ne_of_gt (Heap.lt_size e1)
  have e2 := Heap.get?_push_of_some (h := g1) { cls := .type "traceback", dict := none, data := .fields ts } e1
  have gd3 := Obj.data_mapFields gd (·.setIfInBounds 1 (Value.ref g1.objs.size))
  have off : ∀ b o, b ≠ e → g1.get? b = some o → ((g1.push { cls := .type "traceback", dict := none, data := .fields ts }).update e (Obj.mapFields (·.setIfInBounds 1 (Value.ref g1.objs.size)))).get? b = some o := fun b o n q => by
    rw [Heap.get?_update_other _ _ (Ne.symm n)]
    exact Heap.get?_push_of_some _ q
  have nrec : ∀ b o, s.heap.get? b = some o → (∀ vs, o.data ≠ .fields vs) → b ≠ e := fun b o q n z => by
    subst z
    rw [ge] at q
    cases q
    exact n ws gd
  have upto : ∀ b o, s.heap.get? b = some o → (∀ vs, o.data ≠ .fields vs) → ∃ sl, ((g1.push { cls := .type "traceback", dict := none, data := .fields ts }).update e (Obj.mapFields (·.setIfInBounds 1 (Value.ref g1.objs.size)))).get? b = some { o with slots := sl } := fun b o q n => by
    obtain ⟨sl, q'⟩ := so.2.2 b o q
    exact ⟨sl, off b _ (nrec b o q n) q'⟩
  refine wpAny_setField e2 gd z1 (hQ _ (fun b o q => off b o (fun z => by rw [z, f2] at q; cases q) (f1' b o q)) (f3.of_keeps fun b o q n => ?_) ?_ upto)
  · obtain ⟨sl, q'⟩ := upto b o q n
    exact ⟨_, q', rfl⟩
  · refine ⟨_, _, g1.objs.size, _, ts, Heap.get?_update_self _ e2 (Obj.isFreed_of_fields gd3), ⟨Obj.cls_mapFields _ _, ?_, ?_⟩, gd3, by simp [z1], f1'.fresh, nT, (Heap.get?_update_other _ _ (Ne.symm nT)).trans (Heap.get?_push_size g1 rfl), rfl, t3⟩
    · rw [Array.getElem?_setIfInBounds_ne (by decide)]; exact g0.1
    · rw [Array.getElem?_setIfInBounds_ne (by decide)]; exact g0.2
theorem flight_at {l : List Env} (fr : Option Addr) (f1 : bse.StaysIn s.heap) (f3 : s.heap.FunFrames bse l) (f4 : s.heap.TracedAtX bse e cls a0 fl)
    (hQ : ∀ h', bse.StaysIn h' → h'.FunFrames bse l → h'.TracedAtX bse e cls a0 (fr.elim Value.none fun f => rawInt f) → (∀ b o, s.heap.get? b = some o → (∀ vs, o.data ≠ .fields vs) → h'.get? b = some o) → Q () { s with heap := h' }) :
    wpAny M A (setFlight (.ref e) fr) Q E s := by
  obtain ⟨ob, ws, T, oT, ts, ge, gc, gd, g1, gn, gne, gT, gdT, g3⟩ := f4
  have sz : 3 < ts.size := (Array.getElem?_eq_some_iff.mp g3).1
  have off : ∀ b, b ≠ T → (s.heap.update T (Obj.mapFields (·.setIfInBounds 3 (fr.elim Value.none fun f => rawInt f)))).get? b = s.heap.get? b := fun b z => Heap.get?_update_other _ _ (Ne.symm z)
  have nrec : ∀ b o, s.heap.get? b = some o → (∀ vs, o.data ≠ .fields vs) → b ≠ T := fun b o q n z => by
    subst z
    rw [gT] at q
    cases q
    exact n ts gdT
  unfold setFlight
  refine wpAny_bind (wpAny_field ge gd g1 ?_)
  rw [if_pos (by simp)]
  refine wpAny_setField gT gdT sz (hQ _ (fun b o q => ?_) (f3.of_keeps fun b o q n => ⟨o, (off b (nrec b o q n)).trans q, rfl⟩) ?_ fun b o q n => (off b (nrec b o q n)).trans q)
  · rw [off b (fun z => by rw [z, gn] at q; cases q)]
    exact f1 b o q
  · exact ⟨ob, ws, T, _, _, (off e (Ne.symm gne)).trans ge, gc, gd, g1, gn, gne, Heap.get?_update_self _ gT (Obj.isFreed_of_fields (Obj.data_mapFields gdT _)), Obj.data_mapFields gdT _, by simp [sz]⟩
theorem notesX (hfr : A.frames = some (env :: outer)) (hf : env.frame = some L) (f1 : bse.StaysIn s.heap) (f2 : bse.get? e = none) (f3 : s.heap.FunFrames bse (env :: outer)) (f4 : s.heap.TracedAtX bse e cls a0 fl)
    (hQ : ∀ g, Heap.HeldX bse (env :: outer) e cls a0 L g → s.heap.UpToSlots g → Q () { s with heap := g }) : wpAny M A (noteFrame (.ref e) env) Q E s := by
  by_cases hb : (fl == rawInt L) = true
  · obtain ⟨ob, ws, T, oT, ts, ge, gc, gd, g1, gn, gne, gT, gdT, g3⟩ := id f4
    have ef : fl = rawInt L := by simpa using hb
    unfold noteFrame
    simp only [hf]
    refine wpAny_bind (wpAny_field ge gd g1 ?_)
    rw [if_pos (by simp)]
    refine wpAny_bind (wpAny_field gT gdT g3 ?_)
    rw [if_pos hb]
    exact wpAny_pure (hQ s.heap ⟨f1, f2, f3, ef ▸ f4⟩ (Heap.UpToSlots.refl _))
  · obtain ⟨ob, ws, T, oT, ts, ge, ⟨gc, g0⟩, gd, g1, gn, gne, gT, gdT, g3⟩ := f4
    subst gc
    unfold noteFrame
    simp only [hf]
    refine wpAny_bind (wpAny_field ge gd g1 ?_)
    rw [if_pos (by simp)]
    refine wpAny_bind (wpAny_field gT gdT g3 ?_)
    rw [if_neg hb]
    refine wpAny_bind (wpAny_setField gT gdT (Array.getElem?_eq_some_iff.mp g3).1 ?_)
    have off : ∀ b, b ≠ T → (s.heap.update T (Obj.mapFields (·.setIfInBounds 3 Value.none))).get? b = s.heap.get? b := fun b z => Heap.get?_update_other _ _ (Ne.symm z)
    have nrec : ∀ b o, s.heap.get? b = some o → (∀ vs, o.data ≠ .fields vs) → b ≠ T := fun b o q n z => by
      subst z
      rw [gT] at q
      cases q
      exact n ts gdT
    refine entryX hfr (f3.of_keeps fun b o q n => ⟨o, (off b (nrec b o q n)).trans q, rfl⟩) hf ((off e (Ne.symm gne)).trans ge) (fun b o q => ?_) f2 gd (Array.getElem?_eq_some_iff.mp g1).1 g0 fun h' k1 k2 k3 k4 => hQ h' ⟨k1, f2, k2, k3⟩ fun b o q n => k4 b o ((off b (nrec b o q n)).trans q) n
    rw [off b (fun z => by rw [z, gn] at q; cases q)]
    exact f1 b o q
theorem leaves_any (hfr : A.frames = some (env :: outer)) (hf : env.frame = some L) (f1 : bse.StaysIn s.heap) (f2 : bse.get? e = none) (f3 : s.heap.FunFrames bse (env :: outer)) (f4 : s.heap.TracedAtX bse e cls a0 fl)
    (hQ : ∀ h', Heap.FlyingX bse outer e cls a0 h' → s.heap.UpToSlots h' → Q () { s with heap := h' }) : wpAny M A (leaving env (.ref e)) Q E s := by
  unfold leaving
  refine wpAny_bind (notesX hfr hf f1 f2 f3 f4 fun g ⟨a1, a2, a3, a4⟩ up => flight_at (s := { s with heap := g }) none a1 a3 a4 fun h' k1 k2 k3 k4 => hQ h' ⟨k1, f2, k2.2.2, k3⟩ (up.trans fun b o q n => ⟨o.slots, k4 b o q n⟩))
theorem leaves_onX (hfr : A.frames = some (env :: outer)) (hf : env.frame = some L) (x : Heap.FlyingX bse (env :: outer) e cls a0 s.heap) (hQ : ∀ h', Heap.FlyingX bse outer e cls a0 h' → s.heap.UpToSlots h' → Q () { s with heap := h' }) : wpAny M A (leaving env (.ref e)) Q E s := leaves_any hfr hf x.1 x.2.1 x.2.2.1 x.2.2.2 hQ
theorem looks_onX (hfr : A.frames = some (env :: outer)) (hf : env.frame = some L) (x : Heap.FlyingX bse (env :: outer) e cls a0 s.heap) (hQ : ∀ g, Heap.HeldX bse (env :: outer) e cls a0 L g → s.heap.UpToSlots g → Q () { s with heap := g }) : wpAny M A (noteFrame (.ref e) env) Q E s := notesX hfr hf x.1 x.2.1 x.2.2.1 x.2.2.2 hQ
theorem landsX {l : List Env} (x : Heap.HeldX bse l e cls a0 L s.heap) (hQ : ∀ h', Heap.FlyingX bse l e cls a0 h' → s.heap.UpToSlots h' → Q () { s with heap := h' }) : wpAny M A (setFlight (.ref e) none) Q E s :=
  flight_at none x.1 x.2.2.1 x.2.2.2 fun h' k1 k2 k3 k4 => hQ h' ⟨k1, x.2.1, k2, k3⟩ fun b o q n => ⟨o.slots, k4 b o q n⟩
theorem lands_againX {l : List Env} (x : Heap.FlyingX bse l e cls a0 s.heap) (hQ : ∀ h', Heap.FlyingX bse l e cls a0 h' → s.heap.UpToSlots h' → Q () { s with heap := h' }) : wpAny M A (setFlight (.ref e) none) Q E s :=
  flight_at none x.1 x.2.2.1 x.2.2.2 fun h' k1 k2 k3 k4 => hQ h' ⟨k1, x.2.1, k2, k3⟩ fun b o q n => ⟨o.slots, k4 b o q n⟩
theorem looks_made {h : Heap} {args : List Value} (hfr : A.frames = some (env :: outer)) (hf : env.frame = some L) (hkb : bse.StaysIn h) (hl : h.FunFrames bse (env :: outer)) (hx : Heap.MadeExcOf h s.heap e cls args)
    (hQ : ∀ h' t, Heap.HeldX bse (env :: outer) e cls (.ref t) L h' → s.heap.UpToSlots h' → Q () { s with heap := h' }) : wpAny M A (noteFrame (.ref e) env) Q E s := by
  obtain ⟨t, he, htn, ht⟩ := hx.there
  have fresh : bse.get? e = none := by
    cases hq : bse.get? e with
    | none => rfl
    | some o' => have := hkb e o' hq; rw [hx.new] at this; cases this
  unfold noteFrame
  simp only [hf]
  refine wpAny_bind (wpAny_field he rfl (x := .none) rfl ?_)
  rw [if_neg (by decide)]
  exact entryX (a0 := .ref t) hfr (hl.of_keeps fun b o hb _ => ⟨o, hx.keeps b o hb, rfl⟩) hf he (fun b o hb => hx.keeps b o (hkb b o hb)) fresh rfl (by show 1 < 6; decide) ⟨rfl, rfl⟩ fun h' k1 k2 k3 k4 => hQ h' t ⟨k1, fresh, k2, k3⟩ k4
theorem leaves_madeX {h : Heap} {args : List Value} (hfr : A.frames = some (env :: outer)) (hf : env.frame = some L) (hkb : bse.StaysIn h) (hl : h.FunFrames bse (env :: outer)) (hx : Heap.MadeExcOf h s.heap e cls args)
    (hQ : ∀ h' t, Heap.FlyingX bse outer e cls (.ref t) h' → s.heap.UpToSlots h' → Q () { s with heap := h' }) : wpAny M A (leaving env (.ref e)) Q E s := by
  unfold leaving
  exact wpAny_bind (looks_made hfr hf hkb hl hx fun g t ⟨a1, a2, a3, a4⟩ up => flight_at (s := { s with heap := g }) none a1 a3 a4 fun h' k1 k2 k3 k4 => hQ h' t ⟨k1, a2, k2.2.2, k3⟩ (up.trans fun b o q n => ⟨o.slots, k4 b o q n⟩))
end
end PySem
set_option Elab.async false
set_option linter.all false
set_option maxRecDepth 100000
namespace L2
open PySem PySem.Spec PyProof.Rows
def Flies (P : Program) (w : World) (l : List Env) (H : Hp) (s : Shared) (C ea : Addr) (H' : Hp) (s' : Shared) : Prop :=
  s'.os = s.os ∧ AllBare s'.gens ∧ Un (frs l) [] H H' s.heap s'.heap ∧ HOk P w H' s'.heap ∧ H' ea = none ∧
  ∃ (B : Heap) (t : Addr), Heap.FlyingX B l ea (.ref C) (.ref t) s'.heap ∧ ∀ b o, s'.heap.get? b = some o → b ∉ frs l → (H' b ≠ none ∨ ∃ o', s.heap.get? b = some o') → B.get? b = some o
def CXF (P : Program) (w : World) : CXT := fun l H s E e s' => ∃ ea C H', e = .ref ea ∧ Flies P w l H s C ea H' s' ∧ E (.ref C) (some ea) H'
section
variable {P : Program} {w : World} {K : PySem.W.Frag} {mg : Str → Option Value} {base : Heap} {N : List Str} {qual : Str} {scope : Scope} {f : Addr} {cd : Value} {A : Around} {outer : List Env} {s : Shared} {H : Hp} {E : XK} {CX : CXT}
theorem HOk.keptT {H : Hp} {h h' : Heap} (ok : HOk P w H h) (k : ∀ b u, H b ≠ none → h.get? b = some u → h'.get? b = some u) : HOk P w H h' := fun a o e =>
  (ok a o e).stay (fun b u hb q => k b u (by
    rcases hb with z | z
    · rw [z, e]; simp
    · rw [z]; simp) q) (fun _ q => q) fun _ _ q => q
theorem ObjOk.there {H : Hp} {h : Heap} {a : Addr} {o : HO} (x : ObjOk P w H h a o) : ∃ ob, h.get? a = some ob := by
  cases o with
  | lst xs => obtain ⟨_, _, _, _, e⟩ := x; exact ⟨_, e⟩
  | tup xs => obtain ⟨_, _, _, ob, e, _⟩ := x; exact ⟨_, e⟩
  | dK kvs => obtain ⟨_, _, _, _, o, _, _, e, _⟩ := x; exact ⟨_, e⟩
  | dT kvs => obtain ⟨_, _, _, _, o, _, _, e, _⟩ := x; exact ⟨_, e⟩
  | set S n => obtain ⟨o, _, _, _, e, _⟩ := x; exact ⟨_, e⟩
  | ins C dx fs => obtain ⟨_, _, _, e, _⟩ := x; exact ⟨_, e⟩
  | own y => exact x
  | xd fs => obtain ⟨mA, ⟨o, es, ep, e, _⟩, _⟩ := x; exact ⟨_, e⟩
  | rng lo hi => obtain ⟨_, _, _, e⟩ := x; exact ⟨_, e⟩
  | frz o u => exact ⟨_, x.1⟩
  | tbl ps => exact ⟨_, x⟩
  | met f y => exact ⟨_, x⟩
  | ext φ => exact x.2.1
theorem left_unF {X : Cx} {pins : List (Addr × Obj)} {σ : St} {H1 : Hp} {s1 : Shared} {h' : Heap} (hex : X.ex = []) (I : Inv X pins σ H1 s1)
    (kp : ∀ b o, s1.heap.get? b = some o → b ∉ frs X.stack → (H1 b ≠ none ∨ ∃ o', X.s₀.heap.get? b = some o') → h'.get? b = some o)
    (sl : ∀ b o, b ∈ X.fs → s1.heap.get? b = some o → (∀ vs, o.data ≠ .fields vs) → ∃ sl, h'.get? b = some { o with slots := sl }) : Un X.fs [] X.H₀ H1 X.s₀.heap h' ∧ HOk X.prog X.w H1 h' := by
  have nx : ∀ b : Addr, b ∉ X.ex := fun b z => by rw [hex] at z; cases z
  have nostk : ∀ {b o}, X.s₀.heap.get? b = some o → b ∉ X.fs → b ∉ frs X.stack := fun {b o} e hb z => by
    rcases List.mem_cons.mp (I.stkSub b z) with q | q
    · have h1 := Heap.lt_size e
      have h2 := I.ok.above
      rw [q] at h1
      exact absurd (Nat.lt_of_lt_of_le h1 h2) (Nat.lt_irrefl _)
    · exact hb q
  have trk : ∀ {b}, H1 b ≠ none → b ∉ frs X.stack := fun {b} n z => n (I.stkFree b z)
  have frame : ∀ {b o}, X.s₀.heap.get? b = some o → X.H₀ b = none → b ∈ X.fs → ∃ sl', h'.get? b = some { o with slots := sl' } := fun {b o} e n hb => by
    obtain ⟨s2, q⟩ := I.base.slot b o e n hb (nx b)
    obtain ⟨_, o', ho', hnf⟩ := I.ok.funs.mem hb
    rw [e] at ho'; cases ho'
    obtain ⟨s3, q3⟩ := sl b _ hb q hnf
    exact ⟨s3, q3⟩
  refine ⟨⟨fun b o e n hb _ => kp b o (I.base.keep b o e n hb (nx b)) (nostk e hb) (.inr ⟨o, e⟩), fun b o e n hb _ => frame e n hb, fun b o e n _ => I.base.free b o e n (nx b), fun b o e _ => ?_, I.base.tups, I.base.frzs, I.base.tbls⟩, I.hok.keptT fun b u n q => kp b u q (trk n) (.inl n)⟩
  by_cases hb : b ∈ X.fs
  · obtain ⟨s3, q3⟩ := frame e (I.ok.frf b hb) hb
    exact ⟨_, q3⟩
  · obtain ⟨o', q⟩ := I.base.there b o e (nx b)
    exact ⟨o', kp b o' q (nostk e hb) (.inr ⟨o, e⟩)⟩
theorem left_un {X : Cx} {pins : List (Addr × Obj)} {σ : St} {H1 : Hp} {s1 : Shared} {h' : Heap} (hex : X.ex = []) (I : Inv X pins σ H1 s1)
    (kp : ∀ b o, s1.heap.get? b = some o → b ∉ frs X.stack → (H1 b ≠ none ∨ ∃ o', X.s₀.heap.get? b = some o') → h'.get? b = some o)
    (sl : s1.heap.UpToSlots h') : Un X.fs [] X.H₀ H1 X.s₀.heap h' ∧ HOk X.prog X.w H1 h' := left_unF hex I kp fun b o _ => sl b o
theorem passes_up : Passes (CXF P w) (cxOf (CXF P w) P w K mg base N qual scope f cd A outer s H E) E := by
  intro pins σ H1 s1 e s' I h
  obtain ⟨ea, C, H', rfl, ⟨os, bare, un, hok, nea, B, t, fl, keepB⟩, hE⟩ := h
  have J : Inv (cxOf (CXF P w) P w K mg base N qual scope f cd A outer s H E) pins σ H' s' := I.call' os un hok bare (fun b z => absurd z (by simp))
  show wpAny _ _ (leaving _ (.ref ea)) _ _ s'
  refine leaves_onX I.ok.frames rfl fl fun h' x1 x2 => ?_
  have kp : ∀ b o, s'.heap.get? b = some o → b ∉ frs (cxOf (CXF P w) P w K mg base N qual scope f cd A outer s H E).stack → (H' b ≠ none ∨ ∃ o', s.heap.get? b = some o') → h'.get? b = some o := fun b o q hb hc => x1.1 b o (keepB b o q hb (by
    rcases hc with z | ⟨o', z⟩
    · exact .inl z
    · exact .inr (I.base.there b o' z (by intro q; cases q))))
  obtain ⟨un', hok'⟩ := left_un rfl J kp x2
  refine ⟨ea, C, H', rfl, ⟨J.os, J.bare, un', hok', nea, B, t, x1, fun b o q hb hc => ?_⟩, hE⟩
  have nst : b ∉ frs (cxOf (CXF P w) P w K mg base N qual scope f cd A outer s H E).stack := fun z => by
    rcases List.mem_cons.mp (J.stkSub b z) with z1 | z1
    · rcases hc with z2 | ⟨o', z2⟩
      · exact z2 (J.stkFree b z)
      · have h1 := Heap.lt_size z2
        have h2 := J.ok.above
        rw [z1] at h1
        exact absurd (Nat.lt_of_lt_of_le h1 h2) (Nat.lt_irrefl _)
    · exact hb z1
  obtain ⟨o2, q2⟩ : ∃ o2, s'.heap.get? b = some o2 := by
    rcases hc with z | ⟨o', z⟩
    · cases hz : H' b with
      | none => exact absurd hz z
      | some u => exact (J.hok b u hz).there
    · exact J.base.there b o' z (by intro q; cases q)
  have q3 := kp b o2 q2 nst hc
  rw [q] at q3
  cases q3
  refine keepB b o q2 nst ?_
  rcases hc with z | ⟨o', z⟩
  · exact .inl z
  · exact .inr (I.base.there b o' z (by intro q; cases q))
end
end L2
set_option Elab.async false
set_option linter.all false
set_option maxRecDepth 100000
namespace L2
open PySem PySem.Spec PyProof.Rows
section
variable {P : Program} {w : World} {K : PySem.W.Frag} {mg : Str → Option Value} {base : Heap} {N : List Str} {qual : Str} {scope : Scope} {f : Addr} {cd : Value} {A : Around} {outer : List Env} {s : Shared} {H : Hp} {E : XK}
def tRaise (C : Addr) (E : XK) (t : TA) : TS := fun _ σ H => t σ H fun vs H1 => vs.length ≤ sizeLine ∧ ∀ ea, H1 ea = none → E (.ref C) (some ea) H1
theorem ps_raise {x : Str} {C : Addr} {np cpos pos : Pos} {e₀ : Expr} {rest : List Expr} {t : TA} {bm : List Value} {newId B initId : String} (O : OwnCls x C bm newId mg base) (FB : ExcBaseFacts B newId initId bm)
    (hg : Gl (cxOf (CXF P w) P w K mg base N qual scope f cd A outer s H E) x) (ha : PA (cxOf (CXF P w) P w K mg base N qual scope f cd A outer s H E) (e₀ :: rest) t) (hdb : (x == ("__debug__" : Str)) = false := by decide)
    (he : starEach (e₀ :: rest) (cxOf (CXF P w) P w K mg base N qual scope f cd A outer s H E).env = (false, eval e₀ (cxOf (CXF P w) P w K mg base N qual scope f cd A outer s H E).env) :: starEach rest (cxOf (CXF P w) P w K mg base N qual scope f cd A outer s H E).env := by rfl)
    (hpl : (backTo cpos (starEach rest (cxOf (CXF P w) P w K mg base N qual scope f cd A outer s H E).env)).any (·.1) = false := by rfl) :
    PS (cxOf (CXF P w) P w K mg base N qual scope f cd A outer s H E) (.Raise (some (.Call (.Name x np) (e₀ :: rest) [] cpos)) none pos) (tRaise C E t) := by
  intro pins s1 σ H1 D I h
  obtain ⟨tl, Nn, nm, q, bs, hdct, sn, sub, ab, col, dd, k0, k1, k2, k3, k5, mN, hC, hN, hni, T⟩ := O.obj
  refine wpAny_Raise_call_subT (C := C) (nm := nm) (q := q) (N := Nn) (bs := bs) (bm := tl) (hdct := hdct) (sn := sn) (sub := sub) (ab := ab) (col := col) (dd := dd) (k0 := k0) (k1 := k1) (k2 := k2) (k3 := k3) (k5 := k5)
    FB (mN := mN) (T.hasType FB.hasBase) (I.ok.hd rfl) (by rw [he]; show (false || (backTo cpos (starEach rest _)).any (·.1)) = false; rw [hpl]; rfl) hni (ld_glob I hg O.bound ⟨rfl, ?_⟩ hdb)
  have hA := ha cpos pins s1 σ H1 _ I h
  rw [he] at hA ⊢
  refine Calls.evalArgs_plain (thn hA fun us s2 ⟨vs, H2, I2, r, hl, hE⟩ => ⟨rfl, by rw [← r.length]; exact hl, I2.bk _ _ hC, hN.keeps I2.bk, T.keeps I2.bk, fun h' e hm => ?_⟩)
  show wpAny _ _ (leaving _ (.ref e)) _ _ _
  have hin : ∀ env ∈ (cxOf (CXF P w) P w K mg base N qual scope f cd A outer s H E).stack, ∀ b, env.frame = some b → b ∈ frs (cxOf (CXF P w) P w K mg base N qual scope f cd A outer s H E).stack := fun env he b hb => List.mem_filterMap.mpr ⟨env, he, hb⟩
  have nea : H2 e = none := by
    cases hz : H2 e with
    | none => rfl
    | some u =>
      obtain ⟨ob, q⟩ := (I2.hok e u hz).there
      have := hm.new
      rw [q] at this; cases this
  refine leaves_madeX (bse := PySem.W.hideAll s2.heap (frs (cxOf (CXF P w) P w K mg base N qual scope f cd A outer s H E).stack)) (h := s2.heap) I2.ok.frames rfl (fun b o q => PySem.W.of_hideAll _ q) (PySem.W.funFrames_hide I2.stack hin) hm fun h'' t' x1 x4 => ?_
  have up : s2.heap.UpToSlots h'' := (Heap.UpToSlots.of_keeps hm.keeps).trans x4
  have kp : ∀ b o, s2.heap.get? b = some o → b ∉ frs (cxOf (CXF P w) P w K mg base N qual scope f cd A outer s H E).stack → h''.get? b = some o := fun b o q hb => x1.1 b o (PySem.W.hideAll_get _ q hb)
  obtain ⟨un', hok'⟩ := left_un rfl I2 (fun b o q hb _ => kp b o q hb) up
  refine ⟨e, C, H2, rfl, ⟨I2.os, I2.bare, un', hok', nea, _, t', x1, fun b o q hb hc => ?_⟩, hE e nea⟩
  have nst : b ∉ frs (cxOf (CXF P w) P w K mg base N qual scope f cd A outer s H E).stack := fun z => by
    rcases List.mem_cons.mp (I2.stkSub b z) with z1 | z1
    · rcases hc with z2 | ⟨o', z2⟩
      · exact z2 (I2.stkFree b z)
      · have h1 := Heap.lt_size z2
        have h2 := I2.ok.above
        rw [z1] at h1
        exact absurd (Nat.lt_of_lt_of_le h1 h2) (Nat.lt_irrefl _)
    · exact hb z1
  obtain ⟨o2, q2⟩ : ∃ o2, s2.heap.get? b = some o2 := by
    rcases hc with z | ⟨o', z⟩
    · cases hz : H2 b with
      | none => exact absurd hz z
      | some u => exact (I2.hok b u hz).there
    · exact I2.base.there b o' z (by intro q; cases q)
  have q3 := kp b o2 q2 nst
  rw [q] at q3
  cases q3
  exact PySem.W.hideAll_get _ q2 nst
theorem Fun.okX {x : Str} {st : Stmt} {fd : FuncData} {ps : List Str} {k : Nat} {sp : Sp} (F : Fun K x qual st f fd) (S : FnScope N ps (defScope st))
    (hbody : ∀ (cdv : Value) (A : Around) (outer : List Env) (s : Shared) (H : Hp) (vs : List V) (Q : VK) (E : XK), Room k (A.deeper (envOfC qual (defScope st) s.heap.objs.size f cdv)) → sp vs H Q E →
      ∃ t, PSs (cxOf (CXF P w) P w K mg base N qual (defScope st) f cdv A outer s H E) (defBody st) t ∧ t (Ends.of Q) (start N vs) H) (len : ∀ vs H Q E, sp vs H Q E → vs.length = ps.length := by rintro _ _ _ _ ⟨⟩; subst_vars; rfl) : FnOk P w K mg base (CXF P w) (k + 1) f fd ps sp := by
  obtain ⟨oc, od, kV, doc, pm, an, cdv, ct, osl, rfl, lk, hcd⟩ := F.ex
  exact fn_of lk hcd S len fun A outer s H vs Q E hr hsp => hbody cdv A outer s H vs Q E hr hsp
end
end L2
set_option Elab.async false
set_option linter.all false
set_option maxRecDepth 100000
namespace PySem
theorem wpAny_excMatches_own {M : Model} {A : Around} {E : Value → Shared → Prop} {nm q nm' q' : Str} {C N D N' : Addr} {bs bm bs' bm' : List Value} {hdct hdct' : Bool} {sn sn' : List Str} {sub sub' : List Value} {ab ab' : Bool} {col col' : Option Bool} {dd dd' : Option Addr} {k0 k1 k2 k3 k5 j0 j1 j2 j3 j5 : Option Value} {newId newId' : String}
    {h : Heap} {g : Array GenState} {d : Drawn} {t : Nat} {os : OsState} {e : Addr} {oe : Obj} {Q : Bool → Shared → Prop}
    (hC : h.get? C = some (excClassObj nm q C N bs bm hdct sn sub ab col dd k0 k1 k2 k3 k5 newId)) (hD : h.get? D = some (excClassObj nm' q' D N' bs' bm' hdct' sn' sub' ab' col' dd' j0 j1 j2 j3 j5 newId')) (he : h.get? e = some oe) (hcls : oe.cls = .ref C) (hbase : bm'.contains (.type "BaseException") = true) (hsub : (Value.ref C :: bm).contains (.ref D) = true)
    (hq : Q true ⟨h, g, d, t, os⟩) : wpAny M A (excMatches (.ref e) (.ref D)) Q E ⟨h, g, d, t, os⟩ := by
  have hcB : (Value.ref D :: bm').contains (.type "BaseException") = true := by rw [List.contains_cons, hbase, Bool.or_true]
  have f := tc_notTuple
  unfold excMatches
  repeat (first | (with_reducible refine wpAny_loadPart_at he ?_; rw [hcls]) | with_reducible refine wpAny_loadPart_at hD ?_ | (with_reducible refine wpAny_isSubtype_exc hD ?_; rw [hcB]) | (with_reducible refine wpAny_isSubtype_exc hC ?_; rw [hsub]) | wp_step)
  exact hq
end PySem
namespace L2
open PySem PySem.Spec PyProof.Rows
def cxTry (X : Cx) (pins : List (Addr × Obj)) (xe : Value → Shared → Prop) : Cx := { X with pn := X.pn ++ pins, xe := xe }
section
variable {X : Cx} {pins p2 : List (Addr × Obj)} {σ : St} {H : Hp} {s : Shared} {xe : Value → Shared → Prop}
theorem cxTry_ok (ok : X.Ok) : (cxTry X pins xe).Ok := ⟨ok.mod, ok.kind, ok.glob, ok.blt, ok.above, ok.inj, ok.has, ok.cab, ok.hd, ok.frames, ok.stk, ok.exf, ok.bs, ok.bsz, ok.noex, ok.exfs, ok.funs, ok.frf⟩
theorem cxTry_ko (ok : (cxTry X pins xe).Ok) : X.Ok := ⟨ok.mod, ok.kind, ok.glob, ok.blt, ok.above, ok.inj, ok.has, ok.cab, ok.hd, ok.frames, ok.stk, ok.exf, ok.bs, ok.bsz, ok.noex, ok.exfs, ok.funs, ok.frf⟩
theorem Inv.toTry (I : Inv X pins σ H s) : Inv (cxTry X pins xe) [] σ H s :=
  ⟨cxTry_ok I.ok, I.os, I.bare, I.base, I.loc, I.cell, I.free, I.freeC, fun p hp => I.pin p (by
    have : p ∈ (X.pn ++ pins) ++ [] := hp
    rwa [List.append_nil] at this), I.hok, I.len⟩
theorem Inv.ofTry (I : Inv (cxTry X pins xe) p2 σ H s) : Inv X pins σ H s :=
  ⟨cxTry_ko I.ok, I.os, I.bare, I.base, I.loc, I.cell, I.free, I.freeC, fun p hp => I.pin p (List.mem_append_left _ hp), I.hok, I.len⟩
theorem Inv.stays {h' : Heap} (hex : X.ex = []) (I : Inv X pins σ H s)
    (kp : ∀ b o, s.heap.get? b = some o → b ∉ frs X.stack → (H b ≠ none ∨ (∃ o', X.s₀.heap.get? b = some o') ∨ b ∈ (X.pn ++ pins).map (·.1)) → h'.get? b = some o) (sl : s.heap.UpToSlots h') : Inv X pins σ H { s with heap := h' } := by
  obtain ⟨un, hok⟩ := left_un hex I (fun b o q hb hc => kp b o q hb (hc.elim .inl fun z => .inr (.inl z))) sl
  obtain ⟨m, hn, hl⟩ := I.loc
  have cel : ∀ {c v}, s.heap.IsCell c v → h'.IsCell c v := fun {c v} ⟨o, q, hd⟩ => by
    obtain ⟨sl', q'⟩ := sl c o q (fun vs z => by rw [hd] at z; cases z)
    exact ⟨_, q', hd⟩
  have un2 : Un X.fs X.ex X.H₀ H X.s₀.heap h' := by rw [hex]; exact un
  refine ⟨I.ok, I.os, I.bare, un2, ⟨m, sl.ns hn, fun i x v q1 q2 q3 => ?_⟩, fun x c q => ?_, I.free, I.freeC, fun p hp => ?_, hok, I.len⟩
  · obtain ⟨u, r, l⟩ := hl i x v q1 q2 q3
    refine ⟨u, r, ?_⟩
    rcases l with l | ⟨l1, c, l2, l3⟩
    · exact .inl l
    · exact .inr ⟨l1, c, l2, cel l3⟩
  · obtain ⟨v, q'⟩ := I.cell x c q
    exact ⟨v, cel q'⟩
  · obtain ⟨p1, p2, p3, p4, p5⟩ := I.pin p hp
    refine ⟨kp _ _ p1 (fun z => ?_) (.inr (.inr (List.mem_map_of_mem hp))), p2, p3, p4, p5⟩
    rcases List.mem_cons.mp (I.stkSub _ z) with z1 | z1
    · exact p3 z1
    · exact p4 z1
end
def XT (X : Cx) (pins : List (Addr × Obj)) (EX : St → XK) : Value → Shared → Prop := fun e s' => ∃ ea C σ H', e = .ref ea ∧ Inv X pins σ H' s' ∧ H' ea = none ∧
  (∃ (B : Heap) (t : Addr), Heap.FlyingX B X.stack ea (.ref C) (.ref t) s'.heap ∧ (∀ p ∈ X.pn ++ pins, p.1 ≠ ea) ∧ ∀ b o, s'.heap.get? b = some o → b ∉ frs X.stack → (H' b ≠ none ∨ (∃ o', X.s₀.heap.get? b = some o') ∨ b ∈ (X.pn ++ pins).map (·.1)) → B.get? b = some o) ∧ EX σ (.ref C) (some ea) H'
def tCallT (sp : Sp) (EX : St → XK) (t : TA) : TE := fun σ H Q => t σ H fun vs H1 => sp vs H1 Q (EX σ)
theorem pe_callT {X : Cx} {pins0 : List (Addr × Obj)} {EX : St → XK} {k : Nat} {x : Str} {ps : List Str} {sp : Sp} {p pos : Pos} {e : Expr} {es : List Expr} {t : TA} {f : Addr} {fd : FuncData} (hex : X.ex = []) (F : FnOk X.prog X.w X.K X.mg X.base (CXF X.prog X.w) k f fd ps sp) (hb : Binds X.K fd ps []) (hk : PySem.W.keepIn X.K (.ref f) = true) (hm : X.mg x = some (.ref f)) (hr : Room k X.A) (hg : Gl X x)
    (ha : PA (cxTry X pins0 (XT X pins0 EX)) (e :: es) t) (hdb : (x == ("__debug__" : Str)) = false := by decide) (he : starEach (e :: es) X.env = (false, eval e X.env) :: starEach es X.env := by rfl) (hpl : (backTo pos (starEach es X.env)).any (·.1) = false := by rfl) :
    PE (cxTry X pins0 (XT X pins0 EX)) (.Call (.Name x p) (e :: es) [] pos) (tCallT sp EX t) := by
  intro pins s σ H Q I h
  refine wpAny_Call_Name_kw (ld_glob I hg hm ?_ hdb)
  refine PySem.W.callWith_K (h₀ := X.base) I.ok.mod.kin hk (thn (ha pos pins s σ H _ I h) fun us s1 ⟨vs, H1, I1, r, q⟩ => ⟨I1.kIn, ?_⟩) he hpl
  have hl' : us.length = ps.length := by rw [← r.length]; exact F.len _ _ _ _ q
  have bt : BindsTo s1 fd ⟨us, []⟩ (ps.zip us) := by
    have := hb s1 us I1.kIn (by rw [List.append_nil]; exact hl')
    rw [List.append_nil] at this
    exact this
  refine wpAny_call (codeAny_mono (F.run X.A X.stack s1 H1 ⟨us, []⟩ us vs Q (EX σ) hr I1.env0 bt r q) fun r' s' hq => ?_)
  cases r' with
  | error e =>
    obtain ⟨ea, C, H', rfl, ⟨os, bare, un, hok, nea, B, tt, fl, keepB⟩, hE⟩ := hq
    have J0 : Inv (cxTry X pins0 (XT X pins0 EX)) pins σ H' s' := I1.call' os un hok bare (fun b z => absurd z (by simp))
    have J := J0.ofTry
    have I1' := I1.ofTry
    have nfr : ∀ {b}, b ∈ (X.pn ++ pins0).map (·.1) → b ∉ frs X.stack := fun {b} hb z => by
      obtain ⟨p, hp, rfl⟩ := List.mem_map.mp hb
      obtain ⟨p1, p2, p3, p4, p5⟩ := I1'.pin p hp
      rcases List.mem_cons.mp (I1'.stkSub _ z) with z1 | z1
      · exact p3 z1
      · exact p4 z1
    refine ⟨ea, C, σ, H', rfl, J, nea, ⟨B, tt, fl, fun p hp z => ?_, fun b o q hb hc => keepB b o q hb ?_⟩, hE⟩
    · obtain ⟨p1, _⟩ := I1'.pin p hp
      have j1 := (J.pin p hp).1
      have := keepB p.1 p.2 j1 (nfr (List.mem_map_of_mem hp)) (.inr ⟨_, p1⟩)
      rw [z, fl.2.1] at this
      cases this
    · rcases hc with z | ⟨o', z⟩ | z
      · exact .inl z
      · exact .inr (I1'.base.there b o' z (by rw [hex]; simp))
      · obtain ⟨p, hp, rfl⟩ := List.mem_map.mp z
        exact .inr ⟨_, (I1'.pin p hp).1⟩
  | ok fl =>
    cases fl with
    | ret u => exact I1.after hq
    | next => exact False.elim hq
    | brk => exact False.elim hq
    | cont => exact False.elim hq
end L2
set_option Elab.async false
set_option linter.all false
set_option maxRecDepth 100000
namespace L2
open PySem PySem.Spec PyProof.Rows
def cxSuite (X : Cx) (ea : Addr) (pins : List (Addr × Obj)) : Cx := { X with A := X.A.mark (some (.ref ea)), calm := false, pn := X.pn ++ pins, xe := fun _ _ => False }
section
variable {X : Cx} {pins p2 : List (Addr × Obj)} {σ : St} {H : Hp} {s : Shared} {ea : Addr}
theorem Inv.toSuite (I : Inv X pins σ H s) : Inv (cxSuite X ea pins) [] σ H s :=
  ⟨⟨I.ok.mod, I.ok.kind, I.ok.glob, I.ok.blt, I.ok.above, I.ok.inj, I.ok.has, I.ok.cab, (fun z => by cases z), I.ok.frames, I.ok.stk, I.ok.exf, I.ok.bs, I.ok.bsz, I.ok.noex, I.ok.exfs, I.ok.funs, I.ok.frf⟩,
    I.os, I.bare, I.base, I.loc, I.cell, I.free, I.freeC, fun p hp => I.pin p (by
    have : p ∈ (X.pn ++ pins) ++ [] := hp
    rwa [List.append_nil] at this), I.hok, I.len⟩
theorem Inv.ofSuite (hd : X.calm = true → X.A.handled = none) (I : Inv (cxSuite X ea pins) p2 σ H s) : Inv X pins σ H s :=
  ⟨⟨I.ok.mod, I.ok.kind, I.ok.glob, I.ok.blt, I.ok.above, I.ok.inj, I.ok.has, I.ok.cab, hd, I.ok.frames, I.ok.stk, I.ok.exf, I.ok.bs, I.ok.bsz, I.ok.noex, I.ok.exfs, I.ok.funs, I.ok.frf⟩,
    I.os, I.bare, I.base, I.loc, I.cell, I.free, I.freeC, fun p hp => I.pin p (List.mem_append_left _ hp), I.hok, I.len⟩
theorem Inv.morePin {o : Obj} (I : Inv X pins σ H s) (e : s.heap.get? ea = some o) (n : H ea = none) (nl : ea ≠ X.env.locals) (nf : ea ∉ X.fs) (nc : ∀ v, o.data ≠ .cell v) : Inv X (pins ++ [(ea, o)]) σ H s :=
  ⟨I.ok, I.os, I.bare, I.base, I.loc, I.cell, I.free, I.freeC, fun p hp => by
    rw [← List.append_assoc] at hp
    rcases List.mem_append.mp hp with hp | hp
    · exact I.pin p hp
    · rw [List.mem_singleton] at hp
      subst hp
      exact ⟨e, n, nl, nf, nc⟩, I.hok, I.len⟩
theorem name_gone {M : Model} {A : Around} {E : Value → Shared → Prop} {i : Nat} {n : Str} {pos : Pos} {Q : Unit → Shared → Prop} (I : Inv X pins σ H s) (hN : X.N.Nodup) (hi : X.N[i]? = some n) (hn : X.env.scope.names.lookup n = some .local)
    (h : ∀ s', Inv X pins (σ.set i none) H s' → Q () s') : wpAny M A (do bindName X.env n .none; unbindBehindTheSuite X.env n pos) Q E s := by
  obtain ⟨m, hns, hl⟩ := I.loc
  refine wpAny_nameGoes_keeps (m := m) hn hns (by rw [I.ok.kind]; rfl) fun h' v hns' hsb => h _ ?_
  have same : ∀ {b}, b ≠ X.env.locals → h'.get? b = s.heap.get? b := fun nb => hsb.2 _ nb
  have old : ∀ {b o}, X.s₀.heap.get? b = some o → b ≠ X.env.locals := fun {b o} e z => by
    have h1 := Heap.lt_size e
    have h2 := I.ok.above
    rw [z] at h1
    exact absurd (Nat.lt_of_lt_of_le h1 h2) (Nat.lt_irrefl _)
  have cel : ∀ {c u}, c ≠ X.env.locals → s.heap.IsCell c u → h'.IsCell c u := fun nc ⟨o, q, hd⟩ => ⟨o, (same nc).trans q, hd⟩
  refine ⟨I.ok, I.os, I.bare, ⟨fun b o e n' hb hx => (same (old e)).trans (I.base.keep b o e n' hb hx), fun b o e n' hb hx => ?_, I.base.free, fun b o e hx => ?_, I.base.tups, I.base.frzs, I.base.tbls⟩, ⟨_, hns', fun j y u e1 e2 e3 => ?_⟩, fun x c q => ?_, I.free, I.freeC, fun p hp => ?_, I.hok.keptT fun b u nb q => ?_, by rw [List.length_set]; exact I.len⟩
  · obtain ⟨sl, q⟩ := I.base.slot b o e n' hb hx
    exact ⟨sl, (same (old e)).trans q⟩
  · obtain ⟨o', q⟩ := I.base.there b o e hx
    exact ⟨o', (same (old e)).trans q⟩
  · have hji : j ≠ i := fun z => by
      rw [z, List.getElem?_set] at e2
      simp only [if_true] at e2
      split at e2 <;> cases e2
    rw [List.getElem?_set_ne (Ne.symm hji)] at e2
    have hyn : y ≠ n := fun z => by
      rw [z] at e1
      obtain ⟨l1, q1⟩ := List.getElem?_eq_some_iff.mp e1
      obtain ⟨l2, q2⟩ := List.getElem?_eq_some_iff.mp hi
      rcases Nat.lt_or_gt_of_ne hji with lt | lt
      · exact List.pairwise_iff_getElem.mp hN _ _ l1 l2 lt (q1.trans q2.symm)
      · exact List.pairwise_iff_getElem.mp hN _ _ l2 l1 lt (q2.trans q1.symm)
    obtain ⟨w', r, l⟩ := hl j y u e1 e2 e3
    refine ⟨w', r, ?_⟩
    rcases l with ⟨l1, l2⟩ | ⟨l1, c, l2, l3⟩
    · exact .inl ⟨l1, by show (if y = n then v else m y) = some w'; rw [if_neg hyn]; exact l2⟩
    · exact .inr ⟨l1, c, l2, cel (I.cne y c l2) l3⟩
  · obtain ⟨v', q'⟩ := I.cell x c q
    exact ⟨v', cel (I.cne x c q) q'⟩
  · obtain ⟨p1, p2', p3, p4, p5⟩ := I.pin p hp
    exact ⟨(same p3).trans p1, p2', p3, p4, p5⟩
  · exact (same (fun z => nb (by rw [z]; exact I.free))).trans q
end
def CatchOk (h : Heap) (C D : Addr) : Prop := ∃ (nm q nm' q' : Str) (N N' : Addr) (bs bm bs' bm' : List Value) (hdct hdct' : Bool) (sn sn' : List Str) (sub sub' : List Value) (ab ab' : Bool) (col col' : Option Bool) (dd dd' : Option Addr) (k0 k1 k2 k3 k5 j0 j1 j2 j3 j5 : Option Value) (newId newId' : String),
  h.get? C = some (excClassObj nm q C N bs bm hdct sn sub ab col dd k0 k1 k2 k3 k5 newId) ∧ h.get? D = some (excClassObj nm' q' D N' bs' bm' hdct' sn' sub' ab' col' dd' j0 j1 j2 j3 j5 newId') ∧ bm'.contains (.type "BaseException") = true ∧ (Value.ref C :: bm).contains (.ref D) = true
end L2
set_option Elab.async false
set_option linter.all false
set_option maxRecDepth 100000
namespace L2
open PySem PySem.Spec PyProof.Rows
def objO (a : Addr) (o : Obj) : HO := .ext fun h => h.get? a = some o
section
variable {P : Program} {w : World} {H H' : Hp} {h h' : Heap} {a b c : Addr} {o : Obj}
theorem objO_ok (e : h.get? a = some o) : ObjOk P w H h a (objO a o) := ⟨e, ⟨o, e⟩, fun h1 h2 q k => k o q⟩
theorem objO_at (ok : HOk P w H h) (q : H a = some (objO a o)) : h.get? a = some o := (ok a _ q).1
theorem HOk.obj (ok : HOk P w H h) (n : H c = none) (e : h.get? c = some o) : HOk P w (upd H c (objO c o)) h := fun b u q => by
  by_cases hb : b = c
  · subst hb; rw [upd_same] at q; cases q; exact objO_ok e
  · rw [upd_ne hb] at q
    exact (ok b u q).stay (fun _ _ _ e => e) (fun d r => by rw [upd_ne (ne_of_none r n)]; exact r) fun d xs r => by rw [upd_ne (ne_of_none r n)]; exact r
end
end L2
set_option Elab.async false
set_option linter.all false
set_option maxRecDepth 100000
namespace L2
open PySem PySem.Spec PyProof.Rows PySem.Builtin.Getset_descriptor
section
variable {K : PySem.W.Frag} {M : Model} {h : Heap} {x C : Addr} {name : Str} {ax gx : Value}
theorem exc_ty {ob : Obj} (e : h.get? x = some ob) (c : ob.cls = .ref C) : PySem.W.Looks M h (typeOf (.ref x)) (.ref C) := by
  rw [← c]
  exact (PySem.W.Looks.ld e).andThen .now
theorem find_data (X : K.In h) (h1 : PySem.W.findIn K (.ref C) name = some (some ax)) (h2 : PySem.W.specialIn K ax "__get__" = some (some gx)) (h3 : PySem.W.takesIn K ax = some true) :
    PySem.W.Looks M h (Builtin.ObjectAttr.find (.ref x) (.ref C) name) (.bind gx ax) := by
  have e1 := PySem.W.looks_findIn (M := M) X h1
  have e2 : PySem.W.Looks M h (Builtin.ObjectAttr.getOf (some ax)) (some gx) := PySem.W.looks_specialIn X h2
  have e3 : PySem.W.Looks M h (Builtin.ObjectAttr.dataDescriptor? (some ax) (some gx)) (some (gx, ax)) := (PySem.W.looks_takesIn X h3).andThen .now
  exact e1.andThen (e2.andThen (e3.andThen (.tag .now)))
end
section
variable {prog : Program} {w : World} {A : Around} {E : Value → Shared → Prop} {s : Shared} {K : PySem.W.Frag} {x C : Addr} {ob : Obj}
theorem exc_class_get {R : Result → Shared → Prop} {tp : Value} (X : K.In s.heap) (e : s.heap.get? x = some ob) (c : ob.cls = .ref C) (hm : PySem.W.mroIn K C (.type "object") = some true) (q : R (.ok (.ret (.ref C))) s) :
    codeAny (model prog w) A (.call (.builtin "getset_descriptor.__get__") ⟨[.builtin "object.__class__", .ref x, tp], []⟩) R s := by
  obtain ⟨hp, gn, dr, tk, os⟩ := s
  have y1 := exc_ty (M := model prog w) e c
  have y2 := PySem.W.looks_mroIn (M := model prog w) X hm
  refine codeAny_call_builtin PySem.W.KF.slot_gs.plain PySem.W.KF.entry_gs ?_
  refine PySem.W.KF.slot_gs.check _ _ _ _ _ _ _ _ PySem.W.KF.type_class (PySem.W.KF.args_gs _ _ _) ?_
  unfold Builtin.«getset_descriptor.__get__»
  unfold descrGet
  rw [PySem.W.dga_obj]
  refine wpAny_bind (wpAny_pure ?_)
  unfold descrGetter descrCheckInstance
  unfold descrNameAndClass isInstance
  simp only [PySem.W.KF.owner_class]
  repeat lk
  refine ⟨Code.quiet_builtin _ (by decide +kernel), ?_⟩
  refine codeAny_builtin PySem.W.KF.entry_class ?_
  unfold Builtin.«object.__class__»
  unfold shownTypeOf
  repeat lk
  exact q
theorem exc_check {Q : Unit → Shared → Prop} {nameV : Value} (X : K.In s.heap) (e : s.heap.get? x = some ob) (c : ob.cls = .ref C) (gb : PySem.W.mroIn K C (.type "BaseException") = some true) (q : Q () s) :
    wpAny (model prog w) A (checkBuiltinCall "BaseException.__getattribute__" ⟨[.ref x, nameV], []⟩) Q E s := by
  obtain ⟨hp, gn, dr, tk, os⟩ := s
  have y1 := exc_ty (M := model prog w) e c
  have y2 := PySem.W.looks_mroIn (M := model prog w) X gb
  have k1 : builtinKind "BaseException.__getattribute__" = some .slot := by decide +kernel
  have k2 : splitId "BaseException.__getattribute__" = some ("BaseException", "__getattribute__") := by decide +kernel
  have k3 := F.args_bexc_ga (.ref x) nameV
  simp only [checkBuiltinCall, k1, k2]
  unfold isInstance
  refine wpAny_bind (wpAny_bind (y1.at (y2.at ?_)))
  rw [if_neg (by decide)]
  cases hz : Manifest.signature? "BaseException.__getattribute__" with
  | none => exact wpAny_pure q
  | some sig =>
    simp only [argsOk, hz] at k3
    have k4 : Bind.checkArgs "BaseException.__getattribute__" sig ⟨[.ref x, nameV], []⟩ = pure () := k3
    show wpAny _ _ (Bind.checkArgs "BaseException.__getattribute__" sig ⟨[.ref x, nameV], []⟩) _ _ _
    rw [k4]
    exact wpAny_pure q
variable (g0 : PySem.W.findIn K (.ref C) "__getattribute__" = some (some (.builtin "BaseException.__getattribute__"))) (g1 : PySem.W.findIn K (.ref C) "__getattr__" = some none) (gb : PySem.W.mroIn K C (.type "BaseException") = some true)
  (g2 : PySem.W.findIn K (.ref C) "__class__" = some (some (.builtin "object.__class__"))) (g3 : PySem.W.specialIn K (.builtin "object.__class__") "__get__" = some (some (.builtin "getset_descriptor.__get__")))
  (g4 : PySem.W.takesIn K (.builtin "object.__class__") = some true) (g5 : PySem.W.mroIn K C (.type "object") = some true)
include g0 g1 gb g2 g3 g4 g5
theorem exc_class {Q : Option Value → Shared → Prop} (X : K.In s.heap) (e : s.heap.get? x = some ob) (c : ob.cls = .ref C) (q : Q (some (.ref C)) { s with toks := s.toks + 1 }) : wpAny (model prog w) A (getAttr? (.ref x) "__class__") Q E s := by
  obtain ⟨hp, gn, dr, tk, os⟩ := s
  have y1 := exc_ty (M := model prog w) e c
  have y2 := PySem.W.looks_findIn (M := model prog w) X g0
  have y3 := PySem.W.looks_findIn (M := model prog w) X g1
  have y4 := find_data (M := model prog w) (x := x) X g2 g3 g4
  unfold getAttr? getAttrBy?
  unfold getAttrBy
  refine wpAny_bind (wpAny_mkText ?_)
  refine wpAny_bind (wpAny_attempt (wpAny_holding ?_))
  refine wpAny_bind (y1.at ?_)
  refine wpAny_bind (y2.at ?_)
  show wpAny _ _ (getAttrByItsOwn _ _ _ _ _ _) _ _ _
  unfold getAttrByItsOwn
  refine wpAny_bind ((show PySem.W.Looks (model prog w) hp (hookBefore (.ref C)) none from y3).at ?_)
  refine wpAny_bind (wpAny_attempt (wpAny_holding ?_))
  show wpAny _ _ (boundAndCalled _ _ _) _ _ _
  unfold boundAndCalled
  rw [F.excAttr_ValueError.ga.bind]
  refine wpAny_bind (wpAny_pure (wpAny_call (codeAny_call_builtin F.excAttr_ValueError.ga.plain F.entry_bexc_ga (exc_check X e c gb ?_))))
  unfold Builtin.«object.__getattribute__»
  refine wpAny_bind (wpAny_pure (wpAny_bind (wpAny_pure (wpAny_bind (y1.at (wpAny_bind (y4.at ?_)))))))
  show wpAny _ _ (holding [_] (call _ [_, _, _]) >>= ret) _ _ _
  refine wpAny_bind (wpAny_holding (wpAny_call (exc_class_get X e c g5 ?_)))
  refine wpAny_pure ?_
  exact PySem.W.handed_on rfl (wpAny_pure q)
end
end L2
namespace L2
open PySem PySem.Spec PyProof.Rows
structure ExcCls (K : PySem.W.Frag) (C : Addr) : Prop where
  g0 : PySem.W.findIn K (.ref C) "__getattribute__" = some (some (.builtin "BaseException.__getattribute__"))
  g1 : PySem.W.findIn K (.ref C) "__getattr__" = some none
  gb : PySem.W.mroIn K C (.type "BaseException") = some true
  g2 : PySem.W.findIn K (.ref C) "__class__" = some (some (.builtin "object.__class__"))
  g3 : PySem.W.specialIn K (.builtin "object.__class__") "__get__" = some (some (.builtin "getset_descriptor.__get__"))
  g4 : PySem.W.takesIn K (.builtin "object.__class__") = some true
  g5 : PySem.W.mroIn K C (.type "object") = some true
  lk : ∃ c0 d0 cd sl, K.lookup C = some ⟨c0, d0, .cls cd, sl⟩
theorem kitx_exc {K : PySem.W.Frag} {x C : Addr} (S : ExcCls K C) : PySem.W.KitX K (.ref x) (.ref C) (fun h => ∃ ob, h.get? x = some ob ∧ ob.cls = .ref C) where
  ty := fun _ _ _ ⟨ob, e, c⟩ => exc_ty e c
  it := fun M h X _ => by
    obtain ⟨c0, d0, cd, sl, q⟩ := S.lk
    intro A' Q' E' s' k z
    unfold isType
    unfold loadHead
    exact wpAny_bind (wpAny_loadPart (k _ _ (X _ _ q)) (wpAny_pure z))
  ne := fun h tp dd its n sl X e => by
    obtain ⟨c0, d0, cd, sl', q⟩ := S.lk
    cases hz : (Value.ref C == Value.ref tp) with
    | false => rfl
    | true =>
      have z : C = tp := by simpa using hz
      have e2 := X _ _ q
      rw [z, e] at e2
      cases e2
  ca := fun {prog w A E Q s} X ⟨ob, e, c⟩ k => exc_class S.g0 S.g1 S.gb S.g2 S.g3 S.g4 S.g5 X e c k
section
variable {X : Cx}
theorem call_isiE : CallR X (.builtin "isinstance") (fun xs H Q => ∃ ea ob C D b, xs = [.ref ea, .ref D] ∧ H ea = some (objO ea ob) ∧ ob.cls = .ref C ∧ ExcCls X.K C ∧ PySem.W.kitOne X.K (.ref C) (.ref D) = some b ∧ Q (.bl b) H) := by
  intro pins s σ H xs us Q I r h
  obtain ⟨ea, ob, C, D, b, rfl, e, c, S, k, q⟩ := h
  obtain ⟨u, u', rfl, rx, ry⟩ := vals2 r
  cases (show u = Value.ref ea from rx)
  cases (show u' = Value.ref D from ry)
  exact PySem.W.kia_one (kitx_exc S) I.kIn ⟨ob, objO_at I.hok e, c⟩ k (fun z => nomatch z) fun tk => ⟨.bl b, H, I.tok tk, rfl, q⟩
theorem call_isiT : CallR X (.builtin "isinstance") (fun xs H Q => ∃ ea ob C T b, xs = [.ref ea, .ty T] ∧ H ea = some (objO ea ob) ∧ ob.cls = .ref C ∧ ExcCls X.K C ∧ PySem.W.kitOne X.K (.ref C) (.type T) = some b ∧ Q (.bl b) H) := by
  intro pins s σ H xs us Q I r h
  obtain ⟨ea, ob, C, T, b, rfl, e, c, S, k, q⟩ := h
  obtain ⟨u, u', rfl, rx, ry⟩ := vals2 r
  cases (show u = Value.ref ea from rx)
  cases (show u' = Value.type T from ry)
  exact PySem.W.kia_one (kitx_exc S) I.kIn ⟨ob, objO_at I.hok e, c⟩ k (fun z => nomatch z) fun tk => ⟨.bl b, H, I.tok tk, rfl, q⟩
theorem vals_refs : ∀ {ds : List Addr} {us : List Value}, Vals (ds.map V.ref) us → us = ds.map Value.ref
  | [], us, r => by cases r; rfl
  | d :: ds, us, r => by
    cases r with
    | cons a b => rw [List.map_cons, ← vals_refs b]; cases (show _ = Value.ref d from a); rfl
theorem call_isiN : CallR X (.builtin "isinstance") (fun xs H Q => ∃ (ea : Addr) (ob : Obj) (C tp : Addr) (ds : List Addr) (b : Bool), xs = [.ref ea, .ref tp] ∧ H ea = some (objO ea ob) ∧ ob.cls = .ref C ∧ ExcCls X.K C ∧ H tp = some (.tup (ds.map V.ref)) ∧ PySem.W.kitAny X.K (.ref C) (ds.map Value.ref) = some b ∧ Q (.bl b) H) := by
  intro pins s σ H xs us Q I r h
  obtain ⟨ea, ob, C, tp, ds, b, rfl, e, c, S, et, k, q⟩ := h
  obtain ⟨u, u', rfl, rx, ry⟩ := vals2 r
  cases (show u = Value.ref ea from rx)
  cases (show u' = Value.ref tp from ry)
  obtain ⟨_, its, rv, o, ho, hc, n, hd⟩ := (show ObjOk X.prog X.w H s.heap tp (.tup (ds.map V.ref)) from I.hok tp _ et)
  have ei := vals_refs rv
  subst ei
  obtain ⟨oc, od, dt, sl⟩ := o
  have hc' : oc = .type "tuple" := hc
  have hd' : dt = .seq (ds.map Value.ref).toArray n := hd
  subst hc' hd'
  exact PySem.W.kia_tup (kitx_exc S) I.kIn ⟨ob, objO_at I.hok e, c⟩ ho k (fun z => nomatch z) fun tk => ⟨.bl b, H, I.tok tk, rfl, q⟩
end
end L2
set_option Elab.async false
set_option linter.all false
set_option maxRecDepth 100000
namespace L2
open PySem PySem.Spec PyProof.Rows
end L2
set_option Elab.async false
set_option linter.all false
set_option maxRecDepth 100000
namespace L2
open PySem PySem.Spec PyProof.Rows
def HT (X : Cx) (pins : List (Addr × Obj)) (EX : St → XK) : Value → Shared → Prop := fun e s2 => ∃ (ea C : Addr) (σ : St) (H' : Hp) (s1 : Shared) (B : Heap) (t : Addr) (h4 : Heap), e = .ref ea ∧ s2 = { s1 with heap := h4 } ∧ Inv X pins σ H' s1 ∧ H' ea = none ∧
  Heap.HeldX B (X.env :: X.outer) ea (.ref C) (.ref t) X.env.locals h4 ∧ s1.heap.UpToSlots h4 ∧ (∀ p ∈ X.pn ++ pins, p.1 ≠ ea) ∧
  (∀ b o, s1.heap.get? b = some o → b ∉ frs X.stack → (H' b ≠ none ∨ (∃ o', X.s₀.heap.get? b = some o') ∨ b ∈ (X.pn ++ pins).map (·.1)) → B.get? b = some o) ∧ EX σ (.ref C) (some ea) H'
end L2
set_option Elab.async false
set_option linter.all false
set_option maxRecDepth 100000
namespace L2
open PySem PySem.Spec PyProof.Rows
end L2
set_option Elab.async false
set_option linter.all false
set_option maxRecDepth 100000
namespace L2
open PySem PySem.Spec PyProof.Rows
section
variable {X : Cx}
end
end L2
set_option Elab.async false
set_option linter.all false
set_option maxRecDepth 100000
namespace L2
open PySem PySem.Spec PyProof.Rows
section
variable {κ : Type} [DecidableEq κ]
def valV (kvs : List (κ × V)) (k : κ) : Option V := (kvs.find? fun kv => decide (kv.1 = k)).map (·.2)
def putK (kvs : List (κ × V)) (k : κ) (v : V) : List (κ × V) :=
  if (kvs.any fun kv => decide (kv.1 = k)) = true then kvs.map (fun kv => if kv.1 = k then (kv.1, v) else kv) else kvs ++ [(k, v)]
end
section
variable {P : Program} {w : World} {H : Hp} {h : Heap} {a : Addr}
end
def DGet (H : Hp) (a : Addr) (y : V) (r : Option V) : Prop :=
  (∃ kvs k, Rd H a (.dK kvs) ∧ y = kV k ∧ r = valV kvs k) ∨ ∃ kvs k b, Rd H a (.dT kvs) ∧ y = .ref b ∧ H b = some (.tup (k.map kV)) ∧ r = valV kvs k
def DPut (H : Hp) (a : Addr) (y v : V) (H' : Hp) : Prop :=
  (∃ kvs k, H a = some (.dK kvs) ∧ y = kV k ∧ kvs.length < sizeLine ∧ H' = upd H a (.dK (putK kvs k v))) ∨
  ∃ kvs k b, H a = some (.dT kvs) ∧ y = .ref b ∧ H b = some (.tup (k.map kV)) ∧ kvs.length < sizeLine ∧ H' = upd H a (.dT (putK kvs k v))
section
variable {X : Cx} {pins : List (Addr × Obj)} {σ : St} {H : Hp} {s : Shared} {a : Addr} {y v : V} {u r : Value} {o : Option V} {A : Around} {E : Value → Shared → Prop}
end
section
variable {X : Cx} {pins : List (Addr × Obj)} {σ : St} {H : Hp} {s : Shared} {a : Addr} {kvs : List (Key × V)} {k : Key} {u : Value} {A : Around} {E : Value → Shared → Prop}
end
inductive tDGet_ (Q : VK) (x : V) (y : V) (H2 : Hp) : Prop where
  | mk (a) (v) : (x = .ref a) → (DGet H2 a y (some v)) → (Q v H2) → tDGet_ Q x y H2
inductive sDPut_ (D : Ends) (σ : St) (v : V) (x : V) (y : V) (H3 : Hp) : Prop where
  | mk (a) (H4) : (x = .ref a) → (DPut H3 a y v H4) → (D.nx σ H4) → sDPut_ D σ v x y H3
section
variable {X : Cx} {o i e value : Expr} {pos pos' tpos : Pos} {td ty tv : TE}
end
section
variable {X : Cx} {pos : Pos}
end
section
variable {X : Cx} {pins : List (Addr × Obj)} {σ : St} {H : Hp} {s : Shared} {a : Addr} {y d : V} {u r : Value} {o : Option V} {A : Around} {E : Value → Shared → Prop}
end
section
variable {X : Cx} {o e f : Expr} {apos cpos : Pos} {td ty tx : TE}
end
section
variable {X : Cx} {pins : List (Addr × Obj)} {σ : St} {H : Hp} {s : Shared} {a : Addr} {kvs : List (Key × V)} {A : Around} {E : Value → Shared → Prop}
end
section
variable {X : Cx} {pins : List (Addr × Obj)} {σ : St} {H : Hp} {s : Shared} {a : Addr} {y : V} {u : Value} {A : Around} {E : Value → Shared → Prop}
end
end L2
namespace L2
open PySem PySem.Spec PyProof.Rows
section
variable {X : Cx}
end
section
variable {κ : Type} [DecidableEq κ]
end
end L2
set_option Elab.async false
set_option linter.all false
set_option maxRecDepth 100000
namespace L2
open PySem PySem.Spec PyProof.Rows
section
variable {X : Cx}
end
end L2
set_option Elab.async false
set_option linter.all false
set_option maxRecDepth 100000
namespace L2
open PySem PySem.Spec PyProof.Rows
section
variable {K : PySem.W.Frag} {i : Nat} {w z : Str} {t u e : TS} {D : Ends} {σ : St} {H : Hp} {a : Addr} {xs : List V}
end
section
variable {X : Cx}
theorem ixL (K : PySem.W.Frag) (h : X.K = K := by rfl) : IxR X (rIxL K) := h ▸ ix_list
theorem clen (K : PySem.W.Frag) (h : X.K = K := by rfl) : CallR X (.builtin "len") (r_call_len_seq K) := h ▸ call_len_seq
theorem piL (K : PySem.W.Frag) {tg l : Expr} {tl : TE} (hl : PE X l tl) (h : X.K = K := by rfl) : PI X tg l (iList K tl) := h ▸ pi_list hl
theorem piT (K : PySem.W.Frag) {tg l : Expr} {tl : TE} (hl : PE X l tl) (h : X.K = K := by rfl) : PI X tg l (iTup K tl) := h ▸ pi_tup hl
theorem pgT (K : PySem.W.Frag) {es : List Expr} {k : Nat} {t : TGs} {n : Nat} {pos : Pos} (hc : X.calm = true) (hq : PGs X es t) (hn : (assignEach es X.env).length = n := by rfl) (hst : (assignEach es X.env).findIdx? (·.1) = none := by rfl) (h : X.K = K := by rfl) : PG X (.Tuple es k pos) (gTup K n t) := h ▸ pg_tup hc hq hn hst
theorem ctup (K : PySem.W.Frag) (h : X.K = K := by rfl) : CallR X (.type "tuple") (r_call_tuple_of K) := h ▸ call_tuple_of
theorem papp (K : PySem.W.Frag) {o e : Expr} {es : List Expr} {apos cpos : Pos} {to : TE} {t : TA} (ho : PE X o to) (ha : PA X (e :: es) t) (hbase : attributeBase o "append" X.env (eval o X.env) = eval o X.env := by rfl)
    (hfew : ((backTo cpos (starEach (e :: es) X.env)).all (fun x => !x.1) && (backToKw cpos (keywordEach [] X.env)).all (fun x => x.1.isSome) && decide ((e :: es).length + ([] : List Keyword).length + (if ([] : List Keyword).isEmpty then 0 else 1) < 30)) = true := by rfl)
    (hline : (apos.endLine == cpos.line) = true := by rfl) (hs : starEach (e :: es) X.env = (false, eval e X.env) :: starEach es X.env := by rfl) (hplain : (backTo cpos (starEach es X.env)).any (·.1) = false := by rfl) (h : X.K = K := by rfl) :
    PE X (.Call (.Attribute o "append" apos) (e :: es) [] cpos) (tBM K "list" rAppend to t) := h ▸ pe_bm PySem.F.plainAttrs_list PySem.F.slot_list_append PySem.F.type_list_append mt_append ho ha hbase hfew hline hs hplain
theorem ppop (K : PySem.W.Frag) {o : Expr} {apos cpos : Pos} {to : TE} (ho : PE X o to) (hbase : attributeBase o "pop" X.env (eval o X.env) = eval o X.env := by rfl) (hline : (apos.endLine == cpos.line) = true := by rfl) (h : X.K = K := by rfl) :
    PE X (.Call (.Attribute o "pop" apos) [] [] cpos) (tBM0 K "list" rPop to) := h ▸ pe_bm0 PySem.F.plainAttrs_list PySem.F.slot_list_pop PySem.F.type_list_pop mt_pop ho hbase hline
theorem pset (i : Nat) {x : Str} {e : Expr} {te : TE} {pos pos' : Pos} (hN : X.N.Nodup) (he : PE X e te) (hi : X.N[i]? = some x := by rfl) (hx : Loc X.env.scope x := by exact Or.inl rfl) (hs : swapsWith e (some (.Name x pos')) pos.line X.env = pure false := by rfl) (hf : X.fn x = true ∨ X.env.scope.names.lookup x = some .local := by first | exact .inl rfl | exact .inr rfl) :
    PS X (.Assign [.Name x pos'] e pos) (tAsg te (gName i)) := ps_set hN hi hx he hs hf
end
end L2
set_option Elab.async false
set_option linter.all false
set_option maxRecDepth 100000
namespace Fw
open PySem PySem.Spec PyProof.Rows L2
abbrev s_is_word : Stmt := top 29
abbrev s_is_nt : Stmt := top 32
def figS : Str := "0123456789"
def wordB (z : Str) : Bool := smallB z || (greatB z || (pathB z || (varB z || decide (V.str z = .str "->"))))
def figs (z : Str) : Str := if z.cps.toList.head? = some 45 then restS z else z
def ntB (z : Str) : Bool := (decide (1 ≤ (figs z).length) && decide ((figs z).length ≤ 30)) && (allS (figs z) figS && (decide (V.str z = .str "0") || !decide (V.str ⟨#[(figs z).cps.toList.getD 0 0]⟩ = .str "0")))
inductive spS (g : Str → Bool) (vs : List V) (H : Hp) (Q : VK) (E_ : XK) : Prop where
  | mk (z : Str) : vs = [.str z] → z.length ≤ 100000 → (∀ H', Same H H' → Q (.bl (g z)) H') → spS g vs H Q E_
theorem starts_mi (z : Str) : Txt.startswith z "-" = decide (z.cps.toList.head? = some 45) := by
  rw [show ("-" : Str) = ⟨#[45]⟩ by decide +kernel]
  unfold Txt.startswith
  obtain ⟨a⟩ := z
  obtain ⟨l⟩ := a
  cases l with
  | nil => rfl
  | cons c r =>
    simp [Builtin.Str.subAt, Str.length, Nat.all]
    rw [Bool.eq_iff_iff]
    simp
theorem pe_weak {X : Cx} {e : Expr} {t t' : TE} (h : PE X e t) (q : ∀ σ H Q, t' σ H Q → t σ H Q) : PE X e t' := fun pins s σ H Q I h' => h pins s σ H Q I (q _ _ _ h')
section
variable {P : Program} {w : World} {K : PySem.W.Frag} {mg : Str → Option Value} {base : Heap} {f : Addr} {fd : FuncData}
theorem sc_is_word : FnScope ["thing"] ["thing"] (defScope s_is_word) := ⟨rfl, rfl, rfl, by decide +kernel, rfl, by decide +kernel, by decide +kernel⟩
theorem ok_is_word (F : Fun K "is_word" "is_word" s_is_word f fd) (har : ∃ t, mg "ARROW" = some (.str "->" t)) (h1 : Has P w K mg base 2 "is_small" ["thing"] (spT (onStr smallB))) (h2 : Has P w K mg base 2 "is_great" ["thing"] (spT (onStr greatB)))
    (h3 : Has P w K mg base 4 "is_path" ["thing"] (spT (onStr pathB))) (h4 : Has P w K mg base 3 "is_variable" ["thing"] (spT (onStr varB))) : FnOk P w K mg base CX0 5 f fd ["thing"] (spS wordB) := by
  refine F.ok sc_is_word (fun cdv A outer s H vs Q E hr h => ?_)
  obtain ⟨z, rfl, hz, q⟩ := h
  obtain ⟨t1, ha⟩ := har
  refine ⟨_, pss_one (ps_ret (pe_or (pcall h1 hr (by decide) rfl (pa_cons (pv 0) pa_nil)) (pe_or (pcall h2 hr (by decide) rfl (pa_cons (pv 0) pa_nil)) (pe_or (pcall h3 hr (by decide) rfl (pa_cons (pv 0) pa_nil))
    (pe_or (pcall h4 hr (by decide) rfl (pa_cons (pv 0) pa_nil)) (pe_one (pe_cmpR op_eq (pv 0) (pe_glob (v := .str "->") rfl ha ⟨_, rfl⟩) (nomark _)))))))), ?_⟩
  unfold wordB at q
  refine ⟨_, rfl, .str z, .str z, rfl, .str z hz, fun H1 e1 => ⟨_, rfl, ?_⟩⟩
  show if smallB z = true then _ else _
  cases c1 : smallB z with
  | true => rw [c1] at q; exact iteT (q H1 e1)
  | false =>
    rw [c1] at q
    refine iteF ⟨_, rfl, .str z, .str z, rfl, .str z hz, fun H2 e2 => ⟨_, rfl, ?_⟩⟩
    show if greatB z = true then _ else _
    cases c2 : greatB z with
    | true => rw [c2] at q; exact iteT (q H2 (e1.trans e2))
    | false =>
      rw [c2] at q
      refine iteF ⟨_, rfl, .str z, .str z, rfl, .str z hz, fun H3 e3 => ⟨_, rfl, ?_⟩⟩
      show if pathB z = true then _ else _
      cases c3 : pathB z with
      | true => rw [c3] at q; exact iteT (q H3 ((e1.trans e2).trans e3))
      | false =>
        rw [c3] at q
        refine iteF ⟨_, rfl, .str z, .str z, rfl, .str z hz, fun H4 e4 => ⟨_, rfl, ?_⟩⟩
        show if varB z = true then _ else _
        cases c4 : varB z with
        | true => rw [c4] at q; exact iteT (q H4 (((e1.trans e2).trans e3).trans e4))
        | false =>
          rw [c4] at q
          refine iteF ⟨_, rfl, rfl, ?_⟩
          exact q H4 (((e1.trans e2).trans e3).trans e4)
theorem sc_is_nt : FnScope ["text", "figures"] ["text"] (defScope s_is_nt) := ⟨rfl, rfl, rfl, by decide +kernel, rfl, by decide +kernel, by decide +kernel⟩
theorem ok_is_nt (F : Fun K "is_number_text" "is_number_text" s_is_nt f fd) (ml : mg "len" = none) (hfi : ∃ t, mg "FIGURES" = some (.str figS t)) (hmo : ∃ t, mg "MOST_FIGURES" = some (.int 30 t)) (h1 : Has P w K mg base 1 "all_of" ["text", "signs"] spAllOf) :
    FnOk P w K mg base CX0 2 f fd ["text"] (spS ntB) := by
  refine F.ok sc_is_nt (fun cdv A outer s H vs Q E hr h => ?_)
  obtain ⟨z, rfl, hz, q⟩ := h
  obtain ⟨t1, hf⟩ := hfi
  obtain ⟨t2, hm⟩ := hmo
  have rl := rest_len z
  have fl : (figs z).length ≤ 100000 := by unfold figs; split <;> omega
  refine ⟨_, pss_cons (pset 1 sc_is_nt.nd (pe_weak (t' := fun σ H' Q' => σ = [some (.str z), none] ∧ Q' (.str (figs z)) H') (pe_ifExp (pt_val (pe_bm PySem.F.plainAttrs_str PySem.F.slot_str_startswith PySem.F.type_str_startswith mt_startswith (pv 0) (pa_cons pe_str pa_nil))) (pe_slice sl_str (pv 0) (po_some pe_int) po_none) (pv 0)) ?w))
    (pss_cons (ps_if (PW.pt (pw_or (pt_not (pt_chain op_le op_le pe_int (pe_callB call_len_str rfl ml PySem.boot_len (pa_cons (pv 1) pa_nil)) (pe_glob (v := .int 30) rfl hm ⟨_, rfl⟩)))
      (pw_or1 (pt_not (pt_val (pcall h1 hr (by decide) rfl (pa_cons (pv 1) (pa_cons (pe_glob (v := .str figS) rfl hf ⟨_, rfl⟩) pa_nil)))))))) (pss_one (ps_ret pe_bl)) pss_nil)
    (pss_one (ps_ret (pe_or (pe_cmpR op_eq (pv 0) pe_str (nomark _)) (pe_one (pe_cmpR op_ne (pe_ix ix_str (pv 1) pe_int (fun _ _ => rfl)) pe_str (nomark _))))))), ?_⟩
  case w =>
    rintro σ H' Q' ⟨rfl, q'⟩
    refine ⟨_, rfl, rfl, z, "-", rfl, rfl, _, rfl, ?_⟩
    rw [starts_mi]
    unfold figs at q'
    refine ite2 (fun c => ?_) (fun c => ?_)
    · have c' := of_decide_eq_true c
      rw [if_pos c'] at q'
      have hl : 1 ≤ z.length := by
        rw [← len_toList]
        cases e : z.cps.toList with
        | nil => rw [e] at c'; cases c'
        | cons c r => simp
      refine ⟨_, rfl, 1, rfl, z, rfl, small (by omega), ?_⟩
      rw [rest_slice hl]
      exact q'
    · rw [if_neg (of_decide_eq_false (Bool.eq_false_iff.mpr c))] at q'
      exact ⟨_, rfl, q'⟩
  unfold ntB at q
  refine ⟨rfl, ?_⟩
  refine ⟨_, rfl, figs z, rfl, small (by omega), 1, (figs z).length, rfl, rfl, _, rfl, ?_⟩
  refine ite2 (fun c => ?_) (fun c => ?_)
  · have c1 : (1 : Int) ≤ (figs z).length := of_decide_eq_true c
    have c2 : 1 ≤ (figs z).length := by omega
    rw [decide_eq_true c2] at q
    refine ⟨_, _, rfl, rfl, _, rfl, ?_⟩
    refine ite2 (fun d => ?_) (fun d => ?_)
    · have d1 : ¬ ((figs z).length : Int) ≤ 30 := of_decide_eq_false (by simpa using d)
      rw [decide_eq_false (show ¬ (figs z).length ≤ 30 by omega)] at q
      exact q H (Same.refl H)
    · have d1 : ((figs z).length : Int) ≤ 30 := of_decide_eq_true (by simpa using d)
      rw [decide_eq_true (show (figs z).length ≤ 30 by omega)] at q
      refine ⟨_, rfl, figs z, figS, rfl, fl, fun H1 e1 => ?_⟩
      refine ⟨_, rfl, ?_⟩
      cases ha : allS (figs z) figS with
      | false => rw [ha] at q; exact iteT (q H1 e1)
      | true =>
        rw [ha] at q
        refine iteF ⟨_, rfl, rfl, _, rfl, ?_⟩
        cases hb : decide (V.str z = .str "0") with
        | true => rw [hb] at q; exact iteT (q H1 e1)
        | false =>
          rw [hb] at q
          exact iteF ⟨_, rfl, figs z, 0, _, rfl, rfl, small (by omega), first_at c2, rfl, q H1 e1⟩
  · have c1 : ¬ (1 : Int) ≤ (figs z).length := of_decide_eq_false (Bool.eq_false_iff.mpr c)
    rw [decide_eq_false (show ¬ 1 ≤ (figs z).length by omega)] at q
    exact ⟨_, rfl, iteT (q H (Same.refl H))⟩
end
end Fw
set_option Elab.async false
set_option linter.all false
set_option maxRecDepth 100000
namespace L2
open PySem PySem.Spec PyProof.Rows
theorem runs_toks {M : Model} {Γ : PySem.Ctx} {p : Pos} {t : Sem Fin} {fs : List Frame} {s s' : Shared} {e : End} (h : Runs M Γ p t fs s e s') : s.toks ≤ s'.toks := by
  induction h <;> first
    | exact Nat.le_refl _
    | assumption
    | exact Nat.le_of_succ_le (by assumption)
    | (simp only [Shared.setGen] at *; omega)
    | omega
theorem wakes_toks {M : Model} {Γ : PySem.Ctx} {p : Pos} {g : Nat} {r : Resume} {s s' : Shared} {res : GenResult} (h : Wakes M Γ p g r s res s') : s.toks ≤ s'.toks := by
  unfold Wakes at h
  split at h
  · exact h.elim
  · split at h
    · obtain ⟨e1, s1, h1, _, _, rfl⟩ := h
      have := runs_toks h1
      simp only [Shared.setGen] at *
      exact this
    · rw [h.2]; exact Nat.le_refl _
    · rw [h.2]; exact Nat.le_refl _
  · obtain ⟨e1, s1, h1, _, _, rfl⟩ := h
    have := runs_toks h1
    simp only [Shared.setGen] at *
    exact this
  · rw [h.2]; exact Nat.le_refl _
  · rw [h.2]; exact Nat.le_refl _
theorem wp_toks {α : Type} {M : Model} {Γ : PySem.Ctx} {n : Nat} (t : Sem α) {Q : α → Pos → Shared → Prop} {E : Value → Pos → Shared → Prop} {p : Pos} {s : Shared} (hn : n ≤ s.toks) (h : Sem.wp M Γ t Q E p s) :
    Sem.wp M Γ t (fun a p' s' => Q a p' s' ∧ n ≤ s'.toks) E p s := by
  induction t generalizing p s with
  | pure x => exact ⟨h, hn⟩
  | raise v => exact h
  | unsupported | finish | yield | fork | await | register => exact h
  | rule _ k ih | «at» _ k ih | alloc _ k ih | loadIfAlive _ k ih | point _ k ih | ask k ih | os _ _ k ih | handled _ k ih | newGen _ k ih | stack k ih | thread k ih => exact ih _ hn h
  | fresh k ih => exact ih _ (Nat.le_succ_of_le hn) h
  | load a _ k ih | genState a k ih =>
    obtain ⟨o, ho, h⟩ := h
    exact ⟨o, ho, ih _ hn h⟩
  | update a _ f k ih | choose _ _ k ih => exact ⟨h.1, ih _ hn h.2⟩
  | call c hd g l k ih =>
    obtain ⟨r, s', hr, h⟩ := h
    exact ⟨r, s', hr, ih r (Nat.le_trans hn (runs_toks hr)) h⟩
  | resume g r _ k ih =>
    obtain ⟨res, s', hw, h⟩ := h
    exact ⟨res, s', hw, ih res (Nat.le_trans hn (wakes_toks hw)) h⟩
theorem wpAny_toks {α : Type} {M : Model} {A : Around} {t : Sem α} {Q : α → Shared → Prop} {E : Value → Shared → Prop} {s : Shared} (h : wpAny M A t Q E s) : wpAny M A t (fun a s' => Q a s' ∧ s.toks ≤ s'.toks) E s :=
  fun Γ p hA => wp_toks t (Nat.le_refl _) (h Γ p hA)
end L2
set_option Elab.async false
set_option linter.all false
set_option maxRecDepth 100000
namespace L2
open PySem PySem.Spec PyProof.Rows
theorem wpAny_tk {α : Type} {M : Model} {A : Around} {t : Sem α} {Q : α → Shared → Prop} {E : Value → Shared → Prop} {s : Shared} (h : wpAny M A t (fun a s' => s.toks ≤ s'.toks → Q a s') E s) : wpAny M A t Q E s :=
  wpAny_mono (wpAny_toks h) (fun _ _ q => q.1 q.2) fun _ _ e => e
def PEt (X : Cx) (e : Expr) (t : TE) : Prop :=
  ∀ (pins : List (Addr × Obj)) (s : Shared) (σ : St) (H : Hp) (Q : VK), 0 < s.toks → Inv X pins σ H s → t σ H Q → wpAny (model X.prog X.w) X.A (eval e X.env) (EP X pins σ Q) X.xe s
def PSt (X : Cx) (st : Stmt) (t : TS) : Prop :=
  ∀ (pins : List (Addr × Obj)) (s : Shared) (σ : St) (H : Hp) (D : Ends), 0 < s.toks → Inv X pins σ H s → t D σ H → wpAny (model X.prog X.w) X.A (exec st X.env) (SP X pins D) X.xe s
def PSst (X : Cx) (st : List Stmt) (t : TS) : Prop :=
  ∀ (pins : List (Addr × Obj)) (s : Shared) (σ : St) (H : Hp) (D : Ends), 0 < s.toks → Inv X pins σ H s → t D σ H → wpAny (model X.prog X.w) X.A (execs st X.env) (SP X pins D) X.xe s
theorem PE.t {X : Cx} {e : Expr} {t : TE} (h : PE X e t) : PEt X e t := fun pins s σ H Q _ => h pins s σ H Q
theorem PS.t {X : Cx} {e : Stmt} {t : TS} (h : PS X e t) : PSt X e t := fun pins s σ H Q _ => h pins s σ H Q
theorem PSs.t {X : Cx} {e : List Stmt} {t : TS} (h : PSs X e t) : PSst X e t := fun pins s σ H Q _ => h pins s σ H Q
section
variable {X : Cx} {st : Stmt} {rest : List Stmt} {t u : TS}
theorem psst_cons (h1 : PSt X st t) (h2 : PSst X rest u) : PSst X (st :: rest) (tSeq t u) := by
  intro pins s σ H D h0 I h
  refine wpAny_execs_cons (wpAny_tk (thn (h1 pins s σ H { D with nx := u D } h0 I h) fun f s1 q k => ?_))
  cases f with
  | next =>
    obtain ⟨σ', H', I', q⟩ := q
    exact h2 pins s1 σ' H' D (Nat.lt_of_lt_of_le h0 k) I' q
  | ret v => exact q
  | brk => exact q
  | cont => exact q
theorem pst_set {i : Nat} {x : Str} {e : Expr} {te : TE} {pos pos' : Pos} (hN : X.N.Nodup) (he : PEt X e te) (hi : X.N[i]? = some x := by rfl) (hx : Loc X.env.scope x := by exact Or.inl rfl) (hs : swapsWith e (some (.Name x pos')) pos.line X.env = pure false := by rfl) (hf : X.fn x = true ∨ X.env.scope.names.lookup x = some .local := by first | exact .inl rfl | exact .inr rfl) :
    PSt X (.Assign [.Name x pos'] e pos) (tAsg te (gName i)) := by
  intro pins s σ H D h0 I h
  refine wpAny_Assign_Name (thn (he pins s σ H _ h0 I h) fun v s1 ⟨y, H1, I1, r1, q1⟩ => ?_) hs
  exact store_ok I1 hN hi hx r1 (fun s2 I2 => ⟨_, H1, I2, q1⟩) hf
inductive tRep_ (y z : Str) (Q : VK) (x : V) (H1 : Hp) : Prop where
  | mk (w : Str) : x = .str w → w.length + (w.length + 1) * z.length ≤ 16777216 → Q (.str (Txt.replace w y z)) H1 → tRep_ y z Q x H1
def tRep (y z : Str) (to : TE) : TE := fun σ H Q => to σ H (tRep_ y z Q)
theorem pe_rep {o : Expr} {to : TE} {y z : Str} {j1 j2 p1 p2 cpos apos} (ho : PEt X o to)
    (hbase : attributeBase o "replace" X.env (eval o X.env) = eval o X.env := by rfl)
    (hfew : ((backTo cpos (starEach [.Constant (.str y) j1 p1, .Constant (.str z) j2 p2] X.env)).all (fun x => !x.1) && (backToKw cpos (keywordEach [] X.env)).all (fun x => x.1.isSome)
      && decide (([.Constant (.str y) j1 p1, .Constant (.str z) j2 p2] : List Expr).length + ([] : List Keyword).length + (if ([] : List Keyword).isEmpty then 0 else 1) < 30)) = true := by rfl)
    (hline : (apos.endLine == cpos.line) = true := by rfl) (hyz : (y == z) = false := by decide) :
    PEt X (.Call (.Attribute o "replace" apos) [.Constant (.str y) j1 p1, .Constant (.str z) j2 p2] [] cpos) (tRep y z to) := by
  intro pins s σ H Q h0 I h
  refine wpAny_Call_method_late hbase hfew hline rfl (wpAny_tk (thn (ho pins s σ H _ h0 I h) fun v s1 ⟨x, H1, I1, r1, q1⟩ hk => ?_))
  obtain ⟨w, rfl, hl, q⟩ := q1
  obtain ⟨tw, rfl⟩ := r1
  refine ⟨"str", "str.replace", PySem.F.plainAttrs_str, PySem.F.slot_str_replace, PySem.F.type_str_replace, ?_, ?_, ?_⟩
  · exact typeIs_str s1 w tw
  · exact fun _ e => nomatch e
  · refine Calls.callWith_builtin rfl (Calls.evalArgs_plain ?_)
    refine Calls.spliced_cons (Calls.Constant_str (k := 0) (pos := p1) ?_)
    show wpAny _ _ (spliced ((false, eval (.Constant (.str z) j2 p2) X.env) :: backTo cpos (starEach [] X.env))) _ _ _
    refine Calls.spliced_cons (Calls.Constant_str (k := 0) (pos := p1) ?_)
    show wpAny _ _ (spliced []) _ _ _
    refine Calls.spliced_nil ?_
    exact SC.replace (by show s1.toks ≠ 0; omega) (by show s1.toks + 1 ≠ 0; omega) (by show s1.toks ≠ s1.toks + 1; omega) hyz hl (fun t' k => ⟨.str _, H1, I1.tok k, ⟨_, rfl⟩, q⟩)
end
structure FnOkT (P : Program) (w : World) (K : PySem.W.Frag) (mg : Str → Option Value) (base : Heap) (CX : CXT) (k : Nat) (f : Addr) (fd : FuncData) (ps : List Str) (sp : Sp) : Prop where
  len : ∀ vs H Q E, sp vs H Q E → vs.length = ps.length
  run : ∀ (A : Around) (outer : List Env) (s : Shared) (H : Hp) (args : Args) (us : List Value) (vs : List V) (Q : VK) (E : XK), 0 < s.toks → Room k A → Env0 P w K mg base A outer s H → BindsTo s fd args (ps.zip us) → Vals vs us → sp vs H Q E →
    codeAny (model P w) A (.call (.ref f) args) (CR CX outer P w H s Q E) s
theorem fn_ofT {CX : CXT} {P : Program} {w : World} {K : PySem.W.Frag} {mg : Str → Option Value} {base : Heap} {k : Nat} {f : Addr} {name qual : Str} {params : Arguments} {body : List Stmt} {scope : Scope} {dV kV doc pm cdv ct oc : Value} {an od : Option Addr}
    {osl : Array (Option Value)} {N ps : List Str} {sp : Sp} (lk : K.lookup f = some ⟨oc, od, .func (PySem.W.fnOf name qual params body scope dV kV doc pm an cdv ct), osl⟩) (hcd : PySem.W.codeIn K cdv qual = true) (S : FnScope N ps scope)
    (len : ∀ vs H Q E, sp vs H Q E → vs.length = ps.length)
    (hbody : ∀ (A : Around) (outer : List Env) (s : Shared) (H : Hp) (vs : List V) (Q : VK) (E : XK), Room k (A.deeper (envOfC qual scope s.heap.objs.size f cdv)) → sp vs H Q E →
      ∃ t, PSst (cxOf CX P w K mg base N qual scope f cdv A outer s H E) body t ∧ t (Ends.of Q) (start N vs) H) :
    FnOkT P w K mg base CX (k + 1) f (PySem.W.fnOf name qual params body scope dV kV doc pm an cdv ct) ps sp := by
  refine ⟨len, fun A outer s H args us vs Q E h0 hr e0 hb r hsp => ?_⟩
  have hl := len _ _ _ _ hsp
  have KX : K.In s.heap := e0.mod.kin.keeps fun b o e => (e0.bs b o e).1
  have lim : s.heap.NoLimit := e0.mod.nolimit.keeps fun b o e => (e0.bs b o e).1
  have hkind : ∀ y ∈ ps.zip us, scope.names.lookup y.1 = some .local ∨ (scope.names.lookup y.1 = some .cell ∧ ((cellsFrom (s.heap.objs.size + 1) scope.names []).lookup y.1).isSome = true) := fun ⟨n, v⟩ hy => by
    rcases S.par n (List.of_mem_zip hy).1 with q | q
    · exact .inl q
    · exact .inr ⟨q, PySem.W.cellsFrom_some _ _ _ (.inl q)⟩
  refine codeAny_call_function hr.depth (KX _ _ lk) rfl S.co S.gen rfl (PySem.W.codeRec_of KX hcd) (hb _ _ _ _ ?_)
  refine wpAny_tk (wpAny_newFunctionEnv_cells S.kind hkind fun env he s1 x hk => ?_)
  subst he
  refine ⟨lim.keeps x.toInCall.keep, codeAny_func ?_⟩
  obtain ⟨t, ht, hq⟩ := hbody A outer s H vs Q E (hr.deeper _) hsp
  have I : Inv (cxOf CX P w K mg base N qual scope f cdv A outer s H E) [] (start N vs) H s1 := inv_start S hr.hd e0 hl r x
  refine wpAny_mono (ht [] s1 (start N vs) H _ (Nat.lt_of_lt_of_le h0 hk) I hq) (fun fl s' hs => ?_) fun e s' hs => hs
  have fin : ∀ {σ' : St} {H' : Hp} {v : V} {u : Value}, Inv (cxOf CX P w K mg base N qual scope f cdv A outer s H E) [] σ' H' s' → RelV v u → Q v H' → CE outer P w H s Q u s' :=
    fun {σ' H' v u} J rv q => ⟨v, H', J.os, J.bare, J.base, J.hok, rv, q⟩
  cases fl with
  | ret u =>
    obtain ⟨v, σ', H', J, rv, q⟩ := hs
    exact fin J rv q
  | next =>
    obtain ⟨σ', H', J, q⟩ := hs
    exact fin (v := V.non) (u := Value.none) J rfl q
  | brk =>
    obtain ⟨_, _, _, q⟩ := hs
    exact False.elim q
  | cont =>
    obtain ⟨_, _, _, q⟩ := hs
    exact False.elim q
section
variable {X : Cx} {CX : CXT} {k : Nat} {f C : Addr} {fd : FuncData} {ps : List Str} {sp : Sp} {dvs : List V} {ds : List Value} {E : XK} {x m : Str} {p pos apos : Pos} {e o : Expr} {es : List Expr} {ta : TE} {t : TA}
theorem run_fnT {pins : List (Addr × Obj)} {σ : St} {H : Hp} {s : Shared} {Q : VK} {us : List Value} {vs : List V} (F : FnOkT X.prog X.w X.K X.mg X.base CX k f fd ps sp) (hr : Room k X.A) (hb : Binds X.K fd ps ds) (hd : Vals dvs ds) (hx : Passes CX X E)
    (h0 : 0 < s.toks) (I : Inv X pins σ H s) (r : Vals vs us) (h : sp (vs ++ dvs) H Q E) : wpAny (model X.prog X.w) X.A (call (.ref f) us) (EP X pins σ Q) X.xe s := by
  have r2 : Vals (vs ++ dvs) (us ++ ds) := r.append hd
  have hl : (us ++ ds).length = ps.length := by rw [← r2.length]; exact F.len _ _ _ _ h
  refine wpAny_call (codeAny_mono (F.run X.A X.stack s H ⟨us, []⟩ (us ++ ds) (vs ++ dvs) Q E h0 hr I.env0 (hb s us I.kIn hl) r2 h) fun r s' hq => ?_)
  cases r with
  | error e => exact hx pins σ H s e s' I hq
  | ok fl =>
    cases fl with
    | ret u => exact I.after hq
    | next => exact False.elim hq
    | brk => exact False.elim hq
    | cont => exact False.elim hq
theorem pe_callTk (F : FnOkT X.prog X.w X.K X.mg X.base CX k f fd ps sp) (hr : Room k X.A) (hg : Gl X x) (hm : X.mg x = some (.ref f)) (hk : PySem.W.keepIn X.K (.ref f) = true) (hb : Binds X.K fd ps ds) (hd : Vals dvs ds) (hx : Passes CX X E)
    (ha : PA X (e :: es) t) (hdb : (x == ("__debug__" : Str)) = false := by decide) (he : starEach (e :: es) X.env = (false, eval e X.env) :: starEach es X.env := by rfl) (hpl : (backTo pos (starEach es X.env)).any (·.1) = false := by rfl) :
    PEt X (.Call (.Name x p) (e :: es) [] pos) (tCall sp dvs E t) := by
  intro pins s σ H Q h0 I h
  refine wpAny_Call_Name_kw (ld_glob I hg hm ?_ hdb)
  refine PySem.W.callWith_K (h₀ := X.base) I.ok.mod.kin hk (wpAny_tk (thn (ha pos pins s σ H _ I h) fun us s1 ⟨vs, H1, I1, r, q⟩ hk' => ⟨I1.kIn, ?_⟩)) he hpl
  exact run_fnT F hr hb hd hx (Nat.lt_of_lt_of_le h0 hk') I1 r q
end
def PIt (X : Cx) (tg iter : Expr) (wi : TI) : Prop :=
  ∀ (pins : List (Addr × Obj)) (s : Shared) (σ : St) (H : Hp) (R : It → Hp → Prop), 0 < s.toks → Inv X pins σ H s → wi σ H R →
    wpAny (model X.prog X.w) X.A (eval iter X.env) (fun v s1 => wpAny (model X.prog X.w) X.A (pyIter v) (PIE X pins σ tg R) X.xe s1) X.xe s
section
variable {X : Cx} {tg : Expr}
theorem pit_list {l : Expr} {tl : TE} (hl : PEt X l tl) : PIt X tg l (iList X.K tl) := by
  intro pins s σ H R h0 I h
  refine thn (hl pins s σ H _ h0 I h) fun v s1 ⟨x, H1, I1, r1, q1⟩ => ?_
  obtain ⟨a, e, ⟨xs, hq⟩, q⟩ := q1
  subst e
  cases r1
  obtain ⟨its, rv, p, hz⟩ := I1.list hq
  refine wpAny_pyIter_list p.isList ?_
  refine ⟨s1.heap.objs.size, [s1.heap.objs.size], _, _, H1, rfl, I1.kept (t' := s1.toks) fun b o e => Heap.get?_push_of_some _ e, turn_list a _, ⟨_, Heap.get?_push_size _ rfl, rfl, rfl⟩, fun b hb => ?_, q⟩
  have e : b = s1.heap.objs.size := by simpa using hb
  subst e
  exact I1.fpOk (Nat.le_refl _) (I1.hok.fresh (Nat.le_refl _))
theorem pst_for {iter : Expr} {body : List Stmt} {wi : TI} {g : TG} {tb : TS} {pos : Pos} (hp : PassesOwn (model X.prog X.w) X.A X.env X.xe) (hc : X.calm = true) (hi : PIt X tg iter wi) (hg : PG X tg g) (hb : PSs X body tb)
    (hs : ∀ x, foldedSetIterable iter X.env x = pure x := by intro _; rfl) : PSt X (.For tg iter body [] pos) (tFor wi g tb) := by
  intro pins s σ H D h0 I h
  refine wpAny_For (thn (hi pins s σ H _ h0 I h) fun v s1 h1 => thn h1 fun itv s2 h2 => ?_) hs
  obtain ⟨it, fp, tn, J, H2, e, I2, T, st2, f2, W, ⟨m0, w0⟩, turn⟩ := h2
  subst e
  have stat : ∀ {H' : Hp}, (∀ b ∈ fp, H' b = none) → ∀ b ∈ fp, FpOk X pins H' b := fun hn b hb => ⟨hn b hb, (f2 b hb).2⟩
  refine codeAny_forLoop_any (fun n s' => ∃ i σ' H', Inv X pins σ' H' s' ∧ tn i s'.heap ∧ (∀ b ∈ fp, H' b = none) ∧ W i n σ' H') ?_ m0 ⟨0, σ, H2, I2, st2, fun b hb => (f2 b hb).1, w0⟩
  rintro n s3 ⟨i, σ3, H3, I3, st3, fr3, w3⟩
  rcases turn i n σ3 H3 w3 with ⟨stop, qn⟩ | ⟨go, N, hN, step⟩
  · refine wpAny_passesOwn hp (thn (T.done X rfl rfl rfl hc i pins s3 σ3 H3 X.xe I3 (stat fr3) st3 stop) fun r s4 ⟨hr, I4⟩ => ?_)
    subst hr
    exact wpAny_execs_nil ⟨σ3, H3, I4, qn⟩
  · refine wpAny_passesOwn hp (thn (T.item X rfl rfl rfl hc i pins s3 σ3 H3 X.xe I3 (stat fr3) st3 go) fun r s4 ⟨u, hr, h4⟩ => ?_)
    subst hr
    refine wpAny_passesOwn hp (thn h4 fun _ s5 ⟨x, H5, I5, r5, y5, st5, fr5⟩ => ?_)
    have I5' := I5.pinned (stat fr5) (T.obj _ _ st5)
    refine wpAny_passesOwn hp (thn (hg _ s5 σ3 H5 x u _ I5' r5 (step x H5 y5)) fun _ s6 ⟨σ6, H6, I6, q6⟩ => ?_)
    refine wpAny_passesOwn hp (thn (hb _ s6 σ6 H6 _ I6 q6) fun f s7 q7 => ?_)
    have again : ∀ {σ7 : St} {H7 : Hp}, Inv X (pins ++ pinsAt fp s5.heap) σ7 H7 s7 → N σ7 H7 → ∃ m, m < n ∧ ∃ i σ' H', Inv X pins σ' H' s7 ∧ tn i s7.heap ∧ (∀ b ∈ fp, H' b = none) ∧ W i m σ' H' := fun {σ7 H7} I7 n7 => by
      obtain ⟨m', hm, w7⟩ := hN σ7 H7 n7
      refine ⟨m', hm, i + 1, σ7, H7, I7.unpinned, T.keep _ _ _ st5 fun b hb o e => (I7.pin (b, o) (List.mem_append_right _ (List.mem_append_right _ (mem_pinsAt hb e)))).1, fun b hb => ?_, w7⟩
      obtain ⟨o, e, d⟩ := T.obj _ _ st5 b hb
      exact (I7.pin (b, o) (List.mem_append_right _ (List.mem_append_right _ (mem_pinsAt hb e)))).2.1
    cases f with
    | next => obtain ⟨σ7, H7, I7, n7⟩ := q7; exact again I7 n7
    | cont => obtain ⟨σ7, H7, I7, n7⟩ := q7; exact again I7 n7
    | brk => obtain ⟨σ7, H7, I7, q7⟩ := q7; exact ⟨σ7, H7, I7.unpinned, q7⟩
    | ret v => obtain ⟨x7, σ7, H7, I7, r7, q7⟩ := q7; exact ⟨x7, σ7, H7, I7.unpinned, r7, q7⟩
end
theorem PSst.nox {X : Cx} {st : List Stmt} {t : TS} (h : PSst X.nox st t) : PSst X st t := fun pins s σ H D h0 I hw =>
  wpAny_mono (h pins s σ H D h0 (I.wish _) hw) (fun _ _ q => q.unwish) fun _ _ z => False.elim z
section
variable {P : Program} {w : World} {K : PySem.W.Frag} {mg : Str → Option Value} {base : Heap}
theorem Fun.okTk {x qual : Str} {st : Stmt} {f : Addr} {fd : FuncData} {N ps : List Str} {k : Nat} {sp : Sp} (F : Fun K x qual st f fd) (S : FnScope N ps (defScope st))
    (hbody : ∀ (cdv : Value) (A : Around) (outer : List Env) (s : Shared) (H : Hp) (vs : List V) (Q : VK) (E : XK), Room k (A.deeper (envOfC qual (defScope st) s.heap.objs.size f cdv)) → sp vs H Q E →
      ∃ t, PSst (cxOf CX0 P w K mg base N qual (defScope st) f cdv A outer s H E).nox (defBody st) t ∧ t (Ends.of Q) (start N vs) H) (len : ∀ vs H Q E, sp vs H Q E → vs.length = ps.length := by rintro _ _ _ _ ⟨⟩; subst_vars; rfl) : FnOkT P w K mg base CX0 (k + 1) f fd ps sp := by
  obtain ⟨oc, od, kV, doc, pm, an, cdv, ct, osl, rfl, lk, hcd⟩ := F.ex
  refine fn_ofT lk hcd S len fun A outer s H vs Q E hr hsp => ?_
  obtain ⟨t, h, q⟩ := hbody cdv A outer s H vs Q E hr hsp
  exact ⟨t, PSst.nox h, q⟩
end
def PE1 (X : Cx) (e : Expr) (t : TE) : Prop :=
  ∀ (pins : List (Addr × Obj)) (s : Shared) (σ : St) (H : Hp) (Q : VK), Inv X pins σ H s → t σ H Q → wpAny (model X.prog X.w) X.A (eval e X.env) (fun v s' => EP X pins σ Q v s' ∧ 0 < s'.toks) X.xe s
def PT1 (X : Cx) (e : Expr) (t : TT) : Prop :=
  ∀ (pins : List (Addr × Obj)) (s : Shared) (σ : St) (H : Hp) (Q : Bool → Hp → Prop), Inv X pins σ H s → t σ H Q → wpAny (model X.prog X.w) X.A (isTrue e X.env (eval e X.env)) (fun b s' => TP X pins σ Q b s' ∧ 0 < s'.toks) X.xe s
section
variable {X : Cx} {x : Str} {p pos : Pos} {e a b : Expr} {es : List Expr} {t : TA} {ta tb : TE}
theorem pe1_len (hg : Gl X "len") (hm : X.mg "len" = none) (ha : PA X (e :: es) t)
    (he : starEach (e :: es) X.env = (false, eval e X.env) :: starEach es X.env := by rfl) (hpl : (backTo pos (starEach es X.env)).any (·.1) = false := by rfl) :
    PE1 X (.Call (.Name "len" p) (e :: es) [] pos) (tCB (fun xs H Q => ∃ z, xs = [.str z] ∧ z.length ≤ sizeLine ∧ Q (.int z.length) H) t) := by
  intro pins s σ H Q I h
  refine wpAny_Call_Name_kw (ld_blt I hg hm PySem.boot_len ?_ (by decide) (by decide))
  refine PyProof.Rows.callWith_builtin1 (thn (ha pos pins s σ H _ I h) fun us s1 ⟨vs, H1, I1, r1, q1⟩ => ?_) he hpl
  obtain ⟨z, rfl, hz, q⟩ := q1
  obtain ⟨u, rfl, t, rfl⟩ := vals1 r1
  have hn := line63
  exact len_str (by omega) ⟨⟨.int z.length, H1, I1.tok _, ⟨_, rfl⟩, q⟩, Nat.succ_pos _⟩
theorem pt1_cmp {op : CmpOp} {r : R2} (ho : OpR X (compareOp op) r) (ha : PE1 X a ta) (hb : PE X b tb) (hm : behindInMarks op b = false := by exact nomark _) : PT1 X (.Compare a [op] [b] pos) (tTest (tOp r ta tb)) := by
  intro pins s σ H Q I h
  refine wpAny_isTrue_Compare1 (thn (ha pins s σ H _ I h) fun v s1 ⟨⟨x, H1, I1, r1, q1⟩, k1⟩ => wpAny_tk (thn (hb pins s1 σ H1 _ I1 q1) fun u s2 ⟨y, H2, I2, r2, q2⟩ k2 =>
    wpAny_tk (thn (ho pins s2 σ H2 x y v u _ I2 r1 r2 q2) fun c s3 ⟨z, H3, I3, r3, k, e, q3⟩ k3 => ?_))) hm
  subst e
  cases r3
  exact wpAny_truthy_bool ⟨⟨H3, I3, q3⟩, Nat.lt_of_lt_of_le k1 (Nat.le_trans k2 k3)⟩
end
end L2
set_option Elab.async false
set_option linter.all false
set_option maxRecDepth 100000
namespace Fw
open PySem PySem.Spec PyProof.Rows L2
def repL (c : Nat) (ys l : List Nat) : List Nat := l.flatMap fun a => if a = c then ys else [a]
def joinL (ys : List Nat) : List (List Nat) → List Nat
  | [] => []
  | [x] => x
  | x :: y :: r => x ++ ys ++ joinL ys (y :: r)
theorem join_cps (z : Str) : ∀ ps : List Str, (Str.join z ps).cps.toList = joinL z.cps.toList (ps.map (·.cps.toList))
  | [] => rfl
  | [p] => rfl
  | p :: q :: r => by
    have ih := join_cps z (q :: r)
    show (p ++ z ++ Str.join z (q :: r)).cps.toList = _
    rw [cps_app, cps_app, ih]
    rfl
theorem joinL_cons (ys : List Nat) (x : List Nat) (ps : List (List Nat)) (h : ps ≠ []) : joinL ys (x :: ps) = x ++ ys ++ joinL ys ps := by
  cases ps with
  | nil => exact absurd rfl h
  | cons p r => rfl
theorem joinL_splL (c : Nat) (ys : List Nat) : ∀ l, joinL ys (splL c l) = repL c ys l
  | [] => rfl
  | a :: r => by
    have ih := joinL_splL c ys r
    unfold splL
    unfold repL at ih ⊢
    rw [List.flatMap_cons]
    by_cases h : a = c
    · rw [if_pos h, if_pos h, joinL_cons _ _ _ (splL_ne c r), ih]
      rfl
    · rw [if_neg h, if_neg h]
      cases e : splL c r with
      | nil => exact absurd e (splL_ne c r)
      | cons p ps =>
        rw [e] at ih
        show joinL ys ((a :: p) :: ps) = a :: _
        rw [← ih]
        cases ps with
        | nil => rfl
        | cons q r => rfl
theorem rep_cps (x : Str) (c : Nat) (z : Str) : (Txt.replace x ⟨#[c]⟩ z).cps.toList = repL c z.cps.toList x.cps.toList := by
  rw [StrLaws.replace_one, join_cps, split_eq, joinL_splL]
theorem repL_len {c : Nat} {ys : List Nat} {k : Nat} (h : ys.length ≤ k) (h1 : 1 ≤ k) : ∀ l, (repL c ys l).length ≤ k * l.length
  | [] => by simp [repL]
  | a :: r => by
    have ih := repL_len (c := c) h h1 r
    unfold repL at ih ⊢
    rw [List.flatMap_cons, List.length_append, List.length_cons]
    have : (if a = c then ys else [a]).length ≤ k := by
      split
      · exact h
      · exact h1
    rw [Nat.mul_succ]
    omega
def spacedL (l : List Nat) : List Nat := repL 41 [32, 41, 32] (repL 40 [32, 40, 32] (repL 10 [32] l))
def piecesL (l : List Nat) : List (List Nat) := (splL 32 (spacedL l)).filter (fun p => !p.isEmpty)
def sp1 (z : Str) : Str := Txt.replace z "\n" " "
def sp2 (z : Str) : Str := Txt.replace (sp1 z) "(" " ( "
def sp3 (z : Str) : Str := Txt.replace (sp2 z) ")" " ) "
theorem sp1_cps (z : Str) : (sp1 z).cps.toList = repL 10 [32] z.cps.toList := by
  unfold sp1
  rw [show ("\n" : Str) = ⟨#[10]⟩ by decide +kernel, rep_cps]
  rfl
theorem sp2_cps (z : Str) : (sp2 z).cps.toList = repL 40 [32, 40, 32] (repL 10 [32] z.cps.toList) := by
  unfold sp2
  rw [show ("(" : Str) = ⟨#[40]⟩ by decide +kernel, rep_cps, sp1_cps]
  rfl
theorem sp3_cps (z : Str) : (sp3 z).cps.toList = spacedL z.cps.toList := by
  unfold sp3
  rw [show (")" : Str) = ⟨#[41]⟩ by decide +kernel, rep_cps, sp2_cps]
  rfl
theorem sp1_len (z : Str) : (sp1 z).length ≤ z.length := by
  rw [← len_toList, sp1_cps, ← len_toList]
  have := repL_len (c := 10) (ys := [32]) (k := 1) (Nat.le_refl _) (Nat.le_refl _) z.cps.toList
  omega
theorem sp2_len (z : Str) : (sp2 z).length ≤ 3 * z.length := by
  rw [← len_toList, sp2_cps]
  have h1 := sp1_len z
  rw [← len_toList, sp1_cps] at h1
  have := repL_len (c := 40) (ys := [32, 40, 32]) (k := 3) (Nat.le_refl _) (by decide) (repL 10 [32] z.cps.toList)
  omega
theorem sp3_len (z : Str) : (sp3 z).length ≤ 9 * z.length := by
  rw [← len_toList, sp3_cps]
  have h1 := sp2_len z
  rw [← len_toList, sp2_cps] at h1
  have := repL_len (c := 41) (ys := [32, 41, 32]) (k := 3) (Nat.le_refl _) (by decide) (repL 40 [32, 40, 32] (repL 10 [32] z.cps.toList))
  unfold spacedL
  omega
theorem splL_len (c : Nat) : ∀ l, (splL c l).length ≤ l.length + 1
  | [] => by simp [splL]
  | a :: r => by
    have ih := splL_len c r
    unfold splL
    split
    · simp; exact ih
    · cases e : splL c r with
      | nil => simp
      | cons p ps => rw [e] at ih; simp at ih ⊢; omega
def piecesS (z : Str) : List Str := (Txt.split (sp3 z) " ").filter fun p => !decide (V.str p = .str "")
theorem split_lenL (z : Str) : (Txt.split (sp3 z) " ").length ≤ 9 * z.length + 1 := by
  have h := split_eq (sp3 z) 32
  have h1 := splL_len 32 (sp3 z).cps.toList
  rw [← h, List.length_map, len_toList] at h1
  rw [show (" " : Str) = ⟨#[32]⟩ by decide +kernel]
  have := sp3_len z
  omega
end Fw
set_option Elab.async false
set_option linter.all false
set_option maxRecDepth 100000
namespace Fw
open PySem PySem.Spec PyProof.Rows L2
abbrev s_pcs : Stmt := top 36
theorem comp_lst {K : PySem.W.Frag} {H : Hp} {a : Addr} {xs : List V} {tt : TT} {te : TE} {σ' : L2.St} {Q : VK} (Pv : Nat → List V → Hp → Prop) (h0 : Pv 0 [] H) (hl : ∀ i vs H, i ≤ xs.length → Pv i vs H → SqL K H a xs ∧ vs.length < sizeLine)
    (hs : ∀ i x vs H2, i < xs.length → xs[i]? = some x → Pv i vs H2 → tt (some x :: σ') H2 fun b H4 => if b = true then te (some x :: σ') H4 fun v H5 => Nx xs.length i (Pv (i + 1) (vs ++ [v]) H5) else Nx xs.length i (Pv (i + 1) vs H4))
    (hd : ∀ vs H2, Pv xs.length vs H2 → ∀ l, H2 l = none → Q (.ref l) (upd H2 l (.lst vs))) : CompW (Itl K a) tt te σ' Q H := by
  refine ⟨fun i m vs H => m = xs.length - i ∧ i ≤ xs.length ∧ Pv i vs H, ⟨xs.length, by simp, Nat.zero_le _, h0⟩, ?_⟩
  rintro i m vs H2 ⟨rfl, hi, p⟩
  obtain ⟨q1, q2⟩ := hl i vs H2 hi p
  refine ⟨q2, ?_⟩
  by_cases hlt : i < xs.length
  · refine .inr ⟨⟨xs, xs[i], q1, by simp [hlt]⟩, ?_⟩
    rintro x H3 ⟨e, y⟩
    subst e
    exact hs i x vs _ hlt (y xs q1) p
  · have e : i = xs.length := by exact Nat.le_antisymm hi (Nat.not_lt.mp hlt)
    subst e
    exact .inl ⟨⟨xs, q1, Nat.le_refl _⟩, hd vs H2 p⟩
def HasT (P : Program) (w : World) (K : PySem.W.Frag) (mg : Str → Option Value) (base : Heap) (k : Nat) (x : Str) (ps : List Str) (sp : Sp) : Prop :=
  ∃ f fd, FnOkT P w K mg base CX0 k f fd ps sp ∧ Binds K fd ps [] ∧ PySem.W.keepIn K (.ref f) = true ∧ mg x = some (.ref f)
theorem pcallTk {X : Cx} {k j : Nat} {x : Str} {ps : List Str} {sp : Sp} {p pos : Pos} {e : Expr} {es : List Expr} {t : TA} (h : HasT X.prog X.w X.K X.mg X.base k x ps sp) (hr : Room j X.A) (hkj : k ≤ j) (hg : Gl X x) (ha : PA X (e :: es) t)
    (hdb : (x == ("__debug__" : Str)) = false := by decide) (he : starEach (e :: es) X.env = (false, eval e X.env) :: starEach es X.env := by rfl) (hpl : (backTo pos (starEach es X.env)).any (·.1) = false := by rfl) :
    PEt X (.Call (.Name x p) (e :: es) [] pos) (tCall sp [] E0 t) := by
  obtain ⟨f, fd, h1, h2, h3, h4⟩ := h
  exact pe_callTk h1 (hr.mono hkj) hg h4 h3 h2 .nil pass0 ha hdb he hpl
inductive spPcs (vs : List V) (H : Hp) (Q : VK) (E_ : XK) : Prop where
  | mk (z : Str) : vs = [.str z] → z.length ≤ 6000 → (∀ p H', Same H H' → H p = none → H' p = some (.lst ((piecesS z).map V.str)) → Q (.ref p) H') → spPcs vs H Q E_
section
variable {P : Program} {w : World} {K : PySem.W.Frag} {mg : Str → Option Value} {base : Heap} {f : Addr} {fd : FuncData}
theorem sc_pcs : FnScope ["text", "spaced"] ["text"] (defScope s_pcs) := ⟨rfl, rfl, rfl, by decide +kernel, rfl, by decide +kernel, by decide +kernel⟩
theorem ok_pcs (F : Fun K "pieces_of" "pieces_of" s_pcs f fd) : FnOkT P w K mg base CX0 1 f fd ["text"] spPcs := by
  refine F.okTk sc_pcs (fun cdv A outer s H vs Q E hr h => ?_)
  obtain ⟨z, rfl, hz, q⟩ := h
  refine ⟨_, psst_cons (pst_set (i := 1) sc_pcs.nd (pe_rep (pe_rep (pe_rep (PE.t (pv 0))))))
    (PSs.t (pss_one (ps_ret (pe_lc (defScope s_pcs) ["text", "spaced"] [] [] (by decide +kernel) (piL K (pe_bm PySem.F.plainAttrs_str PySem.F.slot_str_split PySem.F.type_str_split mt_split (pv 1) (pa_cons pe_str pa_nil)))
      (fun C s₀ H₀ ex => pts_one (pt_cmpR op_ne (pv 0) pe_str)) (fun C s₀ H₀ ex => pv 0))))), ?_⟩
  have l1 := sp1_len z
  have l2 := sp2_len z
  have l3 := sp3_len z
  have l4 := split_lenL z
  refine ⟨_, rfl, z, rfl, by show z.length + (z.length + 1) * 1 ≤ _; omega, sp1 z, rfl, by show (sp1 z).length + ((sp1 z).length + 1) * 3 ≤ _; omega, sp2 z, rfl, by show (sp2 z).length + ((sp2 z).length + 1) * 3 ≤ _; omega, ?_⟩
  have flt : ∀ (l : List Str) (i : Nat) (x : Str), l[i]? = some x → ((l.take (i + 1)).filter fun p => !decide (V.str p = .str "")) = ((l.take i).filter fun p => !decide (V.str p = .str "")) ++ (if decide (V.str x = .str "") = true then [] else [x]) := by
    intro l i x hx
    rw [List.take_add_one, hx, List.filter_append]
    show _ ++ List.filter _ [x] = _
    refine congrArg _ ?_
    rw [List.filter_cons]
    cases e : decide (V.str x = .str "") <;> rfl
  refine ⟨_, rfl, rfl, sp3 z, " ", rfl, rfl, small (by omega), by decide, small (by omega), fun l hl => ⟨l, rfl, ⟨_, SqL.of upd_same⟩, ?_⟩⟩
  refine comp_lst (xs := (Txt.split (sp3 z) " ").map V.str) (fun i vs H' => H' = upd H l (.lst ((Txt.split (sp3 z) " ").map V.str)) ∧ vs = (((Txt.split (sp3 z) " ").take i).filter fun p => !decide (V.str p = .str "")).map V.str) ⟨rfl, rfl⟩ ?_ ?_ ?_
  · rintro i vs H' hi ⟨rfl, rfl⟩
    refine ⟨SqL.of upd_same, small' ?_⟩
    rw [List.length_map]
    have h1 := List.length_filter_le (fun p => !decide (V.str p = .str "")) ((Txt.split (sp3 z) " ").take i)
    rw [List.length_take] at h1
    omega
  · rintro i x vs H' hi hx ⟨rfl, rfl⟩
    rw [List.getElem?_map] at hx
    cases e : (Txt.split (sp3 z) " ")[i]? with
    | none => rw [e] at hx; cases hx
    | some y =>
      rw [e] at hx
      cases hx
      have f1 := flt _ i y e
      refine ⟨_, rfl, rfl, _, rfl, ?_⟩
      cases c : decide (V.str y = .str "") with
      | true =>
        rw [c] at f1
        refine iteF (nx hi ⟨rfl, ?_⟩)
        rw [f1]
        simp
      | false =>
        rw [c] at f1
        refine iteT ⟨_, rfl, nx hi ⟨rfl, ?_⟩⟩
        rw [f1]
        simp
  · rintro vs H' ⟨rfl, rfl⟩ b hb
    have hbl : b ≠ l := fun e => by rw [e, upd_same] at hb; cases hb
    have hb' : H b = none := by rw [upd_ne hbl] at hb; exact hb
    refine q b _ ((same_new hl _).trans (same_new hb _)) hb' ?_
    rw [upd_same, List.length_map, List.take_length]
    rfl
end
end Fw
set_option Elab.async false
set_option linter.all false
set_option maxRecDepth 100000
namespace L2
open PySem PySem.Spec PyProof.Rows
section
variable {X : Cx} {o e : Expr} {es : List Expr} {to : TE} {t : TA}
end
end L2
set_option Elab.async false
set_option linter.all false
set_option maxRecDepth 100000
namespace L2
open PySem PySem.Spec PyProof.Rows
inductive tFs_ (a : Str) (Q : VK) (x : V) (H1 : Hp) : Prop where
  | mk (z : Str) : x = .str z → a.length + z.length ≤ 1000000 → Q (.str (a ++ z)) H1 → tFs_ a Q x H1
def tFs (a : Str) (te : TE) : TE := fun σ H Q => te σ H (tFs_ a Q)
theorem pe_fs {X : Cx} {e : Expr} {te : TE} {a : Str} {j p1 p2 pos} (he : PE X e te) (hev : evalEach [.Constant (.str a) j p1, .FormattedValue e (-1) none p2] X.env = [eval (.Constant (.str a) j p1) X.env, eval (.FormattedValue e (-1) none p2) X.env] := by rfl) (ha : a.length ≤ 1000000 := by decide +kernel) :
    PE X (.JoinedStr [.Constant (.str a) j p1, .FormattedValue e (-1) none p2] pos) (tFs a te) := by
  intro pins s σ H Q I h
  refine PyProof.Rows.JoinedStr_many ?_
  have el : ∀ x y : Str, (x ++ y).length = x.length + y.length := fun x y => strLen_append x y
  refine PyProof.Rows.joinParts_cons (Calls.Constant_str ⟨?_, ?_⟩)
  · rw [el]
    exact Nat.le_trans (show 0 + a.length ≤ 1000000 by omega) (by decide)
  refine PyProof.Rows.joinParts_cons (PyProof.Rows.FormattedValue_plain (thn (he pins _ σ H _ (I.tok _) h) fun v s1 ⟨x, H1, I1, r1, q1⟩ => ?_))
  obtain ⟨z, rfl, hl, q⟩ := q1
  obtain ⟨t, rfl⟩ := r1
  have e0 : (Str.empty ++ a : Str) = a := by
    cases a
    show Str.mk (#[] ++ _) = _
    simp
  have hz : (Str.empty ++ a ++ z).length ≤ sizeLine := by
    rw [e0, el]
    exact Nat.le_trans hl (by decide)
  refine PyProof.Rows.formatField_str (fun t' tk => ⟨hz, ?_⟩) (Nat.le_trans (show z.length ≤ 1000000 by omega) (by decide))
  refine PyProof.Rows.joinParts_nil ?_ hz
  rw [e0]
  exact ⟨.str (a ++ z), H1, (I1.tok tk).tok _, ⟨_, rfl⟩, q⟩
end L2
set_option Elab.async false
set_option linter.all false
set_option maxRecDepth 100000
namespace Fw
open PySem PySem.Spec PyProof.Rows L2
abbrev s_tho : Stmt := top 37
abbrev s_beg : Stmt := top 38
abbrev s_end : Stmt := top 39
theorem call_intS {X : Cx} : CallR X (.type "int") (fun xs H Q => ∃ z n, xs = [.str z] ∧ PySem.intText? z = some n ∧ z.length ≤ 640 ∧ Q (.int n) H) := by
  intro pins s σ H xs us Q I r h
  obtain ⟨z, n, rfl, hn, hl, q⟩ := h
  obtain ⟨u, rfl, t, rfl⟩ := vals1 r
  exact PySem.W.KIN.call_text hn hl ⟨.int n, H, I.tok _, ⟨_, rfl⟩, q⟩
theorem boot_int' : bootBuiltins "int" = some (.type "int") := by decide +kernel
def thingT (z : Str) : Option T := if ntB z = true then (PySem.intText? z).map T.int else if wordB z = true then some (.str z) else none
def HasX (P : Program) (w : World) (K : PySem.W.Frag) (mg : Str → Option Value) (base : Heap) (k : Nat) (x : Str) (ps : List Str) (sp : Sp) : Prop :=
  ∃ f fd, FnOk P w K mg base (CXF P w) k f fd ps sp ∧ Binds K fd ps [] ∧ PySem.W.keepIn K (.ref f) = true ∧ mg x = some (.ref f)
def BadP (z : Str) : Prop := ntB z = false ∧ wordB z = false
inductive spTho (CN : Addr) (vs : List V) (H : Hp) (Q : VK) (E : XK) : Prop where
  | mk (z : Str) (t : T) : vs = [.str z] → z.length ≤ 640 → thingT z = some t → (∀ v H', Same H H' → Rep H' v t → Q v H') → spTho CN vs H Q E
  | no (z : Str) : vs = [.str z] → z.length ≤ 100000 → BadP z → (∀ ea H', Same H H' → E (.ref CN) (some ea) H') → spTho CN vs H Q E
inductive spBeg (CN : Addr) (vs : List V) (H : Hp) (Q : VK) (E : XK) : Prop where
  | mk (a : Addr) (ls : List V) : vs = [.ref a] → H a = some (.lst ls) → ls.length ≤ 20 → (∀ p, H p = none → Q .non (upd (upd H p (.lst [])) a (.lst (ls ++ [.ref p])))) → spBeg CN vs H Q E
  | no (a : Addr) (ls : List V) : vs = [.ref a] → H a = some (.lst ls) → 20 < ls.length → (∀ ea H', Same H H' → E (.ref CN) (some ea) H') → spBeg CN vs H Q E
inductive spEnd (CN : Addr) (vs : List V) (H : Hp) (Q : VK) (E : XK) : Prop where
  | mk (a b c : Addr) (ls us ws : List V) : vs = [.ref a] → H a = some (.lst (ls ++ [.ref b] ++ [.ref c])) → H b = some (.lst ws) → H c = some (.lst us) → a ≠ b → a ≠ c → ls.length ≤ 100 → ws.length ≤ 100000 →
      (∀ p, H p = none → Q .non (upd (upd (upd H a (.lst (ls ++ [.ref b]))) p (.tup us)) b (.lst (ws ++ [.ref p])))) → spEnd CN vs H Q E
  | no (a : Addr) (v : V) : vs = [.ref a] → H a = some (.lst [v]) → (∀ ea H', Same H H' → E (.ref CN) (some ea) H') → spEnd CN vs H Q E
section
variable {P : Program} {w : World} {K : PySem.W.Frag} {mg : Str → Option Value} {base : Heap} {f CN : Addr} {fd : FuncData} {bm : List Value} {newId B initId : String}
theorem sc_tho : FnScope ["piece"] ["piece"] (defScope s_tho) := ⟨rfl, rfl, rfl, by decide +kernel, rfl, by decide +kernel, by decide +kernel⟩
theorem sc_beg : FnScope ["levels"] ["levels"] (defScope s_beg) := ⟨rfl, rfl, rfl, by decide +kernel, rfl, by decide +kernel, by decide +kernel⟩
theorem sc_end : FnScope ["levels", "inner"] ["levels"] (defScope s_end) := ⟨rfl, rfl, rfl, by decide +kernel, rfl, by decide +kernel, by decide +kernel⟩
set_option maxHeartbeats 1000000 in
theorem ok_tho (F : Fun K "thing_of" "thing_of" s_tho f fd) (OS : OwnCls "NoText" CN bm newId mg base) (FS : ExcBaseFacts B newId initId bm) (mi : mg "int" = none) (h1 : Has P w K mg base 2 "is_number_text" ["text"] (spS ntB)) (h2 : Has P w K mg base 5 "is_word" ["thing"] (spS wordB)) : FnOk P w K mg base (CXF P w) 6 f fd ["piece"] (spTho CN) := by
  refine F.okX sc_tho (fun cdv A outer s H vs Q E hr h => ?_) (by rintro _ _ _ _ ⟨⟩ <;> subst_vars <;> rfl)
  refine ⟨_, pss_cons (ps_if (pt_val (pcall h1 hr (by decide) rfl (pa_cons (pv 0) pa_nil))) (pss_one (ps_ret (pe_callTy call_intS rfl mi boot_int' (pa_cons (pv 0) pa_nil)))) pss_nil)
    (pss_cons (ps_if (pt_val (pcall h2 hr (by decide) rfl (pa_cons (pv 0) pa_nil))) (pss_one (ps_ret (pv 0))) pss_nil) (pss_one (ps_raise OS FS rfl (pa_cons (pe_fs (pv 0)) pa_nil)))), ?_⟩
  cases h with
  | no z e hz hb q =>
    subst e
    refine ⟨_, rfl, z, rfl, hz, fun H1 e1 => ⟨_, rfl, ?_⟩⟩
    rw [hb.1]
    refine iteF ⟨_, rfl, z, rfl, hz, fun H2 e2 => ⟨_, rfl, ?_⟩⟩
    rw [hb.2]
    refine iteF ⟨_, rfl, z, rfl, ?_, ?_⟩
    · have : ("neither a number nor a word: " : Str).length ≤ 100 := by decide +kernel
      omega
    · exact ⟨small (by show 1 ≤ 1000000; decide), fun ea _ => q ea _ (e1.trans e2)⟩
  | mk z t e hz ht q =>
    subst e
    unfold thingT at ht
    refine ⟨_, rfl, z, rfl, by omega, fun H1 e1 => ⟨_, rfl, ?_⟩⟩
    cases c : ntB z with
    | true =>
      rw [c, if_pos rfl] at ht
      cases hn : PySem.intText? z with
      | none => rw [hn] at ht; cases ht
      | some n =>
        rw [hn] at ht
        cases ht
        exact iteT ⟨_, rfl, z, n, rfl, hn, by omega, q _ _ e1 (.int n)⟩
    | false =>
      rw [c, if_neg Bool.false_ne_true] at ht
      refine iteF ⟨_, rfl, z, rfl, by omega, fun H2 e2 => ⟨_, rfl, ?_⟩⟩
      cases c2 : wordB z with
      | false => rw [c2, if_neg Bool.false_ne_true] at ht; cases ht
      | true =>
        rw [c2, if_pos rfl] at ht
        cases ht
        exact iteT ⟨_, rfl, q _ _ (e1.trans e2) (.str z (by omega))⟩
set_option maxHeartbeats 1000000 in
theorem ok_beg (F : Fun K "begin_bracket" "begin_bracket" s_beg f fd) (OS : OwnCls "NoText" CN bm newId mg base) (FS : ExcBaseFacts B newId initId bm) (ml : mg "len" = none) (hm : ∃ t, mg "MOST_BRACKETS" = some (.int 20 t)) : FnOk P w K mg base (CXF P w) 1 f fd ["levels"] (spBeg CN) := by
  refine F.okX sc_beg (fun cdv A outer s H vs Q E hr h => ?_) (by rintro _ _ _ _ ⟨⟩ <;> subst_vars <;> rfl)
  obtain ⟨t, hm⟩ := hm
  refine ⟨_, pss_cons (ps_if (pt_cmpR op_gt (pe_callB (clen K) rfl ml PySem.boot_len (pa_cons (pv 0) pa_nil)) (pe_glob (v := .int 20) rfl hm ⟨_, rfl⟩)) (pss_one (ps_raise OS FS rfl (pa_cons pe_str pa_nil))) pss_nil)
    (pss_one (ps_expr (papp K (pv 0) (pa_cons (pe_lst pa_nil) pa_nil)))), ?_⟩
  cases h with
  | mk a ls e ha hl q =>
    subst e
    refine ⟨_, rfl, a, _, rfl, .inl (SqL.of ha), _, _, rfl, rfl, _, rfl, ?_⟩
    rw [decide_eq_false (by omega)]
    refine iteF ⟨_, rfl, .inl ⟨rfl, _, SqL.of ha⟩, small (by decide), fun p hp => ?_⟩
    have np : a ≠ p := fun e => by rw [e, hp] at ha; cases ha
    exact ⟨a, ls, .ref p, rfl, rfl, by rw [upd_ne np]; exact ha, small' (by omega), q p hp⟩
  | no a ls e ha hl q =>
    subst e
    refine ⟨_, rfl, a, _, rfl, .inl (SqL.of ha), _, _, rfl, rfl, _, rfl, ?_⟩
    rw [decide_eq_true (by omega)]
    exact iteT ⟨small (by show 1 ≤ 1000000; decide), fun ea _ => q ea _ (Same.refl _)⟩
set_option maxHeartbeats 1000000 in
theorem ok_end (F : Fun K "end_bracket" "end_bracket" s_end f fd) (OS : OwnCls "NoText" CN bm newId mg base) (FS : ExcBaseFacts B newId initId bm) (ml : mg "len" = none) (mt : mg "tuple" = none) : FnOk P w K mg base (CXF P w) 1 f fd ["levels"] (spEnd CN) := by
  refine F.okX sc_end (fun cdv A outer s H vs Q E hr h => ?_) (by rintro _ _ _ _ ⟨⟩ <;> subst_vars <;> rfl)
  refine ⟨_, pss_cons (ps_if (pt_cmpR op_eq (pe_callB (clen K) rfl ml PySem.boot_len (pa_cons (pv 0) pa_nil)) pe_int) (pss_one (ps_raise OS FS rfl (pa_cons pe_str pa_nil))) pss_nil)
    (pss_cons (pset 1 sc_end.nd (ppop K (pv 0)))
    (pss_one (ps_expr (papp K (pe_ix (ixL K) (pv 0) (pe_un un_neg pe_int)) (pa_cons (pe_callTy (ctup K) rfl mt boot_tuple (pa_cons (pv 1) pa_nil)) pa_nil))))), ?_⟩
  cases h with
  | mk a b c ls us ws e ha hb hc n1 n2 hl hw q =>
    subst e
    refine ⟨_, rfl, a, _, rfl, .inl (SqL.of ha), rfl, _, rfl, ?_⟩
    rw [decide_eq_false (by intro e; have := V.int.inj e; simp at this; omega)]
    refine iteF ⟨_, rfl, .inl ⟨rfl, _, SqL.of ha⟩, a, _, .ref c, rfl, rfl, ha, by simp, ?_⟩
    rw [List.dropLast_concat]
    refine ⟨_, rfl, 1, rfl, a, _, -1, .ref b, rfl, rfl, SqL.of upd_same, atI_last _ _, .inl ⟨rfl, _, SqL.of (by rw [upd_ne n1.symm]; exact hb)⟩, ?_⟩
    refine ⟨_, rfl, c, us, rfl, .inl ⟨SqL.of (by rw [upd_ne n2.symm]; exact hc), fun p hp => ?_⟩⟩
    have pa : p ≠ a := fun e => by rw [e, upd_same] at hp; cases hp
    have hp' : H p = none := by rw [upd_ne pa] at hp; exact hp
    have pb : b ≠ p := fun e => by rw [e, hp'] at hb; cases hb
    exact ⟨b, ws, .ref p, rfl, rfl, by rw [upd_ne pb, upd_ne n1.symm]; exact hb, small' (by omega), q p hp'⟩
  | no a v e ha q =>
    subst e
    refine ⟨_, rfl, a, _, rfl, .inl (SqL.of ha), rfl, _, rfl, ?_⟩
    rw [decide_eq_true (show V.int (([v] : List V).length : Nat) = V.int 1 from rfl)]
    exact iteT ⟨small (by show 1 ≤ 1000000; decide), fun ea _ => q ea _ (Same.refl _)⟩
end
end Fw
set_option Elab.async false
set_option linter.all false
set_option maxRecDepth 100000
namespace L2
open PySem PySem.Spec PyProof.Rows
def tFst2 (tc : TT) (ta u : TS) : TS := fun D σ H => tc σ H fun d H1 => if d = true then ta (D.to fun _ _ => False) σ H1 else u D σ H1
theorem pss_fst2 {X : Cx} {c : Expr} {sts rest : List Stmt} {tc : TT} {ta u : TS} {pos : Pos} (hc : PT1 X c tc) (ha : PSs X sts ta) (hr : PSst X rest u) : PSs X (.If c sts [] pos :: rest) (tFst2 tc ta u) := by
  intro pins s σ H D I h
  refine wpAny_execs_cons (wpAny_If (thn (hc pins s σ H _ I h) fun d s1 ⟨⟨H1, I1, q1⟩, k⟩ => ?_))
  cases d with
  | true =>
    refine thn (ha pins s1 σ H1 _ I1 q1) fun f s2 q => ?_
    cases f with
    | next => obtain ⟨_, _, _, z⟩ := q; exact z.elim
    | ret v => exact q
    | brk => exact q
    | cont => exact q
  | false => exact wpAny_execs_nil (hr pins s1 σ H1 D k I1 q1)
end L2
set_option Elab.async false
set_option linter.all false
set_option maxRecDepth 100000
namespace Fw
open PySem PySem.Spec PyProof.Rows L2
abbrev s_ths : Stmt := top 40
def stepP (st : List (List T)) (p : Str) : Option (List (List T)) :=
  if decide (V.str p = .str "(") = true then (if st.length ≤ 20 then some ([] :: st) else none)
  else if decide (V.str p = .str ")") = true then (match st with
    | a :: b :: r => some ((b ++ [.tup a]) :: r)
    | _ => none)
  else match thingT p, st with
    | some t, a :: r => some ((a ++ [t]) :: r)
    | _, _ => none
def pars : List (List T) → List Str → Option (List (List T))
  | st, [] => some st
  | st, p :: r => (stepP st p).bind fun st' => pars st' r
inductive Lvs (n : Nat) (H : Hp) : List Addr → List (List T) → Prop where
  | nil : Lvs n H [] []
  | cons {b : Addr} {as : List Addr} {st : List (List T)} {vs : List V} {ts : List T} : H b = some (.lst vs) → Reps H vs ts → vs.length ≤ n → b ∉ as → Lvs n H as st → Lvs n H (b :: as) (ts :: st)
theorem Lvs.keep {n n' : Nat} {H H' : Hp} (hn : n ≤ n') (ht : ∀ b xs, H b = some (.tup xs) → H' b = some (.tup xs)) : ∀ {as : List Addr} {st : List (List T)}, (∀ b ∈ as, H' b = H b) → Lvs n H as st → Lvs n' H' as st := by
  intro as st h L
  induction L with
  | nil => exact .nil
  | cons h1 r hl nb L ih => exact .cons ((h _ (by simp)).trans h1) (r.mono ht) (Nat.le_trans hl hn) nb (ih fun b hb => h b (List.mem_cons_of_mem _ hb))
theorem Lvs.len {n : Nat} {H : Hp} {as : List Addr} {st : List (List T)} (L : Lvs n H as st) : as.length = st.length := by
  induction L with
  | nil => rfl
  | cons _ _ _ _ _ ih => simp [ih]
theorem Reps.snoc {H : Hp} {vs : List V} {ts : List T} {v : V} {t : T} (r : Reps H vs ts) (q : Rep H v t) : Reps H (vs ++ [v]) (ts ++ [t]) := by
  induction vs generalizing ts with
  | nil => cases r; exact .cons q .nil
  | cons a vs ih =>
    cases r with
    | cons r1 r2 => exact .cons r1 (ih r2)
def PcT (p : Str) : Prop := (decide (V.str p = .str "(") = true ∨ decide (V.str p = .str ")") = true) ∨ (∃ t, thingT p = some t ∧ p.length ≤ 640) ∨ (BadP p ∧ p.length ≤ 100000)
inductive spThs (CN : Addr) (vs : List V) (H : Hp) (Q : VK) (E : XK) : Prop where
  | mk (z : Str) : vs = [.str z] → z.length ≤ 100000 → (z.length ≤ 6000 → ∀ p ∈ piecesS z, PcT p) → (∀ ts, z.length ≤ 6000 → pars [[]] (piecesS z) = some [ts] → ∀ v H', Same H H' → Rep H' v (.tup ts) → Q v H') →
      ((6000 < z.length ∨ ∀ ts, pars [[]] (piecesS z) ≠ some [ts]) → ∀ ea H', Same H H' → E (.ref CN) (some ea) H') → spThs CN vs H Q E
theorem piecesS_len (z : Str) : (piecesS z).length ≤ 9 * z.length + 1 := by
  have := List.length_filter_le (fun p => !decide (V.str p = .str "")) (Txt.split (sp3 z) " ")
  have := split_lenL z
  unfold piecesS
  omega
section
variable {P : Program} {w : World} {K : PySem.W.Frag} {mg : Str → Option Value} {base : Heap} {f CN : Addr} {fd : FuncData} {bm : List Value} {newId B initId : String}
theorem sc_ths : FnScope ["text", "levels", "piece"] ["text"] (defScope s_ths) := ⟨rfl, rfl, rfl, by decide +kernel, rfl, by decide +kernel, by decide +kernel⟩
structure Lp (H : Hp) (a pl : Addr) (ps : List Str) (R : Option (List (List T))) (z : Str) (i : Nat) (σ : L2.St) (H' : Hp) : Prop where
  ex : ∃ (as : List Addr) (st : List (List T)) (pc : Option V), σ = [some (.str z), some (.ref a), pc] ∧ pars st (ps.drop i) = R ∧ H' a = some (.lst (as.reverse.map V.ref)) ∧ Lvs i H' as st ∧ a ∉ as ∧ (∀ b ∈ as, b ≠ pl ∧ H b = none) ∧ st.length ≤ 21 ∧ st ≠ []
  li : H' pl = some (.lst (ps.map V.str))
  sm : Same H H'
theorem bad_none {p : Str} (h : BadP p) : thingT p = none := by
  unfold thingT
  rw [h.1, h.2, if_neg Bool.false_ne_true, if_neg Bool.false_ne_true]
set_option maxHeartbeats 4000000 in
theorem ok_ths (F : Fun K "things_of" "things_of" s_ths f fd) (OS : OwnCls "NoText" CN bm newId mg base) (FS : ExcBaseFacts B newId initId bm) (ml : mg "len" = none) (mt : mg "tuple" = none) (hm : ∃ t, mg "MOST_SIGNS" = some (.int 6000 t)) (h1 : HasT P w K mg base 1 "pieces_of" ["text"] spPcs) (h2 : HasX P w K mg base 1 "begin_bracket" ["levels"] (spBeg CN))
    (h3 : HasX P w K mg base 1 "end_bracket" ["levels"] (spEnd CN)) (h4 : HasX P w K mg base 6 "thing_of" ["piece"] (spTho CN)) : FnOk P w K mg base (CXF P w) 7 f fd ["text"] (spThs CN) := by
  refine F.okX sc_ths (fun cdv A outer s H vs Q E hr h => ?_)
  obtain ⟨z, rfl, hz, pk, qg, qb⟩ := h
  obtain ⟨t0, hm⟩ := hm
  obtain ⟨f2, g2, G2, b2, k2, m2⟩ := h2
  obtain ⟨f3, g3, G3, b3, k3, m3⟩ := h3
  obtain ⟨f4, g4, G4, b4, k4, m4⟩ := h4
  refine ⟨_, pss_fst2 (pt1_cmp op_gt (pe1_len rfl ml (pa_cons (pv 0) pa_nil)) (pe_glob (v := .int 6000) rfl hm ⟨_, rfl⟩)) (pss_one (ps_raise OS FS rfl (pa_cons pe_str pa_nil)))
    (psst_cons (PS.t (pset 1 sc_ths.nd (pe_lst (pa_cons (pe_lst pa_nil) pa_nil))))
    (psst_cons (pst_for PassesOwn.leaving rfl (pit_list (pcallTk h1 hr (by decide) rfl (pa_cons (pv 0) pa_nil))) (pg_name (i := 2) sc_ths.nd rfl (Or.inl rfl))
      (pss_one (ps_if (pt_cmpR op_eq (pv 2) pe_str) (pss_one (ps_expr (pe_call G2 (hr.mono (by decide)) rfl m2 k2 b2 .nil passes_up (pa_cons (pv 1) pa_nil))))
        (pss_one (ps_if (pt_cmpR op_eq (pv 2) pe_str) (pss_one (ps_expr (pe_call G3 (hr.mono (by decide)) rfl m3 k3 b3 .nil passes_up (pa_cons (pv 1) pa_nil))))
          (pss_one (ps_expr (papp K (pe_ix (ixL K) (pv 1) (pe_un un_neg pe_int)) (pa_cons (pe_call G4 hr rfl m4 k4 b4 .nil passes_up (pa_cons (pv 2) pa_nil)) pa_nil)))))))))
    (PSs.t (pss_cons (ps_if (pt_cmpR op_gt (pe_callB (clen K) rfl ml PySem.boot_len (pa_cons (pv 1) pa_nil)) pe_int) (pss_one (ps_raise OS FS rfl (pa_cons pe_str pa_nil))) pss_nil)
      (pss_one (ps_ret (pe_callTy (ctup K) rfl mt boot_tuple (pa_cons (pe_ix (ixL K) (pv 1) pe_int) pa_nil)))))))), ?_⟩
  refine ⟨_, rfl, z, rfl, small (by omega), _, _, rfl, rfl, _, rfl, ?_⟩
  by_cases hz6 : 6000 < z.length
  · rw [decide_eq_true (by omega)]
    exact iteT ⟨small (by show 1 ≤ 1000000; decide), fun ea _ => qb (.inl hz6) ea _ (Same.refl _)⟩
  rw [decide_eq_false (by omega)]
  have hz' : z.length ≤ 6000 := by omega
  have pk := pk hz'
  refine iteF ?_
  generalize hR : pars [[]] (piecesS z) = R at qg qb
  refine ⟨small (by decide), fun b hb => ⟨small (by show 1 ≤ 1000000; decide), fun a ha => ?_⟩⟩
  have ab : a ≠ b := fun e => by rw [e, upd_same] at ha; cases ha
  have ha' : H a = none := by rw [upd_ne ab] at ha; exact ha
  have s1 : Same H (upd (upd H b (.lst [])) a (.lst [.ref b])) := (same_new hb _).trans (same_new ha _)
  refine ⟨_, rfl, z, rfl, hz', fun pl H1 e1 hpl hli => ⟨pl, rfl, ⟨_, SqL.of hli⟩, ?_⟩⟩
  have np : H pl = none := by
    cases e : H pl with
    | none => rfl
    | some o => rw [s1 _ _ e] at hpl; cases hpl
  have apl : a ≠ pl := fun e => by rw [← e, upd_same] at hpl; cases hpl
  have bpl : b ≠ pl := fun e => by rw [← e, upd_ne ab.symm, upd_same] at hpl; cases hpl
  have psl := piecesS_len z
  refine for_list (xs := (piecesS z).map V.str) (Lp H a pl (piecesS z) R z) ?_ ?_ ?_ ?_
  · refine ⟨⟨[b], [[]], none, rfl, hR, e1 _ _ (by rw [upd_same]; rfl), .cons (e1 _ _ (by rw [upd_ne ab.symm, upd_same])) .nil (Nat.le_refl _) (by simp) .nil, by simpa using ab, fun c hc => ?_, (by show 1 ≤ 21; decide), (by simp)⟩, hli, s1.trans e1⟩
    obtain rfl : c = b := by simpa using hc
    exact ⟨bpl, hb⟩
  · rintro i σ H' hi ⟨_, li, _⟩
    exact SqL.of li
  · rintro i x σ H' hx ⟨⟨as, st, pc, rfl, hps, hla, L, na, hfr, h21, hne⟩, li, sm⟩
    rw [List.getElem?_map] at hx
    cases e : (piecesS z)[i]? with
    | none => rw [e] at hx; cases hx
    | some p =>
    rw [e] at hx
    cases hx
    have hil : i < (piecesS z).length := (List.getElem?_eq_some_iff.mp e).1
    have hpk := pk p (List.mem_of_getElem? e)
    have none_ : stepP st p = none → ∀ ts, R ≠ some [ts] := fun h ts q => by
      rw [List.drop_eq_getElem_cons hil, (List.getElem?_eq_some_iff.mp e).2] at hps
      unfold pars at hps
      rw [h] at hps
      rw [← hps] at q
      cases q
    have hd : (piecesS z).drop i = p :: (piecesS z).drop (i + 1) := by
      rw [List.drop_eq_getElem_cons hil]
      congr 1
      exact (List.getElem?_eq_some_iff.mp e).2
    have some_ : ∀ st', stepP st p = some st' → pars st' ((piecesS z).drop (i + 1)) = R := fun st' h => by
      rw [hd] at hps
      unfold pars at hps
      rw [h] at hps
      exact hps
    have noE : stepP st p = none → ∀ ea H'', Same H' H'' → E (.ref CN) (some ea) H'' := fun h ea H'' e2 => qb (.inr (none_ h)) ea _ (sm.trans e2)
    have apl' : a ≠ pl := apl
    have aH : ∀ o, H' a = some o → H a = none := fun _ _ => ha'
    refine ⟨_, rfl, rfl, _, rfl, ?_⟩
    cases c1 : decide (V.str p = .str "(") with
    | true =>
      by_cases hsl : st.length ≤ 20
      · have hps' := some_ ([] :: st) (by unfold stepP; rw [c1, if_pos rfl, if_pos hsl])
        refine iteT ⟨_, rfl, .mk a _ rfl hla (by rw [List.length_map, List.length_reverse, L.len]; exact hsl) fun n hn => ?_⟩
        have n1 : n ≠ a := fun e => by rw [e, hla] at hn; cases hn
        have n2 : n ≠ pl := fun e => by rw [e, li] at hn; cases hn
        have n3 : n ∉ as := fun hm => by
          have : ∀ {as st}, Lvs i H' as st → n ∈ as → False := by
            intro as st L
            induction L with
            | nil => intro h; cases h
            | cons h1 _ _ _ _ ih =>
              intro h
              rcases List.mem_cons.mp h with rfl | h
              · rw [h1] at hn; cases hn
              · exact ih h
          exact this L hm
        have hnH : H n = none := by
          cases e : H n with
          | none => rfl
          | some o => rw [sm _ _ e] at hn; cases hn
        have keep : ∀ c o, c ≠ n → c ≠ a → H' c = o → upd (upd H' n (.lst [])) a (.lst (as.reverse.map V.ref ++ [.ref n])) c = o := fun c o h1 h2 h => by rw [upd_ne h2, upd_ne h1]; exact h
        refine ⟨⟨n :: as, [] :: st, _, rfl, hps', ?_, .cons (by rw [upd_ne n1, upd_same]) .nil (Nat.zero_le _) n3 (L.keep (Nat.le_succ i) (fun c xs h => keep c _ (fun e => by rw [e, hn] at h; cases h) (fun e => by rw [e, hla] at h; cases h) h) fun c hc => keep c _ (fun e => n3 (e ▸ hc)) (fun e => na (e ▸ hc)) rfl), ?_, fun c hc => ?_, (by show st.length + 1 ≤ 21; omega), (by simp)⟩, keep pl _ n2.symm apl'.symm li, fun c o h => ?_⟩
        · rw [upd_same, List.reverse_cons, List.map_append]; rfl
        · intro hm
          rcases List.mem_cons.mp hm with h | h
          · exact n1 h.symm
          · exact na h
        · rcases List.mem_cons.mp hc with rfl | h
          · exact ⟨n2, hnH⟩
          · exact hfr c h
        · exact keep c _ (fun e => by rw [e, hnH] at h; cases h) (fun e => by rw [e, ha'] at h; cases h) (sm _ _ h)
      · exact iteT ⟨_, rfl, .no a _ rfl hla (by rw [List.length_map, List.length_reverse, L.len]; omega) (noE (by unfold stepP; rw [c1, if_pos rfl, if_neg hsl]))⟩
    | false =>
      refine iteF ⟨_, rfl, rfl, _, rfl, ?_⟩
      cases c2 : decide (V.str p = .str ")") with
      | true =>
        cases L with
        | nil => exact absurd rfl hne
        | @cons c as st us t1 hc ru lu nc L =>
        cases L with
        | nil => exact iteT ⟨_, rfl, .no a (.ref c) rfl hla (noE (by unfold stepP; rw [c1, c2]; rfl))⟩
        | @cons b as st ws t2 hb' rw' lw nb L =>
        have hps' := some_ ((t2 ++ [.tup t1]) :: st) (by unfold stepP; rw [c1, c2]; rfl)
        have e1 : ((c :: b :: as).reverse.map V.ref) = as.reverse.map V.ref ++ [.ref b] ++ [.ref c] := by simp
        rw [e1] at hla
        have ac : a ≠ c := fun e => na (by rw [e]; simp)
        have ab' : a ≠ b := fun e => na (by rw [e]; simp)
        have hll := L.len
        simp only [List.length_cons] at h21
        refine iteT ⟨_, rfl, .mk a b c _ us ws rfl hla hb' hc ab' ac (by rw [List.length_map, List.length_reverse]; omega) (by omega) fun n hn => ?_⟩
        have n1 : n ≠ a := fun e => by rw [e, hla] at hn; cases hn
        have n2 : n ≠ pl := fun e => by rw [e, li] at hn; cases hn
        have n3 : n ≠ b := fun e => by rw [e, hb'] at hn; cases hn
        have hnH : H n = none := by
          cases e : H n with
          | none => rfl
          | some o => rw [sm _ _ e] at hn; cases hn
        have keep : ∀ d o, d ≠ n → d ≠ a → d ≠ b → H' d = o → upd (upd (upd H' a (.lst (as.reverse.map V.ref ++ [.ref b]))) n (.tup us)) b (.lst (ws ++ [.ref n])) d = o := fun d o h1 h2 h3 h => by rw [upd_ne h3, upd_ne h1, upd_ne h2]; exact h
        have kt : ∀ d xs, H' d = some (.tup xs) → upd (upd (upd H' a (.lst (as.reverse.map V.ref ++ [.ref b]))) n (.tup us)) b (.lst (ws ++ [.ref n])) d = some (.tup xs) := fun d xs h => keep d _ (fun e => by rw [e, hn] at h; cases h) (fun e => by rw [e, hla] at h; cases h) (fun e => by rw [e, hb'] at h; cases h) h
        have hfb := hfr b (by simp)
        refine ⟨⟨b :: as, (t2 ++ [.tup t1]) :: st, _, rfl, hps', ?_, .cons upd_same ((rw'.mono kt).snoc (.tup (by rw [upd_ne n3, upd_same]) (ru.mono kt))) (by simp; omega) nb (L.keep (Nat.le_succ i) kt fun d hd => ?_), fun h => na (List.mem_cons_of_mem _ h), fun d hd => hfr d (List.mem_cons_of_mem _ hd), by simp; omega, (by simp)⟩, keep pl _ n2.symm apl'.symm hfb.1.symm li, fun d o h => ?_⟩
        · rw [upd_ne ab', upd_ne n1.symm, upd_same, List.reverse_cons, List.map_append]; rfl
        · exact keep d _ (fun e => by
            have : ∀ {as st}, Lvs i H' as st → n ∈ as → False := by
              intro as st L
              induction L with
              | nil => intro h; cases h
              | cons h1 _ _ _ _ ih =>
                intro h
                rcases List.mem_cons.mp h with rfl | h
                · rw [h1] at hn; cases hn
                · exact ih h
            exact this L (e ▸ hd)) (fun e => na (by rw [← e]; simp [hd])) (fun e => nb (e ▸ hd)) rfl
        · exact keep d _ (fun e => by rw [e, hnH] at h; cases h) (fun e => by rw [e, ha'] at h; cases h) (fun e => by rw [e, hfb.2] at h; cases h) (sm _ _ h)
      | false =>
        cases L with
        | nil => exact absurd rfl hne
        | @cons c as st us t1 hc ru lu nc L =>
        have e1 : ((c :: as).reverse.map V.ref) = as.reverse.map V.ref ++ [.ref c] := by simp
        have hla2 := hla
        rw [e1] at hla2
        have ac : a ≠ c := fun e => na (by rw [e]; simp)
        refine iteF ⟨_, rfl, 1, rfl, a, _, -1, .ref c, rfl, rfl, SqL.of hla2, atI_last _ _, .inl ⟨rfl, _, SqL.of hc⟩, ?_⟩
        rcases hpk with h | ⟨t, ht, hlp⟩ | ⟨hb, hlp⟩
        · rw [c1, c2] at h; simp at h
        rotate_left
        · exact ⟨_, rfl, .no p rfl hlp hb (noE (by unfold stepP; rw [c1, c2, bad_none hb]; rfl))⟩
        have hps' := some_ ((t1 ++ [t]) :: st) (by unfold stepP; rw [c1, c2, ht]; rfl)
        refine ⟨_, rfl, .mk p t rfl hlp ht fun v H2 e2 rv => ?_⟩
        refine ⟨c, us, v, rfl, rfl, e2 _ _ hc, small' (by omega), ?_⟩
        have hfc := hfr c (by simp)
        have kt : ∀ d xs, H' d = some (.tup xs) → upd H2 c (.lst (us ++ [v])) d = some (.tup xs) := fun d xs h => by
          rw [upd_ne (fun e => by rw [e, hc] at h; cases h)]; exact e2 _ _ h
        have rv' : Rep (upd H2 c (.lst (us ++ [v]))) v t := rv.mono fun d xs h => by
          rw [upd_ne (fun e => by rw [e, e2 _ _ hc] at h; cases h)]; exact h
        refine ⟨⟨c :: as, (t1 ++ [t]) :: st, _, rfl, hps', by rw [upd_ne ac]; exact e2 _ _ hla, .cons upd_same ((ru.mono kt).snoc rv') (by simp; omega) nc ?_, na, hfr, h21, (by simp)⟩, by rw [upd_ne hfc.1.symm]; exact e2 _ _ li, fun d o h => ?_⟩
        · have : ∀ {as st}, c ∉ as → Lvs i H' as st → Lvs (i + 1) (upd H2 c (.lst (us ++ [v]))) as st := by
            intro as st hn L
            induction L with
            | nil => exact .nil
            | cons h1 r hl nb L ih =>
              refine .cons ?_ (r.mono kt) (Nat.le_succ_of_le hl) nb (ih fun h => hn (List.mem_cons_of_mem _ h))
              rw [upd_ne (fun e => hn (by rw [← e]; simp))]
              exact e2 _ _ h1
          exact this nc L
        · rw [upd_ne (fun e => by rw [e, hfc.2] at h; cases h)]
          exact e2 _ _ (sm _ _ h)
  · rintro σ H' ⟨⟨as, st, pc, rfl, hps, hla, L, na, hfr, h21, hne⟩, li, sm⟩
    rw [List.length_map, List.drop_length] at hps
    have hst : R = some st := hps.symm
    cases L with
    | nil => exact absurd rfl hne
    | @cons c as st us t1 hc ru lu nc L =>
    cases L with
    | nil =>
      refine ⟨_, rfl, a, _, rfl, .inl (SqL.of hla), _, _, rfl, rfl, _, rfl, ?_⟩
      refine iteF ⟨_, rfl, a, _, 0, .ref c, rfl, rfl, SqL.of hla, rfl, c, us, rfl, .inl ⟨SqL.of hc, fun l hl => ?_⟩⟩
      exact qg t1 hz' hst _ _ (sm.trans (same_new hl _)) (.tup upd_same (ru.same (same_new hl _)))
    | @cons c2 as st us2 t2 hc2 ru2 lu2 nc2 L =>
      refine ⟨_, rfl, a, _, rfl, .inl (SqL.of hla), _, _, rfl, rfl, _, rfl, ?_⟩
      rw [decide_eq_true (by simp; omega)]
      exact iteT ⟨small (by show 1 ≤ 1000000; decide), fun ea _ => qb (.inr fun ts q => by rw [hst] at q; cases q) ea _ sm⟩
end
end Fw
set_option Elab.async false
set_option linter.all false
set_option maxRecDepth 100000
namespace Fw
open PySem PySem.Spec PyProof.Rows L2
def pcT : T → Str
  | .int i => Str.ofString (toString i)
  | .str z => z
  | .tup _ => ""
def Clean (l : List Nat) : Prop := ∀ c ∈ l, c ≠ 32 ∧ c ≠ 10 ∧ c ≠ 40 ∧ c ≠ 41
structure AtomOk (t : T) : Prop where
  nt : ∀ l, t ≠ .tup l
  th : thingT (pcT t) = some t
  cl : Clean (pcT t).cps.toList
  lo : 1 ≤ (pcT t).length
  hi : (pcT t).length ≤ 31
  lg : ∀ i, t = .int i → i.natAbs.log2 < 1920
mutual
def pcs : T → List Str
  | .int i => [pcT (.int i)]
  | .str z => [z]
  | .tup l => ("(" : Str) :: (pcss l ++ [(")" : Str)])
def pcss : List T → List Str
  | [] => []
  | t :: r => pcs t ++ pcss r
end
inductive Tr : Nat → T → Prop where
  | at {n : Nat} {t : T} : AtomOk t → Tr n t
  | tp {n : Nat} {l : List T} : (∀ t ∈ l, Tr n t) → Tr (n + 1) (.tup l)
theorem Tr.mono {n : Nat} {t : T} (h : Tr n t) : ∀ {m : Nat}, n ≤ m → Tr m t := by
  induction h with
  | «at» a => intro m _; exact .at a
  | tp _ ih =>
    intro m hm
    obtain ⟨k, rfl⟩ : ∃ k, m = k + 1 := ⟨m - 1, by omega⟩
    exact .tp fun t ht => ih t ht (by omega)
theorem pcs_at {t : T} (h : AtomOk t) : pcs t = [pcT t] := by
  cases t with
  | int i => simp [pcs]
  | str z => simp [pcs, pcT]
  | tup l => exact absurd rfl (h.nt l)
theorem lb_cps : ("(" : Str).cps.toList = [40] := by decide +kernel
theorem rb_cps : (")" : Str).cps.toList = [41] := by decide +kernel
theorem clean_ne {p : Str} (h : Clean p.cps.toList) : decide (V.str p = .str "(") = false ∧ decide (V.str p = .str ")") = false := by
  refine ⟨decide_eq_false fun e => ?_, decide_eq_false fun e => ?_⟩
  · have := V.str.inj e
    rw [this, lb_cps] at h
    exact (h 40 (by simp)).2.2.1 rfl
  · have := V.str.inj e
    rw [this, rb_cps] at h
    exact (h 41 (by simp)).2.2.2 rfl
theorem pars_tr {n : Nat} {t : T} (h : Tr n t) : ∀ (a : List T) (r : List (List T)) (rest : List Str), r.length + n ≤ 20 → pars (a :: r) (pcs t ++ rest) = pars ((a ++ [t]) :: r) rest := by
  induction h with
  | «at» A =>
    intro a r rest _
    rw [pcs_at A]
    show (stepP (a :: r) _).bind _ = _
    obtain ⟨c1, c2⟩ := clean_ne A.cl
    unfold stepP
    rw [c1, c2, if_neg Bool.false_ne_true, if_neg Bool.false_ne_true, A.th]
    rfl
  | @tp n l _ ih =>
    intro a r rest hn
    have all : ∀ (l' : List T), (∀ t ∈ l', t ∈ l) → ∀ (b : List T) (rest : List Str), pars (b :: a :: r) (pcss l' ++ rest) = pars ((b ++ l') :: a :: r) rest := by
      intro l'
      induction l' with
      | nil => intro _ b rest; simp [pcss]
      | cons t l' ih2 =>
        intro hl b rest
        rw [pcss, List.append_assoc, ih t (hl t (by simp)) b (a :: r) _ (by simp; omega), ih2 (fun t ht => hl t (List.mem_cons_of_mem _ ht)) (b ++ [t]) rest, List.append_assoc]
        rfl
    rw [pcs]
    show (stepP (a :: r) "(").bind (fun st' => pars st' ((pcss l ++ [(")" : Str)]) ++ rest)) = _
    have e1 : stepP (a :: r) "(" = some ([] :: a :: r) := by
      unfold stepP
      rw [decide_eq_true rfl, if_pos rfl, if_pos (by simp; omega)]
    rw [e1]
    show pars ([] :: a :: r) ((pcss l ++ [(")" : Str)]) ++ rest) = _
    rw [List.append_assoc, all l (fun t ht => ht) [] _]
    show (stepP (([] ++ l) :: a :: r) ")").bind (fun st' => pars st' rest) = _
    have e2 : stepP (([] ++ l) :: a :: r) ")" = some ((a ++ [.tup l]) :: r) := by
      unfold stepP
      rw [decide_eq_false (show ¬ V.str ")" = V.str "(" by decide +kernel), if_neg Bool.false_ne_true, decide_eq_true rfl, if_pos rfl]
      rfl
    rw [e2]
    rfl
theorem pars_all {l : List T} (h : ∀ t ∈ l, Tr 20 t) : pars [[]] (pcss l) = some [l] := by
  have all : ∀ (l' : List T), (∀ t ∈ l', Tr 20 t) → ∀ (b : List T), pars [b] (pcss l') = some [b ++ l'] := by
    intro l'
    induction l' with
    | nil => intro _ b; simp [pcss, pars]
    | cons t l' ih =>
      intro hl b
      rw [pcss, pars_tr (hl t (by simp)) b [] _ (by simp), ih (fun t ht => hl t (List.mem_cons_of_mem _ ht)) (b ++ [t]), List.append_assoc]
      rfl
  exact all l h []
def wt (p : Str) : Nat := p.length + 3
def wts (ps : List Str) : Nat := (ps.map wt).sum
theorem wts_app (a b : List Str) : wts (a ++ b) = wts a + wts b := by unfold wts; rw [List.map_append, List.sum_append]
theorem wts_cons (p : Str) (b : List Str) : wts (p :: b) = wt p + wts b := rfl
theorem wts_nil : wts [] = 0 := rfl
theorem wt_lb : wt "(" = 4 := by decide +kernel
theorem wt_rb : wt ")" = 4 := by decide +kernel
theorem wts_at {t : T} (h : AtomOk t) : wts (pcs t) ≤ 34 := by
  rw [pcs_at h, wts_cons, wts_nil]
  have := h.hi
  unfold wt
  omega
theorem wts_tup (l : List T) : wts (pcs (.tup l)) = 8 + wts (pcss l) := by
  rw [pcs, wts_cons, wts_app, wts_cons, wts_nil, wt_lb, wt_rb]
  omega
theorem pcss_app (a b : List T) : pcss (a ++ b) = pcss a ++ pcss b := by
  induction a with
  | nil => rfl
  | cons t a ih => rw [List.cons_append, pcss, pcss, ih, List.append_assoc]
theorem pcss_one (t : T) : pcss [t] = pcs t := by rw [pcss, pcss, List.append_nil]
def wordsL (l : List Nat) : List (List Nat) := (splL 32 l).filter (fun p => !p.isEmpty)
theorem splL_cons (c a : Nat) (l : List Nat) : splL c (a :: l) = if a = c then [] :: splL c l else match splL c l with
    | p :: ps => (a :: p) :: ps
    | [] => [[a]] := by
  rw [splL] <;> (split <;> first | rfl | (cases splL c l <;> rfl))
theorem splL_app2 (c : Nat) (r : List Nat) : ∀ l, splL c (l ++ c :: r) = splL c l ++ splL c r
  | [] => by simp [splL]
  | a :: l => by
    have ih := splL_app2 c r l
    rw [List.cons_append, splL_cons, splL_cons]
    by_cases h : a = c
    · rw [if_pos h, if_pos h, ih]; rfl
    · rw [if_neg h, if_neg h, ih]
      cases e : splL c l with
      | nil => exact absurd e (splL_ne c l)
      | cons p ps => rfl
theorem words_app (l r : List Nat) : wordsL (l ++ 32 :: r) = wordsL l ++ wordsL r := by
  unfold wordsL
  rw [splL_app2, List.filter_append]
theorem words_nil : wordsL [] = [] := rfl
theorem words_one {p : List Nat} (h : 32 ∉ p) (hn : p ≠ []) : wordsL p = [p] := by
  unfold wordsL
  rw [splL_free h]
  cases p with
  | nil => exact absurd rfl hn
  | cons a r => rfl
theorem words_blank (r : List Nat) : wordsL (32 :: r) = wordsL r := words_app [] r
def fC (c : Nat) : List Nat := if c = 10 then [32] else if c = 40 then [32, 40, 32] else if c = 41 then [32, 41, 32] else [c]
theorem spaced_is (l : List Nat) : spacedL l = l.flatMap fC := by
  unfold spacedL repL
  rw [List.flatMap_assoc, List.flatMap_assoc]
  congr 1
  funext c
  unfold fC
  by_cases h1 : c = 10
  · subst h1; rfl
  · by_cases h2 : c = 40
    · subst h2; rfl
    · by_cases h3 : c = 41
      · subst h3; rfl
      · simp [h1, h2, h3]
theorem clean_flat {p : List Nat} (h : Clean p) : p.flatMap fC = p := by
  induction p with
  | nil => rfl
  | cons a r ih =>
    rw [List.flatMap_cons, ih fun c hc => h c (List.mem_cons_of_mem _ hc)]
    have ha := h a (by simp)
    unfold fC
    rw [if_neg ha.2.1, if_neg ha.2.2.1, if_neg ha.2.2.2]
    rfl
def Opn (l : List Nat) (ps : List (List Nat)) : Prop := ∀ r, wordsL (l.flatMap fC ++ 32 :: r) = ps ++ wordsL r
def Cls (l : List Nat) (ps : List (List Nat)) : Prop := ∀ r, wordsL (l.flatMap fC ++ r) = ps ++ wordsL r
theorem Cls.opn {l : List Nat} {ps : List (List Nat)} (h : Cls l ps) : Opn l ps := fun r => by rw [h, words_blank]
theorem cls_nil : Cls [] [] := fun r => rfl
def GapL (g : List Nat) : Prop := ∀ c ∈ g, c = 32 ∨ c = 10
theorem gap_flat {g : List Nat} (h : GapL g) : g.flatMap fC = List.replicate g.length 32 := by
  induction g with
  | nil => rfl
  | cons a r ih =>
    rw [List.flatMap_cons, ih fun c hc => h c (List.mem_cons_of_mem _ hc)]
    rcases h a (by simp) with rfl | rfl <;> rfl
theorem words_rep (n : Nat) (r : List Nat) : wordsL (List.replicate n 32 ++ r) = wordsL r := by
  induction n with
  | zero => rfl
  | succ n ih => rw [List.replicate_succ, List.cons_append, words_blank, ih]
theorem Cls.gap {l g : List Nat} {ps : List (List Nat)} (h : Cls l ps) (hg : GapL g) : Cls (l ++ g) ps := fun r => by
  rw [List.flatMap_append, List.append_assoc, h, gap_flat hg, words_rep]
theorem Opn.gap1 {l g : List Nat} {ps : List (List Nat)} (h : Opn l ps) (hg : GapL g) (h1 : 1 ≤ g.length) : Cls (l ++ g) ps := fun r => by
  rw [List.flatMap_append, List.append_assoc, gap_flat hg]
  obtain ⟨k, hk⟩ : ∃ k, g.length = k + 1 := ⟨g.length - 1, by omega⟩
  rw [hk, List.replicate_succ, List.cons_append, h, words_rep]
theorem Opn.gap {l g : List Nat} {ps : List (List Nat)} (h : Opn l ps) (hg : GapL g) : Opn (l ++ g) ps := by
  cases g with
  | nil => rw [List.append_nil]; exact h
  | cons a r => exact (h.gap1 hg (by simp)).opn
theorem Opn.lb {l : List Nat} {ps : List (List Nat)} (h : Opn l ps) : Cls (l ++ [40]) (ps ++ [[40]]) := fun r => by
  rw [List.flatMap_append, List.append_assoc]
  show wordsL (l.flatMap fC ++ 32 :: ([40] ++ 32 :: r)) = _
  rw [h, words_app, words_one (by decide) (by decide), List.append_assoc]
theorem Opn.rb {l : List Nat} {ps : List (List Nat)} (h : Opn l ps) : Cls (l ++ [41]) (ps ++ [[41]]) := fun r => by
  rw [List.flatMap_append, List.append_assoc]
  show wordsL (l.flatMap fC ++ 32 :: ([41] ++ 32 :: r)) = _
  rw [h, words_app, words_one (by decide) (by decide), List.append_assoc]
theorem Cls.word {l p : List Nat} {ps : List (List Nat)} (h : Cls l ps) (hp : Clean p) (hn : p ≠ []) : Opn (l ++ p) (ps ++ [p]) := fun r => by
  rw [List.flatMap_append, List.append_assoc, clean_flat hp, h, words_app, words_one (fun hm => (hp 32 hm).1 rfl) hn, List.append_assoc]
theorem Opn.end {l : List Nat} {ps : List (List Nat)} (h : Opn l ps) : piecesL l = ps := by
  have h1 := h []
  rw [words_app, words_nil, List.append_nil, List.append_nil] at h1
  unfold piecesL
  rw [spaced_is]
  exact h1
theorem pieces_of_opn {z : Str} {ps : List Str} (h : Opn z.cps.toList (ps.map (·.cps.toList))) : piecesS z = ps := by
  have h1 := h.end
  have inj : ∀ {a b : List Str}, a.map (·.cps.toList) = b.map (·.cps.toList) → a = b := by
    intro a
    induction a with
    | nil => intro b e; cases b with | nil => rfl | cons x b => cases e
    | cons x a ih =>
      intro b e
      cases b with
      | nil => cases e
      | cons y b =>
        simp only [List.map_cons, List.cons.injEq] at e
        rw [str_ext e.1, ih e.2]
  refine inj ?_
  rw [← h1]
  unfold piecesS piecesL
  rw [← sp3_cps, ← split_eq, show (" " : Str) = ⟨#[32]⟩ by decide +kernel, List.filter_map]
  congr 1
  refine List.filter_congr fun p _ => ?_
  show (!decide (V.str p = .str "")) = !(p.cps.toList.isEmpty)
  congr 1
  cases e : p.cps.toList.isEmpty with
  | true =>
    have : p = "" := str_ext (by rw [List.isEmpty_iff.mp e]; decide +kernel)
    exact decide_eq_true (by rw [this])
  | false =>
    refine decide_eq_false fun z => ?_
    have := V.str.inj z
    rw [this] at e
    exact absurd e (by decide +kernel)
end Fw
set_option Elab.async false
set_option linter.all false
set_option maxRecDepth 100000
namespace Fw
open PySem PySem.Spec PyProof.Rows L2
theorem nt_no {z : Str} {c : Nat} {r : List Nat} (e : z.cps.toList = c :: r) (h1 : c ≠ 45) (h2 : inS figS c = false) : ntB z = false := by
  have f : figs z = z := by unfold figs; rw [e]; simp [h1]
  unfold ntB
  rw [f]
  have : allS z figS = false := by
    unfold allS
    rw [e, List.all_cons, h2]
    rfl
  rw [this]
  simp
theorem not_fig {c : Nat} (h : 57 < c) : inS figS c = false := by
  refine decide_eq_false fun hm => ?_
  have : ∀ d ∈ figS.cps.toList, d ≤ 57 := by decide +kernel
  exact absurd (this c hm) (by omega)
theorem word_ok {z : Str} {c : Nat} {r : List Nat} (e : z.cps.toList = c :: r) (h1 : 57 < c) (hw : wordB z = true) (hl : z.length ≤ 31) (hc : ∀ d ∈ z.cps.toList, 46 ≤ d) : AtomOk (.str z) where
  nt := fun l h => by cases h
  th := by
    show thingT z = _
    unfold thingT
    rw [nt_no e (by omega) (not_fig h1), hw, if_neg Bool.false_ne_true, if_pos rfl]
  cl := fun d hd => by
    have := hc d hd
    exact ⟨by omega, by omega, by omega, by omega⟩
  lo := by
    show 1 ≤ z.length
    rw [← len_toList, e]
    simp
  hi := hl
  lg := fun i h => nomatch h
theorem small_ok {z : Str} (h : smallB z = true) : AtomOk (.str z) := by
  have h' := h
  unfold smallB okLen at h'
  simp only [Bool.and_eq_true, decide_eq_true_eq] at h'
  obtain ⟨⟨h1, h2⟩, h3⟩ := h'
  have hc : ∀ d ∈ z.cps.toList, 97 ≤ d ∧ d ≤ 122 := fun d hd => small_range (List.all_eq_true.mp h3 d hd)
  cases e : z.cps.toList with
  | nil => rw [← len_toList, e] at h1; simp at h1
  | cons c r =>
    have := hc c (by rw [e]; simp)
    exact word_ok e (by omega) (by unfold wordB; rw [h]; rfl) (by omega) fun d hd => by have := hc d hd; omega
theorem name_ok {z : Str} (h : nameB z = true) : AtomOk (.str z) := by
  unfold nameB at h
  simp only [Bool.and_eq_true] at h
  exact small_ok h.1
theorem kept_ok {z : Str} (h : z ∈ keptL) : AtomOk (.str z) := small_ok ((show ∀ k ∈ keptL, smallB k = true by decide +kernel) z h)
theorem great_ok {z : Str} (h : greatB z = true) : AtomOk (.str z) := by
  obtain ⟨c, r, e, h1, h2, h3, h4⟩ := great_parts h
  refine word_ok e (by omega) (by unfold wordB; rw [h]; simp) (by rw [← len_toList, e]; simp; omega) fun d hd => ?_
  rw [e] at hd
  rcases List.mem_cons.mp hd with rfl | hd
  · omega
  · have := h3 d hd; omega
theorem pathB_ok {z : Str} (h : pathB z = true) : AtomOk (.str z) := by
  have h' := h
  unfold pathB at h'
  have hj := split_eq z 46
  split at h'
  · rename_i a b hs
    simp only [Bool.and_eq_true] at h'
    obtain ⟨c, r, e, h1, h2, h3, h4⟩ := great_parts h'.1
    obtain ⟨n, hl, n1, n8, _⟩ := name_let h'.2
    have e' : a = c :: r := e
    have hz : z.cps.toList = joinL [46] [a, b] := by
      have := joinL_splL 46 [46] z.cps.toList
      rw [hs] at this
      rw [this]
      unfold repL
      have : ∀ l : List Nat, (l.flatMap fun a => if a = 46 then [46] else [a]) = l := by
        intro l
        induction l with
        | nil => rfl
        | cons x l ih =>
          rw [List.flatMap_cons, ih]
          split
          · rename_i hx; rw [hx]; rfl
          · rfl
      exact (this _).symm
    have hz' : z.cps.toList = c :: (r ++ 46 :: b) := by rw [hz, e']; show c :: r ++ [46] ++ b = _; simp
    have bl : b.length ≤ 8 := by
      have := hl.len
      rw [← len_toList] at this
      have e3 : (⟨b.toArray⟩ : Str).cps.toList = b := rfl
      rw [e3] at this
      omega
    refine word_ok hz' (by omega) (by unfold wordB; rw [h]; simp) (by rw [← len_toList, hz']; simp; omega) fun d hd => ?_
    rw [hz'] at hd
    rcases List.mem_cons.mp hd with rfl | hd
    · omega
    · rcases List.mem_append.mp hd with hd | hd
      · have := h3 d hd; omega
      · rcases List.mem_cons.mp hd with rfl | hd
        · omega
        · have := hl.mem (show d ∈ (⟨b.toArray⟩ : Str).cps.toList from hd); omega
  · cases h'
theorem var_ok {z : Str} (h : varB z = true) : AtomOk (.str z) := by
  have h' := h
  unfold varB smallB okLen at h'
  simp only [Bool.and_eq_true, decide_eq_true_eq] at h'
  obtain ⟨h1, ⟨h2, h3⟩, h4⟩ := h'
  cases e : z.cps.toList with
  | nil => rw [e] at h1; cases h1
  | cons c r =>
    rw [e] at h1
    cases h1
    have er : (restS z).cps.toList = r := by unfold restS; rw [e]; rfl
    have hr : ∀ d ∈ r, 97 ≤ d ∧ d ≤ 122 := fun d hd => small_range (List.all_eq_true.mp h4 d (by rw [er]; exact hd))
    refine word_ok e (by decide) (by unfold wordB; rw [h]; simp) ?_ fun d hd => ?_
    · rw [← len_toList, e]
      rw [← len_toList, er] at h3
      simp
      omega
    · rw [e] at hd
      rcases List.mem_cons.mp hd with rfl | hd
      · decide
      · have := hr d hd; omega
theorem arrow_ok : AtomOk (.str "->") where
  nt := fun l h => by cases h
  th := by
    show thingT "->" = _
    unfold thingT
    rw [show ntB "->" = false by decide +kernel, show wordB "->" = true by decide +kernel]
    rfl
  cl := by
    show Clean ("->" : Str).cps.toList
    rw [show ("->" : Str).cps.toList = [45, 62] by decide +kernel]
    intro c hc
    simp at hc
    rcases hc with rfl | rfl <;> decide
  lo := by decide +kernel
  hi := by decide +kernel
  lg := fun i h => nomatch h
theorem fig_in {c : Nat} (h1 : 48 ≤ c) (h2 : c ≤ 57) : inS figS c = true := by
  have : ∀ d : Nat, d < 58 → 48 ≤ d → inS figS d = true := by decide +kernel
  exact this c (by omega) h1
theorem digs (m : Nat) : (∀ c ∈ (Nat.toDigits 10 m).map Char.toNat, 48 ≤ c ∧ c ≤ 57) := by
  intro c hc
  obtain ⟨ch, hch, e⟩ := List.mem_map.mp hc
  rw [← e]
  exact digit_range (Nat.isDigit_of_mem_toDigits (by decide) (by decide) hch)
theorem digs_first {m : Nat} (h : 1 ≤ m) : ∃ c r, (Nat.toDigits 10 m).map Char.toNat = c :: r ∧ c ≠ 48 := by
  induction m using Nat.strongRecOn with
  | _ m ih =>
    by_cases hm : m < 10
    · rw [Nat.toDigits_of_lt_base hm]
      refine ⟨(Nat.digitChar m).toNat, [], rfl, ?_⟩
      have : ∀ d : Nat, d < 10 → 1 ≤ d → (Nat.digitChar d).toNat ≠ 48 := by decide
      exact this m hm h
    · have hm' : m % 10 < 10 := Nat.mod_lt m (by decide)
      have t : Nat.toDigits 10 (m / 10) ++ Nat.toDigits 10 (m % 10) = Nat.toDigits 10 (10 * (m / 10) + m % 10) := Nat.toDigits_append_toDigits (by decide) (by omega) hm'
      rw [Nat.div_add_mod] at t
      obtain ⟨c, r, e, hc⟩ := ih (m / 10) (by omega) (by omega)
      exact ⟨c, r ++ (Nat.toDigits 10 (m % 10)).map Char.toNat, by rw [← t, List.map_append, e]; rfl, hc⟩
theorem digs_len {m : Nat} (h : m < 10 ^ 30) : ((Nat.toDigits 10 m).map Char.toNat).length ≤ 30 := by
  have := (Nat.length_repr_le_iff (n := m) (k := 30) (by decide)).mpr h
  rw [List.length_map]
  have e : (Nat.repr m).length = (Nat.toDigits 10 m).length := by rw [← String.length_toList, Nat.toList_repr]
  omega
theorem digs_ne (m : Nat) : (Nat.toDigits 10 m).map Char.toNat ≠ [] := by
  intro e
  have h := toDigits_len_ge 10 m
  rw [List.map_eq_nil_iff.mp e] at h
  exact absurd h (by decide)
theorem num_ok {z : Str} {i : Int} {m : Nat} (hm : m < 10 ^ 30) (h : (z.cps.toList = (Nat.toDigits 10 m).map Char.toNat ∧ i = m) ∨ (z.cps.toList = 45 :: (Nat.toDigits 10 m).map Char.toNat ∧ i = -(m : Int) ∧ 1 ≤ m)) :
    thingT z = some (.int i) ∧ Clean z.cps.toList ∧ 1 ≤ z.length ∧ z.length ≤ 31 := by
  have hd := digs m
  have hl := digs_len hm
  have hne := digs_ne m
  have al : ∀ {y : Str}, y.cps.toList = (Nat.toDigits 10 m).map Char.toNat → allS y figS = true := fun {y} e => by
    unfold allS
    rw [e]
    exact List.all_eq_true.mpr fun c hc => fig_in (hd c hc).1 (hd c hc).2
  have lpos : 1 ≤ ((Nat.toDigits 10 m).map Char.toNat).length := List.length_pos_iff.mpr hne
  have fst : ∀ {y : Str}, y.cps.toList = (Nat.toDigits 10 m).map Char.toNat → 1 ≤ m → decide (V.str ⟨#[y.cps.toList.getD 0 0]⟩ = .str "0") = false := fun {y} e h1 => by
    obtain ⟨c, r, e2, hc⟩ := digs_first h1
    rw [e, e2]
    refine decide_eq_false fun q => ?_
    have q2 : (⟨#[c]⟩ : Str) = "0" := V.str.inj q
    rw [show ("0" : Str) = ⟨#[48]⟩ by decide +kernel] at q2
    injection q2 with q3
    simp at q3
    exact hc q3
  rcases h with ⟨e, rfl⟩ | ⟨e, rfl, h1⟩
  · have zl : z.length = ((Nat.toDigits 10 m).map Char.toNat).length := by rw [← len_toList, e]
    have f : figs z = z := by
      unfold figs
      refine if_neg fun q => ?_
      rw [e] at q
      cases e2 : (Nat.toDigits 10 m).map Char.toNat with
      | nil => exact hne e2
      | cons c r =>
        rw [e2] at q hd
        cases q
        exact absurd (hd 45 (by simp)).1 (by decide)
    have nt : ntB z = true := by
      unfold ntB
      rw [f, al e, decide_eq_true (show 1 ≤ z.length by omega), decide_eq_true (show z.length ≤ 30 by omega)]
      by_cases h0 : m = 0
      · have : z = "0" := str_ext (by rw [e, h0]; decide +kernel)
        rw [decide_eq_true (show V.str z = .str "0" by rw [this])]
        rfl
      · rw [fst e (by omega)]
        simp
    refine ⟨?_, fun c hc => ?_, by omega, by omega⟩
    · unfold thingT
      rw [nt, if_pos rfl, intText_digits (by rw [e]; exact hd) (by rw [e]; exact hne) (by omega), e, PySem.W.KIN.val_back]
      rfl
    · rw [e] at hc
      have := hd c hc
      exact ⟨by omega, by omega, by omega, by omega⟩
  · have zl : z.length = ((Nat.toDigits 10 m).map Char.toNat).length + 1 := by rw [← len_toList, e]; rfl
    have f : figs z = restS z := by
      unfold figs
      exact if_pos (by rw [e]; rfl)
    have er : (restS z).cps.toList = (Nat.toDigits 10 m).map Char.toNat := by unfold restS; rw [e]; rfl
    have rl : (restS z).length = ((Nat.toDigits 10 m).map Char.toNat).length := by rw [← len_toList, er]
    have nt : ntB z = true := by
      unfold ntB
      rw [f, al er, decide_eq_true (show 1 ≤ (restS z).length by omega), decide_eq_true (show (restS z).length ≤ 30 by omega), fst er h1]
      simp
    refine ⟨?_, fun c hc => ?_, by omega, by omega⟩
    · unfold thingT
      rw [nt, if_pos rfl, intText_neg e hd hne (by omega), PySem.W.KIN.val_back]
      rfl
    · rw [e] at hc
      rcases List.mem_cons.mp hc with rfl | hc
      · decide
      · have := hd c hc
        exact ⟨by omega, by omega, by omega, by omega⟩
theorem int_ok {i : Int} (h1 : -(10 ^ 30) < i) (h2 : i < 10 ^ 30) : AtomOk (.int i) := by
  have key : thingT (Str.ofString (toString i)) = some (.int i) ∧ Clean (Str.ofString (toString i)).cps.toList ∧ 1 ≤ (Str.ofString (toString i)).length ∧ (Str.ofString (toString i)).length ≤ 31 := by
    cases i with
    | ofNat m => exact num_ok (m := m) (by have h3 : (m : Int) < 10 ^ 30 := h2; omega) (.inl ⟨PySem.W.KIN.signs_num m, rfl⟩)
    | negSucc m =>
      refine num_ok (m := m + 1) (by omega) (.inr ⟨?_, by omega, by omega⟩)
      rw [signs_ofString]
      show ("-" ++ Nat.repr (m + 1)).toList.map Char.toNat = _
      rw [String.toList_append, List.map_append, Nat.toList_repr]
      rfl
  have lg : i.natAbs.log2 < 1920 := by
    by_cases h0 : i.natAbs = 0
    · rw [h0]; decide
    · exact Nat.lt_trans ((Nat.log2_lt h0 (k := 100)).mpr (by omega)) (by decide)
  exact ⟨(fun l h => nomatch h), key.1, key.2.1, key.2.2.1, key.2.2.2, fun j e => by cases e; exact lg⟩
end Fw
set_option Elab.async false
set_option linter.all false
set_option maxRecDepth 100000
namespace Fw
open PySem PySem.Spec PyProof.Rows L2
abbrev s_atom : Stmt := top 93
abbrev s_thing : Stmt := top 94
inductive spAt (vs : List V) (H : Hp) (Q : VK) (E_ : XK) : Prop where
  | mk (st : Addr) : vs = [.ref st] → StOk H st → (∀ v t H', AtomOk t → Rep H' v t → Grow st H H' → Q v H') → spAt vs H Q E_
structure Lf (st lf : Addr) (l : Int) (H : Hp) : Prop where
  ne : st ≠ lf
  st : StOk H st
  lf : H lf = some (.lst [.int l])
def GrowL (st lf : Addr) (H H' : Hp) : Prop := ∀ b o, b ≠ st → b ≠ lf → H b = some o → H' b = some o
theorem GrowL.trans {st lf : Addr} {H H1 H2 : Hp} (a : GrowL st lf H H1) (b : GrowL st lf H1 H2) : GrowL st lf H H2 := fun c o h1 h2 e => b c o h1 h2 (a c o h1 h2 e)
theorem Lf.grow {st lf : Addr} {l : Int} {H H' : Hp} (d : Lf st lf l H) (g : Grow st H H') : Lf st lf l H' := ⟨d.ne, g.ok, g.1 _ _ d.ne.symm d.lf⟩
theorem gl_of {st lf : Addr} {H H' : Hp} (g : Grow st H H') : GrowL st lf H H' := fun b o h _ e => g.1 b o h e
theorem gl_same {st lf : Addr} {H H' : Hp} (g : Same H H') : GrowL st lf H H' := fun b o _ _ e => g b o e
theorem Lf.same {st lf : Addr} {l : Int} {H H' : Hp} (d : Lf st lf l H) (g : Same H H') : Lf st lf l H' := ⟨d.ne, d.st.same g, g _ _ d.lf⟩
theorem Lf.tups {st lf : Addr} {l : Int} {H H' : Hp} (d : Lf st lf l H) (g : GrowL st lf H H') : ∀ b xs, H b = some (.tup xs) → H' b = some (.tup xs) := fun b xs e => g b _ (d.st.ne_tup e) (ne_of e d.lf (by intro z; cases z)) e
inductive spThg (n : Nat) (vs : List V) (H : Hp) (Q : VK) (E_ : XK) : Prop where
  | mk (st lf : Addr) (l : Int) : vs = [.ref st, .int n, .ref lf] → Lf st lf l H → (∀ v t l' H', Tr n t → Rep H' v t → wts (pcs t) + 110 * l'.toNat ≤ 34 + 110 * l.toNat → Lf st lf l' H' → GrowL st lf H H' → Q v H') → spThg n vs H Q E_
def spThgN : Nat → Sp
  | 0 => fun _ _ _ _ => False
  | n + 1 => spThg n
section
variable {P : Program} {w : World} {K : PySem.W.Frag} {mg : Str → Option Value} {base : Heap} {f : Addr} {fd : FuncData}
theorem sc_atom : FnScope ["_law_state", "_law_way"] ["_law_state"] (defScope s_atom) := ⟨rfl, rfl, rfl, by decide +kernel, rfl, by decide +kernel, by decide +kernel⟩
theorem ok_atom (F : Fun K "_law_atom" "_law_atom" s_atom f fd) (h0 : Has P w K mg base 1 "_law_next" ["_law_state", "_law_many"] spNext) (h1 : Has P w K mg base 2 "_law_number" ["_law_state"] spInt) (h2 : Has P w K mg base 3 "_law_small" ["_law_state"] (spStr fun z => nameB z = true))
    (h3 : Has P w K mg base 3 "_law_great" ["_law_state"] (spStr fun z => greatB z = true)) (h4 : Has P w K mg base 4 "_law_path" ["_law_state"] (spStr fun z => pathB z = true)) (h5 : Has P w K mg base 3 "_law_variable" ["_law_state"] (spStr fun z => varB z = true)) (h6 : Has P w K mg base 1 "_law_kept" [] spKept) :
    FnOk P w K mg base CX0 5 f fd ["_law_state"] spAt := by
  refine F.ok sc_atom (fun cdv A outer s H vs Q E hr h => ?_)
  obtain ⟨st, rfl, hs, q⟩ := h
  refine ⟨_, pss_cons (pset 1 sc_atom.nd (pcall h0 hr (by decide) rfl (pa_cons (pv 0) (pa_cons pe_int pa_nil))))
    (pss_cons (ps_if (pt_cmpR op_eq (pv 1) pe_int) (pss_one (ps_ret (pcall h1 hr (by decide) rfl (pa_cons (pv 0) pa_nil)))) pss_nil)
    (pss_cons (ps_if (pt_cmpR op_eq (pv 1) pe_int) (pss_one (ps_ret (pcall h2 hr (by decide) rfl (pa_cons (pv 0) pa_nil)))) pss_nil)
    (pss_cons (ps_if (pt_cmpR op_eq (pv 1) pe_int) (pss_one (ps_ret (pcall h3 hr (by decide) rfl (pa_cons (pv 0) pa_nil)))) pss_nil)
    (pss_cons (ps_if (pt_cmpR op_eq (pv 1) pe_int) (pss_one (ps_ret (pcall h4 hr (by decide) rfl (pa_cons (pv 0) pa_nil)))) pss_nil)
    (pss_cons (ps_if (pt_cmpR op_eq (pv 1) pe_int) (pss_one (ps_ret (pcall h5 hr (by decide) rfl (pa_cons (pv 0) pa_nil)))) pss_nil)
    (pss_cons (ps_if (pt_cmpR op_eq (pv 1) pe_int) (pss_one (ps_ret (pe_ix (ixL K) (pcall0 h6 hr (by decide) rfl) (pcall h0 hr (by decide) rfl (pa_cons (pv 0) (pa_cons pe_int pa_nil)))))) pss_nil)
    (pss_one (ps_ret pe_str)))))))), ?_⟩
  refine ⟨_, rfl, st, 7, rfl, hs, by decide, by decide, fun d H1 d0 d1 g1 => ?_⟩
  have fin : ∀ {z : Str} {H'}, AtomOk (.str z) → z.length ≤ 100 → Grow st H1 H' → Q (.str z) H' := fun {z H'} a l g => q _ (.str z) _ a (.str z (by omega)) (g1.trans g)
  refine ⟨_, rfl, rfl, _, rfl, ite2 (fun _ => ⟨_, rfl, st, rfl, g1.ok, fun i H2 i1 i2 g2 => q _ (.int i) _ (int_ok i1 i2) (.int i) (g1.trans g2)⟩) (fun _ => ?_)⟩
  refine ⟨_, rfl, rfl, _, rfl, ite2 (fun _ => ⟨_, rfl, st, rfl, g1.ok, fun z H2 hz lz g2 => fin (name_ok hz) lz g2⟩) (fun _ => ?_)⟩
  refine ⟨_, rfl, rfl, _, rfl, ite2 (fun _ => ⟨_, rfl, st, rfl, g1.ok, fun z H2 hz lz g2 => fin (great_ok hz) lz g2⟩) (fun _ => ?_)⟩
  refine ⟨_, rfl, rfl, _, rfl, ite2 (fun _ => ⟨_, rfl, st, rfl, g1.ok, fun z H2 hz lz g2 => fin (pathB_ok hz) lz g2⟩) (fun _ => ?_)⟩
  refine ⟨_, rfl, rfl, _, rfl, ite2 (fun _ => ⟨_, rfl, st, rfl, g1.ok, fun z H2 hz lz g2 => fin (var_ok hz) lz g2⟩) (fun _ => ?_)⟩
  refine ⟨_, rfl, rfl, _, rfl, ite2 (fun _ => ?_) (fun _ => ?_)⟩
  · refine ⟨rfl, fun p H2 e2 hp hl => ⟨_, rfl, st, 22, rfl, g1.ok.same e2, by decide, by decide, fun d2 H3 k0 k1 g3 => ?_⟩⟩
    have np : p ≠ st := fun e => by
      obtain ⟨ns, _, _, h3⟩ := g1.ok
      rw [e, h3] at hp
      cases hp
    have hl3 := g3.1 _ _ np hl
    have hlen : keptL.length = 22 := by decide +kernel
    have hj : d2.toNat < keptL.length := by omega
    have hat : ∀ (k : Nat) (i : Int) (hk : k < keptL.length), i = (k : Int) → atI (keptL.map V.str) i = some (.str (keptL[k])) := fun k i hk e => by
      rw [e]
      exact atI_nat (by rw [List.getElem?_map, List.getElem?_eq_getElem hk]; rfl)
    refine ⟨p, _, d2, .str (keptL[d2.toNat]), rfl, rfl, SqL.of hl3, ?_, ?_⟩
    · exact hat d2.toNat d2 hj (by omega)
    · have hm : keptL[d2.toNat] ∈ keptL := List.getElem_mem hj
      have a := kept_ok hm
      exact fin a (Nat.le_trans a.hi (by decide)) ((grow_same g1.ok e2).trans g3)
  · exact fin arrow_ok (by decide +kernel) (Grow.refl g1.ok)
theorem sc_thing : FnScope ["_law_state", "_law_deep", "_law_left"] ["_law_state", "_law_deep", "_law_left"] (defScope s_thing) := ⟨rfl, rfl, rfl, by decide +kernel, rfl, by decide +kernel, by decide +kernel⟩
theorem pcss_snoc (l : List T) (t : T) : pcss (l ++ [t]) = pcss l ++ pcs t := by rw [pcss_app, pcss_one]
theorem ok_thing {n : Nat} (F : Fun K "_law_thing" "_law_thing" s_thing f fd) (mr : mg "range" = none) (mt : mg "tuple" = none) (h0 : Has P w K mg base 1 "_law_next" ["_law_state", "_law_many"] spNext) (h1 : Has P w K mg base 5 "_law_atom" ["_law_state"] spAt)
    (h2 : Has P w K mg base (6 + n) "_law_thing" ["_law_state", "_law_deep", "_law_left"] (spThgN n)) : FnOk P w K mg base CX0 (7 + n) f fd ["_law_state", "_law_deep", "_law_left"] (spThg n) := by
  have e7 : 7 + n = (6 + n) + 1 := by omega
  rw [e7]
  refine F.ok sc_thing (fun cdv A outer s H vs Q E hr h => ?_)
  obtain ⟨st, lf, l, rfl, d, q⟩ := h
  refine ⟨_, pss_cons (ps_augS (pv 2) pe_int get_list pe_int ip_sub set_list)
    (pss_cons (ps_if (PW.pt (pw_or (pt_cmpR op_eq (pv 1) pe_int) (pw_or (pt_cmpR op_lt (pe_ix (ixL K) (pv 2) pe_int) pe_int) (pw_or1 (pt_cmpR op_eq (pcall h0 hr (by omega) rfl (pa_cons (pv 0) (pa_cons pe_int pa_nil))) pe_int)))))
      (pss_one (ps_ret (pcall h1 hr (by omega) rfl (pa_cons (pv 0) pa_nil)))) pss_nil)
    (pss_one (ps_ret (pe_callTy (ctup K) rfl mt boot_tuple (pa_cons (pe_lc (defScope s_thing) ["_law_state", "_law_deep", "_law_left"] ["_law_state", "_law_deep", "_law_left"] [0, 1, 2] (by decide +kernel) (pi_range1 rfl mr (pa_cons (pcall h0 hr (by omega) rfl (pa_cons (pv 0) (pa_cons pe_int pa_nil))) pa_nil)) (fun C s₀ H₀ ex => pts_nil)
      (fun C s₀ H₀ ex => pcall h2 hr (Nat.le_refl _) rfl (pa_cons (pv 1) (pa_cons (pe_op op_sub (pv 2) pe_int) (pa_cons (pv 3) pa_nil))))) pa_nil))))), ?_⟩
  refine ⟨_, rfl, lf, _, 0, .int l, rfl, rfl, SqL.of d.lf, rfl, l, 1, rfl, rfl, lf, _, 0, 0, rfl, rfl, d.lf, rfl, ?_⟩
  have d1 : Lf st lf (l - 1) (upd H lf (.lst [.int (l - 1)])) := by
    obtain ⟨ns, k1, k2, k3⟩ := d.st
    exact ⟨d.ne, ⟨ns, k1, k2, by rw [upd_ne d.ne]; exact k3⟩, upd_same⟩
  have g1 : GrowL st lf H (upd H lf (.lst [.int (l - 1)])) := fun b o _ h e => by rw [upd_ne h]; exact e
  show tSeq _ _ _ _ (upd H lf (.lst [.int (l - 1)]))
  have l1 : (l - 1).toNat ≤ l.toNat := by omega
  have at_ : ∀ {H2 : Hp}, Lf st lf (l - 1) H2 → GrowL st lf H H2 → spAt ([V.ref st] ++ []) H2 Q E0 := fun {H2} d2 g2 =>
    ⟨st, rfl, d2.st, fun v t H3 a r g => q v t (l - 1) H3 (.at a) r (by have := wts_at a; omega) (d2.grow g) (g2.trans (gl_of g))⟩
  refine ⟨_, rfl, rfl, _, rfl, ite2 (fun _ => ⟨_, rfl, at_ d1 g1⟩) (fun c1 => ?_)⟩
  have n0 : n ≠ 0 := fun e => c1 (decide_eq_true (by rw [e]; rfl))
  refine ⟨_, rfl, lf, _, 0, .int (l - 1), rfl, rfl, SqL.of d1.lf, rfl, _, _, rfl, rfl, _, rfl, ite2 (fun _ => ⟨_, rfl, at_ d1 g1⟩) (fun c2 => ?_)⟩
  have l0 : ¬ (l - 1 < 0) := fun e => c2 (decide_eq_true e)
  refine ⟨_, rfl, st, 3, rfl, d1.st, by decide, by decide, fun d3 H2 _ _ g2 => ⟨rfl, _, rfl, ?_⟩⟩
  have d2 := d1.grow g2
  have gg2 : GrowL st lf H H2 := g1.trans (gl_of g2)
  refine ite2 (fun _ => ⟨_, rfl, at_ d2 gg2⟩) (fun _ => ?_)
  refine ⟨_, rfl, st, 5, rfl, d2.st, by decide, by decide, fun m H3 m0 m5 g3 => ⟨m, rfl, by omega, by omega, ?_⟩⟩
  have d3 := d2.grow g3
  have gg3 : GrowL st lf H H3 := gg2.trans (gl_of g3)
  obtain ⟨n, rfl⟩ : ∃ k, n = k + 1 := ⟨n - 1, by omega⟩
  have em : (((n + 1 : Nat) : Int) - 1) = (n : Int) := by omega
  refine comp_range (n := (m : Int).toNat) (fun i vs H' => ∃ ts l', Reps H' vs ts ∧ ts.length = i ∧ (∀ t ∈ ts, Tr n t) ∧ wts (pcss ts) + 110 * (l' : Int).toNat ≤ 34 * i + 110 * (l - 1).toNat ∧ Lf st lf l' H' ∧ GrowL st lf H H') ⟨[], l - 1, .nil, rfl, (fun _ h => by cases h), by simp [pcss, wts], d3, gg3⟩ ?_ ?_ ?_
  · rintro i vs H' hi ⟨ts, l', hr1, hl, _⟩
    exact small' (by rw [hr1.length, hl]; omega)
  · rintro i vs H' hi ⟨ts, l', hr1, hl, ht, hw, d', g'⟩
    refine tt1 (iteT ⟨_, rfl, _, rfl, _, _, rfl, rfl, _, rfl, ?_⟩)
    have rec_ : ∀ (Q3 : VK), (∀ v t l2 H2, Tr n t → Rep H2 v t → wts (pcs t) + 110 * (l2 : Int).toNat ≤ 34 + 110 * l'.toNat → Lf st lf l2 H2 → GrowL st lf H' H2 → Q3 v H2) → spThgN (n + 1) ([V.ref st, .int (((n + 1 : Nat) : Int) - 1), .ref lf] ++ []) H' Q3 E0 := fun Q3 q3 => by
      rw [em]
      exact ⟨st, lf, l', rfl, d', q3⟩
    refine rec_ _ fun v t l2 H4 tr rv hw2 d4 g4 => nx hi ⟨ts ++ [t], l2, (hr1.mono (d'.tups g4)).snoc rv, by simp [hl], fun x hx => ?_, ?_, d4, g'.trans g4⟩
    · rcases List.mem_append.mp hx with h | h
      · exact ht x h
      · rw [List.mem_singleton.mp h]; exact tr
    · rw [pcss_snoc, wts_app]
      omega
  · rintro vs H' ⟨ts, l', hr1, hl, ht, hw, d', g'⟩ b hb
    refine ⟨b, vs, rfl, .inl ⟨SqL.of upd_same, fun p hp => ?_⟩⟩
    have e1 := same_new hb (.lst vs)
    have e2 := same_new hp (.tup vs)
    refine q (.ref p) (.tup ts) l' _ (.tp ht) (.tup upd_same (hr1.same (e1.trans e2))) ?_ (d'.same (e1.trans e2)) (g'.trans (gl_same (e1.trans e2)))
    rw [wts_tup]
    omega
theorem thing_all (F : Fun K "_law_thing" "_law_thing" s_thing f fd) (mr : mg "range" = none) (mt : mg "tuple" = none) (h0 : Has P w K mg base 1 "_law_next" ["_law_state", "_law_many"] spNext) (h1 : Has P w K mg base 5 "_law_atom" ["_law_state"] spAt)
    (hb : Binds K fd ["_law_state", "_law_deep", "_law_left"] []) (hk : PySem.W.keepIn K (.ref f) = true) (hm : mg "_law_thing" = some (.ref f)) (n : Nat) : Has P w K mg base (6 + n) "_law_thing" ["_law_state", "_law_deep", "_law_left"] (spThgN n) := by
  induction n with
  | zero => exact ⟨f, fd, ⟨fun _ _ _ _ h => h.elim, fun _ _ _ _ _ _ _ _ _ _ _ _ _ h => h.elim⟩, hb, hk, hm⟩
  | succ n ih => exact ⟨f, fd, (show 7 + n = 6 + (n + 1) by omega) ▸ ok_thing F mr mt h0 h1 ih, hb, hk, hm⟩
end
end Fw
set_option Elab.async false
set_option linter.all false
set_option maxRecDepth 100000
namespace L2
open PySem PySem.Spec PyProof.Rows
theorem ps_lcompM {X : Cx} {elt iter tg : Expr} {M : List Str} {g gy : TG} {y : Str} {py pos pos0 : Pos} {ifs : List Expr} {scope : Scope} {frees : List Str} {idx : List Nat} {wi : TI} {tt : TT} {te : TE}
    (hc : X.calm = true) (S : CompScopeM X frees idx scope) (hfl : ∀ y ∈ frees, scope.names.lookup y = some .free) (hi : PI X tg iter wi) (hgy : PG X (.Name y py) gy) (hg : ∀ C s₀ H₀ ex, PG (cxComp X (M ++ frees) scope C s₀ H₀ ex) tg g)
    (ht : ∀ C s₀ H₀ ex, PTs (cxComp X (M ++ frees) scope C s₀ H₀ ex) ifs tt) (he : ∀ C s₀ H₀ ex, PE (cxComp X (M ++ frees) scope C s₀ H₀ ex) elt te)
    (hsw : swapsWith (.ListComp elt [⟨tg, iter, ifs, 0⟩] scope pos) (some (.Name y py)) pos0.line X.env = pure true)
    (hs : ∀ v, foldedSetIterable iter X.env v = pure v := by intro _; rfl) : PS X (.Assign [.Name y py] (.ListComp elt [⟨tg, iter, ifs, 0⟩] scope pos) pos0) (tAsg (tCompM M.length idx wi g tt te) gy) := by
  intro pins s σ H D I h
  rw [exec_Assign_Name_used _ _ _ _ hsw]
  refine wpAny_bind (wpAny_standAt ?_)
  refine wpAny_bind ?_
  show wpAny _ _ (comprehension (.ListComp elt [⟨tg, iter, ifs, 0⟩] scope pos) scope X.env _ (newList []) _ _ (some (assign (.Name y py) X.env)) >>= fun _ => pure ()) _ _ s
  refine wpAny_bind (wpAny_mono (Q := fun _ s' => ∃ σ' H', Inv X pins σ' H' s' ∧ D.nx σ' H') ?_ (fun _ s' h' => wpAny_pure (wpAny_pure h')) fun _ _ h' => h')
  refine comp_core (M := M) (g := g) (XE := noX) (use := some (assign (.Name y py) X.env)) (Q' := fun _ s' => ∃ σ' H', Inv X pins σ' H' s' ∧ D.nx σ' H') (qt := Calm) (fun _ _ _ _ => hc) S hfl hi (fun C s₀ H₀ ex => by rw [cxE_no]; exact hg C s₀ H₀ ex) (fun C s₀ H₀ ex => by rw [cxE_no]; exact ht C s₀ H₀ ex) (fun C s₀ H₀ ex => by rw [cxE_no]; exact he C s₀ H₀ ex) hs I h (fun _ _ _ _ _ _ _ _ _ _ _ (z : False) => z.elim) fun Dd C H' m4 s4 hn4 hJ HC nC nfC szC celC pinC q => ?_
  show wpAny _ _ (assign (.Name y py) X.env (.ref Dd)) _ _ s4
  have I5 := hJ s4.heap ⟨rfl, fun _ _ => rfl⟩
  obtain ⟨oC, es, ep, gC, rC⟩ := id hn4
  have IPn : Inv X (pins ++ [(C, oC)]) σ H' s4 := I5.pins_of fun p hp => (List.mem_append.mp hp).elim (fun z => I5.pin p (List.mem_append_right _ z)) fun z => by
    have z' : p = (C, oC) := by simpa using z
    subst z'
    exact ⟨gC, HC, nC, nfC, fun v q => by have q2 : oC.data = .cell v := q; have q3 := rC.1; rw [q2] at q3; cases q3⟩
  refine thn (hgy _ s4 σ _ (.ref Dd) _ _ IPn rfl q) fun _ s6 ⟨σ6, H6, I6, q6⟩ => ?_
  have pC := I6.pin (C, oC) (List.mem_append_right _ (List.mem_append_right _ (List.mem_singleton.mpr rfl)))
  exact ⟨m4, hn4.at' (fun o e => by rw [gC] at e; cases e; exact pC.1), fun h'' sb => ⟨σ6, H6, I6.unpinned.turned (t' := s6.toks) (fun b o hb e => (sb.2 b hb).trans e) pC.2.1 nC (.inr szC) celC pinC, q6⟩⟩
theorem ps_lcomp {X : Cx} {elt iter : Expr} {x y : Str} {px py pos pos0 : Pos} {ifs : List Expr} {scope : Scope} {frees : List Str} {idx : List Nat} {wi : TI} {tt : TT} {te : TE} {g : TG}
    (hc : X.calm = true) (S : CompScope X x frees idx scope) (hfl : ∀ y ∈ frees, scope.names.lookup y = some .free) (hi : PI X (.Name x px) iter wi) (hgy : PG X (.Name y py) g)
    (ht : ∀ C s₀ H₀ ex, PTs (cxComp X (x :: frees) scope C s₀ H₀ ex) ifs tt) (he : ∀ C s₀ H₀ ex, PE (cxComp X (x :: frees) scope C s₀ H₀ ex) elt te)
    (hsw : swapsWith (.ListComp elt [⟨.Name x px, iter, ifs, 0⟩] scope pos) (some (.Name y py)) pos0.line X.env = pure true)
    (hs : ∀ v, foldedSetIterable iter X.env v = pure v := by intro _; rfl) : PS X (.Assign [.Name y py] (.ListComp elt [⟨.Name x px, iter, ifs, 0⟩] scope pos) pos0) (tAsg (tComp idx wi tt te) g) := by
  have h := ps_lcompM (M := [x]) (g := gName 0) hc ⟨S.kind, S.nocell, S.loc, S.fr, S.ix, S.len, S.cl⟩ hfl hi hgy (fun C s₀ H₀ ex => pg_name (i := 0) S.nd rfl (.inl (lookup_relabel_local S.tgt)) (.inr (lookup_relabel_local S.tgt))) ht he hsw hs
  exact tComp_M ▸ h
theorem ps_lc {X : Cx} {elt iter : Expr} {x y : Str} {px py pos pos0 : Pos} {ifs : List Expr} {scope : Scope} {wi : TI} {tt : TT} {te : TE} {g : TG} (osc : Scope) (N : List Str) (frees : List Str) (idx : List Nat)
    (hk : compOk osc N x frees idx scope = true) (hi : PI X (.Name x px) iter wi) (hgy : PG X (.Name y py) g)
    (ht : ∀ C s₀ H₀ ex, PTs (cxComp X (x :: frees) scope C s₀ H₀ ex) ifs tt) (he : ∀ C s₀ H₀ ex, PE (cxComp X (x :: frees) scope C s₀ H₀ ex) elt te)
    (hsw : swapsWith (.ListComp elt [⟨.Name x px, iter, ifs, 0⟩] scope pos) (some (.Name y py)) pos0.line X.env = pure true)
    (ho : X.env.scope = osc := by rfl) (hN : X.N = N := by rfl) (hc : X.calm = true := by rfl) (hs : ∀ v, foldedSetIterable iter X.env v = pure v := by intro _; rfl) :
    PS X (.Assign [.Name y py] (.ListComp elt [⟨.Name x px, iter, ifs, 0⟩] scope pos) pos0) (tAsg (tComp idx wi tt te) g) := by
  obtain ⟨S, fl⟩ := compOk_scope (X := X) hk ho hN
  exact ps_lcomp hc S fl hi hgy ht he hsw hs
end L2
set_option Elab.async false
set_option linter.all false
set_option maxRecDepth 100000
namespace Fw
open PySem PySem.Spec PyProof.Rows L2
abbrev s_things : Stmt := top 95
abbrev nT : List Str := ["_law_state", "_law_left", "_law_things_here", "_law_way", "_law_thing_here", "_law_k"]
def tInv (I J : L2.St → Hp → Prop) : TS := fun D σ H => I σ H ∧ ∀ σ' H', J σ' H' → D.nx σ' H'
theorem ps_inv {X : Cx} {st : Stmt} {t : TS} {I J : L2.St → Hp → Prop} (h : PS X st t) (q : ∀ D σ H, I σ H → (∀ σ' H', J σ' H' → D.nx σ' H') → t D σ H) : PS X st (tInv I J) := fun a b c d e f g => h a b c d e f (q _ _ _ g.1 g.2)
structure ThI (st : Addr) (H : Hp) (n b c : Nat) (σ : L2.St) (H' : Hp) : Prop where
  ex : ∃ (lf p : Addr) (w : Int) (th k : Option V) (vs : List V) (ts : List T), σ = [some (.ref st), some (.ref lf), some (.ref p), some (.int w), th, k] ∧ H' p = some (.lst vs) ∧ Reps H' vs ts ∧ (∀ t ∈ ts, Tr n t) ∧ wts (pcss ts) ≤ b ∧ vs.length ≤ c ∧ p ≠ st ∧ H p = none
  gr : Grow st H H'
section
variable {P : Program} {w : World} {K : PySem.W.Frag} {mg : Str → Option Value} {base : Heap} {f : Addr} {fd : FuncData} {st : Addr} {H0 : Hp}
theorem sc_things : FnScope nT ["_law_state"] (defScope s_things) := ⟨rfl, rfl, rfl, by decide +kernel, rfl, by decide +kernel, by decide +kernel⟩
@[irreducible] def stT (i : Nat) : Stmt := (defBody s_things).getD i (.Pass ⟨0, 0, 0, 0⟩)
theorem bodyT : defBody s_things = [stT 0, stT 1, stT 2, stT 3, stT 4, stT 5, stT 6, stT 7] := by unfold stT; rfl
theorem fresh_st {st p : Addr} {H : Hp} (h : StOk H st) (hp : H p = none) : p ≠ st := fun e => by
  obtain ⟨ns, _, _, h3⟩ := h
  rw [e, h3] at hp
  cases hp
theorem fresh_back {st u : Addr} {H H' : Hp} (g : Grow st H H') (hu : H' u = none) : H u = none := by
  cases e : H u with
  | none => rfl
  | some o => rw [g.1 u o (fresh_st g.ok hu) e] at hu; cases hu
theorem grow_upd {st p : Addr} {H H' : Hp} {o : HO} (g : Grow st H H') (hp : H p = none) (np : p ≠ st) : Grow st H (upd H' p o) := by
  refine ⟨fun b u hb e => ?_, ?_⟩
  · rw [upd_ne (fun q => by rw [q, hp] at e; cases e)]
    exact g.1 b u hb e
  · obtain ⟨ns, k1, k2, k3⟩ := g.ok
    exact ⟨ns, k1, k2, by rw [upd_ne np.symm]; exact k3⟩
abbrev XT (P : Program) (w : World) (K : PySem.W.Frag) (mg : Str → Option Value) (base : Heap) (f : Addr) (cdv : Value) (A : Around) (outer : List Env) (s : Shared) (H : Hp) (E : XK) : Cx := (cxOf CX0 P w K mg base nT "_law_things" (defScope s_things) f cdv A outer s H E).nox
variable {cdv : Value} {A : Around} {outer : List Env} {s : Shared} {H : Hp} {E : XK}
theorem atoms_comp {m : Nat} {H1 : Hp} {Q : VK} {σ' : L2.St} (hs : StOk H1 st) (hm : m ≤ 26) (e : σ' = [some (.ref st)]) (q : ∀ p vs ts H', Grow st H1 H' → H1 p = none → p ≠ st → H' p = some (.lst vs) → Reps H' vs ts → (∀ t ∈ ts, AtomOk t) → ts.length = m → Q (.ref p) H') :
    CompW (Itr 0 m) tTrue (tCall spAt [] E0 (tCons (tVar 1) tNil)) σ' Q H1 := by
  subst e
  refine comp_range (fun i vs H' => Grow st H1 H' ∧ ∃ ts, Reps H' vs ts ∧ (∀ t ∈ ts, AtomOk t) ∧ ts.length = i) ⟨Grow.refl hs, [], .nil, (fun _ h => by cases h), rfl⟩ ?_ ?_ ?_
  · rintro i vs H' hi ⟨_, ts, r, _, hl⟩
    exact small' (by rw [r.length, hl]; omega)
  · rintro i vs H' hi ⟨g, ts, r, ha, hl⟩
    refine tt1 (iteT ⟨_, rfl, st, rfl, g.ok, fun v t H2 a rv g2 => nx hi ⟨g.trans g2, ts ++ [t], (r.grow g2 g.ok).snoc rv, fun x hx => ?_, by simp [hl]⟩⟩)
    rcases List.mem_append.mp hx with h | h
    · exact ha x h
    · rw [List.mem_singleton.mp h]; exact a
  · rintro vs H' ⟨g, ts, r, ha, hl⟩ l hl'
    have e1 := same_new hl' (.lst vs)
    have hp1 : H1 l = none := by
      cases e : H1 l with
      | none => rfl
      | some o => rw [g.1 l o (fresh_st g.ok hl') e] at hl'; cases hl'
    exact q l vs ts _ (g.trans (grow_new g.ok hl')) hp1 (fresh_st g.ok hl') upd_same (r.same e1) ha hl
theorem wts_atoms {ts : List T} (h : ∀ t ∈ ts, AtomOk t) : wts (pcss ts) ≤ 34 * ts.length := by
  induction ts with
  | nil => simp [pcss, wts]
  | cons t ts ih =>
    rw [pcss, wts_app]
    have h1 := wts_at (h t (by simp))
    have h2 := ih fun x hx => h x (List.mem_cons_of_mem _ hx)
    simp only [List.length_cons]
    omega
theorem ps_T3 (mr : mg "range" = none) (mt : mg "tuple" = none) (hr : Room 10 (XT P w K mg base f cdv A outer s H E).A) (h0 : Has P w K mg base 1 "_law_next" ["_law_state", "_law_many"] spNext) :
    PS (XT P w K mg base f cdv A outer s H E) (stT 3) (tInv (ThI st H0 4 2776 4) (ThI st H0 20 2904 4)) := by
  unfold stT
  refine ps_inv (ps_if (pt_cmpR op_eq (pv 3) pe_int) (pss_one (ps_for PassesOwn.never rfl (pi_range1 rfl mr (pa_cons (pcall h0 hr (by decide) rfl (pa_cons (pv 0) (pa_cons pe_int pa_nil))) pa_nil)) (pg_name (i := 5) sc_things.nd rfl (Or.inl rfl))
    (pss_one (pset 2 sc_things.nd (pe_lst (pa_cons (pe_callTy (ctup K) rfl mt boot_tuple (pa_cons (pv 2) pa_nil)) pa_nil)))))) pss_nil) ?_
  rintro D σ H' ⟨⟨lf, p, w, th, k, vs, ts, rfl, hp, r, tr, hw, hl, np, fr⟩, gr⟩ nx'
  refine ⟨_, rfl, rfl, _, rfl, ite2 (fun _ => ?_) (fun _ => nx' _ _ ⟨⟨lf, p, w, th, k, vs, ts, rfl, hp, r, fun t ht => (tr t ht).mono (by decide), by omega, hl, np, fr⟩, gr⟩)⟩
  refine ⟨_, rfl, st, 17, rfl, gr.ok, by decide, by decide, fun m H1 m0 m1 g1 => ⟨m, rfl, by omega, by omega, ?_⟩⟩
  refine for_range (n := (m : Int).toNat) (fun i => ThI st H0 (4 + i) (2776 + 8 * i) 4) ⟨⟨lf, p, w, th, k, vs, ts, rfl, g1.1 _ _ np hp, r.grow g1 gr.ok, tr, hw, hl, np, fr⟩, gr.trans g1⟩ ?_ ?_
  · rintro i σ H2 hi ⟨⟨lf, p, w, th, k, vs, ts, rfl, hp, r, tr, hw, hl, np, fr⟩, gr⟩
    refine ⟨_, rfl, p, vs, rfl, .inl ⟨SqL.of hp, fun q hq => ⟨small (by show 1 ≤ 1000000; decide), fun u hu => ?_⟩⟩⟩
    have e1 := same_new hq (.tup vs)
    have e2 := same_new hu (.lst [.ref q])
    have nu := fresh_st (gr.ok.same e1) hu
    refine ⟨⟨lf, u, w, th, _, [.ref q], [.tup ts], rfl, upd_same, .cons (.tup (e2 _ _ upd_same) (r.same (e1.trans e2))) .nil, fun t ht => ?_, ?_, (by show 1 ≤ 4; decide), nu, fresh_back gr (by cases e : H2 u with | none => rfl | some o => rw [e1 _ _ e] at hu; cases hu)⟩, gr.trans (grow_same gr.ok (e1.trans e2))⟩
    · rw [List.mem_singleton.mp ht]
      exact .tp tr
    · rw [pcss_one, wts_tup]
      omega
  · rintro σ H2 ⟨⟨lf, p, w, th, k, vs, ts, rfl, hp, r, tr, hw, hl, np, fr⟩, gr⟩
    exact nx' _ _ ⟨⟨lf, p, w, th, k, vs, ts, rfl, hp, r, fun t ht => (tr t ht).mono (by omega), by omega, hl, np, fr⟩, gr⟩
theorem ps_T4 (mr : mg "range" = none) (hr : Room 10 (XT P w K mg base f cdv A outer s H E).A) (h1 : Has P w K mg base 5 "_law_atom" ["_law_state"] spAt) :
    PS (XT P w K mg base f cdv A outer s H E) (stT 4) (tInv (ThI st H0 20 2904 4) (ThI st H0 20 3098 5)) := by
  unfold stT
  refine ps_inv (ps_if (pt_cmpR op_eq (pv 3) pe_int) (pss_cons (pset 4 sc_things.nd (pe_tup (pa_cons (pcall h1 hr (by decide) rfl (pa_cons (pv 0) pa_nil)) pa_nil)))
    (pss_cons (ps_for PassesOwn.never rfl (pi_range1 rfl mr (pa_cons pe_int pa_nil)) (pg_name (i := 5) sc_things.nd rfl (Or.inl rfl)) (pss_one (pset 4 sc_things.nd (pe_tup (pa_cons (pv 4) pa_nil)))))
    (pss_one (ps_expr (papp K (pv 2) (pa_cons (pv 4) pa_nil)))))) pss_nil) ?_
  rintro D σ H' ⟨⟨lf, p, w, th, k, vs, ts, rfl, hp, r, tr, hw, hl, np, fr⟩, gr⟩ nx'
  refine ⟨_, rfl, rfl, _, rfl, ite2 (fun _ => ?_) (fun _ => nx' _ _ ⟨⟨lf, p, w, th, k, vs, ts, rfl, hp, r, tr, by omega, by omega, np, fr⟩, gr⟩)⟩
  refine ⟨_, rfl, st, rfl, gr.ok, fun v t H1 a rv g1 => ⟨small (by show 1 ≤ 1000000; decide), fun q hq => ?_⟩⟩
  have e1 := same_new hq (.tup [v])
  refine ⟨19, rfl, by decide, by decide, ?_⟩
  refine for_range (n := (19 : Int).toNat) (fun i σ H2 => ∃ (x : V) (t : T) (k : Option V), σ = [some (.ref st), some (.ref lf), some (.ref p), some (.int w), some x, k] ∧ Rep H2 x t ∧ Tr (1 + i) t ∧ wts (pcs t) ≤ 42 + 8 * i ∧ H2 p = some (.lst vs) ∧ Reps H2 vs ts ∧ Grow st H0 H2) ⟨.ref q, .tup [t], k, rfl, .tup upd_same (.cons (rv.same e1) .nil), .tp fun x hx => by rw [List.mem_singleton.mp hx]; exact .at a, by rw [wts_tup, pcss_one]; have := wts_at a; omega, e1 _ _ (g1.1 _ _ np hp), (r.grow g1 gr.ok).same e1, (gr.trans g1).trans (grow_new g1.ok hq)⟩ ?_ ?_
  · rintro i σ H2 hi ⟨x, t, k, rfl, rx, tx, wx, hp2, r2, g2⟩
    refine ⟨_, rfl, small (by show 1 ≤ 1000000; decide), fun u hu => ?_⟩
    have e2 := same_new hu (.tup [x])
    exact ⟨.ref u, .tup [t], _, rfl, .tup upd_same (.cons (rx.same e2) .nil), (show 1 + (i + 1) = (1 + i) + 1 by omega) ▸ .tp fun y hy => by rw [List.mem_singleton.mp hy]; exact tx, by rw [wts_tup, pcss_one]; omega, e2 _ _ hp2, r2.same e2, g2.trans (grow_new g2.ok hu)⟩
  · rintro σ H2 ⟨x, t, k, rfl, rx, tx, wx, hp2, r2, g2⟩
    refine ⟨_, rfl, .inl ⟨rfl, _, SqL.of hp2⟩, _, rfl, p, vs, x, rfl, rfl, hp2, small' (by omega), ?_⟩
    have kt : ∀ b xs, H2 b = some (.tup xs) → upd H2 p (.lst (vs ++ [x])) b = some (.tup xs) := fun b xs h => by rw [upd_ne (fun e => by rw [e, hp2] at h; cases h)]; exact h
    have wx' : wts (pcs t) ≤ 42 + 8 * 19 := wx
    refine nx' _ _ ⟨⟨lf, p, w, some x, k, vs ++ [x], ts ++ [t], rfl, upd_same, (r2.mono kt).snoc (rx.mono kt), fun y hy => ?_, by rw [pcss_snoc, wts_app]; omega, by simp; omega, np, fr⟩, grow_upd g2 fr np⟩
    · rcases List.mem_append.mp hy with h | h
      · exact tr y h
      · rw [List.mem_singleton.mp h]; exact tx.mono (by decide)
theorem ps_T5 (mr : mg "range" = none) (mt : mg "tuple" = none) (hr : Room 10 (XT P w K mg base f cdv A outer s H E).A) (h0 : Has P w K mg base 1 "_law_next" ["_law_state", "_law_many"] spNext) (h1 : Has P w K mg base 5 "_law_atom" ["_law_state"] spAt) :
    PS (XT P w K mg base f cdv A outer s H E) (stT 5) (tInv (ThI st H0 20 3098 5) (ThI st H0 20 3990 6)) := by
  unfold stT
  refine ps_inv (ps_if (pt_cmpR op_eq (pv 3) pe_int) (pss_one (ps_expr (papp K (pv 2) (pa_cons (pe_callTy (ctup K) rfl mt boot_tuple (pa_cons (pe_lc (defScope s_things) nT ["_law_state"] [0] (by decide +kernel)
    (pi_range1 rfl mr (pa_cons (pe_op op_add pe_int (pcall h0 hr (by decide) rfl (pa_cons (pv 0) (pa_cons pe_int pa_nil)))) pa_nil)) (fun C s₀ H₀ ex => pts_nil) (fun C s₀ H₀ ex => pcall h1 hr (by decide) rfl (pa_cons (pv 1) pa_nil))) pa_nil)) pa_nil)))) pss_nil) ?_
  rintro D σ H' ⟨⟨lf, p, w, th, k, vs, ts, rfl, hp, r, tr, hw, hl, np, fr⟩, gr⟩ nx'
  refine ⟨_, rfl, rfl, _, rfl, ite2 (fun _ => ?_) (fun _ => nx' _ _ ⟨⟨lf, p, w, th, k, vs, ts, rfl, hp, r, tr, by omega, by omega, np, fr⟩, gr⟩)⟩
  refine ⟨_, rfl, .inl ⟨rfl, _, SqL.of hp⟩, _, rfl, st, 20, rfl, gr.ok, by decide, by decide, fun m H1 m0 m1 g1 => ⟨7, m, rfl, rfl, 7 + m, rfl, by omega, by omega, ?_⟩⟩
  refine atoms_comp (m := (7 + m : Int).toNat) g1.ok (by omega) rfl fun q us us' H2 g2 hq nq hq2 rq aq lq => ?_
  refine ⟨q, us, rfl, .inl ⟨SqL.of hq2, fun u hu => ?_⟩⟩
  have hp2 := g2.1 _ _ np (g1.1 _ _ np hp)
  have e1 := same_new hu (.tup us)
  have hp3 := e1 _ _ hp2
  refine ⟨p, vs, .ref u, rfl, rfl, hp3, small' (by omega), ?_⟩
  have kt : ∀ b xs, (upd H2 u (.tup us)) b = some (.tup xs) → upd (upd H2 u (.tup us)) p (.lst (vs ++ [.ref u])) b = some (.tup xs) := fun b xs h => by rw [upd_ne (fun e => by rw [e, hp3] at h; cases h)]; exact h
  have r2 := (((r.grow g1 gr.ok).grow g2 g1.ok).same e1).mono kt
  have wa := wts_atoms aq
  refine nx' _ _ ⟨⟨lf, p, w, th, k, vs ++ [.ref u], ts ++ [.tup us'], rfl, upd_same, r2.snoc (.tup (kt _ _ upd_same) ((rq.same e1).mono kt)), fun y hy => ?_, by rw [pcss_snoc, wts_app, wts_tup]; omega, by simp; omega, np, fr⟩, grow_upd (((gr.trans g1).trans g2).trans (grow_new g2.ok hu)) fr np⟩
  rcases List.mem_append.mp hy with h | h
  · exact tr y h
  · rw [List.mem_singleton.mp h]
    exact Tr.mono (.tp (n := 0) fun x hx => .at (aq x hx)) (by decide)
theorem ps_T6 (mr : mg "range" = none) (hr : Room 10 (XT P w K mg base f cdv A outer s H E).A) (h0 : Has P w K mg base 1 "_law_next" ["_law_state", "_law_many"] spNext) (h1 : Has P w K mg base 5 "_law_atom" ["_law_state"] spAt) :
    PS (XT P w K mg base f cdv A outer s H E) (stT 6) (tInv (ThI st H0 20 3990 6) (ThI st H0 20 4874 32)) := by
  unfold stT
  refine ps_inv (ps_if (pt_cmpR op_eq (pv 3) pe_int) (pss_one (pset 2 sc_things.nd (pe_op op_cat (pv 2) (pe_lc (defScope s_things) nT ["_law_state"] [0] (by decide +kernel)
    (pi_range1 rfl mr (pa_cons (pe_op op_add pe_int (pcall h0 hr (by decide) rfl (pa_cons (pv 0) (pa_cons pe_int pa_nil)))) pa_nil)) (fun C s₀ H₀ ex => pts_nil) (fun C s₀ H₀ ex => pcall h1 hr (by decide) rfl (pa_cons (pv 1) pa_nil)))))) pss_nil) ?_
  rintro D σ H' ⟨⟨lf, p, w, th, k, vs, ts, rfl, hp, r, tr, hw, hl, np, fr⟩, gr⟩ nx'
  refine ⟨_, rfl, rfl, _, rfl, ite2 (fun _ => ?_) (fun _ => nx' _ _ ⟨⟨lf, p, w, th, k, vs, ts, rfl, hp, r, tr, by omega, by omega, np, fr⟩, gr⟩)⟩
  refine ⟨_, rfl, _, rfl, st, 20, rfl, gr.ok, by decide, by decide, fun m H1 m0 m1 g1 => ⟨7, m, rfl, rfl, 7 + m, rfl, by omega, by omega, ?_⟩⟩
  refine atoms_comp (m := (7 + m : Int).toNat) g1.ok (by omega) rfl fun q us us' H2 g2 hq nq hq2 rq aq lq => ?_
  have hp2 := g2.1 _ _ np (g1.1 _ _ np hp)
  have lu := rq.length
  refine ⟨p, q, vs, us, rfl, rfl, hp2, hq2, small (by omega), fun u hu => ?_⟩
  have e1 := same_new hu (.lst (vs ++ us))
  have gg := (gr.trans g1).trans g2
  have r2 := (((r.grow g1 gr.ok).grow g2 g1.ok).same e1)
  have wa := wts_atoms aq
  refine nx' _ _ ⟨⟨lf, u, w, th, k, vs ++ us, ts ++ us', rfl, upd_same, r2.append (rq.same e1), fun y hy => ?_, by rw [pcss_app, wts_app]; omega, by rw [List.length_append]; omega, fresh_st g2.ok hu, fresh_back gg hu⟩, gg.trans (grow_new g2.ok hu)⟩
  rcases List.mem_append.mp hy with h | h
  · exact tr y h
  · exact .at (aq y h)
inductive spThs2 (vs : List V) (H : Hp) (Q : VK) (E_ : XK) : Prop where
  | mk (st : Addr) : vs = [.ref st] → StOk H st → (∀ v ts H', Rep H' v (.tup ts) → (∀ t ∈ ts, Tr 20 t) → wts (pcss ts) ≤ 4874 → ts.length ≤ 32 → Grow st H H' → Q v H') → spThs2 vs H Q E_
theorem ok_things (F : Fun K "_law_things" "_law_things" s_things f fd) (mr : mg "range" = none) (mt : mg "tuple" = none) (h0 : Has P w K mg base 1 "_law_next" ["_law_state", "_law_many"] spNext) (h1 : Has P w K mg base 5 "_law_atom" ["_law_state"] spAt)
    (h2 : Has P w K mg base 11 "_law_thing" ["_law_state", "_law_deep", "_law_left"] (spThg 4)) : FnOk P w K mg base CX0 12 f fd ["_law_state"] spThs2 := by
  refine F.ok sc_things (fun cdv A outer s H vs Q E hr h => ?_)
  obtain ⟨st, rfl, hs, q⟩ := h
  have hr' : Room 10 (XT P w K mg base f cdv A outer s H E).A := hr.mono (by decide)
  rw [bodyT]
  refine ⟨_, pss_cons (t := tAsg (tLst (tCons (tC (.int 24)) tNil)) (gName 1)) (by unfold stT; exact ps_set (i := 1) sc_things.nd rfl (Or.inr rfl) (pe_lst (pa_cons pe_int pa_nil)))
    (pss_cons (t := tAsg (tComp [0, 1] (iRng1 (tCons (tCall spNext [] E0 (tCons (tVar 0) (tCons (tC (.int 5)) tNil))) tNil)) tTrue (tCall (spThg 4) [] E0 (tCons (tVar 1) (tCons (tC (.int 4)) (tCons (tVar 2) tNil))))) (gName 2))
      (by unfold stT; exact ps_lc (defScope s_things) nT ["_law_state", "_law_left"] [0, 1] (by decide +kernel) (pi_range1 rfl mr (pa_cons (pcall h0 hr (by decide) rfl (pa_cons (pv 0) (pa_cons pe_int pa_nil))) pa_nil)) (pg_name (i := 2) sc_things.nd rfl (Or.inl rfl)) (fun C s₀ H₀ ex => pts_nil) (fun C s₀ H₀ ex => pcall h2 hr (by decide) rfl (pa_cons (pv 1) (pa_cons pe_int (pa_cons (pv 2) pa_nil)))) rfl)
    (pss_cons (t := tAsg (tCall spNext [] E0 (tCons (tVar 0) (tCons (tC (.int 6)) tNil))) (gName 3)) (by unfold stT; exact pset 3 sc_things.nd (pcall h0 hr (by decide) rfl (pa_cons (pv 0) (pa_cons pe_int pa_nil))))
    (pss_cons (ps_T3 (st := st) (H0 := H) mr mt hr' h0) (pss_cons (ps_T4 (st := st) (H0 := H) mr hr' h1) (pss_cons (ps_T5 (st := st) (H0 := H) mr mt hr' h0 h1) (pss_cons (ps_T6 (st := st) (H0 := H) mr hr' h0 h1)
    (pss_one (t := tRet (tCB (r_call_tuple_of K) (tCons (tVar 2) tNil))) (by unfold stT; exact ps_ret (pe_callTy (ctup K) rfl mt boot_tuple (pa_cons (pv 2) pa_nil)))))))))), ?_⟩
  refine ⟨small (by show 1 ≤ 1000000; decide), fun lf hlf => ?_⟩
  have nlf := fresh_st hs hlf
  have s1 := same_new hlf (.lst [.int 24])
  have d1 : Lf st lf 24 (upd H lf (.lst [.int 24])) := ⟨nlf.symm, hs.same s1, upd_same⟩
  refine ⟨_, rfl, st, 5, rfl, d1.st, by decide, by decide, fun m H1 m0 m5 g1 => ⟨m, rfl, by omega, by omega, ?_⟩⟩
  refine comp_range (n := (m : Int).toNat) (fun i vs H' => ∃ ts l', Reps H' vs ts ∧ ts.length = i ∧ (∀ t ∈ ts, Tr 4 t) ∧ wts (pcss ts) + 110 * (l' : Int).toNat ≤ 34 * i + 2640 ∧ Lf st lf l' H' ∧ GrowL st lf H H') ⟨[], 24, .nil, rfl, (fun _ h => by cases h), by simp [pcss, wts], d1.grow g1, (gl_same s1).trans (gl_of g1)⟩ ?_ ?_ ?_
  · rintro i vs H' hi ⟨ts, l', hr1, hl, _⟩
    exact small' (by rw [hr1.length, hl]; omega)
  · rintro i vs H' hi ⟨ts, l', hr1, hl, ht, hw, d', g'⟩
    refine tt1 (iteT ⟨_, rfl, _, rfl, st, lf, l', rfl, d', fun v t l2 H4 tr rv hw2 d4 g4 => nx hi ⟨ts ++ [t], l2, (hr1.mono (d'.tups g4)).snoc rv, by simp [hl], fun x hx => ?_, ?_, d4, g'.trans g4⟩⟩)
    · rcases List.mem_append.mp hx with h | h
      · exact ht x h
      · rw [List.mem_singleton.mp h]; exact tr
    · rw [pcss_snoc, wts_app]
      omega
  · rintro vs H' ⟨ts, l', hr1, hl, ht, hw, d', g'⟩ b hb
    have e1 := same_new hb (.lst vs)
    have gr : Grow st H H' := ⟨fun c o hc e => g' c o hc (fun q => by rw [q, hlf] at e; cases e) e, d'.st⟩
    have gr2 := gr.trans (grow_new (o := .lst vs) gr.ok hb)
    refine ⟨_, rfl, st, 6, rfl, gr2.ok, by decide, by decide, fun w6 H3 w0 w1 g3 => ?_⟩
    have nb := fresh_st gr.ok hb
    have lv := hr1.length
    refine ⟨⟨⟨lf, b, w6, none, none, vs, ts, rfl, g3.1 _ _ nb upd_same, (hr1.same e1).grow g3 gr2.ok, ht, by omega, by omega, nb, fresh_back gr hb⟩, gr2.trans g3⟩, fun σ' H4 i3 => ⟨i3, fun σ' H5 i4 => ⟨i4, fun σ' H6 i5 => ⟨i5, fun σ' H7 i6 => ?_⟩⟩⟩⟩
    obtain ⟨⟨lf, p, w, th, k, vs, ts, rfl, hp, r, tr, hw, hl, np, fr⟩, gr⟩ := i6
    refine ⟨_, rfl, p, vs, rfl, .inl ⟨SqL.of hp, fun u hu => ?_⟩⟩
    have e2 := same_new hu (.tup vs)
    have lr := r.length
    exact q _ ts _ (.tup upd_same (r.same e2)) tr hw (by omega) (gr.trans (grow_new gr.ok hu))
end
end Fw
set_option Elab.async false
set_option linter.all false
set_option maxRecDepth 100000
namespace Fw
open PySem PySem.Spec PyProof.Rows L2
abbrev s_pc : Stmt := top 96
theorem call_strS {X : Cx} : CallR X (.type "str") (fun xs H Q => ∃ z, xs = [.str z] ∧ Q (.str z) H) := by
  intro pins s σ H xs us Q I r h
  obtain ⟨z, rfl, q⟩ := h
  obtain ⟨u, rfl, t, rfl⟩ := vals1 r
  exact PySem.P.str_of_str ⟨.str z, H, I, ⟨_, rfl⟩, q⟩
inductive spPc (n : Nat) (vs : List V) (H : Hp) (Q : VK) (E_ : XK) : Prop where
  | mk (v : V) (t : T) : vs = [v] → Rep H v t → Tr n t → wts (pcs t) ≤ 5000 → (∀ p H', Same H H' → H p = none → H' p = some (.lst ((pcs t).map V.str)) → Q (.ref p) H') → spPc n vs H Q E_
def spPcN : Nat → Sp
  | 0 => fun _ _ _ _ => False
  | n + 1 => spPc n
theorem wts_len (l : List Str) : 3 * l.length ≤ wts l := by
  induction l with
  | nil => simp [wts]
  | cons a l ih =>
    rw [wts_cons, List.length_cons]
    unfold wt
    omega
theorem Reps.get {H : Hp} {vs : List V} {ts : List T} (r : Reps H vs ts) {i : Nat} {v : V} (h : vs[i]? = some v) : ∃ t, ts[i]? = some t ∧ Rep H v t := by
  induction vs generalizing ts i with
  | nil => cases h
  | cons a vs ih =>
    cases r with
    | cons r1 r2 =>
      cases i with
      | zero => cases h; exact ⟨_, rfl, r1⟩
      | succ i => exact ih r2 h
section
variable {P : Program} {w : World} {K : PySem.W.Frag} {mg : Str → Option Value} {base : Heap} {f : Addr} {fd : FuncData}
theorem sc_pc : FnScope ["_law_thing_here", "_law_pieces_here", "_law_part"] ["_law_thing_here"] (defScope s_pc) := ⟨rfl, rfl, rfl, by decide +kernel, rfl, by decide +kernel, by decide +kernel⟩
theorem ok_pc {n : Nat} (F : Fun K "_law_pieces" "_law_pieces" s_pc f fd) (mi : mg "isinstance" = none) (mt : mg "tuple" = none) (ms : mg "str" = none) (h2 : Has P w K mg base n "_law_pieces" ["_law_thing_here"] (spPcN n)) : FnOk P w K mg base CX0 (n + 1) f fd ["_law_thing_here"] (spPc n) := by
  refine F.ok sc_pc (fun cdv A outer s H vs Q E hr h => ?_)
  obtain ⟨v, t, rfl, rt, tr, hw, q⟩ := h
  refine ⟨_, pss_cons (ps_if (pt_not (pt_val (pe_callB call_isi rfl mi boot_isinstance (pa_cons (pv 0) (pa_cons (pe_bltn (v := .ty "tuple") rfl mt boot_tuple rfl) pa_nil)))))
      (pss_one (ps_ret (pe_lst (pa_cons (pe_callTy (call_str_int.or call_strS) rfl ms boot_str (pa_cons (pv 0) pa_nil)) pa_nil)))) pss_nil)
    (pss_cons (pset 1 sc_pc.nd (pe_lst (pa_cons pe_str pa_nil)))
    (pss_cons (ps_for PassesOwn.never rfl (piT K (pv 0)) (pg_name (i := 2) sc_pc.nd rfl (Or.inl rfl)) (pss_one (ps_expr (pe_bm PySem.F.plainAttrs_list PySem.F.slot_list_extend PySem.F.type_list_extend mt_extend (pv 1) (pa_cons (pcall h2 hr (Nat.le_refl _) rfl (pa_cons (pv 2) pa_nil)) pa_nil)))))
    (pss_one (ps_ret (pe_op op_cat (pv 1) (pe_lst (pa_cons pe_str pa_nil)))))))  , ?_⟩
  refine ⟨_, rfl, _, _, _, _, rfl, rep_ty rt, kit_tup K t, _, rfl, ?_⟩
  cases rt with
  | int i =>
    cases tr with
    | «at» A =>
      refine iteT ⟨_, rfl, .inl ⟨i, rfl, A.lg i rfl, small (by show 1 ≤ 1000000; decide), fun p hp => ?_⟩⟩
      refine q p _ (same_new hp _) hp ?_
      rw [upd_same, pcs_at A]
      rfl
  | str z hz =>
    cases tr with
    | «at» A =>
      refine iteT ⟨_, rfl, .inr ⟨z, rfl, small (by show 1 ≤ 1000000; decide), fun p hp => ?_⟩⟩
      refine q p _ (same_new hp _) hp ?_
      rw [upd_same, pcs_at A]
      rfl
  | @tup a vs ts ha r =>
    cases tr with
    | «at» A => exact absurd rfl (A.nt ts)
    | @tp n _ tr =>
    rw [wts_tup] at hw
    have wi : ∀ i, wts (pcss (ts.take i)) ≤ wts (pcss ts) := fun i => by
      have e : pcss ts = pcss (ts.take i) ++ pcss (ts.drop i) := by rw [← pcss_app, List.take_append_drop]
      rw [e, wts_app]
      omega
    refine iteF ⟨small (by show 1 ≤ 1000000; decide), fun l hl => ?_⟩
    have al : a ≠ l := fun e => by rw [e, hl] at ha; cases ha
    have s1 := same_new hl (.lst [.str "("])
    have lv := r.length
    refine ⟨_, rfl, a, rfl, ⟨_, SqT.of (s1 _ _ ha)⟩, ?_⟩
    refine for_tup (xs := vs) (fun i σ H' => (∃ k, σ = [some (.ref a), some (.ref l), k]) ∧ H' l = some (.lst ((("(" : Str) :: pcss (ts.take i)).map V.str)) ∧ Same H H') ⟨⟨_, rfl⟩, upd_same, s1⟩ ?_ ?_ ?_
    · rintro i σ H' hi ⟨_, _, e⟩
      exact SqT.of (e _ _ ha)
    · rintro i x σ H' hx ⟨⟨k, rfl⟩, hl', e⟩
      obtain ⟨t', ht', rx⟩ := r.get hx
      have hm : t' ∈ ts := List.mem_of_getElem? ht'
      have tk : ts.take (i + 1) = ts.take i ++ [t'] := by rw [List.take_add_one, ht']; rfl
      have w1 := wi (i + 1)
      rw [tk, pcss_snoc, wts_app] at w1
      refine ⟨_, rfl, .inl ⟨rfl, _, SqL.of hl'⟩, _, rfl, ?_⟩
      refine ⟨x, t', rfl, rx.same e, tr t' hm, by omega, fun p H2 e2 hp hp2 => ?_⟩
      have lp : l ≠ p := fun z => by rw [← z, hl'] at hp; cases hp
      have b1 := wts_len (pcss (ts.take i))
      have b2 := wts_len (pcs t')
      refine ⟨l, p, _, _, rfl, rfl, e2 _ _ hl', hp2, small (by simp only [List.length_map, List.length_cons]; omega), ⟨_, rfl⟩, ?_, fun b o h => ?_⟩
      · rw [upd_same, tk, pcss_snoc, ← List.map_append]
        rfl
      · rw [upd_ne (fun z => by rw [z, hl] at h; cases h)]
        exact e2 _ _ (e _ _ h)
    · rintro σ H' ⟨⟨k, rfl⟩, hl', e⟩
      rw [lv, List.take_length] at hl'
      refine ⟨_, rfl, small (by show 1 ≤ 1000000; decide), fun m hm => ?_⟩
      have lm : l ≠ m := fun z => by rw [← z, hl'] at hm; cases hm
      have b1 := wts_len (pcss ts)
      refine ⟨l, m, _, _, rfl, rfl, by rw [upd_ne lm]; exact hl', upd_same, small (by simp only [List.length_map, List.length_cons, List.length_nil]; omega), fun p hp => ?_⟩
      have e3 := (e.trans (same_new hm (.lst [.str ")"]))).trans (same_new hp (.lst ((("(" : Str) :: pcss ts).map V.str ++ [.str ")"])))
      refine q p _ e3 ?_ ?_
      · cases h : H p with
        | none => rfl
        | some o => rw [same_new hm _ _ _ (e _ _ h)] at hp; cases hp
      · rw [upd_same, pcs, List.map_cons, List.map_cons, List.map_append]
        rfl
theorem pc_all (F : Fun K "_law_pieces" "_law_pieces" s_pc f fd) (mi : mg "isinstance" = none) (mt : mg "tuple" = none) (ms : mg "str" = none) (hb : Binds K fd ["_law_thing_here"] []) (hk : PySem.W.keepIn K (.ref f) = true) (hm : mg "_law_pieces" = some (.ref f)) (n : Nat) : Has P w K mg base n "_law_pieces" ["_law_thing_here"] (spPcN n) := by
  induction n with
  | zero => exact ⟨f, fd, ⟨fun _ _ _ _ h => h.elim, fun _ _ _ _ _ _ _ _ _ _ _ _ _ h => h.elim⟩, hb, hk, hm⟩
  | succ n ih => exact ⟨f, fd, ok_pc F mi mt ms ih, hb, hk, hm⟩
end
end Fw
set_option Elab.async false
set_option linter.all false
set_option maxRecDepth 100000
namespace Fw
open PySem PySem.Spec PyProof.Rows L2
abbrev s_gap : Stmt := top 97
abbrev s_wr : Stmt := top 98
abbrev nW : List Str := ["_law_state", "_law_pieces_here", "_law_text", "_law_ahead", "_law_least", "_law_piece"]
inductive spGap (vs : List V) (H : Hp) (Q : VK) (E_ : XK) : Prop where
  | mk (st : Addr) (n : Nat) : vs = [.ref st, .int n] → StOk H st → n ≤ 1 → (∀ g H', GapL g.cps.toList → n ≤ g.length → g.length ≤ n + 2 → Grow st H H' → Q (.str g) H') → spGap vs H Q E_
section
variable {P : Program} {w : World} {K : PySem.W.Frag} {mg : Str → Option Value} {base : Heap} {f : Addr} {fd : FuncData}
theorem sc_gap : FnScope ["_law_state", "_law_least", "_law_gap_here", "_law_k"] ["_law_state", "_law_least"] (defScope s_gap) := ⟨rfl, rfl, rfl, by decide +kernel, rfl, by decide +kernel, by decide +kernel⟩
theorem ok_gap (F : Fun K "_law_gap" "_law_gap" s_gap f fd) (mr : mg "range" = none) (h0 : Has P w K mg base 1 "_law_next" ["_law_state", "_law_many"] spNext) : FnOk P w K mg base CX0 2 f fd ["_law_state", "_law_least"] spGap := by
  refine F.ok sc_gap (fun cdv A outer s H vs Q E hr h => ?_)
  obtain ⟨st, n, rfl, hs, hn, q⟩ := h
  refine ⟨_, pss_cons (pset 2 sc_gap.nd pe_str)
    (pss_cons (ps_for PassesOwn.never rfl (pi_range1 rfl mr (pa_cons (pe_op op_add (pv 1) (pe_ix (ixL K) (pe_lst (pa_cons pe_int (pa_cons pe_int (pa_cons pe_int (pa_cons pe_int (pa_cons pe_int pa_nil)))))) (pcall h0 hr (by decide) rfl (pa_cons (pv 0) (pa_cons pe_int pa_nil))))) pa_nil)) (pg_name (i := 3) sc_gap.nd rfl (Or.inl rfl))
      (pss_one (ps_aug (i := 2) sc_gap.nd rfl (Or.inl rfl) (pe_ix ix_str pe_str (pcall h0 hr (by decide) rfl (pa_cons (pv 0) (pa_cons pe_int pa_nil))) (fun _ _ => rfl)) iop_add_str)))
    (pss_one (ps_ret (pv 2)))), ?_⟩
  refine ⟨_, rfl, small (by show 5 ≤ 1000000; decide), fun l hl => ⟨_, rfl, st, 5, rfl, hs.same (same_new hl _), by decide, by decide, fun d H1 d0 d1 g1 => ?_⟩⟩
  have nl := fresh_st hs hl
  have gg : Grow st H H1 := (grow_new hs hl).trans g1
  have hl1 := g1.1 _ _ nl upd_same
  have hat : ∃ m : Nat, m ≤ 2 ∧ atI [V.int 0, .int 0, .int 0, .int 1, .int 2] d = some (.int m) := by
    have : d = 0 ∨ d = 1 ∨ d = 2 ∨ d = 3 ∨ d = 4 := by omega
    rcases this with rfl | rfl | rfl | rfl | rfl
    · exact ⟨0, by decide, rfl⟩
    · exact ⟨0, by decide, rfl⟩
    · exact ⟨0, by decide, rfl⟩
    · exact ⟨1, by decide, rfl⟩
    · exact ⟨2, by decide, rfl⟩
  obtain ⟨m, hm, hat⟩ := hat
  refine ⟨l, _, d, .int m, rfl, rfl, SqL.of hl1, hat, n, m, rfl, rfl, (n : Int) + m, rfl, by omega, by omega, ?_⟩
  refine for_range (n := ((n : Int) + m).toNat) (fun i σ H' => ∃ (z : Str) (o : Option V), σ = [some (.ref st), some (.int n), some (.str z), o] ∧ GapL z.cps.toList ∧ z.length = i ∧ Grow st H H') ⟨"", none, rfl, (by rw [show ("" : Str).cps.toList = [] by decide +kernel]; intro c hc; cases hc), by decide +kernel, gg⟩ ?_ ?_
  · rintro i σ H' hi ⟨z, o, rfl, hz, hl, g⟩
    refine ⟨_, rfl, _, rfl, st, 2, rfl, g.ok, by decide, by decide, fun e H2 e0 e1 g2 => ?_⟩
    obtain ⟨c, hc, hc2⟩ : ∃ c, atI (" \n" : Str).cps.toList e = some c ∧ (c = 32 ∨ c = 10) := by
      rw [show (" \n" : Str).cps.toList = [32, 10] by decide +kernel]
      have : e = 0 ∨ e = 1 := by omega
      rcases this with rfl | rfl
      · exact ⟨32, rfl, .inl rfl⟩
      · exact ⟨10, rfl, .inr rfl⟩
    have l1 : (z ++ ⟨#[c]⟩ : Str).length = z.length + 1 := len_app _ _
    refine ⟨" \n", e, c, rfl, rfl, small (by rw [show (" \n" : Str).length = 2 by decide +kernel]; decide), hc, z, ⟨#[c]⟩, rfl, rfl, small (by show z.length + 1 ≤ 1000000; omega), ?_⟩
    refine ⟨z ++ ⟨#[c]⟩, _, rfl, ?_, by omega, g.trans g2⟩
    rw [cps_app]
    intro x hx
    rcases List.mem_append.mp hx with h | h
    · exact hz x h
    · have : x = c := by simpa using h
      rw [this]; exact hc2
  · rintro σ H' ⟨z, o, rfl, hz, hl, g⟩
    exact ⟨_, rfl, q z H' hz (by omega) (by omega) g⟩
def brL : List Str := ["(", ")"]
def isBr (p : Str) : Bool := decide (p ∈ brL)
structure PcOk (p : Str) : Prop where
  ok : isBr p = true ∨ (isBr p = false ∧ Clean p.cps.toList ∧ p.cps.toList ≠ [])
inductive spWr (vs : List V) (H : Hp) (Q : VK) (E_ : XK) : Prop where
  | mk (st pl : Addr) (ps : List Str) : vs = [.ref st, .ref pl] → StOk H st → pl ≠ st → H pl = some (.lst (ps.map V.str)) → (∀ p ∈ ps, PcOk p) → wts ps ≤ 5800 → (∀ z H', Opn z.cps.toList (ps.map (·.cps.toList)) → z.length ≤ wts ps + 4 → Grow st H H' → Q (.str z) H') → spWr vs H Q E_
def tLeast : TE := fun σ H Q => ∃ (a b : V) (z ah p : Str) (ls : Option V), σ = [some a, some b, some (.str z), some (.str ah), ls, some (.str p)] ∧ ∀ (n : Nat) H', Same H H' → n ≤ 1 → (isBr ah = false → isBr p = false → n = 1) → Q (.int n) H'
theorem brs : [V.str "(", V.str ")"] = brL.map V.str := rfl
theorem sc_wr : FnScope nW ["_law_state", "_law_pieces_here"] (defScope s_wr) := ⟨rfl, rfl, rfl, by decide +kernel, rfl, by decide +kernel, by decide +kernel⟩
theorem ok_wr (F : Fun K "_law_written" "_law_written" s_wr f fd) (mi : mg "int" = none) (h1 : Has P w K mg base 2 "_law_gap" ["_law_state", "_law_least"] spGap) : FnOk P w K mg base CX0 3 f fd ["_law_state", "_law_pieces_here"] spWr := by
  refine F.ok sc_wr (fun cdv A outer s H vs Q E hr h => ?_)
  obtain ⟨st, pl, ps, rfl, hs, np, hp, ok, hw, q⟩ := h
  refine ⟨_, pss_cons (pset 2 sc_wr.nd (pcall h1 hr (by decide) rfl (pa_cons (pv 0) (pa_cons pe_int pa_nil))))
    (pss_cons (pset 3 sc_wr.nd pe_str)
    (pss_cons (ps_for PassesOwn.never rfl (piL K (pv 1)) (pg_name (i := 5) sc_wr.nd rfl (Or.inl rfl))
      (pss_cons (pset 4 sc_wr.nd (pe_weak (t' := tLeast) (pe_callTy call_int1 rfl mi boot_int' (pa_cons (pe_and (pe_cmpR op_notIn_seq (pv 3) (pe_tup (pa_cons pe_str (pa_cons pe_str pa_nil))) (by with_unfolding_all rfl)) (pe_one (pe_cmpR op_notIn_seq (pv 5) (pe_tup (pa_cons pe_str (pa_cons pe_str pa_nil))) (by with_unfolding_all rfl)))) pa_nil)) ?w))
      (pss_cons (ps_aug (i := 2) sc_wr.nd rfl (Or.inl rfl) (pe_op op_add_str (pcall h1 hr (by decide) rfl (pa_cons (pv 0) (pa_cons (pv 4) pa_nil))) (pv 5)) iop_add_str)
      (pss_one (pset 3 sc_wr.nd (pv 5))))))
    (pss_one (ps_ret (pe_op op_add_str (pv 2) (pcall h1 hr (by decide) rfl (pa_cons (pv 0) (pa_cons pe_int pa_nil)))))))), ?_⟩
  case w =>
    rintro σ H' Q' ⟨a, b, z, ah, p, ls, rfl, q'⟩
    refine ⟨_, rfl, small (by show 2 ≤ 1000000; decide), fun t1 h1' => ⟨t1, _, rfl, .inr (SqT.of upd_same), rfl, by rw [brs]; exact flat_strs _, _, rfl, ?_⟩⟩
    rw [if_pos rfl, brs, inV_str]
    show if (!isBr ah) = true then _ else _
    have e1 := same_new h1' (.tup (brL.map V.str))
    cases c1 : isBr ah with
    | true => exact iteF (.inr ⟨false, rfl, q' 0 _ e1 (by decide) (fun h => by rw [c1] at h; cases h)⟩)
    | false =>
      refine iteT ⟨_, rfl, small (by show 2 ≤ 1000000; decide), fun t2 h2' => ⟨t2, _, rfl, .inr (SqT.of upd_same), rfl, by rw [brs]; exact flat_strs _, ?_⟩⟩
      rw [if_pos rfl, brs, inV_str]
      have e2 := same_new h2' (.tup (brL.map V.str))
      refine .inr ⟨!isBr p, rfl, ?_⟩
      cases c2 : isBr p with
      | true => exact q' 0 _ (e1.trans e2) (by decide) (fun _ h => by rw [c2] at h; cases h)
      | false => exact q' 1 _ (e1.trans e2) (by decide) (fun _ _ => rfl)
  refine ⟨_, rfl, st, 0, rfl, hs, by decide, fun g0 H1 hg0 _ l0 gr0 => ?_⟩
  refine ⟨_, rfl, pl, rfl, ⟨_, SqL.of (gr0.1 _ _ np hp)⟩, ?_⟩
  refine for_list (xs := ps.map V.str) (fun i σ H' => ∃ (z ah : Str) (ls pc : Option V), σ = [some (.ref st), some (.ref pl), some (.str z), some (.str ah), ls, pc] ∧ (isBr ah = true → Cls z.cps.toList ((ps.take i).map (·.cps.toList))) ∧ Opn z.cps.toList ((ps.take i).map (·.cps.toList)) ∧ z.length ≤ wts (ps.take i) + 2 ∧ Grow st H H') ?_ ?_ ?_ ?_
  · have c0 := cls_nil.gap hg0
    rw [List.nil_append] at c0
    exact ⟨g0, "(", none, none, rfl, fun _ => c0, c0.opn, by simp [wts]; omega, gr0⟩
  · rintro i σ H' hi ⟨_, _, _, _, _, _, _, _, g⟩
    exact SqL.of (g.1 _ _ np hp)
  · rintro i x σ H' hx ⟨z, ah, ls, pc, rfl, hc, ho, hl, g⟩
    rw [List.getElem?_map] at hx
    cases e : ps[i]? with
    | none => rw [e] at hx; cases hx
    | some p =>
    rw [e] at hx
    cases hx
    have pok := (ok p (List.mem_of_getElem? e)).ok
    have tk : ps.take (i + 1) = ps.take i ++ [p] := by rw [List.take_add_one, e]; rfl
    have wi : wts (ps.take (i + 1)) ≤ wts ps := by
      have e2 : ps = ps.take (i + 1) ++ ps.drop (i + 1) := (List.take_append_drop _ _).symm
      conv => rhs; rw [e2, wts_app]
      omega
    rw [tk, wts_app, wts_cons, wts_nil] at wi
    unfold wt at wi
    refine ⟨_, _, z, ah, p, ls, rfl, fun n H2 e2 hn hn1 => ?_⟩
    have g2 := g.trans (grow_same g.ok e2)
    refine ⟨_, rfl, _, rfl, _, rfl, st, n, rfl, g2.ok, hn, fun gp H3 hgp l1 l2 g3 => ⟨_, rfl, gp, p, rfl, rfl, small (by omega), z, gp ++ p, rfl, rfl, small (by rw [len_app]; omega), ?_⟩⟩
    have ez : (z ++ (gp ++ p) : Str).cps.toList = z.cps.toList ++ gp.cps.toList ++ p.cps.toList := by rw [cps_app, cps_app, List.append_assoc]
    have em : (ps.take (i + 1)).map (·.cps.toList) = (ps.take i).map (·.cps.toList) ++ [p.cps.toList] := by rw [tk, List.map_append]; rfl
    have lz : (z ++ (gp ++ p) : Str).length ≤ wts (ps.take (i + 1)) + 2 := by
      rw [len_app, len_app, tk, wts_app, wts_cons, wts_nil]
      unfold wt
      omega
    have og : Opn (z.cps.toList ++ gp.cps.toList) ((ps.take i).map (·.cps.toList)) := ho.gap hgp
    refine ⟨_, rfl, z ++ (gp ++ p), p, _, _, rfl, ?_⟩
    rw [ez, em]
    rcases pok with hb | ⟨hb, hcl, hne⟩
    · have hcls : Cls (z.cps.toList ++ gp.cps.toList ++ p.cps.toList) ((ps.take i).map (·.cps.toList) ++ [p.cps.toList]) := by
        have : p = "(" ∨ p = ")" := by
          have := of_decide_eq_true hb
          unfold brL at this
          simpa using this
        rcases this with rfl | rfl
        · rw [lb_cps]; exact og.lb
        · rw [rb_cps]; exact og.rb
      exact ⟨fun _ => hcls, hcls.opn, lz, g2.trans g3⟩
    · refine ⟨(fun h => by rw [hb] at h; cases h), ?_, lz, g2.trans g3⟩
      refine Cls.word ?_ hcl hne
      cases c1 : isBr ah with
      | true => exact (hc c1).gap hgp
      | false =>
        have := hn1 c1 hb
        exact ho.gap1 hgp (by rw [len_toList]; omega)
  · rintro σ H' ⟨z, ah, ls, pc, rfl, hc, ho, hl, g⟩
    rw [List.length_map, List.take_length] at ho hl
    refine ⟨_, rfl, _, rfl, st, 0, rfl, g.ok, by decide, fun g1 H2 hg1 _ l1 gr1 => ?_⟩
    have la := len_app z g1
    refine ⟨z, g1, rfl, rfl, small (by omega), ?_⟩
    refine q (z ++ g1) H2 ?_ (by omega) (g.trans gr1)
    rw [cps_app]
    exact ho.gap hg1
end
end Fw
set_option Elab.async false
set_option linter.all false
set_option maxRecDepth 100000
namespace PySem
open PyProof.Rows
namespace F
end F
section
variable {prog : Program} {w : World} {A : Around} {E : Value → Shared → Prop} {s : Shared}
end
end PySem
set_option Elab.async false
set_option linter.all false
set_option maxRecDepth 100000
namespace PySem
open PyProof.Rows
section
variable {prog : Program} {w : World} {A : Around} {E : Value → Shared → Prop} {s : Shared}
end
section
variable {prog : Program} {w : World} {A : Around} {s : Shared} {R : Result → Shared → Prop}
end
section
variable {prog : Program} {w : World} {A : Around} {E : Value → Shared → Prop} {s : Shared}
end
end PySem
set_option Elab.async false
set_option linter.all false
set_option maxRecDepth 100000
namespace L2
open PySem PySem.Spec PyProof.Rows
section
variable {X : Cx}
end
end L2
set_option Elab.async false
set_option linter.all false
set_option maxRecDepth 100000
namespace PySem
open PyProof.Rows
section
variable {prog : Program} {w : World} {A : Around} {E : Value → Shared → Prop} {s : Shared}
theorem nextOfT_item {it t : Addr} {i : Nat} {xs : Array Value} {x : Value} {Q : Value → Shared → Prop} (hit : s.heap.IsTupleIter it t i) (ht : s.heap.IsTuple t xs) (hx : xs[i]? = some x)
    (hQ : ∀ h', h'.IsTupleIter it t (i + 1) → Heap.SameBut it s.heap h' → Q x { s with heap := h' }) : wpAny (model prog w) A (Builtin.SmallTypes.nextOf (.ref it)) Q E s := by
  obtain ⟨o, ho, hc, hd⟩ := id hit
  obtain ⟨u, hu, _, n, hn⟩ := ht
  unfold Builtin.SmallTypes.nextOf
  refine wpAny_bind (wpAny_callSpecial?_slot (name := Str.ofString "__next__") hit.typeIs F.slot_tuple_iterator_next (wpAny_call_entry F.slot_tuple_iterator_next hit.typeIs F.entry_tuple_iterator_next ?_ (F.args_tuple_iterator_next_1 _)))
  show wpAny _ _ (field (.ref it) 0 >>= _) _ _ s
  refine wpAny_bind (wpAny_field ho hd (x := .ref t) rfl ?_)
  rw [if_neg (show ¬ ((Value.ref t == Value.none) = true) from Bool.false_ne_true)]
  show wpAny _ _ (field (.ref it) 1 >>= _) _ _ s
  refine wpAny_bind (wpAny_field ho hd (x := .int i 0) rfl ?_)
  show wpAny _ _ (seqItems? (.ref t) >>= _) _ _ s
  refine wpAny_bind (wpAny_seqItems hu hn ?_)
  simp only [Int.toNat_natCast, hx]
  refine wpAny_bind (wpAny_setField ho hd (by simp) (wpAny_pure ⟨x, rfl, wpAny_pure (hQ _ ⟨_, Heap.get?_update_self _ ho (Obj.isFreed_of_fields (Obj.data_mapFields hd _)), (Obj.cls_mapFields ..).trans hc, by rw [Obj.data_mapFields hd]; simp [rawInt]⟩ (Heap.SameBut.update ..))⟩))
theorem nextOfT_end {it t : Addr} {i : Nat} {xs : Array Value} {Q : Value → Shared → Prop} (hh : A.handled = none) (hit : s.heap.IsTupleIter it t i) (ht : s.heap.IsTuple t xs) (hx : xs[i]? = none)
    (hE : ∀ h' e, Heap.ExtBut it s.heap h' → (∃ o, h'.get? e = some o ∧ o.cls = .type "StopIteration") → E (.ref e) { s with heap := h' }) : wpAny (model prog w) A (Builtin.SmallTypes.nextOf (.ref it)) Q E s := by
  obtain ⟨o, ho, hc, hd⟩ := id hit
  obtain ⟨u, hu, _, n, hn⟩ := ht
  unfold Builtin.SmallTypes.nextOf
  refine wpAny_bind (wpAny_callSpecial?_slot (name := Str.ofString "__next__") hit.typeIs F.slot_tuple_iterator_next (wpAny_call_entry F.slot_tuple_iterator_next hit.typeIs F.entry_tuple_iterator_next ?_ (F.args_tuple_iterator_next_1 _)))
  show wpAny _ _ (field (.ref it) 0 >>= _) _ _ s
  refine wpAny_bind (wpAny_field ho hd (x := .ref t) rfl ?_)
  rw [if_neg (show ¬ ((Value.ref t == Value.none) = true) from Bool.false_ne_true)]
  show wpAny _ _ (field (.ref it) 1 >>= _) _ _ s
  refine wpAny_bind (wpAny_field ho hd (x := .int i 0) rfl ?_)
  show wpAny _ _ (seqItems? (.ref t) >>= _) _ _ s
  refine wpAny_bind (wpAny_seqItems hu hn ?_)
  simp only [Int.toNat_natCast, hx]
  refine wpAny_bind (wpAny_rule (wpAny_bind (wpAny_setField ho hd (by simp) ?_)))
  show wpAny _ _ (newExc (.type "StopIteration") [] >>= _) _ _ _
  refine wpAny_bind ?_
  simp only [newExc, newTuple]
  refine wpAny_bind (wpAny_newObj_type ?_ (by size_fits))
  refine wpAny_bind (m := firstArgMember _ _) (wpAny_of_eq (a := Value.none) (by first | rfl | (simp only [firstArgMember]; rfl)) ?_)
  refine wpAny_newObj_type ?_ (by size_fits)
  simp only [raiseNew]
  refine wpAny_bind (wpAny_handled ?_)
  first | rw [show A.in1.handled = none from hh] | rw [hh]
  exact wpAny_bind (wpAny_pure (wpAny_throw (hE _ _ (((Heap.SameBut.update ..).extBut.push _).push _) ⟨_, Heap.get?_push_size _ rfl, rfl⟩)))
structure ZipT (h : Heap) (z TI TO i1 i2 t1 t2 : Addr) (k : Nat) : Prop where
  nd : [z, TI, TO, i1, i2].Nodup
  zz : IsZip h z TI TO .none
  ti : IsPair h TI (.ref i1) (.ref i2)
  tO : ∃ a b, IsPair h TO a b
  j1 : h.IsTupleIter i1 t1 k
  j2 : h.IsTupleIter i2 t2 k
theorem zipT_item {z TI TO i1 i2 t1 t2 : Addr} {k : Nat} {xs ys : Array Value} {x y : Value} {Q : Option Value → Shared → Prop} (Z : ZipT s.heap z TI TO i1 i2 t1 t2 k) (n1 : t1 ∉ [z, TO, i1, i2]) (n2 : t2 ∉ [z, TO, i1, i2])
    (h1 : s.heap.IsTuple t1 xs) (h2 : s.heap.IsTuple t2 ys) (hx : xs[k]? = some x) (hy : ys[k]? = some y)
    (hQ : ∀ h', IsZip h' z TI TO (rawInt s.heap.objs.size) → IsPair h' TI (.ref i1) (.ref i2) → IsPair h' TO x y → h'.IsTupleIter i1 t1 (k + 1) → h'.IsTupleIter i2 t2 (k + 1) → IsPair h' s.heap.objs.size x y → h'.objs.size = s.heap.objs.size + 1 →
      (∀ c o, c ∉ [z, TO, i1, i2] → s.heap.get? c = some o → h'.get? c = some o) → Q (some (.ref s.heap.objs.size)) { s with heap := h' }) : wpAny (model prog w) A (pyNext (.ref z)) Q E s := by
  obtain ⟨nd, zz, ti, ⟨a, b, tO⟩, j1, j2⟩ := Z
  simp only [List.nodup_cons, List.mem_cons, List.not_mem_nil, or_false, not_or, List.nodup_nil, and_true, not_false_eq_true] at nd n1 n2
  obtain ⟨⟨zTI, zTO, z1, z2⟩, ⟨TITO, TI1, TI2⟩, ⟨TO1, TO2⟩, i12⟩ := nd
  obtain ⟨a1, a2, a3, a4⟩ := n1
  obtain ⟨b1, b2, b3, b4⟩ := n2
  have hT : s.TypeIs (.ref z) "zip" := ⟨_, zz, rfl⟩
  unfold pyNext
  refine wpAny_bind (wpAny_attempt (wpAny_callSpecial?_slot (name := Str.ofString "__next__") hT F.slot_zip_next (wpAny_call_entry F.slot_zip_next hT F.entry_zip_next ?_ (F.args_zip_next_1 _))))
  show wpAny _ _ (field (.ref z) 2 >>= _) _ _ _
  refine wpAny_bind (wpAny_field zz rfl (x := .bool false) rfl ?_)
  show wpAny _ _ (field (.ref z) 3 >>= _) _ _ _
  refine wpAny_bind (wpAny_field zz rfl (x := .ref TI) rfl (wpAny_bind (wpAny_seqItems ti rfl ?_)))
  show wpAny _ _ (Builtin.SmallTypes.ownedTupleIsFree (.ref z) >>= _) _ _ _
  refine wpAny_bind ?_
  unfold Builtin.SmallTypes.ownedTupleIsFree
  refine wpAny_bind (wpAny_field zz rfl (x := .none) rfl (wpAny_pure ?_))
  simp only [if_true]
  refine wpAny_bind (wpAny_rule (wpAny_bind (wpAny_field zz rfl (x := .ref TO) rfl (wpAny_bind (wpAny_setField_rec zz (by simp) fun g1 q1 r1 => ?_)))))
  replace q1 : IsZip g1 z TI TO .ellipsis := q1
  refine wpAny_bind ?_
  simp only [List.zipIdx_cons, List.zipIdx_nil, List.forIn_cons, List.forIn_nil]
  refine wpAny_bind (wpAny_bind (wpAny_onRaise ?_))
  show wpAny _ _ (Builtin.SmallTypes.nextOf (.ref i1) >>= _) _ _ _
  refine wpAny_bind (nextOfT_item (j1.extBut r1.extBut (Ne.symm z1)) (h1.extBut r1.extBut a1) hx fun g2 q2 r2 => wpAny_pure ?_)
  have tO2 : IsPair g2 TO a b := r2.extBut _ _ TO1 (r1.extBut _ _ (Ne.symm zTO) tO)
  refine wpAny_bind (wpAny_seqItems tO2 rfl (wpAny_bind (wpAny_updateSeq_pair tO2 fun g3 q3 r3 => ?_)))
  replace q3 : IsPair g3 TO x b := q3
  refine wpAny_bind (wpAny_letGo (wpAny_pure ?_))
  refine wpAny_bind (wpAny_bind (wpAny_onRaise ?_))
  show wpAny _ _ (Builtin.SmallTypes.nextOf (.ref i2) >>= _) _ _ _
  refine wpAny_bind (nextOfT_item (((j2.extBut r1.extBut (Ne.symm z2)).extBut r2.extBut (Ne.symm i12)).extBut r3.extBut (Ne.symm TO2)) (((h2.extBut r1.extBut b1).extBut r2.extBut b3).extBut r3.extBut b2) hy fun g4 q4 r4 => wpAny_pure ?_)
  have tO4 : IsPair g4 TO x b := r4.extBut _ _ TO2 q3
  refine wpAny_bind (wpAny_seqItems tO4 rfl (wpAny_bind (wpAny_updateSeq_pair tO4 fun g5 q5 r5 => ?_)))
  replace q5 : IsPair g5 TO x y := q5
  refine wpAny_bind (wpAny_letGo (wpAny_pure (wpAny_pure ?_)))
  refine wpAny_bind (wpAny_seqItems q5 rfl (wpAny_bind (wpAny_newTuple ?_)))
  have sz : g5.objs.size = s.heap.objs.size := by rw [r5.1, r4.1, r3.1, r2.1, r1.1]
  have kp5 : ∀ c o, c ≠ z → c ≠ TO → c ≠ i1 → c ≠ i2 → s.heap.get? c = some o → g5.get? c = some o := fun c o c1 c2 c3 c4 e => r5.extBut _ _ c2 (r4.extBut _ _ c4 (r3.extBut _ _ c2 (r2.extBut _ _ c3 (r1.extBut _ _ c1 e))))
  have zz5 : IsZip g5 z TI TO .ellipsis := r5.extBut _ _ zTO (r4.extBut _ _ z2 (r3.extBut _ _ zTO (r2.extBut _ _ z1 q1)))
  have k15 : g5.IsTupleIter i1 t1 (k + 1) := ((q2.extBut r3.extBut (Ne.symm TO1)).extBut r4.extBut i12).extBut r5.extBut (Ne.symm TO1)
  have k25 : g5.IsTupleIter i2 t2 (k + 1) := q4.extBut r5.extBut (Ne.symm TO2)
  have ti5 : IsPair g5 TI (.ref i1) (.ref i2) := kp5 _ _ (Ne.symm zTI) TITO TI1 TI2 ti
  show wpAny _ _ (Builtin.SmallTypes.ownedTupleHandOut (.ref z) (.ref g5.objs.size) >>= _) _ _ _
  refine wpAny_bind ?_
  unfold Builtin.SmallTypes.ownedTupleHandOut
  refine wpAny_bind (wpAny_setField_rec (Heap.get?_push_of_some _ zz5) (by simp) fun g7 q7 r7 => ?_)
  replace q7 : IsZip g7 z TI TO (rawInt g5.objs.size) := q7
  refine wpAny_setField_rec q7 (by simp) fun g8 q8 r8 => ?_
  replace q8 : IsZip g8 z TI TO (rawInt g5.objs.size) := q8
  have up : ∀ c o, c ≠ z → g5.get? c = some o → g8.get? c = some o := fun c o c1 e => r8.extBut _ _ c1 (r7.extBut _ _ c1 (Heap.get?_push_of_some _ e))
  have new : IsPair g8 g5.objs.size x y := r8.extBut _ _ (Nat.ne_of_gt (Heap.lt_size zz5)) (r7.extBut _ _ (Nat.ne_of_gt (Heap.lt_size zz5)) (Heap.get?_push_size _ rfl))
  have sz8 : g8.objs.size = s.heap.objs.size + 1 := by rw [r8.1, r7.1, Heap.size_push, sz]
  rw [sz] at q8 new
  refine wpAny_pure ⟨_, rfl, ?_⟩
  refine wpAny_pure ?_
  show Q (some (.ref g5.objs.size)) _
  rw [sz]
  exact hQ g8 q8 (up _ _ (Ne.symm zTI) ti5) (up _ _ (Ne.symm zTO) q5) (let ⟨o, e, r⟩ := k15; ⟨o, up _ o (Ne.symm z1) e, r⟩) (let ⟨o, e, r⟩ := k25; ⟨o, up _ o (Ne.symm z2) e, r⟩) new sz8 fun c o hc e => by
    simp only [List.mem_cons, List.not_mem_nil, or_false, not_or] at hc
    exact up c o hc.1 (kp5 c o hc.1 hc.2.1 hc.2.2.1 hc.2.2.2 e)
theorem zipT_end {z TI TO i1 i2 t1 t2 : Addr} {k : Nat} {xs : Array Value} {Q : Option Value → Shared → Prop} (hh : A.handled = none) (Z : ZipT s.heap z TI TO i1 i2 t1 t2 k) (n1 : t1 ∉ [z, TO, i1, i2])
    (h1 : s.heap.IsTuple t1 xs) (hx : xs[k]? = none) (hQ : ∀ h', (∀ c o, c ∉ [z, TO, i1, i2] → s.heap.get? c = some o → h'.get? c = some o) → Q none { s with heap := h' }) : wpAny (model prog w) A (pyNext (.ref z)) Q E s := by
  obtain ⟨nd, zz, ti, ⟨a, b, tO⟩, j1, j2⟩ := Z
  simp only [List.nodup_cons, List.mem_cons, List.not_mem_nil, or_false, not_or, List.nodup_nil, and_true, not_false_eq_true] at nd n1
  obtain ⟨⟨zTI, zTO, z1, z2⟩, ⟨TITO, TI1, TI2⟩, ⟨TO1, TO2⟩, i12⟩ := nd
  obtain ⟨a1, a2, a3, a4⟩ := n1
  have hT : s.TypeIs (.ref z) "zip" := ⟨_, zz, rfl⟩
  unfold pyNext
  refine wpAny_bind (wpAny_attempt (wpAny_callSpecial?_slot (name := Str.ofString "__next__") hT F.slot_zip_next (wpAny_call_entry F.slot_zip_next hT F.entry_zip_next ?_ (F.args_zip_next_1 _))))
  show wpAny _ _ (field (.ref z) 2 >>= _) _ _ _
  refine wpAny_bind (wpAny_field zz rfl (x := .bool false) rfl ?_)
  show wpAny _ _ (field (.ref z) 3 >>= _) _ _ _
  refine wpAny_bind (wpAny_field zz rfl (x := .ref TI) rfl (wpAny_bind (wpAny_seqItems ti rfl ?_)))
  show wpAny _ _ (Builtin.SmallTypes.ownedTupleIsFree (.ref z) >>= _) _ _ _
  refine wpAny_bind ?_
  unfold Builtin.SmallTypes.ownedTupleIsFree
  refine wpAny_bind (wpAny_field zz rfl (x := .none) rfl (wpAny_pure ?_))
  simp only [if_true]
  refine wpAny_bind (wpAny_rule (wpAny_bind (wpAny_field zz rfl (x := .ref TO) rfl (wpAny_bind (wpAny_setField_rec zz (by simp) fun g1 q1 r1 => ?_)))))
  replace q1 : IsZip g1 z TI TO .ellipsis := q1
  refine wpAny_bind ?_
  simp only [List.zipIdx_cons, List.zipIdx_nil, List.forIn_cons, List.forIn_nil]
  refine wpAny_bind (wpAny_bind (wpAny_onRaise ?_))
  show wpAny _ _ (Builtin.SmallTypes.nextOf (.ref i1) >>= _) _ _ _
  refine wpAny_bind (nextOfT_end hh (j1.extBut r1.extBut (Ne.symm z1)) (h1.extBut r1.extBut a1) hx fun g2 e r2 he => ?_)
  obtain ⟨oe, ho, hc⟩ := he
  have zz2 : IsZip g2 z TI TO .ellipsis := r2 _ _ z1 q1
  have ez : e ≠ z := fun q => by subst q; rw [zz2] at ho; cases ho; simp at hc
  refine wpAny_setField_rec (s := { s with heap := g2 }) zz2 (by simp) fun g3 q3 r3 => ?_
  refine wpAny_bind (wpAny_isInstance (T := "StopIteration") (b := true) ⟨oe, r3.extBut _ _ ez ho, hc⟩ isSubtype_stop ?_)
  exact wpAny_pure (hQ _ fun c o hcc e => by
    simp only [List.mem_cons, List.not_mem_nil, or_false, not_or] at hcc
    exact r3.extBut _ _ hcc.1 (r2 _ _ hcc.2.2.1 (r1.extBut _ _ hcc.1 e)))
abbrev zt1 (h : Heap) (t1 : Addr) : Heap := h.push { cls := .type "tuple_iterator", data := .fields #[.ref t1, .int 0 0] }
abbrev zt2 (h : Heap) (t1 t2 : Addr) : Heap := (zt1 h t1).push { cls := .type "tuple_iterator", data := .fields #[.ref t2, .int 0 0] }
abbrev zt3 (h : Heap) (t1 t2 : Addr) : Heap := (zt2 h t1 t2).push { cls := .type "tuple", data := .seq #[.ref h.objs.size, .ref (zt1 h t1).objs.size] }
abbrev zt4 (h : Heap) (t1 t2 : Addr) : Heap := (zt3 h t1 t2).push { cls := .type "tuple", data := .seq #[.none, .none] }
abbrev zt5 (h : Heap) (t1 t2 : Addr) : Heap := (zt4 h t1 t2).push { cls := .type "zip", data := .fields #[.none, .bool false, .bool false, .ref (zt2 h t1 t2).objs.size, .ref (zt3 h t1 t2).objs.size] }
theorem meets_zipT (t1 t2 : Addr) (xs ys : Array Value) :
    Meets (Builtin.«zip.__new__» ⟨[.type "zip", .ref t1, .ref t2], []⟩) (fun _ R s => s.heap.IsTuple t1 xs ∧ s.heap.IsTuple t2 ys ∧ R (.ok (.ret (.ref (zt4 s.heap t1 t2).objs.size))) { s with heap := zt5 s.heap t1 t2 }) :=
  .of_wp fun prog w A R s h => by
    obtain ⟨hp, g, d, tk, os⟩ := s
    obtain ⟨h1, h2, h⟩ := h
    have hsub := sub_zip
    have q1 : Heap.IsTuple (Shared.heap ⟨hp, g, d, tk, os⟩) t1 xs := h1
    have q2 : Heap.IsTuple (Shared.heap ⟨hp.push { cls := .type "tuple_iterator", data := .fields #[.ref t1, .int 0 0] }, g, d, tk, os⟩) t2 ys := Heap.IsTuple.push h2 _
    wp_walk using wpAny_pyIter_tuple q1, wpAny_pyIter_tuple q2
    exact ⟨_, rfl, h⟩
theorem call_zipT {t1 t2 : Addr} {xs ys : Array Value} {Q : Value → Shared → Prop} (h1 : s.heap.IsTuple t1 xs) (h2 : s.heap.IsTuple t2 ys)
    (h : ∀ h' z TI TO i1 i2, s.heap.objs.size ≤ z → s.heap.objs.size ≤ TI → s.heap.objs.size ≤ TO → s.heap.objs.size ≤ i1 → s.heap.objs.size ≤ i2 → ZipT h' z TI TO i1 i2 t1 t2 0 → (∀ c o, s.heap.get? c = some o → h'.get? c = some o) → Q (.ref z) { s with heap := h' }) :
    wpAny (model prog w) A (call (.type "zip") [.ref t1, .ref t2]) Q E s := by
  refine callType_new F.called_zip (by decide) (F.typeCall_zip_2 _ _) (F.newCall_zip_2 _ _) (fun obj => F.args_object_init_3 obj _ _) F.entry_zip_new (meets_zipT t1 t2 xs ys) ⟨h1, h2, ?_⟩
  have z1 : (zt1 s.heap t1).objs.size = s.heap.objs.size + 1 := Heap.size_push ..
  have z2 : (zt2 s.heap t1 t2).objs.size = s.heap.objs.size + 2 := by rw [Heap.size_push, z1]
  have z3 : (zt3 s.heap t1 t2).objs.size = s.heap.objs.size + 3 := by rw [Heap.size_push, z2]
  have z4 : (zt4 s.heap t1 t2).objs.size = s.heap.objs.size + 4 := by rw [Heap.size_push, z3]
  have p5 : (zt5 s.heap t1 t2).get? (zt4 s.heap t1 t2).objs.size = some _ := Heap.get?_push_size _ rfl
  have p4 : (zt5 s.heap t1 t2).get? (zt3 s.heap t1 t2).objs.size = some _ := Heap.get?_push_of_some _ (Heap.get?_push_size _ rfl)
  have p3 : (zt5 s.heap t1 t2).get? (zt2 s.heap t1 t2).objs.size = some _ := Heap.get?_push_of_some _ (Heap.get?_push_of_some _ (Heap.get?_push_size _ rfl))
  have p2 : (zt5 s.heap t1 t2).get? (zt1 s.heap t1).objs.size = some _ := Heap.get?_push_of_some _ (Heap.get?_push_of_some _ (Heap.get?_push_of_some _ (Heap.get?_push_size _ rfl)))
  have p1 : (zt5 s.heap t1 t2).get? s.heap.objs.size = some _ := Heap.get?_push_of_some _ (Heap.get?_push_of_some _ (Heap.get?_push_of_some _ (Heap.get?_push_of_some _ (Heap.get?_push_size _ rfl))))
  refine ⟨⟨_, p5, rfl⟩, h _ _ _ _ _ _ ?_ ?_ ?_ (Nat.le_refl _) ?_ ⟨?_, p5, p3, ⟨_, _, p4⟩, ⟨_, p1, rfl, rfl⟩, ⟨_, p2, rfl, rfl⟩⟩ fun c o e => Heap.get?_push_of_some _ (Heap.get?_push_of_some _ (Heap.get?_push_of_some _ (Heap.get?_push_of_some _ (Heap.get?_push_of_some _ e))))⟩
  · rw [z4]; exact Nat.le_add_right _ _
  · rw [z2]; exact Nat.le_add_right _ _
  · rw [z3]; exact Nat.le_add_right _ _
  · rw [z1]; exact Nat.le_add_right _ _
  · rw [z1, z2, z3, z4]
    generalize s.heap.objs.size = n
    simp only [List.nodup_cons, List.mem_cons, List.not_mem_nil, or_false, not_or, List.nodup_nil, and_true, not_false_eq_true]
    refine ⟨⟨?_, ?_, ?_, ?_⟩, ⟨?_, ?_, ?_⟩, ⟨?_, ?_⟩, ?_⟩ <;> (intro q; simp at q)
end
end PySem
set_option Elab.async false
set_option linter.all false
set_option maxRecDepth 100000
namespace L2
open PySem PySem.Spec PyProof.Rows
def compOkM (osc : Scope) (N : List Str) (frees : List Str) (idx : List Nat) (scope : Scope) : Bool :=
  scope.kind == .function && (scope.names.all (fun y => y.2 != .cell) && (scope.names.all (fun y => y.2 != .local || scope.names.lookup y.1 == some .local) && (scope.names.all (fun y => y.2 != .free || (osc.names.lookup y.1 == some .cell || osc.names.lookup y.1 == some .free)) &&
  (idx.length == frees.length && ((idx.zip frees).all (fun p => N[p.1]? == some p.2) && frees.all (fun y => scope.names.lookup y == some .free))))))
theorem compOkM_scope {X : Cx} {osc : Scope} {N : List Str} {frees : List Str} {idx : List Nat} {scope : Scope} (h : compOkM osc N frees idx scope = true) (ho : X.env.scope = osc) (hN : X.N = N) :
    CompScopeM X frees idx scope ∧ ∀ y ∈ frees, scope.names.lookup y = some .free := by
  unfold compOkM at h
  simp only [Bool.and_eq_true, List.all_eq_true, Bool.or_eq_true, bne_iff_ne, beq_iff_eq, decide_eq_true_eq] at h
  obtain ⟨h1, h2, h3, h4, h7, h8, h9⟩ := h
  have fl : ∀ y ∈ frees, scope.names.lookup y = some .free := fun y hy => h9 y hy
  refine ⟨⟨h1, h2, fun y hy e => ?_, fun y hy e => ?_, fun j y hj => ?_, h7, fun y hy => mem_of_lookup' (fl y hy)⟩, fl⟩
  · rcases h3 y hy with q | q
    · exact absurd e q
    · exact q
  · have q : osc.names.lookup y.1 = some .cell ∨ osc.names.lookup y.1 = some .free := by
      rcases h4 y hy with q | q
      · exact absurd e q
      · exact q
    rw [← ho] at q
    exact q
  · obtain ⟨k, e1, e2⟩ := zip_get h7 hj
    exact ⟨k, e1, by rw [hN]; exact h8 (k, y) e2⟩
theorem pe_lcM {X : Cx} {elt iter tg : Expr} {pos : Pos} {ifs : List Expr} {scope : Scope} {wi : TI} {g : TG} {tt : TT} {te : TE} (osc : Scope) (N : List Str) (M frees : List Str) (idx : List Nat)
    (hk : compOkM osc N frees idx scope = true) (hi : PI X tg iter wi) (hg : ∀ C s₀ H₀ ex, PG (cxComp X (M ++ frees) scope C s₀ H₀ ex) tg g)
    (ht : ∀ C s₀ H₀ ex, PTs (cxComp X (M ++ frees) scope C s₀ H₀ ex) ifs tt) (he : ∀ C s₀ H₀ ex, PE (cxComp X (M ++ frees) scope C s₀ H₀ ex) elt te)
    (ho : X.env.scope = osc := by rfl) (hN : X.N = N := by rfl) (hc : X.calm = true := by rfl) (hs : ∀ v, foldedSetIterable iter X.env v = pure v := by intro _; rfl) : PE X (.ListComp elt [⟨tg, iter, ifs, 0⟩] scope pos) (tCompM M.length idx wi g tt te) := by
  obtain ⟨S, fl⟩ := compOkM_scope (X := X) hk ho hN
  exact pe_lcompM (qt := Calm) (fun _ _ _ _ => hc) S fl hi hg ht he hs
end L2
set_option Elab.async false
set_option linter.all false
set_option maxRecDepth 100000
namespace L2
open PySem PySem.Spec PyProof.Rows
section
variable {X : Cx} {pins : List (Addr × Obj)} {σ : St} {H : Hp} {s : Shared} {h' : Heap}
theorem Inv.turnedL {t' : Nat} {ch : List Addr} (I : Inv X pins σ H s) (k : ∀ b o, b ∉ ch → s.heap.get? b = some o → h'.get? b = some o) (hf : ∀ b ∈ ch, FpOk X pins H b) : Inv X pins σ H { s with heap := h', toks := t' } := by
  have nit : ∀ b u, H b = some u → b ∉ ch := fun b u e z => by rw [(hf b z).1] at e; cases e
  refine I.step (g' := s.gens) (d' := s.drawn) (ch := ch) (fun b hb => ?_) (fun b o _ _ hc e _ => k b o hc e) (fun b o _ _ hc e _ => ⟨o.slots, k b o hc e⟩) (fun _ _ _ _ n => n)
    (fun b o hc e => ⟨o, k b o hc e⟩) (fun _ _ e => e) (fun _ _ _ e => e) (fun b ps e => ⟨#[], by rw [e]; simp⟩) (fun m hm => ?_) (fun b u e => ?_) I.bare
  · obtain ⟨f0, f1, f2, f3, f4, f5⟩ := hf b hb
    exact ⟨f3, f1, f4, f5⟩
  · obtain ⟨o, es, ep, ho, r⟩ := hm
    exact ⟨o, es, ep, k _ o (fun z => (hf _ z).2.1 rfl) ho, r⟩
  · refine (I.hok b u e).stay (fun c v hc q => k c v ?_ q) (fun _ q => q) fun _ _ q => q
    rcases hc with z | z
    · rw [z]; exact nit b u e
    · exact nit c _ z
theorem Inv.trackT {D : Addr} {vs : List V} {its : List Value} (I : Inv X pins σ H s) (hf : FpOk X pins H D) (hz : vs.length ≤ sizeLine) (hv : Vals vs its) (e : IsTup s.heap D its.toArray) : Inv X pins σ (upd H D (.tup vs)) s := by
  obtain ⟨hD, h2, _, h1, h3, h4⟩ := hf
  obtain ⟨hh, g, d, t, o⟩ := s
  have nD : ∀ b u, H b = some u → b ≠ D := fun b u q z => by rw [z, hD] at q; cases q
  refine I.step (g' := g) (d' := d) (t' := t) (h' := hh) (ch := [D]) (fun b hb => ?_) (fun b o _ _ _ q _ => q) (fun b o _ _ _ q _ => ⟨o.slots, q⟩) (fun b o hb q n => ?_) (fun b o _ q => ⟨o, q⟩)
    (fun b xs q => by rw [upd_ne (nD b _ q)]; exact q) (fun b o u q => by rw [upd_ne (nD b _ q)]; exact q) (fun b ps q => ⟨#[], by rw [upd_ne (nD b _ q), q]; simp⟩) (fun m q => q) (fun b u q => ?_) I.bare
  · have z : b = D := by simpa using hb
    subst z
    exact ⟨h1, h2, h3, h4⟩
  · rw [upd_ne (by simpa using hb)]; exact n
  · by_cases z : b = D
    · subst z
      rw [upd_same] at q; cases q
      exact ⟨hz, its, hv, e⟩
    · rw [upd_ne z] at q
      exact (I.hok b u q).stay (fun _ _ _ q => q) (fun c q => by rw [upd_ne (nD c _ q)]; exact q) fun c xs q => by rw [upd_ne (nD c _ q)]; exact q
end
def Itz (a b : Addr) : It :=
  ⟨fun i H => ∃ xs ys x y, H a = some (.tup xs) ∧ H b = some (.tup ys) ∧ xs[i]? = some x ∧ ys[i]? = some y,
   fun i H v H' => ∃ (T : Addr) (xs ys : List V) (x y : V), H a = some (.tup xs) ∧ H b = some (.tup ys) ∧ xs[i]? = some x ∧ ys[i]? = some y ∧ H T = none ∧ v = .ref T ∧ H' = upd H T (.tup [x, y]),
   fun i H => ∃ xs, H a = some (.tup xs) ∧ xs.length ≤ i⟩
theorem turn_zip {P : Program} {w : World} {K : PySem.W.Frag} {elts : List Expr} {x1} {pos : Pos} (a b z TI TO i1 i2 : Addr) : Turn P w K (.Tuple elts x1 pos) (Itz a b) [z, TI, TO, i1, i2] z (fun i h => ZipT h z TI TO i1 i2 a b i) where
  mem := by simp
  obj := fun i h st c hc => by
    simp only [List.mem_cons, List.not_mem_nil, or_false] at hc
    obtain ⟨nd, zz, ti, ⟨u, v, tO⟩, ⟨o1, j1, c1, d1⟩, ⟨o2, j2, c2, d2⟩⟩ := st
    rcases hc with rfl | rfl | rfl | rfl | rfl
    · exact ⟨_, zz, fun v q => by cases q⟩
    · exact ⟨_, ti, fun v q => by cases q⟩
    · exact ⟨_, tO, fun v q => by cases q⟩
    · exact ⟨o1, j1, fun v q => by rw [d1] at q; cases q⟩
    · exact ⟨o2, j2, fun v q => by rw [d2] at q; cases q⟩
  keep := fun i h h' st k => by
    obtain ⟨nd, zz, ti, ⟨u, v, tO⟩, ⟨o1, j1, r1⟩, ⟨o2, j2, r2⟩⟩ := st
    exact ⟨nd, k _ (by simp) _ zz, k _ (by simp) _ ti, ⟨u, v, k _ (by simp) _ tO⟩, ⟨o1, k _ (by simp) _ j1, r1⟩, ⟨o2, k _ (by simp) _ j2, r2⟩⟩
  item := by
    intro X hP hw hK hc i pins s σ H E I hf st hg
    subst hP hw hK
    obtain ⟨xs, ys, x, y, ha, hb, hx, hy⟩ := hg
    obtain ⟨its1, rv1, p1, z1⟩ := I.tuple (SqT.of ha)
    obtain ⟨its2, rv2, p2, z2⟩ := I.tuple (SqT.of hb)
    obtain ⟨u1, hu1, ru1⟩ := rv1.get hx
    obtain ⟨u2, hu2, ru2⟩ := rv2.get hy
    have sub : ∀ c ∈ [z, TO, i1, i2], c ∈ [z, TI, TO, i1, i2] := fun c hc => by
      simp only [List.mem_cons, List.not_mem_nil, or_false] at hc ⊢
      rcases hc with h | h | h | h
      · exact .inl h
      · exact .inr (.inr (.inl h))
      · exact .inr (.inr (.inr (.inl h)))
      · exact .inr (.inr (.inr (.inr h)))
    have no : ∀ c u, H c = some u → c ∉ [z, TO, i1, i2] := fun c u e q => by rw [(hf c (sub c q)).1] at e; cases e
    have lt : ∀ c ∈ [z, TI, TO, i1, i2], c < s.heap.objs.size := fun c hc => by
      simp only [List.mem_cons, List.not_mem_nil, or_false] at hc
      obtain ⟨nd, zz, ti, ⟨u, v, tO⟩, ⟨o1, j1, c1, d1⟩, ⟨o2, j2, c2, d2⟩⟩ := st
      rcases hc with rfl | rfl | rfl | rfl | rfl
      · exact Heap.lt_size zz
      · exact Heap.lt_size ti
      · exact Heap.lt_size tO
      · exact Heap.lt_size j1
      · exact Heap.lt_size j2
    refine zipT_item st (no a _ ha) (no b _ hb) (show s.heap.IsTuple a its1.toArray from p1) (show s.heap.IsTuple b its2.toArray from p2) (x := u1) (y := u2) (by simpa using hu1) (by simpa using hu2) fun h' q1 q2 q3 q4 q5 q6 _ kp => ⟨_, rfl, ?_⟩
    refine wpAny_letOwnedTupleGo_zip (s := { s with heap := h' }) q1 fun h2 q7 r7 => ?_
    have nd := st.nd
    have I1 : Inv X pins σ H { s with heap := h2 } := I.turnedL (t' := s.toks) (ch := [z, TO, i1, i2]) (fun c o hc e => r7.extBut c o (fun q => hc (by simp [q])) (kp c o hc e)) fun c hc => hf c (sub c hc)
    have fr : H s.heap.objs.size = none := I.hok.fresh (Nat.le_refl _)
    have ne : ∀ c ∈ [z, TI, TO, i1, i2], c ≠ s.heap.objs.size := fun c hc q => by have := lt c hc; rw [q] at this; exact Nat.lt_irrefl _ this
    have I2 := I1.trackT (D := s.heap.objs.size) (vs := [x, y]) (its := [u1, u2]) (I.fpOk (Nat.le_refl _) fr) (by show 2 ≤ sizeLine; rw [sizeLine_eq]; decide) (.cons ru1 (.cons ru2 .nil)) ⟨_, r7.extBut _ _ (Ne.symm (ne z (by simp))) q6, rfl, _, rfl⟩
    simp only [List.nodup_cons, List.mem_cons, List.not_mem_nil, or_false, not_or, List.nodup_nil, and_true, not_false_eq_true] at nd
    obtain ⟨⟨zTI, zTO, z1', z2'⟩, _⟩ := nd
    refine ⟨.ref s.heap.objs.size, _, I2, rfl, ⟨_, xs, ys, x, y, ha, hb, hx, hy, fr, rfl, rfl⟩, ⟨st.nd, q7, r7.extBut _ _ (Ne.symm zTI) q2, ⟨_, _, r7.extBut _ _ (Ne.symm zTO) q3⟩, q4.extBut r7.extBut (Ne.symm z1'), q5.extBut r7.extBut (Ne.symm z2')⟩, fun c hc => ?_⟩
    rw [upd_ne (ne c hc)]
    exact (hf c hc).1
  done := by
    intro X hP hw hK hc i pins s σ H E I hf st hg
    subst hP hw hK
    obtain ⟨xs, ha, hx⟩ := hg
    obtain ⟨its1, rv1, p1, z1⟩ := I.tuple (SqT.of ha)
    have hl := rv1.length
    have sub : ∀ c ∈ [z, TO, i1, i2], c ∈ [z, TI, TO, i1, i2] := fun c hc => by
      simp only [List.mem_cons, List.not_mem_nil, or_false] at hc ⊢
      rcases hc with h | h | h | h
      · exact .inl h
      · exact .inr (.inr (.inl h))
      · exact .inr (.inr (.inr (.inl h)))
      · exact .inr (.inr (.inr (.inr h)))
    have no : ∀ c u, H c = some u → c ∉ [z, TO, i1, i2] := fun c u e q => by rw [(hf c (sub c q)).1] at e; cases e
    exact zipT_end (I.ok.hd hc) st (no a _ ha) (show s.heap.IsTuple a its1.toArray from p1) (by simp; exact Nat.le_trans (Nat.le_of_eq hl.symm) hx) fun h' kp => ⟨rfl, I.turnedL (t' := s.toks) (ch := [z, TO, i1, i2]) kp fun c hc => hf c (sub c hc)⟩
  self := fun _ _ _ _ _ st h => wpAny_pyIter_zip st.zz h
theorem boot_zip' : bootBuiltins "zip" = some (.type "zip") := by decide +kernel
def iZip (ta : TA) : TI := fun σ H R => ta σ H fun vs H1 => ∃ a b xs ys, vs = [.ref a, .ref b] ∧ H1 a = some (.tup xs) ∧ H1 b = some (.tup ys) ∧ R (Itz a b) H1
theorem pi_zip {X : Cx} {e1 e2 : Expr} {ta : TA} {p pos pt : Pos} {elts : List Expr} {x1} (hg : Gl X "zip") (hm : X.mg "zip" = none) (ha : PA X [e1, e2] ta)
    (hs : starEach [e1, e2] X.env = [(false, eval e1 X.env), (false, eval e2 X.env)] := by rfl) (hs2 : starEach [e2] X.env = [(false, eval e2 X.env)] := by rfl) : PI X (.Tuple elts x1 pt) (.Call (.Name "zip" p) [e1, e2] [] pos) (iZip ta) := by
  intro pins s σ H R I h
  refine Call_ (ld_blt I hg hm boot_zip' (PyProof.Rows.callWith_type1 (thn (ha pos pins s σ H _ I h) fun us s1 ⟨vs, H1, I1, r1, q1⟩ => ?_) (by rw [hs, hs2]) (by rw [hs2]; rfl)))
  obtain ⟨a, b, xs, ys, rfl, h1, h2, q⟩ := q1
  cases r1 with
  | cons r rr =>
    cases rr with
    | cons r' rr =>
      cases rr
      cases r
      cases r'
      obtain ⟨its1, rv1, p1, z1⟩ := I1.tuple (SqT.of h1)
      obtain ⟨its2, rv2, p2, z2⟩ := I1.tuple (SqT.of h2)
      refine call_zipT (show s1.heap.IsTuple a its1.toArray from p1) (show s1.heap.IsTuple b its2.toArray from p2) fun h' z TI TO i1 i2 l1 l2 l3 l4 l5 Z kp => ?_
      refine wpAny_pyIter_zip (s := { s1 with heap := h' }) Z.zz ?_
      refine ⟨z, [z, TI, TO, i1, i2], _, _, H1, rfl, I1.kept (t' := s1.toks) kp, turn_zip a b z TI TO i1 i2, Z, fun c hc => ?_, q⟩
      simp only [List.mem_cons, List.not_mem_nil, or_false] at hc
      rcases hc with rfl | rfl | rfl | rfl | rfl
      · exact I1.fpOk l1 (I1.hok.fresh l1)
      · exact I1.fpOk l2 (I1.hok.fresh l2)
      · exact I1.fpOk l3 (I1.hok.fresh l3)
      · exact I1.fpOk l4 (I1.hok.fresh l4)
      · exact I1.fpOk l5 (I1.hok.fresh l5)
end L2
set_option Elab.async false
set_option linter.all false
set_option maxRecDepth 100000
namespace Fw
open PySem PySem.Spec PyProof.Rows L2
abbrev s_same : Stmt := top 99
def isIntT : T → Bool
  | .int _ => true
  | _ => false
theorem kit_int (K : PySem.W.Frag) (t : T) : PySem.W.kitOne K (tyT t) (.type "int") = some (isIntT t) := by
  cases t with
  | int i => first | rfl | (with_unfolding_all rfl) | kernel_rfl
  | str x => first | rfl | (with_unfolding_all rfl) | kernel_rfl
  | tup l => first | rfl | (with_unfolding_all rfl) | kernel_rfl
theorem kit_bool (K : PySem.W.Frag) (t : T) : PySem.W.kitOne K (tyT t) (.type "bool") = some false := by
  cases t with
  | int i => first | rfl | (with_unfolding_all rfl) | kernel_rfl
  | str x => first | rfl | (with_unfolding_all rfl) | kernel_rfl
  | tup l => first | rfl | (with_unfolding_all rfl) | kernel_rfl
theorem comp_zip {H : Hp} {n : Nat} {a b : Addr} {xs ys : List V} {g : TG} {tt : TT} {te : TE} {σ' : L2.St} {Q : VK} (hlen : xs.length = ys.length) (Pv : Nat → List V → Hp → Prop) (h0 : Pv 0 [] H)
    (hl : ∀ i vs H, i ≤ xs.length → Pv i vs H → H a = some (.tup xs) ∧ H b = some (.tup ys) ∧ vs.length < sizeLine)
    (hs : ∀ i x y (T : Addr) vs H2 (τ : L2.St), τ.length = n → i < xs.length → xs[i]? = some x → ys[i]? = some y → H2 T = none → Pv i vs H2 → g (.ref T) (τ ++ σ') (upd H2 T (.tup [x, y])) fun σ1 H3 => (∃ τ' : L2.St, σ1 = τ' ++ σ' ∧ τ'.length = n) ∧ tt σ1 H3 fun b H4 => if b = true then te σ1 H4 fun v H5 => Nx xs.length i (Pv (i + 1) (vs ++ [v]) H5) else Nx xs.length i (Pv (i + 1) vs H4))
    (hd : ∀ vs H2, Pv xs.length vs H2 → ∀ l, H2 l = none → Q (.ref l) (upd H2 l (.lst vs))) : CompWM n (Itz a b) g tt te σ' Q H := by
  refine ⟨fun i m vs H => m = xs.length - i ∧ i ≤ xs.length ∧ Pv i vs H, ⟨xs.length, by simp, Nat.zero_le _, h0⟩, ?_⟩
  rintro i m vs H2 ⟨rfl, hi, p⟩
  obtain ⟨q1, q2, q3⟩ := hl i vs H2 hi p
  refine ⟨q3, ?_⟩
  by_cases hlt : i < xs.length
  · refine .inr ⟨⟨xs, ys, xs[i], ys[i], q1, q2, by simp [hlt], by simp [← hlen, hlt]⟩, ?_⟩
    rintro τ v H3 lτ ⟨T, xs', ys', x, y, e1, e2, hx, hy, hT, rfl, rfl⟩
    rw [q1] at e1
    rw [q2] at e2
    cases e1
    cases e2
    exact hs i x y T vs _ τ lτ hlt hx hy hT p
  · have e : i = xs.length := by omega
    subst e
    exact .inl ⟨⟨xs, q1, Nat.le_refl _⟩, hd vs H2 p⟩
inductive spSame (n : Nat) (vs : List V) (H : Hp) (Q : VK) (E_ : XK) : Prop where
  | mk (v1 v2 : V) (t : T) : vs = [v1, v2] → Rep H v1 t → Rep H v2 t → Tr n t → wts (pcs t) ≤ 5000 → (∀ H', Same H H' → Q (.bl true) H') → spSame n vs H Q E_
def spSameN : Nat → Sp
  | 0 => fun _ _ _ _ => False
  | n + 1 => spSame n
theorem wts_mem {t : T} {l : List T} (h : t ∈ l) : wts (pcs t) ≤ wts (pcss l) := by
  induction l with
  | nil => cases h
  | cons a l ih =>
    rw [pcss, wts_app]
    rcases List.mem_cons.mp h with rfl | h
    · omega
    · have := ih h; omega
theorem pcs_pos (t : T) : 3 ≤ wts (pcs t) := by
  have : 1 ≤ (pcs t).length := by cases t <;> simp [pcs]
  have := wts_len (pcs t)
  omega
theorem pcss_len (l : List T) : 3 * l.length ≤ wts (pcss l) := by
  induction l with
  | nil => simp [pcss, wts]
  | cons a l ih =>
    rw [pcss, wts_app, List.length_cons]
    have := pcs_pos a
    omega
section
variable {P : Program} {w : World} {K : PySem.W.Frag} {mg : Str → Option Value} {base : Heap} {f : Addr} {fd : FuncData}
theorem sc_same : FnScope ["_law_told", "_law_due"] ["_law_told", "_law_due"] (defScope s_same) := ⟨rfl, rfl, rfl, by decide +kernel, rfl, by decide +kernel, by decide +kernel⟩
theorem comp_nd2 : ((["_law_one", "_law_other"] : List Str) ++ ([] : List Str)).Nodup := by decide +kernel
set_option maxHeartbeats 1000000 in
theorem ok_same {n : Nat} (F : Fun K "_law_same" "_law_same" s_same f fd) (mi : mg "isinstance" = none) (mt : mg "tuple" = none) (ms : mg "str" = none) (mn : mg "int" = none) (mb : mg "bool" = none) (ml : mg "len" = none) (ma : mg "all" = none) (mz : mg "zip" = none)
    (h2 : Has P w K mg base n "_law_same" ["_law_told", "_law_due"] (spSameN n)) : FnOk P w K mg base CX0 (n + 1) f fd ["_law_told", "_law_due"] (spSame n) := by
  refine F.ok sc_same (fun cdv A outer s H vs Q E hr h => ?_)
  obtain ⟨v1, v2, t, rfl, r1, r2, kt, hw, q⟩ := h
  refine ⟨_, pss_cons (ps_if (pt_val (pe_callB call_isi rfl mi boot_isinstance (pa_cons (pv 1) (pa_cons (pe_bltn (v := .ty "tuple") rfl mt boot_tuple rfl) pa_nil))))
      (pss_cons (ps_if (PW.pt (pw_or (pt_not (pt_val (pe_callB call_isi rfl mi boot_isinstance (pa_cons (pv 0) (pa_cons (pe_bltn (v := .ty "tuple") rfl mt boot_tuple rfl) pa_nil)))))
          (pw_or1 (pt_cmpR op_ne (pe_callB (clen K) rfl ml PySem.boot_len (pa_cons (pv 0) pa_nil)) (pe_callB (clen K) rfl ml PySem.boot_len (pa_cons (pv 1) pa_nil)) (nomark _))))) (pss_one (ps_ret pe_bl)) pss_nil)
      (pss_one (ps_ret (pe_callB (call_all rfl) rfl ma boot_all (pa_cons
        (pe_lcM (g := gTup K 2 (gCons (gName 0) (gCons (gName 1) gNil))) (defScope s_same) ["_law_told", "_law_due"] ["_law_one", "_law_other"] [] [] (by decide +kernel) (pi_zip rfl mz (pa_cons (pv 0) (pa_cons (pv 1) pa_nil)))
          (fun C s₀ H₀ ex => pgT K (n := 2) rfl (pgs_cons (pg_name (i := 0) comp_nd2 rfl (Or.inl rfl) (Or.inr rfl)) (pgs_cons (pg_name (i := 1) comp_nd2 rfl (Or.inl rfl) (Or.inr rfl)) pgs_nil)))
          (fun C s₀ H₀ ex => pts_nil) (fun C s₀ H₀ ex => pcall h2 hr (Nat.le_refl _) rfl (pa_cons (pv 0) (pa_cons (pv 1) pa_nil)))) pa_nil))))) pss_nil)
    (pss_cons (ps_if (pt_val (pe_callB call_isi rfl mi boot_isinstance (pa_cons (pv 1) (pa_cons (pe_bltn (v := .ty "str") rfl ms boot_str rfl) pa_nil))))
      (pss_one (ps_ret (pe_and (pe_callB call_isi rfl mi boot_isinstance (pa_cons (pv 0) (pa_cons (pe_bltn (v := .ty "str") rfl ms boot_str rfl) pa_nil))) (pe_one (pe_cmpR op_eq (pv 0) (pv 1) (nomark _)))))) pss_nil)
    (pss_one (ps_ret (pe_and (pe_callB call_isi rfl mi boot_isinstance (pa_cons (pv 0) (pa_cons (pe_bltn (v := .ty "int") rfl mn PyProof.Rows.boot_int rfl) pa_nil)))
      (pe_and (pe_not (pe_callB call_isi rfl mi boot_isinstance (pa_cons (pv 0) (pa_cons (pe_bltn (v := .ty "bool") rfl mb PyProof.Rows.boot_bool rfl) pa_nil)))) (pe_one (pe_cmpR op_eq (pv 0) (pv 1) (nomark _)))))))), ?_⟩
  refine ⟨_, rfl, _, _, _, _, rfl, rep_ty r2, kit_tup K t, _, rfl, ?_⟩
  cases kt with
  | «at» A0 =>
    cases r1 with
    | int i =>
      cases r2
      refine iteF ⟨_, rfl, _, _, _, _, rfl, .int i, kit_str K (.int i), _, rfl, iteF ?_⟩
      refine ⟨_, rfl, _, _, _, _, rfl, .int i, kit_int K (.int i), _, rfl, iteT ⟨_, rfl, _, _, _, _, rfl, .int i, kit_bool K (.int i), _, rfl, _, rfl, iteT ⟨_, rfl, _, rfl, rfl, ?_⟩⟩⟩
      rw [decide_eq_true rfl]
      exact q _ (Same.refl _)
    | str z hz =>
      cases r2
      refine iteF ⟨_, rfl, _, _, _, _, rfl, .str z, kit_str K (.str z), _, rfl, iteT ?_⟩
      refine ⟨_, rfl, _, _, _, _, rfl, .str z, kit_str K (.str z), _, rfl, iteT ⟨_, rfl, _, rfl, rfl, ?_⟩⟩
      rw [decide_eq_true rfl]
      exact q _ (Same.refl _)
    | tup _ _ => exact absurd rfl (A0.nt _)
  | @tp j ks hk =>
    rw [wts_tup] at hw
    have kl := pcss_len ks
    refine iteT ?_
    cases r1 with
    | @tup a xs _ ha ra =>
      cases r2 with
      | @tup b ys _ hb rb =>
        have lx := ra.length
        have ly := rb.length
        refine ⟨_, rfl, _, _, _, _, rfl, .tup ha, kit_tup K (.tup []), _, rfl, iteF ?_⟩
        refine ⟨_, rfl, a, xs, rfl, .inr (SqT.of ha), _, rfl, b, ys, rfl, .inr (SqT.of hb), rfl, _, rfl, ?_⟩
        rw [show xs.length = ys.length by omega, decide_eq_true rfl]
        refine iteF ?_
        refine ⟨_, rfl, _, rfl, a, b, xs, ys, rfl, ha, hb, comp_zip (xs := xs) (ys := ys) (by omega) (fun i ws H' => Same H H' ∧ ws = List.replicate i (V.bl true)) ⟨Same.refl _, rfl⟩ ?_ ?_ ?_⟩
        · rintro i ws H' hi ⟨e, rfl⟩
          exact ⟨e _ _ ha, e _ _ hb, small' (by rw [List.length_replicate]; omega)⟩
        · rintro i x y T0 ws H' τ lτ hi hx hy hT ⟨e, rfl⟩
          obtain ⟨t1, ht1, rx⟩ := ra.get hx
          obtain ⟨t2, ht2, ry⟩ := rb.get hy
          rw [ht1] at ht2
          cases ht2
          have hm : t1 ∈ ks := List.mem_of_getElem? ht1
          have kt1 : Tr j t1 := hk t1 hm
          have wm := wts_mem hm
          have eT := same_new hT (.tup [x, y])
          match τ, lτ with
          | [o1, o2], _ =>
            refine ⟨T0, [x, y], rfl, SqT.of upd_same, rfl, x, [y], rfl, y, [], rfl, rfl, ⟨[some x, some y], rfl, rfl⟩, ?_⟩
            have eA := e.trans eT
            refine tt1 (iteT ⟨_, rfl, _, rfl, x, y, t1, rfl, rx.same eA, ry.same eA, kt1, by omega, fun H5 e5 => nx hi ⟨eA.trans e5, ?_⟩⟩)
            rw [List.replicate_succ']
        · rintro ws H' ⟨e, rfl⟩ l hl
          refine ⟨l, List.replicate xs.length true, rfl, ?_, ?_⟩
          · rw [List.map_replicate]
            exact SqL.of upd_same
          · have : (List.replicate xs.length true).all id = true := by
              rw [List.all_eq_true]
              intro b hb
              rw [(List.mem_replicate.mp hb).2]
              rfl
            rw [this]
            exact q _ (e.trans (same_new hl _))
theorem same_all (F : Fun K "_law_same" "_law_same" s_same f fd) (bF : Binds K fd ["_law_told", "_law_due"] []) (hk : PySem.W.keepIn K (.ref f) = true) (mF : mg "_law_same" = some (.ref f)) (mi : mg "isinstance" = none) (mt : mg "tuple" = none) (ms : mg "str" = none) (mn : mg "int" = none) (mb : mg "bool" = none) (ml : mg "len" = none) (ma : mg "all" = none) (mz : mg "zip" = none) (n : Nat) :
    Has P w K mg base n "_law_same" ["_law_told", "_law_due"] (spSameN n) := by
  induction n with
  | zero => exact ⟨f, fd, ⟨fun _ _ _ _ h => h.elim, fun _ _ _ _ _ _ _ _ _ _ _ _ _ h => h.elim⟩, bF, hk, mF⟩
  | succ n ih => exact ⟨f, fd, ok_same F mi mt ms mn mb ml ma mz ih, bF, hk, mF⟩
end
end Fw
set_option Elab.async false
set_option linter.all false
set_option maxRecDepth 100000
namespace Fw
open PySem PySem.Spec PyProof.Rows L2
theorem pars_app (st : List (List T)) (a b : List Str) : pars st (a ++ b) = (pars st a).bind fun st' => pars st' b := by
  induction a generalizing st with
  | nil => rfl
  | cons p a ih =>
    show (stepP st p).bind _ = ((stepP st p).bind _).bind _
    cases stepP st p with
    | none => rfl
    | some st' => exact ih st'
theorem step_bad {st : List (List T)} {p : Str} (h : BadP p) (c : isBr p = false) : stepP st p = none := by
  have c1 : decide (V.str p = .str "(") = false := decide_eq_false fun e => by
    rw [V.str.inj e] at c
    exact absurd c (by decide +kernel)
  have c2 : decide (V.str p = .str ")") = false := decide_eq_false fun e => by
    rw [V.str.inj e] at c
    exact absurd c (by decide +kernel)
  unfold stepP
  rw [c1, c2, bad_none h]
  rfl
theorem pars_bad {st : List (List T)} {a b : List Str} {p : Str} (h : BadP p) (c : isBr p = false) : pars st (a ++ p :: b) = none := by
  rw [pars_app]
  cases pars st a with
  | none => rfl
  | some st' =>
    show (stepP st' p).bind _ = none
    rw [step_bad h c]
    rfl
def isL (p : Str) : Bool := decide (V.str p = .str "(")
def isR (p : Str) : Bool := decide (V.str p = .str ")")
theorem step_cnt {st st' : List (List T)} {p : Str} (h : stepP st p = some st') : st'.length + (if isR p = true then 1 else 0) = st.length + (if isL p = true then 1 else 0) := by
  unfold stepP at h
  cases c1 : isL p with
  | true =>
    have c1' : decide (V.str p = .str "(") = true := c1
    have c2 : isR p = false := by
      have e := V.str.inj (of_decide_eq_true c1')
      unfold isR
      rw [e]
      decide +kernel
    rw [c1', if_pos rfl] at h
    rw [c2]
    split at h
    · cases h; simp
    · cases h
  | false =>
    have c1' : decide (V.str p = .str "(") = false := c1
    rw [c1', if_neg Bool.false_ne_true] at h
    cases c2 : isR p with
    | true =>
      have c2' : decide (V.str p = .str ")") = true := c2
      rw [c2', if_pos rfl] at h
      match st, h with
      | a :: b :: r, h => cases h; simp
    | false =>
      have c2' : decide (V.str p = .str ")") = false := c2
      rw [c2', if_neg Bool.false_ne_true] at h
      cases ht : thingT p with
      | none => rw [ht] at h; cases h
      | some t =>
        rw [ht] at h
        match st, h with
        | a :: r, h => cases h; simp
theorem pars_cnt : ∀ {ps : List Str} {st st' : List (List T)}, pars st ps = some st' → st'.length + ps.countP isR = st.length + ps.countP isL
  | [], st, st', h => by cases h; rfl
  | p :: r, st, st', h => by
    have h' : (stepP st p).bind (fun s => pars s r) = some st' := h
    cases e : stepP st p with
    | none => rw [e] at h'; cases h'
    | some s1 =>
      rw [e] at h'
      have i1 := pars_cnt (show pars s1 r = some st' from h')
      have i2 := step_cnt e
      rw [List.countP_cons, List.countP_cons]
      omega
theorem pars_odd {ps : List Str} (h : ps.countP isL ≠ ps.countP isR) : ∀ ts, pars [[]] ps ≠ some [ts] := fun ts e => by
  have := pars_cnt e
  simp at this
  exact h this.symm
theorem even_good {ps : List Str} {ts : List T} (h : pars [[]] ps = some [ts]) : ps.countP isL = ps.countP isR := by
  have := pars_cnt h
  simp at this
  exact this.symm
theorem pars_deep : ∀ (k : Nat) (st : List (List T)) (rest : List Str), 21 < st.length + k → st.length ≤ 21 → pars st (List.replicate k ("(" : Str) ++ rest) = none
  | 0, st, rest, h, h2 => by omega
  | k + 1, st, rest, h, h2 => by
    rw [List.replicate_succ, List.cons_append]
    show (stepP st "(").bind _ = none
    have e : stepP st "(" = if st.length ≤ 20 then some ([] :: st) else none := by
      unfold stepP
      rw [decide_eq_true rfl, if_pos rfl]
    rw [e]
    by_cases hl : st.length ≤ 20
    · rw [if_pos hl]
      exact pars_deep k ([] :: st) rest (by simp; omega) (by simp; omega)
    · rw [if_neg hl]; rfl
theorem word_signs {z : Str} (h : wordB z = true) : ∀ c ∈ z.cps.toList, (97 ≤ c ∧ c ≤ 122) ∨ (65 ≤ c ∧ c ≤ 90) ∨ c = 46 ∨ c = 63 ∨ c = 45 ∨ c = 62 := by
  unfold wordB at h
  simp only [Bool.or_eq_true] at h
  intro c hc
  rcases h with h | h | h | h | h
  · unfold smallB okLen at h
    simp only [Bool.and_eq_true, decide_eq_true_eq] at h
    exact .inl (small_range (List.all_eq_true.mp h.2 c hc))
  · obtain ⟨d, r, e, h1, h2, h3, _⟩ := great_parts h
    rw [e] at hc
    rcases List.mem_cons.mp hc with rfl | hc
    · exact .inr (.inl ⟨h1, h2⟩)
    · exact .inl (h3 c hc)
  · unfold pathB at h
    split at h
    · rename_i a b hs
      simp only [Bool.and_eq_true] at h
      have hz : z.cps.toList = repL 46 [46] z.cps.toList := by
        unfold repL
        have : ∀ l : List Nat, (l.flatMap fun a => if a = 46 then [46] else [a]) = l := by
          intro l
          induction l with
          | nil => rfl
          | cons x l ih =>
            rw [List.flatMap_cons, ih]
            split
            · rename_i hx; rw [hx]; rfl
            · rfl
        exact (this _).symm
      rw [hz, ← joinL_splL, hs] at hc
      have hc' : c ∈ a ++ [46] ++ b := hc
      obtain ⟨d, r, e, h1, h2, h3, _⟩ := great_parts h.1
      obtain ⟨n, hl, _⟩ := name_let h.2
      have ea : a = d :: r := e
      rcases List.mem_append.mp hc' with hc | hc
      · rcases List.mem_append.mp hc with hc | hc
        · rw [ea] at hc
          rcases List.mem_cons.mp hc with rfl | hc
          · exact .inr (.inl ⟨h1, h2⟩)
          · exact .inl (h3 c hc)
        · exact .inr (.inr (.inl (by simpa using hc)))
      · exact .inl (hl.mem (show c ∈ (⟨b.toArray⟩ : Str).cps.toList from hc))
    · cases h
  · unfold varB smallB okLen at h
    simp only [Bool.and_eq_true, decide_eq_true_eq] at h
    cases e : z.cps.toList with
    | nil => rw [e] at hc; cases hc
    | cons d r =>
      have h1 := h.1
      rw [e] at h1 hc
      cases h1
      rcases List.mem_cons.mp hc with rfl | hc
      · exact .inr (.inr (.inr (.inl rfl)))
      · have er : (restS z).cps.toList = r := by unfold restS; rw [e]; rfl
        exact .inl (small_range (List.all_eq_true.mp h.2.2 c (by rw [er]; exact hc)))
  · have e := V.str.inj (of_decide_eq_true h)
    rw [e, show ("->" : Str).cps.toList = [45, 62] by decide +kernel] at hc
    simp at hc
    rcases hc with rfl | rfl
    · exact .inr (.inr (.inr (.inr (.inl rfl))))
    · exact .inr (.inr (.inr (.inr (.inr rfl))))
theorem nt_signs {z : Str} (h : ntB z = true) : ∀ c ∈ z.cps.toList, (48 ≤ c ∧ c ≤ 57) ∨ c = 45 := by
  unfold ntB at h
  simp only [Bool.and_eq_true] at h
  have ha := h.2.1
  have fr : ∀ c, inS figS c = true → 48 ≤ c ∧ c ≤ 57 := fun c hc => (show ∀ d ∈ figS.cps.toList, 48 ≤ d ∧ d ≤ 57 by decide +kernel) c (of_decide_eq_true hc)
  intro c hc
  unfold figs allS at ha
  split at ha
  · rename_i hh
    cases e : z.cps.toList with
    | nil => rw [e] at hc; cases hc
    | cons d r =>
      rw [e] at hh hc
      cases hh
      rcases List.mem_cons.mp hc with rfl | hc
      · exact .inr rfl
      · have er : (restS z).cps.toList = r := by unfold restS; rw [e]; rfl
        exact .inl (fr c (List.all_eq_true.mp ha c (by rw [er]; exact hc)))
  · exact .inl (fr c (List.all_eq_true.mp ha c hc))
theorem bad_sign {z : Str} {c : Nat} (hc : c ∈ z.cps.toList) (h : ¬ ((97 ≤ c ∧ c ≤ 122) ∨ (65 ≤ c ∧ c ≤ 90) ∨ c = 46 ∨ c = 63 ∨ c = 45 ∨ c = 62 ∨ (48 ≤ c ∧ c ≤ 57))) : BadP z := by
  refine ⟨?_, ?_⟩
  · cases e : ntB z with
    | false => rfl
    | true => rcases nt_signs e c hc with q | q <;> exact absurd (by omega) h
  · cases e : wordB z with
    | false => rfl
    | true => have := word_signs e c hc; exact absurd (by omega) h
end Fw
set_option Elab.async false
set_option linter.all false
set_option maxRecDepth 100000
namespace Fw
open PySem PySem.Spec PyProof.Rows L2
abbrev s_fig : Stmt := top 100
abbrev s_bnu : Stmt := top 101
theorem sl_to (z : Str) (k : Nat) (h : k ≤ z.length) : (Txt.slice z none (some (k : Int))).cps.toList = z.cps.toList.take k := by
  have q := eq_of_beq (slice_closes_toL (x := z) (j := k) (by omega) (by omega))
  rw [q]
  simp
theorem sl_from (z : Str) (k : Nat) (h : k ≤ z.length) : (Txt.slice z (some (k : Int)) none).cps.toList = z.cps.toList.drop k := by
  have q := eq_of_beq (slice_closes_fromL (x := z) (i := k) (b := z.length) (by omega) (by omega) rfl)
  rw [q]
  have e : ((z.length : Int) - k).toNat = (z.cps.toList.drop k).length := by
    rw [List.length_drop, len_toList]
    omega
  rw [e]
  show (List.take (z.cps.toList.drop k).length (z.cps.toList.drop (k : Int).toNat)) = _
  rw [Int.toNat_natCast, List.take_length]
structure Figs (z : Str) (n : Nat) : Prop where
  len : z.length = n
  all : ∀ c ∈ z.cps.toList, 48 ≤ c ∧ c ≤ 57
structure BadW (z : Str) : Prop where
  bad : BadP z
  cl : Clean z.cps.toList
  lo : 1 ≤ z.length
  hi : z.length ≤ 60
theorem BadW.br {z : Str} (h : BadW z) : isBr z = false := by
  obtain ⟨c1, c2⟩ := clean_ne h.cl
  refine decide_eq_false fun hm => ?_
  unfold brL at hm
  simp at hm
  rcases hm with e | e
  · rw [e] at c1; exact absurd c1 (by decide +kernel)
  · rw [e] at c2; exact absurd c2 (by decide +kernel)
theorem clean_of {z : Str} (h : ∀ c ∈ z.cps.toList, 42 ≤ c) : Clean z.cps.toList := fun c hc => by have := h c hc; exact ⟨by omega, by omega, by omega, by omega⟩
theorem fig_noword {z : Str} {c : Nat} (hc : c ∈ z.cps.toList) (h1 : 48 ≤ c) (h2 : c ≤ 57) : wordB z = false := by
  cases e : wordB z with
  | false => rfl
  | true => have := word_signs e c hc; omega
theorem nt_false_len {z : Str} (h : 30 < (figs z).length) : ntB z = false := by
  unfold ntB
  rw [decide_eq_false (show ¬ (figs z).length ≤ 30 by omega)]
  simp
theorem nt_false_0 {z : Str} {r : List Nat} (h : (figs z).cps.toList = 48 :: r) (hz : z ≠ "0") : ntB z = false := by
  unfold ntB
  have e1 : decide (V.str z = .str "0") = false := decide_eq_false fun e => hz (V.str.inj e)
  have e2 : decide (V.str ⟨#[(figs z).cps.toList.getD 0 0]⟩ = .str "0") = true := decide_eq_true (by rw [h]; exact congrArg V.str (show (⟨#[48]⟩ : Str) = "0" by decide +kernel))
  rw [e1, e2]
  simp
inductive spFig (vs : List V) (H : Hp) (Q : VK) (E_ : XK) : Prop where
  | mk (st : Addr) (n : Nat) : vs = [.ref st, .int n] → StOk H st → n ≤ 50 → (∀ z H', Figs z n → Grow st H H' → Q (.str z) H') → spFig vs H Q E_
inductive spBad (vs : List V) (H : Hp) (Q : VK) (E_ : XK) : Prop where
  | mk (st : Addr) : vs = [.ref st] → StOk H st → (∀ z H', BadW z → Grow st H H' → Q (.str z) H') → spBad vs H Q E_
theorem bad_lead {sg : Str} {d : Nat} {y : Str} {n : Nat} (hs : sg.cps.toList = [] ∨ sg.cps.toList = [45]) (hd : 48 ≤ d ∧ d ≤ 57) (hy : Figs y n) (h : (d = 48 ∧ 1 ≤ n ∧ n ≤ 50) ∨ (30 ≤ n ∧ n ≤ 50)) : BadW (sg ++ ⟨#[d]⟩ ++ y) := by
  have ez : (sg ++ ⟨#[d]⟩ ++ y : Str).cps.toList = sg.cps.toList ++ (d :: y.cps.toList) := by
    rw [cps_app, cps_app, List.append_assoc]
    rfl
  have ly : y.cps.toList.length = n := by rw [len_toList]; exact hy.len
  have f : (figs (sg ++ ⟨#[d]⟩ ++ y)).cps.toList = d :: y.cps.toList := by
    unfold figs
    rw [ez]
    rcases hs with e | e
    · rw [e, List.nil_append]
      rw [if_neg (by simp; omega), ez, e]
      rfl
    · rw [e]
      rw [if_pos (by simp)]
      unfold restS
      rw [ez, e]
      rfl
  have fl : (figs (sg ++ ⟨#[d]⟩ ++ y)).length = n + 1 := by rw [← len_toList, f]; simp [ly]
  have zl : (sg ++ ⟨#[d]⟩ ++ y : Str).length = sg.cps.toList.length + (n + 1) := by rw [← len_toList, ez]; simp [ly]
  have sl : sg.cps.toList.length ≤ 1 := by rcases hs with e | e <;> rw [e] <;> decide
  refine ⟨⟨?_, fig_noword (c := d) (by rw [ez]; simp) hd.1 hd.2⟩, clean_of fun c hc => ?_, by omega, by omega⟩
  · rcases h with ⟨h1, h2, _⟩ | ⟨h1, _⟩
    · subst h1
      refine nt_false_0 f fun e => ?_
      have : (sg ++ ⟨#[48]⟩ ++ y : Str).length = 1 := by rw [e]; decide +kernel
      omega
    · exact nt_false_len (by omega)
  · rw [ez] at hc
    rcases List.mem_append.mp hc with hc | hc
    · rcases hs with e | e
      · rw [e] at hc; cases hc
      · rw [e] at hc
        have : c = 45 := by simpa using hc
        omega
    · rcases List.mem_cons.mp hc with rfl | hc
      · omega
      · have := hy.all c hc; omega
theorem bad_mid {a b : List Nat} {z m : Str} {c : Nat} (ha : ∀ x ∈ a, 48 ≤ x ∧ x ≤ 57) (hb : ∀ x ∈ b, 48 ≤ x ∧ x ≤ 57) (na : a ≠ []) (hz : z.cps.toList = a ++ c :: b) (hc : (97 ≤ c ∧ c ≤ 122) ∨ c = 45 ∨ c = 46 ∨ c = 63) (hl : a.length + b.length ≤ 50) : BadW z := by
  have zl : z.length = a.length + b.length + 1 := by rw [← len_toList, hz]; simp; omega
  cases a with
  | nil => exact absurd rfl na
  | cons d a =>
  have hd := ha d (by simp)
  have hcm : c ∈ z.cps.toList := by rw [hz]; simp
  refine ⟨⟨?_, fig_noword (c := d) (by rw [hz]; simp) hd.1 hd.2⟩, clean_of fun x hx => ?_, by omega, by omega⟩
  · have f : figs z = z := by unfold figs; rw [hz]; simp; omega
    unfold ntB
    have : allS (figs z) figS = false := by
      rw [f]
      cases e : allS z figS with
      | false => rfl
      | true =>
        have := (show ∀ d ∈ figS.cps.toList, 48 ≤ d ∧ d ≤ 57 by decide +kernel) c (of_decide_eq_true (List.all_eq_true.mp e c hcm))
        omega
    rw [this]
    simp
  · rw [hz] at hx
    rcases List.mem_append.mp hx with h | h
    · have := ha x h; omega
    · rcases List.mem_cons.mp h with rfl | h
      · omega
      · have := hb x h; omega
section
variable {P : Program} {w : World} {K : PySem.W.Frag} {mg : Str → Option Value} {base : Heap} {f : Addr} {fd : FuncData}
theorem sc_fig : FnScope ["_law_state", "_law_many", "_law_figures_here", "_law_k"] ["_law_state", "_law_many"] (defScope s_fig) := ⟨rfl, rfl, rfl, by decide +kernel, rfl, by decide +kernel, by decide +kernel⟩
theorem ok_fig (F : Fun K "_law_figures" "_law_figures" s_fig f fd) (mr : mg "range" = none) (h0 : Has P w K mg base 1 "_law_next" ["_law_state", "_law_many"] spNext) : FnOk P w K mg base CX0 2 f fd ["_law_state", "_law_many"] spFig := by
  refine F.ok sc_fig (fun cdv A outer s H vs Q E hr h => ?_)
  obtain ⟨st, n, rfl, hs, hn, q⟩ := h
  refine ⟨_, pss_cons (pset 2 sc_fig.nd pe_str)
    (pss_cons (ps_for PassesOwn.never rfl (pi_range1 rfl mr (pa_cons (pv 1) pa_nil)) (pg_name (i := 3) sc_fig.nd rfl (Or.inl rfl))
      (pss_one (ps_aug (i := 2) sc_fig.nd rfl (Or.inl rfl) (pe_ix ix_str pe_str (pcall h0 hr (by decide) rfl (pa_cons (pv 0) (pa_cons pe_int pa_nil))) (fun _ _ => rfl)) iop_add_str)))
    (pss_one (ps_ret (pv 2)))), ?_⟩
  refine ⟨_, rfl, n, rfl, by omega, by omega, for_range (n := (n : Int).toNat) (fun i σ H' => ∃ (z : Str) (o : Option V), σ = [some (.ref st), some (.int n), some (.str z), o] ∧ Figs z i ∧ Grow st H H') ⟨"", none, rfl, ⟨by decide +kernel, by rw [show ("" : Str).cps.toList = [] by decide +kernel]; intro c hc; cases hc⟩, Grow.refl hs⟩ ?_ ?_⟩
  · rintro i σ H' hi ⟨z, o, rfl, hz, g⟩
    refine ⟨_, rfl, _, rfl, st, 10, rfl, g.ok, by decide, by decide, fun d H2 d0 d1 g2 => ?_⟩
    have e10 : ("0123456789" : Str).cps.toList = [48, 49, 50, 51, 52, 53, 54, 55, 56, 57] := by decide +kernel
    have hat : atI ("0123456789" : Str).cps.toList d = some (48 + d.toNat) := by
      rw [e10]
      have : d = 0 ∨ d = 1 ∨ d = 2 ∨ d = 3 ∨ d = 4 ∨ d = 5 ∨ d = 6 ∨ d = 7 ∨ d = 8 ∨ d = 9 := by omega
      rcases this with rfl | rfl | rfl | rfl | rfl | rfl | rfl | rfl | rfl | rfl <;> rfl
    have l1 : (z ++ ⟨#[48 + d.toNat]⟩ : Str).length = z.length + 1 := len_app _ _
    have hzl := hz.len
    refine ⟨"0123456789", d, 48 + d.toNat, rfl, rfl, small (by rw [show ("0123456789" : Str).length = 10 by decide +kernel]; decide), hat, z, ⟨#[48 + d.toNat]⟩, rfl, rfl, small (by show z.length + 1 ≤ 1000000; omega), ?_⟩
    refine ⟨z ++ ⟨#[48 + d.toNat]⟩, _, rfl, ⟨by omega, fun c hc => ?_⟩, g.trans g2⟩
    rw [cps_app] at hc
    rcases List.mem_append.mp hc with h | h
    · exact hz.all c h
    · have : c = 48 + d.toNat := by simpa using h
      omega
  · rintro σ H' ⟨z, o, rfl, hz, g⟩
    exact ⟨_, rfl, q z H' (by simpa using hz) g⟩
end
end Fw
set_option Elab.async false
set_option linter.all false
set_option maxRecDepth 100000
namespace Fw
open PySem PySem.Spec PyProof.Rows L2
theorem at_strs {zs : List Str} {d : Int} (h0 : 0 ≤ d) (h1 : d < zs.length) : ∃ z ∈ zs, atI (zs.map V.str) d = some (.str z) := by
  have hj : d.toNat < zs.length := by omega
  refine ⟨zs[d.toNat], List.getElem_mem hj, ?_⟩
  have e : d = (d.toNat : Int) := by omega
  have := atI_nat (xs := zs.map V.str) (j := d.toNat) (v := .str zs[d.toNat]) (by rw [List.getElem?_map, List.getElem?_eq_getElem hj]; rfl)
  rw [← e] at this
  exact this
theorem pick_strs {K : PySem.W.Frag} {st : Addr} {H : Hp} (zs : List Str) {n : Int} {C : VK} {i : Nat} {σ : L2.St} {tA : TA} (hA : ∀ k, k (zs.map V.str) H → tA σ H k) (hs : StOk H st) (h0 : σ[i]? = some (some (.ref st))) (hn : n = zs.length) (n0 : 0 < n) (n1 : n ≤ 100)
    (q : ∀ z ∈ zs, ∀ H', Grow st H H' → C (.str z) H') : tOp (rIxL K) (tLst tA) (tCall spNext [] E0 (tCons (tVar i) (tCons (tC (.int n)) tNil))) σ H C := by
  refine hA _ ⟨small (by rw [List.length_map]; omega), fun p hp => ⟨_, h0, st, n, rfl, hs.same (same_new hp _), n0, by omega, fun d H1 d0 d1 g1 => ?_⟩⟩
  obtain ⟨z, hz, hat⟩ := at_strs (zs := zs) d0 (by omega)
  exact ⟨p, _, d, .str z, rfl, rfl, SqL.of (g1.1 _ _ (fresh_st hs hp) upd_same), hat, q z hz H1 ((grow_new hs hp).trans g1)⟩
theorem badw_mk {z : Str} (h1 : ntB z = false) (h2 : wordB z = false) (h3 : z.cps.toList.all (fun c => decide (42 ≤ c)) = true) (h4 : 1 ≤ z.length) (h5 : z.length ≤ 60) : BadW z :=
  ⟨⟨h1, h2⟩, clean_of fun c hc => of_decide_eq_true (List.all_eq_true.mp h3 c hc), h4, h5⟩
theorem bad_three : ∀ sg ∈ ([("-" : Str), "--", "+"] : List Str), ∀ k < 2, ∀ m < 2, ntB (sg ++ repS k "7" ++ repS m "-" ++ "-") = false ∧ wordB (sg ++ repS k "7" ++ repS m "-" ++ "-") = false ∧ (sg ++ repS k "7" ++ repS m "-" ++ "-").cps.toList.all (fun c => decide (42 ≤ c)) = true ∧ 1 ≤ (sg ++ repS k "7" ++ repS m "-" ++ "-" : Str).length ∧ (sg ++ repS k "7" ++ repS m "-" ++ "-" : Str).length ≤ 60 := by decide +kernel
section
variable {P : Program} {w : World} {K : PySem.W.Frag} {mg : Str → Option Value} {base : Heap} {f : Addr} {fd : FuncData}
abbrev nB : List Str := ["_law_state", "_law_way", "_law_spot", "_law_figures_here"]
theorem sc_bnu : FnScope nB ["_law_state"] (defScope s_bnu) := ⟨rfl, rfl, rfl, by decide +kernel, rfl, by decide +kernel, by decide +kernel⟩
set_option maxHeartbeats 4000000 in
theorem ok_bnu (F : Fun K "_law_bad_number" "_law_bad_number" s_bnu f fd) (h0 : Has P w K mg base 1 "_law_next" ["_law_state", "_law_many"] spNext) (h1 : Has P w K mg base 2 "_law_figures" ["_law_state", "_law_many"] spFig) (h2 : Has P w K mg base 2 "_law_letters" ["_law_state", "_law_long"] spLetters) :
    FnOk P w K mg base CX0 3 f fd ["_law_state"] spBad := by
  refine F.ok sc_bnu (fun cdv A outer s H vs Q E hr h => ?_)
  obtain ⟨st, rfl, hs, q⟩ := h
  refine ⟨_, pss_cons (pset 1 sc_bnu.nd (pcall h0 hr (by decide) rfl (pa_cons (pv 0) (pa_cons pe_int pa_nil))))
    (pss_cons (ps_if (pt_cmpR op_eq (pv 1) pe_int) (pss_one (ps_ret (pe_op op_add_str (pe_op op_add_str (pe_ix (ixL K) (pe_lst (pa_cons pe_str (pa_cons pe_str pa_nil))) (pcall h0 hr (by decide) rfl (pa_cons (pv 0) (pa_cons pe_int pa_nil)))) pe_str)
        (pcall h1 hr (by decide) rfl (pa_cons (pv 0) (pa_cons (pe_op op_add pe_int (pcall h0 hr (by decide) rfl (pa_cons (pv 0) (pa_cons pe_int pa_nil)))) pa_nil)))))) pss_nil)
    (pss_cons (ps_if (pt_cmpR op_eq (pv 1) pe_int) (pss_one (ps_ret (pe_op op_add_str (pe_op op_add_str (pe_ix (ixL K) (pe_lst (pa_cons pe_str (pa_cons pe_str pa_nil))) (pcall h0 hr (by decide) rfl (pa_cons (pv 0) (pa_cons pe_int pa_nil)))) pe_str)
        (pcall h1 hr (by decide) rfl (pa_cons (pv 0) (pa_cons (pe_ix (ixL K) (pe_lst (pa_cons pe_int (pa_cons pe_int (pa_cons pe_int (pa_cons pe_int pa_nil))))) (pcall h0 hr (by decide) rfl (pa_cons (pv 0) (pa_cons pe_int pa_nil)))) pa_nil)))))) pss_nil)
    (pss_cons (ps_if (pt_cmpR op_eq (pv 1) pe_int) (pss_one (ps_ret pe_str)) pss_nil)
    (pss_cons (ps_if (pt_cmpR op_eq (pv 1) pe_int) (pss_one (ps_ret (pe_op op_add_str (pe_op op_add_str (pe_op op_add_str (pe_ix (ixL K) (pe_lst (pa_cons pe_str (pa_cons pe_str (pa_cons pe_str pa_nil)))) (pcall h0 hr (by decide) rfl (pa_cons (pv 0) (pa_cons pe_int pa_nil))))
        (pe_op op_mulS pe_str (pcall h0 hr (by decide) rfl (pa_cons (pv 0) (pa_cons pe_int pa_nil))))) (pe_op op_mulS pe_str (pcall h0 hr (by decide) rfl (pa_cons (pv 0) (pa_cons pe_int pa_nil))))) pe_str))) pss_nil)
    (pss_cons (pset 2 sc_bnu.nd (pe_op op_add pe_int (pcall h0 hr (by decide) rfl (pa_cons (pv 0) (pa_cons pe_int pa_nil)))))
    (pss_cons (pset 3 sc_bnu.nd (pe_op op_add_str pe_str (pcall h1 hr (by decide) rfl (pa_cons (pv 0) (pa_cons pe_int pa_nil)))))
    (pss_one (ps_ret (pe_op op_add_str (pe_op op_add_str (pe_slice sl_str (pv 3) po_none (po_some (pv 2))) (pe_ix (ixL K) (pe_lst (pa_cons (pcall h2 hr (by decide) rfl (pa_cons (pv 0) (pa_cons pe_int pa_nil))) (pa_cons pe_str (pa_cons pe_str (pa_cons pe_str pa_nil))))) (pcall h0 hr (by decide) rfl (pa_cons (pv 0) (pa_cons pe_int pa_nil))))) (pe_slice sl_str (pv 3) (po_some (pv 2)) po_none)))))))))), ?_⟩
  refine ⟨_, rfl, st, 6, rfl, hs, by decide, by decide, fun d H1 d0 d1 g1 => ?_⟩
  have sgs : ∀ sg ∈ ([("" : Str), "-"] : List Str), sg.cps.toList = [] ∨ sg.cps.toList = [45] := by decide +kernel
  have sgl : ∀ {sg : Str}, (sg.cps.toList = [] ∨ sg.cps.toList = [45]) → sg.length ≤ 1 := fun {sg} h => by rw [← len_toList]; rcases h with e | e <;> rw [e] <;> decide
  refine ⟨_, rfl, rfl, _, rfl, ite2 (fun _ => ?_) (fun _ => ?_)⟩
  · show tOp (rIxL K) (tLst _) (tCall spNext [] E0 (tCons (tVar 0) (tCons (tC (.int 2)) tNil))) _ _ _
    refine pick_strs ["", "-"] (fun _ h => h) g1.ok rfl rfl (by decide) (by decide) fun sg hsg H2 g2 => ?_
    have hsg' := sgs sg hsg
    have l1 := sgl hsg'
    refine ⟨sg, "0", rfl, rfl, small (by rw [show ("0" : Str).length = 1 by decide +kernel]; omega), _, rfl, _, rfl, st, 29, rfl, g2.ok, by decide, by decide, fun e H3 e0 e1 g3 => ⟨1, e, rfl, rfl, ?_⟩⟩
    refine ⟨st, (1 + e).toNat, by rw [show (((1 + e).toNat : Nat) : Int) = 1 + e by omega]; rfl, g3.ok, by omega, fun y H4 hy g4 => ?_⟩
    have ly := hy.len
    refine ⟨sg ++ "0", y, rfl, rfl, small (by rw [len_app, show ("0" : Str).length = 1 by decide +kernel]; omega), ?_⟩
    exact q _ _ (bad_lead (d := 48) hsg' (by decide) hy (.inl ⟨rfl, by omega, by omega⟩)) (((g1.trans g2).trans g3).trans g4)
  refine ⟨_, rfl, rfl, _, rfl, ite2 (fun _ => ?_) (fun _ => ?_)⟩
  · show tOp (rIxL K) (tLst _) (tCall spNext [] E0 (tCons (tVar 0) (tCons (tC (.int 2)) tNil))) _ _ _
    refine pick_strs ["", "-"] (fun _ h => h) g1.ok rfl rfl (by decide) (by decide) fun sg hsg H2 g2 => ?_
    have hsg' := sgs sg hsg
    have l1 := sgl hsg'
    refine ⟨sg, "1", rfl, rfl, small (by rw [show ("1" : Str).length = 1 by decide +kernel]; omega), _, rfl, small (by show 4 ≤ 1000000; decide), fun l hl => ⟨_, rfl, st, 4, rfl, g2.ok.same (same_new hl _), by decide, by decide, fun e H3 e0 e1 g3 => ?_⟩⟩
    have hat : ∃ m : Nat, 30 ≤ m ∧ m ≤ 45 ∧ atI [V.int 30, .int 30, .int 31, .int 45] e = some (.int m) := by
      have : e = 0 ∨ e = 1 ∨ e = 2 ∨ e = 3 := by omega
      rcases this with rfl | rfl | rfl | rfl
      · exact ⟨30, by decide, by decide, rfl⟩
      · exact ⟨30, by decide, by decide, rfl⟩
      · exact ⟨31, by decide, by decide, rfl⟩
      · exact ⟨45, by decide, by decide, rfl⟩
    obtain ⟨m, m0, m1, hat⟩ := hat
    refine ⟨l, _, e, .int m, rfl, rfl, SqL.of (g3.1 _ _ (fresh_st g2.ok hl) upd_same), hat, st, m, rfl, g3.ok, by omega, fun y H4 hy g4 => ?_⟩
    have ly := hy.len
    refine ⟨sg ++ "1", y, rfl, rfl, small (by rw [len_app, show ("1" : Str).length = 1 by decide +kernel]; omega), ?_⟩
    exact q _ _ (bad_lead (d := 49) hsg' (by decide) hy (.inr ⟨by omega, by omega⟩)) (((g1.trans g2).trans ((grow_new g2.ok hl).trans g3)).trans g4)
  refine ⟨_, rfl, rfl, _, rfl, ite2 (fun _ => ?_) (fun _ => ?_)⟩
  · exact q _ _ (badw_mk (by decide +kernel) (by decide +kernel) (by decide +kernel) (by decide +kernel) (by decide +kernel)) g1
  refine ⟨_, rfl, rfl, _, rfl, ite2 (fun _ => ?_) (fun _ => ?_)⟩
  · show tOp (rIxL K) (tLst _) (tCall spNext [] E0 (tCons (tVar 0) (tCons (tC (.int 3)) tNil))) _ _ _
    refine pick_strs ["-", "--", "+"] (fun _ h => h) g1.ok rfl rfl (by decide) (by decide) fun sg hsg H2 g2 => ?_
    have l1 : sg.length ≤ 2 := (show ∀ s ∈ ([("-" : Str), "--", "+"] : List Str), s.length ≤ 2 by decide +kernel) sg hsg
    refine ⟨_, rfl, st, 2, rfl, g2.ok, by decide, by decide, fun a H3 a0 a1 g3 => ⟨"7", a.toNat, rfl, by rw [show ((a.toNat : Nat) : Int) = a by omega], by rw [show ("7" : Str).length = 1 by decide +kernel]; omega, by omega, ?_⟩⟩
    have la := repS_len a.toNat "7"
    rw [show ("7" : Str).length = 1 by decide +kernel] at la
    refine ⟨sg, _, rfl, rfl, small (by omega), _, rfl, st, 2, rfl, g3.ok, by decide, by decide, fun b H4 b0 b1 g4 => ⟨"-", b.toNat, rfl, by rw [show ((b.toNat : Nat) : Int) = b by omega], by rw [show ("-" : Str).length = 1 by decide +kernel]; omega, by omega, ?_⟩⟩
    have lb := repS_len b.toNat "-"
    rw [show ("-" : Str).length = 1 by decide +kernel] at lb
    refine ⟨_, _, rfl, rfl, small (by rw [len_app]; omega), _, _, rfl, rfl, small (by rw [len_app, len_app, show ("-" : Str).length = 1 by decide +kernel]; omega), ?_⟩
    obtain ⟨k1, k2, k3, k4, k5⟩ := bad_three sg hsg a.toNat (by omega) b.toNat (by omega)
    exact q _ _ (badw_mk k1 k2 k3 k4 k5) (((g1.trans g2).trans g3).trans g4)
  refine ⟨_, rfl, st, 4, rfl, g1.ok, by decide, by decide, fun e H2 e0 e1 g2 => ⟨1, e, rfl, rfl, ?_⟩⟩
  refine ⟨_, rfl, st, 5, rfl, g2.ok, by decide, fun y H3 hy g3 => ?_⟩
  have ly := hy.len
  have l6 : ("1" ++ y : Str).length = 6 := by rw [len_app, show ("1" : Str).length = 1 by decide +kernel]; omega
  refine ⟨"1", y, rfl, rfl, small (by rw [show ("1" : Str).length = 1 by decide +kernel]; omega), ?_⟩
  have es : (1 + e : Int) = ((1 + e.toNat : Nat) : Int) := by omega
  have t1 : (Txt.slice ("1" ++ y : Str) none (some (1 + e))).cps.toList = ("1" ++ y : Str).cps.toList.take (1 + e.toNat) := by rw [es]; exact sl_to _ _ (by omega)
  have t2 : (Txt.slice ("1" ++ y : Str) (some (1 + e)) none).cps.toList = ("1" ++ y : Str).cps.toList.drop (1 + e.toNat) := by rw [es]; exact sl_from _ _ (by omega)
  have ll : ("1" ++ y : Str).cps.toList.length = 6 := by rw [len_toList]; exact l6
  have n1 : (Txt.slice ("1" ++ y : Str) none (some (1 + e))).length = 1 + e.toNat := by rw [← len_toList, t1, List.length_take]; omega
  have n2 : (Txt.slice ("1" ++ y : Str) (some (1 + e)) none).length ≤ 6 := by rw [← len_toList, t2, List.length_drop]; omega
  have al : ∀ c ∈ ("1" ++ y : Str).cps.toList, 48 ≤ c ∧ c ≤ 57 := fun c hc => by
    rw [cps_app] at hc
    rcases List.mem_append.mp hc with h | h
    · exact (show ∀ c ∈ ("1" : Str).cps.toList, 48 ≤ c ∧ c ≤ 57 by decide +kernel) c h
    · exact hy.all c h
  refine ⟨_, rfl, _, rfl, 1 + e, rfl, _, rfl, small (by omega), _, rfl, st, 1, rfl, g3.ok, by decide, fun z1 H4 hz1 g4 => ?_⟩
  refine ⟨small (by show 4 ≤ 1000000; decide), fun l hl => ⟨_, rfl, st, 4, rfl, g4.ok.same (same_new hl _), by decide, by decide, fun m H5 m0 m1 g5 => ?_⟩⟩
  obtain ⟨z, hz, hat⟩ := at_strs (zs := [z1, "-", ".", "?"]) m0 (by simpa using m1)
  have hc : ∃ c, z.cps.toList = [c] ∧ ((97 ≤ c ∧ c ≤ 122) ∨ c = 45 ∨ c = 46 ∨ c = 63) := by
    rcases List.mem_cons.mp hz with rfl | hz
    · have k := hz1.len
      rw [← len_toList] at k
      obtain ⟨c, hc⟩ := List.length_eq_one_iff.mp k
      exact ⟨c, hc, .inl (hz1.mem (by rw [hc]; exact List.mem_cons_self))⟩
    rcases List.mem_cons.mp hz with rfl | hz
    · exact ⟨45, by decide +kernel, by decide⟩
    rcases List.mem_cons.mp hz with rfl | hz
    · exact ⟨46, by decide +kernel, by decide⟩
    rcases List.mem_cons.mp hz with rfl | hz
    · exact ⟨63, by decide +kernel, by decide⟩
    · exact absurd hz (List.not_mem_nil)
  obtain ⟨c, ec, hc⟩ := hc
  have n3 : z.length = 1 := by rw [← len_toList, ec]; rfl
  refine ⟨l, _, m, .str z, rfl, rfl, SqL.of (g5.1 _ _ (fresh_st g4.ok hl) upd_same), hat, _, _, rfl, rfl, small (by omega), _, rfl, _, rfl, 1 + e, rfl, _, rfl, small (by omega), _, _, rfl, rfl, small (by rw [len_app]; omega), ?_⟩
  refine q _ _ (bad_mid (m := z) (a := ("1" ++ y : Str).cps.toList.take (1 + e.toNat)) (b := ("1" ++ y : Str).cps.toList.drop (1 + e.toNat)) (c := c) (fun x hx => al x (List.mem_of_mem_take hx)) (fun x hx => al x (List.mem_of_mem_drop hx)) (fun h => ?_) ?_ hc ?_) ((((g1.trans g2).trans g3).trans g4).trans ((grow_new g4.ok hl).trans g5))
  · have := congrArg List.length h
    rw [List.length_take, List.length_nil] at this
    omega
  · rw [cps_app, cps_app, t1, t2, ec, List.append_assoc]
    rfl
  · rw [List.length_take, List.length_drop]
    omega
end
end Fw
set_option Elab.async false
set_option linter.all false
set_option maxRecDepth 100000
namespace Fw
open PySem PySem.Spec PyProof.Rows L2
abbrev Sml (c : Nat) : Prop := 97 ≤ c ∧ c ≤ 122
inductive WK (L : List Nat) : Prop where
  | sm : (∀ c ∈ L, Sml c) → L.length ≤ 8 → WK L
  | gr (g : Nat) (r : List Nat) : L = g :: r → 65 ≤ g → g ≤ 90 → (∀ c ∈ r, Sml c) → L.length ≤ 8 → WK L
  | pa (b : List Nat) (g : Nat) (r : List Nat) : splL 46 L = [g :: r, b] → L = (g :: r) ++ 46 :: b → 65 ≤ g → g ≤ 90 → (∀ c ∈ r, Sml c) → (∀ c ∈ b, Sml c) → 1 ≤ b.length → nameB ⟨b.toArray⟩ = true → WK L
  | va (r : List Nat) : L = 63 :: r → (∀ c ∈ r, Sml c) → 1 ≤ r.length → r.length ≤ 8 → WK L
  | ar : L = [45, 62] → WK L
theorem word_kind {z : Str} (h : wordB z = true) : WK z.cps.toList := by
  unfold wordB at h
  simp only [Bool.or_eq_true] at h
  rcases h with h | h | h | h | h
  · unfold smallB okLen at h
    simp only [Bool.and_eq_true, decide_eq_true_eq] at h
    exact .sm (fun c hc => small_range (List.all_eq_true.mp h.2 c hc)) (by rw [len_toList]; exact h.1.2)
  · have hl : z.length ≤ 8 := by
      unfold greatB okLen at h
      simp only [Bool.and_eq_true, decide_eq_true_eq] at h
      exact h.1.2
    obtain ⟨d, r, e, h1, h2, h3, _⟩ := great_parts h
    exact .gr d r e h1 h2 h3 (by rw [len_toList]; exact hl)
  · unfold pathB at h
    split at h
    · rename_i a b hs
      simp only [Bool.and_eq_true] at h
      have hz : z.cps.toList = repL 46 [46] z.cps.toList := by
        unfold repL
        have : ∀ l : List Nat, (l.flatMap fun a => if a = 46 then [46] else [a]) = l := by
          intro l
          induction l with
          | nil => rfl
          | cons x l ih =>
            rw [List.flatMap_cons, ih]
            split
            · rename_i hx; rw [hx]; rfl
            · rfl
        exact (this _).symm
      obtain ⟨d, r, e, h1, h2, h3, _⟩ := great_parts h.1
      have hn := h.2
      unfold nameB smallB okLen at hn
      simp only [Bool.and_eq_true, decide_eq_true_eq] at hn
      have ea : a = d :: r := e
      have eL : z.cps.toList = a ++ 46 :: b := by
        rw [hz, ← joinL_splL, hs]
        show a ++ [46] ++ b = _
        rw [List.append_assoc]; rfl
      refine .pa b d r (by rw [hs, ea]) (by rw [eL, ea]) h1 h2 h3 (fun c hc => small_range (List.all_eq_true.mp hn.1.2 c hc)) ?_ h.2
      have := hn.1.1.1
      rw [← len_toList] at this
      exact this
    · cases h
  · unfold varB smallB okLen at h
    simp only [Bool.and_eq_true, decide_eq_true_eq] at h
    cases e : z.cps.toList with
    | nil => rw [e] at h; cases h.1
    | cons d r =>
      have h1 := h.1
      rw [e] at h1
      cases h1
      have er : (restS z).cps.toList = r := by unfold restS; rw [e]; rfl
      have l1 := h.2.1
      rw [← len_toList, er] at l1
      exact .va r rfl (fun c hc => small_range (List.all_eq_true.mp h.2.2 c (by rw [er]; exact hc))) l1.1 l1.2
  · have e := V.str.inj (of_decide_eq_true h)
    exact .ar (by rw [e]; decide +kernel)
theorem nt_not {z : Str} {c : Nat} (hc : c ∈ z.cps.toList) (h : ¬ (48 ≤ c ∧ c ≤ 57)) (h2 : c ≠ 45) : ntB z = false := by
  cases e : ntB z with
  | false => rfl
  | true => rcases nt_signs e c hc with q | q <;> omega
theorem word_not {z : Str} (h : WK z.cps.toList → False) : wordB z = false := by
  cases e : wordB z with
  | false => rfl
  | true => exact (h (word_kind e)).elim
theorem bad_A {z : Str} {x c : Nat} {t : List Nat} (e : z.cps.toList = x :: t) (hx : Sml x) (hc : c ∈ t) (h : ¬ Sml c) : BadP z := by
  refine ⟨nt_not (c := x) (by rw [e]; exact List.mem_cons_self) (by omega) (by omega), word_not fun k => ?_⟩
  rw [e] at k
  cases k with
  | sm k _ => exact h (k c (List.mem_cons_of_mem _ hc))
  | gr g r q g1 g2 _ _ => have := (List.cons.inj q).1; omega
  | pa b g r _ q g1 g2 _ _ _ _ => have := (List.cons.inj q).1; omega
  | va r q _ _ _ => have := (List.cons.inj q).1; omega
  | ar q => have := (List.cons.inj q).1; omega
theorem bad_A' {z : Str} (h : ∀ c ∈ z.cps.toList, Sml c) (l : 9 ≤ z.length) : BadP z := by
  rw [← len_toList] at l
  cases e : z.cps.toList with
  | nil => rw [e] at l; cases l
  | cons x t =>
    have hx : Sml x := h x (by rw [e]; exact List.mem_cons_self)
    refine ⟨nt_not (c := x) (by rw [e]; exact List.mem_cons_self) (by omega) (by omega), word_not fun k => ?_⟩
    rw [e] at k l
    cases k with
    | sm _ k => omega
    | gr g r q g1 g2 _ _ => have := (List.cons.inj q).1; omega
    | pa b g r _ q g1 g2 _ _ _ _ => have := (List.cons.inj q).1; omega
    | va r q _ _ _ => have := (List.cons.inj q).1; omega
    | ar q => have := (List.cons.inj q).1; omega
theorem bad_B {z : Str} {x : Nat} {t : List Nat} (e : z.cps.toList = x :: t) (h1 : 65 ≤ x) (h2 : x ≤ 90) (nd : 46 ∉ t) (h : (∃ c ∈ t, ¬ Sml c) ∨ 8 ≤ t.length) : BadP z := by
  refine ⟨nt_not (c := x) (by rw [e]; exact List.mem_cons_self) (by omega) (by omega), word_not fun k => ?_⟩
  rw [e] at k
  cases k with
  | sm k _ => have := k x List.mem_cons_self; omega
  | gr g r q _ _ k l =>
    obtain ⟨_, rfl⟩ := List.cons.inj q
    rcases h with ⟨c, hc, h⟩ | h
    · exact h (k c hc)
    · rw [List.length_cons] at l; omega
  | pa b g r _ q _ _ _ _ _ _ =>
    obtain ⟨_, q⟩ := List.cons.inj q
    exact nd (by rw [q]; exact List.mem_append_right _ List.mem_cons_self)
  | va r q _ _ _ => have := (List.cons.inj q).1; omega
  | ar q => have := (List.cons.inj q).1; omega
theorem bad_C {z : Str} {A B : List Nat} (e : z.cps.toList = A ++ 46 :: B) (na : 46 ∉ A) (h : nameB ⟨B.toArray⟩ = false ∨ ∃ c ∈ B, ¬ Sml c) : BadP z := by
  have m : 46 ∈ z.cps.toList := by rw [e]; exact List.mem_append_right _ List.mem_cons_self
  refine ⟨nt_not m (by decide) (by decide), word_not fun k => ?_⟩
  cases k with
  | sm k _ => have := k 46 m; omega
  | gr g r q _ _ k _ =>
    rw [q] at m
    rcases List.mem_cons.mp m with m | m
    · omega
    · have := k 46 m; omega
  | pa b g r hs q _ _ _ kb _ kn =>
    rw [e, splL_app B na] at hs
    have hb := (List.cons.inj hs).2
    have nb : 46 ∉ b := fun hm => by have := kb 46 hm; omega
    have : B = b := by
      rw [e] at q
      have ha := (List.cons.inj hs).1
      rw [← ha] at q
      exact (List.cons.inj (List.append_cancel_left q)).2
    subst this
    rcases h with h | ⟨c, hc, h⟩
    · rw [h] at kn; cases kn
    · exact h (kb c hc)
  | va r q k _ _ =>
    rw [q] at m
    rcases List.mem_cons.mp m with m | m
    · omega
    · have := k 46 m; omega
  | ar q => rw [q] at m; exact absurd m (by decide)
theorem bad_D {z : Str} {t : List Nat} (e : z.cps.toList = 46 :: t) : BadP z := by
  refine ⟨nt_not (c := 46) (by rw [e]; exact List.mem_cons_self) (by omega) (by omega), word_not fun k => ?_⟩
  rw [e] at k
  cases k with
  | sm k _ => have := k 46 List.mem_cons_self; omega
  | gr g r q g1 g2 _ _ => have := (List.cons.inj q).1; omega
  | pa b g r _ q g1 g2 _ _ _ _ => have := (List.cons.inj q).1; omega
  | va r q _ _ _ => have := (List.cons.inj q).1; omega
  | ar q => have := (List.cons.inj q).1; omega
theorem bad_E {z : Str} {t : List Nat} (e : z.cps.toList = 63 :: t) (h : (∃ c ∈ t, ¬ Sml c) ∨ 9 ≤ t.length ∨ t = []) : BadP z := by
  refine ⟨nt_not (c := 63) (by rw [e]; exact List.mem_cons_self) (by omega) (by omega), word_not fun k => ?_⟩
  rw [e] at k
  cases k with
  | sm k _ => have := k 63 List.mem_cons_self; omega
  | gr g r q g1 g2 _ _ => have := (List.cons.inj q).1; omega
  | pa b g r _ q g1 g2 _ _ _ _ => have := (List.cons.inj q).1; omega
  | va r q k l1 l2 =>
    obtain ⟨_, rfl⟩ := List.cons.inj q
    rcases h with ⟨c, hc, h⟩ | h | h
    · exact h (k c hc)
    · omega
    · rw [h] at l1; cases l1
  | ar q => have := (List.cons.inj q).1; omega
theorem bad_F {z : Str} {c : Nat} {t : List Nat} (e : z.cps.toList = 45 :: 62 :: c :: t) : BadP z := by
  refine ⟨nt_not (c := 62) (by rw [e]; exact List.mem_cons_of_mem _ List.mem_cons_self) (by omega) (by omega), word_not fun k => ?_⟩
  rw [e] at k
  cases k with
  | sm k _ => have := k 45 List.mem_cons_self; omega
  | gr g r q g1 g2 _ _ => have := (List.cons.inj q).1; omega
  | pa b g r _ q g1 g2 _ _ _ _ => have := (List.cons.inj q).1; omega
  | va r q _ _ _ => have := (List.cons.inj q).1; omega
  | ar q => have := congrArg List.length q; simp at this
end Fw
set_option Elab.async false
set_option linter.all false
set_option maxRecDepth 100000
namespace Fw
open PySem PySem.Spec PyProof.Rows L2
def Ge (z : Str) : Prop := ∀ c ∈ z.cps.toList, 42 ≤ c
theorem ge_app {a b : Str} (h : Ge a) (k : Ge b) : Ge (a ++ b) := fun c hc => by
  rw [cps_app] at hc
  rcases List.mem_append.mp hc with q | q
  · exact h c q
  · exact k c q
theorem badw_of {z : Str} (h : BadP z) (g : Ge z) (h1 : 1 ≤ z.length) (h2 : z.length ≤ 60) : BadW z := ⟨h, clean_of g, h1, h2⟩
structure SmN (s : Str) : Prop where
  hd : ∃ x t, s.cps.toList = x :: t ∧ Sml x ∧ ∀ c ∈ t, Sml c
  ge : Ge s
  lo : 1 ≤ s.length
  hi : s.length ≤ 9
structure GrN (s : Str) : Prop where
  hd : ∃ x t, s.cps.toList = x :: t ∧ 65 ≤ x ∧ x ≤ 90 ∧ ∀ c ∈ t, Sml c
  ge : Ge s
  lo : 1 ≤ s.length
  hi : s.length ≤ 8
theorem smN {s : Str} (h : nameB s = true) : SmN s := by
  obtain ⟨n, hl, n1, n8, _⟩ := name_let h
  have l := hl.len
  have m : ∀ c ∈ s.cps.toList, Sml c := fun c hc => hl.mem hc
  refine ⟨?_, fun c hc => by have := m c hc; omega, by omega, by omega⟩
  cases e : s.cps.toList with
  | nil => rw [← len_toList, e] at l; simp at l; omega
  | cons x t => exact ⟨x, t, rfl, m x (by rw [e]; exact List.mem_cons_self), fun c hc => m c (by rw [e]; exact List.mem_cons_of_mem _ hc)⟩
theorem grN {s : Str} (h : greatB s = true) : GrN s := by
  obtain ⟨c, r, e, h1, h2, h3, l⟩ := great_parts h
  have ll : s.length = r.length + 1 := by rw [← len_toList, e]; rfl
  refine ⟨⟨c, r, e, h1, h2, h3⟩, fun d hd => ?_, by omega, by omega⟩
  rw [e] at hd
  rcases List.mem_cons.mp hd with rfl | hd
  · omega
  · have := h3 d hd; omega
theorem GrN.nodot {s : Str} (h : GrN s) : 46 ∉ s.cps.toList := fun hm => by
  obtain ⟨x, t, e, h1, h2, h3⟩ := h.hd
  rw [e] at hm
  rcases List.mem_cons.mp hm with q | q
  · omega
  · have := h3 46 q; omega
theorem SmN.nodot {s : Str} (h : SmN s) : 46 ∉ s.cps.toList := fun hm => by
  obtain ⟨x, t, e, h1, h3⟩ := h.hd
  rw [e] at hm
  rcases List.mem_cons.mp hm with q | q
  · omega
  · have := h3 46 q; omega
theorem dotL : ("." : Str).cps.toList = [46] := by decide +kernel
theorem askL : ("?" : Str).cps.toList = [63] := by decide +kernel
theorem dot1 : ("." : Str).length = 1 := by decide +kernel
theorem ask1 : ("?" : Str).length = 1 := by decide +kernel
theorem ge_dot : Ge "." := fun c hc => by rw [dotL] at hc; simp at hc; omega
theorem ge_ask : Ge "?" := fun c hc => by rw [askL] at hc; simp at hc; omega
theorem sm_then {s y : Str} (h : SmN s) {c : Nat} (hc : c ∈ y.cps.toList) (n : ¬ Sml c) : BadP (s ++ y) := by
  obtain ⟨x, t, e, h1, h3⟩ := h.hd
  exact bad_A (x := x) (t := t ++ y.cps.toList) (c := c) (by rw [cps_app, e]; rfl) h1 (List.mem_append_right _ hc) n
theorem ask_then {y : Str} (n : (∃ c ∈ y.cps.toList, ¬ Sml c) ∨ 9 ≤ y.length) : BadP ("?" ++ y) := by
  refine bad_E (t := y.cps.toList) (by rw [cps_app, askL]; rfl) ?_
  rcases n with n | n
  · exact .inl n
  · exact .inr (.inl (by rw [len_toList]; exact n))
theorem GrN.has {g : Str} (h : GrN g) : ∃ c ∈ g.cps.toList, ¬ Sml c := by
  obtain ⟨x, t, e, h1, h2, h3⟩ := h.hd
  exact ⟨x, by rw [e]; exact List.mem_cons_self, fun k => by have := k.1; omega⟩
theorem w0 {z : Str} {n : Nat} (h : IsLet z n) (h1 : 9 ≤ n) (h2 : n ≤ 12) : BadW z := by
  have l := h.len
  exact badw_of (bad_A' (fun c hc => h.mem hc) (by omega)) (fun c hc => by have := h.mem hc; omega) (by omega) (by omega)
theorem w1 {z : Str} {n : Nat} (h : IsLet z n) (h1 : 8 ≤ n) (h2 : n ≤ 12) : BadW ("K" ++ z) := by
  have l := h.len
  have k1 : ("K" : Str).length = 1 := by decide +kernel
  have kL : ("K" : Str).cps.toList = [75] := by decide +kernel
  refine badw_of (bad_B (x := 75) (t := z.cps.toList) (by rw [cps_app, kL]; rfl) (by decide) (by decide) (fun m => by have := h.mem m; omega) (.inr (by rw [len_toList]; omega))) (ge_app (fun c hc => by rw [kL] at hc; simp at hc; omega) fun c hc => by have := h.mem hc; omega) ?_ ?_ <;> rw [len_app] <;> omega
theorem w2 {s g : Str} (hs : SmN s) (hg : GrN g) : BadW (s ++ g) := by
  obtain ⟨c, hc, n⟩ := hg.has
  have := hs.lo; have := hs.hi; have := hg.hi
  refine badw_of (sm_then hs hc n) (ge_app hs.ge hg.ge) ?_ ?_ <;> rw [len_app] <;> omega
theorem w3 {s g : Str} (hs : SmN s) (hg : GrN g) : BadW (g ++ g ++ s) := by
  obtain ⟨c, hc, n⟩ := hg.has
  obtain ⟨x, t, e, h1, h2, h3⟩ := hg.hd
  have := hs.lo; have := hs.hi; have := hg.hi
  refine badw_of (bad_B (x := x) (t := t ++ (g.cps.toList ++ s.cps.toList)) ?_ h1 h2 (fun m => ?_) (.inl ⟨c, List.mem_append_right _ (List.mem_append_left _ hc), n⟩)) (ge_app (ge_app hg.ge hg.ge) hs.ge) ?_ ?_
  · rw [cps_app, cps_app, List.append_assoc, e]; rfl
  · rcases List.mem_append.mp m with m | m
    · have := h3 46 m; omega
    · rcases List.mem_append.mp m with m | m
      · exact hg.nodot m
      · exact hs.nodot m
  all_goals rw [len_app, len_app]; omega
theorem w4 {s g : Str} (hs : SmN s) (hg : GrN g) : ∀ z ∈ [g ++ ".", "." ++ s, s ++ "." ++ s], BadW z := by
  have := hs.lo; have := hs.hi; have := hg.hi; have := dot1
  intro z hz
  rcases List.mem_cons.mp hz with rfl | hz
  · refine badw_of (bad_C (A := g.cps.toList) (B := []) (by rw [cps_app, dotL]) hg.nodot (.inl (by decide +kernel))) (ge_app hg.ge ge_dot) ?_ ?_ <;> rw [len_app] <;> omega
  rcases List.mem_cons.mp hz with rfl | hz
  · refine badw_of (bad_D (t := s.cps.toList) (by rw [cps_app, dotL]; rfl)) (ge_app ge_dot hs.ge) ?_ ?_ <;> rw [len_app] <;> omega
  rcases List.mem_cons.mp hz with rfl | hz
  · obtain ⟨x, t, e, h1, h3⟩ := hs.hd
    refine badw_of (bad_A (x := x) (t := t ++ 46 :: s.cps.toList) (c := 46) ?_ h1 (List.mem_append_right _ List.mem_cons_self) (by decide)) (ge_app (ge_app hs.ge ge_dot) hs.ge) ?_ ?_
    · rw [cps_app, cps_app, dotL, List.append_assoc, e]; rfl
    all_goals rw [len_app, len_app]; omega
  · cases hz
theorem w5 {s g : Str} (hs : SmN s) (hg : GrN g) : ∀ z ∈ [g ++ "." ++ g, g ++ "." ++ s ++ "." ++ s, g ++ ".."], BadW z := by
  have := hs.lo; have := hs.hi; have := hg.hi; have := dot1
  intro z hz
  rcases List.mem_cons.mp hz with rfl | hz
  · refine badw_of (bad_C (A := g.cps.toList) (B := g.cps.toList) (by rw [cps_app, cps_app, dotL, List.append_assoc]; rfl) hg.nodot (.inr hg.has)) (ge_app (ge_app hg.ge ge_dot) hg.ge) ?_ ?_ <;> rw [len_app, len_app] <;> omega
  rcases List.mem_cons.mp hz with rfl | hz
  · refine badw_of (bad_C (A := g.cps.toList) (B := s.cps.toList ++ 46 :: s.cps.toList) (by rw [cps_app, cps_app, cps_app, cps_app, dotL]; simp) hg.nodot (.inr ⟨46, List.mem_append_right _ List.mem_cons_self, by decide⟩)) (ge_app (ge_app (ge_app (ge_app hg.ge ge_dot) hs.ge) ge_dot) hs.ge) ?_ ?_ <;> rw [len_app, len_app, len_app, len_app] <;> omega
  rcases List.mem_cons.mp hz with rfl | hz
  · have d2 : (".." : Str).cps.toList = [46, 46] := by decide +kernel
    have l2 : (".." : Str).length = 2 := by decide +kernel
    refine badw_of (bad_C (A := g.cps.toList) (B := [46]) (by rw [cps_app, d2]) hg.nodot (.inr ⟨46, List.mem_cons_self, by decide⟩)) (ge_app hg.ge fun c hc => by rw [d2] at hc; simp at hc; omega) ?_ ?_ <;> rw [len_app] <;> omega
  · cases hz
theorem w6 {s g : Str} (hs : SmN s) (hg : GrN g) : ∀ z ∈ [("?" : Str), "?" ++ g, "??" ++ s, s ++ "?", "?1", "?a1"], BadW z := by
  have := hs.lo; have := hs.hi; have := hg.hi; have := ask1
  intro z hz
  rcases List.mem_cons.mp hz with rfl | hz
  · exact badw_mk (by decide +kernel) (by decide +kernel) (by decide +kernel) (by decide +kernel) (by decide +kernel)
  rcases List.mem_cons.mp hz with rfl | hz
  · refine badw_of (ask_then (.inl hg.has)) (ge_app ge_ask hg.ge) ?_ ?_ <;> rw [len_app] <;> omega
  rcases List.mem_cons.mp hz with rfl | hz
  · have d2 : ("??" : Str).cps.toList = [63, 63] := by decide +kernel
    have l2 : ("??" : Str).length = 2 := by decide +kernel
    refine badw_of (bad_E (t := 63 :: s.cps.toList) (by rw [cps_app, d2]; rfl) (.inl ⟨63, List.mem_cons_self, by decide⟩)) (ge_app (fun c hc => by rw [d2] at hc; simp at hc; omega) hs.ge) ?_ ?_ <;> rw [len_app] <;> omega
  rcases List.mem_cons.mp hz with rfl | hz
  · refine badw_of (sm_then hs (c := 63) (by rw [askL]; exact List.mem_cons_self) (by decide)) (ge_app hs.ge ge_ask) ?_ ?_ <;> rw [len_app] <;> omega
  rcases List.mem_cons.mp hz with rfl | hz
  · exact badw_mk (by decide +kernel) (by decide +kernel) (by decide +kernel) (by decide +kernel) (by decide +kernel)
  rcases List.mem_cons.mp hz with rfl | hz
  · exact badw_mk (by decide +kernel) (by decide +kernel) (by decide +kernel) (by decide +kernel) (by decide +kernel)
  · cases hz
theorem kept_ge : ∀ k ∈ keptL, k.cps.toList.all (fun c => decide (42 ≤ c)) = true ∧ nameB k = false := by decide +kernel
theorem w7 {g k : Str} (hg : GrN g) (hk : k ∈ keptL) : BadW (g ++ "." ++ k) := by
  have := hg.hi; have := dot1; have := kept_len8 k hk
  obtain ⟨k1, k2⟩ := kept_ge k hk
  refine badw_of (bad_C (A := g.cps.toList) (B := k.cps.toList) (by rw [cps_app, cps_app, dotL, List.append_assoc]; rfl) hg.nodot (.inl k2)) (ge_app (ge_app hg.ge ge_dot) fun c hc => of_decide_eq_true (List.all_eq_true.mp k1 c hc)) ?_ ?_ <;> rw [len_app, len_app] <;> omega
theorem w8 {z : Str} {n : Nat} (h : IsLet z n) (h1 : 9 ≤ n) (h2 : n ≤ 12) : BadW ("?" ++ z) := by
  have l := h.len; have := ask1
  refine badw_of (ask_then (.inr (by omega))) (ge_app ge_ask fun c hc => by have := h.mem hc; omega) ?_ ?_ <;> rw [len_app] <;> omega
end Fw
set_option Elab.async false
set_option linter.all false
set_option maxRecDepth 100000
namespace Fw
open PySem PySem.Spec PyProof.Rows L2
abbrev s_bna : Stmt := top 102
section
variable {P : Program} {w : World} {K : PySem.W.Frag} {mg : Str → Option Value} {base : Heap} {f : Addr} {fd : FuncData}
abbrev nBn : List Str := ["_law_state", "_law_way", "_law_great_here", "_law_small_here"]
theorem sc_bna : FnScope nBn ["_law_state"] (defScope s_bna) := ⟨rfl, rfl, rfl, by decide +kernel, rfl, by decide +kernel, by decide +kernel⟩
set_option maxHeartbeats 8000000 in
theorem ok_bna (F : Fun K "_law_bad_name" "_law_bad_name" s_bna f fd) (h0 : Has P w K mg base 1 "_law_next" ["_law_state", "_law_many"] spNext) (h2 : Has P w K mg base 2 "_law_letters" ["_law_state", "_law_long"] spLetters)
    (h3 : Has P w K mg base 1 "_law_kept" [] spKept) (h4 : Has P w K mg base 3 "_law_small" ["_law_state"] (spStr fun z => nameB z = true)) (h5 : Has P w K mg base 3 "_law_great" ["_law_state"] (spStr fun z => greatB z = true)) :
    FnOk P w K mg base CX0 4 f fd ["_law_state"] spBad := by
  refine F.ok sc_bna (fun cdv A outer s H vs Q E hr h => ?_)
  obtain ⟨st, rfl, hs, q⟩ := h
  refine ⟨_, pss_cons (pset 1 sc_bna.nd (pcall h0 hr (by decide) rfl (pa_cons (pv 0) (pa_cons pe_int pa_nil))))
    (pss_cons (pset 2 sc_bna.nd (pcall h5 hr (by decide) rfl (pa_cons (pv 0) pa_nil)))
    (pss_cons (pset 3 sc_bna.nd (pcall h4 hr (by decide) rfl (pa_cons (pv 0) pa_nil)))
    (pss_cons (ps_if (pt_cmpR op_eq (pv 1) pe_int) (pss_one (ps_ret (pcall h2 hr (by decide) rfl (pa_cons (pv 0) (pa_cons (pe_op op_add pe_int (pcall h0 hr (by decide) rfl (pa_cons (pv 0) (pa_cons pe_int pa_nil)))) pa_nil))))) pss_nil)
    (pss_cons (ps_if (pt_cmpR op_eq (pv 1) pe_int) (pss_one (ps_ret (pe_op op_add_str pe_str (pcall h2 hr (by decide) rfl (pa_cons (pv 0) (pa_cons (pe_op op_add pe_int (pcall h0 hr (by decide) rfl (pa_cons (pv 0) (pa_cons pe_int pa_nil)))) pa_nil)))))) pss_nil)
    (pss_cons (ps_if (pt_cmpR op_eq (pv 1) pe_int) (pss_one (ps_ret (pe_op op_add_str (pv 3) (pv 2)))) pss_nil)
    (pss_cons (ps_if (pt_cmpR op_eq (pv 1) pe_int) (pss_one (ps_ret (pe_op op_add_str (pe_op op_add_str (pv 2) (pv 2)) (pv 3)))) pss_nil)
    (pss_cons (ps_if (pt_cmpR op_eq (pv 1) pe_int) (pss_one (ps_ret (pe_ix (ixL K) (pe_lst (pa_cons (pe_op op_add_str (pv 2) pe_str) (pa_cons (pe_op op_add_str pe_str (pv 3)) (pa_cons (pe_op op_add_str (pe_op op_add_str (pv 3) pe_str) (pv 3)) pa_nil)))) (pcall h0 hr (by decide) rfl (pa_cons (pv 0) (pa_cons pe_int pa_nil)))))) pss_nil)
    (pss_cons (ps_if (pt_cmpR op_eq (pv 1) pe_int) (pss_one (ps_ret (pe_ix (ixL K) (pe_lst (pa_cons (pe_op op_add_str (pe_op op_add_str (pv 2) pe_str) (pv 2)) (pa_cons (pe_op op_add_str (pe_op op_add_str (pe_op op_add_str (pe_op op_add_str (pv 2) pe_str) (pv 3)) pe_str) (pv 3)) (pa_cons (pe_op op_add_str (pv 2) pe_str) pa_nil)))) (pcall h0 hr (by decide) rfl (pa_cons (pv 0) (pa_cons pe_int pa_nil)))))) pss_nil)
    (pss_cons (ps_if (pt_cmpR op_eq (pv 1) pe_int) (pss_one (ps_ret (pe_ix (ixL K) (pe_lst (pa_cons pe_str (pa_cons (pe_op op_add_str pe_str (pv 2)) (pa_cons (pe_op op_add_str pe_str (pv 3)) (pa_cons (pe_op op_add_str (pv 3) pe_str) (pa_cons pe_str (pa_cons pe_str pa_nil))))))) (pcall h0 hr (by decide) rfl (pa_cons (pv 0) (pa_cons pe_int pa_nil)))))) pss_nil)
    (pss_cons (ps_if (pt_cmpR op_eq (pv 1) pe_int) (pss_one (ps_ret (pe_op op_add_str (pe_op op_add_str (pv 2) pe_str) (pe_ix (ixL K) (pcall0 h3 hr (by decide) rfl) (pcall h0 hr (by decide) rfl (pa_cons (pv 0) (pa_cons pe_int pa_nil))))))) pss_nil)
    (pss_one (ps_ret (pe_op op_add_str pe_str (pcall h2 hr (by decide) rfl (pa_cons (pv 0) (pa_cons pe_int pa_nil)))))))))))))))), ?_⟩
  refine ⟨_, rfl, st, 9, rfl, hs, by decide, by decide, fun d H1 d0 d1 g1 => ?_⟩
  refine ⟨_, rfl, st, rfl, g1.ok, fun g H2 hg lg g2 => ?_⟩
  refine ⟨_, rfl, st, rfl, g2.ok, fun s' H3 hs' ls g3 => ?_⟩
  have hG := grN hg
  have hS := smN hs'
  have gA := (g1.trans g2).trans g3
  have gl := hG.hi
  have sl := hS.hi
  have dl := dot1
  have al := ask1
  have l2 : (".." : Str).length = 2 := by decide +kernel
  have a2 : ("??" : Str).length = 2 := by decide +kernel
  have k1 : ("K" : Str).length = 1 := by decide +kernel
  refine ⟨_, rfl, rfl, _, rfl, ite2 (fun _ => ?_) (fun _ => ?_)⟩
  · refine ⟨_, rfl, _, rfl, st, 3, rfl, g3.ok, by decide, by decide, fun e H4 e0 e1 g4 => ⟨9, e, rfl, rfl, ?_⟩⟩
    refine ⟨st, (9 + e).toNat, by rw [show (((9 + e).toNat : Nat) : Int) = 9 + e by omega]; rfl, g4.ok, by omega, fun z H5 hz g5 => ?_⟩
    exact q _ _ (w0 hz (by omega) (by omega)) ((gA.trans g4).trans g5)
  refine ⟨_, rfl, rfl, _, rfl, ite2 (fun _ => ?_) (fun _ => ?_)⟩
  · refine ⟨_, rfl, _, rfl, st, 3, rfl, g3.ok, by decide, by decide, fun e H4 e0 e1 g4 => ⟨8, e, rfl, rfl, ?_⟩⟩
    refine ⟨st, (8 + e).toNat, by rw [show (((8 + e).toNat : Nat) : Int) = 8 + e by omega]; rfl, g4.ok, by omega, fun z H5 hz g5 => ?_⟩
    have lz := hz.len
    exact ⟨"K", z, rfl, rfl, small (by omega), q _ _ (w1 hz (by omega) (by omega)) ((gA.trans g4).trans g5)⟩
  refine ⟨_, rfl, rfl, _, rfl, ite2 (fun _ => ?_) (fun _ => ?_)⟩
  · exact ⟨_, rfl, _, rfl, _, _, rfl, rfl, small (by omega), q _ _ (w2 hS hG) gA⟩
  refine ⟨_, rfl, rfl, _, rfl, ite2 (fun _ => ?_) (fun _ => ?_)⟩
  · exact ⟨_, rfl, _, rfl, _, _, rfl, rfl, small (by omega), _, rfl, _, _, rfl, rfl, small (by rw [len_app]; omega), q _ _ (w3 hS hG) gA⟩
  refine ⟨_, rfl, rfl, _, rfl, ite2 (fun _ => ?_) (fun _ => ?_)⟩
  · show tOp (rIxL K) (tLst _) (tCall spNext [] E0 (tCons (tVar 0) (tCons (tC (.int 3)) tNil))) _ _ _
    refine pick_strs [g ++ ".", "." ++ s', s' ++ "." ++ s'] (fun _ h => ?_) g3.ok rfl rfl (by decide) (by decide) fun z hz H4 g4 => q _ _ (w4 hS hG z hz) (gA.trans g4)
    exact ⟨_, rfl, _, _, rfl, rfl, small (by omega), _, rfl, _, _, rfl, rfl, small (by omega), _, rfl, _, _, rfl, rfl, small (by omega), _, rfl, _, _, rfl, rfl, small (by rw [len_app]; omega), h⟩
  refine ⟨_, rfl, rfl, _, rfl, ite2 (fun _ => ?_) (fun _ => ?_)⟩
  · show tOp (rIxL K) (tLst _) (tCall spNext [] E0 (tCons (tVar 0) (tCons (tC (.int 3)) tNil))) _ _ _
    refine pick_strs [g ++ "." ++ g, g ++ "." ++ s' ++ "." ++ s', g ++ ".."] (fun _ h => ?_) g3.ok rfl rfl (by decide) (by decide) fun z hz H4 g4 => q _ _ (w5 hS hG z hz) (gA.trans g4)
    exact ⟨_, rfl, _, _, rfl, rfl, small (by omega), _, rfl, _, _, rfl, rfl, small (by rw [len_app]; omega), _, rfl, _, _, rfl, rfl, small (by omega), _, rfl, _, _, rfl, rfl, small (by rw [len_app]; omega), _, _, rfl, rfl, small (by rw [len_app, len_app]; omega), _, rfl, _, _, rfl, rfl, small (by rw [len_app, len_app, len_app]; omega), _, rfl, _, _, rfl, rfl, small (by omega), h⟩
  refine ⟨_, rfl, rfl, _, rfl, ite2 (fun _ => ?_) (fun _ => ?_)⟩
  · show tOp (rIxL K) (tLst _) (tCall spNext [] E0 (tCons (tVar 0) (tCons (tC (.int 6)) tNil))) _ _ _
    refine pick_strs ["?", "?" ++ g, "??" ++ s', s' ++ "?", "?1", "?a1"] (fun _ h => ?_) g3.ok rfl rfl (by decide) (by decide) fun z hz H4 g4 => q _ _ (w6 hS hG z hz) (gA.trans g4)
    exact ⟨_, rfl, _, _, rfl, rfl, small (by omega), _, rfl, _, _, rfl, rfl, small (by omega), _, rfl, _, _, rfl, rfl, small (by omega), h⟩
  refine ⟨_, rfl, rfl, _, rfl, ite2 (fun _ => ?_) (fun _ => ?_)⟩
  · refine ⟨_, rfl, _, _, rfl, rfl, small (by omega), rfl, fun p H4 e4 hp hk => ?_⟩
    have g4 := grow_same g3.ok e4
    refine ⟨_, rfl, st, 22, rfl, g4.ok, by decide, by decide, fun e H5 e0 e1 g5 => ?_⟩
    obtain ⟨k, hkm, hat⟩ := at_strs (zs := keptL) e0 (by rw [show keptL.length = 22 by decide +kernel]; exact e1)
    have kl := kept_len8 k hkm
    refine ⟨p, _, e, .str k, rfl, rfl, SqL.of (g5.1 _ _ (fresh_st g3.ok hp) hk), hat, _, _, rfl, rfl, small (by rw [len_app]; omega), ?_⟩
    exact q _ _ (w7 hG hkm) ((gA.trans g4).trans g5)
  refine ⟨_, rfl, st, 9, rfl, g3.ok, by decide, fun z H4 hz g4 => ?_⟩
  have lz := hz.len
  exact ⟨"?", z, rfl, rfl, small (by omega), q _ _ (w8 hz (by omega) (by omega)) (gA.trans g4)⟩
end
end Fw
set_option Elab.async false
set_option linter.all false
set_option maxRecDepth 100000
namespace Fw
open PySem PySem.Spec PyProof.Rows L2
abbrev s_bwo : Stmt := top 103
def sgnS : Str := "!\"#$&'*+,/:;<=@\x5b\\]^_`{|}~"
theorem sgn_ok : ∀ c ∈ sgnS.cps.toList, (¬ ((97 ≤ c ∧ c ≤ 122) ∨ (65 ≤ c ∧ c ≤ 90) ∨ c = 46 ∨ c = 63 ∨ c = 45 ∨ c = 62 ∨ (48 ≤ c ∧ c ≤ 57))) ∧ c ≠ 32 ∧ c ≠ 10 ∧ c ≠ 40 ∧ c ≠ 41 := by decide +kernel
theorem sgn_len : sgnS.length = 25 := by decide +kernel
theorem at_sgn {d : Int} (h0 : 0 ≤ d) (h1 : d < 25) : ∃ c, atI sgnS.cps.toList d = some c ∧ c ∈ sgnS.cps.toList := at_any h0 (by rw [len_toList, sgn_len]; exact h1)
theorem arrow_words {s1 s2 : Str} (h1 : SmN s1) (h2 : SmN s2) : ∀ z ∈ [("-" : Str), ">", "->" ++ s1, "->->", s2 ++ "->", "-a"], BadW z := by
  have := h1.lo; have := h1.hi; have := h2.lo; have := h2.hi
  have aL : ("->" : Str).cps.toList = [45, 62] := by decide +kernel
  have a2 : ("->" : Str).length = 2 := by decide +kernel
  have ga : Ge "->" := fun c hc => by rw [aL] at hc; simp at hc; omega
  intro z hz
  rcases List.mem_cons.mp hz with rfl | hz
  · exact badw_mk (by decide +kernel) (by decide +kernel) (by decide +kernel) (by decide +kernel) (by decide +kernel)
  rcases List.mem_cons.mp hz with rfl | hz
  · exact badw_mk (by decide +kernel) (by decide +kernel) (by decide +kernel) (by decide +kernel) (by decide +kernel)
  rcases List.mem_cons.mp hz with rfl | hz
  · obtain ⟨x, t, e, _, _⟩ := h1.hd
    refine badw_of (bad_F (c := x) (t := t) (by rw [cps_app, aL, e]; rfl)) (ge_app ga h1.ge) ?_ ?_ <;> rw [len_app] <;> omega
  rcases List.mem_cons.mp hz with rfl | hz
  · exact badw_mk (by decide +kernel) (by decide +kernel) (by decide +kernel) (by decide +kernel) (by decide +kernel)
  rcases List.mem_cons.mp hz with rfl | hz
  · refine badw_of (sm_then h2 (c := 45) (by rw [aL]; exact List.mem_cons_self) (by decide)) (ge_app h2.ge ga) ?_ ?_ <;> rw [len_app] <;> omega
  rcases List.mem_cons.mp hz with rfl | hz
  · exact badw_mk (by decide +kernel) (by decide +kernel) (by decide +kernel) (by decide +kernel) (by decide +kernel)
  · cases hz
theorem bad_put {z : Str} {k : Nat} {c : Nat} {y : Str} (hk : k ≤ z.length) (hl : z.length ≤ 31) (hz : Clean z.cps.toList) (hc : c ∈ sgnS.cps.toList) (e : y.cps.toList = z.cps.toList.take k ++ c :: z.cps.toList.drop k) : BadW y := by
  obtain ⟨h1, h2⟩ := sgn_ok c hc
  have l : y.length = z.length + 1 := by
    rw [← len_toList, e, List.length_append, List.length_cons, List.length_take, List.length_drop, len_toList]
    omega
  refine ⟨bad_sign (c := c) (by rw [e]; exact List.mem_append_right _ List.mem_cons_self) h1, fun d hd => ?_, by omega, by omega⟩
  rw [e] at hd
  rcases List.mem_append.mp hd with q | q
  · exact hz d (List.mem_of_mem_take q)
  · rcases List.mem_cons.mp q with rfl | q
    · exact h2
    · exact hz d (List.mem_of_mem_drop q)
section
variable {P : Program} {w : World} {K : PySem.W.Frag} {mg : Str → Option Value} {base : Heap} {f : Addr} {fd : FuncData}
abbrev nBw : List Str := ["_law_state", "_law_way", "_law_word", "_law_spot", "_law_signs"]
theorem sc_bwo : FnScope nBw ["_law_state"] (defScope s_bwo) := ⟨rfl, rfl, rfl, by decide +kernel, rfl, by decide +kernel, by decide +kernel⟩
set_option maxHeartbeats 8000000 in
theorem ok_bwo (F : Fun K "_law_bad_word" "_law_bad_word" s_bwo f fd) (ml : mg "len" = none) (ms : mg "str" = none) (h0 : Has P w K mg base 1 "_law_next" ["_law_state", "_law_many"] spNext) (h1 : Has P w K mg base 3 "_law_bad_number" ["_law_state"] spBad) (h2 : Has P w K mg base 4 "_law_bad_name" ["_law_state"] spBad)
    (h4 : Has P w K mg base 3 "_law_small" ["_law_state"] (spStr fun z => nameB z = true)) (h5 : Has P w K mg base 5 "_law_atom" ["_law_state"] spAt) :
    FnOk P w K mg base CX0 6 f fd ["_law_state"] spBad := by
  refine F.ok sc_bwo (fun cdv A outer s H vs Q E hr h => ?_)
  obtain ⟨st, rfl, hs, q⟩ := h
  refine ⟨_, pss_cons (pset 1 sc_bwo.nd (pcall h0 hr (by decide) rfl (pa_cons (pv 0) (pa_cons pe_int pa_nil))))
    (pss_cons (ps_if (pt_cmpR op_eq (pv 1) pe_int) (pss_one (ps_ret (pcall h1 hr (by decide) rfl (pa_cons (pv 0) pa_nil)))) pss_nil)
    (pss_cons (ps_if (pt_cmpR op_eq (pv 1) pe_int) (pss_one (ps_ret (pcall h2 hr (by decide) rfl (pa_cons (pv 0) pa_nil)))) pss_nil)
    (pss_cons (ps_if (pt_cmpR op_eq (pv 1) pe_int) (pss_one (ps_ret (pe_ix (ixL K) (pe_lst (pa_cons pe_str (pa_cons pe_str (pa_cons (pe_op op_add_str pe_str (pcall h4 hr (by decide) rfl (pa_cons (pv 0) pa_nil))) (pa_cons pe_str (pa_cons (pe_op op_add_str (pcall h4 hr (by decide) rfl (pa_cons (pv 0) pa_nil)) pe_str) (pa_cons pe_str pa_nil))))))) (pcall h0 hr (by decide) rfl (pa_cons (pv 0) (pa_cons pe_int pa_nil)))))) pss_nil)
    (pss_cons (pset 2 sc_bwo.nd (pe_callTy (call_str_int.or call_strS) rfl ms boot_str (pa_cons (pcall h5 hr (by decide) rfl (pa_cons (pv 0) pa_nil)) pa_nil)))
    (pss_cons (pset 3 sc_bwo.nd (pcall h0 hr (by decide) rfl (pa_cons (pv 0) (pa_cons (pe_op op_add (pe_callB call_len_str rfl ml PySem.boot_len (pa_cons (pv 2) pa_nil)) pe_int) pa_nil))))
    (pss_cons (pset 4 sc_bwo.nd pe_str)
    (pss_one (ps_ret (pe_op op_add_str (pe_op op_add_str (pe_slice sl_str (pv 2) po_none (po_some (pv 3))) (pe_ix ix_str (pv 4) (pcall h0 hr (by decide) rfl (pa_cons (pv 0) (pa_cons (pe_callB call_len_str rfl ml PySem.boot_len (pa_cons (pv 4) pa_nil)) pa_nil))) (fun _ _ => rfl))) (pe_slice sl_str (pv 2) (po_some (pv 3)) po_none)))))))))), ?_⟩
  refine ⟨_, rfl, st, 4, rfl, hs, by decide, by decide, fun d H1 d0 d1 g1 => ?_⟩
  refine ⟨_, rfl, rfl, _, rfl, ite2 (fun _ => ?_) (fun _ => ?_)⟩
  · exact ⟨_, rfl, st, rfl, g1.ok, fun z H2 hz g2 => q _ _ hz (g1.trans g2)⟩
  refine ⟨_, rfl, rfl, _, rfl, ite2 (fun _ => ?_) (fun _ => ?_)⟩
  · exact ⟨_, rfl, st, rfl, g1.ok, fun z H2 hz g2 => q _ _ hz (g1.trans g2)⟩
  refine ⟨_, rfl, rfl, _, rfl, ite2 (fun _ => ?_) (fun _ => ?_)⟩
  · have a2 : ("->" : Str).length = 2 := by decide +kernel
    refine ⟨_, rfl, st, rfl, g1.ok, fun s1 H2 hs1 l1 g2 => ⟨_, _, rfl, rfl, small (by omega), _, rfl, st, rfl, g2.ok, fun s2 H3 hs2 l2 g3 => ⟨_, _, rfl, rfl, small (by omega), ?_⟩⟩⟩
    refine ⟨small (by show 6 ≤ 1000000; decide), fun p hp => ⟨_, rfl, st, 6, rfl, g3.ok.same (same_new hp _), by decide, by decide, fun e H4 e0 e1 g4 => ?_⟩⟩
    obtain ⟨z, hz, hat⟩ := at_strs (zs := ["-", ">", "->" ++ s1, "->->", s2 ++ "->", "-a"]) e0 (by simpa using e1)
    refine ⟨p, _, e, .str z, rfl, rfl, SqL.of (g4.1 _ _ (fresh_st g3.ok hp) upd_same), hat, ?_⟩
    exact q _ _ (arrow_words (smN hs1) (smN hs2) z hz) (((g1.trans g2).trans g3).trans ((grow_new g3.ok hp).trans g4))
  refine ⟨_, rfl, st, rfl, g1.ok, fun v t H2 ha rt g2 => ?_⟩
  have rest : ∀ W : VK, (W (.str (pcT t)) H2) → (r_call_str_int [v] H2 W ∨ ∃ z, [v] = [.str z] ∧ W (.str z) H2) := fun W h => by
    cases rt with
    | int i => exact .inl ⟨i, rfl, ha.lg i rfl, h⟩
    | str z hz => exact .inr ⟨z, rfl, h⟩
    | tup _ _ => exact absurd rfl (ha.nt _)
  refine rest _ ?_
  have lo := ha.lo
  have hi := ha.hi
  have cl := ha.cl
  generalize pcT t = z at lo hi cl ⊢
  refine ⟨_, rfl, _, rfl, z, rfl, small (by omega), _, 1, rfl, rfl, st, z.length + 1, rfl, g2.ok, by omega, by omega, fun e H3 e0 e1 g3 => ?_⟩
  have ee : e = ((e.toNat : Nat) : Int) := by omega
  have t1 : (Txt.slice z none (some e)).cps.toList = z.cps.toList.take e.toNat := by rw [ee]; exact sl_to _ _ (by omega)
  have t2 : (Txt.slice z (some e) none).cps.toList = z.cps.toList.drop e.toNat := by rw [ee]; exact sl_from _ _ (by omega)
  have n1 : (Txt.slice z none (some e)).length ≤ 31 := by rw [← len_toList, t1, List.length_take, len_toList]; omega
  have n2 : (Txt.slice z (some e) none).length ≤ 31 := by rw [← len_toList, t2, List.length_drop, len_toList]; omega
  have sl := sgn_len
  refine ⟨_, rfl, _, rfl, e, rfl, z, rfl, small (by omega), ?_⟩
  refine ⟨_, rfl, _, rfl, _, rfl, sgnS, rfl, small (by omega), st, 25, by rw [sl]; rfl, g3.ok, by decide, by decide, fun m H4 m0 m1 g4 => ?_⟩
  obtain ⟨c, hc, hm⟩ := at_sgn m0 m1
  refine ⟨sgnS, m, c, rfl, rfl, small (by omega), hc, ?_⟩
  refine ⟨_, _, rfl, rfl, small (by show (Txt.slice z none (some e)).length + 1 ≤ _; omega), _, rfl, _, rfl, e, rfl, z, rfl, small (by omega), _, _, rfl, rfl, small (by rw [len_app]; show (Txt.slice z none (some e)).length + 1 + _ ≤ _; omega), ?_⟩
  refine q _ _ (bad_put (z := z) (k := e.toNat) (c := c) (by omega) hi cl hm ?_) (((g1.trans g2).trans g3).trans g4)
  rw [cps_app, cps_app, t1, t2, List.append_assoc]
  rfl
end
end Fw
set_option Elab.async false
set_option linter.all false
set_option maxRecDepth 100000
namespace Fw
open PySem PySem.Spec PyProof.Rows L2
abbrev s_read : Stmt := top 82
inductive spRdN (CN : Addr) (vs : List V) (H : Hp) (Q : VK) (E : XK) : Prop where
  | mk (z : Str) : vs = [.str z] → z.length ≤ 100000 → (z.length ≤ 6000 → ∀ p ∈ piecesS z, PcT p) → (6000 < z.length ∨ ∀ ts, pars [[]] (piecesS z) ≠ some [ts]) → (∀ ea H', Same H H' → E (.ref CN) (some ea) H') → spRdN CN vs H Q E
section
variable {P : Program} {w : World} {K : PySem.W.Frag} {mg : Str → Option Value} {base : Heap} {f CN : Addr} {fd : FuncData} {bm : List Value} {newId B initId : String}
theorem sc_read : FnScope ["text", "program"] ["text"] (defScope s_read) := ⟨rfl, rfl, rfl, by decide +kernel, rfl, by decide +kernel, by decide +kernel⟩
theorem ok_read (F : Fun K "read" "read" s_read f fd) (h1 : HasX P w K mg base 7 "things_of" ["text"] (spThs CN)) : FnOk P w K mg base (CXF P w) 8 f fd ["text"] (spRdN CN) := by
  refine F.okX sc_read (fun cdv A outer s H vs Q E hr h => ?_)
  obtain ⟨z, rfl, hz, pk, no, q⟩ := h
  obtain ⟨f1, g1, G1, b1, k1, m1⟩ := h1
  refine ⟨_, pss_cons (pset 1 sc_read.nd (pe_call G1 hr rfl m1 k1 b1 .nil passes_up (pa_cons (pv 0) pa_nil))) pss_never, ?_⟩
  refine ⟨_, rfl, z, rfl, hz, pk, fun ts l6 e => ?_, fun _ ea H' s => q ea H' s⟩
  rcases no with n | n
  · omega
  · exact absurd e (n ts)
end
end Fw
set_option Elab.async false
set_option linter.all false
set_option maxRecDepth 100000
namespace L2
open PySem PySem.Spec PyProof.Rows
theorem Inv.adopt {X : Cx} {pins : List (Addr × Obj)} {σ : St} {H : Hp} {s : Shared} {ea : Addr} {oe : Obj} (I : Inv X (pins ++ [(ea, oe)]) σ H s) (n0 : X.s₀.heap.get? ea = none) (np : ∀ p ∈ X.pn ++ pins, p.1 ≠ ea) : Inv X pins σ (upd H ea (objO ea oe)) s := by
  obtain ⟨e, n, nl, nf, nc⟩ := I.pin (ea, oe) (List.mem_append_right _ (List.mem_append_right _ List.mem_cons_self))
  have up : ∀ {b u}, H b = some u → upd H ea (objO ea oe) b = some u := fun {b u} q => by rw [upd_ne (fun z => by rw [z] at q; rw [show H ea = none from n] at q; cases q)]; exact q
  refine ⟨I.ok, I.os, I.bare, ⟨I.base.keep, I.base.slot, fun b o q m hx => ?_, I.base.there, fun b xs q => up (I.base.tups b xs q), fun b o u q => up (I.base.frzs b o u q), fun b ps q => ?_⟩, I.loc, I.cell, ?_, fun x c q => ?_, fun p hp => ?_, I.hok.obj n e, I.len⟩
  · rw [upd_ne (fun z => by rw [z, n0] at q; cases q)]
    exact I.base.free b o q m hx
  · obtain ⟨more, z⟩ := I.base.tbls b ps q
    exact ⟨more, up z⟩
  · rw [upd_ne (Ne.symm nl)]
    exact I.free
  · have hc : c ≠ ea := fun z => by
      obtain ⟨v, o, q1, q2⟩ := I.cell x c q
      rw [z, show s.heap.get? ea = some oe from e] at q1
      cases q1
      exact nc v q2
    rw [upd_ne hc]
    exact I.freeC x c q
  · obtain ⟨p1, p2, p3⟩ := I.pin p (by rw [← List.append_assoc]; exact List.mem_append_left _ hp)
    exact ⟨p1, by rw [upd_ne (np p hp)]; exact p2, p3⟩
def endsKeep (i : Nat) (ea : Addr) (oe : Obj) (D : Ends) : Ends := { nx := fun σ H => D.nx (σ.set i none) (upd H ea (objO ea oe)), rt := fun v H => D.rt v (upd H ea (objO ea oe)), bk := fun σ H => D.bk (σ.set i none) (upd H ea (objO ea oe)), ct := fun σ H => D.ct (σ.set i none) (upd H ea (objO ea oe)) }
def tTryK (i : Nat) (EX : St → XK) (tb : TS) (ts : Addr → Addr → TS) : TS := fun D σ H => tb D σ H ∧ ∀ σ' C ea H', EX σ' (.ref C) (some ea) H' → H' ea = none → ∀ oe : Obj, oe.cls = .ref C → ts ea C (endsKeep i ea oe D) (σ'.set i (some (.ref ea))) H'
theorem ps_tryK {X : Cx} {body suite : List Stmt} {b₀ : Stmt} {y n : Str} {np hpos pos : Pos} {tb : TS} {ts : Addr → Addr → TS} {EX : St → XK} {D : Addr} {i : Nat} (hex : X.ex = []) (hst : X.stack = X.env :: X.outer) (hfr : X.env.frame = some X.env.locals)
    (hN : X.N.Nodup) (hi : X.N[i]? = some n) (hn : X.env.scope.names.lookup n = some .local) (hg : Gl X y) (hm : X.mg y = some (.ref D)) (hcls : ∀ σ C ea H', EX σ (.ref C) ea H' → CatchOk X.base C D)
    (hb : ∀ pins, PSs (cxTry X pins (XT X pins EX)) body tb) (hs : ∀ ea C oe pins, (ea, oe) ∈ pins → oe.cls = .ref C → X.base.get? ea = none → PSs (cxSuite X ea pins) (b₀ :: suite) (ts ea C)) (hdb : (y == ("__debug__" : Str)) = false := by decide) :
    PS X (.Try body [.ExceptHandler (some (.Name y np)) (some n) (b₀ :: suite) hpos] [] [] pos) (tTryK i EX tb ts) := by
  intro pins s σ H De I h
  obtain ⟨h1, h2⟩ := h
  refine wpAny_Try_except (wpAny_mono (hb pins [] s σ H De I.toTry h1) (fun f s1 q => ?_) (fun e s1 q => ?_))
  · cases f with
    | next => obtain ⟨σ', H', J, q⟩ := q; exact wpAny_execs_nil ⟨σ', H', J.ofTry, q⟩
    | ret u => obtain ⟨v, σ', H', J, r, q⟩ := q; exact ⟨v, σ', H', J.ofTry, r, q⟩
    | brk => obtain ⟨σ', H', J, q⟩ := q; exact ⟨σ', H', J.ofTry, q⟩
    | cont => obtain ⟨σ', H', J, q⟩ := q; exact ⟨σ', H', J.ofTry, q⟩
  · obtain ⟨ea, C, σ', H', rfl, J, nea, ⟨B, t, fl, npin, keepB⟩, hE⟩ := q
    have fl' : Heap.FlyingX B (X.env :: X.outer) ea (.ref C) (.ref t) s1.heap := by rw [← hst]; exact fl
    have hfrm : X.A.frames = some (X.env :: X.outer) := by rw [← hst]; exact J.ok.frames
    refine looks_onX hfrm hfr fl' fun h4 held4 sm4 => ?_
    refine landsX held4 fun h5 fl5 sm5 => ?_
    have J5 : Inv X pins σ' H' { s1 with heap := h5 } := J.stays hex (fun b o q hb hc => fl5.1 b o (keepB b o q hb hc)) (sm4.trans sm5)
    have rel : ∀ {b}, (H' b ≠ none ∨ (∃ o', X.s₀.heap.get? b = some o') ∨ b ∈ (X.pn ++ pins).map (·.1)) → ∃ o1, s1.heap.get? b = some o1 := fun {b} hc => by
      rcases hc with z | ⟨o', z⟩ | z
      · cases hz : H' b with
        | none => exact absurd hz z
        | some u => exact (J.hok b u hz).there
      · exact J.base.there b o' z (by rw [hex]; simp)
      · obtain ⟨p, hp, rfl⟩ := List.mem_map.mp z
        exact ⟨_, (J.pin p hp).1⟩
    obtain ⟨oe, hoe, hoec⟩ := fl5.there
    obtain ⟨nm, q, nm', q', N, N', bs, bm, bs', bm', hdct, hdct', sn, sn', sub, sub', ab, ab', col, col', dd, dd', k0, k1, k2, k3, k5, j0, j1, j2, j3, j5, newId, newId', hC, hD, hbase, hsub⟩ := hcls σ' C _ H' hE
    refine wpAny_handleBy_cons (codeAny_handlers_test (ld_glob (X := cxSuite X ea pins) J5.toSuite hg hm ?_ hdb)) (by intro q; cases q)
    refine wpAny_excMatches_own (J5.bk _ _ hC) (J5.bk _ _ hD) hoe hoec hbase hsub ?_
    refine codeAny_handlers_suite_as ?_
    refine lands_againX fl5 fun h6 fl6 sm6 => ?_
    have J6 : Inv X pins σ' H' { s1 with heap := h6 } := Inv.stays (s := { s1 with heap := h5 }) hex J5 (fun b o q hb hc => by
      obtain ⟨o1, q1⟩ := rel hc
      have k1' := keepB b o1 q1 hb hc
      have k2' := fl5.1 b o1 k1'
      have q' : h5.get? b = some o := q
      rw [k2'] at q'
      cases q'
      exact fl6.1 b o k1') sm6
    obtain ⟨oe6, hoe6, hoec6⟩ := fl6.there
    obtain ⟨_, _, _, oe7, ws7, _, _, _, hoe7, hoec7, hoed7, _⟩ := fl6
    have nst : ea ∉ frs X.stack := fun z => by
      obtain ⟨_, o, ho, hnf⟩ := J6.stack.mem z
      have e1 : h6.get? ea = some oe7 := hoe7
      have e2 : h6.get? ea = some o := ho
      rw [e1] at e2
      cases e2
      exact hnf _ hoed7
    have nl : ea ≠ X.env.locals := fun z => nst (by rw [hst, z]; unfold frs; rw [List.filterMap_cons, hfr]; exact List.mem_cons_self)
    have nf : ea ∉ X.fs := fun z => nst (by rw [hst]; unfold frs; rw [List.filterMap_cons, hfr]; exact List.mem_cons_of_mem _ z)
    have hcl7 : oe7.cls = .ref C := by
      have e1 : h6.get? ea = some oe7 := hoe7
      have e2 : h6.get? ea = some oe6 := hoe6
      rw [e1] at e2
      cases e2
      exact hoec6
    have nb : X.base.get? ea = none := by
      cases hz : X.base.get? ea with
      | none => rfl
      | some o =>
        have k1' := keepB ea o (J.bk _ _ hz) nst (.inr (.inl ⟨o, (J.ok.bs _ _ hz).1⟩))
        rw [fl.2.1] at k1'
        cases k1'
    have n0 : X.s₀.heap.get? ea = none := by
      cases hz : X.s₀.heap.get? ea with
      | none => rfl
      | some o =>
        obtain ⟨o', z⟩ := J.base.there ea o hz (by rw [hex]; simp)
        have k1' := keepB ea o' z nst (.inr (.inl ⟨o, hz⟩))
        rw [fl.2.1] at k1'
        cases k1'
    have Jp : Inv X (pins ++ [(ea, oe7)]) σ' H' { s1 with heap := h6 } := J6.morePin hoe7 nea nl nf (fun v z => by rw [hoed7] at z; cases z)
    refine store_ok (X := cxSuite X ea (pins ++ [(ea, oe7)])) Jp.toSuite hN hi (Or.inl hn) (v := .ref ea) rfl (fun s7 J7 => ?_) (.inr hn)
    refine wpAny_mono (hs ea C oe7 (pins ++ [(ea, oe7)]) (List.mem_append_right _ List.mem_cons_self) hcl7 nb [] s7 (σ'.set i (some (.ref ea))) H' (endsKeep i ea oe7 De) J7 (h2 σ' C ea H' hE nea oe7 hcl7)) (fun f s8 q8 => ?_) (fun _ _ z => False.elim z)
    cases f with
    | next =>
      obtain ⟨σ8, H8, J8, q⟩ := q8
      exact name_gone (J8.ofSuite I.ok.hd) hN hi hn fun s9 J9 => ⟨_, _, J9.adopt n0 npin, q⟩
    | ret u =>
      obtain ⟨v, σ8, H8, J8, r, q⟩ := q8
      exact name_gone (J8.ofSuite I.ok.hd) hN hi hn fun s9 J9 => ⟨v, _, _, J9.adopt n0 npin, r, q⟩
    | brk =>
      obtain ⟨σ8, H8, J8, q⟩ := q8
      exact name_gone (J8.ofSuite I.ok.hd) hN hi hn fun s9 J9 => ⟨_, _, J9.adopt n0 npin, q⟩
    | cont =>
      obtain ⟨σ8, H8, J8, q⟩ := q8
      exact name_gone (J8.ofSuite I.ok.hd) hN hi hn fun s9 J9 => ⟨_, _, J9.adopt n0 npin, q⟩
end L2
set_option Elab.async false
set_option linter.all false
set_option maxRecDepth 100000
namespace Fw
open PySem PySem.Spec PyProof.Rows L2
structure ClsN (K : PySem.W.Frag) (mg : Str → Option Value) (CN CX : Addr) (c1 c2 c3 c4 c5 c6 c7 d1 d2 d3 d4 d5 : Addr) : Prop where
  iX : mg "FaceError" = some (.ref CX)
  iN : mg "NoText" = some (.ref CN)
  i1 : mg "Twice" = some (.ref c1)
  i2 : mg "NoName" = some (.ref c2)
  i3 : mg "NoCount" = some (.ref c3)
  i4 : mg "NoKind" = some (.ref c4)
  i5 : mg "NoFace" = some (.ref c5)
  i6 : mg "Stuck" = some (.ref c6)
  i7 : mg "TooGreat" = some (.ref c7)
  j1 : mg "TooLong" = some (.ref d1)
  j2 : mg "TooDeep" = some (.ref d2)
  j3 : mg "NoTie" = some (.ref d3)
  j4 : mg "NoRow" = some (.ref d4)
  j5 : mg "NoProgram" = some (.ref d5)
  iV : mg "ValueError" = none
  iI : mg "isinstance" = none
  s : ExcCls K CN
  kN : PySem.W.kitOne K (.ref CN) (.ref CN) = some true
  kV : PySem.W.kitOne K (.ref CN) (.type "ValueError") = some true
  kA : PySem.W.kitAny K (.ref CN) ([c1, c2, c3, c4, c5, c6, c7].map Value.ref) = some false
  kB : PySem.W.kitAny K (.ref CN) ([d1, d2, d3, d4, d5].map Value.ref) = some false
inductive spRef (vs : List V) (H : Hp) (Q : VK) (E_ : XK) : Prop where
  | mk (z : Str) (b : Bool) : vs = [.str z, .bl b] → z.length ≤ 100000 → (z.length ≤ 6000 → ∀ p ∈ piecesS z, PcT p) → (6000 < z.length ∨ ∀ ts, pars [[]] (piecesS z) ≠ some [ts]) → (∀ H', Same H H' → Q (.bl true) H') → spRef vs H Q E_
abbrev s_ref : Stmt := top 104
abbrev nRef : List Str := ["_law_text", "_law_by_read", "_law_told", "e"]
theorem sc_ref : FnScope nRef ["_law_text", "_law_by_read"] (defScope s_ref) := ⟨rfl, rfl, rfl, by decide +kernel, rfl, by decide +kernel, by decide +kernel⟩
theorem boot_VE : bootBuiltins "ValueError" = some (.type "ValueError") := by decide +kernel
section
variable {P : Program} {w : World} {K : PySem.W.Frag} {mg : Str → Option Value} {base : Heap} {f CN CX c1 c2 c3 c4 c5 c6 c7 d1 d2 d3 d4 d5 : Addr} {fd : FuncData}
set_option maxHeartbeats 2000000 in
theorem ok_ref (F : Fun K "_law_refused" "_law_refused" s_ref f fd) (Z : ClsN K mg CN CX c1 c2 c3 c4 c5 c6 c7 d1 d2 d3 d4 d5) (hcat : CatchOk base CN CX) (h1 : HasX P w K mg base 8 "read" ["text"] (spRdN CN)) (h2 : HasX P w K mg base 7 "things_of" ["text"] (spThs CN)) :
    FnOk P w K mg base CX0 9 f fd ["_law_text", "_law_by_read"] spRef := by
  refine F.ok sc_ref (fun cdv A outer s H vs Q E hr h => ?_)
  obtain ⟨z, b, rfl, hz, pk, no, q⟩ := h
  obtain ⟨f1, g1, G1, b1, k1, m1⟩ := h1
  obtain ⟨f2, g2, G2, b2, k2, m2⟩ := h2
  refine ⟨_, pss_cons (pset 2 sc_ref.nd pe_non) (pss_cons (ps_tryK (X := (cxOf CX0 P w K mg base nRef "_law_refused" (defScope s_ref) f cdv A outer s H E).nox) (i := 3) (D := CX) (EX := fun σ Cv _ H' => Cv = .ref CN ∧ σ = [some (.str z), some (.bl b), some .non, none] ∧ Same H H')
      rfl rfl rfl sc_ref.nd rfl rfl rfl Z.iX
      (fun σ C ea H' hE => by
        obtain ⟨z, _⟩ := hE
        cases z
        exact hcat)
      (fun pins => pss_one (ps_if (pt_val (pv 1)) (pss_one (ps_expr (pe_callT (X := (cxOf CX0 P w K mg base nRef "_law_refused" (defScope s_ref) f cdv A outer s H E).nox) rfl G1 b1 k1 m1 hr rfl (pa_cons (pv 0) pa_nil))))
        (pss_one (ps_expr (pe_callT (X := (cxOf CX0 P w K mg base nRef "_law_refused" (defScope s_ref) f cdv A outer s H E).nox) rfl G2 b2 k2 m2 (hr.mono (by decide)) rfl (pa_cons (pv 0) pa_nil))))))
      (fun ea C oe pins hp hoc nb => pss_one (pset 2 sc_ref.nd (pv 3))))
    (pss_cons (ps_if (PW.pt (pw_or (pt_not (pt_val (pe_callB call_isiE rfl Z.iI boot_isinstance (pa_cons (pv 2) (pa_cons (pe_glob (v := .ref CN) rfl Z.iN rfl) pa_nil)))))
        (pw_or1 (pt_not (pt_val (pe_callB call_isiT rfl Z.iI boot_isinstance (pa_cons (pv 2) (pa_cons (pe_bltn (v := .ty "ValueError") rfl Z.iV boot_VE rfl) pa_nil))))))))
      (pss_one (ps_ret pe_bl)) pss_nil)
    (pss_cons (ps_if (pt_val (pe_callB call_isiN rfl Z.iI boot_isinstance (pa_cons (pv 2) (pa_cons (pe_tup (pa_cons (pe_glob (v := .ref c1) rfl Z.i1 rfl) (pa_cons (pe_glob (v := .ref c2) rfl Z.i2 rfl) (pa_cons (pe_glob (v := .ref c3) rfl Z.i3 rfl) (pa_cons (pe_glob (v := .ref c4) rfl Z.i4 rfl) (pa_cons (pe_glob (v := .ref c5) rfl Z.i5 rfl) (pa_cons (pe_glob (v := .ref c6) rfl Z.i6 rfl) (pa_cons (pe_glob (v := .ref c7) rfl Z.i7 rfl) pa_nil)))))))) pa_nil))))
      (pss_one (ps_ret pe_bl)) pss_nil)
    (pss_one (ps_ret (pe_not (pe_callB call_isiN rfl Z.iI boot_isinstance (pa_cons (pv 2) (pa_cons (pe_tup (pa_cons (pe_glob (v := .ref d1) rfl Z.j1 rfl) (pa_cons (pe_glob (v := .ref d2) rfl Z.j2 rfl) (pa_cons (pe_glob (v := .ref d3) rfl Z.j3 rfl) (pa_cons (pe_glob (v := .ref d4) rfl Z.j4 rfl) (pa_cons (pe_glob (v := .ref d5) rfl Z.j5 rfl) pa_nil)))))) pa_nil))))))))), ?_⟩
  refine ⟨?_, ?_⟩
  · cases b with
    | true => exact ⟨_, rfl, true, rfl, iteT ⟨_, rfl, z, rfl, hz, pk, no, fun ea H' s' => ⟨rfl, rfl, s'⟩⟩⟩
    | false =>
      refine ⟨_, rfl, false, rfl, iteF ⟨_, rfl, z, rfl, hz, pk, fun ts l6 e => ?_, fun _ ea H' s' => ⟨rfl, rfl, s'⟩⟩⟩
      rcases no with n | n
      · omega
      · exact absurd e (n ts)
  · rintro σ' C ea H' ⟨hC, rfl, s'⟩ nea oe hoc
    cases hC
    have e1 := same_new nea (objO ea oe)
    have c1' : (upd H' ea (objO ea oe)) ea = some (objO ea oe) := upd_same
    refine ⟨_, rfl, _, rfl, ea, oe, CN, CN, true, rfl, c1', hoc, Z.s, Z.kN, ?_⟩
    refine ⟨_, rfl, iteF ⟨_, rfl, ea, oe, CN, _, true, rfl, c1', hoc, Z.s, Z.kV, _, rfl, iteF ?_⟩⟩
    revert e1 c1'
    generalize upd H' ea (objO ea oe) = H1
    intro e1 c1'
    refine ⟨_, rfl, sml 7, fun t1 n1 => ?_⟩
    have e2 := same_new n1 (.tup ([c1, c2, c3, c4, c5, c6, c7].map V.ref))
    have u1 : (upd H1 t1 (.tup ([c1, c2, c3, c4, c5, c6, c7].map V.ref))) t1 = some (.tup ([c1, c2, c3, c4, c5, c6, c7].map V.ref)) := upd_same
    refine ⟨ea, oe, CN, t1, _, false, rfl, e2 _ _ c1', hoc, Z.s, u1, Z.kA, _, rfl, iteF ?_⟩
    refine ⟨_, rfl, sml 5, fun t2 n2 => ?_⟩
    have e3 := same_new n2 (.tup ([d1, d2, d3, d4, d5].map V.ref))
    exact ⟨ea, oe, CN, t2, [d1, d2, d3, d4, d5], false, rfl, e3 _ _ (e2 _ _ c1'), hoc, Z.s, upd_same, Z.kB, _, rfl, q _ (s'.trans (e1.trans (e2.trans e3)))⟩
end
end Fw
set_option Elab.async false
set_option linter.all false
set_option maxRecDepth 100000
namespace Fw
open PySem PySem.Spec PyProof.Rows L2
theorem br_lb : isBr "(" = true := by decide +kernel
theorem br_rb : isBr ")" = true := by decide +kernel
theorem tr_pcs {n : Nat} {t : T} (h : Tr n t) : ∀ p ∈ pcs t, PcOk p ∧ p.length ≤ 100 := by
  induction h with
  | «at» A =>
    intro p hp
    rw [pcs_at A] at hp
    rw [List.mem_singleton.mp hp]
    obtain ⟨c1, c2⟩ := clean_ne A.cl
    refine ⟨⟨.inr ⟨?_, A.cl, ?_⟩⟩, Nat.le_trans A.hi (by decide)⟩
    · refine decide_eq_false fun hm => ?_
      unfold brL at hm
      simp at hm
      rcases hm with h | h
      · rw [h] at c1; exact absurd c1 (by decide +kernel)
      · rw [h] at c2; exact absurd c2 (by decide +kernel)
    · intro e
      have := A.lo
      rw [← len_toList, e] at this
      simp at this
  | @tp n l _ ih =>
    have all : ∀ l' : List T, (∀ t ∈ l', t ∈ l) → ∀ p ∈ pcss l', PcOk p ∧ p.length ≤ 100 := by
      intro l'
      induction l' with
      | nil => intro _ p hp; simp [pcss] at hp
      | cons t l' ih2 =>
        intro hl p hp
        rw [pcss] at hp
        rcases List.mem_append.mp hp with h | h
        · exact ih t (hl t (by simp)) p h
        · exact ih2 (fun x hx => hl x (List.mem_cons_of_mem _ hx)) p h
    intro p hp
    rw [pcs] at hp
    rcases List.mem_cons.mp hp with rfl | hp
    · exact ⟨⟨.inl br_lb⟩, by decide +kernel⟩
    · rcases List.mem_append.mp hp with h | h
      · exact all l (fun t ht => ht) p h
      · rw [List.mem_singleton.mp h]
        exact ⟨⟨.inl br_rb⟩, by decide +kernel⟩
theorem trs_pcss {l : List T} (h : ∀ t ∈ l, Tr 20 t) : ∀ p ∈ pcss l, PcOk p ∧ p.length ≤ 100 := by
  induction l with
  | nil => intro p hp; simp [pcss] at hp
  | cons t l ih =>
    intro p hp
    rw [pcss] at hp
    rcases List.mem_append.mp hp with q | q
    · exact tr_pcs (h t (by simp)) p q
    · exact ih (fun x hx => h x (List.mem_cons_of_mem _ hx)) p q
theorem cut_mid (a b : V) (l : List V) : cutV (a :: (l ++ [b])) (some 1) (some (-1)) = l := by
  unfold cutV
  have e : (a :: (l ++ [b])).length = l.length + 2 := by simp
  rw [e]
  have e1 : HT.sIx (l.length + 2) 0 (some 1) = 1 := by unfold HT.sIx; simp
  have e2 : HT.sIx (l.length + 2) (l.length + 2) (some (-1)) = l.length + 1 := by
    unfold HT.sIx
    simp
    omega
  rw [e1, e2]
  simp
structure BadT (z : Str) : Prop where
  len : z.length ≤ 100000
  pc : z.length ≤ 6000 → ∀ p ∈ piecesS z, PcT p
  no : 6000 < z.length ∨ ∀ ts, pars [[]] (piecesS z) ≠ some [ts]
theorem pct_lb : PcT "(" := .inl (.inl (by decide +kernel))
theorem pct_rb : PcT ")" := .inl (.inr (by decide +kernel))
theorem tr_pct {n : Nat} {t : T} (h : Tr n t) : ∀ p ∈ pcs t, PcT p := by
  induction h with
  | «at» A =>
    intro p hp
    rw [pcs_at A] at hp
    rw [List.mem_singleton.mp hp]
    exact .inr (.inl ⟨_, A.th, Nat.le_trans A.hi (by decide)⟩)
  | @tp n l _ ih =>
    have all : ∀ l' : List T, (∀ t ∈ l', t ∈ l) → ∀ p ∈ pcss l', PcT p := by
      intro l'
      induction l' with
      | nil => intro _ p hp; simp [pcss] at hp
      | cons t l' ih2 =>
        intro hl p hp
        rw [pcss] at hp
        rcases List.mem_append.mp hp with h | h
        · exact ih t (hl t (by simp)) p h
        · exact ih2 (fun x hx => hl x (List.mem_cons_of_mem _ hx)) p h
    intro p hp
    rw [pcs] at hp
    rcases List.mem_cons.mp hp with rfl | hp
    · exact pct_lb
    · rcases List.mem_append.mp hp with h | h
      · exact all l (fun t ht => ht) p h
      · rw [List.mem_singleton.mp h]
        exact pct_rb
theorem trs_pct {l : List T} (h : ∀ t ∈ l, Tr 20 t) : ∀ p ∈ pcss l, PcT p := by
  induction l with
  | nil => intro p hp; simp [pcss] at hp
  | cons t l ih =>
    intro p hp
    rw [pcss] at hp
    rcases List.mem_append.mp hp with q | q
    · exact tr_pct (h t (by simp)) p q
    · exact ih (fun x hx => h x (List.mem_cons_of_mem _ hx)) p q
structure BadPs (ps : List Str) : Prop where
  ok : ∀ p ∈ ps, PcOk p
  pt : ∀ p ∈ ps, PcT p
  no : ∀ ts, pars [[]] ps ≠ some [ts]
theorem BadPs.bad {ps : List Str} {z : Str} (h : BadPs ps) (ho : Opn z.cps.toList (ps.map (·.cps.toList))) (hl : z.length ≤ 6000) : BadT z := by
  have e := pieces_of_opn ho
  exact ⟨by omega, fun _ => by rw [e]; exact h.pt, .inr (by rw [e]; exact h.no)⟩
theorem pcok_bad {b : Str} (h : BadW b) : PcOk b := ⟨.inr ⟨h.br, h.cl, fun e => by
  have := h.lo
  rw [← len_toList, e] at this
  simp at this⟩⟩
structure GoodPs (ps : List Str) : Prop where
  ok : ∀ p ∈ ps, PcOk p
  pt : ∀ p ∈ ps, PcT p
  ev : ps.countP isL = ps.countP isR
  wt : wts ps ≤ 5000
theorem good_pcss {l : List T} (h : ∀ t ∈ l, Tr 20 t) (hw : wts (pcss l) ≤ 5000) : GoodPs (pcss l) :=
  ⟨fun p hp => (trs_pcss h p hp).1, trs_pct h, even_good (pars_all h), hw⟩
theorem wts_td (ps : List Str) (k : Nat) : wts (ps.take k) + wts (ps.drop k) = wts ps := by rw [← wts_app, List.take_append_drop]
theorem mem_ins {α : Type} {ps : List α} {k : Nat} {b x : α} (h : x ∈ ps.take k ++ b :: ps.drop k) : x ∈ ps ∨ x = b := by
  rcases List.mem_append.mp h with h | h
  · exact .inl (List.mem_of_mem_take h)
  · rcases List.mem_cons.mp h with h | h
    · exact .inr h
    · exact .inl (List.mem_of_mem_drop h)
theorem cnt_td (ps : List Str) (k : Nat) (f : Str → Bool) : (ps.take k).countP f + (ps.drop k).countP f = ps.countP f := by rw [← List.countP_append, List.take_append_drop]
theorem put_bad {ps : List Str} {b : Str} (k : Nat) (g : GoodPs ps) (h : BadW b) : BadPs (ps.take k ++ b :: ps.drop k) :=
  ⟨fun p hp => (mem_ins hp).elim (g.ok p) fun e => e ▸ pcok_bad h, fun p hp => (mem_ins hp).elim (g.pt p) fun e => e ▸ .inr (.inr ⟨h.bad, Nat.le_trans h.hi (by decide)⟩),
    fun ts e => by rw [pars_bad h.bad h.br] at e; cases e⟩
theorem br_cases {p : Str} (h : isBr p = true) : p = "(" ∨ p = ")" := by
  have := of_decide_eq_true h
  unfold brL at this
  simpa using this
theorem lr_lb : isL "(" = true ∧ isR "(" = false ∧ isL ")" = false ∧ isR ")" = true := by decide +kernel
theorem put_br {ps : List Str} {b : Str} (k : Nat) (g : GoodPs ps) (h : isBr b = true) : BadPs (ps.take k ++ b :: ps.drop k) := by
  refine ⟨fun p hp => (mem_ins hp).elim (g.ok p) fun e => e ▸ ⟨.inl h⟩, fun p hp => (mem_ins hp).elim (g.pt p) fun e => ?_, pars_odd ?_⟩
  · subst e
    rcases br_cases h with rfl | rfl
    · exact pct_lb
    · exact pct_rb
  · have e1 := cnt_td ps k isL
    have e2 := cnt_td ps k isR
    have e3 := g.ev
    obtain ⟨l1, l2, l3, l4⟩ := lr_lb
    rw [List.countP_append, List.countP_append, List.countP_cons, List.countP_cons]
    rcases br_cases h with rfl | rfl
    · rw [l1, l2]; simp; omega
    · rw [l3, l4]; simp; omega
theorem drop_br {ps : List Str} {b : Str} {k : Nat} (g : GoodPs ps) (hk : ps[k]? = some b) (h : isBr b = true) : BadPs (ps.take k ++ ps.drop (k + 1)) := by
  have mem : ∀ p ∈ ps.take k ++ ps.drop (k + 1), p ∈ ps := fun p hp => (List.mem_append.mp hp).elim List.mem_of_mem_take List.mem_of_mem_drop
  refine ⟨fun p hp => g.ok p (mem p hp), fun p hp => g.pt p (mem p hp), pars_odd ?_⟩
  obtain ⟨lt, e⟩ := List.getElem?_eq_some_iff.mp hk
  have ed : ps.drop k = b :: ps.drop (k + 1) := by rw [List.drop_eq_getElem_cons lt, e]
  have e1 := cnt_td ps k isL
  have e2 := cnt_td ps k isR
  have e3 := g.ev
  rw [ed, List.countP_cons] at e1 e2
  obtain ⟨l1, l2, l3, l4⟩ := lr_lb
  rw [List.countP_append, List.countP_append]
  rcases br_cases h with rfl | rfl
  · rw [l1] at e1; rw [l2] at e2; simp at e1 e2; omega
  · rw [l3] at e1; rw [l4] at e2; simp at e1 e2; omega
theorem deep_bad {ps : List Str} {n : Nat} (g : GoodPs ps) (h : 21 ≤ n) : BadPs (List.replicate n ("(" : Str) ++ ps ++ List.replicate n (")" : Str)) := by
  have mem : ∀ p ∈ List.replicate n ("(" : Str) ++ ps ++ List.replicate n (")" : Str), p = "(" ∨ p ∈ ps ∨ p = ")" := fun p hp => by
    rcases List.mem_append.mp hp with h | h
    · rcases List.mem_append.mp h with h | h
      · exact .inl (List.mem_replicate.mp h).2
      · exact .inr (.inl h)
    · exact .inr (.inr (List.mem_replicate.mp h).2)
  refine ⟨fun p hp => ?_, fun p hp => ?_, fun ts e => ?_⟩
  · rcases mem p hp with rfl | h | rfl
    · exact ⟨.inl br_lb⟩
    · exact g.ok p h
    · exact ⟨.inl br_rb⟩
  · rcases mem p hp with rfl | h | rfl
    · exact pct_lb
    · exact g.pt p h
    · exact pct_rb
  · rw [List.append_assoc, pars_deep n [[]] _ (by simp; omega) (by simp)] at e
    cases e
theorem wts_rep (n : Nat) (p : Str) : wts (List.replicate n p) = n * wt p := by
  induction n with
  | zero => simp [wts]
  | succ n ih => rw [List.replicate_succ, wts_cons, ih, Nat.succ_mul]; omega
theorem cut_to (xs : List V) (k : Nat) (h : k ≤ xs.length) : cutV xs none (some (k : Int)) = xs.take k := by
  unfold cutV
  have e1 : HT.sIx xs.length 0 none = 0 := by unfold HT.sIx; rfl
  have e2 : HT.sIx xs.length xs.length (some (k : Int)) = k := by unfold HT.sIx; simp; split <;> omega
  rw [e1, e2]
  simp
theorem cut_from (xs : List V) (k : Nat) (h : k ≤ xs.length) : cutV xs (some (k : Int)) none = xs.drop k := by
  unfold cutV
  have e1 : HT.sIx xs.length xs.length none = xs.length := by unfold HT.sIx; rfl
  have e2 : HT.sIx xs.length 0 (some (k : Int)) = k := by unfold HT.sIx; simp; split <;> omega
  rw [e1, e2, ← List.length_drop, List.take_length]
end Fw
set_option Elab.async false
set_option linter.all false
set_option maxRecDepth 100000
namespace Fw
open PySem PySem.Spec PyProof.Rows L2
abbrev s_spo : Stmt := top 105
abbrev nSp : List Str := ["_law_state", "_law_pieces_here", "_law_way", "_law_spot", "_law_brackets", "_law_many", "_law_text"]
inductive spSpo (vs : List V) (H : Hp) (Q : VK) (E_ : XK) : Prop where
  | mk (st pl : Addr) (ps : List Str) : vs = [.ref st, .ref pl] → StOk H st → pl ≠ st → H pl = some (.lst (ps.map V.str)) → GoodPs ps → ps.length ≤ 2000 → (∀ z H', BadT z → Grow st H H' → Q (.str z) H') → spSpo vs H Q E_
def brk (ps : List Str) (i : Nat) : List Nat := (List.range i).filter fun k => (ps[k]?.map isBr).getD false
def brV (ps : List Str) (i : Nat) : List V := (brk ps i).map fun (k : Nat) => V.int (k : Int)
theorem brk_succ (ps : List Str) (i : Nat) : brk ps (i + 1) = brk ps i ++ (if (ps[i]?.map isBr).getD false = true then [i] else []) := by
  unfold brk
  rw [List.range_succ, List.filter_append, List.filter_cons]
  rfl
theorem brk_len (ps : List Str) (i : Nat) : (brk ps i).length ≤ i := by
  have := List.length_filter_le (fun k => (ps[k]?.map isBr).getD false) (List.range i)
  rw [List.length_range] at this
  exact this
theorem brk_mem {ps : List Str} {i k : Nat} (h : k ∈ brk ps i) : ∃ b, ps[k]? = some b ∧ isBr b = true := by
  have := (List.mem_filter.mp h).2
  cases e : ps[k]? with
  | none => rw [e] at this; cases this
  | some b => rw [e] at this; exact ⟨b, rfl, this⟩
def t5 : TT := fun σ H Q => ∃ (a b sp : V) (w : Int) (br : Addr) (bs : List V), σ = [some a, some b, some (.int w), some sp, some (.ref br), none, none] ∧ H br = some (.lst bs) ∧ Q (decide (w = 5 ∧ bs ≠ [])) H
theorem pt_weak {X : Cx} {e : Expr} {t t' : TT} (h : PT X e t) (k : ∀ σ H Q, t' σ H Q → t σ H Q) : PT X e t' := fun pins s σ H Q I q => h pins s σ H Q I (k σ H Q q)
theorem inSq (K : PySem.W.Frag) {X : Cx} (h : X.K = K := by rfl) : OpR X (compareOp .In) (rIn K false) := h ▸ op_in_seq
theorem slL (K : PySem.W.Frag) {X : Cx} (h : X.K = K := by rfl) : SlR X (rSlL K) := h ▸ sl_list
theorem br_at {d : Int} (h0 : 0 ≤ d) (h1 : d < 2) : ∃ c, atI ("()" : Str).cps.toList d = some c ∧ isBr ⟨#[c]⟩ = true := by
  have : d = 0 ∨ d = 1 := by omega
  rcases this with rfl | rfl
  · exact ⟨40, by decide +kernel, by decide +kernel⟩
  · exact ⟨41, by decide +kernel, by decide +kernel⟩
section
variable {P : Program} {w : World} {K : PySem.W.Frag} {mg : Str → Option Value} {base : Heap} {f : Addr} {fd : FuncData}
theorem sc_spo : FnScope nSp ["_law_state", "_law_pieces_here"] (defScope s_spo) := ⟨rfl, rfl, rfl, by decide +kernel, rfl, by decide +kernel, by decide +kernel⟩
set_option maxHeartbeats 8000000 in
theorem ok_spo (F : Fun K "_law_spoilt" "_law_spoilt" s_spo f fd) (ml : mg "len" = none) (mr : mg "range" = none) (h0 : Has P w K mg base 1 "_law_next" ["_law_state", "_law_many"] spNext) (h1 : Has P w K mg base 6 "_law_bad_word" ["_law_state"] spBad) (h2 : Has P w K mg base 3 "_law_written" ["_law_state", "_law_pieces_here"] spWr) :
    FnOk P w K mg base CX0 7 f fd ["_law_state", "_law_pieces_here"] spSpo := by
  refine F.ok sc_spo (fun cdv A outer s H vs Q E hr h => ?_)
  obtain ⟨st, pl, ps, rfl, hs, npl, hpl, gp, pl2, q⟩ := h
  refine ⟨_, pss_cons (pset 2 sc_spo.nd (pcall h0 hr (by decide) rfl (pa_cons (pv 0) (pa_cons pe_int pa_nil))))
    (pss_cons (pset 3 sc_spo.nd (pcall h0 hr (by decide) rfl (pa_cons (pv 0) (pa_cons (pe_op op_add (pe_callB (clen K) rfl ml PySem.boot_len (pa_cons (pv 1) pa_nil)) pe_int) pa_nil))))
    (pss_cons (ps_if (pt_cmpR op_lt (pv 2) pe_int) (pss_one (ps_ret (pcall h2 hr (by decide) rfl (pa_cons (pv 0) (pa_cons (pe_op op_cat (pe_op op_cat (pe_slice (slL K) (pv 1) po_none (po_some (pv 3))) (pe_lst (pa_cons (pcall h1 hr (by decide) rfl (pa_cons (pv 0) pa_nil)) pa_nil))) (pe_slice (slL K) (pv 1) (po_some (pv 3)) po_none)) pa_nil))))) pss_nil)
    (pss_cons (ps_lc (defScope s_spo) nSp ["_law_pieces_here"] [1] (by decide +kernel) (pi_range1 rfl mr (pa_cons (pe_callB (clen K) rfl ml PySem.boot_len (pa_cons (pv 1) pa_nil)) pa_nil)) (pg_name (i := 4) sc_spo.nd rfl (Or.inl rfl))
      (fun C s₀ H₀ ex => pts_one (pt_cmpR (inSq K) (pe_ix (ixL K) (pv 1) (pv 0)) (pe_tup (pa_cons pe_str (pa_cons pe_str pa_nil))) (by with_unfolding_all rfl))) (fun C s₀ H₀ ex => pv 0) (by with_unfolding_all rfl))
    (pss_cons (ps_if (pt_weak (t' := t5) (PW.pt (pw_and (pt_cmpR op_eq (pv 2) pe_int) (pw_and1 (pt_cmpR op_gt (pe_callB (clen K) rfl ml PySem.boot_len (pa_cons (pv 4) pa_nil)) pe_int)))) ?w)
      (pss_cons (pset 3 sc_spo.nd (pe_ix (ixL K) (pv 4) (pcall h0 hr (by decide) rfl (pa_cons (pv 0) (pa_cons (pe_callB (clen K) rfl ml PySem.boot_len (pa_cons (pv 4) pa_nil)) pa_nil)))))
        (pss_one (ps_ret (pcall h2 hr (by decide) rfl (pa_cons (pv 0) (pa_cons (pe_op op_cat (pe_slice (slL K) (pv 1) po_none (po_some (pv 3))) (pe_slice (slL K) (pv 1) (po_some (pe_op op_add (pv 3) pe_int)) po_none)) pa_nil)))))) pss_nil)
    (pss_cons (ps_if (pt_cmpR op_eq (pv 2) pe_int)
      (pss_cons (pset 5 sc_spo.nd (pe_op op_add pe_int (pcall h0 hr (by decide) rfl (pa_cons (pv 0) (pa_cons pe_int pa_nil)))))
        (pss_one (ps_ret (pcall h2 hr (by decide) rfl (pa_cons (pv 0) (pa_cons (pe_op op_cat (pe_op op_cat (pe_op op_rep (pe_lst (pa_cons pe_str pa_nil)) (pv 5)) (pv 1)) (pe_op op_rep (pe_lst (pa_cons pe_str pa_nil)) (pv 5))) pa_nil)))))) pss_nil)
    (pss_cons (ps_if (pt_cmpR op_eq (pv 2) pe_int)
      (pss_cons (pset 6 sc_spo.nd (pcall h2 hr (by decide) rfl (pa_cons (pv 0) (pa_cons (pv 1) pa_nil))))
        (pss_one (ps_ret (pe_op op_add_str (pv 6) (pe_op op_mulS pe_str (pe_op op_sub (pe_op op_add pe_int (pcall h0 hr (by decide) rfl (pa_cons (pv 0) (pa_cons pe_int pa_nil)))) (pe_callB call_len_str rfl ml PySem.boot_len (pa_cons (pv 6) pa_nil)))))))) pss_nil)
    (pss_one (ps_ret (pcall h2 hr (by decide) rfl (pa_cons (pv 0) (pa_cons (pe_op op_cat (pe_op op_cat (pe_slice (slL K) (pv 1) po_none (po_some (pv 3))) (pe_lst (pa_cons (pe_ix ix_str pe_str (pcall h0 hr (by decide) rfl (pa_cons (pv 0) (pa_cons pe_int pa_nil))) (fun _ _ => rfl)) pa_nil))) (pe_slice (slL K) (pv 1) (po_some (pv 3)) po_none)) pa_nil))))))))))), ?_⟩
  case w =>
    rintro σ H' Q' ⟨a, b, sp, w', br, bs, rfl, hb, q'⟩
    refine ⟨_, rfl, rfl, _, rfl, ite2 (fun c => ?_) (fun c => ?_)⟩
    · refine ⟨_, rfl, br, bs, rfl, .inl (SqL.of hb), _, _, rfl, rfl, _, rfl, ?_⟩
      have e5 : w' = 5 := by
        have := of_decide_eq_true c
        exact V.int.inj this
      have e : (decide ((0 : Int) < (bs.length : Int))) = decide (w' = 5 ∧ bs ≠ []) := by
        cases bs with
        | nil => rw [decide_eq_false (by simp), decide_eq_false (by simp)]
        | cons x r => rw [decide_eq_true (by simp), decide_eq_true ⟨e5, by simp⟩]
      exact e ▸ q'
    · have e : false = decide (w' = 5 ∧ bs ≠ []) := by
        rw [decide_eq_false fun z => c (decide_eq_true (by rw [z.1]))]
      exact e ▸ q'
  have wr : ∀ (l : Addr) (ps' : List Str) (H' : Hp), Grow st H H' → l ≠ st → H' l = some (.lst (ps'.map V.str)) → BadPs ps' → wts ps' ≤ 5800 → spWr ([.ref st, .ref l] ++ []) H' Q E0 := fun l ps' H' g nl hl hb hw =>
    ⟨st, l, ps', rfl, g.ok, nl, hl, hb.ok, hw, fun z H2 ho lz g2 => q z H2 (hb.bad ho (by omega)) (g.trans g2)⟩
  have lps : (ps.map V.str).length = ps.length := List.length_map _
  have put : ∀ (k : Nat) (b : Str), k ≤ ps.length → cutV (ps.map V.str) none (some (k : Int)) ++ [V.str b] ++ cutV (ps.map V.str) (some (k : Int)) none = (ps.take k ++ b :: ps.drop k).map V.str := fun k b hk => by
    rw [cut_to _ _ (by rw [lps]; exact hk), cut_from _ _ (by rw [lps]; exact hk), List.map_append, List.map_cons, List.map_take, List.map_drop, List.append_assoc]
    rfl
  have wput : ∀ (k : Nat) (b : Str), b.length ≤ 60 → wts (ps.take k ++ b :: ps.drop k) ≤ 5800 := fun k b hb => by
    have := wts_td ps k
    have := gp.wt
    rw [wts_app, wts_cons]
    unfold wt
    omega
  have cutl : ∀ lo hi, (cutV (ps.map V.str) lo hi).length ≤ 2000 := fun lo hi => Nat.le_trans (cutV_length _ _ _) (by rw [lps]; exact pl2)
  refine ⟨_, rfl, st, 8, rfl, hs, by decide, by decide, fun d H1 d0 d1 g1 => ?_⟩
  have p1 := g1.1 _ _ npl hpl
  refine ⟨_, rfl, _, rfl, pl, _, rfl, .inl (SqL.of p1), _, 1, rfl, rfl, st, _, rfl, g1.ok, by omega, by rw [lps]; omega, fun e H2 e0 e1 g2 => ?_⟩
  rw [lps] at e1
  have p2 := g2.1 _ _ npl p1
  obtain ⟨k, rfl⟩ := Int.eq_ofNat_of_zero_le e0
  have hk : k ≤ ps.length := by omega
  have gg2 := g1.trans g2
  have ins : ∀ (b : Str) (a1 : Addr) (H4 : Hp) (a2 : Addr) (σ : L2.St), σ[1]? = some (some (.ref pl)) → σ[3]? = some (some (.int (k : Int))) → Grow st H H4 → a1 ≠ st → H4 a1 = some (.lst (cutV (ps.map V.str) none (some (k : Int)))) → H4 pl = some (.lst (ps.map V.str)) → H4 a2 = none → BadPs (ps.take k ++ b :: ps.drop k) → b.length ≤ 60 →
      rCat (V.ref a1) (V.ref a2) (upd H4 a2 (.lst [V.str b])) fun x H1 => tSl (rSlL K) (tVar 1) (tPart (tVar 3)) tNoPart σ H1 fun y H2 => rCat x y H2 fun x H1 => spWr ([.ref st, x] ++ []) H1 Q E0 := by
    intro b a1 H4 a2 σ hσ1 hσ3 g n1 q1 q2 m2 hb lb
    have s5 := same_new m2 (.lst [V.str b])
    have c1 := cutl none (some (k : Int))
    have c2 := cutl (some (k : Int)) none
    refine ⟨a1, a2, _, _, rfl, rfl, s5 _ _ q1, upd_same, small (by simp only [List.length_cons, List.length_nil]; omega), fun a3 m3 => ?_⟩
    have s6 := same_new m3 (.lst (cutV (ps.map V.str) none (some (k : Int)) ++ [V.str b]))
    refine ⟨_, hσ1, _, hσ3, (k : Int), rfl, pl, _, rfl, SqL.of (s6 _ _ (s5 _ _ q2)), fun a4 m4 => ?_⟩
    have s7 := same_new m4 (.lst (cutV (ps.map V.str) (some (k : Int)) none))
    refine ⟨a3, a4, _, _, rfl, rfl, s7 _ _ upd_same, upd_same, small (by rw [List.length_append]; simp only [List.length_cons, List.length_nil]; omega), fun a5 m5 => ?_⟩
    have g8 := g.trans (grow_same g.ok (s5.trans (s6.trans (s7.trans (same_new m5 (.lst (cutV (ps.map V.str) none (some (k : Int)) ++ [V.str b] ++ cutV (ps.map V.str) (some (k : Int)) none)))))))
    refine wr a5 _ _ g8 (fresh_st (g.ok.same (s5.trans (s6.trans s7))) m5) ?_ hb (wput k b lb)
    rw [upd_same, put k b hk]
  refine ⟨_, rfl, _, _, rfl, rfl, _, rfl, ite2 (fun _ => ?_) (fun _ => ?_)⟩
  · refine ⟨_, rfl, _, rfl, _, rfl, (k : Int), rfl, pl, _, rfl, SqL.of p2, fun a1 ha1 => ?_⟩
    have n1 := fresh_st gg2.ok ha1
    have gg3 := gg2.trans (grow_new (o := .lst (cutV (ps.map V.str) none (some (k : Int)))) gg2.ok ha1)
    have p3 : (upd H2 a1 (.lst (cutV (ps.map V.str) none (some (k : Int))))) pl = some (.lst (ps.map V.str)) := same_new ha1 _ _ _ p2
    refine ⟨_, rfl, st, rfl, gg3.ok, fun b H4 hb g4 => ⟨sml 1, fun a2 ha2 => ?_⟩⟩
    exact ins b a1 H4 a2 _ rfl rfl (gg3.trans g4) n1 (g4.1 _ _ n1 upd_same) (g4.1 _ _ npl p3) ha2 (put_bad k gp hb) hb.hi
  refine ⟨_, rfl, pl, _, rfl, .inl (SqL.of p2), (ps.length : Int), by rw [lps], by omega, by omega, ?_⟩
  refine comp_range (n := (ps.length : Int).toNat) (fun i vs H' => Same H2 H' ∧ vs = brV ps i) ⟨Same.refl _, rfl⟩ ?_ ?_ ?_
  · rintro i vs H' hi ⟨_, rfl⟩
    have := brk_len ps i
    exact small' (by unfold brV; rw [List.length_map]; omega)
  · rintro i vs H' hi ⟨s', rfl⟩
    have hi' : i < ps.length := by simpa using hi
    have ei : ps[i]? = some ps[i] := List.getElem?_eq_getElem hi'
    refine ⟨_, rfl, _, rfl, pl, _, _, .str ps[i], rfl, rfl, SqL.of (s' _ _ p2), ?_, small (by show 2 ≤ 1000000; decide), fun t1 h1' => ⟨t1, _, rfl, .inr (SqT.of upd_same), rfl, by rw [brs]; exact flat_strs _, _, rfl, ?_⟩⟩
    · rw [Int.zero_add]
      exact atI_nat (j := i) (by rw [List.getElem?_map, ei]; rfl)
    have e1 := same_new h1' (.tup (brL.map V.str))
    rw [if_neg Bool.false_ne_true, brs, inV_str]
    show if isBr ps[i] = true then _ else _
    have eb : brV ps (i + 1) = brV ps i ++ (if isBr ps[i] = true then [V.int (i : Int)] else []) := by
      unfold brV
      rw [brk_succ, ei, List.map_append]
      show _ ++ List.map _ (if isBr ps[i] = true then _ else _) = _
      cases isBr ps[i] <;> rfl
    cases c : isBr ps[i] with
    | true =>
      rw [c, if_pos rfl] at eb
      exact iteT ⟨_, rfl, nx hi ⟨s'.trans e1, by rw [eb, Int.zero_add]⟩⟩
    | false =>
      rw [c, if_neg Bool.false_ne_true, List.append_nil] at eb
      exact iteF (nx hi ⟨s'.trans e1, eb.symm⟩)
  rintro vs H3 ⟨s3, rfl⟩ br hbr
  have sb := s3.trans (same_new hbr (.lst (brV ps ps.length)))
  have gg3 := gg2.trans (grow_same gg2.ok sb)
  have nbr := fresh_st (gg2.ok.same s3) hbr
  have pb : (upd H3 br (.lst (brV ps ps.length))) br = some (.lst (brV ps ps.length)) := upd_same
  have p3 := sb _ _ p2
  show tSeq _ _ _ _ (upd H3 br (.lst (brV ps ps.length)))
  revert gg3 pb p3
  generalize upd H3 br (.lst (brV ps ps.length)) = H4
  intro gg3 pb p3
  refine ⟨_, _, _, d, br, brV ps ps.length, rfl, pb, ite2 (fun c => ?_) (fun c => ?_)⟩
  · have c2 := (of_decide_eq_true c).2
    have lb : 0 < (brV ps ps.length).length := List.length_pos_iff.mpr c2
    have lb2 : (brV ps ps.length).length ≤ 2000 := by unfold brV; rw [List.length_map]; exact Nat.le_trans (brk_len _ _) pl2
    refine ⟨_, rfl, _, rfl, _, rfl, br, _, rfl, .inl (SqL.of pb), st, _, rfl, gg3.ok, by omega, by omega, fun m H5 m0 m1 g5 => ?_⟩
    obtain ⟨v, hv, hm⟩ := at_any (xs := brV ps ps.length) m0 m1
    obtain ⟨j, hj, rfl⟩ := List.mem_map.mp hm
    obtain ⟨b, hjb, hb⟩ := brk_mem hj
    have pb5 := g5.1 _ _ nbr pb
    have p5 := g5.1 _ _ npl p3
    have gg5 := gg3.trans g5
    refine ⟨br, _, m, _, rfl, rfl, SqL.of pb5, hv, ?_⟩
    have hjl : j < ps.length := (List.getElem?_eq_some_iff.mp hjb).1
    refine ⟨_, rfl, _, rfl, _, rfl, (j : Int), rfl, pl, _, rfl, SqL.of p5, fun a1 m1 => ?_⟩
    have s6 := same_new m1 (.lst (cutV (ps.map V.str) none (some (j : Int))))
    refine ⟨_, rfl, _, rfl, _, _, rfl, rfl, ((j + 1 : Nat) : Int), rfl, pl, _, rfl, SqL.of (s6 _ _ p5), fun a2 m2 => ?_⟩
    have s7 := same_new m2 (.lst (cutV (ps.map V.str) (some ((j + 1 : Nat) : Int)) none))
    have c1 := cutl none (some (j : Int))
    have c2 := cutl (some ((j + 1 : Nat) : Int)) none
    refine ⟨a1, a2, _, _, rfl, rfl, s7 _ _ upd_same, upd_same, small (by omega), fun a3 m3 => ?_⟩
    have g8 := gg5.trans (grow_same gg5.ok (s6.trans (s7.trans (same_new m3 (.lst (cutV (ps.map V.str) none (some (j : Int)) ++ cutV (ps.map V.str) (some ((j + 1 : Nat) : Int)) none))))))
    refine wr a3 _ _ g8 (fresh_st (gg5.ok.same (s6.trans s7)) m3) ?_ (drop_br gp hjb hb) ?_
    · rw [upd_same, cut_to _ _ (by rw [lps]; omega), cut_from _ _ (by rw [lps]; omega), List.map_append, List.map_take, List.map_drop]
    · have := wts_td ps j
      have := wts_td (ps.drop j) 1
      rw [List.drop_drop] at this
      have := gp.wt
      rw [wts_app]
      omega
  refine ⟨_, rfl, rfl, _, rfl, ite2 (fun _ => ?_) (fun _ => ?_)⟩
  · refine ⟨_, rfl, st, 5, rfl, gg3.ok, by decide, by decide, fun m H5 m0 m1 g5 => ⟨_, _, rfl, rfl, ?_⟩⟩
    obtain ⟨n, rfl⟩ := Int.eq_ofNat_of_zero_le m0
    have p5 := g5.1 _ _ npl p3
    have gg5 := gg3.trans g5
    have en : ((21 : Int) + (n : Int)) = ((21 + n : Nat) : Int) := by omega
    have et : ((21 : Int) + (n : Int)).toNat = 21 + n := by omega
    refine ⟨_, rfl, sml 1, fun a1 m1 => ⟨_, rfl, a1, _, _, rfl, rfl, upd_same, by omega, by omega, small (by rw [et]; simp only [List.length_cons, List.length_nil]; omega), fun a2 m2 => ?_⟩⟩
    have s6 := same_new m1 (.lst [V.str "("])
    have s7 := same_new m2 (.lst (List.replicate ((21 : Int) + (n : Int)).toNat [V.str "("]).flatten)
    have fr : ∀ x : V, (List.replicate ((21 : Int) + (n : Int)).toNat [x]).flatten = List.replicate (21 + n) x := fun x => by rw [et]; exact List.flatten_replicate_singleton
    refine ⟨_, rfl, a2, pl, _, _, rfl, rfl, upd_same, s7 _ _ (s6 _ _ p5), small (by rw [fr, List.length_replicate, lps]; omega), fun a3 m3 => ?_⟩
    have s8 := same_new m3 (.lst ((List.replicate ((21 : Int) + (n : Int)).toNat [V.str "("]).flatten ++ ps.map V.str))
    refine ⟨sml 1, fun a4 m4 => ⟨_, rfl, a4, _, _, rfl, rfl, upd_same, by omega, by omega, small (by rw [et]; simp only [List.length_cons, List.length_nil]; omega), fun a5 m5 => ?_⟩⟩
    have s9 := same_new m4 (.lst [V.str ")"])
    have s10 := same_new m5 (.lst (List.replicate ((21 : Int) + (n : Int)).toNat [V.str ")"]).flatten)
    refine ⟨a3, a5, _, _, rfl, rfl, s10 _ _ (s9 _ _ upd_same), upd_same, small (by rw [List.length_append, fr, fr, List.length_replicate, List.length_replicate, lps]; omega), fun a6 m6 => ?_⟩
    have s11 := same_new m6 (.lst ((List.replicate ((21 : Int) + (n : Int)).toNat [V.str "("]).flatten ++ ps.map V.str ++ (List.replicate ((21 : Int) + (n : Int)).toNat [V.str ")"]).flatten))
    have sa := s6.trans (s7.trans (s8.trans (s9.trans s10)))
    refine wr a6 _ _ (gg5.trans (grow_same gg5.ok (sa.trans s11))) (fresh_st (gg5.ok.same sa) m6) ?_ (deep_bad (n := 21 + n) gp (by omega)) ?_
    · rw [upd_same, fr, fr, List.map_append, List.map_append, List.map_replicate, List.map_replicate]
    · have := gp.wt
      rw [wts_app, wts_app, wts_rep, wts_rep, wt_lb, wt_rb]
      omega
  refine ⟨_, rfl, rfl, _, rfl, ite2 (fun _ => ?_) (fun _ => ?_)⟩
  · refine ⟨_, rfl, _, rfl, st, pl, ps, rfl, gg3.ok, npl, p3, gp.ok, Nat.le_trans gp.wt (by decide), fun z H5 ho lz g5 => ?_⟩
    refine ⟨_, rfl, _, rfl, st, 90, rfl, g5.ok, by decide, by decide, fun m H6 m0 m1 g6 => ⟨_, _, rfl, rfl, ?_⟩⟩
    obtain ⟨n, rfl⟩ := Int.eq_ofNat_of_zero_le m0
    have := gp.wt
    have o1 : (" " : Str).length = 1 := by decide +kernel
    have rl := repS_len (6001 + n - z.length) " "
    rw [o1, Nat.mul_one] at rl
    refine ⟨_, rfl, z, rfl, small (by omega), _, _, rfl, rfl, " ", 6001 + n - z.length, rfl, by congr 1; omega, by rw [o1]; omega, by omega, z, _, rfl, rfl, small (by rw [rl]; omega), ?_⟩
    refine q _ _ ⟨?_, fun h => ?_, .inl ?_⟩ (gg3.trans (g5.trans g6))
    · rw [len_app, rl]; omega
    · rw [len_app, rl] at h; omega
    · rw [len_app, rl]; omega
  refine ⟨_, rfl, _, rfl, _, rfl, (k : Int), rfl, pl, _, rfl, SqL.of p3, fun a1 ha1 => ?_⟩
  have n1 := fresh_st gg3.ok ha1
  have gg4 := gg3.trans (grow_new (o := .lst (cutV (ps.map V.str) none (some (k : Int)))) gg3.ok ha1)
  have p4 : (upd H4 a1 (.lst (cutV (ps.map V.str) none (some (k : Int))))) pl = some (.lst (ps.map V.str)) := same_new ha1 _ _ _ p3
  refine ⟨_, rfl, st, 2, rfl, gg4.ok, by decide, by decide, fun m H5 m0 m1 g5 => ?_⟩
  obtain ⟨c, hc, hb⟩ := br_at m0 m1
  refine ⟨"()", m, c, rfl, rfl, by decide +kernel, hc, sml 1, fun a2 ha2 => ?_⟩
  exact ins ⟨#[c]⟩ a1 H5 a2 _ rfl rfl (gg4.trans g5) n1 (g5.1 _ _ n1 upd_same) (g5.1 _ _ npl p4) ha2 (put_br k gp hb) (by show 1 ≤ 60; decide)
end
end Fw
set_option Elab.async false
set_option linter.all false
set_option maxRecDepth 100000
namespace Fw
open PySem PySem.Spec PyProof.Rows L2
abbrev s_law : Stmt := top 106
abbrev nL : List Str := ["_law_script", "_law_state", "_law_k", "_law_due", "_law_pieces_here", "_law_good", "_law_bad"]
inductive spLaw (K : PySem.W.Frag) (vs : List V) (H : Hp) (Q : VK) (E_ : XK) : Prop where
  | mk (a : Addr) (ns : List Int) : vs = [.ref a] → SqL K H a (ns.map V.int) → ns.length ≤ 63 → (∀ H', Q (.bl true) H') → spLaw K vs H Q E_
theorem passX {P : Program} {w : World} {X : Cx} : Passes (CXF P w) X E0 := fun _ _ _ _ _ _ _ h => by
  obtain ⟨_, _, _, _, _, z⟩ := h
  exact False.elim z
theorem pcs_len3 (l : List Str) : 3 * l.length ≤ wts l := by
  induction l with
  | nil => simp [wts]
  | cons p l ih =>
    rw [wts_cons, List.length_cons]
    unfold wt
    omega
section
variable {P : Program} {w : World} {K : PySem.W.Frag} {mg : Str → Option Value} {base : Heap} {f CN : Addr} {fd : FuncData}
theorem sc_law : FnScope nL ["_law_script"] (defScope s_law) := ⟨rfl, rfl, rfl, by decide +kernel, rfl, by decide +kernel, by decide +kernel⟩
set_option maxHeartbeats 4000000 in
theorem ok_law (F : Fun K "law" "law" s_law f fd) (mr : mg "range" = none) (h0 : Has P w K mg base 1 "_law_drawn" ["_law_script"] (spDrawn K)) (h2 : Has P w K mg base 12 "_law_things" ["_law_state"] spThs2)
    (h3 : Has P w K mg base 22 "_law_pieces" ["_law_thing_here"] (spPc 21)) (h4 : Has P w K mg base 3 "_law_written" ["_law_state", "_law_pieces_here"] spWr) (h5 : Has P w K mg base 22 "_law_same" ["_law_told", "_law_due"] (spSame 21)) (h6 : HasX P w K mg base 7 "things_of" ["text"] (spThs CN))
    (h7 : Has P w K mg base 7 "_law_spoilt" ["_law_state", "_law_pieces_here"] spSpo) (h8 : Has P w K mg base 9 "_law_refused" ["_law_text", "_law_by_read"] spRef) :
    FnOk P w K mg base CX0 23 f fd ["_law_script"] (spLaw K) := by
  refine F.ok sc_law (fun cdv A outer s H vs Q E hr h => ?_)
  obtain ⟨a, ns, rfl, ha, hl, q⟩ := h
  obtain ⟨f6, g6, G6, b6, k6, m6⟩ := h6
  refine ⟨_, pss_cons (pset 1 sc_law.nd (pcall h0 hr (by decide) rfl (pa_cons (pv 0) pa_nil)))
    (pss_cons (ps_for PassesOwn.never rfl (pi_range1 rfl mr (pa_cons pe_int pa_nil)) (pg_name (i := 2) sc_law.nd rfl (Or.inl rfl))
      (pss_cons (pset 3 sc_law.nd (pcall h2 hr (by decide) rfl (pa_cons (pv 1) pa_nil)))
      (pss_cons (pset 4 sc_law.nd (pe_slice (slL K) (pcall h3 hr (by decide) rfl (pa_cons (pv 3) pa_nil)) (po_some pe_int) (po_some (pe_un un_neg pe_int))))
      (pss_cons (pset 5 sc_law.nd (pcall h4 hr (by decide) rfl (pa_cons (pv 1) (pa_cons (pv 4) pa_nil))))
      (pss_cons (pset 6 sc_law.nd (pcall h7 hr (by decide) rfl (pa_cons (pv 1) (pa_cons (pv 4) pa_nil))))
      (pss_cons (ps_if (PW.pt (pw_or (pt_not (pt_val (pcall h5 hr (by decide) rfl (pa_cons (pe_call G6 (hr.mono (by decide)) rfl m6 k6 b6 .nil passX (pa_cons (pv 5) pa_nil)) (pa_cons (pv 3) pa_nil)))))
        (pw_or (pt_not (pt_val (pcall h8 hr (by decide) rfl (pa_cons (pv 6) (pa_cons pe_bl pa_nil)))))
        (pw_or1 (pt_not (pt_val (pcall h8 hr (by decide) rfl (pa_cons (pv 6) (pa_cons pe_bl pa_nil))))))))) (pss_one (ps_ret pe_bl)) pss_nil)
      (pss_one (ps_if (pt_not (pt_val (pcall h5 hr (by decide) rfl (pa_cons (pe_call G6 (hr.mono (by decide)) rfl m6 k6 b6 .nil passX (pa_cons (pv 5) pa_nil)) (pa_cons (pv 3) pa_nil))))) (pss_one (ps_ret pe_bl)) pss_nil))))))))
    (pss_one (ps_ret pe_bl))), ?_⟩
  refine ⟨_, rfl, a, ns, rfl, ha, hl, fun st H1 e1 hst1 hs => ?_⟩
  refine ⟨4, rfl, by decide, by decide, for_range (n := (4 : Int).toNat) (fun i σ H' => (∃ x y z u v, σ = [some (.ref a), some (.ref st), x, y, z, u, v]) ∧ StOk H' st) ⟨⟨_, _, _, _, _, rfl⟩, hs⟩ ?_ ?_⟩
  · rintro i σ H2 hi ⟨⟨x, y, z, u, v, rfl⟩, hs2⟩
    refine ⟨_, rfl, st, rfl, hs2, fun v ts H3 rv tr hw ht g3 => ?_⟩
    have tr21 : Tr 21 (.tup ts) := .tp tr
    have w21 : wts (pcs (.tup ts)) ≤ 5000 := by rw [wts_tup]; omega
    refine ⟨_, rfl, v, .tup ts, rfl, rv, tr21, w21, fun pl H4 e4 hpl hl4 => ?_⟩
    have hs4 := g3.ok.same e4
    refine ⟨1, rfl, 1, rfl, -1, rfl, pl, _, rfl, SqL.of hl4, fun u hu => ?_⟩
    have cm : cutV ((pcs (.tup ts)).map V.str) (some 1) (some (-1)) = (pcss ts).map V.str := by
      rw [pcs, List.map_cons, List.map_append]
      exact cut_mid _ _ _
    rw [cm]
    have eu := same_new hu (.lst ((pcss ts).map V.str))
    have hs5 := hs4.same eu
    have nu := fresh_st hs4 hu
    have pu : (upd H4 u (.lst ((pcss ts).map V.str))) u = some (.lst ((pcss ts).map V.str)) := upd_same
    have r5 := (rv.same e4).same eu
    have gd := good_pcss tr (by omega)
    have l3 := pcs_len3 (pcss ts)
    refine ⟨_, rfl, _, rfl, st, u, pcss ts, rfl, hs5, nu, pu, gd.ok, by omega, fun z H6 ho lz g6 => ?_⟩
    have r6 := r5.grow g6 hs5
    refine ⟨_, rfl, _, rfl, st, u, pcss ts, rfl, g6.ok, nu, g6.1 _ _ nu pu, gd, by omega, fun z2 H7 hb g7 => ?_⟩
    have r7 := r6.grow g7 g6.ok
    have ep := pieces_of_opn ho
    have ep1 : pars [[]] (piecesS z) = some [ts] := by rw [ep]; exact pars_all tr
    have good : ∀ (H' : Hp) (W : VK), (∀ v H'', Same H' H'' → Rep H'' v (.tup ts) → W v H'') → spThs CN ([.str z] ++ []) H' W E0 := fun H' W hW =>
      ⟨z, rfl, by omega, fun _ => by rw [ep]; exact gd.pt, fun ts' _ e => by rw [ep1] at e; cases e; exact hW, fun no => (no.elim (fun h => absurd h (by omega)) fun h => absurd ep1 (h ts))⟩
    refine ⟨_, rfl, good _ _ fun v1 H8 e8 r8 => ⟨_, rfl, v1, v, .tup ts, rfl, r8, r7.same e8, tr21, w21, fun H9 e9 => ⟨_, rfl, iteF ?_⟩⟩⟩
    refine ⟨_, rfl, z2, false, rfl, hb.len, hb.pc, hb.no, fun H10 e10 => ⟨_, rfl, iteF ⟨_, rfl, z2, true, rfl, hb.len, hb.pc, hb.no, fun H11 e11 => ⟨_, rfl, iteF ?_⟩⟩⟩⟩
    refine ⟨_, rfl, good _ _ fun v2 H12 e12 r12 => ⟨_, rfl, v2, v, .tup ts, rfl, r12, r7.same (e8.trans (e9.trans (e10.trans (e11.trans e12)))), tr21, w21, fun H13 e13 => ⟨_, rfl, iteF ?_⟩⟩⟩
    exact ⟨⟨_, _, _, _, _, rfl⟩, g7.ok.same (e8.trans (e9.trans (e10.trans (e11.trans (e12.trans e13)))))⟩
  · rintro σ H' ⟨⟨x, y, z, u, v, rfl⟩, _⟩
    exact q H'
end
end Fw
set_option Elab.async false
set_option linter.all false
set_option maxRecDepth 100000
namespace Fw
open PySem PySem.Spec PyProof.Rows L2
def DefIs (K : PySem.W.Frag) (x : Str) (st : Stmt) : Prop := ∃ f fd, PySem.W.nsIn K mainGlobals x = some (some (.ref f)) ∧ Fun K x x st f fd
theorem def_mk {K : PySem.W.Frag} {x : Str} {st : Stmt} {f : Addr} {oc : Value} {od an : Option Addr} {osl : Array (Option Value)} {kV doc pm cdv ct : Value} (a : PySem.W.nsIn K mainGlobals x = some (some (.ref f)))
    (l : K.lookup f = some ⟨oc, od, .func (PySem.W.fnOf x x (defArgs st) (defBody st) (defScope st) .none kV doc pm an cdv ct), osl⟩) (c : PySem.W.codeIn K cdv x = true) (k : PySem.W.keepIn K (.ref f) = true) : DefIs K x st := ⟨f, _, a, fun_mk l c k⟩
theorem val_str {K : PySem.W.Frag} {x z y : Str} {t : Tok} (a : PySem.W.nsIn K mainGlobals x = some (some (.str z t))) (e : z = y) : ∃ t, PySem.W.nsIn K mainGlobals x = some (some (.str y t)) := ⟨t, by rw [← e]; exact a⟩
theorem val_int {K : PySem.W.Frag} {x : Str} {i j : Int} {t : Tok} (a : PySem.W.nsIn K mainGlobals x = some (some (.int i t))) (e : i = j) : ∃ t, PySem.W.nsIn K mainGlobals x = some (some (.int j t)) := ⟨t, by rw [← e]; exact a⟩
theorem abs_rel {x : V} {u : Value} (h : absV u = some x) : RelV x u := by
  cases u <;> simp only [absV, Option.some.injEq, reduceCtorEq] at h
  all_goals first
    | (subst h; exact rfl)
    | (subst h; exact ⟨_, rfl⟩)
theorem vals_abs : ∀ {xs : List V} {us : List Value}, us.map absV = xs.map some → Vals xs us
  | [], [], _ => .nil
  | x :: xs, u :: us, h => by
    simp only [List.map_cons, List.cons.injEq] at h
    exact .cons (abs_rel h.1) (vals_abs h.2)
  | [], _ :: _, h => by simp at h
  | _ :: _, [], h => by simp at h
theorem val_tup {K : PySem.W.Frag} {x : Str} {xs : List V} {a : Addr} {oc : Value} {od : Option Addr} {its : Array Value} {n : Nat} {sl : Array (Option Value)} (h1 : PySem.W.nsIn K mainGlobals x = some (some (.ref a))) (h2 : K.lookup a = some ⟨oc, od, .seq its n, sl⟩)
    (h3 : oc = .type "tuple") (h4 : its.size ≤ sizeLine) (h5 : its.toList.map absV = xs.map some) : ∃ a, PySem.W.nsIn K mainGlobals x = some (some (.ref a)) ∧ ∀ H, SqT K H a xs := ⟨a, h1, fun H => .inr ⟨_, its, n, h2, h3, rfl, h4, vals_abs h5⟩⟩
theorem law_binds {K : PySem.W.Frag} {x : Str} {st : Stmt} {f : Addr} {fd : FuncData} {p : Str} (F : Fun K x x st f fd) (h : ∀ (kV doc pm : Value) (an : Option Addr) (cdv ct : Value) (s : Shared) (v : Value), BindsTo s (PySem.W.fnOf x x (defArgs st) (defBody st) (defScope st) .none kV doc pm an cdv ct) ⟨[v], []⟩ [(p, v)]) :
    ∀ (s : Shared) (v : Value), BindsTo s fd ⟨[v], []⟩ [(p, v)] := by
  obtain ⟨oc, od, kV, doc, pm, an, cdv, ct, osl, rfl, lk, hcd⟩ := F.ex
  exact h kV doc pm an cdv ct
abbrev bmV : List Value := [.type "ValueError", .type "Exception", .type "BaseException", .type "object"]
def ExcIs (K : PySem.W.Frag) (x : Str) (CT CX : Addr) : Prop := ∀ (base : Heap) (mg : Str → Option Value), K.In base → mg x = some (.ref CT) → OwnCls x CT bmV "ValueError.__new__" mg base ∧ CatchOk base CT CX
theorem excis_mk {K : PySem.W.Frag} {x : Str} {CT CX N N' : Addr} {nm q nm' q' : Str} {bs bm bs' bm' : List Value} {hd hd' : Bool} {sn sn' : List Str} {sub sub' : List Value} {ab ab' : Bool} {col col' : Option Bool} {dd dd' : Option Addr} {k0 k1 k2 k3 k5 j0 j1 j2 j3 j5 : Option Value} {nid : String}
    (l1 : K.lookup CT = some ⟨.type "type", dd, .cls ⟨nm, bs, .ref CT :: bm, N, q, hd, sn, sub, ab, col, false⟩, #[k0, k1, k2, k3, some (.builtin "ValueError.__new__"), k5]⟩) (n1 : PySem.W.nsOkIn K N = true) (n2 : PySem.W.nsIn K N "__init__" = some none) (t1 : PySem.W.tailIn K bmV bm = true)
    (l2 : K.lookup CX = some ⟨.type "type", dd', .cls ⟨nm', bs', .ref CX :: bm', N', q', hd', sn', sub', ab', col', false⟩, #[j0, j1, j2, j3, some (.builtin nid), j5]⟩) (b1 : bm'.contains (.type "BaseException") = true) (b2 : (Value.ref CT :: bm).contains (.ref CX) = true) : ExcIs K x CT CX := fun base mg X m =>
  ⟨⟨m, bm, N, nm, q, bs, hd, sn, sub, ab, col, dd, k0, k1, k2, k3, k5, _, X _ _ l1, .of_isNs (PySem.W.isNs_of_in X n1), PySem.W.nsMap_none_of_in X n1 n2, PySem.W.tail_of_in X t1⟩,
   nm, q, nm', q', N, N', bs, bm, bs', bm', hd, hd', sn, sn', sub, sub', ab, ab', col, col', dd, dd', k0, k1, k2, k3, k5, j0, j1, j2, j3, j5, _, nid, X _ _ l1, X _ _ l2, b1, b2⟩
theorem exc_mk {K : PySem.W.Frag} {C : Addr} {c0 : Value} {d0 : Option Addr} {cd : ClassData} {sl : Array (Option Value)} (g0 : PySem.W.findIn K (.ref C) "__getattribute__" = some (some (.builtin "BaseException.__getattribute__"))) (g1 : PySem.W.findIn K (.ref C) "__getattr__" = some none) (gb : PySem.W.mroIn K C (.type "BaseException") = some true) (g2 : PySem.W.findIn K (.ref C) "__class__" = some (some (.builtin "object.__class__"))) (g3 : PySem.W.specialIn K (.builtin "object.__class__") "__get__" = some (some (.builtin "getset_descriptor.__get__")))
    (g4 : PySem.W.takesIn K (.builtin "object.__class__") = some true) (g5 : PySem.W.mroIn K C (.type "object") = some true) (lk : K.lookup C = some ⟨c0, d0, .cls cd, sl⟩) : ExcCls K C := ⟨g0, g1, gb, g2, g3, g4, g5, _, _, _, _, lk⟩
theorem us0 {C : List Value → Prop} (us : List Value) (h : us.length = 0) (k : C []) : C us := List.eq_nil_of_length_eq_zero h ▸ k
theorem uss {n : Nat} {C : List Value → Prop} (us : List Value) (h : us.length = n + 1) (k : ∀ a r, r.length = n → C (a :: r)) : C us := by
  cases us with
  | nil => exact absurd h.symm (Nat.succ_ne_zero n)
  | cons a r => exact k a r (Nat.succ.inj h)
@[elab_as_elim] theorem us1 {C : List Value → Prop} (us : List Value) (h : us.length = 1) (k : ∀ a0, C [a0]) : C us := uss us h fun a r h => us0 (C := fun r => C (a :: r)) r h (k a)
@[elab_as_elim] theorem us2 {C : List Value → Prop} (us : List Value) (h : us.length = 2) (k : ∀ a0 a1, C [a0, a1]) : C us := uss us h fun a r h => us1 (C := fun r => C (a :: r)) r h (k a)
@[elab_as_elim] theorem us3 {C : List Value → Prop} (us : List Value) (h : us.length = 3) (k : ∀ a0 a1 a2, C [a0, a1, a2]) : C us := uss us h fun a r h => us2 (C := fun r => C (a :: r)) r h (k a)
@[elab_as_elim] theorem us4 {C : List Value → Prop} (us : List Value) (h : us.length = 4) (k : ∀ a0 a1 a2 a3, C [a0, a1, a2, a3]) : C us := uss us h fun a r h => us3 (C := fun r => C (a :: r)) r h (k a)
@[elab_as_elim] theorem us5 {C : List Value → Prop} (us : List Value) (h : us.length = 5) (k : ∀ a0 a1 a2 a3 a4, C [a0, a1, a2, a3, a4]) : C us := uss us h fun a r h => us4 (C := fun r => C (a :: r)) r h (k a)
def AllOk (l : PySem.W.OpenLaw) (w : World) (K : PySem.W.Frag) (mg : Str → Option Value) (fa : Addr) : Prop := ∃ fd : FuncData, (∀ (s : Shared) (v : Value), BindsTo s fd ⟨[v], []⟩ [("_law_script", v)]) ∧ ∀ base : Heap, K.In base → base.Ns mainGlobals mg → FnOk l.prog w K mg base CX0 23 fa fd ["_law_script"] (spLaw K)
set_option maxHeartbeats 2000000 in
theorem all_mk {l : PySem.W.OpenLaw} {w : World} {K : PySem.W.Frag} {h : Heap} {mg : Str → Option Value} {fa CN CX C1 C2 C3 C4 C5 C6 C7 D1 D2 D3 D4 D5 : Addr} (X : K.In h) (G : h.Ns mainGlobals mg) (hfa : mg "law" = some (.ref fa))
    (z_len : PySem.W.nsIn K mainGlobals "len" = some none)
    (z_all : PySem.W.nsIn K mainGlobals "all" = some none)
    (z_isinstance : PySem.W.nsIn K mainGlobals "isinstance" = some none)
    (z_str : PySem.W.nsIn K mainGlobals "str" = some none)
    (z_tuple : PySem.W.nsIn K mainGlobals "tuple" = some none)
    (z_list : PySem.W.nsIn K mainGlobals "list" = some none)
    (z_range : PySem.W.nsIn K mainGlobals "range" = some none)
    (z_int : PySem.W.nsIn K mainGlobals "int" = some none)
    (z_bool : PySem.W.nsIn K mainGlobals "bool" = some none)
    (z_zip : PySem.W.nsIn K mainGlobals "zip" = some none)
    (z_ValueError : PySem.W.nsIn K mainGlobals "ValueError" = some none)
    (v1 : ∃ t, PySem.W.nsIn K mainGlobals "SMALL_LETTERS" = some (some (.str smallS t)))
    (v2 : ∃ t, PySem.W.nsIn K mainGlobals "GREAT_LETTERS" = some (some (.str greatS t)))
    (v3 : ∃ t, PySem.W.nsIn K mainGlobals "FIGURES" = some (some (.str figS t)))
    (v6 : ∃ t, PySem.W.nsIn K mainGlobals "ARROW" = some (some (.str "->" t)))
    (v4 : ∃ t, PySem.W.nsIn K mainGlobals "MOST_LETTERS" = some (some (.int 8 t)))
    (v7 : ∃ t, PySem.W.nsIn K mainGlobals "MOST_FIGURES" = some (some (.int 30 t)))
    (v8 : ∃ t, PySem.W.nsIn K mainGlobals "MOST_SIGNS" = some (some (.int 6000 t)))
    (v9 : ∃ t, PySem.W.nsIn K mainGlobals "MOST_BRACKETS" = some (some (.int 20 t)))
    (v5 : ∃ a, PySem.W.nsIn K mainGlobals "KEPT" = some (some (.ref a)) ∧ ∀ H, SqT K H a (keptL.map V.str))
    (qCN : PySem.W.nsIn K mainGlobals "NoText" = some (some (.ref CN)))
    (qCX : PySem.W.nsIn K mainGlobals "FaceError" = some (some (.ref CX)))
    (qC1 : PySem.W.nsIn K mainGlobals "Twice" = some (some (.ref C1)))
    (qC2 : PySem.W.nsIn K mainGlobals "NoName" = some (some (.ref C2)))
    (qC3 : PySem.W.nsIn K mainGlobals "NoCount" = some (some (.ref C3)))
    (qC4 : PySem.W.nsIn K mainGlobals "NoKind" = some (some (.ref C4)))
    (qC5 : PySem.W.nsIn K mainGlobals "NoFace" = some (some (.ref C5)))
    (qC6 : PySem.W.nsIn K mainGlobals "Stuck" = some (some (.ref C6)))
    (qC7 : PySem.W.nsIn K mainGlobals "TooGreat" = some (some (.ref C7)))
    (qD1 : PySem.W.nsIn K mainGlobals "TooLong" = some (some (.ref D1)))
    (qD2 : PySem.W.nsIn K mainGlobals "TooDeep" = some (some (.ref D2)))
    (qD3 : PySem.W.nsIn K mainGlobals "NoTie" = some (some (.ref D3)))
    (qD4 : PySem.W.nsIn K mainGlobals "NoRow" = some (some (.ref D4)))
    (qD5 : PySem.W.nsIn K mainGlobals "NoProgram" = some (some (.ref D5)))
    (xc : ExcCls K CN)
    (xi : ExcIs K "NoText" CN CX)
    (kN : PySem.W.kitOne K (.ref CN) (.ref CN) = some true)
    (kV : PySem.W.kitOne K (.ref CN) (.type "ValueError") = some true)
    (kA : PySem.W.kitAny K (.ref CN) ([C1, C2, C3, C4, C5, C6, C7].map Value.ref) = some false)
    (kB : PySem.W.kitAny K (.ref CN) ([D1, D2, D3, D4, D5].map Value.ref) = some false)
    (d23 : DefIs K "all_of" s_all_of)
    (d24 : DefIs K "is_small" s_is_small)
    (d25 : DefIs K "is_name" s_is_name)
    (d26 : DefIs K "is_great" s_is_great)
    (d27 : DefIs K "is_path" s_is_path)
    (d28 : DefIs K "is_variable" s_is_variable)
    (d29 : DefIs K "is_word" s_is_word)
    (d32 : DefIs K "is_number_text" s_is_nt)
    (d36 : DefIs K "pieces_of" s_pcs)
    (d37 : DefIs K "thing_of" s_tho)
    (d38 : DefIs K "begin_bracket" s_beg)
    (d39 : DefIs K "end_bracket" s_end)
    (d40 : DefIs K "things_of" s_ths)
    (d82 : DefIs K "read" s_read)
    (d84 : DefIs K "_law_next" s_next)
    (d85 : DefIs K "_law_drawn" s_drawn)
    (d86 : DefIs K "_law_kept" s_kept)
    (d87 : DefIs K "_law_letters" s_letters)
    (d88 : DefIs K "_law_small" s_small)
    (d89 : DefIs K "_law_great" s_great)
    (d90 : DefIs K "_law_path" s_path)
    (d91 : DefIs K "_law_variable" s_variable)
    (d92 : DefIs K "_law_number" s_number)
    (d93 : DefIs K "_law_atom" s_atom)
    (d94 : DefIs K "_law_thing" s_thing)
    (d95 : DefIs K "_law_things" s_things)
    (d96 : DefIs K "_law_pieces" s_pc)
    (d97 : DefIs K "_law_gap" s_gap)
    (d98 : DefIs K "_law_written" s_wr)
    (d99 : DefIs K "_law_same" s_same)
    (d100 : DefIs K "_law_figures" s_fig)
    (d101 : DefIs K "_law_bad_number" s_bnu)
    (d102 : DefIs K "_law_bad_name" s_bna)
    (d103 : DefIs K "_law_bad_word" s_bwo)
    (d104 : DefIs K "_law_refused" s_ref)
    (d105 : DefIs K "_law_spoilt" s_spo)
    (d106 : DefIs K "law" s_law) :
    AllOk l w K mg fa := by
  obtain ⟨f23, g23, a23, F23⟩ := d23
  obtain ⟨f24, g24, a24, F24⟩ := d24
  obtain ⟨f25, g25, a25, F25⟩ := d25
  obtain ⟨f26, g26, a26, F26⟩ := d26
  obtain ⟨f27, g27, a27, F27⟩ := d27
  obtain ⟨f28, g28, a28, F28⟩ := d28
  obtain ⟨f29, g29, a29, F29⟩ := d29
  obtain ⟨f32, g32, a32, F32⟩ := d32
  obtain ⟨f36, g36, a36, F36⟩ := d36
  obtain ⟨f37, g37, a37, F37⟩ := d37
  obtain ⟨f38, g38, a38, F38⟩ := d38
  obtain ⟨f39, g39, a39, F39⟩ := d39
  obtain ⟨f40, g40, a40, F40⟩ := d40
  obtain ⟨f82, g82, a82, F82⟩ := d82
  obtain ⟨f84, g84, a84, F84⟩ := d84
  obtain ⟨f85, g85, a85, F85⟩ := d85
  obtain ⟨f86, g86, a86, F86⟩ := d86
  obtain ⟨f87, g87, a87, F87⟩ := d87
  obtain ⟨f88, g88, a88, F88⟩ := d88
  obtain ⟨f89, g89, a89, F89⟩ := d89
  obtain ⟨f90, g90, a90, F90⟩ := d90
  obtain ⟨f91, g91, a91, F91⟩ := d91
  obtain ⟨f92, g92, a92, F92⟩ := d92
  obtain ⟨f93, g93, a93, F93⟩ := d93
  obtain ⟨f94, g94, a94, F94⟩ := d94
  obtain ⟨f95, g95, a95, F95⟩ := d95
  obtain ⟨f96, g96, a96, F96⟩ := d96
  obtain ⟨f97, g97, a97, F97⟩ := d97
  obtain ⟨f98, g98, a98, F98⟩ := d98
  obtain ⟨f99, g99, a99, F99⟩ := d99
  obtain ⟨f100, g100, a100, F100⟩ := d100
  obtain ⟨f101, g101, a101, F101⟩ := d101
  obtain ⟨f102, g102, a102, F102⟩ := d102
  obtain ⟨f103, g103, a103, F103⟩ := d103
  obtain ⟨f104, g104, a104, F104⟩ := d104
  obtain ⟨f105, g105, a105, F105⟩ := d105
  obtain ⟨f106, g106, a106, F106⟩ := d106
  have e := hfa.symm.trans (PySem.W.mg_of X G a106)
  cases e
  refine ⟨g106, law_binds F106 fun _ _ _ _ _ _ _ _ => .of_eq rfl, fun base XB GB => ?_⟩
  have m_len := PySem.W.mg_none_of X G z_len
  have m_all := PySem.W.mg_none_of X G z_all
  have m_isinstance := PySem.W.mg_none_of X G z_isinstance
  have m_str := PySem.W.mg_none_of X G z_str
  have m_tuple := PySem.W.mg_none_of X G z_tuple
  have m_list := PySem.W.mg_none_of X G z_list
  have m_range := PySem.W.mg_none_of X G z_range
  have m_int := PySem.W.mg_none_of X G z_int
  have m_bool := PySem.W.mg_none_of X G z_bool
  have m_zip := PySem.W.mg_none_of X G z_zip
  have m_ValueError := PySem.W.mg_none_of X G z_ValueError
  have b23 := F23.binds (ps := ["text", "signs"]) fun _ _ _ _ _ _ us hl => us2 us hl fun _ _ => rfl
  have b24 := F24.binds (ps := ["thing"]) fun _ _ _ _ _ _ us hl => us1 us hl fun _ => rfl
  have b25 := F25.binds (ps := ["thing"]) fun _ _ _ _ _ _ us hl => us1 us hl fun _ => rfl
  have b26 := F26.binds (ps := ["thing"]) fun _ _ _ _ _ _ us hl => us1 us hl fun _ => rfl
  have b27 := F27.binds (ps := ["thing"]) fun _ _ _ _ _ _ us hl => us1 us hl fun _ => rfl
  have b28 := F28.binds (ps := ["thing"]) fun _ _ _ _ _ _ us hl => us1 us hl fun _ => rfl
  have b29 := F29.binds (ps := ["thing"]) fun _ _ _ _ _ _ us hl => us1 us hl fun _ => rfl
  have b32 := F32.binds (ps := ["text"]) fun _ _ _ _ _ _ us hl => us1 us hl fun _ => rfl
  have b36 := F36.binds (ps := ["text"]) fun _ _ _ _ _ _ us hl => us1 us hl fun _ => rfl
  have b37 := F37.binds (ps := ["piece"]) fun _ _ _ _ _ _ us hl => us1 us hl fun _ => rfl
  have b38 := F38.binds (ps := ["levels"]) fun _ _ _ _ _ _ us hl => us1 us hl fun _ => rfl
  have b39 := F39.binds (ps := ["levels"]) fun _ _ _ _ _ _ us hl => us1 us hl fun _ => rfl
  have b40 := F40.binds (ps := ["text"]) fun _ _ _ _ _ _ us hl => us1 us hl fun _ => rfl
  have b82 := F82.binds (ps := ["text"]) fun _ _ _ _ _ _ us hl => us1 us hl fun _ => rfl
  have b84 := F84.binds (ps := ["_law_state", "_law_many"]) fun _ _ _ _ _ _ us hl => us2 us hl fun _ _ => rfl
  have b85 := F85.binds (ps := ["_law_script"]) fun _ _ _ _ _ _ us hl => us1 us hl fun _ => rfl
  have b86 := F86.binds (ps := []) fun _ _ _ _ _ _ us hl => by cases us with | nil => rfl | cons a r => cases hl
  have b87 := F87.binds (ps := ["_law_state", "_law_long"]) fun _ _ _ _ _ _ us hl => us2 us hl fun _ _ => rfl
  have b88 := F88.binds (ps := ["_law_state"]) fun _ _ _ _ _ _ us hl => us1 us hl fun _ => rfl
  have b89 := F89.binds (ps := ["_law_state"]) fun _ _ _ _ _ _ us hl => us1 us hl fun _ => rfl
  have b90 := F90.binds (ps := ["_law_state"]) fun _ _ _ _ _ _ us hl => us1 us hl fun _ => rfl
  have b91 := F91.binds (ps := ["_law_state"]) fun _ _ _ _ _ _ us hl => us1 us hl fun _ => rfl
  have b92 := F92.binds (ps := ["_law_state"]) fun _ _ _ _ _ _ us hl => us1 us hl fun _ => rfl
  have b93 := F93.binds (ps := ["_law_state"]) fun _ _ _ _ _ _ us hl => us1 us hl fun _ => rfl
  have b94 := F94.binds (ps := ["_law_state", "_law_deep", "_law_left"]) fun _ _ _ _ _ _ us hl => us3 us hl fun _ _ _ => rfl
  have b95 := F95.binds (ps := ["_law_state"]) fun _ _ _ _ _ _ us hl => us1 us hl fun _ => rfl
  have b96 := F96.binds (ps := ["_law_thing_here"]) fun _ _ _ _ _ _ us hl => us1 us hl fun _ => rfl
  have b97 := F97.binds (ps := ["_law_state", "_law_least"]) fun _ _ _ _ _ _ us hl => us2 us hl fun _ _ => rfl
  have b98 := F98.binds (ps := ["_law_state", "_law_pieces_here"]) fun _ _ _ _ _ _ us hl => us2 us hl fun _ _ => rfl
  have b99 := F99.binds (ps := ["_law_told", "_law_due"]) fun _ _ _ _ _ _ us hl => us2 us hl fun _ _ => rfl
  have b100 := F100.binds (ps := ["_law_state", "_law_many"]) fun _ _ _ _ _ _ us hl => us2 us hl fun _ _ => rfl
  have b101 := F101.binds (ps := ["_law_state"]) fun _ _ _ _ _ _ us hl => us1 us hl fun _ => rfl
  have b102 := F102.binds (ps := ["_law_state"]) fun _ _ _ _ _ _ us hl => us1 us hl fun _ => rfl
  have b103 := F103.binds (ps := ["_law_state"]) fun _ _ _ _ _ _ us hl => us1 us hl fun _ => rfl
  have b104 := F104.binds (ps := ["_law_text", "_law_by_read"]) fun _ _ _ _ _ _ us hl => us2 us hl fun _ _ => rfl
  have b105 := F105.binds (ps := ["_law_state", "_law_pieces_here"]) fun _ _ _ _ _ _ us hl => us2 us hl fun _ _ => rfl
  obtain ⟨OS, CO⟩ := xi base mg XB (PySem.W.mg_of X G qCN)
  have B : Gb K mg := ⟨m_len, m_all, m_isinstance, m_str, m_tuple, m_list, m_range, (by obtain ⟨t, h⟩ := v1; exact ⟨t, PySem.W.mg_of X G h⟩), (by obtain ⟨t, h⟩ := v2; exact ⟨t, PySem.W.mg_of X G h⟩), (by obtain ⟨t, h⟩ := v4; exact ⟨t, PySem.W.mg_of X G h⟩), (by obtain ⟨a, h, q⟩ := v5; exact ⟨a, PySem.W.mg_of X G h, q⟩)⟩
  have H23 : Has l.prog w K mg base 1 "all_of" ["text", "signs"] spAllOf := ⟨f23, g23, ok_all_of F23 B, b23, F23.kp, PySem.W.mg_of X G a23⟩
  have H24 : Has l.prog w K mg base 2 "is_small" ["thing"] (spT (onStr smallB)) := ⟨f24, g24, ok_is_small F24 B H23, b24, F24.kp, PySem.W.mg_of X G a24⟩
  have H25 : Has l.prog w K mg base 3 "is_name" ["thing"] (spT (onStr nameB)) := ⟨f25, g25, ok_is_name F25 B H24, b25, F25.kp, PySem.W.mg_of X G a25⟩
  have H26 : Has l.prog w K mg base 2 "is_great" ["thing"] (spT (onStr greatB)) := ⟨f26, g26, ok_is_great F26 B H23, b26, F26.kp, PySem.W.mg_of X G a26⟩
  have H27 : Has l.prog w K mg base 4 "is_path" ["thing"] (spT (onStr pathB)) := ⟨f27, g27, ok_is_path F27 B H25 H26, b27, F27.kp, PySem.W.mg_of X G a27⟩
  have H28 : Has l.prog w K mg base 3 "is_variable" ["thing"] (spT (onStr varB)) := ⟨f28, g28, ok_is_variable F28 B H24, b28, F28.kp, PySem.W.mg_of X G a28⟩
  have H29 : Has l.prog w K mg base 5 "is_word" ["thing"] (spS wordB) := ⟨f29, g29, ok_is_word F29 (by obtain ⟨t, h⟩ := v6; exact ⟨t, PySem.W.mg_of X G h⟩) H24 H26 H27 H28, b29, F29.kp, PySem.W.mg_of X G a29⟩
  have H32 : Has l.prog w K mg base 2 "is_number_text" ["text"] (spS ntB) := ⟨f32, g32, ok_is_nt F32 m_len (by obtain ⟨t, h⟩ := v3; exact ⟨t, PySem.W.mg_of X G h⟩) (by obtain ⟨t, h⟩ := v7; exact ⟨t, PySem.W.mg_of X G h⟩) H23, b32, F32.kp, PySem.W.mg_of X G a32⟩
  have H36 : HasT l.prog w K mg base 1 "pieces_of" ["text"] spPcs := ⟨f36, g36, ok_pcs F36, b36, F36.kp, PySem.W.mg_of X G a36⟩
  have H37 : HasX l.prog w K mg base 6 "thing_of" ["piece"] (spTho CN) := ⟨f37, g37, ok_tho F37 OS PySem.F.excBase_ValueError m_int H32 H29, b37, F37.kp, PySem.W.mg_of X G a37⟩
  have H38 : HasX l.prog w K mg base 1 "begin_bracket" ["levels"] (spBeg CN) := ⟨f38, g38, ok_beg F38 OS PySem.F.excBase_ValueError m_len (by obtain ⟨t, h⟩ := v9; exact ⟨t, PySem.W.mg_of X G h⟩), b38, F38.kp, PySem.W.mg_of X G a38⟩
  have H39 : HasX l.prog w K mg base 1 "end_bracket" ["levels"] (spEnd CN) := ⟨f39, g39, ok_end F39 OS PySem.F.excBase_ValueError m_len m_tuple, b39, F39.kp, PySem.W.mg_of X G a39⟩
  have H40 : HasX l.prog w K mg base 7 "things_of" ["text"] (spThs CN) := ⟨f40, g40, ok_ths F40 OS PySem.F.excBase_ValueError m_len m_tuple (by obtain ⟨t, h⟩ := v8; exact ⟨t, PySem.W.mg_of X G h⟩) H36 H38 H39 H37, b40, F40.kp, PySem.W.mg_of X G a40⟩
  have H82 : HasX l.prog w K mg base 8 "read" ["text"] (spRdN CN) := ⟨f82, g82, ok_read F82 H40, b82, F82.kp, PySem.W.mg_of X G a82⟩
  have H84 : Has l.prog w K mg base 1 "_law_next" ["_law_state", "_law_many"] spNext := ⟨f84, g84, ok_next F84 m_len, b84, F84.kp, PySem.W.mg_of X G a84⟩
  have H85 : Has l.prog w K mg base 1 "_law_drawn" ["_law_script"] (spDrawn K) := ⟨f85, g85, ok_drawn F85 m_len, b85, F85.kp, PySem.W.mg_of X G a85⟩
  have H86 : Has l.prog w K mg base 1 "_law_kept" [] spKept := ⟨f86, g86, ok_kept F86, b86, F86.kp, PySem.W.mg_of X G a86⟩
  have H87 : Has l.prog w K mg base 2 "_law_letters" ["_law_state", "_law_long"] spLetters := ⟨f87, g87, ok_letters F87 m_range H84, b87, F87.kp, PySem.W.mg_of X G a87⟩
  have H88 : Has l.prog w K mg base 3 "_law_small" ["_law_state"] (spStr fun z => nameB z = true) := ⟨f88, g88, ok_small F88 H84 H87 H86, b88, F88.kp, PySem.W.mg_of X G a88⟩
  have H89 : Has l.prog w K mg base 3 "_law_great" ["_law_state"] (spStr fun z => greatB z = true) := ⟨f89, g89, ok_great F89 H84 H87, b89, F89.kp, PySem.W.mg_of X G a89⟩
  have H90 : Has l.prog w K mg base 4 "_law_path" ["_law_state"] (spStr fun z => pathB z = true) := ⟨f90, g90, ok_path F90 H89 H88, b90, F90.kp, PySem.W.mg_of X G a90⟩
  have H91 : Has l.prog w K mg base 3 "_law_variable" ["_law_state"] (spStr fun z => varB z = true) := ⟨f91, g91, ok_variable F91 H84 H87, b91, F91.kp, PySem.W.mg_of X G a91⟩
  have H92 : Has l.prog w K mg base 2 "_law_number" ["_law_state"] spInt := ⟨f92, g92, ok_number F92 m_range H84, b92, F92.kp, PySem.W.mg_of X G a92⟩
  have H93 : Has l.prog w K mg base 5 "_law_atom" ["_law_state"] spAt := ⟨f93, g93, ok_atom F93 H84 H92 H88 H89 H90 H91 H86, b93, F93.kp, PySem.W.mg_of X G a93⟩
  have H94 : Has l.prog w K mg base 11 "_law_thing" ["_law_state", "_law_deep", "_law_left"] (spThg 4) := thing_all F94 m_range m_tuple H84 H93 b94 F94.kp (PySem.W.mg_of X G a94) 5
  have H95 : Has l.prog w K mg base 12 "_law_things" ["_law_state"] spThs2 := ⟨f95, g95, ok_things F95 m_range m_tuple H84 H93 H94, b95, F95.kp, PySem.W.mg_of X G a95⟩
  have H96 : Has l.prog w K mg base 22 "_law_pieces" ["_law_thing_here"] (spPc 21) := pc_all F96 m_isinstance m_tuple m_str b96 F96.kp (PySem.W.mg_of X G a96) 22
  have H97 : Has l.prog w K mg base 2 "_law_gap" ["_law_state", "_law_least"] spGap := ⟨f97, g97, ok_gap F97 m_range H84, b97, F97.kp, PySem.W.mg_of X G a97⟩
  have H98 : Has l.prog w K mg base 3 "_law_written" ["_law_state", "_law_pieces_here"] spWr := ⟨f98, g98, ok_wr F98 m_int H97, b98, F98.kp, PySem.W.mg_of X G a98⟩
  have H99 : Has l.prog w K mg base 22 "_law_same" ["_law_told", "_law_due"] (spSame 21) := same_all F99 b99 F99.kp (PySem.W.mg_of X G a99) m_isinstance m_tuple m_str m_int m_bool m_len m_all m_zip 22
  have H100 : Has l.prog w K mg base 2 "_law_figures" ["_law_state", "_law_many"] spFig := ⟨f100, g100, ok_fig F100 m_range H84, b100, F100.kp, PySem.W.mg_of X G a100⟩
  have H101 : Has l.prog w K mg base 3 "_law_bad_number" ["_law_state"] spBad := ⟨f101, g101, ok_bnu F101 H84 H100 H87, b101, F101.kp, PySem.W.mg_of X G a101⟩
  have H102 : Has l.prog w K mg base 4 "_law_bad_name" ["_law_state"] spBad := ⟨f102, g102, ok_bna F102 H84 H87 H86 H88 H89, b102, F102.kp, PySem.W.mg_of X G a102⟩
  have H103 : Has l.prog w K mg base 6 "_law_bad_word" ["_law_state"] spBad := ⟨f103, g103, ok_bwo F103 m_len m_str H84 H101 H102 H88 H93, b103, F103.kp, PySem.W.mg_of X G a103⟩
  have ZN : ClsN K mg CN CX C1 C2 C3 C4 C5 C6 C7 D1 D2 D3 D4 D5 := ⟨(PySem.W.mg_of X G qCX), (PySem.W.mg_of X G qCN), (PySem.W.mg_of X G qC1), (PySem.W.mg_of X G qC2), (PySem.W.mg_of X G qC3), (PySem.W.mg_of X G qC4), (PySem.W.mg_of X G qC5), (PySem.W.mg_of X G qC6), (PySem.W.mg_of X G qC7), (PySem.W.mg_of X G qD1), (PySem.W.mg_of X G qD2), (PySem.W.mg_of X G qD3), (PySem.W.mg_of X G qD4), (PySem.W.mg_of X G qD5), m_ValueError, m_isinstance, xc, kN, kV, kA, kB⟩
  have H104 : Has l.prog w K mg base 9 "_law_refused" ["_law_text", "_law_by_read"] spRef := ⟨f104, g104, ok_ref F104 ZN CO H82 H40, b104, F104.kp, PySem.W.mg_of X G a104⟩
  have H105 : Has l.prog w K mg base 7 "_law_spoilt" ["_law_state", "_law_pieces_here"] spSpo := ⟨f105, g105, ok_spo F105 m_len m_range H84 H103 H98, b105, F105.kp, PySem.W.mg_of X G a105⟩
  exact ok_law F106 m_range H85 H95 H96 H98 H99 H40 H105 H104
theorem walk {l : PySem.W.OpenLaw} {q : Program} {loose : List Str} {XP : (Str → Option Value) → Heap → Prop} {YP : World → Heap → Prop} {d : DefRec} {K : Params → PySem.W.Frag} (hn : l.most = some 63) (hdf : d.params.defaults = [])
    (hY : ∀ (w : World) (h : Heap), YP w h → (K w.params).In h)
    (F : ∀ (w : World) (mg : Str → Option Value) (fa : Addr) (h : Heap), (K w.params).In h → h.Ns mainGlobals mg → mg d.name = some (.ref fa) →
      ∃ fd : FuncData, (∀ (s : Shared) (u : Value), BindsTo s fd ⟨[u], []⟩ [("_law_script", u)]) ∧ ∀ base : Heap, (K w.params).In base → base.Ns mainGlobals mg → FnOk l.prog w (K w.params) mg base CX0 23 fa fd ["_law_script"] (spLaw (K w.params))) :
    PySem.W.WalkO q loose XP YP l.row.toRowW d [] (fun f vs => PySem.call f vs) :=
  L2.walk_of (n := 63) (k := 23) (x := "_law_script") (CX := fun _ => CX0) (sp := fun w => spLaw (K w.params)) hn (by decide) hdf ⟨rfl, by decide, by decide⟩ hY F (fun _ _ a ns hl _ hS => ⟨a, ns, rfl, hS, hl, fun _ => rfl⟩) fun _ _ _ _ _ z => z
end Fw
set_option Elab.async false
open PySem PySem.W PyProof.Rows
structure PySem.W.Fast:Prop where(tw2976756408927671046 tw16517361175009960923 tw2564281630766479495 tw11355391954224762596 tw16918842783151932813 tw16413152422258636731 tw141567944730111051 tw13527658732215189386 tw16826976738884640104 tw858065023710360865 tw1457179563426485789 tw6140533318049442928 tw17337272787273855016 tw2261418146851184904 tw9411574378210498887 tw16341800307166594230 tw5785041577141242278 tw1677305443444918382 tw9444853854648246993 tw11250963414762761931 tw3270789818822720633 tw15361728314669112247 tw10572145832165003116 tw5674941810053512123 tw11444877071191247505 tw708835148654162747 tw3386571444098308740 tw6274125704262153901 tw15381708757722573479 tw14838947851644285001 tw9042811934425889717 tw9414439771172910587 tw8399189199650550487 tw15609801650128038943 tw11748216800936461985 tw3868709790527251060 tw10937741639551052155 tw15370443676090718900 tw12580302199201958445 tw4166916101387697629 tw7266463798999594258 tw2030743222706731736 tw10640271349975648953 tw10991940010575918854 tw15563620627897781015 tw17056981977418166936 tw17427153103390190213 tw12534581439739280418 tw18001067128506674372 tw13280581446850591493 tw15295029069585060187 tw9131467622628634715 tw9480248496430638204 tw9507565492625639092 tw9359300676195673332 tw4850092350082458837 tw3946462634071641502 tw3738071246303334925 tw2671194121727838579 tw18366700426366007534 tw17613099252341618287 tw1536329579996807031 tw15351134223221179629 tw14477119680902892766 tw11399551918850952731 tw10018204573051820968 tw7830538782846670370 tw4333544391083829400 tw16808322247043353603 tw3425589468135273698 tw15307625397445528339 tw11747764841486153236 tw6896312908182990393 tw18438604587685579822 tw7973091099996199385 tw13037827598341223942 tw10726842543978972623 tw8544568157225074287 tw18016975246676927878 tw16738296121066564542 tw6783284179794995818 tw6571754226832118330 tw3679014828181340308 tw3281294946901265483 tw3136834332625718520 tw17872025867980486219 tw16903505202856758001 tw14274082304757906055 tw13023029108577950352 tw11820329353238531707 tw10598294658384092877 tw1052056171944424682 tw6855363576930532684 tw6447549982844119438 tw10510547572668876968 tw9156101762544840987 tw2658904216566178344 tw16832729998792114366 tw746156720685507248 tw8690524129029179431 tw15558747311391696824 tw11388514244349481303 tw10175240535277606399 tw14892744926343546959 tw4453385537630337781 tw9731847042538220169 tw9405256464371077366 tw9357225256329894217 tw9185284303481104619 tw8978411541629818016 tw8837712898255982345 tw8712699520533100294 tw8672760748585875993 tw8488164149402397875 tw8399836656247982782 tw8322751672601709144 tw8231457425667013343 tw7594709326416040718 tw7417521883252592442 tw7138265556897768931 tw7064158945675461204 tw6979444118767702990 tw6893513566161739266 tw6749043832389004861 tw6504944521062765941 tw6498596061144513911 tw6083130499878852508 tw5994242441113931467 tw4871342579383188827 tw4277477685441378176 tw4108451287200446998 tw3972788613637628200 tw3830196824692688221 tw374090717308186449 tw3727376942043894636 tw3407751929889880232 tw3398359099028961512 tw3098958711017718078 tw2428642041888905996 tw2328154466317303641 tw2178203784451177565 tw2117745683734925966 tw207225731990960794 tw1867207657545380949 tw18318577394501792236 tw18246788576821358955 tw18190439836388429379 tw17784570398479389035 tw17654134504779307459 tw17559814297215981374 tw17489620554469975985 tw17435141277376970412 tw17274433314007760017 tw17216464752887539752 tw17037327484204190041 tw16554880873554819217 tw16115301806677065058 tw15485114896330471704 tw15349202968002643640 tw1504489437799650816 tw14801390950262350307 tw14489224538152066266 tw14277138021072200107 tw1393458689186348505 tw13898124789622845773 tw1360427180412970294 tw13399345648705228209 tw12913385918636523646 tw12810873305079863445 tw12243338065421702930 tw12202727605608497748 tw12179023008420719007 tw3406734854436557259 tw17969294615433045658 tw13143114464933113512 tw12065985979330783329 tw10086434189461798204 tw7346570433258697839 tw10917184367555793973 tw4172500129774159009 tw9013022318943635981 tw6379882752208681470 tw6041100157092126189 tw14908175295474407542 tw4948428064927962579 tw14986857630151464036 tw12056732827980140557 tw10711508799486108363 tw10580328970548984548 tw5745554050857214917 tw8421520784887011025 tw6333253162362461319 tw3409172940984931692 tw10926743956162362410 tw4866652402670532675 tw7868363270231479500 tw3098277543002584787 tw2871629042422313298 tw1180094906605925301 tw10565040392272231129 tw896912339887814363 tw6910478327642286670 tw2573566486827045261 tw2481816802091118882 tw17412211632583039449 tw13000333631969105757 tw1005261598381941892 tw8708873486524980843 tw928296072529934954 tw9061735331777053753 tw8909657963606720694 tw874413114741090112 tw829582175711113681 tw8100558353651149408 tw7355899387889706392 tw7329728812783834467 tw6958763029973525092 tw6511810059852216081 tw3133502039256429861 tw2926003482316098392 tw2765074977002618802 tw18112942188708191435 tw1723234727484011990 tw12885448610230996225 tw12631548808564439376 tw12629117011529238848 tw12410154304216863030 tw12406702376121676617 tw11963756877849335124 tw10776070854079053680 tw10450739309444026813 tw361766818393308848 tw16329639503465717791 tw9725618506726018462 tw8345962810551943827 tw5914593029360452176 tw5066974509512737567 tw5046602705340945616 tw4670542539602574972 tw4649250626009716141 tw4038215499147186153 tw2900506697801509588 tw12802106952308724970 tw11559517433800288770 tw4862972901359368952 tw481549064335864673 tw2681670284758748730 tw16889670514314623334 tw12584549539103168350 tw12056084325133448493 tw4975192880546284898 tw9994833628799297519 tw9955473870018945414 tw9907674563985793387 tw9752007875550777908 tw9738266401495062451 tw959566261998101131 tw9547090112172935260 tw9472813701766470845 tw9413320167567509213 tw9352759245773479056 tw9313998008225684623 tw924440884579441500 tw9222119219202763239 tw8858632428706544729 tw8854136163689022156 tw8845978153966892609 tw8827863612456696343 tw8754655257849285167 tw8724311138014856313 tw8638323057218319438 tw8563944543184040392 tw8542774068584410846 tw8467520191952435939 tw8408762527107673833 tw8400284630801389346 tw8363861604195444677 tw8305480385115313936 tw8286745767906162614 tw7938713774748134915 tw7928837170084737708 tw7919355055030651410 tw7874248242276251502 tw7870935195236196577 tw781811514820329472 tw7716736417486252590 tw7680340671258592580 tw7672226939717445305 tw7667671561712945739 tw7558202427803627935 tw7049179688135775849 tw6946839787916512741 tw6858287117149864620 tw6611259995850576698 tw6525623652632310420 tw6400534076925553900 tw6334263518549304136 tw6259924128587627483 tw6244972404540873356 tw6099880679677514698 tw6073438390962317240 tw6047166267973151375 tw6005742028176601073 tw5984722305435032271 tw5813738228716367476 tw5698428259976520490 tw5658472431693738308 tw5427484302153591093 tw5382836142817008054 tw5370495442668546244 tw5343414321025411968 tw530352686217455440 tw5281407534078770523 tw5172173607094800779 tw5143022860814245593 tw4923725440577989794 tw4904782825586177155 tw4820361719509667989 tw4796264282112485671 tw4761060836205352288 tw4698256361386114614 tw4544624312182762606 tw4516083104105783611 tw4403358019460274096 tw4387996982148813175 tw4373699364183628351 tw4353581839332792775 tw4333777470385966016 tw4282858947606523163 tw4196394918088631584 tw4158453637103626283 tw4143443601468298502 tw4137571463867495220 tw4038106278746183926 tw3975219941669468750 tw3956887288117182747 tw3850903356056521260 tw3716285938950192816 tw3715007735063687540 tw3675741117310172795 tw3572078522086207581 tw3569266917670482024 tw3559750580981656129 tw3299560858567080010 tw3057896804734155524 tw3029355696120728291 tw3026443837567127747 tw2985483359314335886 tw2910997420670282365 tw2820349300069177150 tw2681590977551615033 tw2546547779770979002 tw2422869073483348306 tw2384526966516530073 tw236496399963153871 tw2270096791382495314 tw2174042152858569278 tw2161497889791117979 tw2004504266288548825 tw18410898008556873169 tw18326551755722408281 tw18271672947679331372 tw18153753588106681890 tw18053868577906920358 tw17909848286538190006 tw17781228858549577014 tw17547239506064241526 tw17505418944013222062 tw17400688097630974665 tw17382343603815002177 tw17330415003812618939 tw17320947748745471955 tw17223044603272333117 tw17209820483092355543 tw17188654230438563062 tw1717217539821388310 tw17144517076527885142 tw17030005632206010733 tw16978157345390306944 tw16911044668699180104 tw16882183457869961424 tw16607926189166306794 tw16607196676188102220 tw16529897684539805410 tw1650443850484813851 tw16493439626351723970 tw16409395239654383040 tw163987918860223753 tw16365797174580957270 tw16275579280600486823 tw1622222097627235027 tw1620521305210426840 tw16203043910431050088 tw16090732862037533983 tw1608520551445632798 tw16008781375859465260 tw15943712181684474816 tw15864226221017842311 tw15800489425572822169 tw15754613473186778560 tw15630018218446009365 tw15408840675693982715 tw15384611359919864679 tw15253119698837372389 tw15211455355159004062 tw15180325101101566812 tw14961754784857681142 tw1493661523183388479 tw14900535709476575854 tw1468060086015104345 tw14669722105885347704 tw14616120632334479713 tw14570567820867521366 tw14387907840244423824 tw14385857240514272657 tw14254503281532943802 tw14223085358530082524 tw1420168489481541958 tw14199174704272998758 tw14089050254446732691 tw13996952879441543379 tw13988725160522507290 tw139735114336584689 tw138362685852382167 tw13814570647500032201 tw1372710131751195376 tw13709728312000687625 tw13665859903753161902 tw13665271740981281271 tw13624627687467613626 tw13608439750431463130 tw13565457000708249144 tw13535720533654364275 tw13416267419832453990 tw1332719212422876098 tw1327128222834948419 tw13169019629989631805 tw13136375129646651759 tw1313117497621363960 tw13086442892127464561 tw13077304711267498041 tw13052393181919780311 tw12543013428700262869 tw12505815230765488875 tw12342419131140613443 tw12264633790989394613 tw1216862764033662265 tw11727429942631911923 tw11540239943167181211 tw11459774866176779154 tw1140740249164832711 tw11187064624344919637 tw11148113588487287087 tw11062430046194231052 tw10923386524206892501 tw10887666859680895762 tw10846543225446446200 tw10798724462901751055 tw10623449174267840006 tw10477701886924337942 tw10429334526055058731 tw10384433825199825172 tw10285928075775118951 tw10130022360167779561 tw10085263003860389227 tw10074026196865493802 tw10072014253555565274 tw981350311354036906 tw8074783089867924552 tw3639104337157822284 tw18104592100766751166 tw17202866598355528199 tw1437329240067265057 tw14216129827324601192 tw1245164036214944731 tw12191014373003681662 tw12055849621148035716 tw11161219565661725928 tw10154237134131392976 tw9956142369578582142 tw9932089440438407352 tw9916319138530012132 tw9886994705983468971 tw9805017781106398951 tw9733078017321616105 tw9709336922902118978 tw9703361859762901671 tw9545331439393633404 tw9480246678471465910 tw9381431494088557743 tw9117349354207803676 tw9084803700850888851 tw8955505177931178833 tw8652861648831098805 tw8617236540704006580 tw8521954650859173117 tw8463376323096652432 tw828414436918550500 tw8219355013416482205 tw8199272350055131872 tw8161290906938871306 tw8111138517792395086 tw8066064312107493194 tw7928596158391217957 tw7836820632790988189 tw7684854256628374984 tw7587925236694654069 tw7141689165778654962 tw7077120256027307416 tw7041637834321170834 tw7025765361190439656 tw6924540847743786170 tw6900934957241302884 tw6846872551367648190 tw6722002211785142702 tw6702228794836892611 tw6647593058312907430 tw6592043023081208471 tw6483103998457889203 tw6479204917813700949 tw6381073081434618795 tw6329017553127709237 tw6303627416737733431 tw6106508072988779234 tw606991550352515422 tw6018132902485895433 tw6005130569193753936 tw5938207494178151222 tw5921211841926641256 tw5723863179940886336 tw572171499000542703 tw533641532977259324 tw5321076253354089953 tw5287637031931866344 tw51607643635140397 tw5132450780772636891 tw5090012551849056396 tw5056524809195820006 tw4974162104449821655 tw485242918913981416 tw4563328073298433861 tw4539851345280256750 tw4536308375144101765 tw442049805673189327 tw434674680056232149 tw4281115609411509309 tw4204895599232140452 tw4011960384345364371 tw3983288847425256102 tw3982322919905417765 tw3933100612037782817 tw3893794120272157076 tw3719711322339396130 tw3712820566308047647 tw3711263605285227210 tw3553196913867336971 tw3244896609549186588 tw3102336789732758884 tw3067009197816063381 tw3040186458471550048 tw2970294923166392829 tw2876521752406009230 tw2866537201315921131 tw2760464428224143049 tw271219085490976236 tw2684590935903759453 tw2504044651620411943 tw2458730378651188196 tw2240130106261443962 tw2200194380975235351 tw2180227444206806387 tw1957260248441434429 tw194379553282838038 tw184604626621876798 tw18298887664469468770 tw18209344289362448903 tw18164906492851247281 tw18145000618432081603 tw18014775018687464091 tw17957871797690550392 tw17869817320331968639 tw1785314775170047138 tw17822277480987295940 tw1781699184981034909 tw17684167603167294728 tw17649586700689116076 tw17531391369011360858 tw1750968395282390311 tw17491055435589199894 tw17219628101794538836 tw17198702706584997809 tw17168000224247736138 tw16928641051107759095 tw16866821388521498014 tw16807704627074928742 tw16723341493295196622 tw16585053909106820685 tw16523740866831120116 tw16449254050820614656 tw16437424622481387561 tw16430171100012250495 tw16382025250185743275 tw1632694569286171337 tw16250526243676803995 tw15948177885188030168 tw15887290420050583628 tw15761594402477878299 tw15699613860102250367 tw15632399381068331607 tw15295485760344239513 tw15247085391775431467 tw15120828131527520743 tw1502514714728141405 tw14909606283326788773 tw14682831352519174146 tw14658481994000691191 tw14658156200791722070 tw14656244242416213249 tw14585701161653584649 tw14544078120693722239 tw14532571969876638921 tw14381456623505307314 tw14379248755777650740 tw14347007278313853228 tw1433089210803934494 tw14315704037305889259 tw14262526956967012413 tw14173571631532160792 tw14142707663590440318 tw13899971523609798588 tw13836270530365802270 tw13751822235718958842 tw13609740054916890733 tw13442500513683325462 tw1335294647054367190 tw13288854002488300429 tw13281480834131586088 tw13268658312590145320 tw13185458760350685251 tw13081622815283791756 tw1305940698720944975 tw13040260244006497399 tw12859689430375812758 tw12843231106950408139 tw12677092264707206209 tw1258252682671996924 tw1224537894839880355 tw1218797073598900627 tw12094886388133193282 tw11941066665624782967 tw1187303743584342585 tw11850258353347564532 tw11836424599663482705 tw11787516785337599544 tw11775930273378638658 tw11636693913727638996 tw11615000767580162799 tw11565240004930933936 tw11194509276104008407 tw10984155524118197645 tw10982756610851439227 tw10982188259463243376 tw10869692474444905160 tw10688804071078479299 tw10660857160656081729 tw10593439565956471366 tw10455142553049765418 tw10382407655928781851 tw10264890771964035957 tw1025188586135907602 tw10178098090510742694 tw10148290455615624470 tw10119369483682336509:True)
set_option maxRecDepth 100000 in
set_option maxHeartbeats 0 in
theorem PySem.Challenge.cw_facework_k02_no_texts_holds : PySem.Challenge.rw_facework_k02_no_texts.Holds := by
  w_on; o_law; k_head; (case hw => w_witness2)
  k_fill
  refine Fw.walk (l := PySem.Challenge.rw_facework_k02_no_texts) rfl rfl (fun w h Y => PySem.W.kIn_of Y) ?F
  case F =>
    intro w mg fa h KX G hmg
    refine' Fw.all_mk KX G hmg ?z_len ?z_all ?z_isinstance ?z_str ?z_tuple ?z_list ?z_range ?z_int ?z_bool ?z_zip ?z_ValueError ?v1 ?v2 ?v3 ?v6 ?v4 ?v7 ?v8 ?v9 ?v5 ?qCN ?qCX ?qC1 ?qC2 ?qC3 ?qC4 ?qC5 ?qC6 ?qC7 ?qD1 ?qD2 ?qD3 ?qD4 ?qD5 ?xc ?xi ?kN ?kV ?kA ?kB ?d23 ?d24 ?d25 ?d26 ?d27 ?d28 ?d29 ?d32 ?d36 ?d37 ?d38 ?d39 ?d40 ?d82 ?d84 ?d85 ?d86 ?d87 ?d88 ?d89 ?d90 ?d91 ?d92 ?d93 ?d94 ?d95 ?d96 ?d97 ?d98 ?d99 ?d100 ?d101 ?d102 ?d103 ?d104 ?d105 ?d106
    (case z_len | z_all | z_isinstance | z_str | z_tuple | z_list | z_range | z_int | z_bool | z_zip | z_ValueError | qCN | qCX | qC1 | qC2 | qC3 | qC4 | qC5 | qC6 | qC7 | qD1 | qD2 | qD3 | qD4 | qD5 => k_is)
    (case v1 | v2 | v3 | v6 => refine' Fw.val_str ?a ?e; (case a => k_is); (case e => decide +kernel))
    (case v4 | v7 | v8 | v9 => refine' Fw.val_int ?a ?e; (case a => k_is); (case e => decide +kernel))
    (case v5 => refine' Fw.val_tup ?a ?b ?c ?d ?e; (case a => k_is); (case b => k_is); (case c => rfl); (case d => decide +kernel); (case e => decide +kernel))
    (case xc => refine' Fw.exc_mk ?xc0 ?xc1 ?xcb ?xc2 ?xc3 ?xc4 ?xc5 ?xcl; (case xc0 => k_is); (case xc1 => k_is); (case xcb => k_is); (case xc2 => k_is); (case xc3 => k_is); (case xc4 => k_is); (case xc5 => k_is); (case xcl => k_is))
    (case xi => refine' Fw.excis_mk ?l1 ?n1 ?n2 ?t1 ?l2 ?b1 ?b2; (case l1 => k_is); (case n1 => kernel_rfl); (case n2 => k_is); (case t1 => kernel_rfl); (case l2 => k_is); (case b1 => decide +kernel); (case b2 => decide +kernel))
    (case kN | kV | kA | kB => kernel_rfl)
    (case d23 | d24 | d25 | d26 | d27 | d28 | d29 | d32 | d36 | d37 | d38 | d39 | d40 | d82 | d84 | d85 | d86 | d87 | d88 | d89 | d90 | d91 | d92 | d93 | d94 | d95 | d96 | d97 | d98 | d99 | d100 | d101 | d102 | d103 | d104 | d105 | d106 => refine' Fw.def_mk ?a ?l ?c ?k; (case a => k_is); (case l => k_is); (case c => k_is); (case k => k_is))
